/-
  The region of ScopeBinds that draws its order.
-/
import Derived.Test.YtaneibojiamjeaaGreatDoorUe
import Derived.Test.YtaneibojiamjeaaGreatDoorUI
namespace Go.Proofs.YtaneibojiamjeaaGreatDoor
open Go.RowKit
set_option maxRecDepth 100000

def ep0 : Oper := { dst := some 120, op := Op.load 43 (Operand.tmp 19), type := 43, pos := "law.go:115", after := #[], guard := none }
def ep1 : Oper := { dst := some 121, op := Op.call { callee := Callee.value (Operand.func 21), args := #[Operand.tmp 120], argTypes := #[43] }, type := 3, pos := "law.go:115", after := #[{ on := 0, ground := Ground.data }], guard := none }
def ep2 : Oper := { dst := some 122, op := Op.load 43 (Operand.tmp 11), type := 43, pos := "law.go:115", after := #[], guard := none }
def ep3 : Oper := { dst := some 123, op := Op.call { callee := Callee.value (Operand.func 21), args := #[Operand.tmp 122], argTypes := #[43] }, type := 3, pos := "law.go:115", after := #[{ on := 2, ground := Ground.data }, { on := 1, ground := Ground.chain }], guard := none }
def ep4 : Oper := { dst := some 124, op := Op.load 43 (Operand.tmp 12), type := 43, pos := "law.go:115", after := #[], guard := none }
def ep5 : Oper := { dst := some 125, op := Op.call { callee := Callee.value (Operand.func 21), args := #[Operand.tmp 124], argTypes := #[43] }, type := 3, pos := "law.go:115", after := #[{ on := 4, ground := Ground.data }, { on := 3, ground := Ground.chain }], guard := none }
def ep6 : Oper := { dst := some 126, op := Op.binOp BinOp.add 3 (Operand.tmp 123) (Operand.tmp 125) 3, type := 3, pos := "law.go:115", after := #[{ on := 3, ground := Ground.data }, { on := 5, ground := Ground.data }], guard := none }
def ep7 : Oper := { dst := some 127, op := Op.binOp BinOp.add 3 (Operand.tmp 126) (Operand.const (Value.int IntKind.i64 1)) 3, type := 3, pos := "law.go:115", after := #[{ on := 6, ground := Ground.data }], guard := none }
def ep8 : Oper := { dst := some 128, op := Op.binOp BinOp.neq 3 (Operand.tmp 121) (Operand.tmp 127) 3, type := 4, pos := "law.go:115", after := #[{ on := 1, ground := Ground.data }, { on := 7, ground := Ground.data }], guard := none }
def ep9 : Oper := { dst := some 129, op := Op.move (Operand.tmp 128), type := 4, pos := "law.go:115", after := #[{ on := 8, ground := Ground.data }, { on := 5, ground := Ground.chain }], guard := none }
def ep10 : Oper := { dst := some 130, op := Op.load 43 (Operand.tmp 19), type := 43, pos := "law.go:115", after := #[{ on := 9, ground := Ground.guard }], guard := some (9, false) }
def ep11 : Oper := { dst := some 131, op := Op.move (Operand.tmp 2), type := 9, pos := "law.go:115", after := #[{ on := 9, ground := Ground.guard }], guard := some (9, false) }
def ep12 : Oper := { dst := some 132, op := Op.call { callee := Callee.value (Operand.func 22), args := #[Operand.tmp 130, Operand.tmp 131], argTypes := #[43, 9] }, type := 3, pos := "law.go:115", after := #[{ on := 10, ground := Ground.data }, { on := 11, ground := Ground.data }, { on := 9, ground := Ground.chain }, { on := 9, ground := Ground.guard }], guard := some (9, false) }
def ep13 : Oper := { dst := some 133, op := Op.load 43 (Operand.tmp 11), type := 43, pos := "law.go:115", after := #[{ on := 9, ground := Ground.guard }], guard := some (9, false) }
def ep14 : Oper := { dst := some 134, op := Op.move (Operand.tmp 2), type := 9, pos := "law.go:115", after := #[{ on := 9, ground := Ground.guard }], guard := some (9, false) }
def ep15 : Oper := { dst := some 135, op := Op.call { callee := Callee.value (Operand.func 22), args := #[Operand.tmp 133, Operand.tmp 134], argTypes := #[43, 9] }, type := 3, pos := "law.go:115", after := #[{ on := 13, ground := Ground.data }, { on := 14, ground := Ground.data }, { on := 12, ground := Ground.chain }, { on := 9, ground := Ground.guard }], guard := some (9, false) }
def ep16 : Oper := { dst := some 136, op := Op.load 43 (Operand.tmp 12), type := 43, pos := "law.go:115", after := #[{ on := 9, ground := Ground.guard }], guard := some (9, false) }
def ep17 : Oper := { dst := some 137, op := Op.move (Operand.tmp 2), type := 9, pos := "law.go:115", after := #[{ on := 9, ground := Ground.guard }], guard := some (9, false) }
def ep18 : Oper := { dst := some 138, op := Op.call { callee := Callee.value (Operand.func 22), args := #[Operand.tmp 136, Operand.tmp 137], argTypes := #[43, 9] }, type := 3, pos := "law.go:115", after := #[{ on := 16, ground := Ground.data }, { on := 17, ground := Ground.data }, { on := 15, ground := Ground.chain }, { on := 9, ground := Ground.guard }], guard := some (9, false) }
def ep19 : Oper := { dst := some 139, op := Op.binOp BinOp.add 3 (Operand.tmp 135) (Operand.tmp 138) 3, type := 3, pos := "law.go:115", after := #[{ on := 15, ground := Ground.data }, { on := 18, ground := Ground.data }, { on := 9, ground := Ground.guard }], guard := some (9, false) }
def ep20 : Oper := { dst := some 140, op := Op.binOp BinOp.neq 3 (Operand.tmp 132) (Operand.tmp 139) 3, type := 4, pos := "law.go:115", after := #[{ on := 12, ground := Ground.data }, { on := 19, ground := Ground.data }, { on := 9, ground := Ground.guard }], guard := some (9, false) }
def ep21 : Oper := { dst := some 141, op := Op.pick (Operand.tmp 129) (Operand.const (Value.bool true)) (Operand.tmp 140), type := 4, pos := "law.go:115", after := #[{ on := 9, ground := Ground.data }, { on := 20, ground := Ground.data }], guard := none }
def epops : Array Oper := #[ep0, ep1, ep2, ep3, ep4, ep5, ep6, ep7, ep8, ep9, ep10, ep11, ep12, ep13, ep14, ep15, ep16, ep17, ep18, ep19, ep20, ep21]
def epsl (k : Nat) : Nat := 120 + k
def epV (u0 u1 u2 u3 u4 u5 u6 y0 y1 y2 y3 y4 y5 y6 z0 z1 z2 z3 z4 z5 z6 : Value) (nm : List UInt8) (Sa Sb Ua Ub : Int) : Nat → Value
  | 0 => .agg #[u0, u1, u2, u3, u4, u5, u6]
  | 1 => .int .i64 (Sa + Sb + 1)
  | 2 => .agg #[y0, y1, y2, y3, y4, y5, y6]
  | 3 => .int .i64 (Sa)
  | 4 => .agg #[z0, z1, z2, z3, z4, z5, z6]
  | 5 => .int .i64 (Sb)
  | 6 => .int .i64 (Sa + Sb)
  | 7 => .int .i64 (Sa + Sb + 1)
  | 8 => .bool false
  | 9 => .bool false
  | 10 => .agg #[u0, u1, u2, u3, u4, u5, u6]
  | 11 => .string (bs nm)
  | 12 => .int .i64 (Ua + Ub)
  | 13 => .agg #[y0, y1, y2, y3, y4, y5, y6]
  | 14 => .string (bs nm)
  | 15 => .int .i64 (Ua)
  | 16 => .agg #[z0, z1, z2, z3, z4, z5, z6]
  | 17 => .string (bs nm)
  | 18 => .int .i64 (Ub)
  | 19 => .int .i64 (Ua + Ub)
  | 20 => .bool false
  | _ => .bool false
section
variable {Q : Exit → Act → World → Prop} {X0 w0 : World} {a0 : Act}
set_option maxHeartbeats 4000000 in
theorem bind15 {b1 b2 b3 : Nat} {u0 u1 u2 u3 u4 u5 u6 y0 y1 y2 y3 y4 y5 y6 z0 z1 z2 z3 z4 z5 z6 : Value} {nm : List UInt8} {Sa Sb Ua Ub : Int} (hbd : 0 ≤ Sa ∧ Sa ≤ 1000000 ∧ 0 ≤ Sb ∧ Sb ≤ 1000000 ∧ 0 ≤ Ua ∧ Ua ≤ 1000000 ∧ 0 ≤ Ub ∧ Ub ≤ 1000000)
    (h1 : ∀ w, Below X0.heap.size X0 w → w.cell? ⟨b1, 0, none⟩ = some u0 ∧ w.cell? ⟨b1, 1, none⟩ = some u1 ∧ w.cell? ⟨b1, 2, none⟩ = some u2 ∧ w.cell? ⟨b1, 3, none⟩ = some u3 ∧ w.cell? ⟨b1, 4, none⟩ = some u4 ∧ w.cell? ⟨b1, 5, none⟩ = some u5 ∧ w.cell? ⟨b1, 6, none⟩ = some u6)
    (h2 : ∀ w, Below X0.heap.size X0 w → w.cell? ⟨b2, 0, none⟩ = some y0 ∧ w.cell? ⟨b2, 1, none⟩ = some y1 ∧ w.cell? ⟨b2, 2, none⟩ = some y2 ∧ w.cell? ⟨b2, 3, none⟩ = some y3 ∧ w.cell? ⟨b2, 4, none⟩ = some y4 ∧ w.cell? ⟨b2, 5, none⟩ = some y5 ∧ w.cell? ⟨b2, 6, none⟩ = some y6)
    (h3 : ∀ w, Below X0.heap.size X0 w → w.cell? ⟨b3, 0, none⟩ = some z0 ∧ w.cell? ⟨b3, 1, none⟩ = some z1 ∧ w.cell? ⟨b3, 2, none⟩ = some z2 ∧ w.cell? ⟨b3, 3, none⟩ = some z3 ∧ w.cell? ⟨b3, 4, none⟩ = some z4 ∧ w.cell? ⟨b3, 5, none⟩ = some z5 ∧ w.cell? ⟨b3, 6, none⟩ = some z6)
    (hs1 : ∀ w, Below X0.heap.size X0 w → Calls Tryz.prog 21 #[.agg #[u0, u1, u2, u3, u4, u5, u6]] w fun e w' => e = .returned (.int .i64 (Sa + Sb + 1)) ∧ Below w.heap.size w w')
    (hs2 : ∀ w, Below X0.heap.size X0 w → Calls Tryz.prog 21 #[.agg #[y0, y1, y2, y3, y4, y5, y6]] w fun e w' => e = .returned (.int .i64 (Sa)) ∧ Below w.heap.size w w')
    (hs3 : ∀ w, Below X0.heap.size X0 w → Calls Tryz.prog 21 #[.agg #[z0, z1, z2, z3, z4, z5, z6]] w fun e w' => e = .returned (.int .i64 (Sb)) ∧ Below w.heap.size w w')
    (hu1 : ∀ w, Below X0.heap.size X0 w → Calls Tryz.prog 22 #[.agg #[u0, u1, u2, u3, u4, u5, u6], .string (bs nm)] w fun e w' => e = .returned (.int .i64 (Ua + Ub)) ∧ Below w.heap.size w w')
    (hu2 : ∀ w, Below X0.heap.size X0 w → Calls Tryz.prog 22 #[.agg #[y0, y1, y2, y3, y4, y5, y6], .string (bs nm)] w fun e w' => e = .returned (.int .i64 (Ua)) ∧ Below w.heap.size w w')
    (hu3 : ∀ w, Below X0.heap.size X0 w → Calls Tryz.prog 22 #[.agg #[z0, z1, z2, z3, z4, z5, z6], .string (bs nm)] w fun e w' => e = .returned (.int .i64 (Ub)) ∧ Below w.heap.size w w') (hs : 242 ≤ a0.tmps.size)
    (e19 : Rv.ev a0 19 = .pointer (some ⟨b1, 0, none⟩))
    (e11 : Rv.ev a0 11 = .pointer (some ⟨b2, 0, none⟩))
    (e12 : Rv.ev a0 12 = .pointer (some ⟨b3, 0, none⟩))
    (e2 : Rv.ev a0 2 = .string (bs nm))
    (hw : Below X0.heap.size X0 w0)
    (hQ : ∀ a w, Rv.Off 22 epsl a0 a → Below X0.heap.size X0 w → (∀ j, j < 22 → Rv.ev a (epsl j) = (epV u0 u1 u2 u3 u4 u5 u6 y0 y1 y2 y3 y4 y5 y6 z0 z1 z2 z3 z4 z5 z6 nm Sa Sb Ua Ub) j) → Q .normal a w) :
    wpAny Tryz.prog .any epops Q 22 (Array.replicate 22 false) a0 w0 := by
  refine Rv.region (X0 := X0) 22 epsl (epV u0 u1 u2 u3 u4 u5 u6 y0 y1 y2 y3 y4 y5 y6 z0 z1 z2 z3 z4 z5 z6 nm Sa Sb Ua Ub) rfl (by decide) (by decide) (fun j hj => Nat.lt_of_lt_of_le ((by decide : ∀ j, j < 22 → epsl j < 242) j hj) hs) hw ?_ hQ
  intro i a W hi hO hW hd
  have hev : ∀ j, a.eval (.tmp j) = Rv.ev a j := fun _ => rfl
  have hcn : ∀ v, a.eval (.const v) = v := fun _ => rfl
  have hfn : ∀ v, a.eval (.func v) = .func (.func v) #[] #[] := fun _ => rfl
  have hsz : ∀ k, k < 242 → k < a.tmps.size := fun k hk => by rw [hO.size]; omega
  have g19 : Rv.ev a 19 = .pointer (some ⟨b1, 0, none⟩) := (hO.same 19 (by decide)).trans e19
  have g11 : Rv.ev a 11 = .pointer (some ⟨b2, 0, none⟩) := (hO.same 11 (by decide)).trans e11
  have g12 : Rv.ev a 12 = .pointer (some ⟨b3, 0, none⟩) := (hO.same 12 (by decide)).trans e12
  have g2 : Rv.ev a 2 = .string (bs nm) := (hO.same 2 (by decide)).trans e2
  obtain ⟨q1, q2, q3, q4, q5, q6, q7, q8⟩ := hbd
  have x1 : IntKind.i64.wrap (Sa + Sb) = Sa + Sb := by rw [IntKind.wrap_i64]; omega
  have x2 : IntKind.i64.wrap (Sa + Sb + 1) = Sa + Sb + 1 := by rw [IntKind.wrap_i64]; omega
  have x3 : IntKind.i64.wrap (Ua + Ub) = Ua + Ub := by rw [IntKind.wrap_i64]; omega
  obtain ⟨ka0, ka1, ka2, ka3, ka4, ka5, ka6⟩ := h1 W hW
  obtain ⟨kb0, kb1, kb2, kb3, kb4, kb5, kb6⟩ := h2 W hW
  obtain ⟨kc0, kc1, kc2, kc3, kc4, kc5, kc6⟩ := h3 W hW
  have hN : i = 0 ∨ i = 1 ∨ i = 2 ∨ i = 3 ∨ i = 4 ∨ i = 5 ∨ i = 6 ∨ i = 7 ∨ i = 8 ∨ i = 9 ∨ i = 10 ∨ i = 11 ∨ i = 12 ∨ i = 13 ∨ i = 14 ∨ i = 15 ∨ i = 16 ∨ i = 17 ∨ i = 18 ∨ i = 19 ∨ i = 20 ∨ i = 21 := by omega
  rcases hN with rfl | rfl | rfl | rfl | rfl | rfl | rfl | rfl | rfl | rfl | rfl | rfl | rfl | rfl | rfl | rfl | rfl | rfl | rfl | rfl | rfl | rfl
  · exact Rv.run (o := ep0) rfl rfl (Rv.want_free rfl) (by unfold ep0; simp only [execOp, hev, g19]; go_simp <;> rfl) hW
  · have d120 : Rv.ev a 120 = .agg #[u0, u1, u2, u3, u4, u5, u6] := hd 0 (by decide)
    refine Rv.call (o := ep1) (f := 21) (vs := #[.agg #[u0, u1, u2, u3, u4, u5, u6]]) rfl rfl (Rv.want_free rfl) ?_ hW (hs1 W hW)
    unfold ep1
    simp only [execOp, resolve, invoke, Sem.run_bind, List.map_toArray, List.map_cons, List.map_nil, hev, hfn, d120]
    go_simp
  · exact Rv.run (o := ep2) rfl rfl (Rv.want_free rfl) (by unfold ep2; simp only [execOp, hev, g11]; go_simp <;> rfl) hW
  · have d122 : Rv.ev a 122 = .agg #[y0, y1, y2, y3, y4, y5, y6] := hd 2 (by decide)
    refine Rv.call (o := ep3) (f := 21) (vs := #[.agg #[y0, y1, y2, y3, y4, y5, y6]]) rfl rfl (Rv.want_free rfl) ?_ hW (hs2 W hW)
    unfold ep3
    simp only [execOp, resolve, invoke, Sem.run_bind, List.map_toArray, List.map_cons, List.map_nil, hev, hfn, d122]
    go_simp
  · exact Rv.run (o := ep4) rfl rfl (Rv.want_free rfl) (by unfold ep4; simp only [execOp, hev, g12]; go_simp <;> rfl) hW
  · have d124 : Rv.ev a 124 = .agg #[z0, z1, z2, z3, z4, z5, z6] := hd 4 (by decide)
    refine Rv.call (o := ep5) (f := 21) (vs := #[.agg #[z0, z1, z2, z3, z4, z5, z6]]) rfl rfl (Rv.want_free rfl) ?_ hW (hs3 W hW)
    unfold ep5
    simp only [execOp, resolve, invoke, Sem.run_bind, List.map_toArray, List.map_cons, List.map_nil, hev, hfn, d124]
    go_simp
  · have d123 : Rv.ev a 123 = .int .i64 (Sa) := hd 3 (by decide)
    have d125 : Rv.ev a 125 = .int .i64 (Sb) := hd 5 (by decide)
    exact Rv.run (o := ep6) rfl rfl (Rv.want_free rfl) (by unfold ep6; simp only [execOp, hev, d123, d125]; go_simp <;> rfl) hW
  · have d126 : Rv.ev a 126 = .int .i64 (Sa + Sb) := hd 6 (by decide)
    exact Rv.run (o := ep7) rfl rfl (Rv.want_free rfl) (by unfold ep7; simp only [execOp, hev, hcn, d126]; go_simp <;> rfl) hW
  · have d121 : Rv.ev a 121 = .int .i64 (Sa + Sb + 1) := hd 1 (by decide)
    have d127 : Rv.ev a 127 = .int .i64 (Sa + Sb + 1) := hd 7 (by decide)
    exact Rv.run (o := ep8) rfl rfl (Rv.want_free rfl) (by unfold ep8; simp only [execOp, hev, d121, d127]; go_simp <;> rfl) hW
  · have d128 : Rv.ev a 128 = .bool false := hd 8 (by decide)
    exact Rv.run (o := ep9) rfl rfl (Rv.want_free rfl) (by unfold ep9; simp only [execOp, hev, d128]; rfl) hW
  · have dg : Rv.ev a 129 = .bool false := hd 9 (by decide)
    exact Rv.run (o := ep10) rfl rfl (by rw [Rv.want_if (o' := ep9) rfl rfl rfl (hsz 129 (by decide)) dg]; first | rfl | simp) (by unfold ep10; simp only [execOp, hev, g19]; go_simp <;> rfl) hW
  · have dg : Rv.ev a 129 = .bool false := hd 9 (by decide)
    exact Rv.run (o := ep11) rfl rfl (by rw [Rv.want_if (o' := ep9) rfl rfl rfl (hsz 129 (by decide)) dg]; first | rfl | simp) (by unfold ep11; simp only [execOp, hev, g2]; rfl) hW
  · have d130 : Rv.ev a 130 = .agg #[u0, u1, u2, u3, u4, u5, u6] := hd 10 (by decide)
    have d131 : Rv.ev a 131 = .string (bs nm) := hd 11 (by decide)
    have dg : Rv.ev a 129 = .bool false := hd 9 (by decide)
    refine Rv.call (o := ep12) (f := 22) (vs := #[.agg #[u0, u1, u2, u3, u4, u5, u6], .string (bs nm)]) rfl rfl (by rw [Rv.want_if (o' := ep9) rfl rfl rfl (hsz 129 (by decide)) dg]; first | rfl | simp) ?_ hW (hu1 W hW)
    unfold ep12
    simp only [execOp, resolve, invoke, Sem.run_bind, List.map_toArray, List.map_cons, List.map_nil, hev, hfn, d130, d131]
    go_simp
  · have dg : Rv.ev a 129 = .bool false := hd 9 (by decide)
    exact Rv.run (o := ep13) rfl rfl (by rw [Rv.want_if (o' := ep9) rfl rfl rfl (hsz 129 (by decide)) dg]; first | rfl | simp) (by unfold ep13; simp only [execOp, hev, g11]; go_simp <;> rfl) hW
  · have dg : Rv.ev a 129 = .bool false := hd 9 (by decide)
    exact Rv.run (o := ep14) rfl rfl (by rw [Rv.want_if (o' := ep9) rfl rfl rfl (hsz 129 (by decide)) dg]; first | rfl | simp) (by unfold ep14; simp only [execOp, hev, g2]; rfl) hW
  · have d133 : Rv.ev a 133 = .agg #[y0, y1, y2, y3, y4, y5, y6] := hd 13 (by decide)
    have d134 : Rv.ev a 134 = .string (bs nm) := hd 14 (by decide)
    have dg : Rv.ev a 129 = .bool false := hd 9 (by decide)
    refine Rv.call (o := ep15) (f := 22) (vs := #[.agg #[y0, y1, y2, y3, y4, y5, y6], .string (bs nm)]) rfl rfl (by rw [Rv.want_if (o' := ep9) rfl rfl rfl (hsz 129 (by decide)) dg]; first | rfl | simp) ?_ hW (hu2 W hW)
    unfold ep15
    simp only [execOp, resolve, invoke, Sem.run_bind, List.map_toArray, List.map_cons, List.map_nil, hev, hfn, d133, d134]
    go_simp
  · have dg : Rv.ev a 129 = .bool false := hd 9 (by decide)
    exact Rv.run (o := ep16) rfl rfl (by rw [Rv.want_if (o' := ep9) rfl rfl rfl (hsz 129 (by decide)) dg]; first | rfl | simp) (by unfold ep16; simp only [execOp, hev, g12]; go_simp <;> rfl) hW
  · have dg : Rv.ev a 129 = .bool false := hd 9 (by decide)
    exact Rv.run (o := ep17) rfl rfl (by rw [Rv.want_if (o' := ep9) rfl rfl rfl (hsz 129 (by decide)) dg]; first | rfl | simp) (by unfold ep17; simp only [execOp, hev, g2]; rfl) hW
  · have d136 : Rv.ev a 136 = .agg #[z0, z1, z2, z3, z4, z5, z6] := hd 16 (by decide)
    have d137 : Rv.ev a 137 = .string (bs nm) := hd 17 (by decide)
    have dg : Rv.ev a 129 = .bool false := hd 9 (by decide)
    refine Rv.call (o := ep18) (f := 22) (vs := #[.agg #[z0, z1, z2, z3, z4, z5, z6], .string (bs nm)]) rfl rfl (by rw [Rv.want_if (o' := ep9) rfl rfl rfl (hsz 129 (by decide)) dg]; first | rfl | simp) ?_ hW (hu3 W hW)
    unfold ep18
    simp only [execOp, resolve, invoke, Sem.run_bind, List.map_toArray, List.map_cons, List.map_nil, hev, hfn, d136, d137]
    go_simp
  · have d135 : Rv.ev a 135 = .int .i64 (Ua) := hd 15 (by decide)
    have d138 : Rv.ev a 138 = .int .i64 (Ub) := hd 18 (by decide)
    have dg : Rv.ev a 129 = .bool false := hd 9 (by decide)
    exact Rv.run (o := ep19) rfl rfl (by rw [Rv.want_if (o' := ep9) rfl rfl rfl (hsz 129 (by decide)) dg]; first | rfl | simp) (by unfold ep19; simp only [execOp, hev, d135, d138]; go_simp <;> rfl) hW
  · have d132 : Rv.ev a 132 = .int .i64 (Ua + Ub) := hd 12 (by decide)
    have d139 : Rv.ev a 139 = .int .i64 (Ua + Ub) := hd 19 (by decide)
    have dg : Rv.ev a 129 = .bool false := hd 9 (by decide)
    exact Rv.run (o := ep20) rfl rfl (by rw [Rv.want_if (o' := ep9) rfl rfl rfl (hsz 129 (by decide)) dg]; first | rfl | simp) (by unfold ep20; simp only [execOp, hev, d132, d139]; go_simp <;> rfl) hW
  · have d129 : Rv.ev a 129 = .bool false := hd 9 (by decide)
    have d140 : Rv.ev a 140 = .bool false := hd 20 (by decide)
    exact Rv.run (o := ep21) rfl rfl (Rv.want_free rfl) (by unfold ep21; simp only [execOp, hev, hcn, d129, d140]; go_simp <;> rfl) hW
end
theorem lit242 (f : Nat → Value) : ((List.range 242).map f).toArray = #[f 0, f 1, f 2, f 3, f 4, f 5, f 6, f 7, f 8, f 9, f 10, f 11, f 12, f 13, f 14, f 15, f 16, f 17, f 18, f 19, f 20, f 21, f 22, f 23, f 24, f 25, f 26, f 27, f 28, f 29, f 30, f 31, f 32, f 33, f 34, f 35, f 36, f 37, f 38, f 39, f 40, f 41, f 42, f 43, f 44, f 45, f 46, f 47, f 48, f 49, f 50, f 51, f 52, f 53, f 54, f 55, f 56, f 57, f 58, f 59, f 60, f 61, f 62, f 63, f 64, f 65, f 66, f 67, f 68, f 69, f 70, f 71, f 72, f 73, f 74, f 75, f 76, f 77, f 78, f 79, f 80, f 81, f 82, f 83, f 84, f 85, f 86, f 87, f 88, f 89, f 90, f 91, f 92, f 93, f 94, f 95, f 96, f 97, f 98, f 99, f 100, f 101, f 102, f 103, f 104, f 105, f 106, f 107, f 108, f 109, f 110, f 111, f 112, f 113, f 114, f 115, f 116, f 117, f 118, f 119, f 120, f 121, f 122, f 123, f 124, f 125, f 126, f 127, f 128, f 129, f 130, f 131, f 132, f 133, f 134, f 135, f 136, f 137, f 138, f 139, f 140, f 141, f 142, f 143, f 144, f 145, f 146, f 147, f 148, f 149, f 150, f 151, f 152, f 153, f 154, f 155, f 156, f 157, f 158, f 159, f 160, f 161, f 162, f 163, f 164, f 165, f 166, f 167, f 168, f 169, f 170, f 171, f 172, f 173, f 174, f 175, f 176, f 177, f 178, f 179, f 180, f 181, f 182, f 183, f 184, f 185, f 186, f 187, f 188, f 189, f 190, f 191, f 192, f 193, f 194, f 195, f 196, f 197, f 198, f 199, f 200, f 201, f 202, f 203, f 204, f 205, f 206, f 207, f 208, f 209, f 210, f 211, f 212, f 213, f 214, f 215, f 216, f 217, f 218, f 219, f 220, f 221, f 222, f 223, f 224, f 225, f 226, f 227, f 228, f 229, f 230, f 231, f 232, f 233, f 234, f 235, f 236, f 237, f 238, f 239, f 240, f 241] := rfl
theorem tmps242 (a : Act) (h : a.tmps.size = 242) : a.tmps = ((List.range 242).map (Rv.ev a)).toArray := by
  apply Array.ext
  · simp [h]
  · intro i h1 h2
    simp [Rv.ev, Act.eval, h1]
set_option maxHeartbeats 16000000 in
theorem offP {x0 x1 x2 x3 x4 x5 x6 x7 x8 x9 x10 x11 x12 x13 x14 x15 x16 x17 x18 x19 x20 x21 x22 x23 x24 x25 x26 x27 x28 x29 x30 x31 x32 x33 x34 x35 x36 x37 x38 x39 x40 x41 x42 x43 x44 x45 x46 x47 x48 x49 x50 x51 x52 x53 x54 x55 x56 x57 x58 x59 x60 x61 x62 x63 x64 x65 x66 x67 x68 x69 x70 x71 x72 x73 x74 x75 x76 x77 x78 x79 x80 x81 x82 x83 x84 x85 x86 x87 x88 x89 x90 x91 x92 x93 x94 x95 x96 x97 x98 x99 x100 x101 x102 x103 x104 x105 x106 x107 x108 x109 x110 x111 x112 x113 x114 x115 x116 x117 x118 x119 x120 x121 x122 x123 x124 x125 x126 x127 x128 x129 x130 x131 x132 x133 x134 x135 x136 x137 x138 x139 x140 x141 x142 x143 x144 x145 x146 x147 x148 x149 x150 x151 x152 x153 x154 x155 x156 x157 x158 x159 x160 x161 x162 x163 x164 x165 x166 x167 x168 x169 x170 x171 x172 x173 x174 x175 x176 x177 x178 x179 x180 x181 x182 x183 x184 x185 x186 x187 x188 x189 x190 x191 x192 x193 x194 x195 x196 x197 x198 x199 x200 x201 x202 x203 x204 x205 x206 x207 x208 x209 x210 x211 x212 x213 x214 x215 x216 x217 x218 x219 x220 x221 x222 x223 x224 x225 x226 x227 x228 x229 x230 x231 x232 x233 x234 x235 x236 x237 x238 x239 x240 x241 : Value} {a : Act} (h : Rv.Off 22 epsl { tmps := #[x0, x1, x2, x3, x4, x5, x6, x7, x8, x9, x10, x11, x12, x13, x14, x15, x16, x17, x18, x19, x20, x21, x22, x23, x24, x25, x26, x27, x28, x29, x30, x31, x32, x33, x34, x35, x36, x37, x38, x39, x40, x41, x42, x43, x44, x45, x46, x47, x48, x49, x50, x51, x52, x53, x54, x55, x56, x57, x58, x59, x60, x61, x62, x63, x64, x65, x66, x67, x68, x69, x70, x71, x72, x73, x74, x75, x76, x77, x78, x79, x80, x81, x82, x83, x84, x85, x86, x87, x88, x89, x90, x91, x92, x93, x94, x95, x96, x97, x98, x99, x100, x101, x102, x103, x104, x105, x106, x107, x108, x109, x110, x111, x112, x113, x114, x115, x116, x117, x118, x119, x120, x121, x122, x123, x124, x125, x126, x127, x128, x129, x130, x131, x132, x133, x134, x135, x136, x137, x138, x139, x140, x141, x142, x143, x144, x145, x146, x147, x148, x149, x150, x151, x152, x153, x154, x155, x156, x157, x158, x159, x160, x161, x162, x163, x164, x165, x166, x167, x168, x169, x170, x171, x172, x173, x174, x175, x176, x177, x178, x179, x180, x181, x182, x183, x184, x185, x186, x187, x188, x189, x190, x191, x192, x193, x194, x195, x196, x197, x198, x199, x200, x201, x202, x203, x204, x205, x206, x207, x208, x209, x210, x211, x212, x213, x214, x215, x216, x217, x218, x219, x220, x221, x222, x223, x224, x225, x226, x227, x228, x229, x230, x231, x232, x233, x234, x235, x236, x237, x238, x239, x240, x241], defers := [] } a) : ∃ y120 y121 y122 y123 y124 y125 y126 y127 y128 y129 y130 y131 y132 y133 y134 y135 y136 y137 y138 y139 y140 y141, (Rv.ev a 120 = y120 ∧ Rv.ev a 121 = y121 ∧ Rv.ev a 122 = y122 ∧ Rv.ev a 123 = y123 ∧ Rv.ev a 124 = y124 ∧ Rv.ev a 125 = y125 ∧ Rv.ev a 126 = y126 ∧ Rv.ev a 127 = y127 ∧ Rv.ev a 128 = y128 ∧ Rv.ev a 129 = y129 ∧ Rv.ev a 130 = y130 ∧ Rv.ev a 131 = y131 ∧ Rv.ev a 132 = y132 ∧ Rv.ev a 133 = y133 ∧ Rv.ev a 134 = y134 ∧ Rv.ev a 135 = y135 ∧ Rv.ev a 136 = y136 ∧ Rv.ev a 137 = y137 ∧ Rv.ev a 138 = y138 ∧ Rv.ev a 139 = y139 ∧ Rv.ev a 140 = y140 ∧ Rv.ev a 141 = y141) ∧ a = { tmps := #[x0, x1, x2, x3, x4, x5, x6, x7, x8, x9, x10, x11, x12, x13, x14, x15, x16, x17, x18, x19, x20, x21, x22, x23, x24, x25, x26, x27, x28, x29, x30, x31, x32, x33, x34, x35, x36, x37, x38, x39, x40, x41, x42, x43, x44, x45, x46, x47, x48, x49, x50, x51, x52, x53, x54, x55, x56, x57, x58, x59, x60, x61, x62, x63, x64, x65, x66, x67, x68, x69, x70, x71, x72, x73, x74, x75, x76, x77, x78, x79, x80, x81, x82, x83, x84, x85, x86, x87, x88, x89, x90, x91, x92, x93, x94, x95, x96, x97, x98, x99, x100, x101, x102, x103, x104, x105, x106, x107, x108, x109, x110, x111, x112, x113, x114, x115, x116, x117, x118, x119, y120, y121, y122, y123, y124, y125, y126, y127, y128, y129, y130, y131, y132, y133, y134, y135, y136, y137, y138, y139, y140, y141, x142, x143, x144, x145, x146, x147, x148, x149, x150, x151, x152, x153, x154, x155, x156, x157, x158, x159, x160, x161, x162, x163, x164, x165, x166, x167, x168, x169, x170, x171, x172, x173, x174, x175, x176, x177, x178, x179, x180, x181, x182, x183, x184, x185, x186, x187, x188, x189, x190, x191, x192, x193, x194, x195, x196, x197, x198, x199, x200, x201, x202, x203, x204, x205, x206, x207, x208, x209, x210, x211, x212, x213, x214, x215, x216, x217, x218, x219, x220, x221, x222, x223, x224, x225, x226, x227, x228, x229, x230, x231, x232, x233, x234, x235, x236, x237, x238, x239, x240, x241], defers := [] } := by
  refine ⟨Rv.ev a 120, Rv.ev a 121, Rv.ev a 122, Rv.ev a 123, Rv.ev a 124, Rv.ev a 125, Rv.ev a 126, Rv.ev a 127, Rv.ev a 128, Rv.ev a 129, Rv.ev a 130, Rv.ev a 131, Rv.ev a 132, Rv.ev a 133, Rv.ev a 134, Rv.ev a 135, Rv.ev a 136, Rv.ev a 137, Rv.ev a 138, Rv.ev a 139, Rv.ev a 140, Rv.ev a 141, ⟨rfl, rfl, rfl, rfl, rfl, rfl, rfl, rfl, rfl, rfl, rfl, rfl, rfl, rfl, rfl, rfl, rfl, rfl, rfl, rfl, rfl, rfl⟩, ?_⟩
  have e := tmps242 a h.size
  rw [lit242] at e
  have h0 : Rv.ev a 0 = x0 := h.same 0 (by decide)
  have h1 : Rv.ev a 1 = x1 := h.same 1 (by decide)
  have h2 : Rv.ev a 2 = x2 := h.same 2 (by decide)
  have h3 : Rv.ev a 3 = x3 := h.same 3 (by decide)
  have h4 : Rv.ev a 4 = x4 := h.same 4 (by decide)
  have h5 : Rv.ev a 5 = x5 := h.same 5 (by decide)
  have h6 : Rv.ev a 6 = x6 := h.same 6 (by decide)
  have h7 : Rv.ev a 7 = x7 := h.same 7 (by decide)
  have h8 : Rv.ev a 8 = x8 := h.same 8 (by decide)
  have h9 : Rv.ev a 9 = x9 := h.same 9 (by decide)
  have h10 : Rv.ev a 10 = x10 := h.same 10 (by decide)
  have h11 : Rv.ev a 11 = x11 := h.same 11 (by decide)
  have h12 : Rv.ev a 12 = x12 := h.same 12 (by decide)
  have h13 : Rv.ev a 13 = x13 := h.same 13 (by decide)
  have h14 : Rv.ev a 14 = x14 := h.same 14 (by decide)
  have h15 : Rv.ev a 15 = x15 := h.same 15 (by decide)
  have h16 : Rv.ev a 16 = x16 := h.same 16 (by decide)
  have h17 : Rv.ev a 17 = x17 := h.same 17 (by decide)
  have h18 : Rv.ev a 18 = x18 := h.same 18 (by decide)
  have h19 : Rv.ev a 19 = x19 := h.same 19 (by decide)
  have h20 : Rv.ev a 20 = x20 := h.same 20 (by decide)
  have h21 : Rv.ev a 21 = x21 := h.same 21 (by decide)
  have h22 : Rv.ev a 22 = x22 := h.same 22 (by decide)
  have h23 : Rv.ev a 23 = x23 := h.same 23 (by decide)
  have h24 : Rv.ev a 24 = x24 := h.same 24 (by decide)
  have h25 : Rv.ev a 25 = x25 := h.same 25 (by decide)
  have h26 : Rv.ev a 26 = x26 := h.same 26 (by decide)
  have h27 : Rv.ev a 27 = x27 := h.same 27 (by decide)
  have h28 : Rv.ev a 28 = x28 := h.same 28 (by decide)
  have h29 : Rv.ev a 29 = x29 := h.same 29 (by decide)
  have h30 : Rv.ev a 30 = x30 := h.same 30 (by decide)
  have h31 : Rv.ev a 31 = x31 := h.same 31 (by decide)
  have h32 : Rv.ev a 32 = x32 := h.same 32 (by decide)
  have h33 : Rv.ev a 33 = x33 := h.same 33 (by decide)
  have h34 : Rv.ev a 34 = x34 := h.same 34 (by decide)
  have h35 : Rv.ev a 35 = x35 := h.same 35 (by decide)
  have h36 : Rv.ev a 36 = x36 := h.same 36 (by decide)
  have h37 : Rv.ev a 37 = x37 := h.same 37 (by decide)
  have h38 : Rv.ev a 38 = x38 := h.same 38 (by decide)
  have h39 : Rv.ev a 39 = x39 := h.same 39 (by decide)
  have h40 : Rv.ev a 40 = x40 := h.same 40 (by decide)
  have h41 : Rv.ev a 41 = x41 := h.same 41 (by decide)
  have h42 : Rv.ev a 42 = x42 := h.same 42 (by decide)
  have h43 : Rv.ev a 43 = x43 := h.same 43 (by decide)
  have h44 : Rv.ev a 44 = x44 := h.same 44 (by decide)
  have h45 : Rv.ev a 45 = x45 := h.same 45 (by decide)
  have h46 : Rv.ev a 46 = x46 := h.same 46 (by decide)
  have h47 : Rv.ev a 47 = x47 := h.same 47 (by decide)
  have h48 : Rv.ev a 48 = x48 := h.same 48 (by decide)
  have h49 : Rv.ev a 49 = x49 := h.same 49 (by decide)
  have h50 : Rv.ev a 50 = x50 := h.same 50 (by decide)
  have h51 : Rv.ev a 51 = x51 := h.same 51 (by decide)
  have h52 : Rv.ev a 52 = x52 := h.same 52 (by decide)
  have h53 : Rv.ev a 53 = x53 := h.same 53 (by decide)
  have h54 : Rv.ev a 54 = x54 := h.same 54 (by decide)
  have h55 : Rv.ev a 55 = x55 := h.same 55 (by decide)
  have h56 : Rv.ev a 56 = x56 := h.same 56 (by decide)
  have h57 : Rv.ev a 57 = x57 := h.same 57 (by decide)
  have h58 : Rv.ev a 58 = x58 := h.same 58 (by decide)
  have h59 : Rv.ev a 59 = x59 := h.same 59 (by decide)
  have h60 : Rv.ev a 60 = x60 := h.same 60 (by decide)
  have h61 : Rv.ev a 61 = x61 := h.same 61 (by decide)
  have h62 : Rv.ev a 62 = x62 := h.same 62 (by decide)
  have h63 : Rv.ev a 63 = x63 := h.same 63 (by decide)
  have h64 : Rv.ev a 64 = x64 := h.same 64 (by decide)
  have h65 : Rv.ev a 65 = x65 := h.same 65 (by decide)
  have h66 : Rv.ev a 66 = x66 := h.same 66 (by decide)
  have h67 : Rv.ev a 67 = x67 := h.same 67 (by decide)
  have h68 : Rv.ev a 68 = x68 := h.same 68 (by decide)
  have h69 : Rv.ev a 69 = x69 := h.same 69 (by decide)
  have h70 : Rv.ev a 70 = x70 := h.same 70 (by decide)
  have h71 : Rv.ev a 71 = x71 := h.same 71 (by decide)
  have h72 : Rv.ev a 72 = x72 := h.same 72 (by decide)
  have h73 : Rv.ev a 73 = x73 := h.same 73 (by decide)
  have h74 : Rv.ev a 74 = x74 := h.same 74 (by decide)
  have h75 : Rv.ev a 75 = x75 := h.same 75 (by decide)
  have h76 : Rv.ev a 76 = x76 := h.same 76 (by decide)
  have h77 : Rv.ev a 77 = x77 := h.same 77 (by decide)
  have h78 : Rv.ev a 78 = x78 := h.same 78 (by decide)
  have h79 : Rv.ev a 79 = x79 := h.same 79 (by decide)
  have h80 : Rv.ev a 80 = x80 := h.same 80 (by decide)
  have h81 : Rv.ev a 81 = x81 := h.same 81 (by decide)
  have h82 : Rv.ev a 82 = x82 := h.same 82 (by decide)
  have h83 : Rv.ev a 83 = x83 := h.same 83 (by decide)
  have h84 : Rv.ev a 84 = x84 := h.same 84 (by decide)
  have h85 : Rv.ev a 85 = x85 := h.same 85 (by decide)
  have h86 : Rv.ev a 86 = x86 := h.same 86 (by decide)
  have h87 : Rv.ev a 87 = x87 := h.same 87 (by decide)
  have h88 : Rv.ev a 88 = x88 := h.same 88 (by decide)
  have h89 : Rv.ev a 89 = x89 := h.same 89 (by decide)
  have h90 : Rv.ev a 90 = x90 := h.same 90 (by decide)
  have h91 : Rv.ev a 91 = x91 := h.same 91 (by decide)
  have h92 : Rv.ev a 92 = x92 := h.same 92 (by decide)
  have h93 : Rv.ev a 93 = x93 := h.same 93 (by decide)
  have h94 : Rv.ev a 94 = x94 := h.same 94 (by decide)
  have h95 : Rv.ev a 95 = x95 := h.same 95 (by decide)
  have h96 : Rv.ev a 96 = x96 := h.same 96 (by decide)
  have h97 : Rv.ev a 97 = x97 := h.same 97 (by decide)
  have h98 : Rv.ev a 98 = x98 := h.same 98 (by decide)
  have h99 : Rv.ev a 99 = x99 := h.same 99 (by decide)
  have h100 : Rv.ev a 100 = x100 := h.same 100 (by decide)
  have h101 : Rv.ev a 101 = x101 := h.same 101 (by decide)
  have h102 : Rv.ev a 102 = x102 := h.same 102 (by decide)
  have h103 : Rv.ev a 103 = x103 := h.same 103 (by decide)
  have h104 : Rv.ev a 104 = x104 := h.same 104 (by decide)
  have h105 : Rv.ev a 105 = x105 := h.same 105 (by decide)
  have h106 : Rv.ev a 106 = x106 := h.same 106 (by decide)
  have h107 : Rv.ev a 107 = x107 := h.same 107 (by decide)
  have h108 : Rv.ev a 108 = x108 := h.same 108 (by decide)
  have h109 : Rv.ev a 109 = x109 := h.same 109 (by decide)
  have h110 : Rv.ev a 110 = x110 := h.same 110 (by decide)
  have h111 : Rv.ev a 111 = x111 := h.same 111 (by decide)
  have h112 : Rv.ev a 112 = x112 := h.same 112 (by decide)
  have h113 : Rv.ev a 113 = x113 := h.same 113 (by decide)
  have h114 : Rv.ev a 114 = x114 := h.same 114 (by decide)
  have h115 : Rv.ev a 115 = x115 := h.same 115 (by decide)
  have h116 : Rv.ev a 116 = x116 := h.same 116 (by decide)
  have h117 : Rv.ev a 117 = x117 := h.same 117 (by decide)
  have h118 : Rv.ev a 118 = x118 := h.same 118 (by decide)
  have h119 : Rv.ev a 119 = x119 := h.same 119 (by decide)
  have h142 : Rv.ev a 142 = x142 := h.same 142 (by decide)
  have h143 : Rv.ev a 143 = x143 := h.same 143 (by decide)
  have h144 : Rv.ev a 144 = x144 := h.same 144 (by decide)
  have h145 : Rv.ev a 145 = x145 := h.same 145 (by decide)
  have h146 : Rv.ev a 146 = x146 := h.same 146 (by decide)
  have h147 : Rv.ev a 147 = x147 := h.same 147 (by decide)
  have h148 : Rv.ev a 148 = x148 := h.same 148 (by decide)
  have h149 : Rv.ev a 149 = x149 := h.same 149 (by decide)
  have h150 : Rv.ev a 150 = x150 := h.same 150 (by decide)
  have h151 : Rv.ev a 151 = x151 := h.same 151 (by decide)
  have h152 : Rv.ev a 152 = x152 := h.same 152 (by decide)
  have h153 : Rv.ev a 153 = x153 := h.same 153 (by decide)
  have h154 : Rv.ev a 154 = x154 := h.same 154 (by decide)
  have h155 : Rv.ev a 155 = x155 := h.same 155 (by decide)
  have h156 : Rv.ev a 156 = x156 := h.same 156 (by decide)
  have h157 : Rv.ev a 157 = x157 := h.same 157 (by decide)
  have h158 : Rv.ev a 158 = x158 := h.same 158 (by decide)
  have h159 : Rv.ev a 159 = x159 := h.same 159 (by decide)
  have h160 : Rv.ev a 160 = x160 := h.same 160 (by decide)
  have h161 : Rv.ev a 161 = x161 := h.same 161 (by decide)
  have h162 : Rv.ev a 162 = x162 := h.same 162 (by decide)
  have h163 : Rv.ev a 163 = x163 := h.same 163 (by decide)
  have h164 : Rv.ev a 164 = x164 := h.same 164 (by decide)
  have h165 : Rv.ev a 165 = x165 := h.same 165 (by decide)
  have h166 : Rv.ev a 166 = x166 := h.same 166 (by decide)
  have h167 : Rv.ev a 167 = x167 := h.same 167 (by decide)
  have h168 : Rv.ev a 168 = x168 := h.same 168 (by decide)
  have h169 : Rv.ev a 169 = x169 := h.same 169 (by decide)
  have h170 : Rv.ev a 170 = x170 := h.same 170 (by decide)
  have h171 : Rv.ev a 171 = x171 := h.same 171 (by decide)
  have h172 : Rv.ev a 172 = x172 := h.same 172 (by decide)
  have h173 : Rv.ev a 173 = x173 := h.same 173 (by decide)
  have h174 : Rv.ev a 174 = x174 := h.same 174 (by decide)
  have h175 : Rv.ev a 175 = x175 := h.same 175 (by decide)
  have h176 : Rv.ev a 176 = x176 := h.same 176 (by decide)
  have h177 : Rv.ev a 177 = x177 := h.same 177 (by decide)
  have h178 : Rv.ev a 178 = x178 := h.same 178 (by decide)
  have h179 : Rv.ev a 179 = x179 := h.same 179 (by decide)
  have h180 : Rv.ev a 180 = x180 := h.same 180 (by decide)
  have h181 : Rv.ev a 181 = x181 := h.same 181 (by decide)
  have h182 : Rv.ev a 182 = x182 := h.same 182 (by decide)
  have h183 : Rv.ev a 183 = x183 := h.same 183 (by decide)
  have h184 : Rv.ev a 184 = x184 := h.same 184 (by decide)
  have h185 : Rv.ev a 185 = x185 := h.same 185 (by decide)
  have h186 : Rv.ev a 186 = x186 := h.same 186 (by decide)
  have h187 : Rv.ev a 187 = x187 := h.same 187 (by decide)
  have h188 : Rv.ev a 188 = x188 := h.same 188 (by decide)
  have h189 : Rv.ev a 189 = x189 := h.same 189 (by decide)
  have h190 : Rv.ev a 190 = x190 := h.same 190 (by decide)
  have h191 : Rv.ev a 191 = x191 := h.same 191 (by decide)
  have h192 : Rv.ev a 192 = x192 := h.same 192 (by decide)
  have h193 : Rv.ev a 193 = x193 := h.same 193 (by decide)
  have h194 : Rv.ev a 194 = x194 := h.same 194 (by decide)
  have h195 : Rv.ev a 195 = x195 := h.same 195 (by decide)
  have h196 : Rv.ev a 196 = x196 := h.same 196 (by decide)
  have h197 : Rv.ev a 197 = x197 := h.same 197 (by decide)
  have h198 : Rv.ev a 198 = x198 := h.same 198 (by decide)
  have h199 : Rv.ev a 199 = x199 := h.same 199 (by decide)
  have h200 : Rv.ev a 200 = x200 := h.same 200 (by decide)
  have h201 : Rv.ev a 201 = x201 := h.same 201 (by decide)
  have h202 : Rv.ev a 202 = x202 := h.same 202 (by decide)
  have h203 : Rv.ev a 203 = x203 := h.same 203 (by decide)
  have h204 : Rv.ev a 204 = x204 := h.same 204 (by decide)
  have h205 : Rv.ev a 205 = x205 := h.same 205 (by decide)
  have h206 : Rv.ev a 206 = x206 := h.same 206 (by decide)
  have h207 : Rv.ev a 207 = x207 := h.same 207 (by decide)
  have h208 : Rv.ev a 208 = x208 := h.same 208 (by decide)
  have h209 : Rv.ev a 209 = x209 := h.same 209 (by decide)
  have h210 : Rv.ev a 210 = x210 := h.same 210 (by decide)
  have h211 : Rv.ev a 211 = x211 := h.same 211 (by decide)
  have h212 : Rv.ev a 212 = x212 := h.same 212 (by decide)
  have h213 : Rv.ev a 213 = x213 := h.same 213 (by decide)
  have h214 : Rv.ev a 214 = x214 := h.same 214 (by decide)
  have h215 : Rv.ev a 215 = x215 := h.same 215 (by decide)
  have h216 : Rv.ev a 216 = x216 := h.same 216 (by decide)
  have h217 : Rv.ev a 217 = x217 := h.same 217 (by decide)
  have h218 : Rv.ev a 218 = x218 := h.same 218 (by decide)
  have h219 : Rv.ev a 219 = x219 := h.same 219 (by decide)
  have h220 : Rv.ev a 220 = x220 := h.same 220 (by decide)
  have h221 : Rv.ev a 221 = x221 := h.same 221 (by decide)
  have h222 : Rv.ev a 222 = x222 := h.same 222 (by decide)
  have h223 : Rv.ev a 223 = x223 := h.same 223 (by decide)
  have h224 : Rv.ev a 224 = x224 := h.same 224 (by decide)
  have h225 : Rv.ev a 225 = x225 := h.same 225 (by decide)
  have h226 : Rv.ev a 226 = x226 := h.same 226 (by decide)
  have h227 : Rv.ev a 227 = x227 := h.same 227 (by decide)
  have h228 : Rv.ev a 228 = x228 := h.same 228 (by decide)
  have h229 : Rv.ev a 229 = x229 := h.same 229 (by decide)
  have h230 : Rv.ev a 230 = x230 := h.same 230 (by decide)
  have h231 : Rv.ev a 231 = x231 := h.same 231 (by decide)
  have h232 : Rv.ev a 232 = x232 := h.same 232 (by decide)
  have h233 : Rv.ev a 233 = x233 := h.same 233 (by decide)
  have h234 : Rv.ev a 234 = x234 := h.same 234 (by decide)
  have h235 : Rv.ev a 235 = x235 := h.same 235 (by decide)
  have h236 : Rv.ev a 236 = x236 := h.same 236 (by decide)
  have h237 : Rv.ev a 237 = x237 := h.same 237 (by decide)
  have h238 : Rv.ev a 238 = x238 := h.same 238 (by decide)
  have h239 : Rv.ev a 239 = x239 := h.same 239 (by decide)
  have h240 : Rv.ev a 240 = x240 := h.same 240 (by decide)
  have h241 : Rv.ev a 241 = x241 := h.same 241 (by decide)
  rw [h0, h1, h2, h3, h4, h5, h6, h7, h8, h9, h10, h11, h12, h13, h14, h15, h16, h17, h18, h19, h20, h21, h22, h23, h24, h25, h26, h27, h28, h29, h30, h31, h32, h33, h34, h35, h36, h37, h38, h39, h40, h41, h42, h43, h44, h45, h46, h47, h48, h49, h50, h51, h52, h53, h54, h55, h56, h57, h58, h59, h60, h61, h62, h63, h64, h65, h66, h67, h68, h69, h70, h71, h72, h73, h74, h75, h76, h77, h78, h79, h80, h81, h82, h83, h84, h85, h86, h87, h88, h89, h90, h91, h92, h93, h94, h95, h96, h97, h98, h99, h100, h101, h102, h103, h104, h105, h106, h107, h108, h109, h110, h111, h112, h113, h114, h115, h116, h117, h118, h119, h142, h143, h144, h145, h146, h147, h148, h149, h150, h151, h152, h153, h154, h155, h156, h157, h158, h159, h160, h161, h162, h163, h164, h165, h166, h167, h168, h169, h170, h171, h172, h173, h174, h175, h176, h177, h178, h179, h180, h181, h182, h183, h184, h185, h186, h187, h188, h189, h190, h191, h192, h193, h194, h195, h196, h197, h198, h199, h200, h201, h202, h203, h204, h205, h206, h207, h208, h209, h210, h211, h212, h213, h214, h215, h216, h217, h218, h219, h220, h221, h222, h223, h224, h225, h226, h227, h228, h229, h230, h231, h232, h233, h234, h235, h236, h237, h238, h239, h240, h241] at e
  have hd : a.defers = [] := h.def_
  cases a
  simp only at e hd
  rw [hd]
  exact congrArg (fun t => ({ tmps := t, defers := [] } : Act)) e
end Go.Proofs.YtaneibojiamjeaaGreatDoor
