/-
  The regions of the document's Cell that draw their order.
-/
import Derived.Test.YtdbnlgjpfkfnjaaRo
namespace Go.Proofs.Ytdbnlgjpfkfnjaa
open Go.RowKit
set_option maxRecDepth 100000

def ci0 : Oper := { dst := some 55, op := Op.fieldAddr 55 (Operand.tmp 3) 1, type := 0, pos := "ref.go:48", after := #[], guard := none }
def ci1 : Oper := { dst := some 56, op := Op.load 53 (Operand.tmp 55), type := 53, pos := "ref.go:48", after := #[{ on := 0, ground := Ground.data }], guard := none }
def ci2 : Oper := { dst := some 57, op := Op.call { callee := Callee.value (Operand.func 41), args := #[Operand.tmp 56], argTypes := #[53] }, type := 4, pos := "ref.go:48", after := #[{ on := 1, ground := Ground.data }], guard := none }
def ci3 : Oper := { dst := some 58, op := Op.move (Operand.tmp 57), type := 4, pos := "ref.go:48", after := #[{ on := 2, ground := Ground.data }, { on := 2, ground := Ground.chain }], guard := none }
def ci4 : Oper := { dst := some 59, op := Op.fieldAddr 55 (Operand.tmp 3) 2, type := 0, pos := "ref.go:48", after := #[{ on := 3, ground := Ground.guard }], guard := some (3, true) }
def ci5 : Oper := { dst := some 60, op := Op.load 4 (Operand.tmp 59), type := 4, pos := "ref.go:48", after := #[{ on := 4, ground := Ground.data }, { on := 3, ground := Ground.guard }], guard := some (3, true) }
def ci6 : Oper := { dst := some 61, op := Op.unOp UnOp.not 4 (Operand.tmp 60), type := 4, pos := "ref.go:48", after := #[{ on := 5, ground := Ground.data }, { on := 3, ground := Ground.guard }], guard := some (3, true) }
def ci7 : Oper := { dst := some 62, op := Op.pick (Operand.tmp 58) (Operand.tmp 61) (Operand.const (Value.bool false)), type := 4, pos := "ref.go:48", after := #[{ on := 3, ground := Ground.data }, { on := 6, ground := Ground.data }], guard := none }
def ci8 : Oper := { dst := some 63, op := Op.move (Operand.tmp 62), type := 4, pos := "ref.go:48", after := #[{ on := 7, ground := Ground.data }, { on := 3, ground := Ground.chain }], guard := none }
def ci9 : Oper := { dst := some 64, op := Op.fieldAddr 55 (Operand.tmp 3) 3, type := 0, pos := "ref.go:48", after := #[{ on := 8, ground := Ground.guard }], guard := some (8, true) }
def ci10 : Oper := { dst := some 65, op := Op.load 3 (Operand.tmp 64), type := 3, pos := "ref.go:48", after := #[{ on := 9, ground := Ground.data }, { on := 8, ground := Ground.guard }], guard := some (8, true) }
def ci11 : Oper := { dst := some 66, op := Op.binOp BinOp.geq 3 (Operand.tmp 65) (Operand.const (Value.int IntKind.i64 0)) 3, type := 4, pos := "ref.go:48", after := #[{ on := 10, ground := Ground.data }, { on := 8, ground := Ground.guard }], guard := some (8, true) }
def ci12 : Oper := { dst := some 67, op := Op.pick (Operand.tmp 63) (Operand.tmp 66) (Operand.const (Value.bool false)), type := 4, pos := "ref.go:48", after := #[{ on := 8, ground := Ground.data }, { on := 11, ground := Ground.data }], guard := none }
def ci13 : Oper := { dst := some 68, op := Op.move (Operand.tmp 67), type := 4, pos := "ref.go:48", after := #[{ on := 12, ground := Ground.data }, { on := 8, ground := Ground.chain }], guard := none }
def ci14 : Oper := { dst := some 69, op := Op.fieldAddr 55 (Operand.tmp 3) 3, type := 0, pos := "ref.go:48", after := #[{ on := 13, ground := Ground.guard }], guard := some (13, true) }
def ci15 : Oper := { dst := some 70, op := Op.load 3 (Operand.tmp 69), type := 3, pos := "ref.go:48", after := #[{ on := 14, ground := Ground.data }, { on := 13, ground := Ground.guard }], guard := some (13, true) }
def ci16 : Oper := { dst := some 71, op := Op.move (Operand.tmp 0), type := 26, pos := "ref.go:48", after := #[{ on := 13, ground := Ground.guard }], guard := some (13, true) }
def ci17 : Oper := { dst := some 72, op := Op.nilCheck (Operand.tmp 71), type := 0, pos := "ref.go:48", after := #[{ on := 16, ground := Ground.data }, { on := 13, ground := Ground.guard }], guard := some (13, true) }
def ci18 : Oper := { dst := some 73, op := Op.fieldAddr 30 (Operand.tmp 72) 1, type := 0, pos := "ref.go:48", after := #[{ on := 17, ground := Ground.data }, { on := 13, ground := Ground.guard }], guard := some (13, true) }
def ci19 : Oper := { dst := some 74, op := Op.load 28 (Operand.tmp 73), type := 28, pos := "ref.go:48", after := #[{ on := 18, ground := Ground.data }, { on := 13, ground := Ground.guard }], guard := some (13, true) }
def ci20 : Oper := { dst := some 75, op := Op.call { callee := Callee.builtin Builtin.len, args := #[Operand.tmp 74], argTypes := #[28] }, type := 3, pos := "ref.go:48", after := #[{ on := 19, ground := Ground.data }, { on := 13, ground := Ground.guard }], guard := some (13, true) }
def ci21 : Oper := { dst := some 76, op := Op.binOp BinOp.lss 3 (Operand.tmp 70) (Operand.tmp 75) 3, type := 4, pos := "ref.go:48", after := #[{ on := 15, ground := Ground.data }, { on := 20, ground := Ground.data }, { on := 13, ground := Ground.guard }], guard := some (13, true) }
def ci22 : Oper := { dst := some 77, op := Op.pick (Operand.tmp 68) (Operand.tmp 76) (Operand.const (Value.bool false)), type := 4, pos := "ref.go:48", after := #[{ on := 13, ground := Ground.data }, { on := 21, ground := Ground.data }], guard := none }
def ci23 : Oper := { dst := some 4, op := Op.assign (Operand.tmp 77), type := 4, pos := "ref.go:48", after := #[{ on := 22, ground := Ground.data }, { on := 13, ground := Ground.chain }, { on := 0, ground := Ground.phase }, { on := 1, ground := Ground.phase }, { on := 2, ground := Ground.phase }, { on := 3, ground := Ground.phase }, { on := 4, ground := Ground.phase }, { on := 5, ground := Ground.phase }, { on := 6, ground := Ground.phase }, { on := 7, ground := Ground.phase }, { on := 8, ground := Ground.phase }, { on := 9, ground := Ground.phase }, { on := 10, ground := Ground.phase }, { on := 11, ground := Ground.phase }, { on := 12, ground := Ground.phase }, { on := 13, ground := Ground.phase }, { on := 14, ground := Ground.phase }, { on := 15, ground := Ground.phase }, { on := 16, ground := Ground.phase }, { on := 17, ground := Ground.phase }, { on := 18, ground := Ground.phase }, { on := 19, ground := Ground.phase }, { on := 20, ground := Ground.phase }, { on := 21, ground := Ground.phase }, { on := 22, ground := Ground.phase }], guard := none }
def ciops : Array Oper := #[ci0, ci1, ci2, ci3, ci4, ci5, ci6, ci7, ci8, ci9, ci10, ci11, ci12, ci13, ci14, ci15, ci16, ci17, ci18, ci19, ci20, ci21, ci22, ci23]
def cisl (k : Nat) : Nat := if k = 23 then 4 else 55 + k
def ciV (X x y : Nat) : Nat → Value
  | 0 => .pointer (some ⟨X, 1, none⟩)
  | 1 => .complex .f64 x y
  | 2 => .bool false
  | 3 => .bool false
  | 4 => undef
  | 5 => undef
  | 6 => undef
  | 7 => .bool false
  | 8 => .bool false
  | 9 => undef
  | 10 => undef
  | 11 => undef
  | 12 => .bool false
  | 13 => .bool false
  | 14 => undef
  | 15 => undef
  | 16 => undef
  | 17 => undef
  | 18 => undef
  | 19 => undef
  | 20 => undef
  | 21 => undef
  | 22 => .bool false
  | _ => .bool false
section
variable {Q : Exit → Act → World → Prop} {X0 w0 : World} {a0 : Act}
set_option maxHeartbeats 4000000 in
theorem rc10a {X b n cap x y : Nat} {ao : Option Addr} {z : Int} {r : Bool} (hc : ∀ w, Below X0.heap.size X0 w → w.cell? ⟨X, 1, none⟩ = some (.complex .f64 x y) ∧ w.cell? ⟨X, 2, none⟩ = some (.bool r) ∧ w.cell? ⟨X, 3, none⟩ = some (.int .i64 z) ∧ w.cell? ⟨b, 1, none⟩ = some (.slice ao n cap)) (hz : ∀ w, Below X0.heap.size X0 w → Calls Try.prog 41 #[.complex .f64 x y] w fun e w' => e = .returned (.bool false) ∧ Below w.heap.size w w') (hs : 103 ≤ a0.tmps.size)
    (e3 : Rv.ev a0 3 = .pointer (some ⟨X, 0, none⟩))
    (e0 : Rv.ev a0 0 = .pointer (some ⟨b, 0, none⟩))
    (hw : Below X0.heap.size X0 w0)
    (hQ : ∀ a w, Rv.Off 24 cisl a0 a → Below X0.heap.size X0 w → (∀ j, j < 24 → Rv.ev a (cisl j) = (ciV X x y) j) → Q .normal a w) :
    wpAny Try.prog .any ciops Q 24 (Array.replicate 24 false) a0 w0 := by
  refine Rv.region (X0 := X0) 24 cisl (ciV X x y) rfl (by decide) (by decide) (fun j hj => Nat.lt_of_lt_of_le ((by decide : ∀ j, j < 24 → cisl j < 103) j hj) hs) hw ?_ hQ
  intro i a W hi hO hW hd
  have hev : ∀ j, a.eval (.tmp j) = Rv.ev a j := fun _ => rfl
  have hcn : ∀ v, a.eval (.const v) = v := fun _ => rfl
  have hfn : ∀ v, a.eval (.func v) = .func (.func v) #[] #[] := fun _ => rfl
  have hsz : ∀ k, k < 103 → k < a.tmps.size := fun k hk => by rw [hO.size]; omega
  have g3 : Rv.ev a 3 = .pointer (some ⟨X, 0, none⟩) := (hO.same 3 (by decide)).trans e3
  have g0 : Rv.ev a 0 = .pointer (some ⟨b, 0, none⟩) := (hO.same 0 (by decide)).trans e0
  obtain ⟨r1, r2, r3, r4⟩ := hc W hW
  have hN : i = 0 ∨ i = 1 ∨ i = 2 ∨ i = 3 ∨ i = 4 ∨ i = 5 ∨ i = 6 ∨ i = 7 ∨ i = 8 ∨ i = 9 ∨ i = 10 ∨ i = 11 ∨ i = 12 ∨ i = 13 ∨ i = 14 ∨ i = 15 ∨ i = 16 ∨ i = 17 ∨ i = 18 ∨ i = 19 ∨ i = 20 ∨ i = 21 ∨ i = 22 ∨ i = 23 := by omega
  rcases hN with rfl | rfl | rfl | rfl | rfl | rfl | rfl | rfl | rfl | rfl | rfl | rfl | rfl | rfl | rfl | rfl | rfl | rfl | rfl | rfl | rfl | rfl | rfl | rfl
  · exact Rv.run (o := ci0) rfl rfl (Rv.want_free rfl) (by unfold ci0; simp only [execOp, hev, g3]; go_simp <;> rfl) hW
  · have d55 : Rv.ev a 55 = .pointer (some ⟨X, 1, none⟩) := hd 0 (by decide)
    exact Rv.run (o := ci1) rfl rfl (Rv.want_free rfl) (by unfold ci1; simp only [execOp, hev, d55]; go_simp <;> rfl) hW
  · have d56 : Rv.ev a 56 = .complex .f64 x y := hd 1 (by decide)
    refine Rv.call (o := ci2) (f := 41) (vs := #[.complex .f64 x y]) rfl rfl (Rv.want_free rfl) ?_ hW (hz W hW)
    unfold ci2
    simp only [execOp, resolve, invoke, Sem.run_bind, List.map_toArray, List.map_cons, List.map_nil, hev, hfn, d56]
    go_simp
  · have d57 : Rv.ev a 57 = .bool false := hd 2 (by decide)
    exact Rv.run (o := ci3) rfl rfl (Rv.want_free rfl) (by unfold ci3; simp only [execOp, hev, d57]; rfl) hW
  · have dg : Rv.ev a 58 = .bool false := hd 3 (by decide)
    exact Rv.skip (o := ci4) rfl rfl (by rw [Rv.want_if (o' := ci3) rfl rfl rfl (hsz 58 (by decide)) dg]; first | rfl | simp) hW
  · have d59 : Rv.ev a 59 = undef := hd 4 (by decide)
    have dg : Rv.ev a 58 = .bool false := hd 3 (by decide)
    exact Rv.skip (o := ci5) rfl rfl (by rw [Rv.want_if (o' := ci3) rfl rfl rfl (hsz 58 (by decide)) dg]; first | rfl | simp) hW
  · have d60 : Rv.ev a 60 = undef := hd 5 (by decide)
    have dg : Rv.ev a 58 = .bool false := hd 3 (by decide)
    exact Rv.skip (o := ci6) rfl rfl (by rw [Rv.want_if (o' := ci3) rfl rfl rfl (hsz 58 (by decide)) dg]; first | rfl | simp) hW
  · have d58 : Rv.ev a 58 = .bool false := hd 3 (by decide)
    have d61 : Rv.ev a 61 = undef := hd 6 (by decide)
    exact Rv.run (o := ci7) rfl rfl (Rv.want_free rfl) (by unfold ci7; simp only [execOp, hev, hcn, d58, d61]; go_simp <;> rfl) hW
  · have d62 : Rv.ev a 62 = .bool false := hd 7 (by decide)
    exact Rv.run (o := ci8) rfl rfl (Rv.want_free rfl) (by unfold ci8; simp only [execOp, hev, d62]; rfl) hW
  · have dg : Rv.ev a 63 = .bool false := hd 8 (by decide)
    exact Rv.skip (o := ci9) rfl rfl (by rw [Rv.want_if (o' := ci8) rfl rfl rfl (hsz 63 (by decide)) dg]; first | rfl | simp) hW
  · have d64 : Rv.ev a 64 = undef := hd 9 (by decide)
    have dg : Rv.ev a 63 = .bool false := hd 8 (by decide)
    exact Rv.skip (o := ci10) rfl rfl (by rw [Rv.want_if (o' := ci8) rfl rfl rfl (hsz 63 (by decide)) dg]; first | rfl | simp) hW
  · have d65 : Rv.ev a 65 = undef := hd 10 (by decide)
    have dg : Rv.ev a 63 = .bool false := hd 8 (by decide)
    exact Rv.skip (o := ci11) rfl rfl (by rw [Rv.want_if (o' := ci8) rfl rfl rfl (hsz 63 (by decide)) dg]; first | rfl | simp) hW
  · have d63 : Rv.ev a 63 = .bool false := hd 8 (by decide)
    have d66 : Rv.ev a 66 = undef := hd 11 (by decide)
    exact Rv.run (o := ci12) rfl rfl (Rv.want_free rfl) (by unfold ci12; simp only [execOp, hev, hcn, d63, d66]; go_simp <;> rfl) hW
  · have d67 : Rv.ev a 67 = .bool false := hd 12 (by decide)
    exact Rv.run (o := ci13) rfl rfl (Rv.want_free rfl) (by unfold ci13; simp only [execOp, hev, d67]; rfl) hW
  · have dg : Rv.ev a 68 = .bool false := hd 13 (by decide)
    exact Rv.skip (o := ci14) rfl rfl (by rw [Rv.want_if (o' := ci13) rfl rfl rfl (hsz 68 (by decide)) dg]; first | rfl | simp) hW
  · have d69 : Rv.ev a 69 = undef := hd 14 (by decide)
    have dg : Rv.ev a 68 = .bool false := hd 13 (by decide)
    exact Rv.skip (o := ci15) rfl rfl (by rw [Rv.want_if (o' := ci13) rfl rfl rfl (hsz 68 (by decide)) dg]; first | rfl | simp) hW
  · have dg : Rv.ev a 68 = .bool false := hd 13 (by decide)
    exact Rv.skip (o := ci16) rfl rfl (by rw [Rv.want_if (o' := ci13) rfl rfl rfl (hsz 68 (by decide)) dg]; first | rfl | simp) hW
  · have d71 : Rv.ev a 71 = undef := hd 16 (by decide)
    have dg : Rv.ev a 68 = .bool false := hd 13 (by decide)
    exact Rv.skip (o := ci17) rfl rfl (by rw [Rv.want_if (o' := ci13) rfl rfl rfl (hsz 68 (by decide)) dg]; first | rfl | simp) hW
  · have d72 : Rv.ev a 72 = undef := hd 17 (by decide)
    have dg : Rv.ev a 68 = .bool false := hd 13 (by decide)
    exact Rv.skip (o := ci18) rfl rfl (by rw [Rv.want_if (o' := ci13) rfl rfl rfl (hsz 68 (by decide)) dg]; first | rfl | simp) hW
  · have d73 : Rv.ev a 73 = undef := hd 18 (by decide)
    have dg : Rv.ev a 68 = .bool false := hd 13 (by decide)
    exact Rv.skip (o := ci19) rfl rfl (by rw [Rv.want_if (o' := ci13) rfl rfl rfl (hsz 68 (by decide)) dg]; first | rfl | simp) hW
  · have d74 : Rv.ev a 74 = undef := hd 19 (by decide)
    have dg : Rv.ev a 68 = .bool false := hd 13 (by decide)
    exact Rv.skip (o := ci20) rfl rfl (by rw [Rv.want_if (o' := ci13) rfl rfl rfl (hsz 68 (by decide)) dg]; first | rfl | simp) hW
  · have d70 : Rv.ev a 70 = undef := hd 15 (by decide)
    have d75 : Rv.ev a 75 = undef := hd 20 (by decide)
    have dg : Rv.ev a 68 = .bool false := hd 13 (by decide)
    exact Rv.skip (o := ci21) rfl rfl (by rw [Rv.want_if (o' := ci13) rfl rfl rfl (hsz 68 (by decide)) dg]; first | rfl | simp) hW
  · have d68 : Rv.ev a 68 = .bool false := hd 13 (by decide)
    have d76 : Rv.ev a 76 = undef := hd 21 (by decide)
    exact Rv.run (o := ci22) rfl rfl (Rv.want_free rfl) (by unfold ci22; simp only [execOp, hev, hcn, d68, d76]; go_simp <;> rfl) hW
  · have d77 : Rv.ev a 77 = .bool false := hd 22 (by decide)
    exact Rv.run (o := ci23) rfl rfl (Rv.want_free rfl) (by unfold ci23; simp only [execOp, hev, d77]; rfl) hW
end
def rc10bV (X x y : Nat) : Nat → Value
  | 0 => .pointer (some ⟨X, 1, none⟩)
  | 1 => .complex .f64 x y
  | 2 => .bool true
  | 3 => .bool true
  | 4 => .pointer (some ⟨X, 2, none⟩)
  | 5 => .bool true
  | 6 => .bool false
  | 7 => .bool false
  | 8 => .bool false
  | 9 => undef
  | 10 => undef
  | 11 => undef
  | 12 => .bool false
  | 13 => .bool false
  | 14 => undef
  | 15 => undef
  | 16 => undef
  | 17 => undef
  | 18 => undef
  | 19 => undef
  | 20 => undef
  | 21 => undef
  | 22 => .bool false
  | _ => .bool false
section
variable {Q : Exit → Act → World → Prop} {X0 w0 : World} {a0 : Act}
set_option maxHeartbeats 4000000 in
theorem rc10b {X b n cap x y : Nat} {ao : Option Addr} {z : Int} (hc : ∀ w, Below X0.heap.size X0 w → w.cell? ⟨X, 1, none⟩ = some (.complex .f64 x y) ∧ w.cell? ⟨X, 2, none⟩ = some (.bool true) ∧ w.cell? ⟨X, 3, none⟩ = some (.int .i64 z) ∧ w.cell? ⟨b, 1, none⟩ = some (.slice ao n cap)) (hz : ∀ w, Below X0.heap.size X0 w → Calls Try.prog 41 #[.complex .f64 x y] w fun e w' => e = .returned (.bool true) ∧ Below w.heap.size w w') (hs : 103 ≤ a0.tmps.size)
    (e3 : Rv.ev a0 3 = .pointer (some ⟨X, 0, none⟩))
    (e0 : Rv.ev a0 0 = .pointer (some ⟨b, 0, none⟩))
    (hw : Below X0.heap.size X0 w0)
    (hQ : ∀ a w, Rv.Off 24 cisl a0 a → Below X0.heap.size X0 w → (∀ j, j < 24 → Rv.ev a (cisl j) = (rc10bV X x y) j) → Q .normal a w) :
    wpAny Try.prog .any ciops Q 24 (Array.replicate 24 false) a0 w0 := by
  refine Rv.region (X0 := X0) 24 cisl (rc10bV X x y) rfl (by decide) (by decide) (fun j hj => Nat.lt_of_lt_of_le ((by decide : ∀ j, j < 24 → cisl j < 103) j hj) hs) hw ?_ hQ
  intro i a W hi hO hW hd
  have hev : ∀ j, a.eval (.tmp j) = Rv.ev a j := fun _ => rfl
  have hcn : ∀ v, a.eval (.const v) = v := fun _ => rfl
  have hfn : ∀ v, a.eval (.func v) = .func (.func v) #[] #[] := fun _ => rfl
  have hsz : ∀ k, k < 103 → k < a.tmps.size := fun k hk => by rw [hO.size]; omega
  have g3 : Rv.ev a 3 = .pointer (some ⟨X, 0, none⟩) := (hO.same 3 (by decide)).trans e3
  have g0 : Rv.ev a 0 = .pointer (some ⟨b, 0, none⟩) := (hO.same 0 (by decide)).trans e0
  obtain ⟨r1, r2, r3, r4⟩ := hc W hW
  have hN : i = 0 ∨ i = 1 ∨ i = 2 ∨ i = 3 ∨ i = 4 ∨ i = 5 ∨ i = 6 ∨ i = 7 ∨ i = 8 ∨ i = 9 ∨ i = 10 ∨ i = 11 ∨ i = 12 ∨ i = 13 ∨ i = 14 ∨ i = 15 ∨ i = 16 ∨ i = 17 ∨ i = 18 ∨ i = 19 ∨ i = 20 ∨ i = 21 ∨ i = 22 ∨ i = 23 := by omega
  rcases hN with rfl | rfl | rfl | rfl | rfl | rfl | rfl | rfl | rfl | rfl | rfl | rfl | rfl | rfl | rfl | rfl | rfl | rfl | rfl | rfl | rfl | rfl | rfl | rfl
  · exact Rv.run (o := ci0) rfl rfl (Rv.want_free rfl) (by unfold ci0; simp only [execOp, hev, g3]; go_simp <;> rfl) hW
  · have d55 : Rv.ev a 55 = .pointer (some ⟨X, 1, none⟩) := hd 0 (by decide)
    exact Rv.run (o := ci1) rfl rfl (Rv.want_free rfl) (by unfold ci1; simp only [execOp, hev, d55]; go_simp <;> rfl) hW
  · have d56 : Rv.ev a 56 = .complex .f64 x y := hd 1 (by decide)
    refine Rv.call (o := ci2) (f := 41) (vs := #[.complex .f64 x y]) rfl rfl (Rv.want_free rfl) ?_ hW (hz W hW)
    unfold ci2
    simp only [execOp, resolve, invoke, Sem.run_bind, List.map_toArray, List.map_cons, List.map_nil, hev, hfn, d56]
    go_simp
  · have d57 : Rv.ev a 57 = .bool true := hd 2 (by decide)
    exact Rv.run (o := ci3) rfl rfl (Rv.want_free rfl) (by unfold ci3; simp only [execOp, hev, d57]; rfl) hW
  · have dg : Rv.ev a 58 = .bool true := hd 3 (by decide)
    exact Rv.run (o := ci4) rfl rfl (by rw [Rv.want_if (o' := ci3) rfl rfl rfl (hsz 58 (by decide)) dg]; first | rfl | simp) (by unfold ci4; simp only [execOp, hev, g3]; go_simp <;> rfl) hW
  · have d59 : Rv.ev a 59 = .pointer (some ⟨X, 2, none⟩) := hd 4 (by decide)
    have dg : Rv.ev a 58 = .bool true := hd 3 (by decide)
    exact Rv.run (o := ci5) rfl rfl (by rw [Rv.want_if (o' := ci3) rfl rfl rfl (hsz 58 (by decide)) dg]; first | rfl | simp) (by unfold ci5; simp only [execOp, hev, d59]; go_simp <;> rfl) hW
  · have d60 : Rv.ev a 60 = .bool true := hd 5 (by decide)
    have dg : Rv.ev a 58 = .bool true := hd 3 (by decide)
    exact Rv.run (o := ci6) rfl rfl (by rw [Rv.want_if (o' := ci3) rfl rfl rfl (hsz 58 (by decide)) dg]; first | rfl | simp) (by unfold ci6; simp only [execOp, hev, d60]; go_simp <;> rfl) hW
  · have d58 : Rv.ev a 58 = .bool true := hd 3 (by decide)
    have d61 : Rv.ev a 61 = .bool false := hd 6 (by decide)
    exact Rv.run (o := ci7) rfl rfl (Rv.want_free rfl) (by unfold ci7; simp only [execOp, hev, hcn, d58, d61]; go_simp <;> rfl) hW
  · have d62 : Rv.ev a 62 = .bool false := hd 7 (by decide)
    exact Rv.run (o := ci8) rfl rfl (Rv.want_free rfl) (by unfold ci8; simp only [execOp, hev, d62]; rfl) hW
  · have dg : Rv.ev a 63 = .bool false := hd 8 (by decide)
    exact Rv.skip (o := ci9) rfl rfl (by rw [Rv.want_if (o' := ci8) rfl rfl rfl (hsz 63 (by decide)) dg]; first | rfl | simp) hW
  · have d64 : Rv.ev a 64 = undef := hd 9 (by decide)
    have dg : Rv.ev a 63 = .bool false := hd 8 (by decide)
    exact Rv.skip (o := ci10) rfl rfl (by rw [Rv.want_if (o' := ci8) rfl rfl rfl (hsz 63 (by decide)) dg]; first | rfl | simp) hW
  · have d65 : Rv.ev a 65 = undef := hd 10 (by decide)
    have dg : Rv.ev a 63 = .bool false := hd 8 (by decide)
    exact Rv.skip (o := ci11) rfl rfl (by rw [Rv.want_if (o' := ci8) rfl rfl rfl (hsz 63 (by decide)) dg]; first | rfl | simp) hW
  · have d63 : Rv.ev a 63 = .bool false := hd 8 (by decide)
    have d66 : Rv.ev a 66 = undef := hd 11 (by decide)
    exact Rv.run (o := ci12) rfl rfl (Rv.want_free rfl) (by unfold ci12; simp only [execOp, hev, hcn, d63, d66]; go_simp <;> rfl) hW
  · have d67 : Rv.ev a 67 = .bool false := hd 12 (by decide)
    exact Rv.run (o := ci13) rfl rfl (Rv.want_free rfl) (by unfold ci13; simp only [execOp, hev, d67]; rfl) hW
  · have dg : Rv.ev a 68 = .bool false := hd 13 (by decide)
    exact Rv.skip (o := ci14) rfl rfl (by rw [Rv.want_if (o' := ci13) rfl rfl rfl (hsz 68 (by decide)) dg]; first | rfl | simp) hW
  · have d69 : Rv.ev a 69 = undef := hd 14 (by decide)
    have dg : Rv.ev a 68 = .bool false := hd 13 (by decide)
    exact Rv.skip (o := ci15) rfl rfl (by rw [Rv.want_if (o' := ci13) rfl rfl rfl (hsz 68 (by decide)) dg]; first | rfl | simp) hW
  · have dg : Rv.ev a 68 = .bool false := hd 13 (by decide)
    exact Rv.skip (o := ci16) rfl rfl (by rw [Rv.want_if (o' := ci13) rfl rfl rfl (hsz 68 (by decide)) dg]; first | rfl | simp) hW
  · have d71 : Rv.ev a 71 = undef := hd 16 (by decide)
    have dg : Rv.ev a 68 = .bool false := hd 13 (by decide)
    exact Rv.skip (o := ci17) rfl rfl (by rw [Rv.want_if (o' := ci13) rfl rfl rfl (hsz 68 (by decide)) dg]; first | rfl | simp) hW
  · have d72 : Rv.ev a 72 = undef := hd 17 (by decide)
    have dg : Rv.ev a 68 = .bool false := hd 13 (by decide)
    exact Rv.skip (o := ci18) rfl rfl (by rw [Rv.want_if (o' := ci13) rfl rfl rfl (hsz 68 (by decide)) dg]; first | rfl | simp) hW
  · have d73 : Rv.ev a 73 = undef := hd 18 (by decide)
    have dg : Rv.ev a 68 = .bool false := hd 13 (by decide)
    exact Rv.skip (o := ci19) rfl rfl (by rw [Rv.want_if (o' := ci13) rfl rfl rfl (hsz 68 (by decide)) dg]; first | rfl | simp) hW
  · have d74 : Rv.ev a 74 = undef := hd 19 (by decide)
    have dg : Rv.ev a 68 = .bool false := hd 13 (by decide)
    exact Rv.skip (o := ci20) rfl rfl (by rw [Rv.want_if (o' := ci13) rfl rfl rfl (hsz 68 (by decide)) dg]; first | rfl | simp) hW
  · have d70 : Rv.ev a 70 = undef := hd 15 (by decide)
    have d75 : Rv.ev a 75 = undef := hd 20 (by decide)
    have dg : Rv.ev a 68 = .bool false := hd 13 (by decide)
    exact Rv.skip (o := ci21) rfl rfl (by rw [Rv.want_if (o' := ci13) rfl rfl rfl (hsz 68 (by decide)) dg]; first | rfl | simp) hW
  · have d68 : Rv.ev a 68 = .bool false := hd 13 (by decide)
    have d76 : Rv.ev a 76 = undef := hd 21 (by decide)
    exact Rv.run (o := ci22) rfl rfl (Rv.want_free rfl) (by unfold ci22; simp only [execOp, hev, hcn, d68, d76]; go_simp <;> rfl) hW
  · have d77 : Rv.ev a 77 = .bool false := hd 22 (by decide)
    exact Rv.run (o := ci23) rfl rfl (Rv.want_free rfl) (by unfold ci23; simp only [execOp, hev, d77]; rfl) hW
end
def rc10cV (X x y : Nat) (z : Int) : Nat → Value
  | 0 => .pointer (some ⟨X, 1, none⟩)
  | 1 => .complex .f64 x y
  | 2 => .bool true
  | 3 => .bool true
  | 4 => .pointer (some ⟨X, 2, none⟩)
  | 5 => .bool false
  | 6 => .bool true
  | 7 => .bool true
  | 8 => .bool true
  | 9 => .pointer (some ⟨X, 3, none⟩)
  | 10 => .int .i64 z
  | 11 => .bool false
  | 12 => .bool false
  | 13 => .bool false
  | 14 => undef
  | 15 => undef
  | 16 => undef
  | 17 => undef
  | 18 => undef
  | 19 => undef
  | 20 => undef
  | 21 => undef
  | 22 => .bool false
  | _ => .bool false
section
variable {Q : Exit → Act → World → Prop} {X0 w0 : World} {a0 : Act}
set_option maxHeartbeats 4000000 in
theorem rc10c {X b n cap x y : Nat} {ao : Option Addr} {z : Int} (hc : ∀ w, Below X0.heap.size X0 w → w.cell? ⟨X, 1, none⟩ = some (.complex .f64 x y) ∧ w.cell? ⟨X, 2, none⟩ = some (.bool false) ∧ w.cell? ⟨X, 3, none⟩ = some (.int .i64 z) ∧ w.cell? ⟨b, 1, none⟩ = some (.slice ao n cap)) (hz : ∀ w, Below X0.heap.size X0 w → Calls Try.prog 41 #[.complex .f64 x y] w fun e w' => e = .returned (.bool true) ∧ Below w.heap.size w w') (h0 : decide (0 ≤ z) = false) (hs : 103 ≤ a0.tmps.size)
    (e3 : Rv.ev a0 3 = .pointer (some ⟨X, 0, none⟩))
    (e0 : Rv.ev a0 0 = .pointer (some ⟨b, 0, none⟩))
    (hw : Below X0.heap.size X0 w0)
    (hQ : ∀ a w, Rv.Off 24 cisl a0 a → Below X0.heap.size X0 w → (∀ j, j < 24 → Rv.ev a (cisl j) = (rc10cV X x y z) j) → Q .normal a w) :
    wpAny Try.prog .any ciops Q 24 (Array.replicate 24 false) a0 w0 := by
  refine Rv.region (X0 := X0) 24 cisl (rc10cV X x y z) rfl (by decide) (by decide) (fun j hj => Nat.lt_of_lt_of_le ((by decide : ∀ j, j < 24 → cisl j < 103) j hj) hs) hw ?_ hQ
  intro i a W hi hO hW hd
  have hev : ∀ j, a.eval (.tmp j) = Rv.ev a j := fun _ => rfl
  have hcn : ∀ v, a.eval (.const v) = v := fun _ => rfl
  have hfn : ∀ v, a.eval (.func v) = .func (.func v) #[] #[] := fun _ => rfl
  have hsz : ∀ k, k < 103 → k < a.tmps.size := fun k hk => by rw [hO.size]; omega
  have g3 : Rv.ev a 3 = .pointer (some ⟨X, 0, none⟩) := (hO.same 3 (by decide)).trans e3
  have g0 : Rv.ev a 0 = .pointer (some ⟨b, 0, none⟩) := (hO.same 0 (by decide)).trans e0
  obtain ⟨r1, r2, r3, r4⟩ := hc W hW
  have hN : i = 0 ∨ i = 1 ∨ i = 2 ∨ i = 3 ∨ i = 4 ∨ i = 5 ∨ i = 6 ∨ i = 7 ∨ i = 8 ∨ i = 9 ∨ i = 10 ∨ i = 11 ∨ i = 12 ∨ i = 13 ∨ i = 14 ∨ i = 15 ∨ i = 16 ∨ i = 17 ∨ i = 18 ∨ i = 19 ∨ i = 20 ∨ i = 21 ∨ i = 22 ∨ i = 23 := by omega
  rcases hN with rfl | rfl | rfl | rfl | rfl | rfl | rfl | rfl | rfl | rfl | rfl | rfl | rfl | rfl | rfl | rfl | rfl | rfl | rfl | rfl | rfl | rfl | rfl | rfl
  · exact Rv.run (o := ci0) rfl rfl (Rv.want_free rfl) (by unfold ci0; simp only [execOp, hev, g3]; go_simp <;> rfl) hW
  · have d55 : Rv.ev a 55 = .pointer (some ⟨X, 1, none⟩) := hd 0 (by decide)
    exact Rv.run (o := ci1) rfl rfl (Rv.want_free rfl) (by unfold ci1; simp only [execOp, hev, d55]; go_simp <;> rfl) hW
  · have d56 : Rv.ev a 56 = .complex .f64 x y := hd 1 (by decide)
    refine Rv.call (o := ci2) (f := 41) (vs := #[.complex .f64 x y]) rfl rfl (Rv.want_free rfl) ?_ hW (hz W hW)
    unfold ci2
    simp only [execOp, resolve, invoke, Sem.run_bind, List.map_toArray, List.map_cons, List.map_nil, hev, hfn, d56]
    go_simp
  · have d57 : Rv.ev a 57 = .bool true := hd 2 (by decide)
    exact Rv.run (o := ci3) rfl rfl (Rv.want_free rfl) (by unfold ci3; simp only [execOp, hev, d57]; rfl) hW
  · have dg : Rv.ev a 58 = .bool true := hd 3 (by decide)
    exact Rv.run (o := ci4) rfl rfl (by rw [Rv.want_if (o' := ci3) rfl rfl rfl (hsz 58 (by decide)) dg]; first | rfl | simp) (by unfold ci4; simp only [execOp, hev, g3]; go_simp <;> rfl) hW
  · have d59 : Rv.ev a 59 = .pointer (some ⟨X, 2, none⟩) := hd 4 (by decide)
    have dg : Rv.ev a 58 = .bool true := hd 3 (by decide)
    exact Rv.run (o := ci5) rfl rfl (by rw [Rv.want_if (o' := ci3) rfl rfl rfl (hsz 58 (by decide)) dg]; first | rfl | simp) (by unfold ci5; simp only [execOp, hev, d59]; go_simp <;> rfl) hW
  · have d60 : Rv.ev a 60 = .bool false := hd 5 (by decide)
    have dg : Rv.ev a 58 = .bool true := hd 3 (by decide)
    exact Rv.run (o := ci6) rfl rfl (by rw [Rv.want_if (o' := ci3) rfl rfl rfl (hsz 58 (by decide)) dg]; first | rfl | simp) (by unfold ci6; simp only [execOp, hev, d60]; go_simp <;> rfl) hW
  · have d58 : Rv.ev a 58 = .bool true := hd 3 (by decide)
    have d61 : Rv.ev a 61 = .bool true := hd 6 (by decide)
    exact Rv.run (o := ci7) rfl rfl (Rv.want_free rfl) (by unfold ci7; simp only [execOp, hev, hcn, d58, d61]; go_simp <;> rfl) hW
  · have d62 : Rv.ev a 62 = .bool true := hd 7 (by decide)
    exact Rv.run (o := ci8) rfl rfl (Rv.want_free rfl) (by unfold ci8; simp only [execOp, hev, d62]; rfl) hW
  · have dg : Rv.ev a 63 = .bool true := hd 8 (by decide)
    exact Rv.run (o := ci9) rfl rfl (by rw [Rv.want_if (o' := ci8) rfl rfl rfl (hsz 63 (by decide)) dg]; first | rfl | simp) (by unfold ci9; simp only [execOp, hev, g3]; go_simp <;> rfl) hW
  · have d64 : Rv.ev a 64 = .pointer (some ⟨X, 3, none⟩) := hd 9 (by decide)
    have dg : Rv.ev a 63 = .bool true := hd 8 (by decide)
    exact Rv.run (o := ci10) rfl rfl (by rw [Rv.want_if (o' := ci8) rfl rfl rfl (hsz 63 (by decide)) dg]; first | rfl | simp) (by unfold ci10; simp only [execOp, hev, d64]; go_simp <;> rfl) hW
  · have d65 : Rv.ev a 65 = .int .i64 z := hd 10 (by decide)
    have dg : Rv.ev a 63 = .bool true := hd 8 (by decide)
    exact Rv.run (o := ci11) rfl rfl (by rw [Rv.want_if (o' := ci8) rfl rfl rfl (hsz 63 (by decide)) dg]; first | rfl | simp) (by unfold ci11; simp only [execOp, hev, hcn, d65]; go_simp <;> rfl) hW
  · have d63 : Rv.ev a 63 = .bool true := hd 8 (by decide)
    have d66 : Rv.ev a 66 = .bool false := hd 11 (by decide)
    exact Rv.run (o := ci12) rfl rfl (Rv.want_free rfl) (by unfold ci12; simp only [execOp, hev, hcn, d63, d66]; go_simp <;> rfl) hW
  · have d67 : Rv.ev a 67 = .bool false := hd 12 (by decide)
    exact Rv.run (o := ci13) rfl rfl (Rv.want_free rfl) (by unfold ci13; simp only [execOp, hev, d67]; rfl) hW
  · have dg : Rv.ev a 68 = .bool false := hd 13 (by decide)
    exact Rv.skip (o := ci14) rfl rfl (by rw [Rv.want_if (o' := ci13) rfl rfl rfl (hsz 68 (by decide)) dg]; first | rfl | simp) hW
  · have d69 : Rv.ev a 69 = undef := hd 14 (by decide)
    have dg : Rv.ev a 68 = .bool false := hd 13 (by decide)
    exact Rv.skip (o := ci15) rfl rfl (by rw [Rv.want_if (o' := ci13) rfl rfl rfl (hsz 68 (by decide)) dg]; first | rfl | simp) hW
  · have dg : Rv.ev a 68 = .bool false := hd 13 (by decide)
    exact Rv.skip (o := ci16) rfl rfl (by rw [Rv.want_if (o' := ci13) rfl rfl rfl (hsz 68 (by decide)) dg]; first | rfl | simp) hW
  · have d71 : Rv.ev a 71 = undef := hd 16 (by decide)
    have dg : Rv.ev a 68 = .bool false := hd 13 (by decide)
    exact Rv.skip (o := ci17) rfl rfl (by rw [Rv.want_if (o' := ci13) rfl rfl rfl (hsz 68 (by decide)) dg]; first | rfl | simp) hW
  · have d72 : Rv.ev a 72 = undef := hd 17 (by decide)
    have dg : Rv.ev a 68 = .bool false := hd 13 (by decide)
    exact Rv.skip (o := ci18) rfl rfl (by rw [Rv.want_if (o' := ci13) rfl rfl rfl (hsz 68 (by decide)) dg]; first | rfl | simp) hW
  · have d73 : Rv.ev a 73 = undef := hd 18 (by decide)
    have dg : Rv.ev a 68 = .bool false := hd 13 (by decide)
    exact Rv.skip (o := ci19) rfl rfl (by rw [Rv.want_if (o' := ci13) rfl rfl rfl (hsz 68 (by decide)) dg]; first | rfl | simp) hW
  · have d74 : Rv.ev a 74 = undef := hd 19 (by decide)
    have dg : Rv.ev a 68 = .bool false := hd 13 (by decide)
    exact Rv.skip (o := ci20) rfl rfl (by rw [Rv.want_if (o' := ci13) rfl rfl rfl (hsz 68 (by decide)) dg]; first | rfl | simp) hW
  · have d70 : Rv.ev a 70 = undef := hd 15 (by decide)
    have d75 : Rv.ev a 75 = undef := hd 20 (by decide)
    have dg : Rv.ev a 68 = .bool false := hd 13 (by decide)
    exact Rv.skip (o := ci21) rfl rfl (by rw [Rv.want_if (o' := ci13) rfl rfl rfl (hsz 68 (by decide)) dg]; first | rfl | simp) hW
  · have d68 : Rv.ev a 68 = .bool false := hd 13 (by decide)
    have d76 : Rv.ev a 76 = undef := hd 21 (by decide)
    exact Rv.run (o := ci22) rfl rfl (Rv.want_free rfl) (by unfold ci22; simp only [execOp, hev, hcn, d68, d76]; go_simp <;> rfl) hW
  · have d77 : Rv.ev a 77 = .bool false := hd 22 (by decide)
    exact Rv.run (o := ci23) rfl rfl (Rv.want_free rfl) (by unfold ci23; simp only [execOp, hev, d77]; rfl) hW
end
def rc10dV (X b n cap x y : Nat) (ao : Option Addr) (z : Int) : Nat → Value
  | 0 => .pointer (some ⟨X, 1, none⟩)
  | 1 => .complex .f64 x y
  | 2 => .bool true
  | 3 => .bool true
  | 4 => .pointer (some ⟨X, 2, none⟩)
  | 5 => .bool false
  | 6 => .bool true
  | 7 => .bool true
  | 8 => .bool true
  | 9 => .pointer (some ⟨X, 3, none⟩)
  | 10 => .int .i64 z
  | 11 => .bool true
  | 12 => .bool true
  | 13 => .bool true
  | 14 => .pointer (some ⟨X, 3, none⟩)
  | 15 => .int .i64 z
  | 16 => .pointer (some ⟨b, 0, none⟩)
  | 17 => .pointer (some ⟨b, 0, none⟩)
  | 18 => .pointer (some ⟨b, 1, none⟩)
  | 19 => .slice ao n cap
  | 20 => .int .i64 (n : Int)
  | 21 => .bool (decide (z < (n : Int)))
  | 22 => .bool (decide (z < (n : Int)))
  | _ => .bool (decide (z < (n : Int)))
section
variable {Q : Exit → Act → World → Prop} {X0 w0 : World} {a0 : Act}
set_option maxHeartbeats 4000000 in
theorem rc10d {X b n cap x y : Nat} {ao : Option Addr} {z : Int} (hc : ∀ w, Below X0.heap.size X0 w → w.cell? ⟨X, 1, none⟩ = some (.complex .f64 x y) ∧ w.cell? ⟨X, 2, none⟩ = some (.bool false) ∧ w.cell? ⟨X, 3, none⟩ = some (.int .i64 z) ∧ w.cell? ⟨b, 1, none⟩ = some (.slice ao n cap)) (hz : ∀ w, Below X0.heap.size X0 w → Calls Try.prog 41 #[.complex .f64 x y] w fun e w' => e = .returned (.bool true) ∧ Below w.heap.size w w') (h0 : decide (0 ≤ z) = true) (hs : 103 ≤ a0.tmps.size)
    (e3 : Rv.ev a0 3 = .pointer (some ⟨X, 0, none⟩))
    (e0 : Rv.ev a0 0 = .pointer (some ⟨b, 0, none⟩))
    (hw : Below X0.heap.size X0 w0)
    (hQ : ∀ a w, Rv.Off 24 cisl a0 a → Below X0.heap.size X0 w → (∀ j, j < 24 → Rv.ev a (cisl j) = (rc10dV X b n cap x y ao z) j) → Q .normal a w) :
    wpAny Try.prog .any ciops Q 24 (Array.replicate 24 false) a0 w0 := by
  refine Rv.region (X0 := X0) 24 cisl (rc10dV X b n cap x y ao z) rfl (by decide) (by decide) (fun j hj => Nat.lt_of_lt_of_le ((by decide : ∀ j, j < 24 → cisl j < 103) j hj) hs) hw ?_ hQ
  intro i a W hi hO hW hd
  have hev : ∀ j, a.eval (.tmp j) = Rv.ev a j := fun _ => rfl
  have hcn : ∀ v, a.eval (.const v) = v := fun _ => rfl
  have hfn : ∀ v, a.eval (.func v) = .func (.func v) #[] #[] := fun _ => rfl
  have hsz : ∀ k, k < 103 → k < a.tmps.size := fun k hk => by rw [hO.size]; omega
  have g3 : Rv.ev a 3 = .pointer (some ⟨X, 0, none⟩) := (hO.same 3 (by decide)).trans e3
  have g0 : Rv.ev a 0 = .pointer (some ⟨b, 0, none⟩) := (hO.same 0 (by decide)).trans e0
  obtain ⟨r1, r2, r3, r4⟩ := hc W hW
  have hN : i = 0 ∨ i = 1 ∨ i = 2 ∨ i = 3 ∨ i = 4 ∨ i = 5 ∨ i = 6 ∨ i = 7 ∨ i = 8 ∨ i = 9 ∨ i = 10 ∨ i = 11 ∨ i = 12 ∨ i = 13 ∨ i = 14 ∨ i = 15 ∨ i = 16 ∨ i = 17 ∨ i = 18 ∨ i = 19 ∨ i = 20 ∨ i = 21 ∨ i = 22 ∨ i = 23 := by omega
  rcases hN with rfl | rfl | rfl | rfl | rfl | rfl | rfl | rfl | rfl | rfl | rfl | rfl | rfl | rfl | rfl | rfl | rfl | rfl | rfl | rfl | rfl | rfl | rfl | rfl
  · exact Rv.run (o := ci0) rfl rfl (Rv.want_free rfl) (by unfold ci0; simp only [execOp, hev, g3]; go_simp <;> rfl) hW
  · have d55 : Rv.ev a 55 = .pointer (some ⟨X, 1, none⟩) := hd 0 (by decide)
    exact Rv.run (o := ci1) rfl rfl (Rv.want_free rfl) (by unfold ci1; simp only [execOp, hev, d55]; go_simp <;> rfl) hW
  · have d56 : Rv.ev a 56 = .complex .f64 x y := hd 1 (by decide)
    refine Rv.call (o := ci2) (f := 41) (vs := #[.complex .f64 x y]) rfl rfl (Rv.want_free rfl) ?_ hW (hz W hW)
    unfold ci2
    simp only [execOp, resolve, invoke, Sem.run_bind, List.map_toArray, List.map_cons, List.map_nil, hev, hfn, d56]
    go_simp
  · have d57 : Rv.ev a 57 = .bool true := hd 2 (by decide)
    exact Rv.run (o := ci3) rfl rfl (Rv.want_free rfl) (by unfold ci3; simp only [execOp, hev, d57]; rfl) hW
  · have dg : Rv.ev a 58 = .bool true := hd 3 (by decide)
    exact Rv.run (o := ci4) rfl rfl (by rw [Rv.want_if (o' := ci3) rfl rfl rfl (hsz 58 (by decide)) dg]; first | rfl | simp) (by unfold ci4; simp only [execOp, hev, g3]; go_simp <;> rfl) hW
  · have d59 : Rv.ev a 59 = .pointer (some ⟨X, 2, none⟩) := hd 4 (by decide)
    have dg : Rv.ev a 58 = .bool true := hd 3 (by decide)
    exact Rv.run (o := ci5) rfl rfl (by rw [Rv.want_if (o' := ci3) rfl rfl rfl (hsz 58 (by decide)) dg]; first | rfl | simp) (by unfold ci5; simp only [execOp, hev, d59]; go_simp <;> rfl) hW
  · have d60 : Rv.ev a 60 = .bool false := hd 5 (by decide)
    have dg : Rv.ev a 58 = .bool true := hd 3 (by decide)
    exact Rv.run (o := ci6) rfl rfl (by rw [Rv.want_if (o' := ci3) rfl rfl rfl (hsz 58 (by decide)) dg]; first | rfl | simp) (by unfold ci6; simp only [execOp, hev, d60]; go_simp <;> rfl) hW
  · have d58 : Rv.ev a 58 = .bool true := hd 3 (by decide)
    have d61 : Rv.ev a 61 = .bool true := hd 6 (by decide)
    exact Rv.run (o := ci7) rfl rfl (Rv.want_free rfl) (by unfold ci7; simp only [execOp, hev, hcn, d58, d61]; go_simp <;> rfl) hW
  · have d62 : Rv.ev a 62 = .bool true := hd 7 (by decide)
    exact Rv.run (o := ci8) rfl rfl (Rv.want_free rfl) (by unfold ci8; simp only [execOp, hev, d62]; rfl) hW
  · have dg : Rv.ev a 63 = .bool true := hd 8 (by decide)
    exact Rv.run (o := ci9) rfl rfl (by rw [Rv.want_if (o' := ci8) rfl rfl rfl (hsz 63 (by decide)) dg]; first | rfl | simp) (by unfold ci9; simp only [execOp, hev, g3]; go_simp <;> rfl) hW
  · have d64 : Rv.ev a 64 = .pointer (some ⟨X, 3, none⟩) := hd 9 (by decide)
    have dg : Rv.ev a 63 = .bool true := hd 8 (by decide)
    exact Rv.run (o := ci10) rfl rfl (by rw [Rv.want_if (o' := ci8) rfl rfl rfl (hsz 63 (by decide)) dg]; first | rfl | simp) (by unfold ci10; simp only [execOp, hev, d64]; go_simp <;> rfl) hW
  · have d65 : Rv.ev a 65 = .int .i64 z := hd 10 (by decide)
    have dg : Rv.ev a 63 = .bool true := hd 8 (by decide)
    exact Rv.run (o := ci11) rfl rfl (by rw [Rv.want_if (o' := ci8) rfl rfl rfl (hsz 63 (by decide)) dg]; first | rfl | simp) (by unfold ci11; simp only [execOp, hev, hcn, d65]; go_simp <;> rfl) hW
  · have d63 : Rv.ev a 63 = .bool true := hd 8 (by decide)
    have d66 : Rv.ev a 66 = .bool true := hd 11 (by decide)
    exact Rv.run (o := ci12) rfl rfl (Rv.want_free rfl) (by unfold ci12; simp only [execOp, hev, hcn, d63, d66]; go_simp <;> rfl) hW
  · have d67 : Rv.ev a 67 = .bool true := hd 12 (by decide)
    exact Rv.run (o := ci13) rfl rfl (Rv.want_free rfl) (by unfold ci13; simp only [execOp, hev, d67]; rfl) hW
  · have dg : Rv.ev a 68 = .bool true := hd 13 (by decide)
    exact Rv.run (o := ci14) rfl rfl (by rw [Rv.want_if (o' := ci13) rfl rfl rfl (hsz 68 (by decide)) dg]; first | rfl | simp) (by unfold ci14; simp only [execOp, hev, g3]; go_simp <;> rfl) hW
  · have d69 : Rv.ev a 69 = .pointer (some ⟨X, 3, none⟩) := hd 14 (by decide)
    have dg : Rv.ev a 68 = .bool true := hd 13 (by decide)
    exact Rv.run (o := ci15) rfl rfl (by rw [Rv.want_if (o' := ci13) rfl rfl rfl (hsz 68 (by decide)) dg]; first | rfl | simp) (by unfold ci15; simp only [execOp, hev, d69]; go_simp <;> rfl) hW
  · have dg : Rv.ev a 68 = .bool true := hd 13 (by decide)
    exact Rv.run (o := ci16) rfl rfl (by rw [Rv.want_if (o' := ci13) rfl rfl rfl (hsz 68 (by decide)) dg]; first | rfl | simp) (by unfold ci16; simp only [execOp, hev, g0]; rfl) hW
  · have d71 : Rv.ev a 71 = .pointer (some ⟨b, 0, none⟩) := hd 16 (by decide)
    have dg : Rv.ev a 68 = .bool true := hd 13 (by decide)
    exact Rv.run (o := ci17) rfl rfl (by rw [Rv.want_if (o' := ci13) rfl rfl rfl (hsz 68 (by decide)) dg]; first | rfl | simp) (by unfold ci17; simp only [execOp, hev, d71]; go_simp <;> rfl) hW
  · have d72 : Rv.ev a 72 = .pointer (some ⟨b, 0, none⟩) := hd 17 (by decide)
    have dg : Rv.ev a 68 = .bool true := hd 13 (by decide)
    exact Rv.run (o := ci18) rfl rfl (by rw [Rv.want_if (o' := ci13) rfl rfl rfl (hsz 68 (by decide)) dg]; first | rfl | simp) (by unfold ci18; simp only [execOp, hev, d72]; go_simp <;> rfl) hW
  · have d73 : Rv.ev a 73 = .pointer (some ⟨b, 1, none⟩) := hd 18 (by decide)
    have dg : Rv.ev a 68 = .bool true := hd 13 (by decide)
    exact Rv.run (o := ci19) rfl rfl (by rw [Rv.want_if (o' := ci13) rfl rfl rfl (hsz 68 (by decide)) dg]; first | rfl | simp) (by unfold ci19; simp only [execOp, hev, d73]; go_simp <;> rfl) hW
  · have d74 : Rv.ev a 74 = .slice ao n cap := hd 19 (by decide)
    have dg : Rv.ev a 68 = .bool true := hd 13 (by decide)
    exact Rv.run (o := ci20) rfl rfl (by rw [Rv.want_if (o' := ci13) rfl rfl rfl (hsz 68 (by decide)) dg]; first | rfl | simp) (by unfold ci20; simp only [execOp, resolve, invoke, builtin, Sem.run_bind, Sem.run_pure, List.map_toArray, List.map_cons, List.map_nil, hev, d74]; go_simp <;> rfl) hW
  · have d70 : Rv.ev a 70 = .int .i64 z := hd 15 (by decide)
    have d75 : Rv.ev a 75 = .int .i64 (n : Int) := hd 20 (by decide)
    have dg : Rv.ev a 68 = .bool true := hd 13 (by decide)
    exact Rv.run (o := ci21) rfl rfl (by rw [Rv.want_if (o' := ci13) rfl rfl rfl (hsz 68 (by decide)) dg]; first | rfl | simp) (by unfold ci21; simp only [execOp, hev, d70, d75]; go_simp <;> rfl) hW
  · have d68 : Rv.ev a 68 = .bool true := hd 13 (by decide)
    have d76 : Rv.ev a 76 = .bool (decide (z < (n : Int))) := hd 21 (by decide)
    exact Rv.run (o := ci22) rfl rfl (Rv.want_free rfl) (by unfold ci22; simp only [execOp, hev, hcn, d68, d76]; go_simp <;> rfl) hW
  · have d77 : Rv.ev a 77 = .bool (decide (z < (n : Int))) := hd 22 (by decide)
    exact Rv.run (o := ci23) rfl rfl (Rv.want_free rfl) (by unfold ci23; simp only [execOp, hev, d77]; rfl) hW
end
theorem lit103 (f : Nat → Value) : ((List.range 103).map f).toArray = #[f 0, f 1, f 2, f 3, f 4, f 5, f 6, f 7, f 8, f 9, f 10, f 11, f 12, f 13, f 14, f 15, f 16, f 17, f 18, f 19, f 20, f 21, f 22, f 23, f 24, f 25, f 26, f 27, f 28, f 29, f 30, f 31, f 32, f 33, f 34, f 35, f 36, f 37, f 38, f 39, f 40, f 41, f 42, f 43, f 44, f 45, f 46, f 47, f 48, f 49, f 50, f 51, f 52, f 53, f 54, f 55, f 56, f 57, f 58, f 59, f 60, f 61, f 62, f 63, f 64, f 65, f 66, f 67, f 68, f 69, f 70, f 71, f 72, f 73, f 74, f 75, f 76, f 77, f 78, f 79, f 80, f 81, f 82, f 83, f 84, f 85, f 86, f 87, f 88, f 89, f 90, f 91, f 92, f 93, f 94, f 95, f 96, f 97, f 98, f 99, f 100, f 101, f 102] := rfl
theorem tmps103 (a : Act) (h : a.tmps.size = 103) : a.tmps = ((List.range 103).map (Rv.ev a)).toArray := by
  apply Array.ext
  · simp [h]
  · intro i h1 h2
    simp [Rv.ev, Act.eval, h1]
set_option maxHeartbeats 16000000 in
theorem offci {x0 x1 x2 x3 x4 x5 x6 x7 x8 x9 x10 x11 x12 x13 x14 x15 x16 x17 x18 x19 x20 x21 x22 x23 x24 x25 x26 x27 x28 x29 x30 x31 x32 x33 x34 x35 x36 x37 x38 x39 x40 x41 x42 x43 x44 x45 x46 x47 x48 x49 x50 x51 x52 x53 x54 x55 x56 x57 x58 x59 x60 x61 x62 x63 x64 x65 x66 x67 x68 x69 x70 x71 x72 x73 x74 x75 x76 x77 x78 x79 x80 x81 x82 x83 x84 x85 x86 x87 x88 x89 x90 x91 x92 x93 x94 x95 x96 x97 x98 x99 x100 x101 x102 : Value} {a : Act} (h : Rv.Off 24 cisl { tmps := #[x0, x1, x2, x3, x4, x5, x6, x7, x8, x9, x10, x11, x12, x13, x14, x15, x16, x17, x18, x19, x20, x21, x22, x23, x24, x25, x26, x27, x28, x29, x30, x31, x32, x33, x34, x35, x36, x37, x38, x39, x40, x41, x42, x43, x44, x45, x46, x47, x48, x49, x50, x51, x52, x53, x54, x55, x56, x57, x58, x59, x60, x61, x62, x63, x64, x65, x66, x67, x68, x69, x70, x71, x72, x73, x74, x75, x76, x77, x78, x79, x80, x81, x82, x83, x84, x85, x86, x87, x88, x89, x90, x91, x92, x93, x94, x95, x96, x97, x98, x99, x100, x101, x102], defers := [] } a) : ∃ y4 y55 y56 y57 y58 y59 y60 y61 y62 y63 y64 y65 y66 y67 y68 y69 y70 y71 y72 y73 y74 y75 y76 y77, (Rv.ev a 4 = y4 ∧ Rv.ev a 55 = y55 ∧ Rv.ev a 56 = y56 ∧ Rv.ev a 57 = y57 ∧ Rv.ev a 58 = y58 ∧ Rv.ev a 59 = y59 ∧ Rv.ev a 60 = y60 ∧ Rv.ev a 61 = y61 ∧ Rv.ev a 62 = y62 ∧ Rv.ev a 63 = y63 ∧ Rv.ev a 64 = y64 ∧ Rv.ev a 65 = y65 ∧ Rv.ev a 66 = y66 ∧ Rv.ev a 67 = y67 ∧ Rv.ev a 68 = y68 ∧ Rv.ev a 69 = y69 ∧ Rv.ev a 70 = y70 ∧ Rv.ev a 71 = y71 ∧ Rv.ev a 72 = y72 ∧ Rv.ev a 73 = y73 ∧ Rv.ev a 74 = y74 ∧ Rv.ev a 75 = y75 ∧ Rv.ev a 76 = y76 ∧ Rv.ev a 77 = y77) ∧ a = { tmps := #[x0, x1, x2, x3, y4, x5, x6, x7, x8, x9, x10, x11, x12, x13, x14, x15, x16, x17, x18, x19, x20, x21, x22, x23, x24, x25, x26, x27, x28, x29, x30, x31, x32, x33, x34, x35, x36, x37, x38, x39, x40, x41, x42, x43, x44, x45, x46, x47, x48, x49, x50, x51, x52, x53, x54, y55, y56, y57, y58, y59, y60, y61, y62, y63, y64, y65, y66, y67, y68, y69, y70, y71, y72, y73, y74, y75, y76, y77, x78, x79, x80, x81, x82, x83, x84, x85, x86, x87, x88, x89, x90, x91, x92, x93, x94, x95, x96, x97, x98, x99, x100, x101, x102], defers := [] } := by
  refine ⟨Rv.ev a 4, Rv.ev a 55, Rv.ev a 56, Rv.ev a 57, Rv.ev a 58, Rv.ev a 59, Rv.ev a 60, Rv.ev a 61, Rv.ev a 62, Rv.ev a 63, Rv.ev a 64, Rv.ev a 65, Rv.ev a 66, Rv.ev a 67, Rv.ev a 68, Rv.ev a 69, Rv.ev a 70, Rv.ev a 71, Rv.ev a 72, Rv.ev a 73, Rv.ev a 74, Rv.ev a 75, Rv.ev a 76, Rv.ev a 77, ⟨rfl, rfl, rfl, rfl, rfl, rfl, rfl, rfl, rfl, rfl, rfl, rfl, rfl, rfl, rfl, rfl, rfl, rfl, rfl, rfl, rfl, rfl, rfl, rfl⟩, ?_⟩
  have e := tmps103 a h.size
  rw [lit103] at e
  have h0 : Rv.ev a 0 = x0 := h.same 0 (by decide)
  have h1 : Rv.ev a 1 = x1 := h.same 1 (by decide)
  have h2 : Rv.ev a 2 = x2 := h.same 2 (by decide)
  have h3 : Rv.ev a 3 = x3 := h.same 3 (by decide)
  have h5 : Rv.ev a 5 = x5 := h.same 5 (by decide)
  have h6 : Rv.ev a 6 = x6 := h.same 6 (by decide)
  have h7 : Rv.ev a 7 = x7 := h.same 7 (by decide)
  have h8 : Rv.ev a 8 = x8 := h.same 8 (by decide)
  have h9 : Rv.ev a 9 = x9 := h.same 9 (by decide)
  have h10 : Rv.ev a 10 = x10 := h.same 10 (by decide)
  have h11 : Rv.ev a 11 = x11 := h.same 11 (by decide)
  have h12 : Rv.ev a 12 = x12 := h.same 12 (by decide)
  have h13 : Rv.ev a 13 = x13 := h.same 13 (by decide)
  have h14 : Rv.ev a 14 = x14 := h.same 14 (by decide)
  have h15 : Rv.ev a 15 = x15 := h.same 15 (by decide)
  have h16 : Rv.ev a 16 = x16 := h.same 16 (by decide)
  have h17 : Rv.ev a 17 = x17 := h.same 17 (by decide)
  have h18 : Rv.ev a 18 = x18 := h.same 18 (by decide)
  have h19 : Rv.ev a 19 = x19 := h.same 19 (by decide)
  have h20 : Rv.ev a 20 = x20 := h.same 20 (by decide)
  have h21 : Rv.ev a 21 = x21 := h.same 21 (by decide)
  have h22 : Rv.ev a 22 = x22 := h.same 22 (by decide)
  have h23 : Rv.ev a 23 = x23 := h.same 23 (by decide)
  have h24 : Rv.ev a 24 = x24 := h.same 24 (by decide)
  have h25 : Rv.ev a 25 = x25 := h.same 25 (by decide)
  have h26 : Rv.ev a 26 = x26 := h.same 26 (by decide)
  have h27 : Rv.ev a 27 = x27 := h.same 27 (by decide)
  have h28 : Rv.ev a 28 = x28 := h.same 28 (by decide)
  have h29 : Rv.ev a 29 = x29 := h.same 29 (by decide)
  have h30 : Rv.ev a 30 = x30 := h.same 30 (by decide)
  have h31 : Rv.ev a 31 = x31 := h.same 31 (by decide)
  have h32 : Rv.ev a 32 = x32 := h.same 32 (by decide)
  have h33 : Rv.ev a 33 = x33 := h.same 33 (by decide)
  have h34 : Rv.ev a 34 = x34 := h.same 34 (by decide)
  have h35 : Rv.ev a 35 = x35 := h.same 35 (by decide)
  have h36 : Rv.ev a 36 = x36 := h.same 36 (by decide)
  have h37 : Rv.ev a 37 = x37 := h.same 37 (by decide)
  have h38 : Rv.ev a 38 = x38 := h.same 38 (by decide)
  have h39 : Rv.ev a 39 = x39 := h.same 39 (by decide)
  have h40 : Rv.ev a 40 = x40 := h.same 40 (by decide)
  have h41 : Rv.ev a 41 = x41 := h.same 41 (by decide)
  have h42 : Rv.ev a 42 = x42 := h.same 42 (by decide)
  have h43 : Rv.ev a 43 = x43 := h.same 43 (by decide)
  have h44 : Rv.ev a 44 = x44 := h.same 44 (by decide)
  have h45 : Rv.ev a 45 = x45 := h.same 45 (by decide)
  have h46 : Rv.ev a 46 = x46 := h.same 46 (by decide)
  have h47 : Rv.ev a 47 = x47 := h.same 47 (by decide)
  have h48 : Rv.ev a 48 = x48 := h.same 48 (by decide)
  have h49 : Rv.ev a 49 = x49 := h.same 49 (by decide)
  have h50 : Rv.ev a 50 = x50 := h.same 50 (by decide)
  have h51 : Rv.ev a 51 = x51 := h.same 51 (by decide)
  have h52 : Rv.ev a 52 = x52 := h.same 52 (by decide)
  have h53 : Rv.ev a 53 = x53 := h.same 53 (by decide)
  have h54 : Rv.ev a 54 = x54 := h.same 54 (by decide)
  have h78 : Rv.ev a 78 = x78 := h.same 78 (by decide)
  have h79 : Rv.ev a 79 = x79 := h.same 79 (by decide)
  have h80 : Rv.ev a 80 = x80 := h.same 80 (by decide)
  have h81 : Rv.ev a 81 = x81 := h.same 81 (by decide)
  have h82 : Rv.ev a 82 = x82 := h.same 82 (by decide)
  have h83 : Rv.ev a 83 = x83 := h.same 83 (by decide)
  have h84 : Rv.ev a 84 = x84 := h.same 84 (by decide)
  have h85 : Rv.ev a 85 = x85 := h.same 85 (by decide)
  have h86 : Rv.ev a 86 = x86 := h.same 86 (by decide)
  have h87 : Rv.ev a 87 = x87 := h.same 87 (by decide)
  have h88 : Rv.ev a 88 = x88 := h.same 88 (by decide)
  have h89 : Rv.ev a 89 = x89 := h.same 89 (by decide)
  have h90 : Rv.ev a 90 = x90 := h.same 90 (by decide)
  have h91 : Rv.ev a 91 = x91 := h.same 91 (by decide)
  have h92 : Rv.ev a 92 = x92 := h.same 92 (by decide)
  have h93 : Rv.ev a 93 = x93 := h.same 93 (by decide)
  have h94 : Rv.ev a 94 = x94 := h.same 94 (by decide)
  have h95 : Rv.ev a 95 = x95 := h.same 95 (by decide)
  have h96 : Rv.ev a 96 = x96 := h.same 96 (by decide)
  have h97 : Rv.ev a 97 = x97 := h.same 97 (by decide)
  have h98 : Rv.ev a 98 = x98 := h.same 98 (by decide)
  have h99 : Rv.ev a 99 = x99 := h.same 99 (by decide)
  have h100 : Rv.ev a 100 = x100 := h.same 100 (by decide)
  have h101 : Rv.ev a 101 = x101 := h.same 101 (by decide)
  have h102 : Rv.ev a 102 = x102 := h.same 102 (by decide)
  rw [h0, h1, h2, h3, h5, h6, h7, h8, h9, h10, h11, h12, h13, h14, h15, h16, h17, h18, h19, h20, h21, h22, h23, h24, h25, h26, h27, h28, h29, h30, h31, h32, h33, h34, h35, h36, h37, h38, h39, h40, h41, h42, h43, h44, h45, h46, h47, h48, h49, h50, h51, h52, h53, h54, h78, h79, h80, h81, h82, h83, h84, h85, h86, h87, h88, h89, h90, h91, h92, h93, h94, h95, h96, h97, h98, h99, h100, h101, h102] at e
  have hd : a.defers = [] := h.def_
  cases a
  simp only at e hd
  rw [hd]
  exact congrArg (fun t => ({ tmps := t, defers := [] } : Act)) e
def cj0 : Oper := { dst := some 80, op := Op.fieldAddr 55 (Operand.tmp 3) 1, type := 0, pos := "ref.go:50", after := #[], guard := none }
def cj1 : Oper := { dst := some 81, op := Op.load 53 (Operand.tmp 80), type := 53, pos := "ref.go:50", after := #[{ on := 0, ground := Ground.data }], guard := none }
def cj2 : Oper := { dst := some 82, op := Op.call { callee := Callee.value (Operand.func 41), args := #[Operand.tmp 81], argTypes := #[53] }, type := 4, pos := "ref.go:50", after := #[{ on := 1, ground := Ground.data }], guard := none }
def cj3 : Oper := { dst := some 83, op := Op.move (Operand.tmp 82), type := 4, pos := "ref.go:50", after := #[{ on := 2, ground := Ground.data }, { on := 2, ground := Ground.chain }], guard := none }
def cj4 : Oper := { dst := some 84, op := Op.fieldAddr 55 (Operand.tmp 3) 2, type := 0, pos := "ref.go:50", after := #[{ on := 3, ground := Ground.guard }], guard := some (3, true) }
def cj5 : Oper := { dst := some 85, op := Op.load 4 (Operand.tmp 84), type := 4, pos := "ref.go:50", after := #[{ on := 4, ground := Ground.data }, { on := 3, ground := Ground.guard }], guard := some (3, true) }
def cj6 : Oper := { dst := some 86, op := Op.unOp UnOp.not 4 (Operand.tmp 85), type := 4, pos := "ref.go:50", after := #[{ on := 5, ground := Ground.data }, { on := 3, ground := Ground.guard }], guard := some (3, true) }
def cj7 : Oper := { dst := some 87, op := Op.pick (Operand.tmp 83) (Operand.tmp 86) (Operand.const (Value.bool false)), type := 4, pos := "ref.go:50", after := #[{ on := 3, ground := Ground.data }, { on := 6, ground := Ground.data }], guard := none }
def cj8 : Oper := { dst := some 88, op := Op.move (Operand.tmp 87), type := 4, pos := "ref.go:50", after := #[{ on := 7, ground := Ground.data }, { on := 3, ground := Ground.chain }], guard := none }
def cj9 : Oper := { dst := some 89, op := Op.fieldAddr 55 (Operand.tmp 3) 3, type := 0, pos := "ref.go:50", after := #[{ on := 8, ground := Ground.guard }], guard := some (8, true) }
def cj10 : Oper := { dst := some 90, op := Op.load 3 (Operand.tmp 89), type := 3, pos := "ref.go:50", after := #[{ on := 9, ground := Ground.data }, { on := 8, ground := Ground.guard }], guard := some (8, true) }
def cj11 : Oper := { dst := some 91, op := Op.binOp BinOp.geq 3 (Operand.tmp 90) (Operand.const (Value.int IntKind.i64 0)) 3, type := 4, pos := "ref.go:50", after := #[{ on := 10, ground := Ground.data }, { on := 8, ground := Ground.guard }], guard := some (8, true) }
def cj12 : Oper := { dst := some 92, op := Op.pick (Operand.tmp 88) (Operand.tmp 91) (Operand.const (Value.bool false)), type := 4, pos := "ref.go:50", after := #[{ on := 8, ground := Ground.data }, { on := 11, ground := Ground.data }], guard := none }
def cj13 : Oper := { dst := some 93, op := Op.move (Operand.tmp 92), type := 4, pos := "ref.go:50", after := #[{ on := 12, ground := Ground.data }, { on := 8, ground := Ground.chain }], guard := none }
def cj14 : Oper := { dst := some 94, op := Op.fieldAddr 55 (Operand.tmp 3) 3, type := 0, pos := "ref.go:50", after := #[{ on := 13, ground := Ground.guard }], guard := some (13, true) }
def cj15 : Oper := { dst := some 95, op := Op.load 3 (Operand.tmp 94), type := 3, pos := "ref.go:50", after := #[{ on := 14, ground := Ground.data }, { on := 13, ground := Ground.guard }], guard := some (13, true) }
def cj16 : Oper := { dst := some 96, op := Op.move (Operand.tmp 0), type := 26, pos := "ref.go:50", after := #[{ on := 13, ground := Ground.guard }], guard := some (13, true) }
def cj17 : Oper := { dst := some 97, op := Op.nilCheck (Operand.tmp 96), type := 0, pos := "ref.go:50", after := #[{ on := 16, ground := Ground.data }, { on := 13, ground := Ground.guard }], guard := some (13, true) }
def cj18 : Oper := { dst := some 98, op := Op.fieldAddr 30 (Operand.tmp 97) 0, type := 0, pos := "ref.go:50", after := #[{ on := 17, ground := Ground.data }, { on := 13, ground := Ground.guard }], guard := some (13, true) }
def cj19 : Oper := { dst := some 99, op := Op.load 27 (Operand.tmp 98), type := 27, pos := "ref.go:50", after := #[{ on := 18, ground := Ground.data }, { on := 13, ground := Ground.guard }], guard := some (13, true) }
def cj20 : Oper := { dst := some 100, op := Op.call { callee := Callee.builtin Builtin.len, args := #[Operand.tmp 99], argTypes := #[27] }, type := 3, pos := "ref.go:50", after := #[{ on := 19, ground := Ground.data }, { on := 13, ground := Ground.guard }], guard := some (13, true) }
def cj21 : Oper := { dst := some 101, op := Op.binOp BinOp.lss 3 (Operand.tmp 95) (Operand.tmp 100) 3, type := 4, pos := "ref.go:50", after := #[{ on := 15, ground := Ground.data }, { on := 20, ground := Ground.data }, { on := 13, ground := Ground.guard }], guard := some (13, true) }
def cj22 : Oper := { dst := some 102, op := Op.pick (Operand.tmp 93) (Operand.tmp 101) (Operand.const (Value.bool false)), type := 4, pos := "ref.go:50", after := #[{ on := 13, ground := Ground.data }, { on := 21, ground := Ground.data }], guard := none }
def cj23 : Oper := { dst := some 4, op := Op.assign (Operand.tmp 102), type := 4, pos := "ref.go:50", after := #[{ on := 22, ground := Ground.data }, { on := 13, ground := Ground.chain }, { on := 0, ground := Ground.phase }, { on := 1, ground := Ground.phase }, { on := 2, ground := Ground.phase }, { on := 3, ground := Ground.phase }, { on := 4, ground := Ground.phase }, { on := 5, ground := Ground.phase }, { on := 6, ground := Ground.phase }, { on := 7, ground := Ground.phase }, { on := 8, ground := Ground.phase }, { on := 9, ground := Ground.phase }, { on := 10, ground := Ground.phase }, { on := 11, ground := Ground.phase }, { on := 12, ground := Ground.phase }, { on := 13, ground := Ground.phase }, { on := 14, ground := Ground.phase }, { on := 15, ground := Ground.phase }, { on := 16, ground := Ground.phase }, { on := 17, ground := Ground.phase }, { on := 18, ground := Ground.phase }, { on := 19, ground := Ground.phase }, { on := 20, ground := Ground.phase }, { on := 21, ground := Ground.phase }, { on := 22, ground := Ground.phase }], guard := none }
def cjops : Array Oper := #[cj0, cj1, cj2, cj3, cj4, cj5, cj6, cj7, cj8, cj9, cj10, cj11, cj12, cj13, cj14, cj15, cj16, cj17, cj18, cj19, cj20, cj21, cj22, cj23]
def cjsl (k : Nat) : Nat := if k = 23 then 4 else 80 + k
def cjV (X x y : Nat) : Nat → Value
  | 0 => .pointer (some ⟨X, 1, none⟩)
  | 1 => .complex .f64 x y
  | 2 => .bool false
  | 3 => .bool false
  | 4 => undef
  | 5 => undef
  | 6 => undef
  | 7 => .bool false
  | 8 => .bool false
  | 9 => undef
  | 10 => undef
  | 11 => undef
  | 12 => .bool false
  | 13 => .bool false
  | 14 => undef
  | 15 => undef
  | 16 => undef
  | 17 => undef
  | 18 => undef
  | 19 => undef
  | 20 => undef
  | 21 => undef
  | 22 => .bool false
  | _ => .bool false
section
variable {Q : Exit → Act → World → Prop} {X0 w0 : World} {a0 : Act}
set_option maxHeartbeats 4000000 in
theorem rc12a {X b n cap x y : Nat} {ao : Option Addr} {z : Int} {r : Bool} (hc : ∀ w, Below X0.heap.size X0 w → w.cell? ⟨X, 1, none⟩ = some (.complex .f64 x y) ∧ w.cell? ⟨X, 2, none⟩ = some (.bool r) ∧ w.cell? ⟨X, 3, none⟩ = some (.int .i64 z) ∧ w.cell? ⟨b, 0, none⟩ = some (.slice ao n cap)) (hz : ∀ w, Below X0.heap.size X0 w → Calls Try.prog 41 #[.complex .f64 x y] w fun e w' => e = .returned (.bool false) ∧ Below w.heap.size w w') (hs : 103 ≤ a0.tmps.size)
    (e3 : Rv.ev a0 3 = .pointer (some ⟨X, 0, none⟩))
    (e0 : Rv.ev a0 0 = .pointer (some ⟨b, 0, none⟩))
    (hw : Below X0.heap.size X0 w0)
    (hQ : ∀ a w, Rv.Off 24 cjsl a0 a → Below X0.heap.size X0 w → (∀ j, j < 24 → Rv.ev a (cjsl j) = (cjV X x y) j) → Q .normal a w) :
    wpAny Try.prog .any cjops Q 24 (Array.replicate 24 false) a0 w0 := by
  refine Rv.region (X0 := X0) 24 cjsl (cjV X x y) rfl (by decide) (by decide) (fun j hj => Nat.lt_of_lt_of_le ((by decide : ∀ j, j < 24 → cjsl j < 103) j hj) hs) hw ?_ hQ
  intro i a W hi hO hW hd
  have hev : ∀ j, a.eval (.tmp j) = Rv.ev a j := fun _ => rfl
  have hcn : ∀ v, a.eval (.const v) = v := fun _ => rfl
  have hfn : ∀ v, a.eval (.func v) = .func (.func v) #[] #[] := fun _ => rfl
  have hsz : ∀ k, k < 103 → k < a.tmps.size := fun k hk => by rw [hO.size]; omega
  have g3 : Rv.ev a 3 = .pointer (some ⟨X, 0, none⟩) := (hO.same 3 (by decide)).trans e3
  have g0 : Rv.ev a 0 = .pointer (some ⟨b, 0, none⟩) := (hO.same 0 (by decide)).trans e0
  obtain ⟨r1, r2, r3, r4⟩ := hc W hW
  have hN : i = 0 ∨ i = 1 ∨ i = 2 ∨ i = 3 ∨ i = 4 ∨ i = 5 ∨ i = 6 ∨ i = 7 ∨ i = 8 ∨ i = 9 ∨ i = 10 ∨ i = 11 ∨ i = 12 ∨ i = 13 ∨ i = 14 ∨ i = 15 ∨ i = 16 ∨ i = 17 ∨ i = 18 ∨ i = 19 ∨ i = 20 ∨ i = 21 ∨ i = 22 ∨ i = 23 := by omega
  rcases hN with rfl | rfl | rfl | rfl | rfl | rfl | rfl | rfl | rfl | rfl | rfl | rfl | rfl | rfl | rfl | rfl | rfl | rfl | rfl | rfl | rfl | rfl | rfl | rfl
  · exact Rv.run (o := cj0) rfl rfl (Rv.want_free rfl) (by unfold cj0; simp only [execOp, hev, g3]; go_simp <;> rfl) hW
  · have d80 : Rv.ev a 80 = .pointer (some ⟨X, 1, none⟩) := hd 0 (by decide)
    exact Rv.run (o := cj1) rfl rfl (Rv.want_free rfl) (by unfold cj1; simp only [execOp, hev, d80]; go_simp <;> rfl) hW
  · have d81 : Rv.ev a 81 = .complex .f64 x y := hd 1 (by decide)
    refine Rv.call (o := cj2) (f := 41) (vs := #[.complex .f64 x y]) rfl rfl (Rv.want_free rfl) ?_ hW (hz W hW)
    unfold cj2
    simp only [execOp, resolve, invoke, Sem.run_bind, List.map_toArray, List.map_cons, List.map_nil, hev, hfn, d81]
    go_simp
  · have d82 : Rv.ev a 82 = .bool false := hd 2 (by decide)
    exact Rv.run (o := cj3) rfl rfl (Rv.want_free rfl) (by unfold cj3; simp only [execOp, hev, d82]; rfl) hW
  · have dg : Rv.ev a 83 = .bool false := hd 3 (by decide)
    exact Rv.skip (o := cj4) rfl rfl (by rw [Rv.want_if (o' := cj3) rfl rfl rfl (hsz 83 (by decide)) dg]; first | rfl | simp) hW
  · have d84 : Rv.ev a 84 = undef := hd 4 (by decide)
    have dg : Rv.ev a 83 = .bool false := hd 3 (by decide)
    exact Rv.skip (o := cj5) rfl rfl (by rw [Rv.want_if (o' := cj3) rfl rfl rfl (hsz 83 (by decide)) dg]; first | rfl | simp) hW
  · have d85 : Rv.ev a 85 = undef := hd 5 (by decide)
    have dg : Rv.ev a 83 = .bool false := hd 3 (by decide)
    exact Rv.skip (o := cj6) rfl rfl (by rw [Rv.want_if (o' := cj3) rfl rfl rfl (hsz 83 (by decide)) dg]; first | rfl | simp) hW
  · have d83 : Rv.ev a 83 = .bool false := hd 3 (by decide)
    have d86 : Rv.ev a 86 = undef := hd 6 (by decide)
    exact Rv.run (o := cj7) rfl rfl (Rv.want_free rfl) (by unfold cj7; simp only [execOp, hev, hcn, d83, d86]; go_simp <;> rfl) hW
  · have d87 : Rv.ev a 87 = .bool false := hd 7 (by decide)
    exact Rv.run (o := cj8) rfl rfl (Rv.want_free rfl) (by unfold cj8; simp only [execOp, hev, d87]; rfl) hW
  · have dg : Rv.ev a 88 = .bool false := hd 8 (by decide)
    exact Rv.skip (o := cj9) rfl rfl (by rw [Rv.want_if (o' := cj8) rfl rfl rfl (hsz 88 (by decide)) dg]; first | rfl | simp) hW
  · have d89 : Rv.ev a 89 = undef := hd 9 (by decide)
    have dg : Rv.ev a 88 = .bool false := hd 8 (by decide)
    exact Rv.skip (o := cj10) rfl rfl (by rw [Rv.want_if (o' := cj8) rfl rfl rfl (hsz 88 (by decide)) dg]; first | rfl | simp) hW
  · have d90 : Rv.ev a 90 = undef := hd 10 (by decide)
    have dg : Rv.ev a 88 = .bool false := hd 8 (by decide)
    exact Rv.skip (o := cj11) rfl rfl (by rw [Rv.want_if (o' := cj8) rfl rfl rfl (hsz 88 (by decide)) dg]; first | rfl | simp) hW
  · have d88 : Rv.ev a 88 = .bool false := hd 8 (by decide)
    have d91 : Rv.ev a 91 = undef := hd 11 (by decide)
    exact Rv.run (o := cj12) rfl rfl (Rv.want_free rfl) (by unfold cj12; simp only [execOp, hev, hcn, d88, d91]; go_simp <;> rfl) hW
  · have d92 : Rv.ev a 92 = .bool false := hd 12 (by decide)
    exact Rv.run (o := cj13) rfl rfl (Rv.want_free rfl) (by unfold cj13; simp only [execOp, hev, d92]; rfl) hW
  · have dg : Rv.ev a 93 = .bool false := hd 13 (by decide)
    exact Rv.skip (o := cj14) rfl rfl (by rw [Rv.want_if (o' := cj13) rfl rfl rfl (hsz 93 (by decide)) dg]; first | rfl | simp) hW
  · have d94 : Rv.ev a 94 = undef := hd 14 (by decide)
    have dg : Rv.ev a 93 = .bool false := hd 13 (by decide)
    exact Rv.skip (o := cj15) rfl rfl (by rw [Rv.want_if (o' := cj13) rfl rfl rfl (hsz 93 (by decide)) dg]; first | rfl | simp) hW
  · have dg : Rv.ev a 93 = .bool false := hd 13 (by decide)
    exact Rv.skip (o := cj16) rfl rfl (by rw [Rv.want_if (o' := cj13) rfl rfl rfl (hsz 93 (by decide)) dg]; first | rfl | simp) hW
  · have d96 : Rv.ev a 96 = undef := hd 16 (by decide)
    have dg : Rv.ev a 93 = .bool false := hd 13 (by decide)
    exact Rv.skip (o := cj17) rfl rfl (by rw [Rv.want_if (o' := cj13) rfl rfl rfl (hsz 93 (by decide)) dg]; first | rfl | simp) hW
  · have d97 : Rv.ev a 97 = undef := hd 17 (by decide)
    have dg : Rv.ev a 93 = .bool false := hd 13 (by decide)
    exact Rv.skip (o := cj18) rfl rfl (by rw [Rv.want_if (o' := cj13) rfl rfl rfl (hsz 93 (by decide)) dg]; first | rfl | simp) hW
  · have d98 : Rv.ev a 98 = undef := hd 18 (by decide)
    have dg : Rv.ev a 93 = .bool false := hd 13 (by decide)
    exact Rv.skip (o := cj19) rfl rfl (by rw [Rv.want_if (o' := cj13) rfl rfl rfl (hsz 93 (by decide)) dg]; first | rfl | simp) hW
  · have d99 : Rv.ev a 99 = undef := hd 19 (by decide)
    have dg : Rv.ev a 93 = .bool false := hd 13 (by decide)
    exact Rv.skip (o := cj20) rfl rfl (by rw [Rv.want_if (o' := cj13) rfl rfl rfl (hsz 93 (by decide)) dg]; first | rfl | simp) hW
  · have d95 : Rv.ev a 95 = undef := hd 15 (by decide)
    have d100 : Rv.ev a 100 = undef := hd 20 (by decide)
    have dg : Rv.ev a 93 = .bool false := hd 13 (by decide)
    exact Rv.skip (o := cj21) rfl rfl (by rw [Rv.want_if (o' := cj13) rfl rfl rfl (hsz 93 (by decide)) dg]; first | rfl | simp) hW
  · have d93 : Rv.ev a 93 = .bool false := hd 13 (by decide)
    have d101 : Rv.ev a 101 = undef := hd 21 (by decide)
    exact Rv.run (o := cj22) rfl rfl (Rv.want_free rfl) (by unfold cj22; simp only [execOp, hev, hcn, d93, d101]; go_simp <;> rfl) hW
  · have d102 : Rv.ev a 102 = .bool false := hd 22 (by decide)
    exact Rv.run (o := cj23) rfl rfl (Rv.want_free rfl) (by unfold cj23; simp only [execOp, hev, d102]; rfl) hW
end
def rc12bV (X x y : Nat) : Nat → Value
  | 0 => .pointer (some ⟨X, 1, none⟩)
  | 1 => .complex .f64 x y
  | 2 => .bool true
  | 3 => .bool true
  | 4 => .pointer (some ⟨X, 2, none⟩)
  | 5 => .bool true
  | 6 => .bool false
  | 7 => .bool false
  | 8 => .bool false
  | 9 => undef
  | 10 => undef
  | 11 => undef
  | 12 => .bool false
  | 13 => .bool false
  | 14 => undef
  | 15 => undef
  | 16 => undef
  | 17 => undef
  | 18 => undef
  | 19 => undef
  | 20 => undef
  | 21 => undef
  | 22 => .bool false
  | _ => .bool false
section
variable {Q : Exit → Act → World → Prop} {X0 w0 : World} {a0 : Act}
set_option maxHeartbeats 4000000 in
theorem rc12b {X b n cap x y : Nat} {ao : Option Addr} {z : Int} (hc : ∀ w, Below X0.heap.size X0 w → w.cell? ⟨X, 1, none⟩ = some (.complex .f64 x y) ∧ w.cell? ⟨X, 2, none⟩ = some (.bool true) ∧ w.cell? ⟨X, 3, none⟩ = some (.int .i64 z) ∧ w.cell? ⟨b, 0, none⟩ = some (.slice ao n cap)) (hz : ∀ w, Below X0.heap.size X0 w → Calls Try.prog 41 #[.complex .f64 x y] w fun e w' => e = .returned (.bool true) ∧ Below w.heap.size w w') (hs : 103 ≤ a0.tmps.size)
    (e3 : Rv.ev a0 3 = .pointer (some ⟨X, 0, none⟩))
    (e0 : Rv.ev a0 0 = .pointer (some ⟨b, 0, none⟩))
    (hw : Below X0.heap.size X0 w0)
    (hQ : ∀ a w, Rv.Off 24 cjsl a0 a → Below X0.heap.size X0 w → (∀ j, j < 24 → Rv.ev a (cjsl j) = (rc12bV X x y) j) → Q .normal a w) :
    wpAny Try.prog .any cjops Q 24 (Array.replicate 24 false) a0 w0 := by
  refine Rv.region (X0 := X0) 24 cjsl (rc12bV X x y) rfl (by decide) (by decide) (fun j hj => Nat.lt_of_lt_of_le ((by decide : ∀ j, j < 24 → cjsl j < 103) j hj) hs) hw ?_ hQ
  intro i a W hi hO hW hd
  have hev : ∀ j, a.eval (.tmp j) = Rv.ev a j := fun _ => rfl
  have hcn : ∀ v, a.eval (.const v) = v := fun _ => rfl
  have hfn : ∀ v, a.eval (.func v) = .func (.func v) #[] #[] := fun _ => rfl
  have hsz : ∀ k, k < 103 → k < a.tmps.size := fun k hk => by rw [hO.size]; omega
  have g3 : Rv.ev a 3 = .pointer (some ⟨X, 0, none⟩) := (hO.same 3 (by decide)).trans e3
  have g0 : Rv.ev a 0 = .pointer (some ⟨b, 0, none⟩) := (hO.same 0 (by decide)).trans e0
  obtain ⟨r1, r2, r3, r4⟩ := hc W hW
  have hN : i = 0 ∨ i = 1 ∨ i = 2 ∨ i = 3 ∨ i = 4 ∨ i = 5 ∨ i = 6 ∨ i = 7 ∨ i = 8 ∨ i = 9 ∨ i = 10 ∨ i = 11 ∨ i = 12 ∨ i = 13 ∨ i = 14 ∨ i = 15 ∨ i = 16 ∨ i = 17 ∨ i = 18 ∨ i = 19 ∨ i = 20 ∨ i = 21 ∨ i = 22 ∨ i = 23 := by omega
  rcases hN with rfl | rfl | rfl | rfl | rfl | rfl | rfl | rfl | rfl | rfl | rfl | rfl | rfl | rfl | rfl | rfl | rfl | rfl | rfl | rfl | rfl | rfl | rfl | rfl
  · exact Rv.run (o := cj0) rfl rfl (Rv.want_free rfl) (by unfold cj0; simp only [execOp, hev, g3]; go_simp <;> rfl) hW
  · have d80 : Rv.ev a 80 = .pointer (some ⟨X, 1, none⟩) := hd 0 (by decide)
    exact Rv.run (o := cj1) rfl rfl (Rv.want_free rfl) (by unfold cj1; simp only [execOp, hev, d80]; go_simp <;> rfl) hW
  · have d81 : Rv.ev a 81 = .complex .f64 x y := hd 1 (by decide)
    refine Rv.call (o := cj2) (f := 41) (vs := #[.complex .f64 x y]) rfl rfl (Rv.want_free rfl) ?_ hW (hz W hW)
    unfold cj2
    simp only [execOp, resolve, invoke, Sem.run_bind, List.map_toArray, List.map_cons, List.map_nil, hev, hfn, d81]
    go_simp
  · have d82 : Rv.ev a 82 = .bool true := hd 2 (by decide)
    exact Rv.run (o := cj3) rfl rfl (Rv.want_free rfl) (by unfold cj3; simp only [execOp, hev, d82]; rfl) hW
  · have dg : Rv.ev a 83 = .bool true := hd 3 (by decide)
    exact Rv.run (o := cj4) rfl rfl (by rw [Rv.want_if (o' := cj3) rfl rfl rfl (hsz 83 (by decide)) dg]; first | rfl | simp) (by unfold cj4; simp only [execOp, hev, g3]; go_simp <;> rfl) hW
  · have d84 : Rv.ev a 84 = .pointer (some ⟨X, 2, none⟩) := hd 4 (by decide)
    have dg : Rv.ev a 83 = .bool true := hd 3 (by decide)
    exact Rv.run (o := cj5) rfl rfl (by rw [Rv.want_if (o' := cj3) rfl rfl rfl (hsz 83 (by decide)) dg]; first | rfl | simp) (by unfold cj5; simp only [execOp, hev, d84]; go_simp <;> rfl) hW
  · have d85 : Rv.ev a 85 = .bool true := hd 5 (by decide)
    have dg : Rv.ev a 83 = .bool true := hd 3 (by decide)
    exact Rv.run (o := cj6) rfl rfl (by rw [Rv.want_if (o' := cj3) rfl rfl rfl (hsz 83 (by decide)) dg]; first | rfl | simp) (by unfold cj6; simp only [execOp, hev, d85]; go_simp <;> rfl) hW
  · have d83 : Rv.ev a 83 = .bool true := hd 3 (by decide)
    have d86 : Rv.ev a 86 = .bool false := hd 6 (by decide)
    exact Rv.run (o := cj7) rfl rfl (Rv.want_free rfl) (by unfold cj7; simp only [execOp, hev, hcn, d83, d86]; go_simp <;> rfl) hW
  · have d87 : Rv.ev a 87 = .bool false := hd 7 (by decide)
    exact Rv.run (o := cj8) rfl rfl (Rv.want_free rfl) (by unfold cj8; simp only [execOp, hev, d87]; rfl) hW
  · have dg : Rv.ev a 88 = .bool false := hd 8 (by decide)
    exact Rv.skip (o := cj9) rfl rfl (by rw [Rv.want_if (o' := cj8) rfl rfl rfl (hsz 88 (by decide)) dg]; first | rfl | simp) hW
  · have d89 : Rv.ev a 89 = undef := hd 9 (by decide)
    have dg : Rv.ev a 88 = .bool false := hd 8 (by decide)
    exact Rv.skip (o := cj10) rfl rfl (by rw [Rv.want_if (o' := cj8) rfl rfl rfl (hsz 88 (by decide)) dg]; first | rfl | simp) hW
  · have d90 : Rv.ev a 90 = undef := hd 10 (by decide)
    have dg : Rv.ev a 88 = .bool false := hd 8 (by decide)
    exact Rv.skip (o := cj11) rfl rfl (by rw [Rv.want_if (o' := cj8) rfl rfl rfl (hsz 88 (by decide)) dg]; first | rfl | simp) hW
  · have d88 : Rv.ev a 88 = .bool false := hd 8 (by decide)
    have d91 : Rv.ev a 91 = undef := hd 11 (by decide)
    exact Rv.run (o := cj12) rfl rfl (Rv.want_free rfl) (by unfold cj12; simp only [execOp, hev, hcn, d88, d91]; go_simp <;> rfl) hW
  · have d92 : Rv.ev a 92 = .bool false := hd 12 (by decide)
    exact Rv.run (o := cj13) rfl rfl (Rv.want_free rfl) (by unfold cj13; simp only [execOp, hev, d92]; rfl) hW
  · have dg : Rv.ev a 93 = .bool false := hd 13 (by decide)
    exact Rv.skip (o := cj14) rfl rfl (by rw [Rv.want_if (o' := cj13) rfl rfl rfl (hsz 93 (by decide)) dg]; first | rfl | simp) hW
  · have d94 : Rv.ev a 94 = undef := hd 14 (by decide)
    have dg : Rv.ev a 93 = .bool false := hd 13 (by decide)
    exact Rv.skip (o := cj15) rfl rfl (by rw [Rv.want_if (o' := cj13) rfl rfl rfl (hsz 93 (by decide)) dg]; first | rfl | simp) hW
  · have dg : Rv.ev a 93 = .bool false := hd 13 (by decide)
    exact Rv.skip (o := cj16) rfl rfl (by rw [Rv.want_if (o' := cj13) rfl rfl rfl (hsz 93 (by decide)) dg]; first | rfl | simp) hW
  · have d96 : Rv.ev a 96 = undef := hd 16 (by decide)
    have dg : Rv.ev a 93 = .bool false := hd 13 (by decide)
    exact Rv.skip (o := cj17) rfl rfl (by rw [Rv.want_if (o' := cj13) rfl rfl rfl (hsz 93 (by decide)) dg]; first | rfl | simp) hW
  · have d97 : Rv.ev a 97 = undef := hd 17 (by decide)
    have dg : Rv.ev a 93 = .bool false := hd 13 (by decide)
    exact Rv.skip (o := cj18) rfl rfl (by rw [Rv.want_if (o' := cj13) rfl rfl rfl (hsz 93 (by decide)) dg]; first | rfl | simp) hW
  · have d98 : Rv.ev a 98 = undef := hd 18 (by decide)
    have dg : Rv.ev a 93 = .bool false := hd 13 (by decide)
    exact Rv.skip (o := cj19) rfl rfl (by rw [Rv.want_if (o' := cj13) rfl rfl rfl (hsz 93 (by decide)) dg]; first | rfl | simp) hW
  · have d99 : Rv.ev a 99 = undef := hd 19 (by decide)
    have dg : Rv.ev a 93 = .bool false := hd 13 (by decide)
    exact Rv.skip (o := cj20) rfl rfl (by rw [Rv.want_if (o' := cj13) rfl rfl rfl (hsz 93 (by decide)) dg]; first | rfl | simp) hW
  · have d95 : Rv.ev a 95 = undef := hd 15 (by decide)
    have d100 : Rv.ev a 100 = undef := hd 20 (by decide)
    have dg : Rv.ev a 93 = .bool false := hd 13 (by decide)
    exact Rv.skip (o := cj21) rfl rfl (by rw [Rv.want_if (o' := cj13) rfl rfl rfl (hsz 93 (by decide)) dg]; first | rfl | simp) hW
  · have d93 : Rv.ev a 93 = .bool false := hd 13 (by decide)
    have d101 : Rv.ev a 101 = undef := hd 21 (by decide)
    exact Rv.run (o := cj22) rfl rfl (Rv.want_free rfl) (by unfold cj22; simp only [execOp, hev, hcn, d93, d101]; go_simp <;> rfl) hW
  · have d102 : Rv.ev a 102 = .bool false := hd 22 (by decide)
    exact Rv.run (o := cj23) rfl rfl (Rv.want_free rfl) (by unfold cj23; simp only [execOp, hev, d102]; rfl) hW
end
def rc12cV (X x y : Nat) (z : Int) : Nat → Value
  | 0 => .pointer (some ⟨X, 1, none⟩)
  | 1 => .complex .f64 x y
  | 2 => .bool true
  | 3 => .bool true
  | 4 => .pointer (some ⟨X, 2, none⟩)
  | 5 => .bool false
  | 6 => .bool true
  | 7 => .bool true
  | 8 => .bool true
  | 9 => .pointer (some ⟨X, 3, none⟩)
  | 10 => .int .i64 z
  | 11 => .bool false
  | 12 => .bool false
  | 13 => .bool false
  | 14 => undef
  | 15 => undef
  | 16 => undef
  | 17 => undef
  | 18 => undef
  | 19 => undef
  | 20 => undef
  | 21 => undef
  | 22 => .bool false
  | _ => .bool false
section
variable {Q : Exit → Act → World → Prop} {X0 w0 : World} {a0 : Act}
set_option maxHeartbeats 4000000 in
theorem rc12c {X b n cap x y : Nat} {ao : Option Addr} {z : Int} (hc : ∀ w, Below X0.heap.size X0 w → w.cell? ⟨X, 1, none⟩ = some (.complex .f64 x y) ∧ w.cell? ⟨X, 2, none⟩ = some (.bool false) ∧ w.cell? ⟨X, 3, none⟩ = some (.int .i64 z) ∧ w.cell? ⟨b, 0, none⟩ = some (.slice ao n cap)) (hz : ∀ w, Below X0.heap.size X0 w → Calls Try.prog 41 #[.complex .f64 x y] w fun e w' => e = .returned (.bool true) ∧ Below w.heap.size w w') (h0 : decide (0 ≤ z) = false) (hs : 103 ≤ a0.tmps.size)
    (e3 : Rv.ev a0 3 = .pointer (some ⟨X, 0, none⟩))
    (e0 : Rv.ev a0 0 = .pointer (some ⟨b, 0, none⟩))
    (hw : Below X0.heap.size X0 w0)
    (hQ : ∀ a w, Rv.Off 24 cjsl a0 a → Below X0.heap.size X0 w → (∀ j, j < 24 → Rv.ev a (cjsl j) = (rc12cV X x y z) j) → Q .normal a w) :
    wpAny Try.prog .any cjops Q 24 (Array.replicate 24 false) a0 w0 := by
  refine Rv.region (X0 := X0) 24 cjsl (rc12cV X x y z) rfl (by decide) (by decide) (fun j hj => Nat.lt_of_lt_of_le ((by decide : ∀ j, j < 24 → cjsl j < 103) j hj) hs) hw ?_ hQ
  intro i a W hi hO hW hd
  have hev : ∀ j, a.eval (.tmp j) = Rv.ev a j := fun _ => rfl
  have hcn : ∀ v, a.eval (.const v) = v := fun _ => rfl
  have hfn : ∀ v, a.eval (.func v) = .func (.func v) #[] #[] := fun _ => rfl
  have hsz : ∀ k, k < 103 → k < a.tmps.size := fun k hk => by rw [hO.size]; omega
  have g3 : Rv.ev a 3 = .pointer (some ⟨X, 0, none⟩) := (hO.same 3 (by decide)).trans e3
  have g0 : Rv.ev a 0 = .pointer (some ⟨b, 0, none⟩) := (hO.same 0 (by decide)).trans e0
  obtain ⟨r1, r2, r3, r4⟩ := hc W hW
  have hN : i = 0 ∨ i = 1 ∨ i = 2 ∨ i = 3 ∨ i = 4 ∨ i = 5 ∨ i = 6 ∨ i = 7 ∨ i = 8 ∨ i = 9 ∨ i = 10 ∨ i = 11 ∨ i = 12 ∨ i = 13 ∨ i = 14 ∨ i = 15 ∨ i = 16 ∨ i = 17 ∨ i = 18 ∨ i = 19 ∨ i = 20 ∨ i = 21 ∨ i = 22 ∨ i = 23 := by omega
  rcases hN with rfl | rfl | rfl | rfl | rfl | rfl | rfl | rfl | rfl | rfl | rfl | rfl | rfl | rfl | rfl | rfl | rfl | rfl | rfl | rfl | rfl | rfl | rfl | rfl
  · exact Rv.run (o := cj0) rfl rfl (Rv.want_free rfl) (by unfold cj0; simp only [execOp, hev, g3]; go_simp <;> rfl) hW
  · have d80 : Rv.ev a 80 = .pointer (some ⟨X, 1, none⟩) := hd 0 (by decide)
    exact Rv.run (o := cj1) rfl rfl (Rv.want_free rfl) (by unfold cj1; simp only [execOp, hev, d80]; go_simp <;> rfl) hW
  · have d81 : Rv.ev a 81 = .complex .f64 x y := hd 1 (by decide)
    refine Rv.call (o := cj2) (f := 41) (vs := #[.complex .f64 x y]) rfl rfl (Rv.want_free rfl) ?_ hW (hz W hW)
    unfold cj2
    simp only [execOp, resolve, invoke, Sem.run_bind, List.map_toArray, List.map_cons, List.map_nil, hev, hfn, d81]
    go_simp
  · have d82 : Rv.ev a 82 = .bool true := hd 2 (by decide)
    exact Rv.run (o := cj3) rfl rfl (Rv.want_free rfl) (by unfold cj3; simp only [execOp, hev, d82]; rfl) hW
  · have dg : Rv.ev a 83 = .bool true := hd 3 (by decide)
    exact Rv.run (o := cj4) rfl rfl (by rw [Rv.want_if (o' := cj3) rfl rfl rfl (hsz 83 (by decide)) dg]; first | rfl | simp) (by unfold cj4; simp only [execOp, hev, g3]; go_simp <;> rfl) hW
  · have d84 : Rv.ev a 84 = .pointer (some ⟨X, 2, none⟩) := hd 4 (by decide)
    have dg : Rv.ev a 83 = .bool true := hd 3 (by decide)
    exact Rv.run (o := cj5) rfl rfl (by rw [Rv.want_if (o' := cj3) rfl rfl rfl (hsz 83 (by decide)) dg]; first | rfl | simp) (by unfold cj5; simp only [execOp, hev, d84]; go_simp <;> rfl) hW
  · have d85 : Rv.ev a 85 = .bool false := hd 5 (by decide)
    have dg : Rv.ev a 83 = .bool true := hd 3 (by decide)
    exact Rv.run (o := cj6) rfl rfl (by rw [Rv.want_if (o' := cj3) rfl rfl rfl (hsz 83 (by decide)) dg]; first | rfl | simp) (by unfold cj6; simp only [execOp, hev, d85]; go_simp <;> rfl) hW
  · have d83 : Rv.ev a 83 = .bool true := hd 3 (by decide)
    have d86 : Rv.ev a 86 = .bool true := hd 6 (by decide)
    exact Rv.run (o := cj7) rfl rfl (Rv.want_free rfl) (by unfold cj7; simp only [execOp, hev, hcn, d83, d86]; go_simp <;> rfl) hW
  · have d87 : Rv.ev a 87 = .bool true := hd 7 (by decide)
    exact Rv.run (o := cj8) rfl rfl (Rv.want_free rfl) (by unfold cj8; simp only [execOp, hev, d87]; rfl) hW
  · have dg : Rv.ev a 88 = .bool true := hd 8 (by decide)
    exact Rv.run (o := cj9) rfl rfl (by rw [Rv.want_if (o' := cj8) rfl rfl rfl (hsz 88 (by decide)) dg]; first | rfl | simp) (by unfold cj9; simp only [execOp, hev, g3]; go_simp <;> rfl) hW
  · have d89 : Rv.ev a 89 = .pointer (some ⟨X, 3, none⟩) := hd 9 (by decide)
    have dg : Rv.ev a 88 = .bool true := hd 8 (by decide)
    exact Rv.run (o := cj10) rfl rfl (by rw [Rv.want_if (o' := cj8) rfl rfl rfl (hsz 88 (by decide)) dg]; first | rfl | simp) (by unfold cj10; simp only [execOp, hev, d89]; go_simp <;> rfl) hW
  · have d90 : Rv.ev a 90 = .int .i64 z := hd 10 (by decide)
    have dg : Rv.ev a 88 = .bool true := hd 8 (by decide)
    exact Rv.run (o := cj11) rfl rfl (by rw [Rv.want_if (o' := cj8) rfl rfl rfl (hsz 88 (by decide)) dg]; first | rfl | simp) (by unfold cj11; simp only [execOp, hev, hcn, d90]; go_simp <;> rfl) hW
  · have d88 : Rv.ev a 88 = .bool true := hd 8 (by decide)
    have d91 : Rv.ev a 91 = .bool false := hd 11 (by decide)
    exact Rv.run (o := cj12) rfl rfl (Rv.want_free rfl) (by unfold cj12; simp only [execOp, hev, hcn, d88, d91]; go_simp <;> rfl) hW
  · have d92 : Rv.ev a 92 = .bool false := hd 12 (by decide)
    exact Rv.run (o := cj13) rfl rfl (Rv.want_free rfl) (by unfold cj13; simp only [execOp, hev, d92]; rfl) hW
  · have dg : Rv.ev a 93 = .bool false := hd 13 (by decide)
    exact Rv.skip (o := cj14) rfl rfl (by rw [Rv.want_if (o' := cj13) rfl rfl rfl (hsz 93 (by decide)) dg]; first | rfl | simp) hW
  · have d94 : Rv.ev a 94 = undef := hd 14 (by decide)
    have dg : Rv.ev a 93 = .bool false := hd 13 (by decide)
    exact Rv.skip (o := cj15) rfl rfl (by rw [Rv.want_if (o' := cj13) rfl rfl rfl (hsz 93 (by decide)) dg]; first | rfl | simp) hW
  · have dg : Rv.ev a 93 = .bool false := hd 13 (by decide)
    exact Rv.skip (o := cj16) rfl rfl (by rw [Rv.want_if (o' := cj13) rfl rfl rfl (hsz 93 (by decide)) dg]; first | rfl | simp) hW
  · have d96 : Rv.ev a 96 = undef := hd 16 (by decide)
    have dg : Rv.ev a 93 = .bool false := hd 13 (by decide)
    exact Rv.skip (o := cj17) rfl rfl (by rw [Rv.want_if (o' := cj13) rfl rfl rfl (hsz 93 (by decide)) dg]; first | rfl | simp) hW
  · have d97 : Rv.ev a 97 = undef := hd 17 (by decide)
    have dg : Rv.ev a 93 = .bool false := hd 13 (by decide)
    exact Rv.skip (o := cj18) rfl rfl (by rw [Rv.want_if (o' := cj13) rfl rfl rfl (hsz 93 (by decide)) dg]; first | rfl | simp) hW
  · have d98 : Rv.ev a 98 = undef := hd 18 (by decide)
    have dg : Rv.ev a 93 = .bool false := hd 13 (by decide)
    exact Rv.skip (o := cj19) rfl rfl (by rw [Rv.want_if (o' := cj13) rfl rfl rfl (hsz 93 (by decide)) dg]; first | rfl | simp) hW
  · have d99 : Rv.ev a 99 = undef := hd 19 (by decide)
    have dg : Rv.ev a 93 = .bool false := hd 13 (by decide)
    exact Rv.skip (o := cj20) rfl rfl (by rw [Rv.want_if (o' := cj13) rfl rfl rfl (hsz 93 (by decide)) dg]; first | rfl | simp) hW
  · have d95 : Rv.ev a 95 = undef := hd 15 (by decide)
    have d100 : Rv.ev a 100 = undef := hd 20 (by decide)
    have dg : Rv.ev a 93 = .bool false := hd 13 (by decide)
    exact Rv.skip (o := cj21) rfl rfl (by rw [Rv.want_if (o' := cj13) rfl rfl rfl (hsz 93 (by decide)) dg]; first | rfl | simp) hW
  · have d93 : Rv.ev a 93 = .bool false := hd 13 (by decide)
    have d101 : Rv.ev a 101 = undef := hd 21 (by decide)
    exact Rv.run (o := cj22) rfl rfl (Rv.want_free rfl) (by unfold cj22; simp only [execOp, hev, hcn, d93, d101]; go_simp <;> rfl) hW
  · have d102 : Rv.ev a 102 = .bool false := hd 22 (by decide)
    exact Rv.run (o := cj23) rfl rfl (Rv.want_free rfl) (by unfold cj23; simp only [execOp, hev, d102]; rfl) hW
end
def rc12dV (X b n cap x y : Nat) (ao : Option Addr) (z : Int) : Nat → Value
  | 0 => .pointer (some ⟨X, 1, none⟩)
  | 1 => .complex .f64 x y
  | 2 => .bool true
  | 3 => .bool true
  | 4 => .pointer (some ⟨X, 2, none⟩)
  | 5 => .bool false
  | 6 => .bool true
  | 7 => .bool true
  | 8 => .bool true
  | 9 => .pointer (some ⟨X, 3, none⟩)
  | 10 => .int .i64 z
  | 11 => .bool true
  | 12 => .bool true
  | 13 => .bool true
  | 14 => .pointer (some ⟨X, 3, none⟩)
  | 15 => .int .i64 z
  | 16 => .pointer (some ⟨b, 0, none⟩)
  | 17 => .pointer (some ⟨b, 0, none⟩)
  | 18 => .pointer (some ⟨b, 0, none⟩)
  | 19 => .slice ao n cap
  | 20 => .int .i64 (n : Int)
  | 21 => .bool (decide (z < (n : Int)))
  | 22 => .bool (decide (z < (n : Int)))
  | _ => .bool (decide (z < (n : Int)))
section
variable {Q : Exit → Act → World → Prop} {X0 w0 : World} {a0 : Act}
set_option maxHeartbeats 4000000 in
theorem rc12d {X b n cap x y : Nat} {ao : Option Addr} {z : Int} (hc : ∀ w, Below X0.heap.size X0 w → w.cell? ⟨X, 1, none⟩ = some (.complex .f64 x y) ∧ w.cell? ⟨X, 2, none⟩ = some (.bool false) ∧ w.cell? ⟨X, 3, none⟩ = some (.int .i64 z) ∧ w.cell? ⟨b, 0, none⟩ = some (.slice ao n cap)) (hz : ∀ w, Below X0.heap.size X0 w → Calls Try.prog 41 #[.complex .f64 x y] w fun e w' => e = .returned (.bool true) ∧ Below w.heap.size w w') (h0 : decide (0 ≤ z) = true) (hs : 103 ≤ a0.tmps.size)
    (e3 : Rv.ev a0 3 = .pointer (some ⟨X, 0, none⟩))
    (e0 : Rv.ev a0 0 = .pointer (some ⟨b, 0, none⟩))
    (hw : Below X0.heap.size X0 w0)
    (hQ : ∀ a w, Rv.Off 24 cjsl a0 a → Below X0.heap.size X0 w → (∀ j, j < 24 → Rv.ev a (cjsl j) = (rc12dV X b n cap x y ao z) j) → Q .normal a w) :
    wpAny Try.prog .any cjops Q 24 (Array.replicate 24 false) a0 w0 := by
  refine Rv.region (X0 := X0) 24 cjsl (rc12dV X b n cap x y ao z) rfl (by decide) (by decide) (fun j hj => Nat.lt_of_lt_of_le ((by decide : ∀ j, j < 24 → cjsl j < 103) j hj) hs) hw ?_ hQ
  intro i a W hi hO hW hd
  have hev : ∀ j, a.eval (.tmp j) = Rv.ev a j := fun _ => rfl
  have hcn : ∀ v, a.eval (.const v) = v := fun _ => rfl
  have hfn : ∀ v, a.eval (.func v) = .func (.func v) #[] #[] := fun _ => rfl
  have hsz : ∀ k, k < 103 → k < a.tmps.size := fun k hk => by rw [hO.size]; omega
  have g3 : Rv.ev a 3 = .pointer (some ⟨X, 0, none⟩) := (hO.same 3 (by decide)).trans e3
  have g0 : Rv.ev a 0 = .pointer (some ⟨b, 0, none⟩) := (hO.same 0 (by decide)).trans e0
  obtain ⟨r1, r2, r3, r4⟩ := hc W hW
  have hN : i = 0 ∨ i = 1 ∨ i = 2 ∨ i = 3 ∨ i = 4 ∨ i = 5 ∨ i = 6 ∨ i = 7 ∨ i = 8 ∨ i = 9 ∨ i = 10 ∨ i = 11 ∨ i = 12 ∨ i = 13 ∨ i = 14 ∨ i = 15 ∨ i = 16 ∨ i = 17 ∨ i = 18 ∨ i = 19 ∨ i = 20 ∨ i = 21 ∨ i = 22 ∨ i = 23 := by omega
  rcases hN with rfl | rfl | rfl | rfl | rfl | rfl | rfl | rfl | rfl | rfl | rfl | rfl | rfl | rfl | rfl | rfl | rfl | rfl | rfl | rfl | rfl | rfl | rfl | rfl
  · exact Rv.run (o := cj0) rfl rfl (Rv.want_free rfl) (by unfold cj0; simp only [execOp, hev, g3]; go_simp <;> rfl) hW
  · have d80 : Rv.ev a 80 = .pointer (some ⟨X, 1, none⟩) := hd 0 (by decide)
    exact Rv.run (o := cj1) rfl rfl (Rv.want_free rfl) (by unfold cj1; simp only [execOp, hev, d80]; go_simp <;> rfl) hW
  · have d81 : Rv.ev a 81 = .complex .f64 x y := hd 1 (by decide)
    refine Rv.call (o := cj2) (f := 41) (vs := #[.complex .f64 x y]) rfl rfl (Rv.want_free rfl) ?_ hW (hz W hW)
    unfold cj2
    simp only [execOp, resolve, invoke, Sem.run_bind, List.map_toArray, List.map_cons, List.map_nil, hev, hfn, d81]
    go_simp
  · have d82 : Rv.ev a 82 = .bool true := hd 2 (by decide)
    exact Rv.run (o := cj3) rfl rfl (Rv.want_free rfl) (by unfold cj3; simp only [execOp, hev, d82]; rfl) hW
  · have dg : Rv.ev a 83 = .bool true := hd 3 (by decide)
    exact Rv.run (o := cj4) rfl rfl (by rw [Rv.want_if (o' := cj3) rfl rfl rfl (hsz 83 (by decide)) dg]; first | rfl | simp) (by unfold cj4; simp only [execOp, hev, g3]; go_simp <;> rfl) hW
  · have d84 : Rv.ev a 84 = .pointer (some ⟨X, 2, none⟩) := hd 4 (by decide)
    have dg : Rv.ev a 83 = .bool true := hd 3 (by decide)
    exact Rv.run (o := cj5) rfl rfl (by rw [Rv.want_if (o' := cj3) rfl rfl rfl (hsz 83 (by decide)) dg]; first | rfl | simp) (by unfold cj5; simp only [execOp, hev, d84]; go_simp <;> rfl) hW
  · have d85 : Rv.ev a 85 = .bool false := hd 5 (by decide)
    have dg : Rv.ev a 83 = .bool true := hd 3 (by decide)
    exact Rv.run (o := cj6) rfl rfl (by rw [Rv.want_if (o' := cj3) rfl rfl rfl (hsz 83 (by decide)) dg]; first | rfl | simp) (by unfold cj6; simp only [execOp, hev, d85]; go_simp <;> rfl) hW
  · have d83 : Rv.ev a 83 = .bool true := hd 3 (by decide)
    have d86 : Rv.ev a 86 = .bool true := hd 6 (by decide)
    exact Rv.run (o := cj7) rfl rfl (Rv.want_free rfl) (by unfold cj7; simp only [execOp, hev, hcn, d83, d86]; go_simp <;> rfl) hW
  · have d87 : Rv.ev a 87 = .bool true := hd 7 (by decide)
    exact Rv.run (o := cj8) rfl rfl (Rv.want_free rfl) (by unfold cj8; simp only [execOp, hev, d87]; rfl) hW
  · have dg : Rv.ev a 88 = .bool true := hd 8 (by decide)
    exact Rv.run (o := cj9) rfl rfl (by rw [Rv.want_if (o' := cj8) rfl rfl rfl (hsz 88 (by decide)) dg]; first | rfl | simp) (by unfold cj9; simp only [execOp, hev, g3]; go_simp <;> rfl) hW
  · have d89 : Rv.ev a 89 = .pointer (some ⟨X, 3, none⟩) := hd 9 (by decide)
    have dg : Rv.ev a 88 = .bool true := hd 8 (by decide)
    exact Rv.run (o := cj10) rfl rfl (by rw [Rv.want_if (o' := cj8) rfl rfl rfl (hsz 88 (by decide)) dg]; first | rfl | simp) (by unfold cj10; simp only [execOp, hev, d89]; go_simp <;> rfl) hW
  · have d90 : Rv.ev a 90 = .int .i64 z := hd 10 (by decide)
    have dg : Rv.ev a 88 = .bool true := hd 8 (by decide)
    exact Rv.run (o := cj11) rfl rfl (by rw [Rv.want_if (o' := cj8) rfl rfl rfl (hsz 88 (by decide)) dg]; first | rfl | simp) (by unfold cj11; simp only [execOp, hev, hcn, d90]; go_simp <;> rfl) hW
  · have d88 : Rv.ev a 88 = .bool true := hd 8 (by decide)
    have d91 : Rv.ev a 91 = .bool true := hd 11 (by decide)
    exact Rv.run (o := cj12) rfl rfl (Rv.want_free rfl) (by unfold cj12; simp only [execOp, hev, hcn, d88, d91]; go_simp <;> rfl) hW
  · have d92 : Rv.ev a 92 = .bool true := hd 12 (by decide)
    exact Rv.run (o := cj13) rfl rfl (Rv.want_free rfl) (by unfold cj13; simp only [execOp, hev, d92]; rfl) hW
  · have dg : Rv.ev a 93 = .bool true := hd 13 (by decide)
    exact Rv.run (o := cj14) rfl rfl (by rw [Rv.want_if (o' := cj13) rfl rfl rfl (hsz 93 (by decide)) dg]; first | rfl | simp) (by unfold cj14; simp only [execOp, hev, g3]; go_simp <;> rfl) hW
  · have d94 : Rv.ev a 94 = .pointer (some ⟨X, 3, none⟩) := hd 14 (by decide)
    have dg : Rv.ev a 93 = .bool true := hd 13 (by decide)
    exact Rv.run (o := cj15) rfl rfl (by rw [Rv.want_if (o' := cj13) rfl rfl rfl (hsz 93 (by decide)) dg]; first | rfl | simp) (by unfold cj15; simp only [execOp, hev, d94]; go_simp <;> rfl) hW
  · have dg : Rv.ev a 93 = .bool true := hd 13 (by decide)
    exact Rv.run (o := cj16) rfl rfl (by rw [Rv.want_if (o' := cj13) rfl rfl rfl (hsz 93 (by decide)) dg]; first | rfl | simp) (by unfold cj16; simp only [execOp, hev, g0]; rfl) hW
  · have d96 : Rv.ev a 96 = .pointer (some ⟨b, 0, none⟩) := hd 16 (by decide)
    have dg : Rv.ev a 93 = .bool true := hd 13 (by decide)
    exact Rv.run (o := cj17) rfl rfl (by rw [Rv.want_if (o' := cj13) rfl rfl rfl (hsz 93 (by decide)) dg]; first | rfl | simp) (by unfold cj17; simp only [execOp, hev, d96]; go_simp <;> rfl) hW
  · have d97 : Rv.ev a 97 = .pointer (some ⟨b, 0, none⟩) := hd 17 (by decide)
    have dg : Rv.ev a 93 = .bool true := hd 13 (by decide)
    exact Rv.run (o := cj18) rfl rfl (by rw [Rv.want_if (o' := cj13) rfl rfl rfl (hsz 93 (by decide)) dg]; first | rfl | simp) (by unfold cj18; simp only [execOp, hev, d97]; go_simp <;> rfl) hW
  · have d98 : Rv.ev a 98 = .pointer (some ⟨b, 0, none⟩) := hd 18 (by decide)
    have dg : Rv.ev a 93 = .bool true := hd 13 (by decide)
    exact Rv.run (o := cj19) rfl rfl (by rw [Rv.want_if (o' := cj13) rfl rfl rfl (hsz 93 (by decide)) dg]; first | rfl | simp) (by unfold cj19; simp only [execOp, hev, d98]; go_simp <;> rfl) hW
  · have d99 : Rv.ev a 99 = .slice ao n cap := hd 19 (by decide)
    have dg : Rv.ev a 93 = .bool true := hd 13 (by decide)
    exact Rv.run (o := cj20) rfl rfl (by rw [Rv.want_if (o' := cj13) rfl rfl rfl (hsz 93 (by decide)) dg]; first | rfl | simp) (by unfold cj20; simp only [execOp, resolve, invoke, builtin, Sem.run_bind, Sem.run_pure, List.map_toArray, List.map_cons, List.map_nil, hev, d99]; go_simp <;> rfl) hW
  · have d95 : Rv.ev a 95 = .int .i64 z := hd 15 (by decide)
    have d100 : Rv.ev a 100 = .int .i64 (n : Int) := hd 20 (by decide)
    have dg : Rv.ev a 93 = .bool true := hd 13 (by decide)
    exact Rv.run (o := cj21) rfl rfl (by rw [Rv.want_if (o' := cj13) rfl rfl rfl (hsz 93 (by decide)) dg]; first | rfl | simp) (by unfold cj21; simp only [execOp, hev, d95, d100]; go_simp <;> rfl) hW
  · have d93 : Rv.ev a 93 = .bool true := hd 13 (by decide)
    have d101 : Rv.ev a 101 = .bool (decide (z < (n : Int))) := hd 21 (by decide)
    exact Rv.run (o := cj22) rfl rfl (Rv.want_free rfl) (by unfold cj22; simp only [execOp, hev, hcn, d93, d101]; go_simp <;> rfl) hW
  · have d102 : Rv.ev a 102 = .bool (decide (z < (n : Int))) := hd 22 (by decide)
    exact Rv.run (o := cj23) rfl rfl (Rv.want_free rfl) (by unfold cj23; simp only [execOp, hev, d102]; rfl) hW
end
set_option maxHeartbeats 16000000 in
theorem offcj {x0 x1 x2 x3 x4 x5 x6 x7 x8 x9 x10 x11 x12 x13 x14 x15 x16 x17 x18 x19 x20 x21 x22 x23 x24 x25 x26 x27 x28 x29 x30 x31 x32 x33 x34 x35 x36 x37 x38 x39 x40 x41 x42 x43 x44 x45 x46 x47 x48 x49 x50 x51 x52 x53 x54 x55 x56 x57 x58 x59 x60 x61 x62 x63 x64 x65 x66 x67 x68 x69 x70 x71 x72 x73 x74 x75 x76 x77 x78 x79 x80 x81 x82 x83 x84 x85 x86 x87 x88 x89 x90 x91 x92 x93 x94 x95 x96 x97 x98 x99 x100 x101 x102 : Value} {a : Act} (h : Rv.Off 24 cjsl { tmps := #[x0, x1, x2, x3, x4, x5, x6, x7, x8, x9, x10, x11, x12, x13, x14, x15, x16, x17, x18, x19, x20, x21, x22, x23, x24, x25, x26, x27, x28, x29, x30, x31, x32, x33, x34, x35, x36, x37, x38, x39, x40, x41, x42, x43, x44, x45, x46, x47, x48, x49, x50, x51, x52, x53, x54, x55, x56, x57, x58, x59, x60, x61, x62, x63, x64, x65, x66, x67, x68, x69, x70, x71, x72, x73, x74, x75, x76, x77, x78, x79, x80, x81, x82, x83, x84, x85, x86, x87, x88, x89, x90, x91, x92, x93, x94, x95, x96, x97, x98, x99, x100, x101, x102], defers := [] } a) : ∃ y4 y80 y81 y82 y83 y84 y85 y86 y87 y88 y89 y90 y91 y92 y93 y94 y95 y96 y97 y98 y99 y100 y101 y102, (Rv.ev a 4 = y4 ∧ Rv.ev a 80 = y80 ∧ Rv.ev a 81 = y81 ∧ Rv.ev a 82 = y82 ∧ Rv.ev a 83 = y83 ∧ Rv.ev a 84 = y84 ∧ Rv.ev a 85 = y85 ∧ Rv.ev a 86 = y86 ∧ Rv.ev a 87 = y87 ∧ Rv.ev a 88 = y88 ∧ Rv.ev a 89 = y89 ∧ Rv.ev a 90 = y90 ∧ Rv.ev a 91 = y91 ∧ Rv.ev a 92 = y92 ∧ Rv.ev a 93 = y93 ∧ Rv.ev a 94 = y94 ∧ Rv.ev a 95 = y95 ∧ Rv.ev a 96 = y96 ∧ Rv.ev a 97 = y97 ∧ Rv.ev a 98 = y98 ∧ Rv.ev a 99 = y99 ∧ Rv.ev a 100 = y100 ∧ Rv.ev a 101 = y101 ∧ Rv.ev a 102 = y102) ∧ a = { tmps := #[x0, x1, x2, x3, y4, x5, x6, x7, x8, x9, x10, x11, x12, x13, x14, x15, x16, x17, x18, x19, x20, x21, x22, x23, x24, x25, x26, x27, x28, x29, x30, x31, x32, x33, x34, x35, x36, x37, x38, x39, x40, x41, x42, x43, x44, x45, x46, x47, x48, x49, x50, x51, x52, x53, x54, x55, x56, x57, x58, x59, x60, x61, x62, x63, x64, x65, x66, x67, x68, x69, x70, x71, x72, x73, x74, x75, x76, x77, x78, x79, y80, y81, y82, y83, y84, y85, y86, y87, y88, y89, y90, y91, y92, y93, y94, y95, y96, y97, y98, y99, y100, y101, y102], defers := [] } := by
  refine ⟨Rv.ev a 4, Rv.ev a 80, Rv.ev a 81, Rv.ev a 82, Rv.ev a 83, Rv.ev a 84, Rv.ev a 85, Rv.ev a 86, Rv.ev a 87, Rv.ev a 88, Rv.ev a 89, Rv.ev a 90, Rv.ev a 91, Rv.ev a 92, Rv.ev a 93, Rv.ev a 94, Rv.ev a 95, Rv.ev a 96, Rv.ev a 97, Rv.ev a 98, Rv.ev a 99, Rv.ev a 100, Rv.ev a 101, Rv.ev a 102, ⟨rfl, rfl, rfl, rfl, rfl, rfl, rfl, rfl, rfl, rfl, rfl, rfl, rfl, rfl, rfl, rfl, rfl, rfl, rfl, rfl, rfl, rfl, rfl, rfl⟩, ?_⟩
  have e := tmps103 a h.size
  rw [lit103] at e
  have h0 : Rv.ev a 0 = x0 := h.same 0 (by decide)
  have h1 : Rv.ev a 1 = x1 := h.same 1 (by decide)
  have h2 : Rv.ev a 2 = x2 := h.same 2 (by decide)
  have h3 : Rv.ev a 3 = x3 := h.same 3 (by decide)
  have h5 : Rv.ev a 5 = x5 := h.same 5 (by decide)
  have h6 : Rv.ev a 6 = x6 := h.same 6 (by decide)
  have h7 : Rv.ev a 7 = x7 := h.same 7 (by decide)
  have h8 : Rv.ev a 8 = x8 := h.same 8 (by decide)
  have h9 : Rv.ev a 9 = x9 := h.same 9 (by decide)
  have h10 : Rv.ev a 10 = x10 := h.same 10 (by decide)
  have h11 : Rv.ev a 11 = x11 := h.same 11 (by decide)
  have h12 : Rv.ev a 12 = x12 := h.same 12 (by decide)
  have h13 : Rv.ev a 13 = x13 := h.same 13 (by decide)
  have h14 : Rv.ev a 14 = x14 := h.same 14 (by decide)
  have h15 : Rv.ev a 15 = x15 := h.same 15 (by decide)
  have h16 : Rv.ev a 16 = x16 := h.same 16 (by decide)
  have h17 : Rv.ev a 17 = x17 := h.same 17 (by decide)
  have h18 : Rv.ev a 18 = x18 := h.same 18 (by decide)
  have h19 : Rv.ev a 19 = x19 := h.same 19 (by decide)
  have h20 : Rv.ev a 20 = x20 := h.same 20 (by decide)
  have h21 : Rv.ev a 21 = x21 := h.same 21 (by decide)
  have h22 : Rv.ev a 22 = x22 := h.same 22 (by decide)
  have h23 : Rv.ev a 23 = x23 := h.same 23 (by decide)
  have h24 : Rv.ev a 24 = x24 := h.same 24 (by decide)
  have h25 : Rv.ev a 25 = x25 := h.same 25 (by decide)
  have h26 : Rv.ev a 26 = x26 := h.same 26 (by decide)
  have h27 : Rv.ev a 27 = x27 := h.same 27 (by decide)
  have h28 : Rv.ev a 28 = x28 := h.same 28 (by decide)
  have h29 : Rv.ev a 29 = x29 := h.same 29 (by decide)
  have h30 : Rv.ev a 30 = x30 := h.same 30 (by decide)
  have h31 : Rv.ev a 31 = x31 := h.same 31 (by decide)
  have h32 : Rv.ev a 32 = x32 := h.same 32 (by decide)
  have h33 : Rv.ev a 33 = x33 := h.same 33 (by decide)
  have h34 : Rv.ev a 34 = x34 := h.same 34 (by decide)
  have h35 : Rv.ev a 35 = x35 := h.same 35 (by decide)
  have h36 : Rv.ev a 36 = x36 := h.same 36 (by decide)
  have h37 : Rv.ev a 37 = x37 := h.same 37 (by decide)
  have h38 : Rv.ev a 38 = x38 := h.same 38 (by decide)
  have h39 : Rv.ev a 39 = x39 := h.same 39 (by decide)
  have h40 : Rv.ev a 40 = x40 := h.same 40 (by decide)
  have h41 : Rv.ev a 41 = x41 := h.same 41 (by decide)
  have h42 : Rv.ev a 42 = x42 := h.same 42 (by decide)
  have h43 : Rv.ev a 43 = x43 := h.same 43 (by decide)
  have h44 : Rv.ev a 44 = x44 := h.same 44 (by decide)
  have h45 : Rv.ev a 45 = x45 := h.same 45 (by decide)
  have h46 : Rv.ev a 46 = x46 := h.same 46 (by decide)
  have h47 : Rv.ev a 47 = x47 := h.same 47 (by decide)
  have h48 : Rv.ev a 48 = x48 := h.same 48 (by decide)
  have h49 : Rv.ev a 49 = x49 := h.same 49 (by decide)
  have h50 : Rv.ev a 50 = x50 := h.same 50 (by decide)
  have h51 : Rv.ev a 51 = x51 := h.same 51 (by decide)
  have h52 : Rv.ev a 52 = x52 := h.same 52 (by decide)
  have h53 : Rv.ev a 53 = x53 := h.same 53 (by decide)
  have h54 : Rv.ev a 54 = x54 := h.same 54 (by decide)
  have h55 : Rv.ev a 55 = x55 := h.same 55 (by decide)
  have h56 : Rv.ev a 56 = x56 := h.same 56 (by decide)
  have h57 : Rv.ev a 57 = x57 := h.same 57 (by decide)
  have h58 : Rv.ev a 58 = x58 := h.same 58 (by decide)
  have h59 : Rv.ev a 59 = x59 := h.same 59 (by decide)
  have h60 : Rv.ev a 60 = x60 := h.same 60 (by decide)
  have h61 : Rv.ev a 61 = x61 := h.same 61 (by decide)
  have h62 : Rv.ev a 62 = x62 := h.same 62 (by decide)
  have h63 : Rv.ev a 63 = x63 := h.same 63 (by decide)
  have h64 : Rv.ev a 64 = x64 := h.same 64 (by decide)
  have h65 : Rv.ev a 65 = x65 := h.same 65 (by decide)
  have h66 : Rv.ev a 66 = x66 := h.same 66 (by decide)
  have h67 : Rv.ev a 67 = x67 := h.same 67 (by decide)
  have h68 : Rv.ev a 68 = x68 := h.same 68 (by decide)
  have h69 : Rv.ev a 69 = x69 := h.same 69 (by decide)
  have h70 : Rv.ev a 70 = x70 := h.same 70 (by decide)
  have h71 : Rv.ev a 71 = x71 := h.same 71 (by decide)
  have h72 : Rv.ev a 72 = x72 := h.same 72 (by decide)
  have h73 : Rv.ev a 73 = x73 := h.same 73 (by decide)
  have h74 : Rv.ev a 74 = x74 := h.same 74 (by decide)
  have h75 : Rv.ev a 75 = x75 := h.same 75 (by decide)
  have h76 : Rv.ev a 76 = x76 := h.same 76 (by decide)
  have h77 : Rv.ev a 77 = x77 := h.same 77 (by decide)
  have h78 : Rv.ev a 78 = x78 := h.same 78 (by decide)
  have h79 : Rv.ev a 79 = x79 := h.same 79 (by decide)
  rw [h0, h1, h2, h3, h5, h6, h7, h8, h9, h10, h11, h12, h13, h14, h15, h16, h17, h18, h19, h20, h21, h22, h23, h24, h25, h26, h27, h28, h29, h30, h31, h32, h33, h34, h35, h36, h37, h38, h39, h40, h41, h42, h43, h44, h45, h46, h47, h48, h49, h50, h51, h52, h53, h54, h55, h56, h57, h58, h59, h60, h61, h62, h63, h64, h65, h66, h67, h68, h69, h70, h71, h72, h73, h74, h75, h76, h77, h78, h79] at e
  have hd : a.defers = [] := h.def_
  cases a
  simp only at e hd
  rw [hd]
  exact congrArg (fun t => ({ tmps := t, defers := [] } : Act)) e
end Go.Proofs.Ytdbnlgjpfkfnjaa
