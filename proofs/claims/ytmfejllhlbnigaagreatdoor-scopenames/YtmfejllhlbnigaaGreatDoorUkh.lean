/-
  2 texts in one: what each proves stands at its head.
-/
import Derived.Test.YtmfejllhlbnigaaGreatDoorI6
import Derived.Test.YtmfejllhlbnigaaGreatDoorUkc
/-
  The region of named that draws its order.
-/
namespace Go.Proofs.YtmfejllhlbnigaaGreatDoor
open Go.RowKit
set_option maxRecDepth 100000

def en0 : Oper := { dst := some 8, op := Op.load 43 (Operand.tmp 3), type := 43, pos := "law.go:67", after := #[], guard := none }
def en1 : Oper := { dst := some 9, op := Op.call { callee := Callee.value (Operand.func 20), args := #[Operand.tmp 8], argTypes := #[43] }, type := 35, pos := "law.go:67", after := #[{ on := 0, ground := Ground.data }], guard := none }
def en2 : Oper := { dst := some 10, op := Op.load 43 (Operand.tmp 3), type := 43, pos := "law.go:67", after := #[], guard := none }
def en3 : Oper := { dst := some 11, op := Op.call { callee := Callee.value (Operand.func 23), args := #[Operand.tmp 10], argTypes := #[43] }, type := 35, pos := "law.go:67", after := #[{ on := 2, ground := Ground.data }, { on := 1, ground := Ground.chain }], guard := none }
def en4 : Oper := { dst := some 12, op := Op.call { callee := Callee.value (Operand.func 13), args := #[Operand.tmp 9, Operand.tmp 11], argTypes := #[35, 35] }, type := 4, pos := "law.go:67", after := #[{ on := 1, ground := Ground.data }, { on := 3, ground := Ground.data }, { on := 3, ground := Ground.chain }], guard := none }
def en5 : Oper := { dst := some 13, op := Op.unOp UnOp.not 4 (Operand.tmp 12), type := 4, pos := "law.go:67", after := #[{ on := 4, ground := Ground.data }], guard := none }
def en6 : Oper := { dst := some 14, op := Op.move (Operand.tmp 13), type := 4, pos := "law.go:67", after := #[{ on := 5, ground := Ground.data }, { on := 4, ground := Ground.chain }], guard := none }
def en7 : Oper := { dst := some 15, op := Op.load 43 (Operand.tmp 3), type := 43, pos := "law.go:67", after := #[{ on := 6, ground := Ground.guard }], guard := some (6, false) }
def en8 : Oper := { dst := some 16, op := Op.move (Operand.tmp 1), type := 9, pos := "law.go:67", after := #[{ on := 6, ground := Ground.guard }], guard := some (6, false) }
def en9 : Oper := { dst := some 17, op := Op.call { callee := Callee.value (Operand.func 22), args := #[Operand.tmp 15, Operand.tmp 16], argTypes := #[43, 9] }, type := 3, pos := "law.go:67", after := #[{ on := 7, ground := Ground.data }, { on := 8, ground := Ground.data }, { on := 6, ground := Ground.chain }, { on := 6, ground := Ground.guard }], guard := some (6, false) }
def en10 : Oper := { dst := some 18, op := Op.load 43 (Operand.tmp 3), type := 43, pos := "law.go:67", after := #[{ on := 6, ground := Ground.guard }], guard := some (6, false) }
def en11 : Oper := { dst := some 19, op := Op.move (Operand.tmp 1), type := 9, pos := "law.go:67", after := #[{ on := 6, ground := Ground.guard }], guard := some (6, false) }
def en12 : Oper := { dst := some 20, op := Op.call { callee := Callee.value (Operand.func 37), args := #[Operand.tmp 18, Operand.tmp 19], argTypes := #[43, 9] }, type := 3, pos := "law.go:67", after := #[{ on := 10, ground := Ground.data }, { on := 11, ground := Ground.data }, { on := 9, ground := Ground.chain }, { on := 6, ground := Ground.guard }], guard := some (6, false) }
def en13 : Oper := { dst := some 21, op := Op.binOp BinOp.neq 3 (Operand.tmp 17) (Operand.tmp 20) 3, type := 4, pos := "law.go:67", after := #[{ on := 9, ground := Ground.data }, { on := 12, ground := Ground.data }, { on := 6, ground := Ground.guard }], guard := some (6, false) }
def en14 : Oper := { dst := some 22, op := Op.pick (Operand.tmp 14) (Operand.const (Value.bool true)) (Operand.tmp 21), type := 4, pos := "law.go:67", after := #[{ on := 6, ground := Ground.data }, { on := 13, ground := Ground.data }], guard := none }
def en15 : Oper := { dst := some 23, op := Op.move (Operand.tmp 22), type := 4, pos := "law.go:67", after := #[{ on := 14, ground := Ground.data }, { on := 12, ground := Ground.chain }], guard := none }
def en16 : Oper := { dst := some 24, op := Op.load 43 (Operand.tmp 3), type := 43, pos := "law.go:67", after := #[{ on := 15, ground := Ground.guard }], guard := some (15, false) }
def en17 : Oper := { dst := some 25, op := Op.call { callee := Callee.value (Operand.func 21), args := #[Operand.tmp 24], argTypes := #[43] }, type := 3, pos := "law.go:67", after := #[{ on := 16, ground := Ground.data }, { on := 15, ground := Ground.chain }, { on := 15, ground := Ground.guard }], guard := some (15, false) }
def en18 : Oper := { dst := some 26, op := Op.load 43 (Operand.tmp 3), type := 43, pos := "law.go:67", after := #[{ on := 15, ground := Ground.guard }], guard := some (15, false) }
def en19 : Oper := { dst := some 27, op := Op.call { callee := Callee.value (Operand.func 38), args := #[Operand.tmp 26], argTypes := #[43] }, type := 3, pos := "law.go:67", after := #[{ on := 18, ground := Ground.data }, { on := 17, ground := Ground.chain }, { on := 15, ground := Ground.guard }], guard := some (15, false) }
def en20 : Oper := { dst := some 28, op := Op.binOp BinOp.neq 3 (Operand.tmp 25) (Operand.tmp 27) 3, type := 4, pos := "law.go:67", after := #[{ on := 17, ground := Ground.data }, { on := 19, ground := Ground.data }, { on := 15, ground := Ground.guard }], guard := some (15, false) }
def en21 : Oper := { dst := some 29, op := Op.pick (Operand.tmp 23) (Operand.const (Value.bool true)) (Operand.tmp 28), type := 4, pos := "law.go:67", after := #[{ on := 15, ground := Ground.data }, { on := 20, ground := Ground.data }], guard := none }
def en22 : Oper := { dst := some 30, op := Op.move (Operand.tmp 29), type := 4, pos := "law.go:67", after := #[{ on := 21, ground := Ground.data }, { on := 19, ground := Ground.chain }], guard := none }
def en23 : Oper := { dst := some 31, op := Op.load 43 (Operand.tmp 3), type := 43, pos := "law.go:67", after := #[{ on := 22, ground := Ground.guard }], guard := some (22, false) }
def en24 : Oper := { dst := some 32, op := Op.call { callee := Callee.value (Operand.func 25), args := #[Operand.tmp 31], argTypes := #[43] }, type := 3, pos := "law.go:67", after := #[{ on := 23, ground := Ground.data }, { on := 22, ground := Ground.chain }, { on := 22, ground := Ground.guard }], guard := some (22, false) }
def en25 : Oper := { dst := some 33, op := Op.load 43 (Operand.tmp 3), type := 43, pos := "law.go:67", after := #[{ on := 22, ground := Ground.guard }], guard := some (22, false) }
def en26 : Oper := { dst := some 34, op := Op.call { callee := Callee.value (Operand.func 39), args := #[Operand.tmp 33], argTypes := #[43] }, type := 3, pos := "law.go:67", after := #[{ on := 25, ground := Ground.data }, { on := 24, ground := Ground.chain }, { on := 22, ground := Ground.guard }], guard := some (22, false) }
def en27 : Oper := { dst := some 35, op := Op.binOp BinOp.neq 3 (Operand.tmp 32) (Operand.tmp 34) 3, type := 4, pos := "law.go:67", after := #[{ on := 24, ground := Ground.data }, { on := 26, ground := Ground.data }, { on := 22, ground := Ground.guard }], guard := some (22, false) }
def en28 : Oper := { dst := some 36, op := Op.pick (Operand.tmp 30) (Operand.const (Value.bool true)) (Operand.tmp 35), type := 4, pos := "law.go:67", after := #[{ on := 22, ground := Ground.data }, { on := 27, ground := Ground.data }], guard := none }
def enops : Array Oper := #[en0, en1, en2, en3, en4, en5, en6, en7, en8, en9, en10, en11, en12, en13, en14, en15, en16, en17, en18, en19, en20, en21, en22, en23, en24, en25, en26, en27, en28]
def ensl (k : Nat) : Nat := 8 + k
def enV (x0 x1 x2 x3 x4 x5 x6 : Value) (nm : List UInt8) (U S K : Int) : Nat → Value
  | 0 => .agg #[x0, x1, x2, x3, x4, x5, x6]
  | 1 => undef
  | 2 => .agg #[x0, x1, x2, x3, x4, x5, x6]
  | 3 => undef
  | 4 => .bool true
  | 5 => .bool false
  | 6 => .bool false
  | 7 => .agg #[x0, x1, x2, x3, x4, x5, x6]
  | 8 => .string (bs nm)
  | 9 => .int .i64 U
  | 10 => .agg #[x0, x1, x2, x3, x4, x5, x6]
  | 11 => .string (bs nm)
  | 12 => .int .i64 U
  | 13 => .bool false
  | 14 => .bool false
  | 15 => .bool false
  | 16 => .agg #[x0, x1, x2, x3, x4, x5, x6]
  | 17 => .int .i64 S
  | 18 => .agg #[x0, x1, x2, x3, x4, x5, x6]
  | 19 => .int .i64 S
  | 20 => .bool false
  | 21 => .bool false
  | 22 => .bool false
  | 23 => .agg #[x0, x1, x2, x3, x4, x5, x6]
  | 24 => .int .i64 K
  | 25 => .agg #[x0, x1, x2, x3, x4, x5, x6]
  | 26 => .int .i64 K
  | 27 => .bool false
  | _ => .bool false
def enU (k : Nat) : Bool := k == 1 || k == 3
section
variable {Q : Exit → Act → World → Prop} {X0 w0 : World} {a0 : Act}
set_option maxHeartbeats 4000000 in
theorem named1 {b : Nat} {x0 x1 x2 x3 x4 x5 x6 : Value} {nm : List UInt8} {O : List (List UInt8)} {U S K : Int} (h1 : ∀ w, Below X0.heap.size X0 w → w.cell? ⟨b, 0, none⟩ = some x0 ∧ w.cell? ⟨b, 1, none⟩ = some x1 ∧ w.cell? ⟨b, 2, none⟩ = some x2 ∧ w.cell? ⟨b, 3, none⟩ = some x3 ∧ w.cell? ⟨b, 4, none⟩ = some x4 ∧ w.cell? ⟨b, 5, none⟩ = some x5 ∧ w.cell? ⟨b, 6, none⟩ = some x6)
    (hf1 : (∀ w, Below X0.heap.size X0 w → Calls Tryz.prog 20 #[.agg #[x0, x1, x2, x3, x4, x5, x6]] w fun e w' => (∃ v, e = .returned v ∧ ∃ ao c, v = .slice ao O.length c ∧ Ns w' ao O) ∧ Below w.heap.size w w')) (hf2 : (∀ w, Below X0.heap.size X0 w → Calls Tryz.prog 23 #[.agg #[x0, x1, x2, x3, x4, x5, x6]] w fun e w' => (∃ v, e = .returned v ∧ ∃ ao c, v = .slice ao O.length c ∧ Ns w' ao O) ∧ Below w.heap.size w w'))
    (hsm : ∀ w a1 c1 a2 c2, Ns w a1 O → Ns w a2 O → Calls Tryz.prog 13 #[.slice a1 O.length c1, .slice a2 O.length c2] w fun e w' => e = .returned (.bool true) ∧ Below w.heap.size w w')
    (hu1 : (∀ w, Below X0.heap.size X0 w → Calls Tryz.prog 22 #[.agg #[x0, x1, x2, x3, x4, x5, x6], .string (bs nm)] w fun e w' => e = .returned (.int .i64 U) ∧ Below w.heap.size w w')) (hu2 : (∀ w, Below X0.heap.size X0 w → Calls Tryz.prog 37 #[.agg #[x0, x1, x2, x3, x4, x5, x6], .string (bs nm)] w fun e w' => e = .returned (.int .i64 U) ∧ Below w.heap.size w w'))
    (hs1 : (∀ w, Below X0.heap.size X0 w → Calls Tryz.prog 21 #[.agg #[x0, x1, x2, x3, x4, x5, x6]] w fun e w' => e = .returned (.int .i64 S) ∧ Below w.heap.size w w')) (hs2 : (∀ w, Below X0.heap.size X0 w → Calls Tryz.prog 38 #[.agg #[x0, x1, x2, x3, x4, x5, x6]] w fun e w' => e = .returned (.int .i64 S) ∧ Below w.heap.size w w'))
    (hn1 : (∀ w, Below X0.heap.size X0 w → Calls Tryz.prog 25 #[.agg #[x0, x1, x2, x3, x4, x5, x6]] w fun e w' => e = .returned (.int .i64 K) ∧ Below w.heap.size w w')) (hn2 : (∀ w, Below X0.heap.size X0 w → Calls Tryz.prog 39 #[.agg #[x0, x1, x2, x3, x4, x5, x6]] w fun e w' => e = .returned (.int .i64 K) ∧ Below w.heap.size w w')) (hs : 59 ≤ a0.tmps.size)
    (e3 : Rv.ev a0 3 = .pointer (some ⟨b, 0, none⟩))
    (e1 : Rv.ev a0 1 = .string (bs nm))
    (hw : Below X0.heap.size X0 w0)
    (hQ : ∀ a w, Rv.Off 29 ensl a0 a → Below X0.heap.size X0 w → (∀ j, j < 29 → enU j = false → Rv.ev a (ensl j) = (enV x0 x1 x2 x3 x4 x5 x6 nm U S K) j) → Q .normal a w) :
    wpAny Tryz.prog .any enops Q 29 (Array.replicate 29 false) a0 w0 := by
  have hG : ∀ (i : Nat) (v : Value) (w w' : World), Below w.heap.size w w' → (fun j v w => if j = 1 then (∃ ao c, v = .slice ao O.length c ∧ Ns w ao O) else if j = 3 then (∃ ao c, v = .slice ao O.length c ∧ Ns w ao O) else True) i v w → (fun j v w => if j = 1 then (∃ ao c, v = .slice ao O.length c ∧ Ns w ao O) else if j = 3 then (∃ ao c, v = .slice ao O.length c ∧ Ns w ao O) else True) i v w' := by
    intro i v w w' hb h
    try dsimp only at h ⊢
    by_cases e1 : i = 1
    · rw [if_pos e1] at h ⊢
      obtain ⟨ao, c, rfl, hN⟩ := h
      exact ⟨ao, c, rfl, hN.up hb⟩
    rw [if_neg e1] at h ⊢
    by_cases e3 : i = 3
    · rw [if_pos e3] at h ⊢
      obtain ⟨ao, c, rfl, hN⟩ := h
      exact ⟨ao, c, rfl, hN.up hb⟩
    rw [if_neg e3] at h ⊢
    exact trivial
  refine Rv.rel (X0 := X0) 29 ensl (enV x0 x1 x2 x3 x4 x5 x6 nm U S K) enU (fun j v w => if j = 1 then (∃ ao c, v = .slice ao O.length c ∧ Ns w ao O) else if j = 3 then (∃ ao c, v = .slice ao O.length c ∧ Ns w ao O) else True) hG rfl (by decide) (by decide) (fun j hj => Nat.lt_of_lt_of_le ((by decide : ∀ j, j < 29 → ensl j < 59) j hj) hs) hw ?_ ?_ (fun a w h1 h2 h3 _ => hQ a w h1 h2 h3)
  · intro i a W hi hu hO hW hd hg
    have hev : ∀ j, a.eval (.tmp j) = Rv.ev a j := fun _ => rfl
    have hcn : ∀ v, a.eval (.const v) = v := fun _ => rfl
    have hfn : ∀ v, a.eval (.func v) = .func (.func v) #[] #[] := fun _ => rfl
    have hsz : ∀ k, k < 59 → k < a.tmps.size := fun k hk => by rw [hO.size]; omega
    have g3 : Rv.ev a 3 = .pointer (some ⟨b, 0, none⟩) := (hO.same 3 (by decide)).trans e3
    have g1 : Rv.ev a 1 = .string (bs nm) := (hO.same 1 (by decide)).trans e1
    obtain ⟨k0, k1, k2, k3, k4, k5, k6⟩ := h1 W hW
    have hN : i = 0 ∨ i = 1 ∨ i = 2 ∨ i = 3 ∨ i = 4 ∨ i = 5 ∨ i = 6 ∨ i = 7 ∨ i = 8 ∨ i = 9 ∨ i = 10 ∨ i = 11 ∨ i = 12 ∨ i = 13 ∨ i = 14 ∨ i = 15 ∨ i = 16 ∨ i = 17 ∨ i = 18 ∨ i = 19 ∨ i = 20 ∨ i = 21 ∨ i = 22 ∨ i = 23 ∨ i = 24 ∨ i = 25 ∨ i = 26 ∨ i = 27 ∨ i = 28 := by omega
    rcases hN with rfl | rfl | rfl | rfl | rfl | rfl | rfl | rfl | rfl | rfl | rfl | rfl | rfl | rfl | rfl | rfl | rfl | rfl | rfl | rfl | rfl | rfl | rfl | rfl | rfl | rfl | rfl | rfl | rfl
    · exact Rv.run (X0 := W) (o := en0) rfl rfl (Rv.want_free rfl) (by unfold en0; simp only [execOp, hev, g3]; go_simp <;> rfl) (Below.refl _ _)
    · exact absurd hu (by decide)
    · exact Rv.run (X0 := W) (o := en2) rfl rfl (Rv.want_free rfl) (by unfold en2; simp only [execOp, hev, g3]; go_simp <;> rfl) (Below.refl _ _)
    · exact absurd hu (by decide)
    · obtain ⟨a1, c1, d9, n1⟩ := (show ∃ ao c, Rv.ev a 9 = .slice ao O.length c ∧ Ns W ao O from hg 1 (by decide) rfl)
      obtain ⟨a2, c2, d11, n2⟩ := (show ∃ ao c, Rv.ev a 11 = .slice ao O.length c ∧ Ns W ao O from hg 3 (by decide) rfl)
      refine Rv.call (X0 := W) (o := en4) (f := 13) (vs := #[.slice a1 O.length c1, .slice a2 O.length c2]) rfl rfl (Rv.want_free rfl) ?_ (Below.refl _ _) (hsm W a1 c1 a2 c2 n1 n2)
      unfold en4
      simp only [execOp, resolve, invoke, Sem.run_bind, List.map_toArray, List.map_cons, List.map_nil, hev, hfn, d9, d11]
      go_simp
    · have d12 : Rv.ev a 12 = .bool true := hd 4 (by decide) rfl
      exact Rv.run (X0 := W) (o := en5) rfl rfl (Rv.want_free rfl) (by unfold en5; simp only [execOp, hev, d12]; go_simp <;> rfl) (Below.refl _ _)
    · have d13 : Rv.ev a 13 = .bool false := hd 5 (by decide) rfl
      exact Rv.run (X0 := W) (o := en6) rfl rfl (Rv.want_free rfl) (by unfold en6; simp only [execOp, hev, d13]; rfl) (Below.refl _ _)
    · have dg : Rv.ev a 14 = .bool false := hd 6 (by decide) rfl
      exact Rv.run (X0 := W) (o := en7) rfl rfl (by rw [Rv.want_if (o' := en6) rfl rfl rfl (hsz 14 (by decide)) dg]; first | rfl | simp) (by unfold en7; simp only [execOp, hev, g3]; go_simp <;> rfl) (Below.refl _ _)
    · have dg : Rv.ev a 14 = .bool false := hd 6 (by decide) rfl
      exact Rv.run (X0 := W) (o := en8) rfl rfl (by rw [Rv.want_if (o' := en6) rfl rfl rfl (hsz 14 (by decide)) dg]; first | rfl | simp) (by unfold en8; simp only [execOp, hev, g1]; rfl) (Below.refl _ _)
    · have d15 : Rv.ev a 15 = .agg #[x0, x1, x2, x3, x4, x5, x6] := hd 7 (by decide) rfl
      have d16 : Rv.ev a 16 = .string (bs nm) := hd 8 (by decide) rfl
      have dg : Rv.ev a 14 = .bool false := hd 6 (by decide) rfl
      refine Rv.call (X0 := W) (o := en9) (f := 22) (vs := #[.agg #[x0, x1, x2, x3, x4, x5, x6], .string (bs nm)]) rfl rfl (by rw [Rv.want_if (o' := en6) rfl rfl rfl (hsz 14 (by decide)) dg]; first | rfl | simp) ?_ (Below.refl _ _) (hu1 W hW)
      unfold en9
      simp only [execOp, resolve, invoke, Sem.run_bind, List.map_toArray, List.map_cons, List.map_nil, hev, hfn, d15, d16]
      go_simp
    · have dg : Rv.ev a 14 = .bool false := hd 6 (by decide) rfl
      exact Rv.run (X0 := W) (o := en10) rfl rfl (by rw [Rv.want_if (o' := en6) rfl rfl rfl (hsz 14 (by decide)) dg]; first | rfl | simp) (by unfold en10; simp only [execOp, hev, g3]; go_simp <;> rfl) (Below.refl _ _)
    · have dg : Rv.ev a 14 = .bool false := hd 6 (by decide) rfl
      exact Rv.run (X0 := W) (o := en11) rfl rfl (by rw [Rv.want_if (o' := en6) rfl rfl rfl (hsz 14 (by decide)) dg]; first | rfl | simp) (by unfold en11; simp only [execOp, hev, g1]; rfl) (Below.refl _ _)
    · have d18 : Rv.ev a 18 = .agg #[x0, x1, x2, x3, x4, x5, x6] := hd 10 (by decide) rfl
      have d19 : Rv.ev a 19 = .string (bs nm) := hd 11 (by decide) rfl
      have dg : Rv.ev a 14 = .bool false := hd 6 (by decide) rfl
      refine Rv.call (X0 := W) (o := en12) (f := 37) (vs := #[.agg #[x0, x1, x2, x3, x4, x5, x6], .string (bs nm)]) rfl rfl (by rw [Rv.want_if (o' := en6) rfl rfl rfl (hsz 14 (by decide)) dg]; first | rfl | simp) ?_ (Below.refl _ _) (hu2 W hW)
      unfold en12
      simp only [execOp, resolve, invoke, Sem.run_bind, List.map_toArray, List.map_cons, List.map_nil, hev, hfn, d18, d19]
      go_simp
    · have d17 : Rv.ev a 17 = .int .i64 U := hd 9 (by decide) rfl
      have d20 : Rv.ev a 20 = .int .i64 U := hd 12 (by decide) rfl
      have dg : Rv.ev a 14 = .bool false := hd 6 (by decide) rfl
      exact Rv.run (X0 := W) (o := en13) rfl rfl (by rw [Rv.want_if (o' := en6) rfl rfl rfl (hsz 14 (by decide)) dg]; first | rfl | simp) (by unfold en13; simp only [execOp, hev, d17, d20]; go_simp <;> rfl) (Below.refl _ _)
    · have d14 : Rv.ev a 14 = .bool false := hd 6 (by decide) rfl
      have d21 : Rv.ev a 21 = .bool false := hd 13 (by decide) rfl
      exact Rv.run (X0 := W) (o := en14) rfl rfl (Rv.want_free rfl) (by unfold en14; simp only [execOp, hev, hcn, d14, d21]; go_simp <;> rfl) (Below.refl _ _)
    · have d22 : Rv.ev a 22 = .bool false := hd 14 (by decide) rfl
      exact Rv.run (X0 := W) (o := en15) rfl rfl (Rv.want_free rfl) (by unfold en15; simp only [execOp, hev, d22]; rfl) (Below.refl _ _)
    · have dg : Rv.ev a 23 = .bool false := hd 15 (by decide) rfl
      exact Rv.run (X0 := W) (o := en16) rfl rfl (by rw [Rv.want_if (o' := en15) rfl rfl rfl (hsz 23 (by decide)) dg]; first | rfl | simp) (by unfold en16; simp only [execOp, hev, g3]; go_simp <;> rfl) (Below.refl _ _)
    · have d24 : Rv.ev a 24 = .agg #[x0, x1, x2, x3, x4, x5, x6] := hd 16 (by decide) rfl
      have dg : Rv.ev a 23 = .bool false := hd 15 (by decide) rfl
      refine Rv.call (X0 := W) (o := en17) (f := 21) (vs := #[.agg #[x0, x1, x2, x3, x4, x5, x6]]) rfl rfl (by rw [Rv.want_if (o' := en15) rfl rfl rfl (hsz 23 (by decide)) dg]; first | rfl | simp) ?_ (Below.refl _ _) (hs1 W hW)
      unfold en17
      simp only [execOp, resolve, invoke, Sem.run_bind, List.map_toArray, List.map_cons, List.map_nil, hev, hfn, d24]
      go_simp
    · have dg : Rv.ev a 23 = .bool false := hd 15 (by decide) rfl
      exact Rv.run (X0 := W) (o := en18) rfl rfl (by rw [Rv.want_if (o' := en15) rfl rfl rfl (hsz 23 (by decide)) dg]; first | rfl | simp) (by unfold en18; simp only [execOp, hev, g3]; go_simp <;> rfl) (Below.refl _ _)
    · have d26 : Rv.ev a 26 = .agg #[x0, x1, x2, x3, x4, x5, x6] := hd 18 (by decide) rfl
      have dg : Rv.ev a 23 = .bool false := hd 15 (by decide) rfl
      refine Rv.call (X0 := W) (o := en19) (f := 38) (vs := #[.agg #[x0, x1, x2, x3, x4, x5, x6]]) rfl rfl (by rw [Rv.want_if (o' := en15) rfl rfl rfl (hsz 23 (by decide)) dg]; first | rfl | simp) ?_ (Below.refl _ _) (hs2 W hW)
      unfold en19
      simp only [execOp, resolve, invoke, Sem.run_bind, List.map_toArray, List.map_cons, List.map_nil, hev, hfn, d26]
      go_simp
    · have d25 : Rv.ev a 25 = .int .i64 S := hd 17 (by decide) rfl
      have d27 : Rv.ev a 27 = .int .i64 S := hd 19 (by decide) rfl
      have dg : Rv.ev a 23 = .bool false := hd 15 (by decide) rfl
      exact Rv.run (X0 := W) (o := en20) rfl rfl (by rw [Rv.want_if (o' := en15) rfl rfl rfl (hsz 23 (by decide)) dg]; first | rfl | simp) (by unfold en20; simp only [execOp, hev, d25, d27]; go_simp <;> rfl) (Below.refl _ _)
    · have d23 : Rv.ev a 23 = .bool false := hd 15 (by decide) rfl
      have d28 : Rv.ev a 28 = .bool false := hd 20 (by decide) rfl
      exact Rv.run (X0 := W) (o := en21) rfl rfl (Rv.want_free rfl) (by unfold en21; simp only [execOp, hev, hcn, d23, d28]; go_simp <;> rfl) (Below.refl _ _)
    · have d29 : Rv.ev a 29 = .bool false := hd 21 (by decide) rfl
      exact Rv.run (X0 := W) (o := en22) rfl rfl (Rv.want_free rfl) (by unfold en22; simp only [execOp, hev, d29]; rfl) (Below.refl _ _)
    · have dg : Rv.ev a 30 = .bool false := hd 22 (by decide) rfl
      exact Rv.run (X0 := W) (o := en23) rfl rfl (by rw [Rv.want_if (o' := en22) rfl rfl rfl (hsz 30 (by decide)) dg]; first | rfl | simp) (by unfold en23; simp only [execOp, hev, g3]; go_simp <;> rfl) (Below.refl _ _)
    · have d31 : Rv.ev a 31 = .agg #[x0, x1, x2, x3, x4, x5, x6] := hd 23 (by decide) rfl
      have dg : Rv.ev a 30 = .bool false := hd 22 (by decide) rfl
      refine Rv.call (X0 := W) (o := en24) (f := 25) (vs := #[.agg #[x0, x1, x2, x3, x4, x5, x6]]) rfl rfl (by rw [Rv.want_if (o' := en22) rfl rfl rfl (hsz 30 (by decide)) dg]; first | rfl | simp) ?_ (Below.refl _ _) (hn1 W hW)
      unfold en24
      simp only [execOp, resolve, invoke, Sem.run_bind, List.map_toArray, List.map_cons, List.map_nil, hev, hfn, d31]
      go_simp
    · have dg : Rv.ev a 30 = .bool false := hd 22 (by decide) rfl
      exact Rv.run (X0 := W) (o := en25) rfl rfl (by rw [Rv.want_if (o' := en22) rfl rfl rfl (hsz 30 (by decide)) dg]; first | rfl | simp) (by unfold en25; simp only [execOp, hev, g3]; go_simp <;> rfl) (Below.refl _ _)
    · have d33 : Rv.ev a 33 = .agg #[x0, x1, x2, x3, x4, x5, x6] := hd 25 (by decide) rfl
      have dg : Rv.ev a 30 = .bool false := hd 22 (by decide) rfl
      refine Rv.call (X0 := W) (o := en26) (f := 39) (vs := #[.agg #[x0, x1, x2, x3, x4, x5, x6]]) rfl rfl (by rw [Rv.want_if (o' := en22) rfl rfl rfl (hsz 30 (by decide)) dg]; first | rfl | simp) ?_ (Below.refl _ _) (hn2 W hW)
      unfold en26
      simp only [execOp, resolve, invoke, Sem.run_bind, List.map_toArray, List.map_cons, List.map_nil, hev, hfn, d33]
      go_simp
    · have d32 : Rv.ev a 32 = .int .i64 K := hd 24 (by decide) rfl
      have d34 : Rv.ev a 34 = .int .i64 K := hd 26 (by decide) rfl
      have dg : Rv.ev a 30 = .bool false := hd 22 (by decide) rfl
      exact Rv.run (X0 := W) (o := en27) rfl rfl (by rw [Rv.want_if (o' := en22) rfl rfl rfl (hsz 30 (by decide)) dg]; first | rfl | simp) (by unfold en27; simp only [execOp, hev, d32, d34]; go_simp <;> rfl) (Below.refl _ _)
    · have d30 : Rv.ev a 30 = .bool false := hd 22 (by decide) rfl
      have d35 : Rv.ev a 35 = .bool false := hd 27 (by decide) rfl
      exact Rv.run (X0 := W) (o := en28) rfl rfl (Rv.want_free rfl) (by unfold en28; simp only [execOp, hev, hcn, d30, d35]; go_simp <;> rfl) (Below.refl _ _)
  · intro i a W hi hu hO hW hd hg
    have hev : ∀ j, a.eval (.tmp j) = Rv.ev a j := fun _ => rfl
    have hcn : ∀ v, a.eval (.const v) = v := fun _ => rfl
    have hfn : ∀ v, a.eval (.func v) = .func (.func v) #[] #[] := fun _ => rfl
    have hsz : ∀ k, k < 59 → k < a.tmps.size := fun k hk => by rw [hO.size]; omega
    have g3 : Rv.ev a 3 = .pointer (some ⟨b, 0, none⟩) := (hO.same 3 (by decide)).trans e3
    have g1 : Rv.ev a 1 = .string (bs nm) := (hO.same 1 (by decide)).trans e1
    obtain ⟨k0, k1, k2, k3, k4, k5, k6⟩ := h1 W hW
    have hN : i = 0 ∨ i = 1 ∨ i = 2 ∨ i = 3 ∨ i = 4 ∨ i = 5 ∨ i = 6 ∨ i = 7 ∨ i = 8 ∨ i = 9 ∨ i = 10 ∨ i = 11 ∨ i = 12 ∨ i = 13 ∨ i = 14 ∨ i = 15 ∨ i = 16 ∨ i = 17 ∨ i = 18 ∨ i = 19 ∨ i = 20 ∨ i = 21 ∨ i = 22 ∨ i = 23 ∨ i = 24 ∨ i = 25 ∨ i = 26 ∨ i = 27 ∨ i = 28 := by omega
    rcases hN with rfl | rfl | rfl | rfl | rfl | rfl | rfl | rfl | rfl | rfl | rfl | rfl | rfl | rfl | rfl | rfl | rfl | rfl | rfl | rfl | rfl | rfl | rfl | rfl | rfl | rfl | rfl | rfl | rfl
    · exact absurd hu (by decide)
    · have d8 : Rv.ev a 8 = .agg #[x0, x1, x2, x3, x4, x5, x6] := hd 0 (by decide) rfl
      refine Rv.callG (o := en1) (f := 20) (vs := #[.agg #[x0, x1, x2, x3, x4, x5, x6]]) rfl rfl (Rv.want_free rfl) ?_ (hf1 W hW)
      unfold en1
      simp only [execOp, resolve, invoke, Sem.run_bind, List.map_toArray, List.map_cons, List.map_nil, hev, hfn, d8]
      go_simp
    · exact absurd hu (by decide)
    · have d10 : Rv.ev a 10 = .agg #[x0, x1, x2, x3, x4, x5, x6] := hd 2 (by decide) rfl
      refine Rv.callG (o := en3) (f := 23) (vs := #[.agg #[x0, x1, x2, x3, x4, x5, x6]]) rfl rfl (Rv.want_free rfl) ?_ (hf2 W hW)
      unfold en3
      simp only [execOp, resolve, invoke, Sem.run_bind, List.map_toArray, List.map_cons, List.map_nil, hev, hfn, d10]
      go_simp
    · exact absurd hu (by decide)
    · exact absurd hu (by decide)
    · exact absurd hu (by decide)
    · exact absurd hu (by decide)
    · exact absurd hu (by decide)
    · exact absurd hu (by decide)
    · exact absurd hu (by decide)
    · exact absurd hu (by decide)
    · exact absurd hu (by decide)
    · exact absurd hu (by decide)
    · exact absurd hu (by decide)
    · exact absurd hu (by decide)
    · exact absurd hu (by decide)
    · exact absurd hu (by decide)
    · exact absurd hu (by decide)
    · exact absurd hu (by decide)
    · exact absurd hu (by decide)
    · exact absurd hu (by decide)
    · exact absurd hu (by decide)
    · exact absurd hu (by decide)
    · exact absurd hu (by decide)
    · exact absurd hu (by decide)
    · exact absurd hu (by decide)
    · exact absurd hu (by decide)
    · exact absurd hu (by decide)
end
theorem litN (f : Nat → Value) : ((List.range 59).map f).toArray = #[f 0, f 1, f 2, f 3, f 4, f 5, f 6, f 7, f 8, f 9, f 10, f 11, f 12, f 13, f 14, f 15, f 16, f 17, f 18, f 19, f 20, f 21, f 22, f 23, f 24, f 25, f 26, f 27, f 28, f 29, f 30, f 31, f 32, f 33, f 34, f 35, f 36, f 37, f 38, f 39, f 40, f 41, f 42, f 43, f 44, f 45, f 46, f 47, f 48, f 49, f 50, f 51, f 52, f 53, f 54, f 55, f 56, f 57, f 58] := rfl
theorem tmpsN (a : Act) (h : a.tmps.size = 59) : a.tmps = ((List.range 59).map (Rv.ev a)).toArray := by
  apply Array.ext
  · simp [h]
  · intro i h1 h2
    simp [Rv.ev, Act.eval, h1]
set_option maxHeartbeats 16000000 in
theorem offN {x0 x1 x2 x3 x4 x5 x6 x7 x8 x9 x10 x11 x12 x13 x14 x15 x16 x17 x18 x19 x20 x21 x22 x23 x24 x25 x26 x27 x28 x29 x30 x31 x32 x33 x34 x35 x36 x37 x38 x39 x40 x41 x42 x43 x44 x45 x46 x47 x48 x49 x50 x51 x52 x53 x54 x55 x56 x57 x58 : Value} {a : Act} (h : Rv.Off 29 ensl { tmps := #[x0, x1, x2, x3, x4, x5, x6, x7, x8, x9, x10, x11, x12, x13, x14, x15, x16, x17, x18, x19, x20, x21, x22, x23, x24, x25, x26, x27, x28, x29, x30, x31, x32, x33, x34, x35, x36, x37, x38, x39, x40, x41, x42, x43, x44, x45, x46, x47, x48, x49, x50, x51, x52, x53, x54, x55, x56, x57, x58], defers := [] } a) : ∃ y8 y9 y10 y11 y12 y13 y14 y15 y16 y17 y18 y19 y20 y21 y22 y23 y24 y25 y26 y27 y28 y29 y30 y31 y32 y33 y34 y35 y36, (Rv.ev a 8 = y8 ∧ Rv.ev a 9 = y9 ∧ Rv.ev a 10 = y10 ∧ Rv.ev a 11 = y11 ∧ Rv.ev a 12 = y12 ∧ Rv.ev a 13 = y13 ∧ Rv.ev a 14 = y14 ∧ Rv.ev a 15 = y15 ∧ Rv.ev a 16 = y16 ∧ Rv.ev a 17 = y17 ∧ Rv.ev a 18 = y18 ∧ Rv.ev a 19 = y19 ∧ Rv.ev a 20 = y20 ∧ Rv.ev a 21 = y21 ∧ Rv.ev a 22 = y22 ∧ Rv.ev a 23 = y23 ∧ Rv.ev a 24 = y24 ∧ Rv.ev a 25 = y25 ∧ Rv.ev a 26 = y26 ∧ Rv.ev a 27 = y27 ∧ Rv.ev a 28 = y28 ∧ Rv.ev a 29 = y29 ∧ Rv.ev a 30 = y30 ∧ Rv.ev a 31 = y31 ∧ Rv.ev a 32 = y32 ∧ Rv.ev a 33 = y33 ∧ Rv.ev a 34 = y34 ∧ Rv.ev a 35 = y35 ∧ Rv.ev a 36 = y36) ∧ a = { tmps := #[x0, x1, x2, x3, x4, x5, x6, x7, y8, y9, y10, y11, y12, y13, y14, y15, y16, y17, y18, y19, y20, y21, y22, y23, y24, y25, y26, y27, y28, y29, y30, y31, y32, y33, y34, y35, y36, x37, x38, x39, x40, x41, x42, x43, x44, x45, x46, x47, x48, x49, x50, x51, x52, x53, x54, x55, x56, x57, x58], defers := [] } := by
  refine ⟨Rv.ev a 8, Rv.ev a 9, Rv.ev a 10, Rv.ev a 11, Rv.ev a 12, Rv.ev a 13, Rv.ev a 14, Rv.ev a 15, Rv.ev a 16, Rv.ev a 17, Rv.ev a 18, Rv.ev a 19, Rv.ev a 20, Rv.ev a 21, Rv.ev a 22, Rv.ev a 23, Rv.ev a 24, Rv.ev a 25, Rv.ev a 26, Rv.ev a 27, Rv.ev a 28, Rv.ev a 29, Rv.ev a 30, Rv.ev a 31, Rv.ev a 32, Rv.ev a 33, Rv.ev a 34, Rv.ev a 35, Rv.ev a 36, ⟨rfl, rfl, rfl, rfl, rfl, rfl, rfl, rfl, rfl, rfl, rfl, rfl, rfl, rfl, rfl, rfl, rfl, rfl, rfl, rfl, rfl, rfl, rfl, rfl, rfl, rfl, rfl, rfl, rfl⟩, ?_⟩
  have e := tmpsN a h.size
  rw [litN] at e
  have h0 : Rv.ev a 0 = x0 := h.same 0 (by decide)
  have h1 : Rv.ev a 1 = x1 := h.same 1 (by decide)
  have h2 : Rv.ev a 2 = x2 := h.same 2 (by decide)
  have h3 : Rv.ev a 3 = x3 := h.same 3 (by decide)
  have h4 : Rv.ev a 4 = x4 := h.same 4 (by decide)
  have h5 : Rv.ev a 5 = x5 := h.same 5 (by decide)
  have h6 : Rv.ev a 6 = x6 := h.same 6 (by decide)
  have h7 : Rv.ev a 7 = x7 := h.same 7 (by decide)
  have h37 : Rv.ev a 37 = x37 := h.same 37 (by decide)
  have h38 : Rv.ev a 38 = x38 := h.same 38 (by decide)
  have h39 : Rv.ev a 39 = x39 := h.same 39 (by decide)
  have h40 : Rv.ev a 40 = x40 := h.same 40 (by decide)
  have h41 : Rv.ev a 41 = x41 := h.same 41 (by decide)
  have h42 : Rv.ev a 42 = x42 := h.same 42 (by decide)
  have h43 : Rv.ev a 43 = x43 := h.same 43 (by decide)
  have h44 : Rv.ev a 44 = x44 := h.same 44 (by decide)
  have h45 : Rv.ev a 45 = x45 := h.same 45 (by decide)
  have h46 : Rv.ev a 46 = x46 := h.same 46 (by decide)
  have h47 : Rv.ev a 47 = x47 := h.same 47 (by decide)
  have h48 : Rv.ev a 48 = x48 := h.same 48 (by decide)
  have h49 : Rv.ev a 49 = x49 := h.same 49 (by decide)
  have h50 : Rv.ev a 50 = x50 := h.same 50 (by decide)
  have h51 : Rv.ev a 51 = x51 := h.same 51 (by decide)
  have h52 : Rv.ev a 52 = x52 := h.same 52 (by decide)
  have h53 : Rv.ev a 53 = x53 := h.same 53 (by decide)
  have h54 : Rv.ev a 54 = x54 := h.same 54 (by decide)
  have h55 : Rv.ev a 55 = x55 := h.same 55 (by decide)
  have h56 : Rv.ev a 56 = x56 := h.same 56 (by decide)
  have h57 : Rv.ev a 57 = x57 := h.same 57 (by decide)
  have h58 : Rv.ev a 58 = x58 := h.same 58 (by decide)
  rw [h0, h1, h2, h3, h4, h5, h6, h7, h37, h38, h39, h40, h41, h42, h43, h44, h45, h46, h47, h48, h49, h50, h51, h52, h53, h54, h55, h56, h57, h58] at e
  have hd : a.defers = [] := h.def_
  cases a
  simp only at e hd
  rw [hd]
  exact congrArg (fun t => ({ tmps := t, defers := [] } : Act)) e
end Go.Proofs.YtmfejllhlbnigaaGreatDoor
/-
  The region of ScopeNames that draws its order.
-/
namespace Go.Proofs.YtmfejllhlbnigaaGreatDoor
open Go.RowKit
set_option maxRecDepth 100000

def eo0 : Oper := { dst := some 29, op := Op.fieldAddr 26 (Operand.tmp 5) 0, type := 0, pos := "law.go:58", after := #[], guard := none }
def eo1 : Oper := { dst := some 30, op := Op.load 24 (Operand.tmp 29), type := 24, pos := "law.go:58", after := #[{ on := 0, ground := Ground.data }], guard := none }
def eo2 : Oper := { dst := some 31, op := Op.move (Operand.tmp 7), type := 3, pos := "law.go:58", after := #[], guard := none }
def eo3 : Oper := { dst := some 32, op := Op.indexAddr 24 (Operand.tmp 30) (Operand.tmp 31), type := 0, pos := "law.go:58", after := #[{ on := 1, ground := Ground.data }, { on := 2, ground := Ground.data }], guard := none }
def eo4 : Oper := { dst := some 33, op := Op.load 45 (Operand.tmp 32), type := 45, pos := "law.go:58", after := #[{ on := 3, ground := Ground.data }], guard := none }
def eo5 : Oper := { dst := some 34, op := Op.call { callee := Callee.value (Operand.func 14), args := #[Operand.tmp 33], argTypes := #[45] }, type := 35, pos := "law.go:58", after := #[{ on := 4, ground := Ground.data }], guard := none }
def eo6 : Oper := { dst := some 35, op := Op.fieldAddr 26 (Operand.tmp 5) 0, type := 0, pos := "law.go:58", after := #[], guard := none }
def eo7 : Oper := { dst := some 36, op := Op.load 24 (Operand.tmp 35), type := 24, pos := "law.go:58", after := #[{ on := 6, ground := Ground.data }], guard := none }
def eo8 : Oper := { dst := some 37, op := Op.move (Operand.tmp 7), type := 3, pos := "law.go:58", after := #[], guard := none }
def eo9 : Oper := { dst := some 38, op := Op.indexAddr 24 (Operand.tmp 36) (Operand.tmp 37), type := 0, pos := "law.go:58", after := #[{ on := 7, ground := Ground.data }, { on := 8, ground := Ground.data }], guard := none }
def eo10 : Oper := { dst := some 39, op := Op.load 45 (Operand.tmp 38), type := 45, pos := "law.go:58", after := #[{ on := 9, ground := Ground.data }], guard := none }
def eo11 : Oper := { dst := some 40, op := Op.call { callee := Callee.value (Operand.func 15), args := #[Operand.tmp 39], argTypes := #[45] }, type := 35, pos := "law.go:58", after := #[{ on := 10, ground := Ground.data }, { on := 5, ground := Ground.chain }], guard := none }
def eo12 : Oper := { dst := some 41, op := Op.call { callee := Callee.value (Operand.func 13), args := #[Operand.tmp 34, Operand.tmp 40], argTypes := #[35, 35] }, type := 4, pos := "law.go:58", after := #[{ on := 5, ground := Ground.data }, { on := 11, ground := Ground.data }, { on := 11, ground := Ground.chain }], guard := none }
def eo13 : Oper := { dst := some 42, op := Op.unOp UnOp.not 4 (Operand.tmp 41), type := 4, pos := "law.go:58", after := #[{ on := 12, ground := Ground.data }], guard := none }
def eo14 : Oper := { dst := some 43, op := Op.move (Operand.tmp 42), type := 4, pos := "law.go:58", after := #[{ on := 13, ground := Ground.data }, { on := 12, ground := Ground.chain }], guard := none }
def eo15 : Oper := { dst := some 44, op := Op.fieldAddr 26 (Operand.tmp 5) 0, type := 0, pos := "law.go:58", after := #[{ on := 14, ground := Ground.guard }], guard := some (14, false) }
def eo16 : Oper := { dst := some 45, op := Op.load 24 (Operand.tmp 44), type := 24, pos := "law.go:58", after := #[{ on := 15, ground := Ground.data }, { on := 14, ground := Ground.guard }], guard := some (14, false) }
def eo17 : Oper := { dst := some 46, op := Op.move (Operand.tmp 7), type := 3, pos := "law.go:58", after := #[{ on := 14, ground := Ground.guard }], guard := some (14, false) }
def eo18 : Oper := { dst := some 47, op := Op.indexAddr 24 (Operand.tmp 45) (Operand.tmp 46), type := 0, pos := "law.go:58", after := #[{ on := 16, ground := Ground.data }, { on := 17, ground := Ground.data }, { on := 14, ground := Ground.guard }], guard := some (14, false) }
def eo19 : Oper := { dst := some 48, op := Op.fieldAddr 45 (Operand.tmp 47) 3, type := 0, pos := "law.go:58", after := #[{ on := 18, ground := Ground.data }, { on := 14, ground := Ground.guard }], guard := some (14, false) }
def eo20 : Oper := { dst := some 49, op := Op.load 43 (Operand.tmp 48), type := 43, pos := "law.go:58", after := #[{ on := 19, ground := Ground.data }, { on := 14, ground := Ground.guard }], guard := some (14, false) }
def eo21 : Oper := { dst := some 50, op := Op.move (Operand.tmp 1), type := 9, pos := "law.go:58", after := #[{ on := 14, ground := Ground.guard }], guard := some (14, false) }
def eo22 : Oper := { dst := some 51, op := Op.call { callee := Callee.value (Operand.func 16), args := #[Operand.tmp 49, Operand.tmp 50, Operand.const (Value.int IntKind.i64 300)], argTypes := #[43, 9, 3] }, type := 4, pos := "law.go:58", after := #[{ on := 20, ground := Ground.data }, { on := 21, ground := Ground.data }, { on := 14, ground := Ground.chain }, { on := 14, ground := Ground.guard }], guard := some (14, false) }
def eo23 : Oper := { dst := some 52, op := Op.unOp UnOp.not 4 (Operand.tmp 51), type := 4, pos := "law.go:58", after := #[{ on := 22, ground := Ground.data }, { on := 14, ground := Ground.guard }], guard := some (14, false) }
def eo24 : Oper := { dst := some 53, op := Op.pick (Operand.tmp 43) (Operand.const (Value.bool true)) (Operand.tmp 52), type := 4, pos := "law.go:58", after := #[{ on := 14, ground := Ground.data }, { on := 23, ground := Ground.data }], guard := none }
def eoops : Array Oper := #[eo0, eo1, eo2, eo3, eo4, eo5, eo6, eo7, eo8, eo9, eo10, eo11, eo12, eo13, eo14, eo15, eo16, eo17, eo18, eo19, eo20, eo21, eo22, eo23, eo24]
def eosl (k : Nat) : Nat := 29 + k
def eoV (b g n c k : Nat) (y0 y1 y2 x0 x1 x2 x3 x4 x5 x6 y10 : Value) (nm : List UInt8) : Nat → Value
  | 0 => .pointer (some ⟨b, 0, none⟩)
  | 1 => .slice (some ⟨g, 0, none⟩) n c
  | 2 => .int .i64 (k : Int)
  | 3 => .pointer (some ⟨g, k * 11, none⟩)
  | 4 => .agg #[y0, y1, y2, x0, x1, x2, x3, x4, x5, x6, y10]
  | 5 => undef
  | 6 => .pointer (some ⟨b, 0, none⟩)
  | 7 => .slice (some ⟨g, 0, none⟩) n c
  | 8 => .int .i64 (k : Int)
  | 9 => .pointer (some ⟨g, k * 11, none⟩)
  | 10 => .agg #[y0, y1, y2, x0, x1, x2, x3, x4, x5, x6, y10]
  | 11 => undef
  | 12 => .bool true
  | 13 => .bool false
  | 14 => .bool false
  | 15 => .pointer (some ⟨b, 0, none⟩)
  | 16 => .slice (some ⟨g, 0, none⟩) n c
  | 17 => .int .i64 (k : Int)
  | 18 => .pointer (some ⟨g, k * 11, none⟩)
  | 19 => .pointer (some ⟨g, k * 11 + 3, none⟩)
  | 20 => .agg #[x0, x1, x2, x3, x4, x5, x6]
  | 21 => .string (bs nm)
  | 22 => .bool true
  | 23 => .bool false
  | _ => .bool false
def eoU (k : Nat) : Bool := k == 5 || k == 11
section
variable {Q : Exit → Act → World → Prop} {X0 w0 : World} {a0 : Act}
set_option maxHeartbeats 4000000 in
theorem names9 {b g n c k : Nat} {y0 y1 y2 x0 x1 x2 x3 x4 x5 x6 y10 : Value} {nm : List UInt8} {O : List (List UInt8)} (hkn : k < n) (h0 : ∀ w, Below X0.heap.size X0 w → w.cell? ⟨b, 0, none⟩ = some (.slice (some ⟨g, 0, none⟩) n c)) (h1 : ∀ w, Below X0.heap.size X0 w → w.cell? ⟨g, k * 11, none⟩ = some y0 ∧ w.cell? ⟨g, k * 11 + 1, none⟩ = some y1 ∧ w.cell? ⟨g, k * 11 + 2, none⟩ = some y2 ∧ w.cell? ⟨g, k * 11 + 3, none⟩ = some x0 ∧ w.cell? ⟨g, k * 11 + 4, none⟩ = some x1 ∧ w.cell? ⟨g, k * 11 + 5, none⟩ = some x2 ∧ w.cell? ⟨g, k * 11 + 6, none⟩ = some x3 ∧ w.cell? ⟨g, k * 11 + 7, none⟩ = some x4 ∧ w.cell? ⟨g, k * 11 + 8, none⟩ = some x5 ∧ w.cell? ⟨g, k * 11 + 9, none⟩ = some x6 ∧ w.cell? ⟨g, k * 11 + 10, none⟩ = some y10)
    (hf1 : (∀ w, Below X0.heap.size X0 w → Calls Tryz.prog 14 #[.agg #[y0, y1, y2, x0, x1, x2, x3, x4, x5, x6, y10]] w fun e w' => (∃ v, e = .returned v ∧ ∃ ao c, v = .slice ao O.length c ∧ Ns w' ao O) ∧ Below w.heap.size w w')) (hf2 : (∀ w, Below X0.heap.size X0 w → Calls Tryz.prog 15 #[.agg #[y0, y1, y2, x0, x1, x2, x3, x4, x5, x6, y10]] w fun e w' => (∃ v, e = .returned v ∧ ∃ ao c, v = .slice ao O.length c ∧ Ns w' ao O) ∧ Below w.heap.size w w'))
    (hsm : ∀ w a1 c1 a2 c2, Ns w a1 O → Ns w a2 O → Calls Tryz.prog 13 #[.slice a1 O.length c1, .slice a2 O.length c2] w fun e w' => e = .returned (.bool true) ∧ Below w.heap.size w w')
    (hu1 : (∀ w, Below X0.heap.size X0 w → Calls Tryz.prog 16 #[.agg #[x0, x1, x2, x3, x4, x5, x6], .string (bs nm), .int .i64 300] w fun e w' => e = .returned (.bool true) ∧ Below w.heap.size w w')) (hs : 54 ≤ a0.tmps.size)
    (e5 : Rv.ev a0 5 = .pointer (some ⟨b, 0, none⟩))
    (e7 : Rv.ev a0 7 = .int .i64 (k : Int))
    (e1 : Rv.ev a0 1 = .string (bs nm))
    (hw : Below X0.heap.size X0 w0)
    (hQ : ∀ a w, Rv.Off 25 eosl a0 a → Below X0.heap.size X0 w → (∀ j, j < 25 → eoU j = false → Rv.ev a (eosl j) = (eoV b g n c k y0 y1 y2 x0 x1 x2 x3 x4 x5 x6 y10 nm) j) → Q .normal a w) :
    wpAny Tryz.prog .any eoops Q 25 (Array.replicate 25 false) a0 w0 := by
  have hG : ∀ (i : Nat) (v : Value) (w w' : World), Below w.heap.size w w' → (fun j v w => if j = 5 then (∃ ao c, v = .slice ao O.length c ∧ Ns w ao O) else if j = 11 then (∃ ao c, v = .slice ao O.length c ∧ Ns w ao O) else True) i v w → (fun j v w => if j = 5 then (∃ ao c, v = .slice ao O.length c ∧ Ns w ao O) else if j = 11 then (∃ ao c, v = .slice ao O.length c ∧ Ns w ao O) else True) i v w' := by
    intro i v w w' hb h
    try dsimp only at h ⊢
    by_cases e5 : i = 5
    · rw [if_pos e5] at h ⊢
      obtain ⟨ao, c, rfl, hN⟩ := h
      exact ⟨ao, c, rfl, hN.up hb⟩
    rw [if_neg e5] at h ⊢
    by_cases e11 : i = 11
    · rw [if_pos e11] at h ⊢
      obtain ⟨ao, c, rfl, hN⟩ := h
      exact ⟨ao, c, rfl, hN.up hb⟩
    rw [if_neg e11] at h ⊢
    exact trivial
  refine Rv.rel (X0 := X0) 25 eosl (eoV b g n c k y0 y1 y2 x0 x1 x2 x3 x4 x5 x6 y10 nm) eoU (fun j v w => if j = 5 then (∃ ao c, v = .slice ao O.length c ∧ Ns w ao O) else if j = 11 then (∃ ao c, v = .slice ao O.length c ∧ Ns w ao O) else True) hG rfl (by decide) (by decide) (fun j hj => Nat.lt_of_lt_of_le ((by decide : ∀ j, j < 25 → eosl j < 54) j hj) hs) hw ?_ ?_ (fun a w h1 h2 h3 _ => hQ a w h1 h2 h3)
  · intro i a W hi hu hO hW hd hg
    have hev : ∀ j, a.eval (.tmp j) = Rv.ev a j := fun _ => rfl
    have hcn : ∀ v, a.eval (.const v) = v := fun _ => rfl
    have hfn : ∀ v, a.eval (.func v) = .func (.func v) #[] #[] := fun _ => rfl
    have hsz : ∀ k, k < 54 → k < a.tmps.size := fun k hk => by rw [hO.size]; omega
    have g5 : Rv.ev a 5 = .pointer (some ⟨b, 0, none⟩) := (hO.same 5 (by decide)).trans e5
    have g7 : Rv.ev a 7 = .int .i64 (k : Int) := (hO.same 7 (by decide)).trans e7
    have g1 : Rv.ev a 1 = .string (bs nm) := (hO.same 1 (by decide)).trans e1
    have kb := h0 W hW
    obtain ⟨k0, k1, k2, k3, k4, k5, k6, k7, k8, k9, k10⟩ := h1 W hW
    have hk1 : (k : Int) < (n : Int) := by omega
    have hk0 : ¬ (k : Int) < 0 := by omega
    have hN : i = 0 ∨ i = 1 ∨ i = 2 ∨ i = 3 ∨ i = 4 ∨ i = 5 ∨ i = 6 ∨ i = 7 ∨ i = 8 ∨ i = 9 ∨ i = 10 ∨ i = 11 ∨ i = 12 ∨ i = 13 ∨ i = 14 ∨ i = 15 ∨ i = 16 ∨ i = 17 ∨ i = 18 ∨ i = 19 ∨ i = 20 ∨ i = 21 ∨ i = 22 ∨ i = 23 ∨ i = 24 := by omega
    rcases hN with rfl | rfl | rfl | rfl | rfl | rfl | rfl | rfl | rfl | rfl | rfl | rfl | rfl | rfl | rfl | rfl | rfl | rfl | rfl | rfl | rfl | rfl | rfl | rfl | rfl
    · exact Rv.run (X0 := W) (o := eo0) rfl rfl (Rv.want_free rfl) (by unfold eo0; simp only [execOp, hev, g5]; go_simp <;> rfl) (Below.refl _ _)
    · have d29 : Rv.ev a 29 = .pointer (some ⟨b, 0, none⟩) := hd 0 (by decide) rfl
      exact Rv.run (X0 := W) (o := eo1) rfl rfl (Rv.want_free rfl) (by unfold eo1; simp only [execOp, hev, d29]; go_simp <;> rfl) (Below.refl _ _)
    · exact Rv.run (X0 := W) (o := eo2) rfl rfl (Rv.want_free rfl) (by unfold eo2; simp only [execOp, hev, g7]; rfl) (Below.refl _ _)
    · have d30 : Rv.ev a 30 = .slice (some ⟨g, 0, none⟩) n c := hd 1 (by decide) rfl
      have d31 : Rv.ev a 31 = .int .i64 (k : Int) := hd 2 (by decide) rfl
      exact Rv.run (X0 := W) (o := eo3) rfl rfl (Rv.want_free rfl) (by unfold eo3; simp only [execOp, hev, d30, d31]; go_simp <;> rfl) (Below.refl _ _)
    · have d32 : Rv.ev a 32 = .pointer (some ⟨g, k * 11, none⟩) := hd 3 (by decide) rfl
      exact Rv.run (X0 := W) (o := eo4) rfl rfl (Rv.want_free rfl) (by unfold eo4; simp only [execOp, hev, d32]; go_simp <;> rfl) (Below.refl _ _)
    · exact absurd hu (by decide)
    · exact Rv.run (X0 := W) (o := eo6) rfl rfl (Rv.want_free rfl) (by unfold eo6; simp only [execOp, hev, g5]; go_simp <;> rfl) (Below.refl _ _)
    · have d35 : Rv.ev a 35 = .pointer (some ⟨b, 0, none⟩) := hd 6 (by decide) rfl
      exact Rv.run (X0 := W) (o := eo7) rfl rfl (Rv.want_free rfl) (by unfold eo7; simp only [execOp, hev, d35]; go_simp <;> rfl) (Below.refl _ _)
    · exact Rv.run (X0 := W) (o := eo8) rfl rfl (Rv.want_free rfl) (by unfold eo8; simp only [execOp, hev, g7]; rfl) (Below.refl _ _)
    · have d36 : Rv.ev a 36 = .slice (some ⟨g, 0, none⟩) n c := hd 7 (by decide) rfl
      have d37 : Rv.ev a 37 = .int .i64 (k : Int) := hd 8 (by decide) rfl
      exact Rv.run (X0 := W) (o := eo9) rfl rfl (Rv.want_free rfl) (by unfold eo9; simp only [execOp, hev, d36, d37]; go_simp <;> rfl) (Below.refl _ _)
    · have d38 : Rv.ev a 38 = .pointer (some ⟨g, k * 11, none⟩) := hd 9 (by decide) rfl
      exact Rv.run (X0 := W) (o := eo10) rfl rfl (Rv.want_free rfl) (by unfold eo10; simp only [execOp, hev, d38]; go_simp <;> rfl) (Below.refl _ _)
    · exact absurd hu (by decide)
    · obtain ⟨a1, c1, d34, n1⟩ := (show ∃ ao c, Rv.ev a 34 = .slice ao O.length c ∧ Ns W ao O from hg 5 (by decide) rfl)
      obtain ⟨a2, c2, d40, n2⟩ := (show ∃ ao c, Rv.ev a 40 = .slice ao O.length c ∧ Ns W ao O from hg 11 (by decide) rfl)
      refine Rv.call (X0 := W) (o := eo12) (f := 13) (vs := #[.slice a1 O.length c1, .slice a2 O.length c2]) rfl rfl (Rv.want_free rfl) ?_ (Below.refl _ _) (hsm W a1 c1 a2 c2 n1 n2)
      unfold eo12
      simp only [execOp, resolve, invoke, Sem.run_bind, List.map_toArray, List.map_cons, List.map_nil, hev, hfn, d34, d40]
      go_simp
    · have d41 : Rv.ev a 41 = .bool true := hd 12 (by decide) rfl
      exact Rv.run (X0 := W) (o := eo13) rfl rfl (Rv.want_free rfl) (by unfold eo13; simp only [execOp, hev, d41]; go_simp <;> rfl) (Below.refl _ _)
    · have d42 : Rv.ev a 42 = .bool false := hd 13 (by decide) rfl
      exact Rv.run (X0 := W) (o := eo14) rfl rfl (Rv.want_free rfl) (by unfold eo14; simp only [execOp, hev, d42]; rfl) (Below.refl _ _)
    · have dg : Rv.ev a 43 = .bool false := hd 14 (by decide) rfl
      exact Rv.run (X0 := W) (o := eo15) rfl rfl (by rw [Rv.want_if (o' := eo14) rfl rfl rfl (hsz 43 (by decide)) dg]; first | rfl | simp) (by unfold eo15; simp only [execOp, hev, g5]; go_simp <;> rfl) (Below.refl _ _)
    · have d44 : Rv.ev a 44 = .pointer (some ⟨b, 0, none⟩) := hd 15 (by decide) rfl
      have dg : Rv.ev a 43 = .bool false := hd 14 (by decide) rfl
      exact Rv.run (X0 := W) (o := eo16) rfl rfl (by rw [Rv.want_if (o' := eo14) rfl rfl rfl (hsz 43 (by decide)) dg]; first | rfl | simp) (by unfold eo16; simp only [execOp, hev, d44]; go_simp <;> rfl) (Below.refl _ _)
    · have dg : Rv.ev a 43 = .bool false := hd 14 (by decide) rfl
      exact Rv.run (X0 := W) (o := eo17) rfl rfl (by rw [Rv.want_if (o' := eo14) rfl rfl rfl (hsz 43 (by decide)) dg]; first | rfl | simp) (by unfold eo17; simp only [execOp, hev, g7]; rfl) (Below.refl _ _)
    · have d45 : Rv.ev a 45 = .slice (some ⟨g, 0, none⟩) n c := hd 16 (by decide) rfl
      have d46 : Rv.ev a 46 = .int .i64 (k : Int) := hd 17 (by decide) rfl
      have dg : Rv.ev a 43 = .bool false := hd 14 (by decide) rfl
      exact Rv.run (X0 := W) (o := eo18) rfl rfl (by rw [Rv.want_if (o' := eo14) rfl rfl rfl (hsz 43 (by decide)) dg]; first | rfl | simp) (by unfold eo18; simp only [execOp, hev, d45, d46]; go_simp <;> rfl) (Below.refl _ _)
    · have d47 : Rv.ev a 47 = .pointer (some ⟨g, k * 11, none⟩) := hd 18 (by decide) rfl
      have dg : Rv.ev a 43 = .bool false := hd 14 (by decide) rfl
      exact Rv.run (X0 := W) (o := eo19) rfl rfl (by rw [Rv.want_if (o' := eo14) rfl rfl rfl (hsz 43 (by decide)) dg]; first | rfl | simp) (by unfold eo19; simp only [execOp, hev, d47]; go_simp <;> rfl) (Below.refl _ _)
    · have d48 : Rv.ev a 48 = .pointer (some ⟨g, k * 11 + 3, none⟩) := hd 19 (by decide) rfl
      have dg : Rv.ev a 43 = .bool false := hd 14 (by decide) rfl
      exact Rv.run (X0 := W) (o := eo20) rfl rfl (by rw [Rv.want_if (o' := eo14) rfl rfl rfl (hsz 43 (by decide)) dg]; first | rfl | simp) (by unfold eo20; simp only [execOp, hev, d48]; go_simp <;> rfl) (Below.refl _ _)
    · have dg : Rv.ev a 43 = .bool false := hd 14 (by decide) rfl
      exact Rv.run (X0 := W) (o := eo21) rfl rfl (by rw [Rv.want_if (o' := eo14) rfl rfl rfl (hsz 43 (by decide)) dg]; first | rfl | simp) (by unfold eo21; simp only [execOp, hev, g1]; rfl) (Below.refl _ _)
    · have d49 : Rv.ev a 49 = .agg #[x0, x1, x2, x3, x4, x5, x6] := hd 20 (by decide) rfl
      have d50 : Rv.ev a 50 = .string (bs nm) := hd 21 (by decide) rfl
      have dg : Rv.ev a 43 = .bool false := hd 14 (by decide) rfl
      refine Rv.call (X0 := W) (o := eo22) (f := 16) (vs := #[.agg #[x0, x1, x2, x3, x4, x5, x6], .string (bs nm), .int .i64 300]) rfl rfl (by rw [Rv.want_if (o' := eo14) rfl rfl rfl (hsz 43 (by decide)) dg]; first | rfl | simp) ?_ (Below.refl _ _) (hu1 W hW)
      unfold eo22
      simp only [execOp, resolve, invoke, Sem.run_bind, List.map_toArray, List.map_cons, List.map_nil, hev, hcn, hfn, d49, d50]
      go_simp
    · have d51 : Rv.ev a 51 = .bool true := hd 22 (by decide) rfl
      have dg : Rv.ev a 43 = .bool false := hd 14 (by decide) rfl
      exact Rv.run (X0 := W) (o := eo23) rfl rfl (by rw [Rv.want_if (o' := eo14) rfl rfl rfl (hsz 43 (by decide)) dg]; first | rfl | simp) (by unfold eo23; simp only [execOp, hev, d51]; go_simp <;> rfl) (Below.refl _ _)
    · have d43 : Rv.ev a 43 = .bool false := hd 14 (by decide) rfl
      have d52 : Rv.ev a 52 = .bool false := hd 23 (by decide) rfl
      exact Rv.run (X0 := W) (o := eo24) rfl rfl (Rv.want_free rfl) (by unfold eo24; simp only [execOp, hev, hcn, d43, d52]; go_simp <;> rfl) (Below.refl _ _)
  · intro i a W hi hu hO hW hd hg
    have hev : ∀ j, a.eval (.tmp j) = Rv.ev a j := fun _ => rfl
    have hcn : ∀ v, a.eval (.const v) = v := fun _ => rfl
    have hfn : ∀ v, a.eval (.func v) = .func (.func v) #[] #[] := fun _ => rfl
    have hsz : ∀ k, k < 54 → k < a.tmps.size := fun k hk => by rw [hO.size]; omega
    have g5 : Rv.ev a 5 = .pointer (some ⟨b, 0, none⟩) := (hO.same 5 (by decide)).trans e5
    have g7 : Rv.ev a 7 = .int .i64 (k : Int) := (hO.same 7 (by decide)).trans e7
    have g1 : Rv.ev a 1 = .string (bs nm) := (hO.same 1 (by decide)).trans e1
    have kb := h0 W hW
    obtain ⟨k0, k1, k2, k3, k4, k5, k6, k7, k8, k9, k10⟩ := h1 W hW
    have hk1 : (k : Int) < (n : Int) := by omega
    have hk0 : ¬ (k : Int) < 0 := by omega
    have hN : i = 0 ∨ i = 1 ∨ i = 2 ∨ i = 3 ∨ i = 4 ∨ i = 5 ∨ i = 6 ∨ i = 7 ∨ i = 8 ∨ i = 9 ∨ i = 10 ∨ i = 11 ∨ i = 12 ∨ i = 13 ∨ i = 14 ∨ i = 15 ∨ i = 16 ∨ i = 17 ∨ i = 18 ∨ i = 19 ∨ i = 20 ∨ i = 21 ∨ i = 22 ∨ i = 23 ∨ i = 24 := by omega
    rcases hN with rfl | rfl | rfl | rfl | rfl | rfl | rfl | rfl | rfl | rfl | rfl | rfl | rfl | rfl | rfl | rfl | rfl | rfl | rfl | rfl | rfl | rfl | rfl | rfl | rfl
    · exact absurd hu (by decide)
    · exact absurd hu (by decide)
    · exact absurd hu (by decide)
    · exact absurd hu (by decide)
    · exact absurd hu (by decide)
    · have d33 : Rv.ev a 33 = .agg #[y0, y1, y2, x0, x1, x2, x3, x4, x5, x6, y10] := hd 4 (by decide) rfl
      refine Rv.callG (o := eo5) (f := 14) (vs := #[.agg #[y0, y1, y2, x0, x1, x2, x3, x4, x5, x6, y10]]) rfl rfl (Rv.want_free rfl) ?_ (hf1 W hW)
      unfold eo5
      simp only [execOp, resolve, invoke, Sem.run_bind, List.map_toArray, List.map_cons, List.map_nil, hev, hfn, d33]
      go_simp
    · exact absurd hu (by decide)
    · exact absurd hu (by decide)
    · exact absurd hu (by decide)
    · exact absurd hu (by decide)
    · exact absurd hu (by decide)
    · have d39 : Rv.ev a 39 = .agg #[y0, y1, y2, x0, x1, x2, x3, x4, x5, x6, y10] := hd 10 (by decide) rfl
      refine Rv.callG (o := eo11) (f := 15) (vs := #[.agg #[y0, y1, y2, x0, x1, x2, x3, x4, x5, x6, y10]]) rfl rfl (Rv.want_free rfl) ?_ (hf2 W hW)
      unfold eo11
      simp only [execOp, resolve, invoke, Sem.run_bind, List.map_toArray, List.map_cons, List.map_nil, hev, hfn, d39]
      go_simp
    · exact absurd hu (by decide)
    · exact absurd hu (by decide)
    · exact absurd hu (by decide)
    · exact absurd hu (by decide)
    · exact absurd hu (by decide)
    · exact absurd hu (by decide)
    · exact absurd hu (by decide)
    · exact absurd hu (by decide)
    · exact absurd hu (by decide)
    · exact absurd hu (by decide)
    · exact absurd hu (by decide)
    · exact absurd hu (by decide)
    · exact absurd hu (by decide)
end
theorem litO (f : Nat → Value) : ((List.range 54).map f).toArray = #[f 0, f 1, f 2, f 3, f 4, f 5, f 6, f 7, f 8, f 9, f 10, f 11, f 12, f 13, f 14, f 15, f 16, f 17, f 18, f 19, f 20, f 21, f 22, f 23, f 24, f 25, f 26, f 27, f 28, f 29, f 30, f 31, f 32, f 33, f 34, f 35, f 36, f 37, f 38, f 39, f 40, f 41, f 42, f 43, f 44, f 45, f 46, f 47, f 48, f 49, f 50, f 51, f 52, f 53] := rfl
theorem tmpsO (a : Act) (h : a.tmps.size = 54) : a.tmps = ((List.range 54).map (Rv.ev a)).toArray := by
  apply Array.ext
  · simp [h]
  · intro i h1 h2
    simp [Rv.ev, Act.eval, h1]
set_option maxHeartbeats 16000000 in
theorem offO {x0 x1 x2 x3 x4 x5 x6 x7 x8 x9 x10 x11 x12 x13 x14 x15 x16 x17 x18 x19 x20 x21 x22 x23 x24 x25 x26 x27 x28 x29 x30 x31 x32 x33 x34 x35 x36 x37 x38 x39 x40 x41 x42 x43 x44 x45 x46 x47 x48 x49 x50 x51 x52 x53 : Value} {a : Act} (h : Rv.Off 25 eosl { tmps := #[x0, x1, x2, x3, x4, x5, x6, x7, x8, x9, x10, x11, x12, x13, x14, x15, x16, x17, x18, x19, x20, x21, x22, x23, x24, x25, x26, x27, x28, x29, x30, x31, x32, x33, x34, x35, x36, x37, x38, x39, x40, x41, x42, x43, x44, x45, x46, x47, x48, x49, x50, x51, x52, x53], defers := [] } a) : ∃ y29 y30 y31 y32 y33 y34 y35 y36 y37 y38 y39 y40 y41 y42 y43 y44 y45 y46 y47 y48 y49 y50 y51 y52 y53, (Rv.ev a 29 = y29 ∧ Rv.ev a 30 = y30 ∧ Rv.ev a 31 = y31 ∧ Rv.ev a 32 = y32 ∧ Rv.ev a 33 = y33 ∧ Rv.ev a 34 = y34 ∧ Rv.ev a 35 = y35 ∧ Rv.ev a 36 = y36 ∧ Rv.ev a 37 = y37 ∧ Rv.ev a 38 = y38 ∧ Rv.ev a 39 = y39 ∧ Rv.ev a 40 = y40 ∧ Rv.ev a 41 = y41 ∧ Rv.ev a 42 = y42 ∧ Rv.ev a 43 = y43 ∧ Rv.ev a 44 = y44 ∧ Rv.ev a 45 = y45 ∧ Rv.ev a 46 = y46 ∧ Rv.ev a 47 = y47 ∧ Rv.ev a 48 = y48 ∧ Rv.ev a 49 = y49 ∧ Rv.ev a 50 = y50 ∧ Rv.ev a 51 = y51 ∧ Rv.ev a 52 = y52 ∧ Rv.ev a 53 = y53) ∧ a = { tmps := #[x0, x1, x2, x3, x4, x5, x6, x7, x8, x9, x10, x11, x12, x13, x14, x15, x16, x17, x18, x19, x20, x21, x22, x23, x24, x25, x26, x27, x28, y29, y30, y31, y32, y33, y34, y35, y36, y37, y38, y39, y40, y41, y42, y43, y44, y45, y46, y47, y48, y49, y50, y51, y52, y53], defers := [] } := by
  refine ⟨Rv.ev a 29, Rv.ev a 30, Rv.ev a 31, Rv.ev a 32, Rv.ev a 33, Rv.ev a 34, Rv.ev a 35, Rv.ev a 36, Rv.ev a 37, Rv.ev a 38, Rv.ev a 39, Rv.ev a 40, Rv.ev a 41, Rv.ev a 42, Rv.ev a 43, Rv.ev a 44, Rv.ev a 45, Rv.ev a 46, Rv.ev a 47, Rv.ev a 48, Rv.ev a 49, Rv.ev a 50, Rv.ev a 51, Rv.ev a 52, Rv.ev a 53, ⟨rfl, rfl, rfl, rfl, rfl, rfl, rfl, rfl, rfl, rfl, rfl, rfl, rfl, rfl, rfl, rfl, rfl, rfl, rfl, rfl, rfl, rfl, rfl, rfl, rfl⟩, ?_⟩
  have e := tmpsO a h.size
  rw [litO] at e
  have h0 : Rv.ev a 0 = x0 := h.same 0 (by decide)
  have h1 : Rv.ev a 1 = x1 := h.same 1 (by decide)
  have h2 : Rv.ev a 2 = x2 := h.same 2 (by decide)
  have h3 : Rv.ev a 3 = x3 := h.same 3 (by decide)
  have h4 : Rv.ev a 4 = x4 := h.same 4 (by decide)
  have h5 : Rv.ev a 5 = x5 := h.same 5 (by decide)
  have h6 : Rv.ev a 6 = x6 := h.same 6 (by decide)
  have h7 : Rv.ev a 7 = x7 := h.same 7 (by decide)
  have h8 : Rv.ev a 8 = x8 := h.same 8 (by decide)
  have h9 : Rv.ev a 9 = x9 := h.same 9 (by decide)
  have h10 : Rv.ev a 10 = x10 := h.same 10 (by decide)
  have h11 : Rv.ev a 11 = x11 := h.same 11 (by decide)
  have h12 : Rv.ev a 12 = x12 := h.same 12 (by decide)
  have h13 : Rv.ev a 13 = x13 := h.same 13 (by decide)
  have h14 : Rv.ev a 14 = x14 := h.same 14 (by decide)
  have h15 : Rv.ev a 15 = x15 := h.same 15 (by decide)
  have h16 : Rv.ev a 16 = x16 := h.same 16 (by decide)
  have h17 : Rv.ev a 17 = x17 := h.same 17 (by decide)
  have h18 : Rv.ev a 18 = x18 := h.same 18 (by decide)
  have h19 : Rv.ev a 19 = x19 := h.same 19 (by decide)
  have h20 : Rv.ev a 20 = x20 := h.same 20 (by decide)
  have h21 : Rv.ev a 21 = x21 := h.same 21 (by decide)
  have h22 : Rv.ev a 22 = x22 := h.same 22 (by decide)
  have h23 : Rv.ev a 23 = x23 := h.same 23 (by decide)
  have h24 : Rv.ev a 24 = x24 := h.same 24 (by decide)
  have h25 : Rv.ev a 25 = x25 := h.same 25 (by decide)
  have h26 : Rv.ev a 26 = x26 := h.same 26 (by decide)
  have h27 : Rv.ev a 27 = x27 := h.same 27 (by decide)
  have h28 : Rv.ev a 28 = x28 := h.same 28 (by decide)
  rw [h0, h1, h2, h3, h4, h5, h6, h7, h8, h9, h10, h11, h12, h13, h14, h15, h16, h17, h18, h19, h20, h21, h22, h23, h24, h25, h26, h27, h28] at e
  have hd : a.defers = [] := h.def_
  cases a
  simp only at e hd
  rw [hd]
  exact congrArg (fun t => ({ tmps := t, defers := [] } : Act)) e
end Go.Proofs.YtmfejllhlbnigaaGreatDoor
