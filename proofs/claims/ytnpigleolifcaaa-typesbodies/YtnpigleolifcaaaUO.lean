/-
  2 texts in one: what each proves stands at its head.
-/
import Derived.Test.YtnpigleolifcaaaUI
import Derived.Test.YtnpigleolifcaaaUA
import Derived.Test.YtnpigleolifcaaaUH
import Derived.RegionTactic
import Derived.Deep.DeepCutAuto
import Derived.Deep.RegionWith
/-
  Trees laid in memory, part by part; the walk of nest.
-/
namespace Go.Proofs.Ytnpigleolifcaaa
open Go.RowKit
set_option maxRecDepth 100000

theorem ElW.at {w : World} {A : Nat → Prop} : ∀ {xs : List Ex} {b off : Nat}, ElW w A (some ⟨b, off, none⟩) xs → ∀ k, k < xs.length → ∃ vs, w.rangeAt b (off + k * 7) vs ∧ ExW w A (xs.getD k ed) vs
  | [], _, _, _, k, hk => by simp at hk
  | _ :: _, _, _, h, 0, _ => by
    cases h with
    | cons h1 h2 h3 h4 => exact ⟨_, by simpa using h2, h3⟩
  | _ :: _, _, off, h, k + 1, hk => by
    cases h with
    | cons h1 h2 h3 h4 =>
      obtain ⟨vs, a, b⟩ := h4.at k (by simpa using hk)
      refine ⟨vs, ?_, by rw [List.getD_cons_succ]; exact b⟩
      rw [show off + (k + 1) * 7 = off + 7 + k * 7 by omega]
      exact a
theorem ElW.place {w : World} {A : Nat → Prop} {ao : Option Addr} {xs : List Ex} (h : ElW w A ao xs) (hx : xs ≠ []) : ∃ b off, ao = some ⟨b, off, none⟩ := by
  cases h with
  | nil => exact absurd rfl hx
  | cons => exact ⟨_, _, rfl⟩
theorem ElW.up {w w' : World} {A : Nat → Prop} {ao : Option Addr} {xs : List Ex} (h : ElW w A ao xs) (hb : Below w.heap.size w w') : ElW w' A ao xs := h.keep fun b _ hl => hb.block b hl

theorem range7 {w : World} {b o : Nat} {x0 x1 x2 x3 x4 x5 x6 : Value} (h : w.rangeAt b o [x0, x1, x2, x3, x4, x5, x6]) : w.cell? ⟨b, o, none⟩ = some x0 ∧ w.cell? ⟨b, o + 1, none⟩ = some x1 ∧ w.cell? ⟨b, o + 2, none⟩ = some x2 ∧ w.cell? ⟨b, o + 3, none⟩ = some x3 ∧
    w.cell? ⟨b, o + 4, none⟩ = some x4 ∧ w.cell? ⟨b, o + 5, none⟩ = some x5 ∧ w.cell? ⟨b, o + 6, none⟩ = some x6 :=
  ⟨h 0 _ rfl, h 1 _ rfl, h 2 _ rfl, h 3 _ rfl, h 4 _ rfl, h 5 _ rfl, h 6 _ rfl⟩

/-! ## nest -/
end Go.Proofs.Ytnpigleolifcaaa
/-
  The walk of SameExpr, at two trees that are one (with places, or but for them).
-/
namespace Go.Proofs.Ytnpigleolifcaaa
open Go.RowKit
set_option maxRecDepth 100000

end Go.Proofs.Ytnpigleolifcaaa
