/-
  Definitions anywhere in a row; the walk of Same there; Wide.
-/
import Derived.Test.YtaneibojiamjeaaGreatDoorUO
import Derived.Test.YtaneibojiamjeaaGreatDoorUV
import Derived.Test.YtaneibojiamjeaaGreatDoorUA
namespace Go.Proofs.YtaneibojiamjeaaGreatDoor
open Go.RowKit
set_option maxRecDepth 100000

/-- Definitions read in memory, from any place of a row on. -/
structure Fr (w : World) (A : Nat → Prop) (ao : Option Addr) (gs : List Fn1) : Prop where
  row : ∀ k, k < gs.length → ∃ g off vs, ao = some ⟨g, off, none⟩ ∧ A g ∧ w.rangeAt g (off + k * 11) vs ∧ FnW w A (gs.getD k fd) vs

theorem FlW.fr {w : World} {A : Nat → Prop} {ao : Option Addr} {gs : List Fn1} (h : FlW w A ao gs) : Fr w A ao gs := by
  refine ⟨fun k hk => ?_⟩
  obtain ⟨g, vs, e, hA, hr, hf⟩ := h.at k hk
  exact ⟨g, 0, vs, e, hA, by rw [Nat.zero_add]; exact hr, hf⟩
theorem FlW.take {w : World} {A : Nat → Prop} {ao : Option Addr} {gs hs : List Fn1} (h : FlW w A ao (gs ++ hs)) : Fr w A ao gs := by
  refine ⟨fun k hk => ?_⟩
  obtain ⟨g, vs, e, hA, hr, hf⟩ := h.at k (by rw [List.length_append]; omega)
  refine ⟨g, 0, vs, e, hA, by rw [Nat.zero_add]; exact hr, ?_⟩
  rwa [List.getD_eq_getElem?_getD, List.getElem?_append_left hk, ← List.getD_eq_getElem?_getD] at hf
set_option maxHeartbeats 1000000 in
theorem wide_any (w : World) : Calls Tryz.prog 27 #[] w fun e w' => e = .returned (.agg #[.int .i64 32768, .int .i64 32768, .int .i64 32768, .int .i64 32768]) ∧ Below w.heap.size w w' := by
  go_enter Tryz.func27, Tryz.ntmps27
  go_wp2
  refine bodyPost_ret (v := .agg #[.int .i64 32768, .int .i64 32768, .int .i64 32768, .int .i64 32768]) (by simp [results, Tryz.results27, go_sem]) rfl ⟨rfl, below_alloc _ _⟩
end Go.Proofs.YtaneibojiamjeaaGreatDoor
