/-
  The body of a definition, in its cells.
-/
import Derived.Test.YtndgglhppoijnaaDoorSc
namespace Go.Proofs.YtndgglhppoijnaaDoor
open Go.RowKit

/-- The body of a definition, in its cells. -/
theorem FlW.body {w : World} {A : Nat → Prop} {ao : Option Addr} {gs : List Fn1} (h : FlW w A ao gs) (k : Nat) (hk : k < gs.length) : ∃ g es, ao = some ⟨g, 0, none⟩ ∧ g < w.heap.size ∧ w.rangeAt g (k * 11 + 3) es ∧ ExW w A (gs.getD k fd).body es := by
  obtain ⟨g, vs, e, _, hr, ao', c', es, rfl, _, hx⟩ := h.at k hk
  have hl := hx.len
  refine ⟨g, es, e, cell_lt (hr 0 _ rfl), fun j v hv => ?_, hx⟩
  have := hr (3 + j) v (by
    have hj := (List.getElem?_eq_some_iff.1 hv).1
    rw [show 3 + j = j + 1 + 1 + 1 by omega, List.getElem?_cons_succ, List.getElem?_cons_succ, List.getElem?_cons_succ, List.getElem?_append_left hj]
    exact hv)
  rwa [← Nat.add_assoc] at this
end Go.Proofs.YtndgglhppoijnaaDoor
