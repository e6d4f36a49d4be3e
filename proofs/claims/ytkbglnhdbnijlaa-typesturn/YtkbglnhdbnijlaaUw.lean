/-
  2 texts in one: what each proves stands at its head.
-/
import Derived.Test.YtkbglnhdbnijlaaUI
import Derived.Deep.RegionHeld2
import Derived.Test.YtkbglnhdbnijlaaUK
/-
  The walk of worded.
-/
namespace Go.Proofs.Ytkbglnhdbnijlaa
open Go.RowKit
set_option maxRecDepth 100000

end Go.Proofs.Ytkbglnhdbnijlaa
/-
  The walk of cons.
-/
namespace Go.Proofs.Ytkbglnhdbnijlaa
open Go.RowKit
set_option maxRecDepth 100000

/-- Heads and signs read in memory, but for block gO. -/
def Rd3 (hs : List Ex) (ss : List Mk) (ao3 ao4 : Option Addr) (B gO : Nat) (W : World) : Prop :=
  ∀ j (hj : j < hs.length), ∃ g3 g4 vs, ao3 = some ⟨g3, 0, none⟩ ∧ ao4 = some ⟨g4, 0, none⟩ ∧ g3 ≠ gO ∧ g4 ≠ gO ∧ W.rangeAt g3 (j * 7) vs ∧ ExW W (fun b => B ≤ b ∧ b ≠ gO) hs[j] vs ∧ M4 W g4 (j * 4) (ss.getD j md)

theorem Rd3.but {hs : List Ex} {ss : List Mk} {ao3 ao4 : Option Addr} {B gO : Nat} {W W' : World} (h : Rd3 hs ss ao3 ao4 B gO W) (hU : But gO W W') : Rd3 hs ss ao3 ao4 B gO W' := by
  intro j hj
  obtain ⟨g3, g4, vs, e3, e4, n3, n4, h1, h2, h3⟩ := h j hj
  exact ⟨g3, g4, vs, e3, e4, n3, n4, range_but h1 (by intro e; have := h2.len; rw [e] at this; simp at this) hU n3, h2.keep fun b hb hl => hU.block b hl hb.2, h3.but hU n4⟩

end Go.Proofs.Ytkbglnhdbnijlaa
