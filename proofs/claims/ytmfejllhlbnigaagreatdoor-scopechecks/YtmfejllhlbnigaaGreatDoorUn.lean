/-
  3 texts in one: what each proves stands at its head.
-/
import Derived.Test.YtmfejllhlbnigaaGreatDoorUm
import Derived.RangeFuncNested
import Derived.RangeFuncBound
import Derived.RangeFuncCalls
import Derived.RangeFuncLeaves
import Derived.Shelf.Abstract
import Derived.Shelf.RegionOpen
import Derived.WalkKit
import Derived.OwnWalkIn
import Derived.TacticsInMore
import Derived.LoopNIn
import Derived.LoopIn
/-
  The walks of the names that an expression binds, and of binding them.
-/
namespace Go.Proofs.YtmfejllhlbnigaaGreatDoor
open Go.RowKit Go.Maps
set_option maxRecDepth 100000

/-- Parameters in memory, wherever they say that they stand. -/
def PqW (w : World) (A : Nat → Prop) (ao : Option Addr) (ps : List Pm) : Prop := ps = [] ∨ ∃ g, ao = some ⟨g, 0, none⟩ ∧ A g ∧ g < w.heap.size ∧ ∀ k, k < ps.length → ∃ z : Int, w.rangeAt g (k * 3) [.string (bs (ps.getD k pd).name), .int .i64 (ps.getD k pd).ty, .int .i64 z]
theorem PlW.q {w : World} {A : Nat → Prop} {ao : Option Addr} {ps : List Pm} (h : PlW w A ao ps) : PqW w A ao ps := by
  rcases h with h | ⟨g, e, ha, hl, hr⟩
  · exact .inl h
  · refine .inr ⟨g, e, ha, hl, fun k hk => ⟨((ps.getD k pd).pos : Int), ?_⟩⟩
    obtain ⟨g', e', h'⟩ := PlW.at (.inr ⟨g, e, ha, hl, hr⟩) k hk
    rw [e] at e'
    cases e'
    exact h'
theorem PqW.at {w : World} {A : Nat → Prop} {ao : Option Addr} {ps : List Pm} (h : PqW w A ao ps) (k : Nat) (hk : k < ps.length) : ∃ g, ∃ z : Int, ao = some ⟨g, 0, none⟩ ∧ w.rangeAt g (k * 3) [.string (bs (ps.getD k pd).name), .int .i64 (ps.getD k pd).ty, .int .i64 z] := by
  rcases h with h | ⟨g, e, _, _, hr⟩
  · rw [h] at hk; simp at hk
  · obtain ⟨z, hz⟩ := hr k hk
    exact ⟨g, z, e, hz⟩

end Go.Proofs.YtmfejllhlbnigaaGreatDoor
/-
  The walk of a program's functions by their names.
-/
namespace Go.Proofs.YtmfejllhlbnigaaGreatDoor
open Go.RowKit Go.Maps
set_option maxRecDepth 100000

end Go.Proofs.YtmfejllhlbnigaaGreatDoor
/-
  The contract of slices.Backward over parameters.
-/
namespace Go.Proofs.YtmfejllhlbnigaaGreatDoor
open Go.RowKit Go.Shelf Go.Maps
set_option maxRecDepth 100000
attribute [local go_sem] Oper.semAt_some

end Go.Proofs.YtmfejllhlbnigaaGreatDoor
