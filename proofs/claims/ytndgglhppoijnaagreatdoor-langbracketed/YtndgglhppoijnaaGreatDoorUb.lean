/-
  2 texts in one: what each proves stands at its head.
-/
import Derived.Test.YtndgglhppoijnaaGreatDoorUa
import Derived.Test.YtndgglhppoijnaaGreatDoorUH
/-
  LangBracketed, plainly: the marks of the constant texts ahead of an expression, and behind it.
-/
namespace Go.Proofs.YtndgglhppoijnaaGreatDoor
set_option maxRecDepth 100000

def ah0M (k : Nat) : List Mk := [⟨0, [102], 0, 0, k⟩, ⟨3, [40], 0, 0, k + 1⟩, ⟨3, [41], 0, 0, k + 2⟩, ⟨3, [58], 0, 0, k + 3⟩, ⟨1, [78], 0, 0, k + 4⟩, ⟨3, [61], 0, 0, k + 5⟩, ⟨3, [40], 0, 0, k + 6⟩]
theorem ah0_cut (X : List UInt8) (k : Nat) : cut rdN (102 :: 40 :: 41 :: 58 :: 78 :: 61 :: 40 :: X) k = (cut rdN X (k + 7)).pre (ah0M k) := by
  rw [show cut rdN (102 :: 40 :: 41 :: 58 :: 78 :: 61 :: 40 :: X) k = (cut rdN (40 :: 41 :: 58 :: 78 :: 61 :: 40 :: X) (k + 1)).pre [⟨0, [102], 0, 0, k⟩] from cut_mark rdN (show stp rdN (102 :: 40 :: 41 :: 58 :: 78 :: 61 :: 40 :: X) k = .mark ⟨0, [102], 0, 0, k⟩ from rfl)]
  rw [show cut rdN (40 :: 41 :: 58 :: 78 :: 61 :: 40 :: X) (k + 1) = (cut rdN (41 :: 58 :: 78 :: 61 :: 40 :: X) (k + 2)).pre [⟨3, [40], 0, 0, k + 1⟩] from cut_mark rdN (show stp rdN (40 :: 41 :: 58 :: 78 :: 61 :: 40 :: X) (k + 1) = .mark ⟨3, [40], 0, 0, k + 1⟩ from rfl)]
  rw [show cut rdN (41 :: 58 :: 78 :: 61 :: 40 :: X) (k + 2) = (cut rdN (58 :: 78 :: 61 :: 40 :: X) (k + 3)).pre [⟨3, [41], 0, 0, k + 2⟩] from cut_mark rdN (show stp rdN (41 :: 58 :: 78 :: 61 :: 40 :: X) (k + 2) = .mark ⟨3, [41], 0, 0, k + 2⟩ from rfl)]
  rw [show cut rdN (58 :: 78 :: 61 :: 40 :: X) (k + 3) = (cut rdN (78 :: 61 :: 40 :: X) (k + 4)).pre [⟨3, [58], 0, 0, k + 3⟩] from cut_mark rdN (show stp rdN (58 :: 78 :: 61 :: 40 :: X) (k + 3) = .mark ⟨3, [58], 0, 0, k + 3⟩ from rfl)]
  rw [show cut rdN (78 :: 61 :: 40 :: X) (k + 4) = (cut rdN (61 :: 40 :: X) (k + 5)).pre [⟨1, [78], 0, 0, k + 4⟩] from cut_mark rdN (show stp rdN (78 :: 61 :: 40 :: X) (k + 4) = .mark ⟨1, [78], 0, 0, k + 4⟩ from rfl)]
  rw [show cut rdN (61 :: 40 :: X) (k + 5) = (cut rdN (40 :: X) (k + 6)).pre [⟨3, [61], 0, 0, k + 5⟩] from cut_mark rdN (show stp rdN (61 :: 40 :: X) (k + 5) = .mark ⟨3, [61], 0, 0, k + 5⟩ from rfl)]
  rw [show cut rdN (40 :: X) (k + 6) = (cut rdN (X) (k + 7)).pre [⟨3, [40], 0, 0, k + 6⟩] from cut_mark rdN (show stp rdN (40 :: X) (k + 6) = .mark ⟨3, [40], 0, 0, k + 6⟩ from rfl)]
  cases cut rdN X (k + 7) <;> rfl
def ah1M (k : Nat) : List Mk := [⟨0, [102], 0, 0, k⟩, ⟨3, [40], 0, 0, k + 1⟩, ⟨3, [41], 0, 0, k + 2⟩, ⟨3, [58], 0, 0, k + 3⟩, ⟨1, [78], 0, 0, k + 4⟩, ⟨3, [61], 0, 0, k + 5⟩, ⟨3, [40], 0, 0, k + 6⟩, ⟨3, [40], 0, 0, k + 7⟩]
theorem ah1_cut (X : List UInt8) (k : Nat) : cut rdN (102 :: 40 :: 41 :: 58 :: 78 :: 61 :: 40 :: 40 :: X) k = (cut rdN X (k + 8)).pre (ah1M k) := by
  rw [show cut rdN (102 :: 40 :: 41 :: 58 :: 78 :: 61 :: 40 :: 40 :: X) k = (cut rdN (40 :: 41 :: 58 :: 78 :: 61 :: 40 :: 40 :: X) (k + 1)).pre [⟨0, [102], 0, 0, k⟩] from cut_mark rdN (show stp rdN (102 :: 40 :: 41 :: 58 :: 78 :: 61 :: 40 :: 40 :: X) k = .mark ⟨0, [102], 0, 0, k⟩ from rfl)]
  rw [show cut rdN (40 :: 41 :: 58 :: 78 :: 61 :: 40 :: 40 :: X) (k + 1) = (cut rdN (41 :: 58 :: 78 :: 61 :: 40 :: 40 :: X) (k + 2)).pre [⟨3, [40], 0, 0, k + 1⟩] from cut_mark rdN (show stp rdN (40 :: 41 :: 58 :: 78 :: 61 :: 40 :: 40 :: X) (k + 1) = .mark ⟨3, [40], 0, 0, k + 1⟩ from rfl)]
  rw [show cut rdN (41 :: 58 :: 78 :: 61 :: 40 :: 40 :: X) (k + 2) = (cut rdN (58 :: 78 :: 61 :: 40 :: 40 :: X) (k + 3)).pre [⟨3, [41], 0, 0, k + 2⟩] from cut_mark rdN (show stp rdN (41 :: 58 :: 78 :: 61 :: 40 :: 40 :: X) (k + 2) = .mark ⟨3, [41], 0, 0, k + 2⟩ from rfl)]
  rw [show cut rdN (58 :: 78 :: 61 :: 40 :: 40 :: X) (k + 3) = (cut rdN (78 :: 61 :: 40 :: 40 :: X) (k + 4)).pre [⟨3, [58], 0, 0, k + 3⟩] from cut_mark rdN (show stp rdN (58 :: 78 :: 61 :: 40 :: 40 :: X) (k + 3) = .mark ⟨3, [58], 0, 0, k + 3⟩ from rfl)]
  rw [show cut rdN (78 :: 61 :: 40 :: 40 :: X) (k + 4) = (cut rdN (61 :: 40 :: 40 :: X) (k + 5)).pre [⟨1, [78], 0, 0, k + 4⟩] from cut_mark rdN (show stp rdN (78 :: 61 :: 40 :: 40 :: X) (k + 4) = .mark ⟨1, [78], 0, 0, k + 4⟩ from rfl)]
  rw [show cut rdN (61 :: 40 :: 40 :: X) (k + 5) = (cut rdN (40 :: 40 :: X) (k + 6)).pre [⟨3, [61], 0, 0, k + 5⟩] from cut_mark rdN (show stp rdN (61 :: 40 :: 40 :: X) (k + 5) = .mark ⟨3, [61], 0, 0, k + 5⟩ from rfl)]
  rw [show cut rdN (40 :: 40 :: X) (k + 6) = (cut rdN (40 :: X) (k + 7)).pre [⟨3, [40], 0, 0, k + 6⟩] from cut_mark rdN (show stp rdN (40 :: 40 :: X) (k + 6) = .mark ⟨3, [40], 0, 0, k + 6⟩ from rfl)]
  rw [show cut rdN (40 :: X) (k + 7) = (cut rdN (X) (k + 8)).pre [⟨3, [40], 0, 0, k + 7⟩] from cut_mark rdN (show stp rdN (40 :: X) (k + 7) = .mark ⟨3, [40], 0, 0, k + 7⟩ from rfl)]
  cases cut rdN X (k + 8) <;> rfl
def ah2M (k : Nat) : List Mk := [⟨0, [102], 0, 0, k⟩, ⟨3, [40], 0, 0, k + 1⟩, ⟨3, [41], 0, 0, k + 2⟩, ⟨3, [58], 0, 0, k + 3⟩, ⟨1, [78], 0, 0, k + 4⟩, ⟨3, [61], 0, 0, k + 5⟩, ⟨2, [49], 1, 0, k + 6⟩, ⟨3, [43], 0, 0, k + 7⟩, ⟨3, [40], 0, 0, k + 8⟩]
theorem ah2_cut (X : List UInt8) (k : Nat) : cut rdN (102 :: 40 :: 41 :: 58 :: 78 :: 61 :: 49 :: 43 :: 40 :: X) k = (cut rdN X (k + 9)).pre (ah2M k) := by
  rw [show cut rdN (102 :: 40 :: 41 :: 58 :: 78 :: 61 :: 49 :: 43 :: 40 :: X) k = (cut rdN (40 :: 41 :: 58 :: 78 :: 61 :: 49 :: 43 :: 40 :: X) (k + 1)).pre [⟨0, [102], 0, 0, k⟩] from cut_mark rdN (show stp rdN (102 :: 40 :: 41 :: 58 :: 78 :: 61 :: 49 :: 43 :: 40 :: X) k = .mark ⟨0, [102], 0, 0, k⟩ from rfl)]
  rw [show cut rdN (40 :: 41 :: 58 :: 78 :: 61 :: 49 :: 43 :: 40 :: X) (k + 1) = (cut rdN (41 :: 58 :: 78 :: 61 :: 49 :: 43 :: 40 :: X) (k + 2)).pre [⟨3, [40], 0, 0, k + 1⟩] from cut_mark rdN (show stp rdN (40 :: 41 :: 58 :: 78 :: 61 :: 49 :: 43 :: 40 :: X) (k + 1) = .mark ⟨3, [40], 0, 0, k + 1⟩ from rfl)]
  rw [show cut rdN (41 :: 58 :: 78 :: 61 :: 49 :: 43 :: 40 :: X) (k + 2) = (cut rdN (58 :: 78 :: 61 :: 49 :: 43 :: 40 :: X) (k + 3)).pre [⟨3, [41], 0, 0, k + 2⟩] from cut_mark rdN (show stp rdN (41 :: 58 :: 78 :: 61 :: 49 :: 43 :: 40 :: X) (k + 2) = .mark ⟨3, [41], 0, 0, k + 2⟩ from rfl)]
  rw [show cut rdN (58 :: 78 :: 61 :: 49 :: 43 :: 40 :: X) (k + 3) = (cut rdN (78 :: 61 :: 49 :: 43 :: 40 :: X) (k + 4)).pre [⟨3, [58], 0, 0, k + 3⟩] from cut_mark rdN (show stp rdN (58 :: 78 :: 61 :: 49 :: 43 :: 40 :: X) (k + 3) = .mark ⟨3, [58], 0, 0, k + 3⟩ from rfl)]
  rw [show cut rdN (78 :: 61 :: 49 :: 43 :: 40 :: X) (k + 4) = (cut rdN (61 :: 49 :: 43 :: 40 :: X) (k + 5)).pre [⟨1, [78], 0, 0, k + 4⟩] from cut_mark rdN (show stp rdN (78 :: 61 :: 49 :: 43 :: 40 :: X) (k + 4) = .mark ⟨1, [78], 0, 0, k + 4⟩ from rfl)]
  rw [show cut rdN (61 :: 49 :: 43 :: 40 :: X) (k + 5) = (cut rdN (49 :: 43 :: 40 :: X) (k + 6)).pre [⟨3, [61], 0, 0, k + 5⟩] from cut_mark rdN (show stp rdN (61 :: 49 :: 43 :: 40 :: X) (k + 5) = .mark ⟨3, [61], 0, 0, k + 5⟩ from rfl)]
  rw [show cut rdN (49 :: 43 :: 40 :: X) (k + 6) = (cut rdN (43 :: 40 :: X) (k + 7)).pre [⟨2, [49], 1, 0, k + 6⟩] from cut_mark rdN (show stp rdN (49 :: 43 :: 40 :: X) (k + 6) = .mark ⟨2, [49], 1, 0, k + 6⟩ from by kernel_rfl)]
  rw [show cut rdN (43 :: 40 :: X) (k + 7) = (cut rdN (40 :: X) (k + 8)).pre [⟨3, [43], 0, 0, k + 7⟩] from cut_mark rdN (show stp rdN (43 :: 40 :: X) (k + 7) = .mark ⟨3, [43], 0, 0, k + 7⟩ from rfl)]
  rw [show cut rdN (40 :: X) (k + 8) = (cut rdN (X) (k + 9)).pre [⟨3, [40], 0, 0, k + 8⟩] from cut_mark rdN (show stp rdN (40 :: X) (k + 8) = .mark ⟨3, [40], 0, 0, k + 8⟩ from rfl)]
  cases cut rdN X (k + 9) <;> rfl
def ah3M (k : Nat) : List Mk := [⟨0, [102], 0, 0, k⟩, ⟨3, [40], 0, 0, k + 1⟩, ⟨3, [41], 0, 0, k + 2⟩, ⟨3, [58], 0, 0, k + 3⟩, ⟨1, [78], 0, 0, k + 4⟩, ⟨3, [61], 0, 0, k + 5⟩, ⟨0, [103], 0, 0, k + 6⟩, ⟨3, [40], 0, 0, k + 7⟩, ⟨2, [49], 1, 0, k + 8⟩, ⟨3, [44], 0, 0, k + 9⟩, ⟨3, [40], 0, 0, k + 10⟩]
theorem ah3_cut (X : List UInt8) (k : Nat) : cut rdN (102 :: 40 :: 41 :: 58 :: 78 :: 61 :: 103 :: 40 :: 49 :: 44 :: 40 :: X) k = (cut rdN X (k + 11)).pre (ah3M k) := by
  rw [show cut rdN (102 :: 40 :: 41 :: 58 :: 78 :: 61 :: 103 :: 40 :: 49 :: 44 :: 40 :: X) k = (cut rdN (40 :: 41 :: 58 :: 78 :: 61 :: 103 :: 40 :: 49 :: 44 :: 40 :: X) (k + 1)).pre [⟨0, [102], 0, 0, k⟩] from cut_mark rdN (show stp rdN (102 :: 40 :: 41 :: 58 :: 78 :: 61 :: 103 :: 40 :: 49 :: 44 :: 40 :: X) k = .mark ⟨0, [102], 0, 0, k⟩ from rfl)]
  rw [show cut rdN (40 :: 41 :: 58 :: 78 :: 61 :: 103 :: 40 :: 49 :: 44 :: 40 :: X) (k + 1) = (cut rdN (41 :: 58 :: 78 :: 61 :: 103 :: 40 :: 49 :: 44 :: 40 :: X) (k + 2)).pre [⟨3, [40], 0, 0, k + 1⟩] from cut_mark rdN (show stp rdN (40 :: 41 :: 58 :: 78 :: 61 :: 103 :: 40 :: 49 :: 44 :: 40 :: X) (k + 1) = .mark ⟨3, [40], 0, 0, k + 1⟩ from rfl)]
  rw [show cut rdN (41 :: 58 :: 78 :: 61 :: 103 :: 40 :: 49 :: 44 :: 40 :: X) (k + 2) = (cut rdN (58 :: 78 :: 61 :: 103 :: 40 :: 49 :: 44 :: 40 :: X) (k + 3)).pre [⟨3, [41], 0, 0, k + 2⟩] from cut_mark rdN (show stp rdN (41 :: 58 :: 78 :: 61 :: 103 :: 40 :: 49 :: 44 :: 40 :: X) (k + 2) = .mark ⟨3, [41], 0, 0, k + 2⟩ from rfl)]
  rw [show cut rdN (58 :: 78 :: 61 :: 103 :: 40 :: 49 :: 44 :: 40 :: X) (k + 3) = (cut rdN (78 :: 61 :: 103 :: 40 :: 49 :: 44 :: 40 :: X) (k + 4)).pre [⟨3, [58], 0, 0, k + 3⟩] from cut_mark rdN (show stp rdN (58 :: 78 :: 61 :: 103 :: 40 :: 49 :: 44 :: 40 :: X) (k + 3) = .mark ⟨3, [58], 0, 0, k + 3⟩ from rfl)]
  rw [show cut rdN (78 :: 61 :: 103 :: 40 :: 49 :: 44 :: 40 :: X) (k + 4) = (cut rdN (61 :: 103 :: 40 :: 49 :: 44 :: 40 :: X) (k + 5)).pre [⟨1, [78], 0, 0, k + 4⟩] from cut_mark rdN (show stp rdN (78 :: 61 :: 103 :: 40 :: 49 :: 44 :: 40 :: X) (k + 4) = .mark ⟨1, [78], 0, 0, k + 4⟩ from rfl)]
  rw [show cut rdN (61 :: 103 :: 40 :: 49 :: 44 :: 40 :: X) (k + 5) = (cut rdN (103 :: 40 :: 49 :: 44 :: 40 :: X) (k + 6)).pre [⟨3, [61], 0, 0, k + 5⟩] from cut_mark rdN (show stp rdN (61 :: 103 :: 40 :: 49 :: 44 :: 40 :: X) (k + 5) = .mark ⟨3, [61], 0, 0, k + 5⟩ from rfl)]
  rw [show cut rdN (103 :: 40 :: 49 :: 44 :: 40 :: X) (k + 6) = (cut rdN (40 :: 49 :: 44 :: 40 :: X) (k + 7)).pre [⟨0, [103], 0, 0, k + 6⟩] from cut_mark rdN (show stp rdN (103 :: 40 :: 49 :: 44 :: 40 :: X) (k + 6) = .mark ⟨0, [103], 0, 0, k + 6⟩ from rfl)]
  rw [show cut rdN (40 :: 49 :: 44 :: 40 :: X) (k + 7) = (cut rdN (49 :: 44 :: 40 :: X) (k + 8)).pre [⟨3, [40], 0, 0, k + 7⟩] from cut_mark rdN (show stp rdN (40 :: 49 :: 44 :: 40 :: X) (k + 7) = .mark ⟨3, [40], 0, 0, k + 7⟩ from rfl)]
  rw [show cut rdN (49 :: 44 :: 40 :: X) (k + 8) = (cut rdN (44 :: 40 :: X) (k + 9)).pre [⟨2, [49], 1, 0, k + 8⟩] from cut_mark rdN (show stp rdN (49 :: 44 :: 40 :: X) (k + 8) = .mark ⟨2, [49], 1, 0, k + 8⟩ from by kernel_rfl)]
  rw [show cut rdN (44 :: 40 :: X) (k + 9) = (cut rdN (40 :: X) (k + 10)).pre [⟨3, [44], 0, 0, k + 9⟩] from cut_mark rdN (show stp rdN (44 :: 40 :: X) (k + 9) = .mark ⟨3, [44], 0, 0, k + 9⟩ from rfl)]
  rw [show cut rdN (40 :: X) (k + 10) = (cut rdN (X) (k + 11)).pre [⟨3, [40], 0, 0, k + 10⟩] from cut_mark rdN (show stp rdN (40 :: X) (k + 10) = .mark ⟨3, [40], 0, 0, k + 10⟩ from rfl)]
  cases cut rdN X (k + 11) <;> rfl
def ah4M (k : Nat) : List Mk := [⟨0, [102], 0, 0, k⟩, ⟨3, [40], 0, 0, k + 1⟩, ⟨3, [41], 0, 0, k + 2⟩, ⟨3, [58], 0, 0, k + 3⟩, ⟨1, [78], 0, 0, k + 4⟩, ⟨3, [61], 0, 0, k + 5⟩, ⟨1, [110, 111, 116], 0, 0, k + 6⟩, ⟨3, [40], 0, 0, k + 9⟩, ⟨3, [40], 0, 0, k + 10⟩]
theorem ah4_cut (X : List UInt8) (k : Nat) : cut rdN (102 :: 40 :: 41 :: 58 :: 78 :: 61 :: 110 :: 111 :: 116 :: 40 :: 40 :: X) k = (cut rdN X (k + 11)).pre (ah4M k) := by
  rw [show cut rdN (102 :: 40 :: 41 :: 58 :: 78 :: 61 :: 110 :: 111 :: 116 :: 40 :: 40 :: X) k = (cut rdN (40 :: 41 :: 58 :: 78 :: 61 :: 110 :: 111 :: 116 :: 40 :: 40 :: X) (k + 1)).pre [⟨0, [102], 0, 0, k⟩] from cut_mark rdN (show stp rdN (102 :: 40 :: 41 :: 58 :: 78 :: 61 :: 110 :: 111 :: 116 :: 40 :: 40 :: X) k = .mark ⟨0, [102], 0, 0, k⟩ from rfl)]
  rw [show cut rdN (40 :: 41 :: 58 :: 78 :: 61 :: 110 :: 111 :: 116 :: 40 :: 40 :: X) (k + 1) = (cut rdN (41 :: 58 :: 78 :: 61 :: 110 :: 111 :: 116 :: 40 :: 40 :: X) (k + 2)).pre [⟨3, [40], 0, 0, k + 1⟩] from cut_mark rdN (show stp rdN (40 :: 41 :: 58 :: 78 :: 61 :: 110 :: 111 :: 116 :: 40 :: 40 :: X) (k + 1) = .mark ⟨3, [40], 0, 0, k + 1⟩ from rfl)]
  rw [show cut rdN (41 :: 58 :: 78 :: 61 :: 110 :: 111 :: 116 :: 40 :: 40 :: X) (k + 2) = (cut rdN (58 :: 78 :: 61 :: 110 :: 111 :: 116 :: 40 :: 40 :: X) (k + 3)).pre [⟨3, [41], 0, 0, k + 2⟩] from cut_mark rdN (show stp rdN (41 :: 58 :: 78 :: 61 :: 110 :: 111 :: 116 :: 40 :: 40 :: X) (k + 2) = .mark ⟨3, [41], 0, 0, k + 2⟩ from rfl)]
  rw [show cut rdN (58 :: 78 :: 61 :: 110 :: 111 :: 116 :: 40 :: 40 :: X) (k + 3) = (cut rdN (78 :: 61 :: 110 :: 111 :: 116 :: 40 :: 40 :: X) (k + 4)).pre [⟨3, [58], 0, 0, k + 3⟩] from cut_mark rdN (show stp rdN (58 :: 78 :: 61 :: 110 :: 111 :: 116 :: 40 :: 40 :: X) (k + 3) = .mark ⟨3, [58], 0, 0, k + 3⟩ from rfl)]
  rw [show cut rdN (78 :: 61 :: 110 :: 111 :: 116 :: 40 :: 40 :: X) (k + 4) = (cut rdN (61 :: 110 :: 111 :: 116 :: 40 :: 40 :: X) (k + 5)).pre [⟨1, [78], 0, 0, k + 4⟩] from cut_mark rdN (show stp rdN (78 :: 61 :: 110 :: 111 :: 116 :: 40 :: 40 :: X) (k + 4) = .mark ⟨1, [78], 0, 0, k + 4⟩ from rfl)]
  rw [show cut rdN (61 :: 110 :: 111 :: 116 :: 40 :: 40 :: X) (k + 5) = (cut rdN (110 :: 111 :: 116 :: 40 :: 40 :: X) (k + 6)).pre [⟨3, [61], 0, 0, k + 5⟩] from cut_mark rdN (show stp rdN (61 :: 110 :: 111 :: 116 :: 40 :: 40 :: X) (k + 5) = .mark ⟨3, [61], 0, 0, k + 5⟩ from rfl)]
  rw [show cut rdN (110 :: 111 :: 116 :: 40 :: 40 :: X) (k + 6) = (cut rdN (40 :: 40 :: X) (k + 9)).pre [⟨1, [110, 111, 116], 0, 0, k + 6⟩] from cut_mark rdN (show stp rdN (110 :: 111 :: 116 :: 40 :: 40 :: X) (k + 6) = .mark ⟨1, [110, 111, 116], 0, 0, k + 6⟩ from rfl)]
  rw [show cut rdN (40 :: 40 :: X) (k + 9) = (cut rdN (40 :: X) (k + 10)).pre [⟨3, [40], 0, 0, k + 9⟩] from cut_mark rdN (show stp rdN (40 :: 40 :: X) (k + 9) = .mark ⟨3, [40], 0, 0, k + 9⟩ from rfl)]
  rw [show cut rdN (40 :: X) (k + 10) = (cut rdN (X) (k + 11)).pre [⟨3, [40], 0, 0, k + 10⟩] from cut_mark rdN (show stp rdN (40 :: X) (k + 10) = .mark ⟨3, [40], 0, 0, k + 10⟩ from rfl)]
  cases cut rdN X (k + 11) <;> rfl
def ah5M (k : Nat) : List Mk := [⟨0, [102], 0, 0, k⟩, ⟨3, [40], 0, 0, k + 1⟩, ⟨3, [41], 0, 0, k + 2⟩, ⟨3, [58], 0, 0, k + 3⟩, ⟨1, [78], 0, 0, k + 4⟩, ⟨3, [61], 0, 0, k + 5⟩, ⟨1, [108, 101, 116], 0, 0, k + 6⟩, ⟨0, [120], 0, 0, k + 10⟩, ⟨1, [78], 0, 0, k + 12⟩, ⟨3, [61], 0, 0, k + 13⟩, ⟨3, [40], 0, 0, k + 14⟩]
theorem ah5_cut (X : List UInt8) (k : Nat) : cut rdN (102 :: 40 :: 41 :: 58 :: 78 :: 61 :: 108 :: 101 :: 116 :: 32 :: 120 :: 32 :: 78 :: 61 :: 40 :: X) k = (cut rdN X (k + 15)).pre (ah5M k) := by
  rw [show cut rdN (102 :: 40 :: 41 :: 58 :: 78 :: 61 :: 108 :: 101 :: 116 :: 32 :: 120 :: 32 :: 78 :: 61 :: 40 :: X) k = (cut rdN (40 :: 41 :: 58 :: 78 :: 61 :: 108 :: 101 :: 116 :: 32 :: 120 :: 32 :: 78 :: 61 :: 40 :: X) (k + 1)).pre [⟨0, [102], 0, 0, k⟩] from cut_mark rdN (show stp rdN (102 :: 40 :: 41 :: 58 :: 78 :: 61 :: 108 :: 101 :: 116 :: 32 :: 120 :: 32 :: 78 :: 61 :: 40 :: X) k = .mark ⟨0, [102], 0, 0, k⟩ from rfl)]
  rw [show cut rdN (40 :: 41 :: 58 :: 78 :: 61 :: 108 :: 101 :: 116 :: 32 :: 120 :: 32 :: 78 :: 61 :: 40 :: X) (k + 1) = (cut rdN (41 :: 58 :: 78 :: 61 :: 108 :: 101 :: 116 :: 32 :: 120 :: 32 :: 78 :: 61 :: 40 :: X) (k + 2)).pre [⟨3, [40], 0, 0, k + 1⟩] from cut_mark rdN (show stp rdN (40 :: 41 :: 58 :: 78 :: 61 :: 108 :: 101 :: 116 :: 32 :: 120 :: 32 :: 78 :: 61 :: 40 :: X) (k + 1) = .mark ⟨3, [40], 0, 0, k + 1⟩ from rfl)]
  rw [show cut rdN (41 :: 58 :: 78 :: 61 :: 108 :: 101 :: 116 :: 32 :: 120 :: 32 :: 78 :: 61 :: 40 :: X) (k + 2) = (cut rdN (58 :: 78 :: 61 :: 108 :: 101 :: 116 :: 32 :: 120 :: 32 :: 78 :: 61 :: 40 :: X) (k + 3)).pre [⟨3, [41], 0, 0, k + 2⟩] from cut_mark rdN (show stp rdN (41 :: 58 :: 78 :: 61 :: 108 :: 101 :: 116 :: 32 :: 120 :: 32 :: 78 :: 61 :: 40 :: X) (k + 2) = .mark ⟨3, [41], 0, 0, k + 2⟩ from rfl)]
  rw [show cut rdN (58 :: 78 :: 61 :: 108 :: 101 :: 116 :: 32 :: 120 :: 32 :: 78 :: 61 :: 40 :: X) (k + 3) = (cut rdN (78 :: 61 :: 108 :: 101 :: 116 :: 32 :: 120 :: 32 :: 78 :: 61 :: 40 :: X) (k + 4)).pre [⟨3, [58], 0, 0, k + 3⟩] from cut_mark rdN (show stp rdN (58 :: 78 :: 61 :: 108 :: 101 :: 116 :: 32 :: 120 :: 32 :: 78 :: 61 :: 40 :: X) (k + 3) = .mark ⟨3, [58], 0, 0, k + 3⟩ from rfl)]
  rw [show cut rdN (78 :: 61 :: 108 :: 101 :: 116 :: 32 :: 120 :: 32 :: 78 :: 61 :: 40 :: X) (k + 4) = (cut rdN (61 :: 108 :: 101 :: 116 :: 32 :: 120 :: 32 :: 78 :: 61 :: 40 :: X) (k + 5)).pre [⟨1, [78], 0, 0, k + 4⟩] from cut_mark rdN (show stp rdN (78 :: 61 :: 108 :: 101 :: 116 :: 32 :: 120 :: 32 :: 78 :: 61 :: 40 :: X) (k + 4) = .mark ⟨1, [78], 0, 0, k + 4⟩ from rfl)]
  rw [show cut rdN (61 :: 108 :: 101 :: 116 :: 32 :: 120 :: 32 :: 78 :: 61 :: 40 :: X) (k + 5) = (cut rdN (108 :: 101 :: 116 :: 32 :: 120 :: 32 :: 78 :: 61 :: 40 :: X) (k + 6)).pre [⟨3, [61], 0, 0, k + 5⟩] from cut_mark rdN (show stp rdN (61 :: 108 :: 101 :: 116 :: 32 :: 120 :: 32 :: 78 :: 61 :: 40 :: X) (k + 5) = .mark ⟨3, [61], 0, 0, k + 5⟩ from rfl)]
  rw [show cut rdN (108 :: 101 :: 116 :: 32 :: 120 :: 32 :: 78 :: 61 :: 40 :: X) (k + 6) = (cut rdN (32 :: 120 :: 32 :: 78 :: 61 :: 40 :: X) (k + 9)).pre [⟨1, [108, 101, 116], 0, 0, k + 6⟩] from cut_mark rdN (show stp rdN (108 :: 101 :: 116 :: 32 :: 120 :: 32 :: 78 :: 61 :: 40 :: X) (k + 6) = .mark ⟨1, [108, 101, 116], 0, 0, k + 6⟩ from rfl)]
  rw [show cut rdN (32 :: 120 :: 32 :: 78 :: 61 :: 40 :: X) (k + 9) = cut rdN (120 :: 32 :: 78 :: 61 :: 40 :: X) (k + 10) from gap_one rdN _ (by decide) _ _]
  rw [show cut rdN (120 :: 32 :: 78 :: 61 :: 40 :: X) (k + 10) = (cut rdN (32 :: 78 :: 61 :: 40 :: X) (k + 11)).pre [⟨0, [120], 0, 0, k + 10⟩] from cut_mark rdN (show stp rdN (120 :: 32 :: 78 :: 61 :: 40 :: X) (k + 10) = .mark ⟨0, [120], 0, 0, k + 10⟩ from rfl)]
  rw [show cut rdN (32 :: 78 :: 61 :: 40 :: X) (k + 11) = cut rdN (78 :: 61 :: 40 :: X) (k + 12) from gap_one rdN _ (by decide) _ _]
  rw [show cut rdN (78 :: 61 :: 40 :: X) (k + 12) = (cut rdN (61 :: 40 :: X) (k + 13)).pre [⟨1, [78], 0, 0, k + 12⟩] from cut_mark rdN (show stp rdN (78 :: 61 :: 40 :: X) (k + 12) = .mark ⟨1, [78], 0, 0, k + 12⟩ from rfl)]
  rw [show cut rdN (61 :: 40 :: X) (k + 13) = (cut rdN (40 :: X) (k + 14)).pre [⟨3, [61], 0, 0, k + 13⟩] from cut_mark rdN (show stp rdN (61 :: 40 :: X) (k + 13) = .mark ⟨3, [61], 0, 0, k + 13⟩ from rfl)]
  rw [show cut rdN (40 :: X) (k + 14) = (cut rdN (X) (k + 15)).pre [⟨3, [40], 0, 0, k + 14⟩] from cut_mark rdN (show stp rdN (40 :: X) (k + 14) = .mark ⟨3, [40], 0, 0, k + 14⟩ from rfl)]
  cases cut rdN X (k + 15) <;> rfl
def ah6M (k : Nat) : List Mk := [⟨0, [102], 0, 0, k⟩, ⟨3, [40], 0, 0, k + 1⟩, ⟨3, [41], 0, 0, k + 2⟩, ⟨3, [58], 0, 0, k + 3⟩, ⟨1, [78], 0, 0, k + 4⟩, ⟨3, [61], 0, 0, k + 5⟩, ⟨1, [99, 97, 115, 101], 0, 0, k + 6⟩, ⟨3, [40], 0, 0, k + 11⟩]
theorem ah6_cut (X : List UInt8) (k : Nat) : cut rdN (102 :: 40 :: 41 :: 58 :: 78 :: 61 :: 99 :: 97 :: 115 :: 101 :: 32 :: 40 :: X) k = (cut rdN X (k + 12)).pre (ah6M k) := by
  rw [show cut rdN (102 :: 40 :: 41 :: 58 :: 78 :: 61 :: 99 :: 97 :: 115 :: 101 :: 32 :: 40 :: X) k = (cut rdN (40 :: 41 :: 58 :: 78 :: 61 :: 99 :: 97 :: 115 :: 101 :: 32 :: 40 :: X) (k + 1)).pre [⟨0, [102], 0, 0, k⟩] from cut_mark rdN (show stp rdN (102 :: 40 :: 41 :: 58 :: 78 :: 61 :: 99 :: 97 :: 115 :: 101 :: 32 :: 40 :: X) k = .mark ⟨0, [102], 0, 0, k⟩ from rfl)]
  rw [show cut rdN (40 :: 41 :: 58 :: 78 :: 61 :: 99 :: 97 :: 115 :: 101 :: 32 :: 40 :: X) (k + 1) = (cut rdN (41 :: 58 :: 78 :: 61 :: 99 :: 97 :: 115 :: 101 :: 32 :: 40 :: X) (k + 2)).pre [⟨3, [40], 0, 0, k + 1⟩] from cut_mark rdN (show stp rdN (40 :: 41 :: 58 :: 78 :: 61 :: 99 :: 97 :: 115 :: 101 :: 32 :: 40 :: X) (k + 1) = .mark ⟨3, [40], 0, 0, k + 1⟩ from rfl)]
  rw [show cut rdN (41 :: 58 :: 78 :: 61 :: 99 :: 97 :: 115 :: 101 :: 32 :: 40 :: X) (k + 2) = (cut rdN (58 :: 78 :: 61 :: 99 :: 97 :: 115 :: 101 :: 32 :: 40 :: X) (k + 3)).pre [⟨3, [41], 0, 0, k + 2⟩] from cut_mark rdN (show stp rdN (41 :: 58 :: 78 :: 61 :: 99 :: 97 :: 115 :: 101 :: 32 :: 40 :: X) (k + 2) = .mark ⟨3, [41], 0, 0, k + 2⟩ from rfl)]
  rw [show cut rdN (58 :: 78 :: 61 :: 99 :: 97 :: 115 :: 101 :: 32 :: 40 :: X) (k + 3) = (cut rdN (78 :: 61 :: 99 :: 97 :: 115 :: 101 :: 32 :: 40 :: X) (k + 4)).pre [⟨3, [58], 0, 0, k + 3⟩] from cut_mark rdN (show stp rdN (58 :: 78 :: 61 :: 99 :: 97 :: 115 :: 101 :: 32 :: 40 :: X) (k + 3) = .mark ⟨3, [58], 0, 0, k + 3⟩ from rfl)]
  rw [show cut rdN (78 :: 61 :: 99 :: 97 :: 115 :: 101 :: 32 :: 40 :: X) (k + 4) = (cut rdN (61 :: 99 :: 97 :: 115 :: 101 :: 32 :: 40 :: X) (k + 5)).pre [⟨1, [78], 0, 0, k + 4⟩] from cut_mark rdN (show stp rdN (78 :: 61 :: 99 :: 97 :: 115 :: 101 :: 32 :: 40 :: X) (k + 4) = .mark ⟨1, [78], 0, 0, k + 4⟩ from rfl)]
  rw [show cut rdN (61 :: 99 :: 97 :: 115 :: 101 :: 32 :: 40 :: X) (k + 5) = (cut rdN (99 :: 97 :: 115 :: 101 :: 32 :: 40 :: X) (k + 6)).pre [⟨3, [61], 0, 0, k + 5⟩] from cut_mark rdN (show stp rdN (61 :: 99 :: 97 :: 115 :: 101 :: 32 :: 40 :: X) (k + 5) = .mark ⟨3, [61], 0, 0, k + 5⟩ from rfl)]
  rw [show cut rdN (99 :: 97 :: 115 :: 101 :: 32 :: 40 :: X) (k + 6) = (cut rdN (32 :: 40 :: X) (k + 10)).pre [⟨1, [99, 97, 115, 101], 0, 0, k + 6⟩] from cut_mark rdN (show stp rdN (99 :: 97 :: 115 :: 101 :: 32 :: 40 :: X) (k + 6) = .mark ⟨1, [99, 97, 115, 101], 0, 0, k + 6⟩ from rfl)]
  rw [show cut rdN (32 :: 40 :: X) (k + 10) = cut rdN (40 :: X) (k + 11) from gap_one rdN _ (by decide) _ _]
  rw [show cut rdN (40 :: X) (k + 11) = (cut rdN (X) (k + 12)).pre [⟨3, [40], 0, 0, k + 11⟩] from cut_mark rdN (show stp rdN (40 :: X) (k + 11) = .mark ⟨3, [40], 0, 0, k + 11⟩ from rfl)]
  cases cut rdN X (k + 12) <;> rfl
def ah7M (k : Nat) : List Mk := [⟨0, [102], 0, 0, k⟩, ⟨3, [40], 0, 0, k + 1⟩, ⟨3, [41], 0, 0, k + 2⟩, ⟨3, [58], 0, 0, k + 3⟩, ⟨1, [78], 0, 0, k + 4⟩, ⟨3, [61], 0, 0, k + 5⟩, ⟨1, [105, 102], 0, 0, k + 6⟩, ⟨1, [116, 114, 117, 101], 0, 0, k + 9⟩, ⟨1, [116, 104, 101, 110], 0, 0, k + 14⟩, ⟨3, [40], 0, 0, k + 19⟩]
theorem ah7_cut (X : List UInt8) (k : Nat) : cut rdN (102 :: 40 :: 41 :: 58 :: 78 :: 61 :: 105 :: 102 :: 32 :: 116 :: 114 :: 117 :: 101 :: 32 :: 116 :: 104 :: 101 :: 110 :: 32 :: 40 :: X) k = (cut rdN X (k + 20)).pre (ah7M k) := by
  rw [show cut rdN (102 :: 40 :: 41 :: 58 :: 78 :: 61 :: 105 :: 102 :: 32 :: 116 :: 114 :: 117 :: 101 :: 32 :: 116 :: 104 :: 101 :: 110 :: 32 :: 40 :: X) k = (cut rdN (40 :: 41 :: 58 :: 78 :: 61 :: 105 :: 102 :: 32 :: 116 :: 114 :: 117 :: 101 :: 32 :: 116 :: 104 :: 101 :: 110 :: 32 :: 40 :: X) (k + 1)).pre [⟨0, [102], 0, 0, k⟩] from cut_mark rdN (show stp rdN (102 :: 40 :: 41 :: 58 :: 78 :: 61 :: 105 :: 102 :: 32 :: 116 :: 114 :: 117 :: 101 :: 32 :: 116 :: 104 :: 101 :: 110 :: 32 :: 40 :: X) k = .mark ⟨0, [102], 0, 0, k⟩ from rfl)]
  rw [show cut rdN (40 :: 41 :: 58 :: 78 :: 61 :: 105 :: 102 :: 32 :: 116 :: 114 :: 117 :: 101 :: 32 :: 116 :: 104 :: 101 :: 110 :: 32 :: 40 :: X) (k + 1) = (cut rdN (41 :: 58 :: 78 :: 61 :: 105 :: 102 :: 32 :: 116 :: 114 :: 117 :: 101 :: 32 :: 116 :: 104 :: 101 :: 110 :: 32 :: 40 :: X) (k + 2)).pre [⟨3, [40], 0, 0, k + 1⟩] from cut_mark rdN (show stp rdN (40 :: 41 :: 58 :: 78 :: 61 :: 105 :: 102 :: 32 :: 116 :: 114 :: 117 :: 101 :: 32 :: 116 :: 104 :: 101 :: 110 :: 32 :: 40 :: X) (k + 1) = .mark ⟨3, [40], 0, 0, k + 1⟩ from rfl)]
  rw [show cut rdN (41 :: 58 :: 78 :: 61 :: 105 :: 102 :: 32 :: 116 :: 114 :: 117 :: 101 :: 32 :: 116 :: 104 :: 101 :: 110 :: 32 :: 40 :: X) (k + 2) = (cut rdN (58 :: 78 :: 61 :: 105 :: 102 :: 32 :: 116 :: 114 :: 117 :: 101 :: 32 :: 116 :: 104 :: 101 :: 110 :: 32 :: 40 :: X) (k + 3)).pre [⟨3, [41], 0, 0, k + 2⟩] from cut_mark rdN (show stp rdN (41 :: 58 :: 78 :: 61 :: 105 :: 102 :: 32 :: 116 :: 114 :: 117 :: 101 :: 32 :: 116 :: 104 :: 101 :: 110 :: 32 :: 40 :: X) (k + 2) = .mark ⟨3, [41], 0, 0, k + 2⟩ from rfl)]
  rw [show cut rdN (58 :: 78 :: 61 :: 105 :: 102 :: 32 :: 116 :: 114 :: 117 :: 101 :: 32 :: 116 :: 104 :: 101 :: 110 :: 32 :: 40 :: X) (k + 3) = (cut rdN (78 :: 61 :: 105 :: 102 :: 32 :: 116 :: 114 :: 117 :: 101 :: 32 :: 116 :: 104 :: 101 :: 110 :: 32 :: 40 :: X) (k + 4)).pre [⟨3, [58], 0, 0, k + 3⟩] from cut_mark rdN (show stp rdN (58 :: 78 :: 61 :: 105 :: 102 :: 32 :: 116 :: 114 :: 117 :: 101 :: 32 :: 116 :: 104 :: 101 :: 110 :: 32 :: 40 :: X) (k + 3) = .mark ⟨3, [58], 0, 0, k + 3⟩ from rfl)]
  rw [show cut rdN (78 :: 61 :: 105 :: 102 :: 32 :: 116 :: 114 :: 117 :: 101 :: 32 :: 116 :: 104 :: 101 :: 110 :: 32 :: 40 :: X) (k + 4) = (cut rdN (61 :: 105 :: 102 :: 32 :: 116 :: 114 :: 117 :: 101 :: 32 :: 116 :: 104 :: 101 :: 110 :: 32 :: 40 :: X) (k + 5)).pre [⟨1, [78], 0, 0, k + 4⟩] from cut_mark rdN (show stp rdN (78 :: 61 :: 105 :: 102 :: 32 :: 116 :: 114 :: 117 :: 101 :: 32 :: 116 :: 104 :: 101 :: 110 :: 32 :: 40 :: X) (k + 4) = .mark ⟨1, [78], 0, 0, k + 4⟩ from rfl)]
  rw [show cut rdN (61 :: 105 :: 102 :: 32 :: 116 :: 114 :: 117 :: 101 :: 32 :: 116 :: 104 :: 101 :: 110 :: 32 :: 40 :: X) (k + 5) = (cut rdN (105 :: 102 :: 32 :: 116 :: 114 :: 117 :: 101 :: 32 :: 116 :: 104 :: 101 :: 110 :: 32 :: 40 :: X) (k + 6)).pre [⟨3, [61], 0, 0, k + 5⟩] from cut_mark rdN (show stp rdN (61 :: 105 :: 102 :: 32 :: 116 :: 114 :: 117 :: 101 :: 32 :: 116 :: 104 :: 101 :: 110 :: 32 :: 40 :: X) (k + 5) = .mark ⟨3, [61], 0, 0, k + 5⟩ from rfl)]
  rw [show cut rdN (105 :: 102 :: 32 :: 116 :: 114 :: 117 :: 101 :: 32 :: 116 :: 104 :: 101 :: 110 :: 32 :: 40 :: X) (k + 6) = (cut rdN (32 :: 116 :: 114 :: 117 :: 101 :: 32 :: 116 :: 104 :: 101 :: 110 :: 32 :: 40 :: X) (k + 8)).pre [⟨1, [105, 102], 0, 0, k + 6⟩] from cut_mark rdN (show stp rdN (105 :: 102 :: 32 :: 116 :: 114 :: 117 :: 101 :: 32 :: 116 :: 104 :: 101 :: 110 :: 32 :: 40 :: X) (k + 6) = .mark ⟨1, [105, 102], 0, 0, k + 6⟩ from rfl)]
  rw [show cut rdN (32 :: 116 :: 114 :: 117 :: 101 :: 32 :: 116 :: 104 :: 101 :: 110 :: 32 :: 40 :: X) (k + 8) = cut rdN (116 :: 114 :: 117 :: 101 :: 32 :: 116 :: 104 :: 101 :: 110 :: 32 :: 40 :: X) (k + 9) from gap_one rdN _ (by decide) _ _]
  rw [show cut rdN (116 :: 114 :: 117 :: 101 :: 32 :: 116 :: 104 :: 101 :: 110 :: 32 :: 40 :: X) (k + 9) = (cut rdN (32 :: 116 :: 104 :: 101 :: 110 :: 32 :: 40 :: X) (k + 13)).pre [⟨1, [116, 114, 117, 101], 0, 0, k + 9⟩] from cut_mark rdN (show stp rdN (116 :: 114 :: 117 :: 101 :: 32 :: 116 :: 104 :: 101 :: 110 :: 32 :: 40 :: X) (k + 9) = .mark ⟨1, [116, 114, 117, 101], 0, 0, k + 9⟩ from rfl)]
  rw [show cut rdN (32 :: 116 :: 104 :: 101 :: 110 :: 32 :: 40 :: X) (k + 13) = cut rdN (116 :: 104 :: 101 :: 110 :: 32 :: 40 :: X) (k + 14) from gap_one rdN _ (by decide) _ _]
  rw [show cut rdN (116 :: 104 :: 101 :: 110 :: 32 :: 40 :: X) (k + 14) = (cut rdN (32 :: 40 :: X) (k + 18)).pre [⟨1, [116, 104, 101, 110], 0, 0, k + 14⟩] from cut_mark rdN (show stp rdN (116 :: 104 :: 101 :: 110 :: 32 :: 40 :: X) (k + 14) = .mark ⟨1, [116, 104, 101, 110], 0, 0, k + 14⟩ from rfl)]
  rw [show cut rdN (32 :: 40 :: X) (k + 18) = cut rdN (40 :: X) (k + 19) from gap_one rdN _ (by decide) _ _]
  rw [show cut rdN (40 :: X) (k + 19) = (cut rdN (X) (k + 20)).pre [⟨3, [40], 0, 0, k + 19⟩] from cut_mark rdN (show stp rdN (40 :: X) (k + 19) = .mark ⟨3, [40], 0, 0, k + 19⟩ from rfl)]
  cases cut rdN X (k + 20) <;> rfl
def bk0M (k : Nat) : List Mk := [⟨3, [41], 0, 0, k⟩, ⟨3, [59], 0, 0, k + 1⟩, endM (k + 2)]
theorem bk0_cut (k : Nat) : cut rdN (41 :: 59 :: []) k = .ok (bk0M k) := by
  rw [show cut rdN (41 :: 59 :: []) k = (cut rdN (59 :: []) (k + 1)).pre [⟨3, [41], 0, 0, k⟩] from cut_mark rdN (show stp rdN (41 :: 59 :: []) k = .mark ⟨3, [41], 0, 0, k⟩ from rfl)]
  rw [show cut rdN (59 :: []) (k + 1) = (cut rdN ([]) (k + 2)).pre [⟨3, [59], 0, 0, k + 1⟩] from cut_mark rdN (show stp rdN (59 :: []) (k + 1) = .mark ⟨3, [59], 0, 0, k + 1⟩ from rfl)]
  rfl
def bk1M (k : Nat) : List Mk := [⟨3, [41], 0, 0, k⟩, ⟨3, [41], 0, 0, k + 1⟩, ⟨3, [59], 0, 0, k + 2⟩, endM (k + 3)]
theorem bk1_cut (k : Nat) : cut rdN (41 :: 41 :: 59 :: []) k = .ok (bk1M k) := by
  rw [show cut rdN (41 :: 41 :: 59 :: []) k = (cut rdN (41 :: 59 :: []) (k + 1)).pre [⟨3, [41], 0, 0, k⟩] from cut_mark rdN (show stp rdN (41 :: 41 :: 59 :: []) k = .mark ⟨3, [41], 0, 0, k⟩ from rfl)]
  rw [show cut rdN (41 :: 59 :: []) (k + 1) = (cut rdN (59 :: []) (k + 2)).pre [⟨3, [41], 0, 0, k + 1⟩] from cut_mark rdN (show stp rdN (41 :: 59 :: []) (k + 1) = .mark ⟨3, [41], 0, 0, k + 1⟩ from rfl)]
  rw [show cut rdN (59 :: []) (k + 2) = (cut rdN ([]) (k + 3)).pre [⟨3, [59], 0, 0, k + 2⟩] from cut_mark rdN (show stp rdN (59 :: []) (k + 2) = .mark ⟨3, [59], 0, 0, k + 2⟩ from rfl)]
  rfl
def bk2M (k : Nat) : List Mk := [⟨3, [41], 0, 0, k⟩, ⟨3, [59], 0, 0, k + 1⟩, endM (k + 2)]
theorem bk2_cut (k : Nat) : cut rdN (41 :: 59 :: []) k = .ok (bk2M k) := by
  rw [show cut rdN (41 :: 59 :: []) k = (cut rdN (59 :: []) (k + 1)).pre [⟨3, [41], 0, 0, k⟩] from cut_mark rdN (show stp rdN (41 :: 59 :: []) k = .mark ⟨3, [41], 0, 0, k⟩ from rfl)]
  rw [show cut rdN (59 :: []) (k + 1) = (cut rdN ([]) (k + 2)).pre [⟨3, [59], 0, 0, k + 1⟩] from cut_mark rdN (show stp rdN (59 :: []) (k + 1) = .mark ⟨3, [59], 0, 0, k + 1⟩ from rfl)]
  rfl
def bk3M (k : Nat) : List Mk := [⟨3, [41], 0, 0, k⟩, ⟨3, [41], 0, 0, k + 1⟩, ⟨3, [59], 0, 0, k + 2⟩, endM (k + 3)]
theorem bk3_cut (k : Nat) : cut rdN (41 :: 41 :: 59 :: []) k = .ok (bk3M k) := by
  rw [show cut rdN (41 :: 41 :: 59 :: []) k = (cut rdN (41 :: 59 :: []) (k + 1)).pre [⟨3, [41], 0, 0, k⟩] from cut_mark rdN (show stp rdN (41 :: 41 :: 59 :: []) k = .mark ⟨3, [41], 0, 0, k⟩ from rfl)]
  rw [show cut rdN (41 :: 59 :: []) (k + 1) = (cut rdN (59 :: []) (k + 2)).pre [⟨3, [41], 0, 0, k + 1⟩] from cut_mark rdN (show stp rdN (41 :: 59 :: []) (k + 1) = .mark ⟨3, [41], 0, 0, k + 1⟩ from rfl)]
  rw [show cut rdN (59 :: []) (k + 2) = (cut rdN ([]) (k + 3)).pre [⟨3, [59], 0, 0, k + 2⟩] from cut_mark rdN (show stp rdN (59 :: []) (k + 2) = .mark ⟨3, [59], 0, 0, k + 2⟩ from rfl)]
  rfl
def bk4M (k : Nat) : List Mk := [⟨3, [41], 0, 0, k⟩, ⟨3, [41], 0, 0, k + 1⟩, ⟨3, [59], 0, 0, k + 2⟩, endM (k + 3)]
theorem bk4_cut (k : Nat) : cut rdN (41 :: 41 :: 59 :: []) k = .ok (bk4M k) := by
  rw [show cut rdN (41 :: 41 :: 59 :: []) k = (cut rdN (41 :: 59 :: []) (k + 1)).pre [⟨3, [41], 0, 0, k⟩] from cut_mark rdN (show stp rdN (41 :: 41 :: 59 :: []) k = .mark ⟨3, [41], 0, 0, k⟩ from rfl)]
  rw [show cut rdN (41 :: 59 :: []) (k + 1) = (cut rdN (59 :: []) (k + 2)).pre [⟨3, [41], 0, 0, k + 1⟩] from cut_mark rdN (show stp rdN (41 :: 59 :: []) (k + 1) = .mark ⟨3, [41], 0, 0, k + 1⟩ from rfl)]
  rw [show cut rdN (59 :: []) (k + 2) = (cut rdN ([]) (k + 3)).pre [⟨3, [59], 0, 0, k + 2⟩] from cut_mark rdN (show stp rdN (59 :: []) (k + 2) = .mark ⟨3, [59], 0, 0, k + 2⟩ from rfl)]
  rfl
def bk5M (k : Nat) : List Mk := [⟨3, [41], 0, 0, k⟩, ⟨1, [105, 110], 0, 0, k + 2⟩, ⟨2, [49], 1, 0, k + 5⟩, ⟨3, [59], 0, 0, k + 6⟩, endM (k + 7)]
theorem bk5_cut (k : Nat) : cut rdN (41 :: 32 :: 105 :: 110 :: 32 :: 49 :: 59 :: []) k = .ok (bk5M k) := by
  rw [show cut rdN (41 :: 32 :: 105 :: 110 :: 32 :: 49 :: 59 :: []) k = (cut rdN (32 :: 105 :: 110 :: 32 :: 49 :: 59 :: []) (k + 1)).pre [⟨3, [41], 0, 0, k⟩] from cut_mark rdN (show stp rdN (41 :: 32 :: 105 :: 110 :: 32 :: 49 :: 59 :: []) k = .mark ⟨3, [41], 0, 0, k⟩ from rfl)]
  rw [show cut rdN (32 :: 105 :: 110 :: 32 :: 49 :: 59 :: []) (k + 1) = cut rdN (105 :: 110 :: 32 :: 49 :: 59 :: []) (k + 2) from gap_one rdN _ (by decide) _ _]
  rw [show cut rdN (105 :: 110 :: 32 :: 49 :: 59 :: []) (k + 2) = (cut rdN (32 :: 49 :: 59 :: []) (k + 4)).pre [⟨1, [105, 110], 0, 0, k + 2⟩] from cut_mark rdN (show stp rdN (105 :: 110 :: 32 :: 49 :: 59 :: []) (k + 2) = .mark ⟨1, [105, 110], 0, 0, k + 2⟩ from rfl)]
  rw [show cut rdN (32 :: 49 :: 59 :: []) (k + 4) = cut rdN (49 :: 59 :: []) (k + 5) from gap_one rdN _ (by decide) _ _]
  rw [show cut rdN (49 :: 59 :: []) (k + 5) = (cut rdN (59 :: []) (k + 6)).pre [⟨2, [49], 1, 0, k + 5⟩] from cut_mark rdN (show stp rdN (49 :: 59 :: []) (k + 5) = .mark ⟨2, [49], 1, 0, k + 5⟩ from by kernel_rfl)]
  rw [show cut rdN (59 :: []) (k + 6) = (cut rdN ([]) (k + 7)).pre [⟨3, [59], 0, 0, k + 6⟩] from cut_mark rdN (show stp rdN (59 :: []) (k + 6) = .mark ⟨3, [59], 0, 0, k + 6⟩ from rfl)]
  rfl
def bk6M (k : Nat) : List Mk := [⟨3, [41], 0, 0, k⟩, ⟨1, [111, 102], 0, 0, k + 2⟩, ⟨1, [110, 105, 108], 0, 0, k + 5⟩, ⟨3, [45, 62], 0, 0, k + 8⟩, ⟨2, [49], 1, 0, k + 10⟩, ⟨3, [124], 0, 0, k + 11⟩, ⟨0, [104], 0, 0, k + 12⟩, ⟨3, [58], 0, 0, k + 13⟩, ⟨0, [116], 0, 0, k + 14⟩, ⟨3, [45, 62], 0, 0, k + 15⟩, ⟨2, [50], 2, 0, k + 17⟩, ⟨3, [59], 0, 0, k + 18⟩, endM (k + 19)]
theorem bk6_cut (k : Nat) : cut rdN (41 :: 32 :: 111 :: 102 :: 32 :: 110 :: 105 :: 108 :: 45 :: 62 :: 49 :: 124 :: 104 :: 58 :: 116 :: 45 :: 62 :: 50 :: 59 :: []) k = .ok (bk6M k) := by
  rw [show cut rdN (41 :: 32 :: 111 :: 102 :: 32 :: 110 :: 105 :: 108 :: 45 :: 62 :: 49 :: 124 :: 104 :: 58 :: 116 :: 45 :: 62 :: 50 :: 59 :: []) k = (cut rdN (32 :: 111 :: 102 :: 32 :: 110 :: 105 :: 108 :: 45 :: 62 :: 49 :: 124 :: 104 :: 58 :: 116 :: 45 :: 62 :: 50 :: 59 :: []) (k + 1)).pre [⟨3, [41], 0, 0, k⟩] from cut_mark rdN (show stp rdN (41 :: 32 :: 111 :: 102 :: 32 :: 110 :: 105 :: 108 :: 45 :: 62 :: 49 :: 124 :: 104 :: 58 :: 116 :: 45 :: 62 :: 50 :: 59 :: []) k = .mark ⟨3, [41], 0, 0, k⟩ from rfl)]
  rw [show cut rdN (32 :: 111 :: 102 :: 32 :: 110 :: 105 :: 108 :: 45 :: 62 :: 49 :: 124 :: 104 :: 58 :: 116 :: 45 :: 62 :: 50 :: 59 :: []) (k + 1) = cut rdN (111 :: 102 :: 32 :: 110 :: 105 :: 108 :: 45 :: 62 :: 49 :: 124 :: 104 :: 58 :: 116 :: 45 :: 62 :: 50 :: 59 :: []) (k + 2) from gap_one rdN _ (by decide) _ _]
  rw [show cut rdN (111 :: 102 :: 32 :: 110 :: 105 :: 108 :: 45 :: 62 :: 49 :: 124 :: 104 :: 58 :: 116 :: 45 :: 62 :: 50 :: 59 :: []) (k + 2) = (cut rdN (32 :: 110 :: 105 :: 108 :: 45 :: 62 :: 49 :: 124 :: 104 :: 58 :: 116 :: 45 :: 62 :: 50 :: 59 :: []) (k + 4)).pre [⟨1, [111, 102], 0, 0, k + 2⟩] from cut_mark rdN (show stp rdN (111 :: 102 :: 32 :: 110 :: 105 :: 108 :: 45 :: 62 :: 49 :: 124 :: 104 :: 58 :: 116 :: 45 :: 62 :: 50 :: 59 :: []) (k + 2) = .mark ⟨1, [111, 102], 0, 0, k + 2⟩ from rfl)]
  rw [show cut rdN (32 :: 110 :: 105 :: 108 :: 45 :: 62 :: 49 :: 124 :: 104 :: 58 :: 116 :: 45 :: 62 :: 50 :: 59 :: []) (k + 4) = cut rdN (110 :: 105 :: 108 :: 45 :: 62 :: 49 :: 124 :: 104 :: 58 :: 116 :: 45 :: 62 :: 50 :: 59 :: []) (k + 5) from gap_one rdN _ (by decide) _ _]
  rw [show cut rdN (110 :: 105 :: 108 :: 45 :: 62 :: 49 :: 124 :: 104 :: 58 :: 116 :: 45 :: 62 :: 50 :: 59 :: []) (k + 5) = (cut rdN (45 :: 62 :: 49 :: 124 :: 104 :: 58 :: 116 :: 45 :: 62 :: 50 :: 59 :: []) (k + 8)).pre [⟨1, [110, 105, 108], 0, 0, k + 5⟩] from cut_mark rdN (show stp rdN (110 :: 105 :: 108 :: 45 :: 62 :: 49 :: 124 :: 104 :: 58 :: 116 :: 45 :: 62 :: 50 :: 59 :: []) (k + 5) = .mark ⟨1, [110, 105, 108], 0, 0, k + 5⟩ from rfl)]
  rw [show cut rdN (45 :: 62 :: 49 :: 124 :: 104 :: 58 :: 116 :: 45 :: 62 :: 50 :: 59 :: []) (k + 8) = (cut rdN (49 :: 124 :: 104 :: 58 :: 116 :: 45 :: 62 :: 50 :: 59 :: []) (k + 10)).pre [⟨3, [45, 62], 0, 0, k + 8⟩] from cut_mark rdN (show stp rdN (45 :: 62 :: 49 :: 124 :: 104 :: 58 :: 116 :: 45 :: 62 :: 50 :: 59 :: []) (k + 8) = .mark ⟨3, [45, 62], 0, 0, k + 8⟩ from rfl)]
  rw [show cut rdN (49 :: 124 :: 104 :: 58 :: 116 :: 45 :: 62 :: 50 :: 59 :: []) (k + 10) = (cut rdN (124 :: 104 :: 58 :: 116 :: 45 :: 62 :: 50 :: 59 :: []) (k + 11)).pre [⟨2, [49], 1, 0, k + 10⟩] from cut_mark rdN (show stp rdN (49 :: 124 :: 104 :: 58 :: 116 :: 45 :: 62 :: 50 :: 59 :: []) (k + 10) = .mark ⟨2, [49], 1, 0, k + 10⟩ from by kernel_rfl)]
  rw [show cut rdN (124 :: 104 :: 58 :: 116 :: 45 :: 62 :: 50 :: 59 :: []) (k + 11) = (cut rdN (104 :: 58 :: 116 :: 45 :: 62 :: 50 :: 59 :: []) (k + 12)).pre [⟨3, [124], 0, 0, k + 11⟩] from cut_mark rdN (show stp rdN (124 :: 104 :: 58 :: 116 :: 45 :: 62 :: 50 :: 59 :: []) (k + 11) = .mark ⟨3, [124], 0, 0, k + 11⟩ from rfl)]
  rw [show cut rdN (104 :: 58 :: 116 :: 45 :: 62 :: 50 :: 59 :: []) (k + 12) = (cut rdN (58 :: 116 :: 45 :: 62 :: 50 :: 59 :: []) (k + 13)).pre [⟨0, [104], 0, 0, k + 12⟩] from cut_mark rdN (show stp rdN (104 :: 58 :: 116 :: 45 :: 62 :: 50 :: 59 :: []) (k + 12) = .mark ⟨0, [104], 0, 0, k + 12⟩ from rfl)]
  rw [show cut rdN (58 :: 116 :: 45 :: 62 :: 50 :: 59 :: []) (k + 13) = (cut rdN (116 :: 45 :: 62 :: 50 :: 59 :: []) (k + 14)).pre [⟨3, [58], 0, 0, k + 13⟩] from cut_mark rdN (show stp rdN (58 :: 116 :: 45 :: 62 :: 50 :: 59 :: []) (k + 13) = .mark ⟨3, [58], 0, 0, k + 13⟩ from rfl)]
  rw [show cut rdN (116 :: 45 :: 62 :: 50 :: 59 :: []) (k + 14) = (cut rdN (45 :: 62 :: 50 :: 59 :: []) (k + 15)).pre [⟨0, [116], 0, 0, k + 14⟩] from cut_mark rdN (show stp rdN (116 :: 45 :: 62 :: 50 :: 59 :: []) (k + 14) = .mark ⟨0, [116], 0, 0, k + 14⟩ from rfl)]
  rw [show cut rdN (45 :: 62 :: 50 :: 59 :: []) (k + 15) = (cut rdN (50 :: 59 :: []) (k + 17)).pre [⟨3, [45, 62], 0, 0, k + 15⟩] from cut_mark rdN (show stp rdN (45 :: 62 :: 50 :: 59 :: []) (k + 15) = .mark ⟨3, [45, 62], 0, 0, k + 15⟩ from rfl)]
  rw [show cut rdN (50 :: 59 :: []) (k + 17) = (cut rdN (59 :: []) (k + 18)).pre [⟨2, [50], 2, 0, k + 17⟩] from cut_mark rdN (show stp rdN (50 :: 59 :: []) (k + 17) = .mark ⟨2, [50], 2, 0, k + 17⟩ from by kernel_rfl)]
  rw [show cut rdN (59 :: []) (k + 18) = (cut rdN ([]) (k + 19)).pre [⟨3, [59], 0, 0, k + 18⟩] from cut_mark rdN (show stp rdN (59 :: []) (k + 18) = .mark ⟨3, [59], 0, 0, k + 18⟩ from rfl)]
  rfl
def bk7M (k : Nat) : List Mk := [⟨3, [41], 0, 0, k⟩, ⟨1, [101, 108, 115, 101], 0, 0, k + 2⟩, ⟨2, [49], 1, 0, k + 7⟩, ⟨3, [59], 0, 0, k + 8⟩, endM (k + 9)]
theorem bk7_cut (k : Nat) : cut rdN (41 :: 32 :: 101 :: 108 :: 115 :: 101 :: 32 :: 49 :: 59 :: []) k = .ok (bk7M k) := by
  rw [show cut rdN (41 :: 32 :: 101 :: 108 :: 115 :: 101 :: 32 :: 49 :: 59 :: []) k = (cut rdN (32 :: 101 :: 108 :: 115 :: 101 :: 32 :: 49 :: 59 :: []) (k + 1)).pre [⟨3, [41], 0, 0, k⟩] from cut_mark rdN (show stp rdN (41 :: 32 :: 101 :: 108 :: 115 :: 101 :: 32 :: 49 :: 59 :: []) k = .mark ⟨3, [41], 0, 0, k⟩ from rfl)]
  rw [show cut rdN (32 :: 101 :: 108 :: 115 :: 101 :: 32 :: 49 :: 59 :: []) (k + 1) = cut rdN (101 :: 108 :: 115 :: 101 :: 32 :: 49 :: 59 :: []) (k + 2) from gap_one rdN _ (by decide) _ _]
  rw [show cut rdN (101 :: 108 :: 115 :: 101 :: 32 :: 49 :: 59 :: []) (k + 2) = (cut rdN (32 :: 49 :: 59 :: []) (k + 6)).pre [⟨1, [101, 108, 115, 101], 0, 0, k + 2⟩] from cut_mark rdN (show stp rdN (101 :: 108 :: 115 :: 101 :: 32 :: 49 :: 59 :: []) (k + 2) = .mark ⟨1, [101, 108, 115, 101], 0, 0, k + 2⟩ from rfl)]
  rw [show cut rdN (32 :: 49 :: 59 :: []) (k + 6) = cut rdN (49 :: 59 :: []) (k + 7) from gap_one rdN _ (by decide) _ _]
  rw [show cut rdN (49 :: 59 :: []) (k + 7) = (cut rdN (59 :: []) (k + 8)).pre [⟨2, [49], 1, 0, k + 7⟩] from cut_mark rdN (show stp rdN (49 :: 59 :: []) (k + 7) = .mark ⟨2, [49], 1, 0, k + 7⟩ from by kernel_rfl)]
  rw [show cut rdN (59 :: []) (k + 8) = (cut rdN ([]) (k + 9)).pre [⟨3, [59], 0, 0, k + 8⟩] from cut_mark rdN (show stp rdN (59 :: []) (k + 8) = .mark ⟨3, [59], 0, 0, k + 8⟩ from rfl)]
  rfl
def bkzM (k : Nat) : List Mk := [⟨3, [59], 0, 0, k⟩, endM (k + 1)]
theorem bkz_cut (k : Nat) : cut rdN (59 :: []) k = .ok (bkzM k) := by
  rw [show cut rdN (59 :: []) k = (cut rdN ([]) (k + 1)).pre [⟨3, [59], 0, 0, k⟩] from cut_mark rdN (show stp rdN (59 :: []) k = .mark ⟨3, [59], 0, 0, k⟩ from rfl)]
  rfl
end Go.Proofs.YtndgglhppoijnaaGreatDoor
/-
  LangBracketed, plainly, at the constant texts.
-/
namespace Go.Proofs.YtndgglhppoijnaaGreatDoor
set_option maxHeartbeats 2000000

def ahB : Nat → List UInt8
  | 0 => [40]
  | 1 => [40, 40]
  | 2 => [49, 43, 40]
  | 3 => [103, 40, 49, 44, 40]
  | 4 => [110, 111, 116, 40, 40]
  | 5 => [108, 101, 116, 32, 120, 32, 78, 61, 40]
  | 6 => [99, 97, 115, 101, 32, 40]
  | _ => [105, 102, 32, 116, 114, 117, 101, 32, 116, 104, 101, 110, 32, 40]
def bkB : Nat → List UInt8
  | 0 => [41]
  | 1 => [41, 41]
  | 2 => [41]
  | 3 => [41, 41]
  | 4 => [41, 41]
  | 5 => [41, 32, 105, 110, 32, 49]
  | 6 => [41, 32, 111, 102, 32, 110, 105, 108, 45, 62, 49, 124, 104, 58, 116, 45, 62, 50]
  | _ => [41, 32, 101, 108, 115, 101, 32, 49]
theorem nu1 (k : Nat) : MR tt (nuT 1 0) ⟨2, [49], 1, 0, k⟩ := ⟨rfl, by simp [nuT, txt, Lib.itoa, Lib.decDigits], rfl, rfl, trivial⟩
theorem nu2 (k : Nat) : MR tt (nuT 2 0) ⟨2, [50], 2, 0, k⟩ := ⟨rfl, by simp [nuT, txt, Lib.itoa, Lib.decDigits], rfl, rfl, trivial⟩
/-- Which way a number picks. -/
theorem mod8 (n : Int) : ∃ i : Nat, i < 8 ∧ n.tmod 8 + 8 ≤ 15 ∧ 1 ≤ n.tmod 8 + 8 ∧ (n.tmod 8 + 8).tmod 8 = (i : Int) := by
  have h1 : n.tmod 8 < 8 := Int.tmod_lt_of_pos n (by decide)
  have h2 : -8 < n.tmod 8 := by
    rcases Int.le_total 0 n with h | h
    · have := Int.tmod_nonneg 8 h
      omega
    · have h3 : (-n).tmod 8 < 8 := Int.tmod_lt_of_pos (-n) (by decide)
      rw [Int.neg_tmod] at h3
      omega
  have h4 : 0 ≤ (n.tmod 8 + 8).tmod 8 := Int.tmod_nonneg 8 (by omega)
  have h5 : (n.tmod 8 + 8).tmod 8 < 8 := Int.tmod_lt_of_pos _ (by decide)
  exact ⟨((n.tmod 8 + 8).tmod 8).toNat, by omega, by omega, by omega, by omega⟩
theorem bracketed_rd {E : List UInt8} {ms1 : List Mk} {L : Lm} {f : Nat} {g : Fn1} {j : Nat} (hc : cut rdN (102 :: 40 :: 41 :: 58 :: 78 :: 61 :: (E ++ 10 :: [59])) 0 = .ok ms1) (hp : progL (mf ms1) L f [] 0 = .ok [g] j) (hm : (ms1.length : Int) ≤ L.n) (hf0 : (0 : Int) < L.f) : ∀ i, i < 8 →
    ∃ ms2 x e' j', cut rdN (102 :: 40 :: 41 :: 58 :: 78 :: 61 :: ahB i ++ (E ++ 10 :: (bkB i ++ [59]))) 0 = .ok ms2 ∧ ExR tt g.body e' ∧ Part i x e' ∧ Ev fun f => progL (mf ms2) L f [] 0 = .ok [⟨[102], [], 1, x, (mf ms2 0).at_⟩] j'
  | 0, _ => by
    refine bracketed (i := 0) (N := rdN) (E := E) (AB := 102 :: 40 :: 41 :: 58 :: 78 :: 61 :: ahB 0) (BB := bkB 0 ++ [59]) (AM := ah0M 0) (BM := (bk0M (7 + E.length + 1)).dropLast) (a := 7) (z := 7 + E.length + 1 + (bkB 0).length + 1) hc hp hm hf0 (by decide) ?_ ?_ ?_ ?_
    · exact ah0_cut _ 0
    · exact .cons ⟨rfl, rfl, rfl, rfl, trivial⟩ (.cons ⟨rfl, rfl, rfl, rfl, trivial⟩ (.cons ⟨rfl, rfl, rfl, rfl, trivial⟩ (.cons ⟨rfl, rfl, rfl, rfl, trivial⟩ (.cons ⟨rfl, rfl, rfl, rfl, trivial⟩ (.cons ⟨rfl, rfl, rfl, rfl, trivial⟩ (.cons ⟨rfl, rfl, rfl, rfl, trivial⟩ .nil))))))
    · exact bk0_cut _
    · exact .cons ⟨rfl, rfl, rfl, rfl, trivial⟩ (.cons ⟨rfl, rfl, rfl, rfl, trivial⟩ .nil)
  | 1, _ => by
    refine bracketed (i := 1) (N := rdN) (E := E) (AB := 102 :: 40 :: 41 :: 58 :: 78 :: 61 :: ahB 1) (BB := bkB 1 ++ [59]) (AM := ah1M 0) (BM := (bk1M (8 + E.length + 1)).dropLast) (a := 8) (z := 8 + E.length + 1 + (bkB 1).length + 1) hc hp hm hf0 (by decide) ?_ ?_ ?_ ?_
    · exact ah1_cut _ 0
    · exact .cons ⟨rfl, rfl, rfl, rfl, trivial⟩ (.cons ⟨rfl, rfl, rfl, rfl, trivial⟩ (.cons ⟨rfl, rfl, rfl, rfl, trivial⟩ (.cons ⟨rfl, rfl, rfl, rfl, trivial⟩ (.cons ⟨rfl, rfl, rfl, rfl, trivial⟩ (.cons ⟨rfl, rfl, rfl, rfl, trivial⟩ (.cons ⟨rfl, rfl, rfl, rfl, trivial⟩ (.cons ⟨rfl, rfl, rfl, rfl, trivial⟩ .nil)))))))
    · exact bk1_cut _
    · exact .cons ⟨rfl, rfl, rfl, rfl, trivial⟩ (.cons ⟨rfl, rfl, rfl, rfl, trivial⟩ (.cons ⟨rfl, rfl, rfl, rfl, trivial⟩ .nil))
  | 2, _ => by
    refine bracketed (i := 2) (N := rdN) (E := E) (AB := 102 :: 40 :: 41 :: 58 :: 78 :: 61 :: ahB 2) (BB := bkB 2 ++ [59]) (AM := ah2M 0) (BM := (bk2M (9 + E.length + 1)).dropLast) (a := 9) (z := 9 + E.length + 1 + (bkB 2).length + 1) hc hp hm hf0 (by decide) ?_ ?_ ?_ ?_
    · exact ah2_cut _ 0
    · exact .cons ⟨rfl, rfl, rfl, rfl, trivial⟩ (.cons ⟨rfl, rfl, rfl, rfl, trivial⟩ (.cons ⟨rfl, rfl, rfl, rfl, trivial⟩ (.cons ⟨rfl, rfl, rfl, rfl, trivial⟩ (.cons ⟨rfl, rfl, rfl, rfl, trivial⟩ (.cons ⟨rfl, rfl, rfl, rfl, trivial⟩ (.cons (nu1 _) (.cons ⟨rfl, rfl, rfl, rfl, trivial⟩ (.cons ⟨rfl, rfl, rfl, rfl, trivial⟩ .nil))))))))
    · exact bk2_cut _
    · exact .cons ⟨rfl, rfl, rfl, rfl, trivial⟩ (.cons ⟨rfl, rfl, rfl, rfl, trivial⟩ .nil)
  | 3, _ => by
    refine bracketed (i := 3) (N := rdN) (E := E) (AB := 102 :: 40 :: 41 :: 58 :: 78 :: 61 :: ahB 3) (BB := bkB 3 ++ [59]) (AM := ah3M 0) (BM := (bk3M (11 + E.length + 1)).dropLast) (a := 11) (z := 11 + E.length + 1 + (bkB 3).length + 1) hc hp hm hf0 (by decide) ?_ ?_ ?_ ?_
    · exact ah3_cut _ 0
    · exact .cons ⟨rfl, rfl, rfl, rfl, trivial⟩ (.cons ⟨rfl, rfl, rfl, rfl, trivial⟩ (.cons ⟨rfl, rfl, rfl, rfl, trivial⟩ (.cons ⟨rfl, rfl, rfl, rfl, trivial⟩ (.cons ⟨rfl, rfl, rfl, rfl, trivial⟩ (.cons ⟨rfl, rfl, rfl, rfl, trivial⟩ (.cons ⟨rfl, rfl, rfl, rfl, trivial⟩ (.cons ⟨rfl, rfl, rfl, rfl, trivial⟩ (.cons (nu1 _) (.cons ⟨rfl, rfl, rfl, rfl, trivial⟩ (.cons ⟨rfl, rfl, rfl, rfl, trivial⟩ .nil))))))))))
    · exact bk3_cut _
    · exact .cons ⟨rfl, rfl, rfl, rfl, trivial⟩ (.cons ⟨rfl, rfl, rfl, rfl, trivial⟩ (.cons ⟨rfl, rfl, rfl, rfl, trivial⟩ .nil))
  | 4, _ => by
    refine bracketed (i := 4) (N := rdN) (E := E) (AB := 102 :: 40 :: 41 :: 58 :: 78 :: 61 :: ahB 4) (BB := bkB 4 ++ [59]) (AM := ah4M 0) (BM := (bk4M (11 + E.length + 1)).dropLast) (a := 11) (z := 11 + E.length + 1 + (bkB 4).length + 1) hc hp hm hf0 (by decide) ?_ ?_ ?_ ?_
    · exact ah4_cut _ 0
    · exact .cons ⟨rfl, rfl, rfl, rfl, trivial⟩ (.cons ⟨rfl, rfl, rfl, rfl, trivial⟩ (.cons ⟨rfl, rfl, rfl, rfl, trivial⟩ (.cons ⟨rfl, rfl, rfl, rfl, trivial⟩ (.cons ⟨rfl, rfl, rfl, rfl, trivial⟩ (.cons ⟨rfl, rfl, rfl, rfl, trivial⟩ (.cons ⟨rfl, rfl, rfl, rfl, trivial⟩ (.cons ⟨rfl, rfl, rfl, rfl, trivial⟩ (.cons ⟨rfl, rfl, rfl, rfl, trivial⟩ .nil))))))))
    · exact bk4_cut _
    · exact .cons ⟨rfl, rfl, rfl, rfl, trivial⟩ (.cons ⟨rfl, rfl, rfl, rfl, trivial⟩ (.cons ⟨rfl, rfl, rfl, rfl, trivial⟩ .nil))
  | 5, _ => by
    refine bracketed (i := 5) (N := rdN) (E := E) (AB := 102 :: 40 :: 41 :: 58 :: 78 :: 61 :: ahB 5) (BB := bkB 5 ++ [59]) (AM := ah5M 0) (BM := (bk5M (15 + E.length + 1)).dropLast) (a := 15) (z := 15 + E.length + 1 + (bkB 5).length + 1) hc hp hm hf0 (by decide) ?_ ?_ ?_ ?_
    · exact ah5_cut _ 0
    · exact .cons ⟨rfl, rfl, rfl, rfl, trivial⟩ (.cons ⟨rfl, rfl, rfl, rfl, trivial⟩ (.cons ⟨rfl, rfl, rfl, rfl, trivial⟩ (.cons ⟨rfl, rfl, rfl, rfl, trivial⟩ (.cons ⟨rfl, rfl, rfl, rfl, trivial⟩ (.cons ⟨rfl, rfl, rfl, rfl, trivial⟩ (.cons ⟨rfl, rfl, rfl, rfl, trivial⟩ (.cons ⟨rfl, rfl, rfl, rfl, trivial⟩ (.cons ⟨rfl, rfl, rfl, rfl, trivial⟩ (.cons ⟨rfl, rfl, rfl, rfl, trivial⟩ (.cons ⟨rfl, rfl, rfl, rfl, trivial⟩ .nil))))))))))
    · exact bk5_cut _
    · exact .cons ⟨rfl, rfl, rfl, rfl, trivial⟩ (.cons ⟨rfl, rfl, rfl, rfl, trivial⟩ (.cons (nu1 _) (.cons ⟨rfl, rfl, rfl, rfl, trivial⟩ .nil)))
  | 6, _ => by
    refine bracketed (i := 6) (N := rdN) (E := E) (AB := 102 :: 40 :: 41 :: 58 :: 78 :: 61 :: ahB 6) (BB := bkB 6 ++ [59]) (AM := ah6M 0) (BM := (bk6M (12 + E.length + 1)).dropLast) (a := 12) (z := 12 + E.length + 1 + (bkB 6).length + 1) hc hp hm hf0 (by decide) ?_ ?_ ?_ ?_
    · exact ah6_cut _ 0
    · exact .cons ⟨rfl, rfl, rfl, rfl, trivial⟩ (.cons ⟨rfl, rfl, rfl, rfl, trivial⟩ (.cons ⟨rfl, rfl, rfl, rfl, trivial⟩ (.cons ⟨rfl, rfl, rfl, rfl, trivial⟩ (.cons ⟨rfl, rfl, rfl, rfl, trivial⟩ (.cons ⟨rfl, rfl, rfl, rfl, trivial⟩ (.cons ⟨rfl, rfl, rfl, rfl, trivial⟩ (.cons ⟨rfl, rfl, rfl, rfl, trivial⟩ .nil)))))))
    · exact bk6_cut _
    · exact .cons ⟨rfl, rfl, rfl, rfl, trivial⟩ (.cons ⟨rfl, rfl, rfl, rfl, trivial⟩ (.cons ⟨rfl, rfl, rfl, rfl, trivial⟩ (.cons ⟨rfl, rfl, rfl, rfl, trivial⟩ (.cons (nu1 _) (.cons ⟨rfl, rfl, rfl, rfl, trivial⟩ (.cons ⟨rfl, rfl, rfl, rfl, trivial⟩ (.cons ⟨rfl, rfl, rfl, rfl, trivial⟩ (.cons ⟨rfl, rfl, rfl, rfl, trivial⟩ (.cons ⟨rfl, rfl, rfl, rfl, trivial⟩ (.cons (nu2 _) (.cons ⟨rfl, rfl, rfl, rfl, trivial⟩ .nil)))))))))))
  | 7, _ => by
    refine bracketed (i := 7) (N := rdN) (E := E) (AB := 102 :: 40 :: 41 :: 58 :: 78 :: 61 :: ahB 7) (BB := bkB 7 ++ [59]) (AM := ah7M 0) (BM := (bk7M (20 + E.length + 1)).dropLast) (a := 20) (z := 20 + E.length + 1 + (bkB 7).length + 1) hc hp hm hf0 (by decide) ?_ ?_ ?_ ?_
    · exact ah7_cut _ 0
    · exact .cons ⟨rfl, rfl, rfl, rfl, trivial⟩ (.cons ⟨rfl, rfl, rfl, rfl, trivial⟩ (.cons ⟨rfl, rfl, rfl, rfl, trivial⟩ (.cons ⟨rfl, rfl, rfl, rfl, trivial⟩ (.cons ⟨rfl, rfl, rfl, rfl, trivial⟩ (.cons ⟨rfl, rfl, rfl, rfl, trivial⟩ (.cons ⟨rfl, rfl, rfl, rfl, trivial⟩ (.cons ⟨rfl, rfl, rfl, rfl, trivial⟩ (.cons ⟨rfl, rfl, rfl, rfl, trivial⟩ (.cons ⟨rfl, rfl, rfl, rfl, trivial⟩ .nil)))))))))
    · exact bk7_cut _
    · exact .cons ⟨rfl, rfl, rfl, rfl, trivial⟩ (.cons ⟨rfl, rfl, rfl, rfl, trivial⟩ (.cons (nu1 _) (.cons ⟨rfl, rfl, rfl, rfl, trivial⟩ .nil)))
end Go.Proofs.YtndgglhppoijnaaGreatDoor
