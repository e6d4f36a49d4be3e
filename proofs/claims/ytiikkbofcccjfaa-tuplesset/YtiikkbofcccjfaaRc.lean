/-
  The walks of Below, Join and Meet.
-/
import Derived.Test.YtiikkbofcccjfaaRb
import Derived.LoopTactic
namespace Go.Proofs.Ytiikkbofcccjfaa
open Go.RowKit
open RowsM

/-- Is each word below the other's one? -/
def belowL (xs ys : List Nat) : Bool := decide (∀ k, k < xs.length → aboveN (xs.getD k 0) (ys.getD k 0) = 0)

theorem okP_len {n m : Int} {xs ys : List Nat} (h : okP n m xs ys = true) : xs.length = ys.length := by
  simp only [okP, okR, Bool.and_eq_true, decide_eq_true_eq, beq_iff_eq] at h
  obtain ⟨⟨⟨_, _, h1, _⟩, _, _, h2, _⟩, rfl⟩ := h
  omega

theorem ret_two {a b : Bool} {k : IntKind} {x y : Int} (h : b = a) (g : y = x) : Ending.returned (.tuple #[.bool a, .int k x]) = .returned (.tuple #[.bool b, .int k y]) := by rw [h, g]

end Go.Proofs.Ytiikkbofcccjfaa
