/-
  The walk of the calls whose answers the document fixes.
-/
import Derived.Test.YtiikkbofcccjfaaPt
namespace Go.Proofs.Ytiikkbofcccjfaa
open Go.RowKit
open RowsM

theorem Fresh.block {w w' : World} {ao : Option Addr} {cap : Nat} {L : List Nat} (h : Fresh w w' ao cap L) (hL : L ≠ []) : ∃ g, ao = some ⟨g, 0, none⟩ ∧ cap = L.length ∧ Ob w' g L ∧ w.heap.size ≤ g := by
  rcases h.2 with ⟨_, _, h⟩ | h
  · exact absurd h hL
  · exact h

theorem new33 (w : World) : Calls Try.prog 37 #[.int .i64 33] w fun e w' => ∃ g, e = .returned (.tuple #[.agg #[.int .i64 33, .slice (some ⟨g, 0, none⟩) 2 2], .int .i64 0]) ∧ Ob w' g [0, 0] ∧ Below w.heap.size w w' := by
  refine (new_any 33 w).mono ?_
  rintro e w' ⟨ao, cap, rfl, hf, hb⟩
  have e2 : zerosN 33 = [0, 0] := by decide
  rw [e2] at hf
  obtain ⟨g, rfl, rfl, ho, _⟩ := hf.block (by simp)
  exact ⟨g, rfl, ho, hb⟩

theorem put33 (g : Nat) (w : World) (h : Ob w g [0, 0]) : Calls Try.prog 47 #[.agg #[.int .i64 33, .slice (some ⟨g, 0, none⟩) 2 2], .int .i64 32, .int .i64 3] w fun e w' =>
    ∃ g', e = .returned (.tuple #[.agg #[.int .i64 33, .slice (some ⟨g', 0, none⟩) 2 2], .int .i64 0]) ∧ Ob w' g' [0, 3] ∧ Below w.heap.size w w' := by
  refine (put_any 33 (some ⟨g, 0, none⟩) 2 [0, 0] 32 3 w (h.rd (by simp)) (by simp)).mono ?_
  rintro e w' ⟨ao, cap, rfl, hf, hb⟩
  have e2 : putL 33 [0, 0] 32 3 = [0, 3] := by decide
  rw [e2] at hf
  obtain ⟨g', rfl, rfl, ho, _⟩ := hf.block (by simp)
  refine ⟨g', ?_, ho, hb⟩
  rw [e2]
  have e3 : okPut 33 [0, 0] 32 3 = true := by decide
  have e4 : putE 33 [0, 0] 32 3 = 0 := by decide
  rw [e3, e4]
  rfl

theorem get33 (g : Nat) (w : World) (h : Ob w g [0, 3]) : Calls Try.prog 46 #[.agg #[.int .i64 33, .slice (some ⟨g, 0, none⟩) 2 2], .int .i64 32] w fun e w' =>
    e = .returned (.tuple #[.int .i64 3, .int .i64 0]) ∧ Below w.heap.size w w' := by
  refine (get_any 33 (some ⟨g, 0, none⟩) 2 [0, 3] 32 w (h.rd (by simp)) (by simp)).mono ?_
  rintro e w' ⟨rfl, hb⟩
  have e3 : getV 33 [0, 3] 32 = 3 := by decide
  have e4 : getE 33 [0, 3] 32 = 0 := by decide
  rw [e3, e4]
  exact ⟨rfl, hb⟩

end Go.Proofs.Ytiikkbofcccjfaa
