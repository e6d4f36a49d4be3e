/-
  The walk of the calls whose answers the document fixes.
-/
import Derived.Test.YtmckdefemdcknaaPt
namespace Go.Proofs.Ytmckdefemdcknaa
open Go.RowKit
open RowsM

theorem Fresh.block {w w' : World} {ao : Option Addr} {cap : Nat} {L : List Nat} (h : Fresh w w' ao cap L) (hL : L ≠ []) : ∃ g, ao = some ⟨g, 0, none⟩ ∧ cap = L.length ∧ Ob w' g L ∧ w.heap.size ≤ g := by
  rcases h.2 with ⟨_, _, h⟩ | h
  · exact absurd h hL
  · exact h

theorem new33 (w : World) : Calls Try.prog 10 #[.int .i64 33] w fun e w' => ∃ g, e = .returned (.tuple #[.agg #[.int .i64 33, .slice (some ⟨g, 0, none⟩) 2 2], .int .i64 0]) ∧ Ob w' g [0, 0] ∧ Below w.heap.size w w' := by
  refine (new_any 33 w).mono ?_
  rintro e w' ⟨ao, cap, rfl, hf, hb⟩
  have e2 : zerosN 33 = [0, 0] := by decide
  rw [e2] at hf
  obtain ⟨g, rfl, rfl, ho, _⟩ := hf.block (by simp)
  exact ⟨g, rfl, ho, hb⟩

theorem put33 (g : Nat) (w : World) (h : Ob w g [0, 0]) : Calls Try.prog 18 #[.agg #[.int .i64 33, .slice (some ⟨g, 0, none⟩) 2 2], .int .i64 32, .int .i64 3] w fun e w' =>
    ∃ g', e = .returned (.tuple #[.agg #[.int .i64 33, .slice (some ⟨g', 0, none⟩) 2 2], .int .i64 0]) ∧ Ob w' g' [0, 3] ∧ Below w.heap.size w w' := by
  refine (put_any 33 (some ⟨g, 0, none⟩) 2 [0, 0] 32 3 w (h.rd (by simp)) (by simp)).mono ?_
  rintro e w' ⟨ao, cap, rfl, hf, hb⟩
  have e2 : putL 33 [0, 0] 32 3 = [0, 3] := by decide
  rw [e2] at hf
  obtain ⟨g', rfl, rfl, ho, _⟩ := hf.block (by simp)
  refine ⟨g', ?_, ho, hb⟩
  rw [e2]
  have e3 : okPut 33 [0, 0] 32 3 = true := by decide
  have e4 : putE 33 [0, 0] 32 3 = 0 := by decide
  rw [e3, e4]
  rfl

theorem get33 (g : Nat) (w : World) (h : Ob w g [0, 3]) : Calls Try.prog 16 #[.agg #[.int .i64 33, .slice (some ⟨g, 0, none⟩) 2 2], .int .i64 32] w fun e w' =>
    e = .returned (.tuple #[.int .i64 3, .int .i64 0]) ∧ Below w.heap.size w w' := by
  refine (get_any 33 (some ⟨g, 0, none⟩) 2 [0, 3] 32 w (h.rd (by simp)) (by simp)).mono ?_
  rintro e w' ⟨rfl, hb⟩
  have e3 : getV 33 [0, 3] 32 = 3 := by decide
  have e4 : getE 33 [0, 3] 32 = 0 := by decide
  rw [e3, e4]
  exact ⟨rfl, hb⟩

set_option maxHeartbeats 1000000 in
theorem awake_any (w : World) : Calls Try.prog 9 #[] w fun e w' => e = .returned (.bool true) ∧ Below w.heap.size w w' := by
  go_enter Try.func9, Try.ntmps9
  go_wp2_with fail
  refine (new33 _).mono ?_
  rintro e w1 ⟨g1, rfl, o1, b1⟩
  have o1' := o1.alloc (.cells #[.int .i64 33, .slice (some ⟨g1, 0, none⟩) 2 2] 24)
  have sR := St.new w1 (.int .i64 33) (.slice (some ⟨g1, 0, none⟩) 2 2)
  have b1' := Below.thn b1 (below_alloc w1 (.cells #[.int .i64 33, .slice (some ⟨g1, 0, none⟩) 2 2] 24))
  obtain ⟨c0, c1, _, _⟩ := sR.cells
  clear o1 b1
  go_wp2_with fail
  refine (put33 g1 _ o1').mono ?_
  rintro e w2 ⟨g2, rfl, o2, b2⟩
  have o1 := o1'.up b2 o1'.lt
  have sR := sR.up b2
  have b2 := Below.thn b1' b2
  clear o1' b1' c0 c1
  have o2' := o2.alloc (.cells #[.int .i64 33, .slice (some ⟨g2, 0, none⟩) 2 2] 24)
  have o1' := o1.alloc (.cells #[.int .i64 33, .slice (some ⟨g2, 0, none⟩) 2 2] 24)
  have sR' := sR.alloc (.cells #[.int .i64 33, .slice (some ⟨g2, 0, none⟩) 2 2] 24)
  have sS := St.new w2 (.int .i64 33) (.slice (some ⟨g2, 0, none⟩) 2 2)
  have b2' := Below.thn b2 (below_alloc w2 (.cells #[.int .i64 33, .slice (some ⟨g2, 0, none⟩) 2 2] 24))
  clear o1 o2 sR b2
  go_wp2_with fail
  refine (get33 g2 _ o2').mono ?_
  rintro e w3 ⟨rfl, b3⟩
  have o1 := o1'.up b3 o1'.lt
  have o2 := o2'.up b3 o2'.lt
  have sR := sR'.up b3
  have sS := sS.up b3
  have b4 := Below.thn b2' b3
  clear o1' o2' sR' b2' b3
  obtain ⟨c0, c1, _, _⟩ := sR.cells
  obtain ⟨d0, d1, _, _⟩ := sS.cells
  have x1 := o1.cell (t := 1) (by simp)
  have x2 := o2.cell (t := 0) (by simp)
  simp only [List.getD_cons_zero, List.getD_cons_succ] at x1 x2
  clear sR sS
  go_wp2
  trace_state
  go_ret
  exact ⟨rfl, b4⟩
end Go.Proofs.Ytmckdefemdcknaa
