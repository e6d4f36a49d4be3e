/-
  The calls on rows as a law meets them: where both are rows of as many cells, and where they aren't.
-/
import Derived.Test.YtiikkbofcccjfaaRl
import Derived.Test.YtiikkbofcccjfaaJn
import Derived.Test.YtiikkbofcccjfaaMt
import Derived.Test.YtiikkbofcccjfaaAw
namespace Go.Proofs.Ytiikkbofcccjfaa
open Go.RowKit
open RowsM

section
variable (n m : Int) (ao bo : Option Addr) (ca cb : Nat) (xs ys J : List Nat) (w : World) (h : Rd w ao xs) (g : Rd w bo ys) (hl : xs.length ≤ 17592186043904) (gl : ys.length ≤ 17592186043904)

theorem join_ok (hx : okR n xs = true) (hy : okR n ys = true) (hJ : List.zipWith joinW xs ys = J) (h : Rd w ao xs) (g : Rd w bo ys) (hl : xs.length ≤ 17592186043904) (gl : ys.length ≤ 17592186043904) :
    Calls Try.prog 30 #[.agg #[.int .i64 n, .slice ao xs.length ca], .agg #[.int .i64 n, .slice bo ys.length cb]] w fun e w' =>
      ∃ so cap, e = .returned (.tuple #[.agg #[.int .i64 n, .slice so J.length cap], .int .i64 0]) ∧ Rd w' so J ∧ Below w.heap.size w w' := by
  have := join_any n n ao bo ca cb xs ys w h g hl gl
  rw [okP_of hx hy, opL_yes (okP_of hx hy), hJ] at this
  refine this.mono ?_
  rintro e w' ⟨so, cap, rfl, hf, hb⟩
  exact ⟨so, cap, rfl, hf.rd, hb⟩

theorem meet_ok (hx : okR n xs = true) (hy : okR n ys = true) (hJ : List.zipWith meetW xs ys = J) (h : Rd w ao xs) (g : Rd w bo ys) (hl : xs.length ≤ 17592186043904) (gl : ys.length ≤ 17592186043904) :
    Calls Try.prog 31 #[.agg #[.int .i64 n, .slice ao xs.length ca], .agg #[.int .i64 n, .slice bo ys.length cb]] w fun e w' =>
      ∃ so cap, e = .returned (.tuple #[.agg #[.int .i64 n, .slice so J.length cap], .int .i64 0]) ∧ Rd w' so J ∧ Below w.heap.size w w' := by
  have := meet_any n n ao bo ca cb xs ys w h g hl gl
  rw [okP_of hx hy, opL_yes (okP_of hx hy), hJ] at this
  refine this.mono ?_
  rintro e w' ⟨so, cap, rfl, hf, hb⟩
  exact ⟨so, cap, rfl, hf.rd, hb⟩

theorem join_no (hx : okP n m xs ys = false) (h : Rd w ao xs) (g : Rd w bo ys) (hl : xs.length ≤ 17592186043904) (gl : ys.length ≤ 17592186043904) :
    Calls Try.prog 30 #[.agg #[.int .i64 n, .slice ao xs.length ca], .agg #[.int .i64 m, .slice bo ys.length cb]] w fun e w' =>
      ∃ so cap, e = .returned (.tuple #[.agg #[.int .i64 0, .slice so 0 cap], .int .i64 3]) ∧ Below w.heap.size w w' := by
  have := join_any n m ao bo ca cb xs ys w h g hl gl
  rw [hx, opL_no hx] at this
  refine this.mono ?_
  rintro e w' ⟨so, cap, rfl, hf, hb⟩
  exact ⟨so, cap, rfl, hb⟩

theorem meet_no (hx : okP n m xs ys = false) (h : Rd w ao xs) (g : Rd w bo ys) (hl : xs.length ≤ 17592186043904) (gl : ys.length ≤ 17592186043904) :
    Calls Try.prog 31 #[.agg #[.int .i64 n, .slice ao xs.length ca], .agg #[.int .i64 m, .slice bo ys.length cb]] w fun e w' =>
      ∃ so cap, e = .returned (.tuple #[.agg #[.int .i64 0, .slice so 0 cap], .int .i64 3]) ∧ Below w.heap.size w w' := by
  have := meet_any n m ao bo ca cb xs ys w h g hl gl
  rw [hx, opL_no hx] at this
  refine this.mono ?_
  rintro e w' ⟨so, cap, rfl, hf, hb⟩
  exact ⟨so, cap, rfl, hb⟩

theorem same_ok (c : Bool) (hc : (xs == ys) = c) (h : Rd w ao xs) (g : Rd w bo ys) (hl : xs.length ≤ 17592186043904) (gl : ys.length ≤ 17592186043904) :
    Calls Try.prog 44 #[.agg #[.int .i64 n, .slice ao xs.length ca], .agg #[.int .i64 n, .slice bo ys.length cb]] w fun e w' =>
      e = .returned (.bool c) ∧ Below w.heap.size w w' := by
  have := same_any n n ao bo ca cb xs ys w h g hl gl
  unfold sameR at this
  rw [beq_self_eq_true, Bool.true_and, hc] at this
  exact this
end

theorem okR_short {n : Int} {xs : List Nat} (h : okR n xs = true) : xs.length ≤ 17592186043904 := by
  simp only [okR, decide_eq_true_eq] at h
  omega

theorem okP_swap {n m : Int} {xs ys : List Nat} (h : okP n m xs ys = false) : okP m n ys xs = false := by
  have e : okP m n ys xs = okP n m xs ys := by
    unfold okP
    rw [Bool.and_comm (okR m ys), show (m == n) = (n == m) from bool_iff (by rw [beq_iff_eq, beq_iff_eq]; exact eq_comm)]
  rw [e]
  exact h

theorem okP_not {n m : Int} {xs ys zs : List Nat} (hx : okR n xs = true) (hy : okR n ys = true) (h : okP n m xs zs = false) : okP n m ys zs = false := by
  unfold okP at *
  rw [hx] at h
  rw [hy]
  exact h

/-- Three structs by value, laid as new blocks. -/
theorem st_three (w : World) (x y x' y' x2 y2 : Value) :
    St (((w.alloc (.cells #[x, y] 41)).alloc (.cells #[x', y'] 41)).alloc (.cells #[x2, y2] 41)) w.heap.size x y ∧
    St (((w.alloc (.cells #[x, y] 41)).alloc (.cells #[x', y'] 41)).alloc (.cells #[x2, y2] 41)) (w.heap.size + 1) x' y' ∧
    St (((w.alloc (.cells #[x, y] 41)).alloc (.cells #[x', y'] 41)).alloc (.cells #[x2, y2] 41)) (w.heap.size + 1 + 1) x2 y2 := by
  obtain ⟨s1, s2⟩ := st_two w x y x' y'
  refine ⟨s1.alloc _, s2.alloc _, ?_⟩
  have := St.new ((w.alloc (.cells #[x, y] 41)).alloc (.cells #[x', y'] 41)) x2 y2
  simpa using this
end Go.Proofs.Ytiikkbofcccjfaa
