/-
  The walks of the document's answers: a number of a float, sums, products, quotients, the order.
-/
import Derived.Test.YtkonkplalgoekaaGreatDoorFr
import Derived.Test.YtkonkplalgoekaaGreatDoorWc
namespace Go.Proofs.YtkonkplalgoekaaGreatDoor
open Go.RowKit
open Ieee

theorem bcell {W w1 : World} (hb : Below W.heap.size W w1) : (∀ b o, b < W.heap.size → w1.cell? ⟨b, o, none⟩ = W.cell? ⟨b, o, none⟩) ∧ (∀ b o, b < W.heap.size → w1.frozen? ⟨b, o, none⟩ = W.frozen? ⟨b, o, none⟩) :=
  ⟨fun b o h => hb.cell (p := ⟨b, o, none⟩) h, fun b o h => hb.frozen (p := ⟨b, o, none⟩) h⟩

/-- The parts that Of tells. -/
def ofX (a b : Nat) : Int := if vc a b then nb a else 0
def ofY (a b : Nat) : Int := if vc a b then nb b else 0

/-- What the document answers of a number that may be too great. -/
def inX (x y : Int) : Int := if okC x y then x else 0
def inY (x y : Int) : Int := if okC x y then y else 0

set_option maxHeartbeats 400000 in
theorem in_any (x y : Int) (w : World) :
    Calls Tryz.prog 76 #[.agg #[.int .i64 x, .int .i64 y]] w fun e w' => e = .returned (.tuple #[.agg #[.int .i64 (inX x y), .int .i64 (inY x y)], .int .i64 (ansE x y)]) ∧ w' = (w.alloc (.cells #[.int .i64 x, .int .i64 y] 101)).alloc (.cells #[.int .i64 (inX x y), .int .i64 (inY x y)] 101) := by
  by_cases h : okC x y = true
  · have e1 : inX x y = x := by unfold inX; rw [h]; rfl
    have e2 : inY x y = y := by unfold inY; rw [h]; rfl
    have e3 : ansE x y = 0 := by unfold ansE; rw [h]; rfl
    rw [e1, e2, e3]
    obtain ⟨b1, b2⟩ := okC_iff.1 h
    have h1 : ¬ x < -16777216 := by omega
    have h2 : ¬ 16777216 < x := by omega
    have h3 : ¬ y < -16777216 := by omega
    have h4 : ¬ 16777216 < y := by omega
    clear e1 e2 e3 h b1 b2
    go_enter Tryz.func76, Tryz.ntmps76
    go_wp2
    exact bodyPost_ret (v := .tuple #[.agg #[.int .i64 x, .int .i64 y], .int .i64 0]) (by simp [results, Tryz.results76, go_sem]) rfl ⟨rfl, rfl⟩
  · have h' : okC x y = false := by simpa using h
    have e1 : inX x y = 0 := by unfold inX; rw [h']; rfl
    have e2 : inY x y = 0 := by unfold inY; rw [h']; rfl
    have e3 : ansE x y = 50 := by unfold ansE; rw [h']; rfl
    rw [e1, e2, e3]
    have hb : ¬ (x.natAbs ≤ 16777216 ∧ y.natAbs ≤ 16777216) := fun hc => h (okC_iff.2 hc)
    have h1 : x < -16777216 ∨ 16777216 < x ∨ y < -16777216 ∨ 16777216 < y := by omega
    clear e1 e2 e3 h h' hb
    go_enter Tryz.func76, Tryz.ntmps76
    go_wp2
    all_goals first | (exact bodyPost_ret (v := .tuple #[.agg #[.int .i64 0, .int .i64 0], .int .i64 50]) (by simp [results, Tryz.results76, go_sem]) rfl ⟨rfl, rfl⟩) | (exfalso; omega)

set_option maxHeartbeats 400000 in
theorem refz_any (x y : Int) (w : World) :
    Calls Tryz.prog 51 #[.agg #[.int .i64 x, .int .i64 y]] w fun e w' => e = .returned (.complex .f64 (fl x) (fl y)) ∧ w' = w.alloc (.cells #[.int .i64 x, .int .i64 y] 101) := by
  rw [← fl_conv, ← fl_conv]
  go_enter Tryz.func51, Tryz.ntmps51
  go_wp2
  go_ret
  exact ⟨rfl, rfl⟩

set_option maxHeartbeats 400000 in
theorem parts_no (a b : Nat) (w : World) (ha : a < 2 ^ 64) (hb : b < 2 ^ 64) (hv : vc a b = false) :
    Calls Tryz.prog 72 #[.complex .f64 a b] w fun e w' => e = .returned (.tuple #[.int .i64 0, .int .i64 0, .int .i64 3]) ∧ w' = w := by
  go_enter Tryz.func72, Tryz.ntmps72
  go_wp2_with (go_at_call 100; refine (valid_vc _ _ _ (by assumption) (by assumption)).mono ?_; rintro e w' ⟨rfl, rfl⟩)
  go_ret3
  exact ⟨rfl, rfl⟩

theorem parts_w (a b : Nat) (w : World) (hv : vc a b = true) :
    Calls Tryz.prog 72 #[.complex .f64 a b] w fun e w' => e = .returned (.tuple #[.int .i64 (nb a), .int .i64 (nb b), .int .i64 0]) ∧ w' = w := by
  obtain ⟨va, vb⟩ := vc_parts hv
  obtain ⟨b1, e1⟩ := vp_true va
  obtain ⟨b2, e2⟩ := vp_true vb
  have := parts_any (nb a) (nb b) w b1 b2
  rwa [← e1, ← e2] at this

theorem bal {w w1 : World} {o : Obj} (h : Below w.heap.size w w1) : Below w.heap.size w (w1.alloc o) := h.alloc h.size o

end Go.Proofs.YtkonkplalgoekaaGreatDoor
