/-
  The walk of GaussMakes.
-/
import Derived.Test.YtmmcpganhfflmaaDoorRf
namespace Go.Proofs.YtmmcpganhfflmaaDoor
open Go.RowKit
open Ieee

theorem make_fixed (n1 n2 : Int) (w : World) (h1 : n1.natAbs ≤ 16777216) (h2 : n2.natAbs ≤ 16777216) :
    Calls Tryd.prog 10 #[.int .i64 n1, .int .i64 n2] w fun e w' => e = .returned (.tuple #[.complex .f64 (floatOfInt .f64 n1) (floatOfInt .f64 n2), .int .i64 0]) ∧ w' = w := by
  rw [fl_conv, fl_conv]; exact make_yes n1 n2 w h1 h2

set_option maxRecDepth 100000 in
set_option maxHeartbeats 2000000 in
theorem makes_yes (x y : Int) (r : Bool) (n1 n2 : Int) (w : World) (h1 : -16777216 ≤ n1) (h2 : n1 ≤ 16777216) (h3 : -16777216 ≤ n2) (h4 : n2 ≤ 16777216) :
    Calls Tryd.prog 3 #[.agg #[.int .i64 x, .int .i64 y, .bool r], .int .i64 n1, .int .i64 n2] w fun e w' => e = .returned (.bool true) ∧ Below w.heap.size w w' := by
  have l1 := zb_lt r x
  have l2 := zb_lt r y
  have sr := same_refl
  by_cases hv : vc (zb r x) (zb r y) = true
  · have e1 : ofX (zb r x) (zb r y) = nb (zb r x) := by unfold ofX; rw [hv]; rfl
    have e2 : ofY (zb r x) (zb r y) = nb (zb r y) := by unfold ofY; rw [hv]; rfl
    go_enter Tryd.func3, Tryd.ntmps3
    go_wp2_with (first
      | (go_at_call 9; refine (awake_any _).mono ?_; rintro e w' ⟨rfl, rfl⟩)
      | (go_at_call 10; refine (make_fixed _ _ _ (by omega) (by omega)).mono ?_; rintro e w' ⟨rfl, rfl⟩)
      | (go_at_call 13; refine (z_any _ _ _ _).mono ?_; rintro e w' ⟨rfl, n, rfl⟩)
      | (go_at_call 12; refine (of_any _ _ _ (by assumption) (by assumption)).mono ?_; rintro e w' ⟨rfl, rfl⟩)
      | (go_at_call 14; refine (parts_w _ _ _ (by assumption)).mono ?_; rintro e w' ⟨rfl, rfl⟩)
      | (go_at_call 15; refine (valid_vc _ _ _ (by assumption) (by assumption)).mono ?_; rintro e w' ⟨rfl, rfl⟩)
      | (go_at_call 11; refine (bits_any _ _ _ _ _).mono ?_; rintro e w' ⟨rfl, rfl⟩))
    go_ret
    refine ⟨rfl, ?_⟩
    repeat (first | exact Below.refl _ _ | refine bal ?_ | refine below_drewN ?_ _)
  · have hv' : vc (zb r x) (zb r y) = false := by simpa using hv
    clear hv
    have e1 : ofX (zb r x) (zb r y) = 0 := by unfold ofX; rw [hv']; rfl
    have e2 : ofY (zb r x) (zb r y) = 0 := by unfold ofY; rw [hv']; rfl
    go_enter Tryd.func3, Tryd.ntmps3
    go_wp2_with (first
      | (go_at_call 9; refine (awake_any _).mono ?_; rintro e w' ⟨rfl, rfl⟩)
      | (go_at_call 10; refine (make_fixed _ _ _ (by omega) (by omega)).mono ?_; rintro e w' ⟨rfl, rfl⟩)
      | (go_at_call 13; refine (z_any _ _ _ _).mono ?_; rintro e w' ⟨rfl, n, rfl⟩)
      | (go_at_call 12; refine (of_any _ _ _ (by assumption) (by assumption)).mono ?_; rintro e w' ⟨rfl, rfl⟩)
      | (go_at_call 14; refine (parts_no _ _ _ (by assumption) (by assumption) (by assumption)).mono ?_; rintro e w' ⟨rfl, rfl⟩)
      | (go_at_call 15; refine (valid_vc _ _ _ (by assumption) (by assumption)).mono ?_; rintro e w' ⟨rfl, rfl⟩)
      | (go_at_call 11; refine (bits_any _ _ _ _ _).mono ?_; rintro e w' ⟨rfl, rfl⟩))
    go_ret
    refine ⟨rfl, ?_⟩
    repeat (first | exact Below.refl _ _ | refine bal ?_ | refine below_drewN ?_ _)

set_option maxRecDepth 100000 in
set_option maxHeartbeats 2000000 in
theorem makes_m1 (x y : Int) (r : Bool) (n1 n2 : Int) (w : World) (h1 : n1 < -16777216) :
    Calls Tryd.prog 3 #[.agg #[.int .i64 x, .int .i64 y, .bool r], .int .i64 n1, .int .i64 n2] w fun e w' => e = .returned (.bool true) ∧ Below w.heap.size w w' := by
  have l1 := zb_lt r x
  have l2 := zb_lt r y
  have sr := same_refl
  by_cases hv : vc (zb r x) (zb r y) = true
  · have e1 : ofX (zb r x) (zb r y) = nb (zb r x) := by unfold ofX; rw [hv]; rfl
    have e2 : ofY (zb r x) (zb r y) = nb (zb r y) := by unfold ofY; rw [hv]; rfl
    go_enter Tryd.func3, Tryd.ntmps3
    go_wp2_with (first
      | (go_at_call 9; refine (awake_any _).mono ?_; rintro e w' ⟨rfl, rfl⟩)
      | (go_at_call 10; refine (make_no _ _ _ (by omega)).mono ?_; rintro e w' ⟨rfl, rfl⟩)
      | (go_at_call 13; refine (z_any _ _ _ _).mono ?_; rintro e w' ⟨rfl, n, rfl⟩)
      | (go_at_call 12; refine (of_any _ _ _ (by assumption) (by assumption)).mono ?_; rintro e w' ⟨rfl, rfl⟩)
      | (go_at_call 14; refine (parts_w _ _ _ (by assumption)).mono ?_; rintro e w' ⟨rfl, rfl⟩)
      | (go_at_call 15; refine (valid_vc _ _ _ (by assumption) (by assumption)).mono ?_; rintro e w' ⟨rfl, rfl⟩)
      | (go_at_call 11; refine (bits_any _ _ _ _ _).mono ?_; rintro e w' ⟨rfl, rfl⟩))
    go_ret
    refine ⟨rfl, ?_⟩
    repeat (first | exact Below.refl _ _ | refine bal ?_ | refine below_drewN ?_ _)
  · have hv' : vc (zb r x) (zb r y) = false := by simpa using hv
    clear hv
    have e1 : ofX (zb r x) (zb r y) = 0 := by unfold ofX; rw [hv']; rfl
    have e2 : ofY (zb r x) (zb r y) = 0 := by unfold ofY; rw [hv']; rfl
    go_enter Tryd.func3, Tryd.ntmps3
    go_wp2_with (first
      | (go_at_call 9; refine (awake_any _).mono ?_; rintro e w' ⟨rfl, rfl⟩)
      | (go_at_call 10; refine (make_no _ _ _ (by omega)).mono ?_; rintro e w' ⟨rfl, rfl⟩)
      | (go_at_call 13; refine (z_any _ _ _ _).mono ?_; rintro e w' ⟨rfl, n, rfl⟩)
      | (go_at_call 12; refine (of_any _ _ _ (by assumption) (by assumption)).mono ?_; rintro e w' ⟨rfl, rfl⟩)
      | (go_at_call 14; refine (parts_no _ _ _ (by assumption) (by assumption) (by assumption)).mono ?_; rintro e w' ⟨rfl, rfl⟩)
      | (go_at_call 15; refine (valid_vc _ _ _ (by assumption) (by assumption)).mono ?_; rintro e w' ⟨rfl, rfl⟩)
      | (go_at_call 11; refine (bits_any _ _ _ _ _).mono ?_; rintro e w' ⟨rfl, rfl⟩))
    go_ret
    refine ⟨rfl, ?_⟩
    repeat (first | exact Below.refl _ _ | refine bal ?_ | refine below_drewN ?_ _)

set_option maxRecDepth 100000 in
set_option maxHeartbeats 2000000 in
theorem makes_m2 (x y : Int) (r : Bool) (n1 n2 : Int) (w : World) (h1 : -16777216 ≤ n1) (h2 : 16777216 < n1) :
    Calls Tryd.prog 3 #[.agg #[.int .i64 x, .int .i64 y, .bool r], .int .i64 n1, .int .i64 n2] w fun e w' => e = .returned (.bool true) ∧ Below w.heap.size w w' := by
  have l1 := zb_lt r x
  have l2 := zb_lt r y
  have sr := same_refl
  by_cases hv : vc (zb r x) (zb r y) = true
  · have e1 : ofX (zb r x) (zb r y) = nb (zb r x) := by unfold ofX; rw [hv]; rfl
    have e2 : ofY (zb r x) (zb r y) = nb (zb r y) := by unfold ofY; rw [hv]; rfl
    go_enter Tryd.func3, Tryd.ntmps3
    go_wp2_with (first
      | (go_at_call 9; refine (awake_any _).mono ?_; rintro e w' ⟨rfl, rfl⟩)
      | (go_at_call 10; refine (make_no _ _ _ (by omega)).mono ?_; rintro e w' ⟨rfl, rfl⟩)
      | (go_at_call 13; refine (z_any _ _ _ _).mono ?_; rintro e w' ⟨rfl, n, rfl⟩)
      | (go_at_call 12; refine (of_any _ _ _ (by assumption) (by assumption)).mono ?_; rintro e w' ⟨rfl, rfl⟩)
      | (go_at_call 14; refine (parts_w _ _ _ (by assumption)).mono ?_; rintro e w' ⟨rfl, rfl⟩)
      | (go_at_call 15; refine (valid_vc _ _ _ (by assumption) (by assumption)).mono ?_; rintro e w' ⟨rfl, rfl⟩)
      | (go_at_call 11; refine (bits_any _ _ _ _ _).mono ?_; rintro e w' ⟨rfl, rfl⟩))
    go_ret
    refine ⟨rfl, ?_⟩
    repeat (first | exact Below.refl _ _ | refine bal ?_ | refine below_drewN ?_ _)
  · have hv' : vc (zb r x) (zb r y) = false := by simpa using hv
    clear hv
    have e1 : ofX (zb r x) (zb r y) = 0 := by unfold ofX; rw [hv']; rfl
    have e2 : ofY (zb r x) (zb r y) = 0 := by unfold ofY; rw [hv']; rfl
    go_enter Tryd.func3, Tryd.ntmps3
    go_wp2_with (first
      | (go_at_call 9; refine (awake_any _).mono ?_; rintro e w' ⟨rfl, rfl⟩)
      | (go_at_call 10; refine (make_no _ _ _ (by omega)).mono ?_; rintro e w' ⟨rfl, rfl⟩)
      | (go_at_call 13; refine (z_any _ _ _ _).mono ?_; rintro e w' ⟨rfl, n, rfl⟩)
      | (go_at_call 12; refine (of_any _ _ _ (by assumption) (by assumption)).mono ?_; rintro e w' ⟨rfl, rfl⟩)
      | (go_at_call 14; refine (parts_no _ _ _ (by assumption) (by assumption) (by assumption)).mono ?_; rintro e w' ⟨rfl, rfl⟩)
      | (go_at_call 15; refine (valid_vc _ _ _ (by assumption) (by assumption)).mono ?_; rintro e w' ⟨rfl, rfl⟩)
      | (go_at_call 11; refine (bits_any _ _ _ _ _).mono ?_; rintro e w' ⟨rfl, rfl⟩))
    go_ret
    refine ⟨rfl, ?_⟩
    repeat (first | exact Below.refl _ _ | refine bal ?_ | refine below_drewN ?_ _)

set_option maxRecDepth 100000 in
set_option maxHeartbeats 2000000 in
theorem makes_m3 (x y : Int) (r : Bool) (n1 n2 : Int) (w : World) (h1 : -16777216 ≤ n1) (h2 : n1 ≤ 16777216) (h3 : n2 < -16777216) :
    Calls Tryd.prog 3 #[.agg #[.int .i64 x, .int .i64 y, .bool r], .int .i64 n1, .int .i64 n2] w fun e w' => e = .returned (.bool true) ∧ Below w.heap.size w w' := by
  have l1 := zb_lt r x
  have l2 := zb_lt r y
  have sr := same_refl
  by_cases hv : vc (zb r x) (zb r y) = true
  · have e1 : ofX (zb r x) (zb r y) = nb (zb r x) := by unfold ofX; rw [hv]; rfl
    have e2 : ofY (zb r x) (zb r y) = nb (zb r y) := by unfold ofY; rw [hv]; rfl
    go_enter Tryd.func3, Tryd.ntmps3
    go_wp2_with (first
      | (go_at_call 9; refine (awake_any _).mono ?_; rintro e w' ⟨rfl, rfl⟩)
      | (go_at_call 10; refine (make_no _ _ _ (by omega)).mono ?_; rintro e w' ⟨rfl, rfl⟩)
      | (go_at_call 13; refine (z_any _ _ _ _).mono ?_; rintro e w' ⟨rfl, n, rfl⟩)
      | (go_at_call 12; refine (of_any _ _ _ (by assumption) (by assumption)).mono ?_; rintro e w' ⟨rfl, rfl⟩)
      | (go_at_call 14; refine (parts_w _ _ _ (by assumption)).mono ?_; rintro e w' ⟨rfl, rfl⟩)
      | (go_at_call 15; refine (valid_vc _ _ _ (by assumption) (by assumption)).mono ?_; rintro e w' ⟨rfl, rfl⟩)
      | (go_at_call 11; refine (bits_any _ _ _ _ _).mono ?_; rintro e w' ⟨rfl, rfl⟩))
    go_ret
    refine ⟨rfl, ?_⟩
    repeat (first | exact Below.refl _ _ | refine bal ?_ | refine below_drewN ?_ _)
  · have hv' : vc (zb r x) (zb r y) = false := by simpa using hv
    clear hv
    have e1 : ofX (zb r x) (zb r y) = 0 := by unfold ofX; rw [hv']; rfl
    have e2 : ofY (zb r x) (zb r y) = 0 := by unfold ofY; rw [hv']; rfl
    go_enter Tryd.func3, Tryd.ntmps3
    go_wp2_with (first
      | (go_at_call 9; refine (awake_any _).mono ?_; rintro e w' ⟨rfl, rfl⟩)
      | (go_at_call 10; refine (make_no _ _ _ (by omega)).mono ?_; rintro e w' ⟨rfl, rfl⟩)
      | (go_at_call 13; refine (z_any _ _ _ _).mono ?_; rintro e w' ⟨rfl, n, rfl⟩)
      | (go_at_call 12; refine (of_any _ _ _ (by assumption) (by assumption)).mono ?_; rintro e w' ⟨rfl, rfl⟩)
      | (go_at_call 14; refine (parts_no _ _ _ (by assumption) (by assumption) (by assumption)).mono ?_; rintro e w' ⟨rfl, rfl⟩)
      | (go_at_call 15; refine (valid_vc _ _ _ (by assumption) (by assumption)).mono ?_; rintro e w' ⟨rfl, rfl⟩)
      | (go_at_call 11; refine (bits_any _ _ _ _ _).mono ?_; rintro e w' ⟨rfl, rfl⟩))
    go_ret
    refine ⟨rfl, ?_⟩
    repeat (first | exact Below.refl _ _ | refine bal ?_ | refine below_drewN ?_ _)

set_option maxRecDepth 100000 in
set_option maxHeartbeats 2000000 in
theorem makes_m4 (x y : Int) (r : Bool) (n1 n2 : Int) (w : World) (h1 : -16777216 ≤ n1) (h2 : n1 ≤ 16777216) (h3 : -16777216 ≤ n2) (h4 : 16777216 < n2) :
    Calls Tryd.prog 3 #[.agg #[.int .i64 x, .int .i64 y, .bool r], .int .i64 n1, .int .i64 n2] w fun e w' => e = .returned (.bool true) ∧ Below w.heap.size w w' := by
  have l1 := zb_lt r x
  have l2 := zb_lt r y
  have sr := same_refl
  by_cases hv : vc (zb r x) (zb r y) = true
  · have e1 : ofX (zb r x) (zb r y) = nb (zb r x) := by unfold ofX; rw [hv]; rfl
    have e2 : ofY (zb r x) (zb r y) = nb (zb r y) := by unfold ofY; rw [hv]; rfl
    go_enter Tryd.func3, Tryd.ntmps3
    go_wp2_with (first
      | (go_at_call 9; refine (awake_any _).mono ?_; rintro e w' ⟨rfl, rfl⟩)
      | (go_at_call 10; refine (make_no _ _ _ (by omega)).mono ?_; rintro e w' ⟨rfl, rfl⟩)
      | (go_at_call 13; refine (z_any _ _ _ _).mono ?_; rintro e w' ⟨rfl, n, rfl⟩)
      | (go_at_call 12; refine (of_any _ _ _ (by assumption) (by assumption)).mono ?_; rintro e w' ⟨rfl, rfl⟩)
      | (go_at_call 14; refine (parts_w _ _ _ (by assumption)).mono ?_; rintro e w' ⟨rfl, rfl⟩)
      | (go_at_call 15; refine (valid_vc _ _ _ (by assumption) (by assumption)).mono ?_; rintro e w' ⟨rfl, rfl⟩)
      | (go_at_call 11; refine (bits_any _ _ _ _ _).mono ?_; rintro e w' ⟨rfl, rfl⟩))
    go_ret
    refine ⟨rfl, ?_⟩
    repeat (first | exact Below.refl _ _ | refine bal ?_ | refine below_drewN ?_ _)
  · have hv' : vc (zb r x) (zb r y) = false := by simpa using hv
    clear hv
    have e1 : ofX (zb r x) (zb r y) = 0 := by unfold ofX; rw [hv']; rfl
    have e2 : ofY (zb r x) (zb r y) = 0 := by unfold ofY; rw [hv']; rfl
    go_enter Tryd.func3, Tryd.ntmps3
    go_wp2_with (first
      | (go_at_call 9; refine (awake_any _).mono ?_; rintro e w' ⟨rfl, rfl⟩)
      | (go_at_call 10; refine (make_no _ _ _ (by omega)).mono ?_; rintro e w' ⟨rfl, rfl⟩)
      | (go_at_call 13; refine (z_any _ _ _ _).mono ?_; rintro e w' ⟨rfl, n, rfl⟩)
      | (go_at_call 12; refine (of_any _ _ _ (by assumption) (by assumption)).mono ?_; rintro e w' ⟨rfl, rfl⟩)
      | (go_at_call 14; refine (parts_no _ _ _ (by assumption) (by assumption) (by assumption)).mono ?_; rintro e w' ⟨rfl, rfl⟩)
      | (go_at_call 15; refine (valid_vc _ _ _ (by assumption) (by assumption)).mono ?_; rintro e w' ⟨rfl, rfl⟩)
      | (go_at_call 11; refine (bits_any _ _ _ _ _).mono ?_; rintro e w' ⟨rfl, rfl⟩))
    go_ret
    refine ⟨rfl, ?_⟩
    repeat (first | exact Below.refl _ _ | refine bal ?_ | refine below_drewN ?_ _)

theorem makes_any (x y : Int) (r : Bool) (n1 n2 : Int) (w : World) :
    Calls Tryd.prog 3 #[.agg #[.int .i64 x, .int .i64 y, .bool r], .int .i64 n1, .int .i64 n2] w fun e w' => e = .returned (.bool true) ∧ Below w.heap.size w w' := by
  by_cases h1 : n1 < -16777216
  · exact makes_m1 x y r n1 n2 w h1
  · by_cases h2 : 16777216 < n1
    · exact makes_m2 x y r n1 n2 w (by omega) h2
    · by_cases h3 : n2 < -16777216
      · exact makes_m3 x y r n1 n2 w (by omega) (by omega) h3
      · by_cases h4 : 16777216 < n2
        · exact makes_m4 x y r n1 n2 w (by omega) (by omega) (by omega) h4
        · exact makes_yes x y r n1 n2 w (by omega) (by omega) (by omega) (by omega)
end Go.Proofs.YtmmcpganhfflmaaDoor
