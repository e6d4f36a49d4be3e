/-
  The walk of the calls whose answers the document fixes.
-/
import Derived.Test.YtbgggbkmnfppoaaGreatDoorWb
namespace Go.Proofs.YtbgggbkmnfppoaaGreatDoor
open Go.RowKit
open Ieee

set_option maxHeartbeats 400000 in
theorem parts_any (p q : Int) (w : World) (hp : p.natAbs ≤ 16777216) (hq : q.natAbs ≤ 16777216) :
    Calls Tryz.prog 42 #[.complex .f64 (fl p) (fl q)] w fun e w' => e = .returned (.tuple #[.int .i64 p, .int .i64 q, .int .i64 0]) ∧ w' = w := by
  have l1 := fl_lt p (by omega)
  have l2 := fl_lt q (by omega)
  have hv : vc (fl p) (fl q) = true := by unfold vc; rw [vp_fl p hp, vp_fl q hq]; rfl
  have c1 := rep_toInt (rep_fl p (by omega)) (by omega)
  have c2 := rep_toInt (rep_fl q (by omega)) (by omega)
  have q1 : ∀ w, (convert 79 3 (.float .f64 (fl p))).run Tryz.prog w = .ok (.int .i64 p) w := fun w => run_convert_float_int w 79 3 .f64 .i64 (fl p) p (by rw [Tryz.underlying79]; rfl) Tryz.underlying3 c1
  have q2 : ∀ w, (convert 79 3 (.float .f64 (fl q))).run Tryz.prog w = .ok (.int .i64 q) w := fun w => run_convert_float_int w 79 3 .f64 .i64 (fl q) q (by rw [Tryz.underlying79]; rfl) Tryz.underlying3 c2
  clear c1 c2 hp hq
  go_enter Tryz.func42, Tryz.ntmps42
  go_wp2_with (go_at_call 39; refine (valid_vc _ _ _ (by assumption) (by assumption)).mono ?_; rintro e w' ⟨rfl, rfl⟩)
  go_ret3
  exact ⟨rfl, rfl⟩

set_option maxHeartbeats 400000 in
theorem small_two (w : World) :
    Calls Tryz.prog 97 #[.int .i64 2] w fun e w' => e = .returned (.string ⟨#[50]⟩) ∧ w' = w := by
  go_enter Tryz.func97, Tryz.ntmps97
  go_wp2
  go_ret
  exact ⟨rfl, rfl⟩

set_option maxRecDepth 100000 in
set_option maxHeartbeats 400000 in
theorem small_more (w : World) :
    Calls Tryz.prog 97 #[.int .i64 23] w fun e w' => e = .returned (.string ⟨#[50, 51]⟩) ∧ w' = w := by
  go_enter Tryz.func97, Tryz.ntmps97
  go_wp2
  go_ret
  exact ⟨rfl, rfl⟩

set_option maxHeartbeats 400000 in
theorem itoa_of (n : Int) (h0 : 0 ≤ n) (h1 : n < 100) (s : ByteArray) (hs : ∀ w, Calls Tryz.prog 97 #[.int .i64 n] w fun e w' => e = .returned (.string s) ∧ w' = w) (w : World) :
    Calls Tryz.prog 43 #[.int .i64 n] w fun e w' => e = .returned (.string s) ∧ w' = w := by
  have hs' : Hid (∀ w, Calls Tryz.prog 97 #[.int .i64 n] w fun e w' => e = .returned (.string s) ∧ w' = w) := hs
  clear hs
  go_enter Tryz.func43, Tryz.ntmps43
  go_wp2_with (first | (go_at_call 97; refine (hs'.out _).mono ?_; rintro e w' ⟨rfl, rfl⟩) | (go_at_call 60; go_in) | (go_at_call 77; go_in))
  go_ret
  exact ⟨rfl, rfl⟩

theorem itoa_two (w : World) : Calls Tryz.prog 43 #[.int .i64 2] w fun e w' => e = .returned (.string ⟨#[50]⟩) ∧ w' = w :=
  itoa_of 2 (by decide) (by decide) _ small_two w
theorem itoa_more (w : World) : Calls Tryz.prog 43 #[.int .i64 23] w fun e w' => e = .returned (.string ⟨#[50, 51]⟩) ∧ w' = w :=
  itoa_of 23 (by decide) (by decide) _ small_more w

theorem parts_fixed (w : World) : Calls Tryz.prog 42 #[.complex .f64 4627167142146473984 4611686018427387904] w fun e w' => e = .returned (.tuple #[.int .i64 23, .int .i64 2, .int .i64 0]) ∧ w' = w := by
  have e1 : (4627167142146473984 : Nat) = fl 23 := by decide
  have e2 : (4611686018427387904 : Nat) = fl 2 := by decide
  rw [e1, e2]
  exact parts_any 23 2 w (by decide) (by decide)

set_option maxRecDepth 100000 in
set_option maxHeartbeats 400000 in
theorem text_fixed (w : World) :
    Calls Tryz.prog 23 #[.complex .f64 4627167142146473984 4611686018427387904] w fun e w' => e = .returned (.tuple #[.string ⟨#[50, 51, 43, 50, 105]⟩, .int .i64 0]) ∧ w' = w := by
  go_enter Tryz.func23, Tryz.ntmps23
  go_wp2_with (go_at_call 42; refine (parts_fixed _).mono ?_; rintro e w' ⟨rfl, rfl⟩)
  refine (itoa_two _).mono ?_
  rintro e w' ⟨rfl, rfl⟩
  go_wp2_with fail
  refine (itoa_more _).mono ?_
  rintro e w' ⟨rfl, rfl⟩
  go_wp2_with fail
  go_ret2
  exact ⟨rfl, rfl⟩

end Go.Proofs.YtbgggbkmnfppoaaGreatDoor
