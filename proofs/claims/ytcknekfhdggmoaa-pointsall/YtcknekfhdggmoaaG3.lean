/-
  The walks of awake and PointsRise.
-/
import Derived.Test.YtcknekfhdggmoaaG2
namespace Go.Proofs.Ytcknekfhdggmoaa
open Go.RowKit
open Go.Lib
set_option maxRecDepth 100000

set_option maxHeartbeats 2000000 in
theorem awake15_any (w : World) :
    Calls Try.prog 6 #[] w fun e w' => e = .returned (.bool true) ∧ Below w.heap.size w w' := by
  have h1 := fun W => cons_good 0 3 (.inl rfl) (by decide) W
  have h2 := fun W => top_any 3 W
  have h3 := fun W => cases_any 2 W
  have h4 := fun W => word_any 3 2 W
  have h5 := fun W => check_any 2 2 W
  rw [show consP 0 3 = 2 from by decide] at h1
  rw [show topV 3 = 3 from by decide, show topE 3 = 0 from by decide] at h2
  rw [show csP 2 = [⟨false, 0, 3⟩, ⟨false, 1, 2⟩] from by decide, show chkP 3 2 = 0 from by decide] at h3
  rw [show wdP 3 2 = ⟨#[104, 111, 108, 101, 100]⟩ from by kernel_rfl, show chkP 3 2 = 0 from by decide] at h4
  rw [show chkP 2 2 = 2 from by decide] at h5
  go_enter Try.func6, Try.ntmps6
  go_wp2_with fail
  refine (h1 _).mono ?_
  rintro e w1 ⟨rfl, hb1⟩
  go_wp2_with fail
  refine (h2 _).mono ?_
  rintro e w2 ⟨rfl, hb2⟩
  go_wp2_with fail
  refine (h3 _).mono ?_
  rintro e w3 ⟨v, rfl, hv, hb3⟩
  go_wp2_with fail
  refine (h4 _).mono ?_
  rintro e w4 ⟨rfl, hb4⟩
  obtain ⟨ao, rfl, hc⟩ := hv.up hb4
  obtain ⟨b, o, rfl, c0, c1, c2⟩ := hc 0 (by decide)
  have C : Hid (Below w.heap.size w w4) := Below.thn hb1 (Below.thn hb2 (Below.thn hb3 hb4))
  simp only [Nat.zero_mul, Nat.add_zero, List.getD_cons_zero, List.length_cons, List.length_nil, Nat.zero_add, Nat.reduceAdd] at c0 c1 c2 ⊢
  clear hc hv hb1 hb2 hb3 hb4 h1 h2 h3 h4
  go_wp2_with fail
  refine (h5 _).mono ?_
  rintro e w5 ⟨rfl, hb5⟩
  go_wp2
  go_ret
  exact ⟨rfl, Below.thn C.out hb5⟩
end Go.Proofs.Ytcknekfhdggmoaa
