/-
  The walk of Parse at a text that no number has, and of Text at what is no number.
-/
import Derived.Test.YtbgggbkmnfppoaaGreatDoorLb
namespace Go.Proofs.YtbgggbkmnfppoaaGreatDoor
open Go.RowKit
open Go.Lib
set_option maxRecDepth 100000

set_option maxHeartbeats 1000000 in
theorem parse_no (l : List UInt8) (hl : l.length ≤ 281474976710656) (hn : Hid (∀ p q : Int, p.natAbs ≤ 16777216 → q.natAbs ≤ 16777216 → ((bs (txt p q)).toList == (bs l).toList) = false)) (w : World) (hE : Env w) :
    Calls Tryz.prog 31 #[.string (bs l)] w fun e w' => e = .returned (.tuple #[.complex .f64 0 0, .int .i64 10]) ∧ Below w.heap.size w w' := by
  go_enter Tryz.func31, Tryz.ntmps31
  go_wp2_with fail
  refine (halves_any l hl _ hE).mono ?_
  rintro e w1 ⟨re, im, rfl, hre, him, hb1⟩
  have hE1 := env_keep hE hb1
  clear hE hl
  go_wp2_with fail
  refine (atoi_any re hre _ hE1).mono ?_
  rintro e w2 ⟨⟨x, v, rfl, hv⟩, hb2⟩
  have hE2 := env_keep hE1 hb2
  have hB2 := hb1.trans (hb2.mono hb1.size)
  clear hE1 hb1 hb2 hre
  go_wp2_with fail
  refine (atoi_any im him _ hE2).mono ?_
  rintro e w3 ⟨⟨y, u, rfl, hu⟩, hb3⟩
  have hE3 := env_keep hE2 hb3
  have hB3 := hB2.trans (hb3.mono hB2.size)
  clear hE2 hB2 hb3 him
  rcases hv with rfl | ⟨t, p, rfl⟩
  · rcases hu with rfl | ⟨t, p, rfl⟩
    · by_cases ho : x.natAbs ≤ 16777216 ∧ y.natAbs ≤ 16777216
      · obtain ⟨hx, hy⟩ := ho
        have hT := hn.out x y hx hy
        clear hn
        go_wp2_with fail
        refine (make_yes x y _ hx hy).mono ?_
        rintro e w' ⟨rfl, hw'⟩
        rw [hw']
        clear hw'
        go_wp2_with fail
        refine (text_w x y _ hE3.tab hx hy).mono ?_
        rintro e w4 ⟨rfl, hb4⟩
        go_wp2_with fail
        go_ret2
        exact ⟨rfl, hB3.trans (hb4.mono hB3.size)⟩
      · clear hn
        go_wp2_with fail
        refine (make_no x y _ (by omega)).mono ?_
        rintro e w' ⟨rfl, hw'⟩
        rw [hw']
        clear hw'
        go_wp2_with fail
        go_ret2
        exact ⟨rfl, hB3⟩
    · clear hn
      go_wp2_with fail
      go_ret2
      exact ⟨rfl, hB3⟩
  · clear hn
    go_wp2_with fail
    go_ret2
    exact ⟨rfl, hB3⟩

set_option maxHeartbeats 400000 in
theorem text_no (a b : Nat) (w : World) (ha : a < 2 ^ 64) (hb : b < 2 ^ 64) (hv : vc a b = false) :
    Calls Tryz.prog 23 #[.complex .f64 a b] w fun e w' => e = .returned (.tuple #[.string ByteArray.empty, .int .i64 3]) ∧ w' = w := by
  go_enter Tryz.func23, Tryz.ntmps23
  go_wp2_with fail
  refine (parts_no a b _ ha hb hv).mono ?_
  rintro e w' ⟨rfl, rfl⟩
  go_wp2_with fail
  go_ret2
  exact ⟨rfl, rfl⟩

theorem parse_any (l : List UInt8) (hl : l.length ≤ 281474976710656) (w : World) (hE : Env w) :
    Calls Tryz.prog 31 #[.string (bs l)] w fun e w' => e = .returned (.tuple #[.complex .f64 (fl (rdP l)) (fl (rdQ l)), .int .i64 (rdE l)]) ∧ Below w.heap.size w w' := by
  unfold rdP rdQ rdE
  by_cases h : rdOk l = true
  · have h' := h
    unfold rdOk at h'
    obtain ⟨_, b1, b2, ht⟩ := of_decide_eq_true h'
    rw [h]
    have := parse_w (rdX l) (rdY l) w hE.tab b1 b2
    rw [ht] at this
    exact this
  · have h' : rdOk l = false := by simpa using h
    rw [h']
    refine parse_no l hl ?_ w hE
    intro p q hp hq
    rw [bs_toList, bs_toList, beq_eq_false_iff_ne]
    intro e
    apply h
    rw [← e]
    exact (rd_txt p q hp hq).2.2
end Go.Proofs.YtbgggbkmnfppoaaGreatDoor
