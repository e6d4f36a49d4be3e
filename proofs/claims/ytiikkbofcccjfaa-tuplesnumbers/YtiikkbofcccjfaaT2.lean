/-
  How many tuples there are: the program's Count and the document's.
-/
import Derived.Test.YtiikkbofcccjfaaT1
namespace Go.Proofs.Ytiikkbofcccjfaa
open Go.RowKit
open Go.Lib
open RowsM
set_option maxRecDepth 100000

theorem ret_ii {a b : Int} {x y : Int} (h : b = a) (g : y = x) : Ending.returned (.tuple #[.int .i64 a, .int .i64 x]) = .returned (.tuple #[.int .i64 b, .int .i64 y]) := by rw [h, g]

theorem mul_rng {n s : Int} (h0 : 1 ≤ n) (h1 : n ≤ 4096) (s0 : 2 ≤ s) (s1 : s ≤ 4) : n < n * s ∧ n * s ≤ 16384 := by
  have a := Int.mul_le_mul_of_nonneg_left s0 (show 0 ≤ n by omega)
  have b := Int.mul_le_mul_of_nonneg_left s1 (show 0 ≤ n by omega)
  omega

/-- What the first k types come to, while they are multiplied. -/
def cntI (ks : List Int) (k : Nat) (n : Int) : Prop := okTs (ks.take k) = true ∧ (n ≤ 4096 → n = prodT (ks.take k)) ∧ (4096 < n → 4096 < prodT (ks.take k))

theorem cntI_zero (ks : List Int) : cntI ks 0 1 := ⟨rfl, fun _ => rfl, fun h => by omega⟩
theorem cntI_more {ks : List Int} {k : Nat} {n : Int} (h : cntI ks k n) (hk : k < ks.length) (h0 : 0 ≤ topP (ks.getD k 0)) (hn : n ≤ 4096) : cntI ks (k + 1) (n * (topP (ks.getD k 0) + 1)) := by
  refine ⟨okTs_take hk h.1 h0, fun _ => ?_, fun h4 => ?_⟩
  · rw [prodT_take hk, ← h.2.1 hn]
  · rw [prodT_take hk, ← h.2.1 hn]; exact h4
theorem cntI_stay {ks : List Int} {k : Nat} {n : Int} (h : cntI ks k n) (hk : k < ks.length) (h0 : 0 ≤ topP (ks.getD k 0)) (hn : 4096 < n) : cntI ks (k + 1) n := by
  refine ⟨okTs_take hk h.1 h0, fun h4 => by omega, fun _ => ?_⟩
  rw [prodT_take hk]
  have h1 := h.2.2 hn
  have h2 := (sz_pos h0).1
  have := Int.mul_le_mul (Int.le_refl (prodT (ks.take k))) (show 1 ≤ topP (ks.getD k 0) + 1 by omega) (by omega) (by omega)
  omega
theorem cntI_end {ks : List Int} {n : Int} (h : cntI ks ks.length n) : (n ≤ 4096 → cntV ks = n ∧ cntE ks = 0) ∧ (4096 < n → cntV ks = 0 ∧ cntE ks = 22) := by
  obtain ⟨h1, h2, h3⟩ := h
  rw [List.take_length] at h1 h2 h3
  refine ⟨fun hn => ?_, fun hn => ?_⟩
  · have e := h2 hn
    have := cntE_yes h1 (by omega)
    exact ⟨by rw [cntV_zero this, e], this⟩
  · have := cntE_big h1 (h3 hn)
    exact ⟨cntV_no (by omega), this⟩

set_option maxHeartbeats 1000000 in
theorem count16_any (ks : List Int) (ao : Option Addr) (ca : Nat) (w : World) (h : Iz w ao ks) (hl : ks.length ≤ 17592186043904) :
    Calls Try.prog 10 #[.slice ao ks.length ca] w fun e w' => e = .returned (.tuple #[.int .i64 (cntV ks), .int .i64 (cntE ks)]) ∧ Below w.heap.size w w' := by
  obtain ⟨V, hV⟩ : ∃ V, V = cntV ks := ⟨_, rfl⟩
  obtain ⟨E, hE⟩ : ∃ E, E = cntE ks := ⟨_, rfl⟩
  rw [← hV, ← hE]
  have HV : Hid (V = cntV ks) := hV
  have HE : Hid (E = cntE ks) := hE
  clear hV hE
  go_enter Try.func10, Try.ntmps10
  go_wp2
  go_loopw [4, 9] (fun a i wr => ∃ k : Nat, k ≤ ks.length ∧ i = .int .i64 k ∧ ∃ n : Int, a = .int .i64 n ∧ 1 ≤ n ∧ n ≤ 16384 ∧ Below w.heap.size w wr ∧ Hid (cntI ks k n)) (fun _ i _ => ks.length - (intOf i).toNat)
  case atStart => exact ⟨0, Nat.zero_le _, rfl, 1, rfl, by omega, by omega, Below.refl _ _, cntI_zero ks⟩
  case round =>
    obtain ⟨k, hk, rfl, n, rfl, n0, n1, hb, HC⟩ := hrel
    by_cases hlt : k < ks.length
    · have hI := h.up hb
      obtain ⟨b, off, rfl, hc⟩ := hI (by intro e; subst e; simp at hlt)
      obtain ⟨t, hte⟩ : ∃ t, t = ks.getD k 0 := ⟨_, rfl⟩
      have hct := hc k hlt
      rw [← hte] at hct
      have hT : Hid (t = ks.getD k 0) := hte
      have hit := isType_any t wr
      clear hI hc hte
      by_cases h0 : 0 ≤ topP t
      · rw [decide_eq_true h0] at hit
        by_cases hn : n ≤ 4096
        · obtain ⟨s, hse⟩ : ∃ s, s = topP t + 1 := ⟨_, rfl⟩
          have hs := sz_pos h0
          rw [← hse] at hs
          obtain ⟨hm1, hm2⟩ := mul_rng n0 hn hs.1 hs.2
          have hsz := fun w1 => size_any t w1 h0
          rw [← hse] at hsz
          have hnx : Hid (cntI ks (k + 1) (n * s)) := by
            rw [hse, show t = _ from hT]
            exact cntI_more HC hlt (by rw [← show t = _ from hT]; exact h0) hn
          obtain ⟨hs0, hs1⟩ := hs
          clear hse hT h0 HC h
          go_wp2_with fail
          refine hit.mono ?_
          rintro e w1 ⟨rfl, rfl⟩
          have hb2 := hb
          clear hit hct
          go_wp2_with fail
          refine (hsz _).mono ?_
          rintro e w2 ⟨rfl, rfl⟩
          have hb4 := hb2
          clear hsz hb
          go_wp2
          go_roundw
          case rel => exact ⟨k + 1, by omega, by go_num, n * s, by go_num, by omega, by omega, hb4, hnx⟩
          case measure => simp [intOf]; omega
        · have hnx : Hid (cntI ks (k + 1) n) := cntI_stay HC hlt (by rw [← show t = _ from hT]; exact h0) (by omega)
          clear hT h0 HC h
          go_wp2_with fail
          refine hit.mono ?_
          rintro e w1 ⟨rfl, rfl⟩
          have hb2 := hb
          clear hit hct
          go_wp2
          go_roundw
          case rel => exact ⟨k + 1, by omega, by go_num, n, rfl, by omega, by omega, hb2, hnx⟩
          case measure => simp [intOf]; omega
      · rw [decide_eq_false h0] at hit
        have hE := cntE_no (okTs_no hlt (by rw [← show t = _ from hT]; omega))
        have hV := cntV_no (ks := ks) (by omega)
        rw [← show V = _ from HV] at hV
        rw [← show E = _ from HE] at hE
        subst hV hE
        clear hT h0 HC h HV HE
        go_wp2_with fail
        refine hit.mono ?_
        rintro e w1 ⟨rfl, rfl⟩
        have hb2 := hb
        clear hit hct
        go_wp2
        go_ret2
        exact ⟨rfl, hb2⟩
    · obtain rfl : k = ks.length := by omega
      obtain ⟨he1, he2⟩ := cntI_end HC
      by_cases hn : n ≤ 4096
      · obtain ⟨hV, hE⟩ := he1 hn
        rw [← show V = _ from HV] at hV
        rw [← show E = _ from HE] at hE
        subst hV hE
        clear he1 he2 HC h HV HE
        go_wp2
        go_ret2
        exact ⟨rfl, hb⟩
      · obtain ⟨hV, hE⟩ := he2 (by omega)
        rw [← show V = _ from HV] at hV
        rw [← show E = _ from HE] at hE
        subst hV hE
        clear he1 he2 HC h HV HE
        go_wp2
        go_ret2
        exact ⟨rfl, hb⟩

theorem okTs_all {ks : List Int} (h : okTs (ks.take ks.length) = true) : okTs ks = true := by rwa [List.take_length] at h

set_option maxHeartbeats 1000000 in
theorem rcount_any (ks : List Int) (ao : Option Addr) (ca : Nat) (w : World) (h : Iz w ao ks) (hl : ks.length ≤ 17592186043904) :
    Calls Try.prog 11 #[.slice ao ks.length ca] w fun e w' => e = .returned (.tuple #[.int .i64 (cntV ks), .int .i64 (cntE ks)]) ∧ Below w.heap.size w w' := by
  obtain ⟨V, hV⟩ : ∃ V, V = cntV ks := ⟨_, rfl⟩
  obtain ⟨E, hE⟩ : ∃ E, E = cntE ks := ⟨_, rfl⟩
  rw [← hV, ← hE]
  have HV : Hid (V = cntV ks) := hV
  have HE : Hid (E = cntE ks) := hE
  clear hV hE
  go_enter Try.func11, Try.ntmps11
  go_wp2
  go_loopw [4] (fun i wr => ∃ k : Nat, k ≤ ks.length ∧ i = .int .i64 k ∧ Below w.heap.size w wr ∧ Hid (okTs (ks.take k) = true)) (fun i _ => ks.length - (intOf i).toNat)
  case atStart => exact ⟨0, Nat.zero_le _, rfl, Below.refl _ _, rfl⟩
  case round =>
    obtain ⟨k, hk, rfl, hb, HC⟩ := hrel
    by_cases hlt : k < ks.length
    · have hI := h.up hb
      obtain ⟨b, off, rfl, hc⟩ := hI (by intro e; subst e; simp at hlt)
      obtain ⟨t, hte⟩ : ∃ t, t = ks.getD k 0 := ⟨_, rfl⟩
      have hct := hc k hlt
      rw [← hte] at hct
      have hT : Hid (t = ks.getD k 0) := hte
      have hit := rtop_any t wr
      clear hI hc hte
      by_cases h0 : 0 ≤ topP t
      · have hnx : Hid (okTs (ks.take (k + 1)) = true) := okTs_take hlt HC (by rw [← show t = _ from hT]; exact h0)
        generalize topP t = q at *
        clear hT HC h
        go_wp2_with fail
        refine hit.mono ?_
        rintro e w1 ⟨rfl, rfl⟩
        have hb2 := hb
        clear hit hct
        go_wp2
        go_roundw
        case rel => exact ⟨k + 1, by omega, by go_num, hb2, hnx⟩
        case measure => simp [intOf]; omega
      · have hE := cntE_no (okTs_no hlt (by rw [← show t = _ from hT]; omega))
        have hV := cntV_no (ks := ks) (by omega)
        rw [← show V = _ from HV] at hV
        rw [← show E = _ from HE] at hE
        subst hV hE
        generalize topP t = q at *
        clear hT HC h HV HE
        go_wp2_with fail
        refine hit.mono ?_
        rintro e w1 ⟨rfl, rfl⟩
        have hb2 := hb
        clear hit hct
        go_wp2
        go_ret2
        exact ⟨rfl, hb2⟩
    · obtain rfl : k = ks.length := by omega
      have hok : Hid (okTs ks = true) := okTs_all HC
      have h2 := h.up hb
      clear HC h hk hlt
      go_wp2
      go_loopw [5, 6] (fun a i wz => ∃ k : Nat, k ≤ ks.length ∧ i = .int .i64 k ∧ ∃ n : Int, a = .int .i64 n ∧ 1 ≤ n ∧ n ≤ 4096 ∧ Below w.heap.size w wz ∧ Hid (n = prodT (ks.take k)) ∧ Below wr.heap.size wr wz) (fun _ i _ => ks.length - (intOf i).toNat)
      case atStart => exact ⟨0, Nat.zero_le _, rfl, 1, rfl, by omega, by omega, hb, rfl, Below.refl _ _⟩
      case round =>
        obtain ⟨k, hk, rfl, n, rfl, n0, n1, hb', HN, hbz⟩ := hrel
        by_cases hlt : k < ks.length
        · have hI := h2.up hbz
          obtain ⟨b, off, rfl, hc⟩ := hI (by intro e; subst e; simp at hlt)
          obtain ⟨t, hte⟩ : ∃ t, t = ks.getD k 0 := ⟨_, rfl⟩
          have hct := hc k hlt
          rw [← hte] at hct
          have h0 := okTs_get hok.out hlt
          have hpt := prodT_take hlt
          have hle := prodT_take_le hok.out (k + 1)
          rw [← hte] at h0 hpt
          rw [← show n = _ from HN] at hpt
          have hit := rtop_any t wr
          have hs := sz_pos h0
          generalize topP t = q at *
          obtain ⟨hm1, hm2⟩ := mul_rng n0 n1 hs.1 hs.2
          obtain ⟨hs0, hs1⟩ := hs
          clear hI hc hte
          by_cases h4 : n * (q + 1) ≤ 4096
          · have hnx : Hid (n * (q + 1) = prodT (ks.take (k + 1))) := hpt.symm
            clear hpt HN hle
            generalize hm : n * (q + 1) = m at *
            have hm' : n * (q + 1) = m := hm
            go_wp2_with fail
            refine hit.mono ?_
            rintro e w1 ⟨rfl, rfl⟩
            have hb2 := hb'
            have hb3 := hbz
            clear hit hct
            go_wp2
            go_roundw
            case rel => exact ⟨k + 1, by omega, by go_num, m, by go_num, by omega, by omega, hb2, hnx, hb3⟩
            case measure => simp [intOf]; omega
          · have hE := cntE_big hok.out (by omega)
            have hV := cntV_no (ks := ks) (by omega)
            rw [← show V = _ from HV] at hV
            rw [← show E = _ from HE] at hE
            subst hV hE
            clear hpt HN hle
            generalize hm : n * (q + 1) = m at *
            have hm' : n * (q + 1) = m := hm
            clear HV HE hok h2
            go_wp2_with fail
            refine hit.mono ?_
            rintro e w1 ⟨rfl, rfl⟩
            have hb2 := hb'
            clear hit hct
            go_wp2
            go_ret2
            exact ⟨rfl, hb2⟩
        · obtain rfl : k = ks.length := by omega
          have hn : n = prodT ks := by rw [show n = _ from HN, List.take_length]
          have hE := cntE_yes hok.out (by omega)
          have hV := cntV_zero hE
          rw [← show V = _ from HV, ← hn] at hV
          rw [← show E = _ from HE] at hE
          subst hV hE
          clear HV HE hok h2 hn HN
          go_wp2
          go_ret2
          exact ⟨rfl, hb'⟩
end Go.Proofs.Ytiikkbofcccjfaa
