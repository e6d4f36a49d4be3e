/-
  Numbers of tuples: the program's Number and the document's.
-/
import Derived.Test.YtiikkbofcccjfaaT2
namespace Go.Proofs.Ytiikkbofcccjfaa
open Go.RowKit
open Go.Lib
open RowsM
set_option maxRecDepth 100000

/-- What is known of a tuple's number while its points are read. -/
def numI (ks ps : List Int) (k : Nat) (n : Int) : Prop := okPs (ks.take k) (ps.take k) = true ∧ n = numA 0 (ks.take k) (ps.take k)

theorem numI_zero (ks ps : List Int) : numI ks ps 0 0 := ⟨by simp [okPs], by simp [numA]⟩
theorem numI_more {ks ps : List Int} {k : Nat} {n : Int} (h : numI ks ps k n) (hl : ks.length = ps.length) (hk : k < ks.length) (hp : isP (ks.getD k 0) (ps.getD k 0) = true) : numI ks ps (k + 1) (n * (topP (ks.getD k 0) + 1) + ps.getD k 0) :=
  ⟨okPs_take hl hk h.1 hp, by rw [numA_take hl hk, ← h.2]⟩
theorem numI_rng {ks ps : List Int} {k : Nat} {n : Int} (h : numI ks ps k n) (hk : okTs ks = true) : 0 ≤ n ∧ n < prodT ks := by
  have h1 := numA_rng h.1
  have h2 := prodT_take_le hk k
  rw [← h.2] at h1
  omega
theorem numI_end {ks ps : List Int} {n : Int} (h : numI ks ps ks.length n) (hl : ks.length = ps.length) (hE : cntE ks = 0) : numV ks ps = n ∧ numE ks ps = 0 := by
  obtain ⟨h1, h2⟩ := h
  have e : ps.take ks.length = ps := by rw [hl, List.take_length]
  rw [List.take_length, e] at h1 h2
  have hn : numE ks ps = 0 := by unfold numE; rw [if_pos hE, if_pos hl, h1]; rfl
  exact ⟨by unfold numV; rw [if_pos hn, h2], hn⟩
theorem num_no {ks ps : List Int} {c : Int} (h : numE ks ps = c) (hc : c ≠ 0) : numV ks ps = 0 ∧ numE ks ps = c := ⟨by unfold numV; rw [if_neg (by omega)], h⟩
theorem num_cnt {ks ps : List Int} (h : cntE ks ≠ 0) : numE ks ps = cntE ks := by unfold numE; rw [if_neg h]
theorem num_len {ks ps : List Int} (h : cntE ks = 0) (hl : ks.length ≠ ps.length) : numE ks ps = 3 := by unfold numE; rw [if_pos h, if_neg hl]
theorem num_pt {ks ps : List Int} (h : cntE ks = 0) (hl : ks.length = ps.length) {k : Nat} (hk : k < ks.length) (hp : isP (ks.getD k 0) (ps.getD k 0) = false) : numE ks ps = 2 := by
  unfold numE; rw [if_pos h, if_pos hl, okPs_no hl hk hp]; rfl
theorem add_rng {n s p : Int} (h0 : 0 ≤ n) (h1 : n ≤ 4096) (s0 : 2 ≤ s) (s1 : s ≤ 4) (_ : 0 ≤ p) : 0 ≤ n * s ∧ n * s ≤ 16384 := by
  have a := Int.mul_le_mul_of_nonneg_left s0 (show 0 ≤ n by omega)
  have b := Int.mul_le_mul_of_nonneg_left s1 (show 0 ≤ n by omega)
  omega

set_option maxHeartbeats 1000000 in
theorem number16_any (ks ps : List Int) (ao bo : Option Addr) (ca cb : Nat) (w : World) (h : Iz w ao ks) (g : Iz w bo ps) (hl : ks.length ≤ 17592186043904) (gl : ps.length ≤ 17592186043904) :
    Calls Try.prog 12 #[.slice ao ks.length ca, .slice bo ps.length cb] w fun e w' => e = .returned (.tuple #[.int .i64 (numV ks ps), .int .i64 (numE ks ps)]) ∧ Below w.heap.size w w' := by
  have hcn := count16_any ks ao ca w h hl
  by_cases hE : cntE ks = 0
  · rw [hE] at hcn
    have hok := cntE_zero hE
    by_cases hll : ks.length = ps.length
    · obtain ⟨V, hV⟩ : ∃ V, V = numV ks ps := ⟨_, rfl⟩
      obtain ⟨E, hE'⟩ : ∃ E, E = numE ks ps := ⟨_, rfl⟩
      rw [← hV, ← hE']
      have HV : Hid (V = numV ks ps) := hV
      have HE : Hid (E = numE ks ps) := hE'
      have HLL : Hid (ks.length = ps.length) := hll
      have HCE : Hid (cntE ks = 0) := hE
      have HOK : Hid (okTs ks = true ∧ prodT ks ≤ 4096) := hok
      rw [← hll] at gl ⊢
      generalize cntV ks = C at *
      clear hV hE' hE hok hll
      go_enter Try.func12, Try.ntmps12
      go_wp2_with fail
      refine hcn.mono ?_
      rintro e w1 ⟨rfl, hb1⟩
      have h1 := h.up hb1
      have g1 := g.up hb1
      clear h g hcn
      go_wp2
      go_loopw [8, 27] (fun a i wr => ∃ k : Nat, k ≤ ks.length ∧ i = .int .i64 k ∧ ∃ n : Int, a = .int .i64 n ∧ 0 ≤ n ∧ n < 4096 ∧ Below w.heap.size w wr ∧ Hid (numI ks ps k n) ∧ Below w1.heap.size w1 wr) (fun _ i _ => ks.length - (intOf i).toNat)
      case atStart => exact ⟨0, Nat.zero_le _, rfl, 0, rfl, by omega, by omega, hb1, numI_zero ks ps, Below.refl _ _⟩
      case round =>
        obtain ⟨k, hk, rfl, n, rfl, n0, n1, hb, HN, hbz⟩ := hrel
        by_cases hlt : k < ks.length
        · have hI := h1.up hbz
          have gI := g1.up hbz
          obtain ⟨b, off, rfl, hc⟩ := hI (by intro e; subst e; simp at hlt)
          obtain ⟨b', off', rfl, hc'⟩ := gI (by intro e; subst e; rw [show ks.length = _ from HLL] at hlt; simp at hlt)
          obtain ⟨t, hte⟩ : ∃ t, t = ks.getD k 0 := ⟨_, rfl⟩
          obtain ⟨p, hpe⟩ : ∃ p, p = ps.getD k 0 := ⟨_, rfl⟩
          have hct := hc k hlt
          have hcp := hc' k (by rw [← show ks.length = _ from HLL]; exact hlt)
          rw [← hte] at hct
          rw [← hpe] at hcp
          have h0 := okTs_get HOK.out.1 hlt
          rw [← hte] at h0
          clear hI hc gI hc'
          cases hp : isP t p with
          | true =>
            have hnx := numI_more HN HLL hlt (by rw [← hte, ← hpe]; exact hp)
            have hrg := numI_rng hnx HOK.out.1
            rw [← hte, ← hpe] at hnx hrg
            have hrg2 := HOK.out.2
            have hs := sz_pos h0
            have hpp : 0 ≤ p ∧ p ≤ topP t := by simpa [isP] using hp
            have hck : chkP t p = 0 := by unfold chkP; rw [hp, if_neg (by omega)]; rfl
            have hit := pcheck_any t p wr
            rw [hck] at hit
            have hsz := fun w1 => size_any t w1 h0
            generalize topP t = q at *
            obtain ⟨s, hse⟩ : ∃ s, s = q + 1 := ⟨_, rfl⟩
            rw [← hse] at hs hrg hnx hsz
            obtain ⟨hm1, hm2⟩ := add_rng n0 (show n ≤ 4096 by omega) hs.1 hs.2 hpp.1
            have HNX : Hid (numI ks ps (k + 1) (n * (s) + p)) := hnx
            obtain ⟨hs0, hs1⟩ := hs
            obtain ⟨hp0, hp1⟩ := hpp
            obtain ⟨hr0, hr1⟩ := hrg
            have hr2 : n * (s) + p < 4096 := by omega
            clear hnx HN hte hpe hp hr1 hrg2 h1 g1 HV HE hck hse hp1
            go_wp2_with fail
            refine hit.mono ?_
            rintro e w2 ⟨rfl, rfl⟩
            clear hit
            go_wp2_with fail
            go_quiet ((go_at_call 33; exact Calls.quiet_of_same (hsz _)))
            clear hsz
            go_wp2
            go_roundw
            case rel => exact ⟨k + 1, by omega, by go_num, n * (s) + p, by go_num, by omega, by omega, below_drewN hb _, HNX, below_drewN hbz _⟩
            case measure => simp [intOf]; omega
          | false =>
            obtain ⟨hV, hE⟩ := num_no (num_pt HCE HLL hlt (by rw [← hte, ← hpe]; exact hp)) (by omega)
            rw [← show V = _ from HV] at hV
            rw [← show E = _ from HE] at hE
            subst hV hE
            have hck : chkP t p = 2 := by unfold chkP; rw [hp, if_neg (by omega)]; rfl
            have hit := pcheck_any t p wr
            rw [hck] at hit
            clear hck
            clear HN hte hpe hp h1 g1 HV HE h0
            go_wp2_with fail
            refine hit.mono ?_
            rintro e w2 ⟨rfl, rfl⟩
            clear hit
            go_wp2
            go_ret2
            exact ⟨rfl, hb⟩
        · obtain rfl : k = ks.length := by omega
          obtain ⟨hV, hE⟩ := numI_end HN HLL HCE
          rw [← show V = _ from HV] at hV
          rw [← show E = _ from HE] at hE
          subst hV hE
          clear HV HE HN h1 g1
          go_wp2
          go_ret2
          exact ⟨rfl, hb⟩
    · obtain ⟨hV, hE2⟩ := num_no (num_len hE hll) (by omega)
      rw [hV, hE2]
      have hne : ((ps.length : Int) != (ks.length : Int)) = true := by simp; omega
      generalize cntV ks = C at *
      clear hV hE2 hE hok
      go_enter Try.func12, Try.ntmps12
      go_wp2_with fail
      refine hcn.mono ?_
      rintro e w1 ⟨rfl, hb1⟩
      clear h g hcn
      go_wp2
      go_ret2
      exact ⟨rfl, hb1⟩
  · obtain ⟨hV, hE2⟩ := num_no (num_cnt (ps := ps) hE) hE
    rw [hV, hE2]
    generalize cntV ks = C at *
    have hc := cntE_cases ks
    generalize cntE ks = c at *
    clear hV hE2
    rcases hc with rfl | rfl | rfl
    · exact absurd rfl hE
    all_goals
      clear hE
      go_enter Try.func12, Try.ntmps12
      go_wp2_with fail
      refine hcn.mono ?_
      rintro e w1 ⟨rfl, hb1⟩
      clear h g hcn
      go_wp2
      go_ret2
      exact ⟨rfl, hb1⟩

set_option maxHeartbeats 1000000 in
theorem rnumber_any (ks ps : List Int) (ao bo : Option Addr) (ca cb : Nat) (w : World) (h : Iz w ao ks) (g : Iz w bo ps) (hl : ks.length ≤ 17592186043904) (gl : ps.length ≤ 17592186043904) :
    Calls Try.prog 13 #[.slice ao ks.length ca, .slice bo ps.length cb] w fun e w' => e = .returned (.tuple #[.int .i64 (numV ks ps), .int .i64 (numE ks ps)]) ∧ Below w.heap.size w w' := by
  have hcn := rcount_any ks ao ca w h hl
  by_cases hE : cntE ks = 0
  · rw [hE] at hcn
    have hok := cntE_zero hE
    by_cases hll : ks.length = ps.length
    · obtain ⟨V, hV⟩ : ∃ V, V = numV ks ps := ⟨_, rfl⟩
      obtain ⟨E, hE'⟩ : ∃ E, E = numE ks ps := ⟨_, rfl⟩
      rw [← hV, ← hE']
      have HV : Hid (V = numV ks ps) := hV
      have HE : Hid (E = numE ks ps) := hE'
      have HLL : Hid (ks.length = ps.length) := hll
      have HCE : Hid (cntE ks = 0) := hE
      have HOK : Hid (okTs ks = true ∧ prodT ks ≤ 4096) := hok
      rw [← hll] at gl ⊢
      generalize cntV ks = C at *
      clear hV hE' hE hok hll
      go_enter Try.func13, Try.ntmps13
      go_wp2_with fail
      refine hcn.mono ?_
      rintro e w1 ⟨rfl, hb1⟩
      have h1 := h.up hb1
      have g1 := g.up hb1
      clear h g hcn
      go_wp2
      go_loopw [8, 9] (fun a i wr => ∃ k : Nat, k ≤ ks.length ∧ i = .int .i64 k ∧ ∃ n : Int, a = .int .i64 n ∧ 0 ≤ n ∧ n < 4096 ∧ Below w.heap.size w wr ∧ Hid (numI ks ps k n) ∧ Below w1.heap.size w1 wr) (fun _ i _ => ks.length - (intOf i).toNat)
      case atStart => exact ⟨0, Nat.zero_le _, rfl, 0, rfl, by omega, by omega, hb1, numI_zero ks ps, Below.refl _ _⟩
      case round =>
        obtain ⟨k, hk, rfl, n, rfl, n0, n1, hb, HN, hbz⟩ := hrel
        by_cases hlt : k < ks.length
        · have hI := h1.up hbz
          have gI := g1.up hbz
          obtain ⟨b, off, rfl, hc⟩ := hI (by intro e; subst e; simp at hlt)
          obtain ⟨b', off', rfl, hc'⟩ := gI (by intro e; subst e; rw [show ks.length = _ from HLL] at hlt; simp at hlt)
          obtain ⟨t, hte⟩ : ∃ t, t = ks.getD k 0 := ⟨_, rfl⟩
          obtain ⟨p, hpe⟩ : ∃ p, p = ps.getD k 0 := ⟨_, rfl⟩
          have hct := hc k hlt
          have hcp := hc' k (by rw [← show ks.length = _ from HLL]; exact hlt)
          rw [← hte] at hct
          rw [← hpe] at hcp
          have h0 := okTs_get HOK.out.1 hlt
          rw [← hte] at h0
          clear hI hc gI hc'
          cases hp : isP t p with
          | true =>
            have hnx := numI_more HN HLL hlt (by rw [← hte, ← hpe]; exact hp)
            have hrg := numI_rng hnx HOK.out.1
            rw [← hte, ← hpe] at hnx hrg
            have hrg2 := HOK.out.2
            have hs := sz_pos h0
            have hpp : 0 ≤ p ∧ p ≤ topP t := by simpa [isP] using hp
            have hit := fun w1 => is_any t p w1
            have htp := fun w1 => rtop_any t w1
            rw [hp] at hit
            generalize topP t = q at *
            obtain ⟨hm1, hm2⟩ := add_rng n0 (show n ≤ 4096 by omega) hs.1 hs.2 hpp.1
            have HNX : Hid (numI ks ps (k + 1) (n * (q + 1) + p)) := hnx
            obtain ⟨hs0, hs1⟩ := hs
            obtain ⟨hp0, hp1⟩ := hpp
            obtain ⟨hr0, hr1⟩ := hrg
            have hr2 : n * (q + 1) + p < 4096 := by omega
            clear hnx HN hte hpe hp hr1 hrg2 h1 g1 HV HE 
            go_wp2_with fail
            go_quiet ((go_at_call 36; exact Calls.quiet_of_same (hit _)))
            clear hit
            have hct2 : (wr.drewN nq).cell? ⟨b, off + k, none⟩ = some (.int .i64 t) := hct
            have hcp2 : (wr.drewN nq).cell? ⟨b', off' + k, none⟩ = some (.int .i64 p) := hcp
            have hbd := below_drewN hb nq
            have hbzd := below_drewN hbz nq
            clear hct hcp hb hbz
            generalize wr.drewN nq = wq at *
            go_wp2_with fail
            go_quiet ((go_at_call 34; exact Calls.quiet_of_same (htp _)))
            clear htp
            go_wp2
            go_roundw
            case rel => exact ⟨k + 1, by omega, by go_num, n * (q + 1) + p, by go_num, by omega, by omega, below_drewN hbd _, HNX, below_drewN hbzd _⟩
            case measure => simp [intOf]; omega
          | false =>
            obtain ⟨hV, hE⟩ := num_no (num_pt HCE HLL hlt (by rw [← hte, ← hpe]; exact hp)) (by omega)
            rw [← show V = _ from HV] at hV
            rw [← show E = _ from HE] at hE
            subst hV hE
            have hit := fun w1 => is_any t p w1
            rw [hp] at hit
            clear HN hte hpe hp h1 g1 HV HE h0
            go_wp2_with fail
            go_quiet ((go_at_call 36; exact Calls.quiet_of_same (hit _)))
            clear hit
            go_wp2
            go_ret2
            exact ⟨rfl, below_drewN hb _⟩
        · obtain rfl : k = ks.length := by omega
          obtain ⟨hV, hE⟩ := numI_end HN HLL HCE
          rw [← show V = _ from HV] at hV
          rw [← show E = _ from HE] at hE
          subst hV hE
          clear HV HE HN h1 g1
          go_wp2
          go_ret2
          exact ⟨rfl, hb⟩
    · obtain ⟨hV, hE2⟩ := num_no (num_len hE hll) (by omega)
      rw [hV, hE2]
      have hne : ((ps.length : Int) != (ks.length : Int)) = true := by simp; omega
      generalize cntV ks = C at *
      clear hV hE2 hE hok
      go_enter Try.func13, Try.ntmps13
      go_wp2_with fail
      refine hcn.mono ?_
      rintro e w1 ⟨rfl, hb1⟩
      clear h g hcn
      go_wp2
      go_ret2
      exact ⟨rfl, hb1⟩
  · obtain ⟨hV, hE2⟩ := num_no (num_cnt (ps := ps) hE) hE
    rw [hV, hE2]
    generalize cntV ks = C at *
    have hc := cntE_cases ks
    generalize cntE ks = c at *
    clear hV hE2
    rcases hc with rfl | rfl | rfl
    · exact absurd rfl hE
    all_goals
      clear hE
      go_enter Try.func13, Try.ntmps13
      go_wp2_with fail
      refine hcn.mono ?_
      rintro e w1 ⟨rfl, hb1⟩
      clear h g hcn
      go_wp2
      go_ret2
      exact ⟨rfl, hb1⟩
end Go.Proofs.Ytiikkbofcccjfaa
