/-
  The walk of the quotient.
-/
import Derived.Test.YtebpjcjoapahnaaWb
import Derived.Deep.QuietTactic
import Derived.BigQuiet
namespace Go.Proofs.Ytebpjcjoapahnaa
open Go.RowKit
open Ieee

/-- The divisor's norm, and the dividend times the divisor's conjugate. -/
def qN (r s : Int) : Int := r * r - s * -s
def qX (p q r s : Int) : Int := p * r - q * -s
def qY (p q r s : Int) : Int := p * -s + q * r

/-- Does the divisor divide? -/
def quoT (p q r s : Int) : Bool := decide ((qX p q r s).tmod (qN r s) = 0) && decide ((qY p q r s).tmod (qN r s) = 0)

def quoE (a b c d : Nat) : Int :=
  if valid4 a b c d then
    (if nb c = 0 ∧ nb d = 0 then 51 else
      if quoT (nb a) (nb b) (nb c) (nb d) then
        (if okC ((qX (nb a) (nb b) (nb c) (nb d)).tdiv (qN (nb c) (nb d))) ((qY (nb a) (nb b) (nb c) (nb d)).tdiv (qN (nb c) (nb d))) then 0 else 50)
      else 51)
  else 3
def quoR (a b c d : Nat) : Nat := if quoE a b c d = 0 then fl ((qX (nb a) (nb b) (nb c) (nb d)).tdiv (qN (nb c) (nb d))) else 0
def quoI (a b c d : Nat) : Nat := if quoE a b c d = 0 then fl ((qY (nb a) (nb b) (nb c) (nb d)).tdiv (qN (nb c) (nb d))) else 0

def quoAns (a b c d : Nat) : Ending := .returned (.tuple #[.complex .f64 (quoR a b c d) (quoI a b c d), .int .i64 (quoE a b c d)])

theorem quoE_zero {a b c d : Nat} (h : quoE a b c d = 0) : valid4 a b c d = true ∧ ¬ (nb c = 0 ∧ nb d = 0) ∧ quoT (nb a) (nb b) (nb c) (nb d) = true ∧
    okC ((qX (nb a) (nb b) (nb c) (nb d)).tdiv (qN (nb c) (nb d))) ((qY (nb a) (nb b) (nb c) (nb d)).tdiv (qN (nb c) (nb d))) = true := by
  unfold quoE at h
  split at h
  · split at h
    · omega
    · split at h
      · split at h
        · refine ⟨?_, ?_, ?_, ?_⟩ <;> assumption
        · omega
      · omega
  · omega

theorem quoR_lt (a b c d : Nat) : quoR a b c d < 2 ^ 64 := by
  unfold quoR
  split
  · rename_i h
    have := okC_iff.1 (quoE_zero h).2.2.2
    exact fl_lt _ (by omega)
  · decide
theorem quoI_lt (a b c d : Nat) : quoI a b c d < 2 ^ 64 := by
  unfold quoI
  split
  · rename_i h
    have := okC_iff.1 (quoE_zero h).2.2.2
    exact fl_lt _ (by omega)
  · decide

theorem quoAns_of {a b c d : Nat} {e : Int} (h : quoE a b c d = e) (h0 : e ≠ 0) : quoAns a b c d = .returned (.tuple #[.complex .f64 0 0, .int .i64 e]) := by
  unfold quoAns quoR quoI
  rw [h, if_neg h0, if_neg h0]

theorem quoAns_good {a b c d : Nat} (h : valid4 a b c d = true) (h0 : ¬ (nb c = 0 ∧ nb d = 0)) (ht : quoT (nb a) (nb b) (nb c) (nb d) = true) {x y : Int}
    (hx : (qX (nb a) (nb b) (nb c) (nb d)).tdiv (qN (nb c) (nb d)) = x) (hy : (qY (nb a) (nb b) (nb c) (nb d)).tdiv (qN (nb c) (nb d)) = y) :
    quoAns a b c d = .returned (.tuple #[ansV x y, .int .i64 (ansE x y)]) := by
  unfold quoAns quoR quoI ansV ansE
  cases ho : okC x y with
  | true =>
    have e : quoE a b c d = 0 := by unfold quoE; rw [h, ht, hx, hy, ho, if_neg h0]; rfl
    rw [e, hx, hy]; rfl
  | false =>
    have e : quoE a b c d = 50 := by unfold quoE; rw [h, ht, hx, hy, ho, if_neg h0]; rfl
    rw [e]; rfl

theorem rep_conv (n : Int) (h : n.natAbs ≤ 562949953421312) : Rep (floatOfInt .f64 n) n := by rw [fl_conv]; exact rep_fl n (by omega)

theorem order_zero_rep {b : Nat} {n : Int} (h : Rep b n) : (FloatKind.f64.format.order b 0 == some .eq) = decide (n = 0) := by
  rw [rep_order h (show Rep 0 0 from rep_zero false)]
  by_cases h0 : n = 0
  · subst h0; simp
  · rw [decide_eq_false h0, Bool.eq_false_iff]
    intro hc
    exact h0 (Int.compare_eq_eq.1 (by simpa using hc))

theorem sq_bounds (n : Int) (h : n.natAbs ≤ 16777216) : 0 ≤ n * n ∧ n * n ≤ 281474976710656 ∧ (n ≠ 0 → 0 < n * n) := by
  have b := bound_mul h h
  have e : 0 ≤ n * n := by rw [← Int.natAbs_mul_self]; omega
  refine ⟨e, by omega, fun h0 => ?_⟩
  rcases Int.lt_trichotomy n 0 with h1 | h1 | h1
  · exact Int.mul_pos_of_neg_of_neg h1 h1
  · omega
  · exact Int.mul_pos h1 h1

set_option maxHeartbeats 400000 in
theorem quo_bad (a b c d : Nat) (w : World) (ha : a < 2 ^ 64) (hb : b < 2 ^ 64) (hc : c < 2 ^ 64) (hd : d < 2 ^ 64) (hv : valid4 a b c d = false) :
    Calls Try.prog 25 #[.complex .f64 a b, .complex .f64 c d] w fun e w' => e = .returned (.tuple #[.complex .f64 0 0, .int .i64 3]) ∧ w' = w := by
  rw [valid4_vc] at hv
  by_cases h1 : vc a b = true
  · have h2 : vc c d = false := by simpa [h1] using hv
    clear hv
    go_enter Try.func25, Try.ntmps25
    go_wp2_with (first | (go_at_call 21; refine (valid_vc _ _ _ (by assumption) (by assumption)).mono ?_; rintro e w' ⟨rfl, rfl⟩))
    go_ret2
    exact ⟨rfl, rfl⟩
  · have h1' : vc a b = false := by simpa using h1
    clear hv h1
    go_enter Try.func25, Try.ntmps25
    go_wp2_with (first | (go_at_call 21; refine (valid_vc _ _ _ (by assumption) (by assumption)).mono ?_; rintro e w' ⟨rfl, rfl⟩))
    go_ret2
    exact ⟨rfl, rfl⟩

set_option maxHeartbeats 400000 in
theorem quo_zero (a b c d : Nat) (w : World) (ha : a < 2 ^ 64) (hb : b < 2 ^ 64) (hc : c < 2 ^ 64) (hd : d < 2 ^ 64) (hv : valid4 a b c d = true) (h0 : nb c = 0 ∧ nb d = 0) :
    Calls Try.prog 25 #[.complex .f64 a b, .complex .f64 c d] w fun e w' => e = .returned (.tuple #[.complex .f64 0 0, .int .i64 51]) ∧ w' = w := by
  obtain ⟨va, vb, vcc, vd⟩ := valid4_parts hv
  have rc := order_zero_rep (vp_rep vcc).1
  have rd := order_zero_rep (vp_rep vd).1
  rw [h0.1] at rc
  rw [h0.2] at rd
  simp at rc rd
  rw [valid4_vc] at hv
  simp at hv
  obtain ⟨h1, h2⟩ := hv
  clear va vb vcc vd h0
  go_enter Try.func25, Try.ntmps25
  go_wp2_with (first | (go_at_call 21; refine (valid_vc _ _ _ (by assumption) (by assumption)).mono ?_; rintro e w' ⟨rfl, rfl⟩))
  go_ret2
  exact ⟨rfl, rfl⟩

set_option maxHeartbeats 400000 in
theorem quo_main (a b c d : Nat) (w : World) (ha : a < 2 ^ 64) (hb : b < 2 ^ 64) (hc : c < 2 ^ 64) (hd : d < 2 ^ 64) (hv : valid4 a b c d = true) (h0 : ¬ (nb c = 0 ∧ nb d = 0)) :
    Calls Try.prog 25 #[.complex .f64 a b, .complex .f64 c d] w fun e w' => e = quoAns a b c d ∧ ∃ n, w' = w.drewN n := by
  obtain ⟨va, vb, vcc, vd⟩ := valid4_parts hv
  obtain ⟨ra, ba⟩ := vp_rep va
  obtain ⟨rb, bb⟩ := vp_rep vb
  obtain ⟨rc, bc⟩ := vp_rep vcc
  obtain ⟨rd, bd⟩ := vp_rep vd
  have rn := rep_neg rd (by omega)
  have bn : (-nb d).natAbs ≤ 16777216 := by omega
  obtain ⟨x1, y1, m1, rx1, ry1⟩ := rep_cmul ra rb rc rn ba bb bc bn
  obtain ⟨x2, y2, m2, rx2, ry2⟩ := rep_cmul rc rd rc rn bc bd bc bn
  have hv2 := hv
  rw [valid4_vc] at hv2
  simp at hv2
  obtain ⟨h1, h2⟩ := hv2
  have oc : ((FloatKind.f64.format.order c 0 == some .eq) && (FloatKind.f64.format.order d 0 == some .eq)) = false := by
    rw [order_zero_rep rc, order_zero_rep rd, ← Bool.decide_and]; exact decide_eq_false h0
  have b1 := bound_mul ba bc
  have b2 := bound_mul bb bn
  have b3 := bound_mul ba bn
  have b4 := bound_mul bb bc
  have s1 := sq_bounds (nb c) bc
  have s2 := sq_bounds (nb d) bd
  have en : nb c * nb c - nb d * -nb d = nb c * nb c + nb d * nb d := by rw [Int.mul_neg]; omega
  have hN : 0 < nb c * nb c - nb d * -nb d ∧ nb c * nb c - nb d * -nb d ≤ 562949953421312 := by
    rw [en]
    refine ⟨?_, by omega⟩
    by_cases hz : nb c = 0
    · have : nb d ≠ 0 := fun h => h0 ⟨hz, h⟩
      have := s2.2.2 this
      omega
    · have := s1.2.2 hz
      omega
  have c1 := rep_toInt rx1 (by omega)
  have c2 := rep_toInt ry1 (by omega)
  have c3 := rep_toInt rx2 (by omega)
  have hX : (nb a * nb c - nb b * -nb d).natAbs ≤ 562949953421312 := by omega
  have hY : (nb a * -nb d + nb b * nb c).natAbs ≤ 562949953421312 := by omega
  have q1 : ∀ w, (convert 76 2 (.float .f64 x1)).run Try.prog w = .ok (.int .i64 (nb a * nb c - nb b * -nb d)) w := fun w => run_convert_float_int w 76 2 .f64 .i64 x1 _ (by rw [Try.underlying76]; rfl) Try.underlying2 c1
  have q2 : ∀ w, (convert 76 2 (.float .f64 y1)).run Try.prog w = .ok (.int .i64 (nb a * -nb d + nb b * nb c)) w := fun w => run_convert_float_int w 76 2 .f64 .i64 y1 _ (by rw [Try.underlying76]; rfl) Try.underlying2 c2
  have q3 : ∀ w, (convert 76 2 (.float .f64 x2)).run Try.prog w = .ok (.int .i64 (nb c * nb c - nb d * -nb d)) w := fun w => run_convert_float_int w 76 2 .f64 .i64 x2 _ (by rw [Try.underlying76]; rfl) Try.underlying2 c3
  have o1 := fun t w => run_complex_mul (P := Try.prog) w t _ _ _ _ _ _ m1
  have o2 := fun t w => run_complex_mul (P := Try.prog) w t _ _ _ _ _ _ m2
  have kT : Hid (quoT (nb a) (nb b) (nb c) (nb d) = (decide ((nb a * nb c - nb b * -nb d).tmod (nb c * nb c - nb d * -nb d) = 0) && decide ((nb a * -nb d + nb b * nb c).tmod (nb c * nb c - nb d * -nb d) = 0))) := rfl
  have kG : Hid (quoT (nb a) (nb b) (nb c) (nb d) = true → quoAns a b c d = .returned (.tuple #[ansV ((nb a * nb c - nb b * -nb d).tdiv (nb c * nb c - nb d * -nb d)) ((nb a * -nb d + nb b * nb c).tdiv (nb c * nb c - nb d * -nb d)), .int .i64 (ansE ((nb a * nb c - nb b * -nb d).tdiv (nb c * nb c - nb d * -nb d)) ((nb a * -nb d + nb b * nb c).tdiv (nb c * nb c - nb d * -nb d)))])) := fun ht => quoAns_good hv h0 ht rfl rfl
  have kB : Hid (quoT (nb a) (nb b) (nb c) (nb d) = false → quoAns a b c d = .returned (.tuple #[.complex .f64 0 0, .int .i64 51])) := fun ht => quoAns_of (by unfold quoE; rw [hv, ht, if_neg h0]; rfl) (by decide)
  clear va vb vcc vd ra rb rc rd rn bn ba bb bc bd rx1 ry1 rx2 ry2 m1 m2 b1 b2 b3 b4 s1 s2 en c1 c2 c3 hv
  obtain ⟨hN1, hN2⟩ := hN
  generalize nb a * nb c - nb b * -nb d = X at *
  generalize nb a * -nb d + nb b * nb c = Y at *
  generalize nb c * nb c - nb d * -nb d = N at *
  have hN0 : ¬ N = 0 := by omega
  have hta := turn_any
  by_cases t1 : X.tmod N = 0
  · by_cases t2 : Y.tmod N = 0
    · rw [kG.out (by rw [kT.out, t1, t2]; rfl)]
      have dX : (X.tdiv N).natAbs ≤ 562949953421312 := by rw [Int.natAbs_tdiv]; exact Nat.le_trans (Nat.div_le_self _ _) hX
      have dY : (Y.tdiv N).natAbs ≤ 562949953421312 := by rw [Int.natAbs_tdiv]; exact Nat.le_trans (Nat.div_le_self _ _) hY
      clear kT kG kB h0
      go_enter Try.func25, Try.ntmps25
      go_wp2_with (first | (go_at_call 21; refine (valid_vc _ _ _ (by assumption) (by assumption)).mono ?_; rintro e w' ⟨rfl, rfl⟩) | (go_at_call 45; refine (turn_any _ _ _).mono ?_; rintro e w' ⟨rfl, rfl⟩))
      go_quiet ((go_at_call 44; exact Calls.quiet_of_same (settle_any _ _ _ _ _ (rep_conv _ (by assumption)) (rep_conv _ (by assumption)))))
      go_wp2
      go_ret2
      exact ⟨rfl, _, rfl⟩
    · rw [kB.out (by rw [kT.out, t1, decide_eq_false t2]; rfl)]
      clear kT kG kB h0
      go_enter Try.func25, Try.ntmps25
      go_wp2_with (first | (go_at_call 21; refine (valid_vc _ _ _ (by assumption) (by assumption)).mono ?_; rintro e w' ⟨rfl, rfl⟩) | (go_at_call 45; refine (turn_any _ _ _).mono ?_; rintro e w' ⟨rfl, rfl⟩))
      go_ret2
      exact ⟨rfl, 0, (World.drewN_zero _).symm⟩
  · rw [kB.out (by rw [kT.out, decide_eq_false t1]; rfl)]
    clear kT kG kB h0
    go_enter Try.func25, Try.ntmps25
    go_wp2_with (first | (go_at_call 21; refine (valid_vc _ _ _ (by assumption) (by assumption)).mono ?_; rintro e w' ⟨rfl, rfl⟩) | (go_at_call 45; refine (turn_any _ _ _).mono ?_; rintro e w' ⟨rfl, rfl⟩))
    go_ret2
    exact ⟨rfl, 0, (World.drewN_zero _).symm⟩

theorem quo_any (a b c d : Nat) (w : World) (ha : a < 2 ^ 64) (hb : b < 2 ^ 64) (hc : c < 2 ^ 64) (hd : d < 2 ^ 64) :
    Calls Try.prog 25 #[.complex .f64 a b, .complex .f64 c d] w fun e w' => e = quoAns a b c d ∧ ∃ n, w' = w.drewN n := by
  by_cases hv : valid4 a b c d = true
  · by_cases h0 : nb c = 0 ∧ nb d = 0
    · rw [quoAns_of (e := 51) (by unfold quoE; rw [hv, if_pos h0]; rfl) (by decide)]
      refine (quo_zero a b c d w ha hb hc hd hv h0).mono ?_
      rintro e w' ⟨rfl, rfl⟩
      exact ⟨rfl, 0, (World.drewN_zero _).symm⟩
    · exact quo_main a b c d w ha hb hc hd hv h0
  · have hv' : valid4 a b c d = false := by simpa using hv
    rw [quoAns_of (e := 3) (by unfold quoE; rw [hv']; rfl) (by decide)]
    refine (quo_bad a b c d w ha hb hc hd hv').mono ?_
    rintro e w' ⟨rfl, rfl⟩
    exact ⟨rfl, 0, (World.drewN_zero _).symm⟩
end Go.Proofs.Ytebpjcjoapahnaa
