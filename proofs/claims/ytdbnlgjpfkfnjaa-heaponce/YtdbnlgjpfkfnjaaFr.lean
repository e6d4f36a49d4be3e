/-
  The whole part of a float within the bounds, as an integer conversion gives it.
-/
import Derived.Test.YtdbnlgjpfkfnjaaWd
namespace Go.Proofs.Ytdbnlgjpfkfnjaa
open Go.RowKit
open Ieee

def geB (o : Option Ordering) : Bool := o == some .gt || o == some .eq

theorem geB_compare (m n : Int) : geB (some (compare m n)) = decide (n ≤ m) := by
  unfold geB
  rcases Int.lt_trichotomy m n with h | h | h
  · rw [Int.compare_eq_lt.2 h]; simp; omega
  · subst h; simp
  · rw [Int.compare_eq_gt.2 h]; simp; omega

theorem order_swap (x y : Nat) : geB (double.order x y) = leB (double.order y x) := by
  unfold Format.order
  cases hx : double.read x with
  | nan s t => cases hy : double.read y <;> simp [Datum.order, geB, leB]
  | infinity s =>
    cases hy : double.read y with
    | nan u t => simp [Datum.order, geB, leB]
    | infinity u => cases s <;> cases u <;> simp [Datum.order, geB, leB] <;> decide
    | number u m i => cases s <;> simp [Datum.order, geB, leB]
  | number s m i =>
    cases hy : double.read y with
    | nan u t => simp [Datum.order, geB, leB]
    | infinity u => cases u <;> simp [Datum.order, geB, leB]
    | number u n j =>
      have e : min j i = min i j := by omega
      simp only [Datum.order, e]
      rw [geB_compare, leB_compare]

/-- A word within the bounds: its whole part, and when that is all of it. -/
theorem trunc_val {b : Nat} (hlt : b < 2 ^ 64) (h1 : leB (double.order (fl (-16777216)) b) = true) (h2 : leB (double.order b (fl 16777216)) = true) :
    ∃ n : Int, (double.read b).toInt .zero = some n ∧ n.natAbs < 2 ^ 53 ∧ ∀ X, Rep X n → (double.order X b == some .eq) = true → Rep b n ∧ n.natAbs ≤ 16777216 := by
  have m1 := rep_fl (-16777216) (by decide)
  have m2 := rep_fl 16777216 (by decide)
  have key : ∃ (s : Bool) (m k : Nat), double.read b = .number s m (-(k : Int)) ∧ m < 2 ^ 53 := by
    have hM : double.read (fl 16777216) = .number false (2 ^ 52) (-28) := by rw [most_fl]; decide
    have hL : double.read (fl (-16777216)) = .number true (2 ^ 52) (-28) := by rw [least_fl]; decide
    unfold Format.order at h1 h2
    rw [hM] at h2
    rw [hL] at h1
    cases hd : double.read b with
    | nan s t => rw [hd] at h2; simp [Datum.order, leB] at h2
    | infinity s => rw [hd] at h1 h2; cases s <;> simp [Datum.order, leB] at h1 h2
    | number s m i =>
      have hm : m < 2 ^ 53 ∧ (2 ^ 52 ≤ m ∨ i = -1074) := by
        unfold Format.read at hd
        have e5 : double.binade = 2 ^ 52 := rfl
        have e6 : double.infRung = 2047 * 2 ^ 52 := rfl
        have e2 : double.leastPlace = -1074 := by decide
        have e7 : double.signWeight = 2 ^ 63 := rfl
        simp only [e5, e6, e2, e7] at hd
        split at hd
        · injection hd with q1 q2 q3; omega
        · split at hd
          · injection hd with q1 q2 q3; omega
          · split at hd <;> simp at hd
      by_cases hi : i ≤ 0
      · exact ⟨s, m, (-i).toNat, by rw [show -(((-i).toNat : Nat) : Int) = i by omega], hm.1⟩
      · exfalso
        rw [hd] at h1 h2
        have hmm : 2 ^ 52 ≤ m := by omega
        have hb : min i (-28) = -28 := by omega
        have hb' : min (-28) i = -28 := by omega
        simp only [Datum.order, hb, hb'] at h1 h2
        rw [leB_compare] at h1 h2
        have hbig : 2 ^ 53 ≤ m * 2 ^ (i - -28).toNat := by
          have : 2 ^ 1 ≤ 2 ^ (i - -28).toNat := Nat.pow_le_pow_right (by omega) (by omega)
          have := Nat.mul_le_mul hmm this
          omega
        rw [← signed_natAbs s] at hbig
        have c1 : signed false (2 ^ 52) (-28 - -28 : Int).toNat = 4503599627370496 := by decide
        have c2 : signed true (2 ^ 52) (-28 - -28 : Int).toNat = -4503599627370496 := by decide
        rw [c2] at h1
        rw [c1] at h2
        have h1' := of_decide_eq_true h1
        have h2' := of_decide_eq_true h2
        omega
  obtain ⟨s, m, k, hd, hm⟩ := key
  have hcut : ∃ N : Nat, Toward.zero.cut s m k = N ∧ N < 2 ^ 53 := by
    refine ⟨_, rfl, ?_⟩
    unfold Toward.cut
    simp
    exact Nat.lt_of_le_of_lt (Nat.div_le_self _ _) hm
  obtain ⟨N, hN, hN53⟩ := hcut
  have htr : (double.read b).integral .zero = .number s N 0 := by
    rw [hd]
    have e1 : (-(k : Int)).toNat = 0 := by omega
    have e2 : (- -(k : Int)).toNat = k := by omega
    simp only [Datum.integral, e1, e2, Nat.shiftLeft_zero, hN]
  have hnN : (signed s N 0).natAbs = N := by rw [signed_natAbs]; simp
  have hns : signed s N 0 ≠ 0 → s = decide (signed s N 0 < 0) := by
    unfold signed
    simp only [Nat.shiftLeft_zero]
    cases s <;> simp <;> omega
  refine ⟨signed s N 0, ?_, by omega, ?_⟩
  · unfold Datum.toInt
    rw [htr]
  · intro X hX h3
    obtain ⟨_, s', k', hr', hs'⟩ := hX
    generalize signed s N 0 = n at *
    have hb : Rep b n := by
      refine ⟨hlt, ?_⟩
      unfold Format.order at h3
      rw [hr', hd] at h3
      have e1 : (-(k' : Int) - min (-(k' : Int)) (-(k : Int))).toNat = max k' k - k' := by omega
      have e2 : (-(k : Int) - min (-(k' : Int)) (-(k : Int))).toNat = max k' k - k := by omega
      simp only [Datum.order, e1, e2] at h3
      rw [signed_whole hs', show k' + (max k' k - k') = max k' k by omega] at h3
      have h4 : n * 2 ^ max k' k = signed s m (max k' k - k) := by
        have : compare (n * 2 ^ max k' k) (signed s m (max k' k - k)) = .eq := by simpa using h3
        exact Int.compare_eq_eq.1 this
      have h5 : (n * 2 ^ max k' k).natAbs = m * 2 ^ (max k' k - k) := by
        rw [h4]; exact signed_natAbs s m _
      rw [natAbs_mul_pow] at h5
      have h6 : m = n.natAbs * 2 ^ k := by
        have h7 : n.natAbs * 2 ^ k * 2 ^ (max k' k - k) = m * 2 ^ (max k' k - k) := by
          rw [Nat.mul_assoc, ← Nat.pow_add, show k + (max k' k - k) = max k' k by omega]; exact h5
        exact (Nat.eq_of_mul_eq_mul_right (Nat.two_pow_pos _) h7).symm
      rw [hd, h6]
      exact ⟨s, k, rfl, hns⟩
    refine ⟨hb, ?_⟩
    have o1 := rep_order m1 hb
    have o2 := rep_order hb m2
    rw [show double.order (fl (-16777216)) b = _ from o1, leB_compare] at h1
    rw [show double.order b (fl 16777216) = _ from o2, leB_compare] at h2
    simp at h1 h2
    omega

theorem vp_within {b : Nat} (h : vp b = true) : leB (double.order (fl (-16777216)) b) = true ∧ leB (double.order b (fl 16777216)) = true := by
  obtain ⟨hr, hb⟩ := vp_rep h
  have := within_rep hr
  rw [show inB (nb b) = true from decide_eq_true hb] at this
  simpa using this

set_option maxHeartbeats 400000 in
theorem part_out (b : Nat) (w : World) (h : (leB (double.order (fl (-16777216)) b) && leB (double.order b (fl 16777216))) = false) :
    Calls Try.prog 43 #[.float .f64 b] w fun e w' => e = .returned (.tuple #[.int .i64 0, .bool false]) ∧ w' = w := by
  rw [← order_swap, least_fl, most_fl] at h
  have h' : ((FloatKind.f64.format.order b 13938640846711685120 == some .gt || FloatKind.f64.format.order b 13938640846711685120 == some .eq) && (FloatKind.f64.format.order b 4715268809856909312 == some .lt || FloatKind.f64.format.order b 4715268809856909312 == some .eq)) = false := h
  clear h
  by_cases g : (FloatKind.f64.format.order b 13938640846711685120 == some .gt || FloatKind.f64.format.order b 13938640846711685120 == some .eq) = true
  · have g2 : (FloatKind.f64.format.order b 4715268809856909312 == some .lt || FloatKind.f64.format.order b 4715268809856909312 == some .eq) = false := by simpa [g] using h'
    clear h'
    go_enter Try.func43, Try.ntmps43
    go_wp2
    all_goals (go_ret2; exact ⟨rfl, rfl⟩)
  · have g2 : (FloatKind.f64.format.order b 13938640846711685120 == some .gt || FloatKind.f64.format.order b 13938640846711685120 == some .eq) = false := by simpa using g
    clear h' g
    go_enter Try.func43, Try.ntmps43
    go_wp2
    all_goals (go_ret2; exact ⟨rfl, rfl⟩)

set_option maxHeartbeats 400000 in
theorem part_neg0 (b : Nat) (w : World) (h : (leB (double.order (fl (-16777216)) b) && leB (double.order b (fl 16777216))) = true) (hz : (FloatKind.f64.format.order b 0 == some .eq) = true) (h0 : b ≠ 0) :
    Calls Try.prog 43 #[.float .f64 b] w fun e w' => e = .returned (.tuple #[.int .i64 0, .bool false]) ∧ w' = w := by
  rw [← order_swap, least_fl, most_fl] at h
  have h' : ((FloatKind.f64.format.order b 13938640846711685120 == some .gt || FloatKind.f64.format.order b 13938640846711685120 == some .eq) && (FloatKind.f64.format.order b 4715268809856909312 == some .lt || FloatKind.f64.format.order b 4715268809856909312 == some .eq)) = true := h
  clear h
  have h2 : ((b : Int) != 0) = true := by simp; omega
  simp only [Bool.and_eq_true] at h'
  obtain ⟨g1, g2⟩ := h'
  have hr := run_bits
  go_enter Try.func43, Try.ntmps43
  go_wp2
  all_goals (go_ret2; exact ⟨rfl, rfl⟩)

set_option maxHeartbeats 400000 in
theorem part_in (b : Nat) (n : Int) (w : World) (h : (leB (double.order (fl (-16777216)) b) && leB (double.order b (fl 16777216))) = true) (hz : (FloatKind.f64.format.order b 0 == some .eq) = false ∨ b = 0) (hn : floatToIntVal .f64 b .i64 = some n) :
    Calls Try.prog 43 #[.float .f64 b] w fun e w' => e = .returned (.tuple #[.int .i64 n, .bool (FloatKind.f64.format.order (floatOfInt .f64 n) b == some .eq)]) ∧ w' = w := by
  rw [← order_swap, least_fl, most_fl] at h
  have h' : ((FloatKind.f64.format.order b 13938640846711685120 == some .gt || FloatKind.f64.format.order b 13938640846711685120 == some .eq) && (FloatKind.f64.format.order b 4715268809856909312 == some .lt || FloatKind.f64.format.order b 4715268809856909312 == some .eq)) = true := h
  clear h
  simp only [Bool.and_eq_true] at h'
  obtain ⟨g1, g2⟩ := h'
  have hr := run_bits
  have q1 : ∀ w, (convert 91 3 (.float .f64 b)).run Try.prog w = .ok (.int .i64 n) w := fun w => run_convert_float_int w 91 3 .f64 .i64 b n (by rw [Try.underlying91]; rfl) Try.underlying3 hn
  clear hn
  rcases hz with hz | hz
  · go_enter Try.func43, Try.ntmps43
    go_wp2
    all_goals (go_ret2; exact ⟨rfl, rfl⟩)
  · subst hz
    go_enter Try.func43, Try.ntmps43
    go_wp2
    all_goals (go_ret2; exact ⟨rfl, rfl⟩)

/-- What the document takes of a float: its whole number, where it is one. -/
theorem part_any (b : Nat) (w : World) (hlt : b < 2 ^ 64) :
    Calls Try.prog 43 #[.float .f64 b] w fun e w' => ∃ n : Int, (vp b = true → n = nb b) ∧ e = .returned (.tuple #[.int .i64 n, .bool (vp b)]) ∧ w' = w := by
  by_cases h : (leB (double.order (fl (-16777216)) b) && leB (double.order b (fl 16777216))) = true
  · by_cases hz : (FloatKind.f64.format.order b 0 == some .eq) = true
    · by_cases h0 : b = 0
      · subst h0
        have e1 : floatToIntVal .f64 0 .i64 = some 0 := by decide
        refine (part_in 0 0 w h (Or.inr rfl) e1).mono ?_
        rintro e w' ⟨rfl, rfl⟩
        have e2 : (FloatKind.f64.format.order (floatOfInt .f64 0) 0 == some .eq) = true := by decide
        have e3 : vp 0 = true := by decide
        exact ⟨0, fun _ => by decide, by rw [e2, e3], rfl⟩
      · have hv : vp b = false := by
          rw [Bool.eq_false_iff]
          intro hv
          obtain ⟨h1, h2⟩ := vp_true hv
          have := order_zero_rep (vp_rep hv).1
          rw [hz] at this
          have hn := of_decide_eq_true this.symm
          rw [hn] at h2
          exact h0 h2
        refine (part_neg0 b w h hz h0).mono ?_
        rintro e w' ⟨rfl, rfl⟩
        exact ⟨0, fun hc => (by rw [hv] at hc; cases hc), by rw [hv], rfl⟩
    · have hz' : (FloatKind.f64.format.order b 0 == some .eq) = false := by simpa using hz
      have hh := h
      simp only [Bool.and_eq_true] at hh
      obtain ⟨n, t1, t2, t3⟩ := trunc_val hlt hh.1 hh.2
      have hn : floatToIntVal .f64 b .i64 = some n := by
        unfold floatToIntVal
        have : (FloatKind.f64.decode b).toInt .zero = some n := t1
        rw [this]
        have e1 : IntKind.i64.min = -9223372036854775808 := by decide
        have e2 : IntKind.i64.max = 9223372036854775807 := by decide
        simp only [e1, e2]
        rw [if_pos (by omega)]
      refine (part_in b n w h (Or.inl hz') hn).mono ?_
      rintro e w' ⟨rfl, rfl⟩
      have key : (FloatKind.f64.format.order (floatOfInt .f64 n) b == some .eq) = vp b := by
        rw [fl_conv]
        cases hv : vp b with
        | true =>
          have hr := (vp_rep hv).1
          have e1 := toInt_whole hr.2 .zero
          rw [t1] at e1
          have e2 : n = nb b := Option.some.inj e1
          rw [rep_order (rep_fl n t2) hr, e2]
          simp
        | false =>
          rw [Bool.eq_false_iff]
          intro hc
          obtain ⟨hr, hb⟩ := t3 (fl n) (rep_fl n t2) hc
          have h0 : n ≠ 0 := by
            intro h0
            have := order_zero_rep hr
            rw [h0] at this
            rw [this] at hz'
            simp at hz'
          have := rep_fl_iff hr t2 h0
          have : vp b = true := by rw [this]; exact vp_fl n hb
          rw [hv] at this
          cases this
      refine ⟨n, fun hv => ?_, by rw [key], rfl⟩
      have e1 := toInt_whole (vp_rep hv).1.2 .zero
      rw [t1] at e1
      exact Option.some.inj e1
  · have h' : (leB (double.order (fl (-16777216)) b) && leB (double.order b (fl 16777216))) = false := by simpa using h
    have hv : vp b = false := by
      rw [Bool.eq_false_iff]
      intro hv
      obtain ⟨h1, h2⟩ := vp_within hv
      rw [h1, h2] at h'
      cases h'
    refine (part_out b w h').mono ?_
    rintro e w' ⟨rfl, rfl⟩
    exact ⟨0, fun hc => (by rw [hv] at hc; cases hc), by rw [hv], rfl⟩
end Go.Proofs.Ytdbnlgjpfkfnjaa
