/-
  The whole part of a float within the bounds, as an integer conversion gives it.
-/
import Derived.Test.YtkonkplalgoekaaGreatDoorWd
namespace Go.Proofs.YtkonkplalgoekaaGreatDoor
open Go.RowKit
open Ieee

def geB (o : Option Ordering) : Bool := o == some .gt || o == some .eq

theorem geB_compare (m n : Int) : geB (some (compare m n)) = decide (n ≤ m) := by
  unfold geB
  rcases Int.lt_trichotomy m n with h | h | h
  · rw [Int.compare_eq_lt.2 h]; simp; omega
  · subst h; simp
  · rw [Int.compare_eq_gt.2 h]; simp; omega

theorem order_swap (x y : Nat) : geB (double.order x y) = leB (double.order y x) := by
  unfold Format.order
  cases hx : double.read x with
  | nan s t => cases hy : double.read y <;> simp [Datum.order, geB, leB]
  | infinity s =>
    cases hy : double.read y with
    | nan u t => simp [Datum.order, geB, leB]
    | infinity u => cases s <;> cases u <;> simp [Datum.order, geB, leB] <;> decide
    | number u m i => cases s <;> simp [Datum.order, geB, leB]
  | number s m i =>
    cases hy : double.read y with
    | nan u t => simp [Datum.order, geB, leB]
    | infinity u => cases u <;> simp [Datum.order, geB, leB]
    | number u n j =>
      have e : min j i = min i j := by omega
      simp only [Datum.order, e]
      rw [geB_compare, leB_compare]

/-- A word within the bounds: its whole part, and when that is all of it. -/
theorem trunc_val {b : Nat} (hlt : b < 2 ^ 64) (h1 : leB (double.order (fl (-16777216)) b) = true) (h2 : leB (double.order b (fl 16777216)) = true) :
    ∃ n : Int, (double.read b).toInt .zero = some n ∧ n.natAbs < 2 ^ 53 ∧ ∀ X, Rep X n → (double.order X b == some .eq) = true → Rep b n ∧ n.natAbs ≤ 16777216 := by
  have m1 := rep_fl (-16777216) (by decide)
  have m2 := rep_fl 16777216 (by decide)
  have key : ∃ (s : Bool) (m k : Nat), double.read b = .number s m (-(k : Int)) ∧ m < 2 ^ 53 := by
    have hM : double.read (fl 16777216) = .number false (2 ^ 52) (-28) := by rw [most_fl]; decide
    have hL : double.read (fl (-16777216)) = .number true (2 ^ 52) (-28) := by rw [least_fl]; decide
    unfold Format.order at h1 h2
    rw [hM] at h2
    rw [hL] at h1
    cases hd : double.read b with
    | nan s t => rw [hd] at h2; simp [Datum.order, leB] at h2
    | infinity s => rw [hd] at h1 h2; cases s <;> simp [Datum.order, leB] at h1 h2
    | number s m i =>
      have hm : m < 2 ^ 53 ∧ (2 ^ 52 ≤ m ∨ i = -1074) := by
        unfold Format.read at hd
        have e5 : double.binade = 2 ^ 52 := rfl
        have e6 : double.infRung = 2047 * 2 ^ 52 := rfl
        have e2 : double.leastPlace = -1074 := by decide
        have e7 : double.signWeight = 2 ^ 63 := rfl
        simp only [e5, e6, e2, e7] at hd
        split at hd
        · injection hd with q1 q2 q3; omega
        · split at hd
          · injection hd with q1 q2 q3; omega
          · split at hd <;> simp at hd
      by_cases hi : i ≤ 0
      · exact ⟨s, m, (-i).toNat, by rw [show -(((-i).toNat : Nat) : Int) = i by omega], hm.1⟩
      · exfalso
        rw [hd] at h1 h2
        have hmm : 2 ^ 52 ≤ m := by omega
        have hb : min i (-28) = -28 := by omega
        have hb' : min (-28) i = -28 := by omega
        simp only [Datum.order, hb, hb'] at h1 h2
        rw [leB_compare] at h1 h2
        have hbig : 2 ^ 53 ≤ m * 2 ^ (i - -28).toNat := by
          have : 2 ^ 1 ≤ 2 ^ (i - -28).toNat := Nat.pow_le_pow_right (by omega) (by omega)
          have := Nat.mul_le_mul hmm this
          omega
        rw [← signed_natAbs s] at hbig
        have c1 : signed false (2 ^ 52) (-28 - -28 : Int).toNat = 4503599627370496 := by decide
        have c2 : signed true (2 ^ 52) (-28 - -28 : Int).toNat = -4503599627370496 := by decide
        rw [c2] at h1
        rw [c1] at h2
        have h1' := of_decide_eq_true h1
        have h2' := of_decide_eq_true h2
        omega
  obtain ⟨s, m, k, hd, hm⟩ := key
  have hcut : ∃ N : Nat, Toward.zero.cut s m k = N ∧ N < 2 ^ 53 := by
    refine ⟨_, rfl, ?_⟩
    unfold Toward.cut
    simp
    exact Nat.lt_of_le_of_lt (Nat.div_le_self _ _) hm
  obtain ⟨N, hN, hN53⟩ := hcut
  have htr : (double.read b).integral .zero = .number s N 0 := by
    rw [hd]
    have e1 : (-(k : Int)).toNat = 0 := by omega
    have e2 : (- -(k : Int)).toNat = k := by omega
    simp only [Datum.integral, e1, e2, Nat.shiftLeft_zero, hN]
  have hnN : (signed s N 0).natAbs = N := by rw [signed_natAbs]; simp
  have hns : signed s N 0 ≠ 0 → s = decide (signed s N 0 < 0) := by
    unfold signed
    simp only [Nat.shiftLeft_zero]
    cases s <;> simp <;> omega
  refine ⟨signed s N 0, ?_, by omega, ?_⟩
  · unfold Datum.toInt
    rw [htr]
  · intro X hX h3
    obtain ⟨_, s', k', hr', hs'⟩ := hX
    generalize signed s N 0 = n at *
    have hb : Rep b n := by
      refine ⟨hlt, ?_⟩
      unfold Format.order at h3
      rw [hr', hd] at h3
      have e1 : (-(k' : Int) - min (-(k' : Int)) (-(k : Int))).toNat = max k' k - k' := by omega
      have e2 : (-(k : Int) - min (-(k' : Int)) (-(k : Int))).toNat = max k' k - k := by omega
      simp only [Datum.order, e1, e2] at h3
      rw [signed_whole hs', show k' + (max k' k - k') = max k' k by omega] at h3
      have h4 : n * 2 ^ max k' k = signed s m (max k' k - k) := by
        have : compare (n * 2 ^ max k' k) (signed s m (max k' k - k)) = .eq := by simpa using h3
        exact Int.compare_eq_eq.1 this
      have h5 : (n * 2 ^ max k' k).natAbs = m * 2 ^ (max k' k - k) := by
        rw [h4]; exact signed_natAbs s m _
      rw [natAbs_mul_pow] at h5
      have h6 : m = n.natAbs * 2 ^ k := by
        have h7 : n.natAbs * 2 ^ k * 2 ^ (max k' k - k) = m * 2 ^ (max k' k - k) := by
          rw [Nat.mul_assoc, ← Nat.pow_add, show k + (max k' k - k) = max k' k by omega]; exact h5
        exact (Nat.eq_of_mul_eq_mul_right (Nat.two_pow_pos _) h7).symm
      rw [hd, h6]
      exact ⟨s, k, rfl, hns⟩
    refine ⟨hb, ?_⟩
    have o1 := rep_order m1 hb
    have o2 := rep_order hb m2
    rw [show double.order (fl (-16777216)) b = _ from o1, leB_compare] at h1
    rw [show double.order b (fl 16777216) = _ from o2, leB_compare] at h2
    simp at h1 h2
    omega

theorem vp_within {b : Nat} (h : vp b = true) : leB (double.order (fl (-16777216)) b) = true ∧ leB (double.order b (fl 16777216)) = true := by
  obtain ⟨hr, hb⟩ := vp_rep h
  have := within_rep hr
  rw [show inB (nb b) = true from decide_eq_true hb] at this
  simpa using this

end Go.Proofs.YtkonkplalgoekaaGreatDoor
