/-
  10 texts in one: what each proves stands at its head.
-/
import Derived.Laws.FloatArith
import Derived.Laws.ComplexArith
import Derived.Test.YtndgglhppoijnaaGreatDoorRows
import Derived.WalkKit
import Derived.WalkSpells
import Derived.WalkLawsBesides
import Derived.Laws.Externs
import Derived.Deep.QuietTactic
import Derived.BigQuiet
/-
  Floats that are whole numbers: sums, differences and products of them are exact, they are compared as the numbers are, and the code's test of a part holds just of the words of whole numbers up to the bound.
-/
namespace Go.Proofs.YtndgglhppoijnaaGreatDoor
open Ieee

theorem log2_mul_pow (N k : Nat) (h : N ≠ 0) : (N * 2 ^ k).log2 = N.log2 + k := by
  have hp : 0 < 2 ^ k := Nat.two_pow_pos k
  have hne : N * 2 ^ k ≠ 0 := Nat.mul_ne_zero h (by omega)
  rw [Nat.log2_eq_iff hne]
  constructor
  · rw [Nat.pow_add]; exact Nat.mul_le_mul_right _ (Nat.log2_self_le h)
  · have e : N.log2 + k + 1 = (N.log2 + 1) + k := by omega
    rw [e, Nat.pow_add]
    exact Nat.mul_lt_mul_of_pos_right Nat.lt_log2_self hp

/-- The rung of a whole number under 2 to the 53. -/
def rungOf (N : Nat) : Nat := (N.log2 + 1022) * 2 ^ 52 + N * 2 ^ (52 - N.log2)

theorem cut_pow (way : Toward) (s : Bool) (M d : Nat) : way.cut s (M * 2 ^ d) d = M := by
  unfold Toward.cut
  by_cases hM : M = 0
  · subst hM; cases way <;> simp
    all_goals (try (have := Nat.two_pow_pos (min d 2); simp [Nat.shiftLeft_eq] <;> omega))
  · have hl := log2_mul_pow M d hM
    have hm : min d ((M * 2 ^ d).log2 + 2) = d := by omega
    have hp : 0 < 2 ^ d := Nat.two_pow_pos d
    simp only [hm, Nat.shiftLeft_eq, Nat.one_mul, Nat.mul_mod_left, Nat.mul_div_cancel M hp]
    cases way <;> simp <;> omega

theorem nearest_pow (s : Bool) (N k : Nat) (h0 : N ≠ 0) (h : N < 2 ^ 53) :
    double.nearest s (N * 2 ^ k) (-(k : Int)) = double.word s (rungOf N) := by
  have hp : 0 < 2 ^ k := Nat.two_pow_pos k
  have hne : N * 2 ^ k ≠ 0 := Nat.mul_ne_zero h0 (by omega)
  have hL : N.log2 < 53 := (Nat.log2_lt h0).2 h
  unfold Format.nearest
  rw [if_neg hne]
  simp only [log2_mul_pow N k h0]
  have hlast : max (-(k : Int) + ((N.log2 + k : Nat) : Int) - (double.fractionBits : Nat)) double.leastPlace = (N.log2 : Int) - 52 := by
    have e1 : (double.fractionBits : Nat) = 52 := rfl
    have e2 : double.leastPlace = -1074 := by decide
    rw [e1, e2]; omega
  rw [hlast]
  have hk : Toward.even.cut s ((N * 2 ^ k) <<< (-(k : Int) - ((N.log2 : Int) - 52)).toNat) ((N.log2 : Int) - 52 - -(k : Int)).toNat = N * 2 ^ (52 - N.log2) := by
    by_cases c : k ≤ 52 - N.log2
    · have e1 : (-(k : Int) - ((N.log2 : Int) - 52)).toNat = 52 - N.log2 - k := by omega
      have e2 : ((N.log2 : Int) - 52 - -(k : Int)).toNat = 0 := by omega
      rw [e1, e2, Nat.shiftLeft_eq, Nat.mul_assoc, ← Nat.pow_add, show k + (52 - N.log2 - k) = 52 - N.log2 by omega]
      have := cut_pow .even s (N * 2 ^ (52 - N.log2)) 0
      simpa using this
    · have e1 : (-(k : Int) - ((N.log2 : Int) - 52)).toNat = 0 := by omega
      have e2 : ((N.log2 : Int) - 52 - -(k : Int)).toNat = k - (52 - N.log2) := by omega
      rw [e1, e2, Nat.shiftLeft_zero]
      have e3 : N * 2 ^ k = (N * 2 ^ (52 - N.log2)) * 2 ^ (k - (52 - N.log2)) := by
        rw [Nat.mul_assoc, ← Nat.pow_add, show (52 - N.log2) + (k - (52 - N.log2)) = k by omega]
      rw [e3]
      exact cut_pow .even s _ _
  rw [hk]
  have e4 : ((N.log2 : Int) - 52 - double.leastPlace).toNat = N.log2 + 1022 := by
    have e2 : double.leastPlace = -1074 := by decide
    rw [e2]; omega
  rw [e4]
  have hb : N * 2 ^ (52 - N.log2) < 2 ^ 53 := by
    have : N < 2 ^ (N.log2 + 1) := Nat.lt_log2_self
    calc N * 2 ^ (52 - N.log2) < 2 ^ (N.log2 + 1) * 2 ^ (52 - N.log2) := Nat.mul_lt_mul_of_pos_right this (Nat.two_pow_pos _)
      _ = 2 ^ 53 := by rw [← Nat.pow_add, show N.log2 + 1 + (52 - N.log2) = 53 by omega]
  have e5 : double.binade = 2 ^ 52 := rfl
  have e6 : double.infRung = 2047 * 2 ^ 52 := rfl
  rw [e5, e6]
  have e7 : min ((N.log2 + 1022) * 2 ^ 52 + N * 2 ^ (52 - N.log2)) (2047 * 2 ^ 52) = rungOf N := by
    unfold rungOf
    apply Nat.min_eq_left
    generalize N * 2 ^ (52 - N.log2) = X at hb ⊢
    generalize N.log2 = L at hL ⊢
    omega
  rw [e7]

theorem rung_bounds (N : Nat) (h0 : N ≠ 0) (h : N < 2 ^ 53) : 2 ^ 52 ≤ N * 2 ^ (52 - N.log2) ∧ N * 2 ^ (52 - N.log2) < 2 ^ 53 ∧ N.log2 < 53 := by
  have hL : N.log2 < 53 := (Nat.log2_lt h0).2 h
  refine ⟨?_, ?_, hL⟩
  · have : 2 ^ N.log2 ≤ N := Nat.log2_self_le h0
    have e : 2 ^ 52 = 2 ^ N.log2 * 2 ^ (52 - N.log2) := by rw [← Nat.pow_add, show N.log2 + (52 - N.log2) = 52 by omega]
    rw [e]; exact Nat.mul_le_mul_right _ this
  · have : N < 2 ^ (N.log2 + 1) := Nat.lt_log2_self
    have e : 2 ^ 53 = 2 ^ (N.log2 + 1) * 2 ^ (52 - N.log2) := by rw [← Nat.pow_add, show N.log2 + 1 + (52 - N.log2) = 53 by omega]
    rw [e]; exact Nat.mul_lt_mul_of_pos_right this (Nat.two_pow_pos _)

theorem word_parts (s : Bool) (r : Nat) (h : r < 2 ^ 63) : (double.word s r / double.signWeight % 2 == 1) = s ∧ double.word s r % double.signWeight = r ∧ double.word s r < 2 ^ 64 := by
  have e : double.signWeight = 2 ^ 63 := rfl
  unfold Format.word
  rw [e]
  cases s
  · simp only [Bool.false_eq_true, if_false]
    refine ⟨?_, by omega, by omega⟩
    have : r / 2 ^ 63 = 0 := by omega
    simp [this]
  · simp only [if_true]
    refine ⟨?_, by omega, by omega⟩
    have : (2 ^ 63 + r) / 2 ^ 63 = 1 := by omega
    simp [this]

theorem read_word (s : Bool) (N : Nat) (h0 : N ≠ 0) (h : N < 2 ^ 53) : double.read (double.word s (rungOf N)) = .number s (N * 2 ^ (52 - N.log2)) ((N.log2 : Int) - 52) := by
  obtain ⟨h1, h2, h3⟩ := rung_bounds N h0 h
  have hr : rungOf N < 2 ^ 63 := by
    unfold rungOf
    generalize N * 2 ^ (52 - N.log2) = X at h1 h2 ⊢
    generalize N.log2 = L at h3 ⊢
    omega
  obtain ⟨p1, p2, _⟩ := word_parts s (rungOf N) hr
  unfold Format.read
  simp only [p1, p2]
  have e5 : double.binade = 2 ^ 52 := rfl
  have e6 : double.infRung = 2047 * 2 ^ 52 := rfl
  have e2 : double.leastPlace = -1074 := by decide
  rw [e5, e6, e2]
  have q1 : ¬ rungOf N < 2 ^ 52 := by unfold rungOf; generalize N * 2 ^ (52 - N.log2) = X at h1 h2 ⊢; generalize N.log2 = L at h3 ⊢; omega
  have q2 : rungOf N < 2047 * 2 ^ 52 := by unfold rungOf; generalize N * 2 ^ (52 - N.log2) = X at h1 h2 ⊢; generalize N.log2 = L at h3 ⊢; omega
  rw [if_neg q1, if_pos q2]
  have q3 : 2 ^ 52 + rungOf N % 2 ^ 52 = N * 2 ^ (52 - N.log2) := by unfold rungOf; generalize N * 2 ^ (52 - N.log2) = X at h1 h2 ⊢; generalize N.log2 = L at h3 ⊢; omega
  have q4 : rungOf N / 2 ^ 52 = N.log2 + 1023 := by unfold rungOf; generalize N * 2 ^ (52 - N.log2) = X at h1 h2 ⊢; generalize N.log2 = L at h3 ⊢; omega
  have q5 : (-1074 : Int) + ((N.log2 + 1023 - 1 : Nat) : Int) = (N.log2 : Int) - 52 := by omega
  rw [q3, q4, q5]

/-- The word of a whole number; nought is the positive one. -/
def fl (n : Int) : Nat := double.nearest (decide (n < 0)) n.natAbs 0

/-- The datum is the whole number n, a nought of either sign. -/
def Whole (d : Datum) (n : Int) : Prop := ∃ (s : Bool) (k : Nat), d = .number s (n.natAbs * 2 ^ k) (-(k : Int)) ∧ (n ≠ 0 → s = decide (n < 0))

/-- The word stands for the whole number n, a nought of either sign. -/
def Rep (b : Nat) (n : Int) : Prop := b < 2 ^ 64 ∧ Whole (double.read b) n

theorem fl_zero : fl 0 = 0 := rfl

theorem fl_word (n : Int) (h0 : n ≠ 0) (h : n.natAbs < 2 ^ 53) : fl n = double.word (decide (n < 0)) (rungOf n.natAbs) := by
  have := nearest_pow (decide (n < 0)) n.natAbs 0 (by omega) h
  simpa [fl] using this

theorem rungOf_lt (N : Nat) (h0 : N ≠ 0) (h : N < 2 ^ 53) : 2 ^ 52 ≤ rungOf N ∧ rungOf N < 2 ^ 63 := by
  obtain ⟨h1, h2, h3⟩ := rung_bounds N h0 h
  unfold rungOf
  generalize N * 2 ^ (52 - N.log2) = X at h1 h2 ⊢
  generalize N.log2 = L at h3 ⊢
  omega

theorem read_zero (s : Bool) : double.read (double.word s 0) = .number s 0 (-1074) := by cases s <;> decide

theorem rep_word (s : Bool) (n : Int) (h0 : n ≠ 0) (h : n.natAbs < 2 ^ 53) (hs : s = decide (n < 0)) : Rep (double.word s (rungOf n.natAbs)) n := by
  have hr := rungOf_lt n.natAbs (by omega) h
  refine ⟨(word_parts s _ hr.2).2.2, ?_⟩
  rw [read_word s n.natAbs (by omega) h]
  have hb := rung_bounds n.natAbs (by omega) h
  refine ⟨s, 52 - n.natAbs.log2, ?_, fun _ => hs⟩
  have q : ((n.natAbs.log2 : Nat) : Int) - 52 = -((52 - n.natAbs.log2 : Nat) : Int) := by omega
  rw [q]

theorem whole_zero (s : Bool) (k : Nat) : Whole (.number s 0 (-(k : Int))) 0 := ⟨s, k, by rw [show (0 : Int).natAbs = 0 from rfl, Nat.zero_mul], fun h => absurd rfl h⟩

theorem rep_zero (s : Bool) : Rep (double.word s 0) 0 := by
  refine ⟨(word_parts s 0 (by decide)).2.2, ?_⟩
  rw [read_zero]
  exact whole_zero s 1074

theorem rep_fl (n : Int) (h : n.natAbs < 2 ^ 53) : Rep (fl n) n := by
  by_cases h0 : n = 0
  · subst h0; exact rep_zero false
  · rw [fl_word n h0 h]; exact rep_word _ n h0 h rfl

/-- What is written of a whole number. -/
theorem write_whole {d : Datum} {n : Int} (hd : Whole d n) (h : n.natAbs < 2 ^ 53) : Rep (double.write d) n ∧ (n ≠ 0 → double.write d = fl n) := by
  obtain ⟨s, k, rfl, hs⟩ := hd
  by_cases h0 : n = 0
  · subst h0
    have : double.write (.number s ((0 : Int).natAbs * 2 ^ k) (-(k : Int))) = double.word s 0 := by simp [Format.write, Format.nearest]
    rw [this]
    exact ⟨rep_zero s, fun h => absurd rfl h⟩
  · have := nearest_pow s n.natAbs k (by omega) h
    have e : double.write (.number s (n.natAbs * 2 ^ k) (-(k : Int))) = double.word s (rungOf n.natAbs) := this
    rw [e]
    exact ⟨rep_word s n h0 h (hs h0), fun _ => by rw [fl_word n h0 h, hs h0]⟩

theorem signed_whole {s : Bool} {n : Int} (hs : n ≠ 0 → s = decide (n < 0)) (k u : Nat) : signed s (n.natAbs * 2 ^ k) u = n * 2 ^ (k + u) := by
  unfold signed
  rw [Nat.shiftLeft_eq, Nat.mul_assoc, ← Nat.pow_add]
  by_cases h0 : n = 0
  · subst h0; simp
  · have := hs h0
    subst this
    have e : (((n.natAbs * 2 ^ (k + u) : Nat)) : Int) = (n.natAbs : Int) * 2 ^ (k + u) := by simp
    rw [e]
    by_cases hn : n < 0
    · simp only [hn, decide_true, if_true]
      rw [← Int.neg_mul, show -(n.natAbs : Int) = n by omega]
    · simp only [hn, decide_false, Bool.false_eq_true, if_false]
      rw [show (n.natAbs : Int) = n by omega]

theorem pow_int_pos (k : Nat) : (0 : Int) < 2 ^ k := by
  have := Nat.two_pow_pos k
  have e : ((2 ^ k : Nat) : Int) = (2 : Int) ^ k := by simp
  omega

theorem natAbs_mul_pow (n : Int) (k : Nat) : (n * 2 ^ k).natAbs = n.natAbs * 2 ^ k := by
  rw [Int.natAbs_mul]
  have e : ((2 ^ k : Nat) : Int) = (2 : Int) ^ k := by simp
  rw [← e, Int.natAbs_natCast]

theorem sum_whole {c d : Datum} {m n : Int} (hc : Whole c m) (hd : Whole d n) : ∃ r, c.sum d = some r ∧ Whole r (m + n) := by
  obtain ⟨s, k, rfl, hs⟩ := hc
  obtain ⟨t, l, rfl, ht⟩ := hd
  refine ⟨_, rfl, ?_⟩
  have e1 : (-(k : Int) - min (-(k : Int)) (-(l : Int))).toNat = max k l - k := by omega
  have e2 : (-(l : Int) - min (-(k : Int)) (-(l : Int))).toNat = max k l - l := by omega
  simp only [e1, e2]
  rw [signed_whole hs, signed_whole ht, show k + (max k l - k) = max k l by omega, show l + (max k l - l) = max k l by omega, ← Int.add_mul]
  have hp := pow_int_pos (max k l)
  refine ⟨if (m + n) * 2 ^ max k l = 0 then s && t else decide ((m + n) * 2 ^ max k l < 0), max k l, ?_, ?_⟩
  · rw [natAbs_mul_pow, show min (-(k : Int)) (-(l : Int)) = -((max k l : Nat) : Int) by omega]
  · intro hne
    have hz : ¬ ((m + n) * 2 ^ max k l = 0) := by
      intro h
      rcases Int.mul_eq_zero.1 h with h | h
      · exact hne h
      · omega
    rw [if_neg hz]
    have : (m + n) * 2 ^ max k l < 0 ↔ m + n < 0 := by
      constructor
      · intro h
        apply Int.not_le.1
        intro h'
        have := Int.mul_nonneg h' (Int.le_of_lt hp)
        omega
      · intro h; exact Int.mul_neg_of_neg_of_pos h hp
    simp [this]

theorem opposite_whole {d : Datum} {n : Int} (hd : Whole d n) : Whole d.opposite (-n) := by
  obtain ⟨s, k, rfl, hs⟩ := hd
  refine ⟨!s, k, by simp [Datum.opposite], fun h => ?_⟩
  have h0 : n ≠ 0 := by omega
  rw [hs h0]
  by_cases hn : n < 0
  · simp [hn]; omega
  · simp [hn]; omega

theorem product_whole {c d : Datum} {m n : Int} (hc : Whole c m) (hd : Whole d n) : ∃ r, c.product d = some r ∧ Whole r (m * n) := by
  obtain ⟨s, k, rfl, hs⟩ := hc
  obtain ⟨t, l, rfl, ht⟩ := hd
  refine ⟨_, rfl, s ^^ t, k + l, ?_, ?_⟩
  · rw [Int.natAbs_mul, Nat.pow_add, show -(k : Int) + -(l : Int) = -((k + l : Nat) : Int) by omega]
    congr 1
    simp only [Nat.mul_assoc, Nat.mul_left_comm]
  · intro hne
    have hm : m ≠ 0 := by intro h; subst h; simp at hne
    have hn : n ≠ 0 := by intro h; subst h; simp at hne
    rw [hs hm, ht hn]
    have hpos : ∀ a b : Int, 0 < a → 0 < b → 0 < a * b := fun a b => Int.mul_pos
    by_cases h1 : m < 0
    · by_cases h2 : n < 0
      · have : 0 < m * n := Int.mul_pos_of_neg_of_neg h1 h2
        simp [h1, h2]; omega
      · have : m * n < 0 := Int.mul_neg_of_neg_of_pos h1 (by omega)
        simp [h1, h2, this]
    · by_cases h2 : n < 0
      · have : m * n < 0 := Int.mul_neg_of_pos_of_neg (by omega) h2
        simp [h1, h2, this]
      · have : 0 < m * n := Int.mul_pos (by omega) (by omega)
        simp [h1, h2]; omega

theorem order_whole {c d : Datum} {m n : Int} (hc : Whole c m) (hd : Whole d n) : c.order d = some (compare m n) := by
  obtain ⟨s, k, rfl, hs⟩ := hc
  obtain ⟨t, l, rfl, ht⟩ := hd
  have e1 : (-(k : Int) - min (-(k : Int)) (-(l : Int))).toNat = max k l - k := by omega
  have e2 : (-(l : Int) - min (-(k : Int)) (-(l : Int))).toNat = max k l - l := by omega
  simp only [Datum.order, e1, e2]
  rw [signed_whole hs, signed_whole ht, show k + (max k l - k) = max k l by omega, show l + (max k l - l) = max k l by omega]
  have hp := pow_int_pos (max k l)
  congr 1
  rcases Int.lt_trichotomy m n with h | h | h
  · rw [Int.compare_eq_lt.2 h, Int.compare_eq_lt]; exact Int.mul_lt_mul_of_pos_right h hp
  · subst h; simp
  · rw [Int.compare_eq_gt.2 h, Int.compare_eq_gt]; exact Int.mul_lt_mul_of_pos_right h hp

theorem integral_whole {d : Datum} {n : Int} (hd : Whole d n) (way : Toward) : ∃ s, d.integral way = .number s n.natAbs 0 ∧ (n ≠ 0 → s = decide (n < 0)) := by
  obtain ⟨s, k, rfl, hs⟩ := hd
  refine ⟨s, ?_, hs⟩
  have e1 : (-(k : Int)).toNat = 0 := by omega
  have e2 : (- -(k : Int)).toNat = k := by omega
  simp only [Datum.integral, e1, e2, Nat.shiftLeft_zero, cut_pow]

theorem toInt_whole {d : Datum} {n : Int} (hd : Whole d n) (way : Toward) : d.toInt way = some n := by
  obtain ⟨s, he, hs⟩ := integral_whole hd way
  unfold Datum.toInt
  rw [he]
  have := signed_whole hs 0 0
  simp at this
  simp [this]

/-- Which words stand for a whole number. -/
theorem rep_inv {b : Nat} {n : Int} (hb : Rep b n) (h : n.natAbs < 2 ^ 53) : b = fl n ∨ (n = 0 ∧ b = 2 ^ 63) := by
  obtain ⟨hlt, s, k, hr, hs⟩ := hb
  unfold Format.read at hr
  have e5 : double.binade = 2 ^ 52 := rfl
  have e6 : double.infRung = 2047 * 2 ^ 52 := rfl
  have e2 : double.leastPlace = -1074 := by decide
  have e7 : double.signWeight = 2 ^ 63 := rfl
  simp only [e5, e6, e2, e7] at hr
  have hw : b = double.word (b / 2 ^ 63 % 2 == 1) (b % 2 ^ 63) := by
    unfold Format.word
    rw [e7]
    have : b / 2 ^ 63 = 0 ∨ b / 2 ^ 63 = 1 := by omega
    rcases this with h | h
    · simp [h]; omega
    · simp [h]; omega
  split at hr
  · rename_i hsub
    injection hr with q1 q2 q3
    have hk : k = 1074 := by omega
    have hz : n.natAbs = 0 := by
      apply Decidable.byContradiction
      intro hne
      have h1 : 1 * 2 ^ k ≤ n.natAbs * 2 ^ k := Nat.mul_le_mul_right _ (by omega)
      have h2 : (2 : Nat) ^ 52 ≤ 2 ^ k := Nat.pow_le_pow_right (by omega) (by omega)
      generalize (2 : Nat) ^ k = X at *
      omega
    have hn : n = 0 := by omega
    subst hn
    have hrz : b % 2 ^ 63 = 0 := by rw [q2]; simp
    rw [hrz] at hw
    by_cases hneg : (b / 2 ^ 63 % 2 == 1) = true
    · right; refine ⟨rfl, ?_⟩; rw [hw, hneg]; rfl
    · left; rw [hw, Bool.eq_false_iff.2 hneg]; rfl
  · split at hr
    · rename_i hnsub hfin
      injection hr with q1 q2 q3
      have hn0 : n.natAbs ≠ 0 := by
        intro h0
        rw [h0] at q2
        simp at q2
      have hn : n ≠ 0 := by omega
      have hl := log2_mul_pow n.natAbs k hn0
      have h52 : (n.natAbs * 2 ^ k).log2 = 52 := by
        rw [Nat.log2_eq_iff (by omega)]
        omega
      have hk : k = 52 - n.natAbs.log2 := by omega
      left
      rw [hw, q1, hs hn, fl_word n hn h]
      congr 1
      unfold rungOf
      rw [← hk, ← q2]
      have : n.natAbs.log2 = 52 - k := by omega
      rw [this]
      omega
    · split at hr <;> simp at hr

theorem rep_fl_iff {b : Nat} {n : Int} (hb : Rep b n) (h : n.natAbs < 2 ^ 53) (h0 : n ≠ 0) : b = fl n := by
  rcases rep_inv hb h with h | h
  · exact h
  · exact absurd h.1 h0

theorem fl_lt (n : Int) (h : n.natAbs < 2 ^ 53) : fl n < 2 ^ 64 := (rep_fl n h).1

theorem rep_unique {b : Nat} {m n : Int} (h1 : Rep b m) (h2 : Rep b n) : m = n := by
  have e1 := toInt_whole h1.2 .zero
  have e2 := toInt_whole h2.2 .zero
  rw [e1] at e2
  exact Option.some.inj e2

theorem fl_inj {m n : Int} (hm : m.natAbs < 2 ^ 53) (hn : n.natAbs < 2 ^ 53) (h : fl m = fl n) : m = n := by
  have h1 := rep_fl m hm
  rw [h] at h1
  exact rep_unique h1 (rep_fl n hn)

theorem rep_add {x y : Nat} {m n : Int} (hx : Rep x m) (hy : Rep y n) (h : (m + n).natAbs < 2 ^ 53) : ∃ r, floatBits .add .f64 x y = some r ∧ Rep r (m + n) := by
  obtain ⟨d, hd, hw⟩ := sum_whole hx.2 hy.2
  have := write_whole hw h
  refine ⟨double.write d, ?_, this.1⟩
  show double.add x y = _
  unfold Format.add
  rw [hd]; rfl

theorem rep_sub {x y : Nat} {m n : Int} (hx : Rep x m) (hy : Rep y n) (h : (m - n).natAbs < 2 ^ 53) : ∃ r, floatBits .sub .f64 x y = some r ∧ Rep r (m - n) := by
  obtain ⟨d, hd, hw⟩ := sum_whole hx.2 (opposite_whole hy.2)
  rw [← Int.sub_eq_add_neg] at hw
  have := write_whole hw h
  refine ⟨double.write d, ?_, this.1⟩
  show double.sub x y = _
  unfold Format.sub
  rw [hd]; rfl

theorem rep_mul {x y : Nat} {m n : Int} (hx : Rep x m) (hy : Rep y n) (h : (m * n).natAbs < 2 ^ 53) : ∃ r, floatBits .mul .f64 x y = some r ∧ Rep r (m * n) := by
  obtain ⟨d, hd, hw⟩ := product_whole hx.2 hy.2
  have := write_whole hw h
  refine ⟨double.write d, ?_, this.1⟩
  show double.mul x y = _
  unfold Format.mul
  rw [hd]; rfl

theorem rep_order {x y : Nat} {m n : Int} (hx : Rep x m) (hy : Rep y n) : FloatKind.f64.format.order x y = some (compare m n) := by
  show double.order x y = _
  unfold Format.order
  exact order_whole hx.2 hy.2

theorem rep_toInt {x : Nat} {n : Int} (hx : Rep x n) (h : n.natAbs < 2 ^ 53) : floatToIntVal .f64 x .i64 = some n := by
  unfold floatToIntVal
  have : (FloatKind.f64.decode x).toInt .zero = some n := toInt_whole hx.2 .zero
  rw [this]
  have e1 : IntKind.i64.min = -9223372036854775808 := by decide
  have e2 : IntKind.i64.max = 9223372036854775807 := by decide
  simp only [e1, e2]
  rw [if_pos (by omega)]

theorem xor_top (r : Nat) (h : r < 2 ^ 63) : r ^^^ 2 ^ 63 = 2 ^ 63 + r := by
  apply Nat.eq_of_testBit_eq
  intro i
  rw [Nat.testBit_xor]
  by_cases h1 : i = 63
  · subst h1
    rw [Nat.testBit_two_pow_add_eq, Nat.testBit_two_pow_self, Nat.testBit_lt_two_pow h]
    rfl
  · by_cases h2 : i < 63
    · rw [Nat.testBit_two_pow_add_gt h2, Nat.testBit_two_pow_of_ne (by omega)]
      simp
    · have h3 : 2 ^ 64 ≤ 2 ^ i := Nat.pow_le_pow_right (by omega) (by omega)
      rw [Nat.testBit_two_pow_of_ne (by omega), Nat.testBit_lt_two_pow (by omega), Nat.testBit_lt_two_pow (by omega)]
      rfl

theorem xor_word (s : Bool) (r : Nat) (h : r < 2 ^ 63) : double.word s r ^^^ 2 ^ 63 = double.word (!s) r := by
  have e : double.signWeight = 2 ^ 63 := rfl
  cases s
  · simp only [Format.word, e, Bool.false_eq_true, if_false, Bool.not_false, if_true]
    exact xor_top r h
  · simp only [Format.word, e, if_true, Bool.not_true, Bool.false_eq_true, if_false]
    rw [← xor_top r h, Nat.xor_assoc, Nat.xor_self, Nat.xor_zero]

theorem rep_neg {x : Nat} {n : Int} (hx : Rep x n) (h : n.natAbs < 2 ^ 53) : Rep (Op.negFloat .f64 x) (-n) := by
  have e : Op.negFloat .f64 x = x ^^^ 2 ^ 63 := rfl
  rw [e]
  rcases rep_inv hx h with rfl | ⟨rfl, rfl⟩
  · by_cases h0 : n = 0
    · subst h0; exact rep_zero true
    · have hr := rungOf_lt n.natAbs (by omega) h
      rw [fl_word n h0 h, xor_word _ _ hr.2]
      have : Rep (double.word (!decide (n < 0)) (rungOf (-n).natAbs)) (-n) := rep_word _ (-n) (by omega) (by omega) (by by_cases hn : n < 0 <;> simp [hn] <;> omega)
      rwa [Int.natAbs_neg] at this
  · have : (2 : Nat) ^ 63 ^^^ 2 ^ 63 = 0 := Nat.xor_self _
    rw [this]; exact rep_zero false

/-- The whole number of a word, cut towards nought. -/
def nb (b : Nat) : Int := ((double.read b).toInt .zero).getD 0

/-- Is the word one of a number's parts? -/
def vp (b : Nat) : Bool := decide ((nb b).natAbs ≤ 16777216) && fl (nb b) == b

theorem vp_true {b : Nat} (h : vp b = true) : (nb b).natAbs ≤ 16777216 ∧ b = fl (nb b) := by
  unfold vp at h
  simp at h
  exact ⟨h.1, h.2.symm⟩

theorem nb_fl (n : Int) (h : n.natAbs < 2 ^ 53) : nb (fl n) = n := by
  unfold nb
  rw [toInt_whole (rep_fl n h).2]; rfl

theorem vp_fl (n : Int) (h : n.natAbs ≤ 16777216) : vp (fl n) = true := by
  unfold vp
  rw [nb_fl n (by omega)]
  simp [h]

/-- What archTrunc gives of a word that is no NaN. -/
def truncBits (b : Nat) : Nat := double.write ((double.read b).integral .zero)

theorem trunc_rep {b : Nat} {n : Int} (hb : Rep b n) (h : n.natAbs < 2 ^ 53) : Rep (truncBits b) n := by
  obtain ⟨s, he, hs⟩ := integral_whole hb.2 .zero
  unfold truncBits
  rw [he]
  have : Whole (.number s n.natAbs 0) n := ⟨s, 0, by simp, hs⟩
  exact (write_whole this h).1

theorem signed_natAbs (s : Bool) (m u : Nat) : (signed s m u).natAbs = m * 2 ^ u := by
  unfold signed
  rw [Nat.shiftLeft_eq]
  cases s <;> simp only [Bool.false_eq_true, if_false, if_true, Int.natAbs_neg, Int.natAbs_natCast]

def leB (o : Option Ordering) : Bool := o == some .lt || o == some .eq

theorem leB_compare (m n : Int) : leB (some (compare m n)) = decide (m ≤ n) := by
  unfold leB
  rcases Int.lt_trichotomy m n with h | h | h
  · rw [Int.compare_eq_lt.2 h]; simp; omega
  · subst h; simp
  · rw [Int.compare_eq_gt.2 h]; simp; omega

theorem most_fl : fl 16777216 = 4715268809856909312 := by decide
theorem least_fl : fl (-16777216) = 13938640846711685120 := by decide

/-- A word within the bounds that is no nought and no whole number's has another one for its whole part. -/
theorem trunc_inv {b : Nat} (hlt : b < 2 ^ 64) (h1 : leB (double.order (fl (-16777216)) b) = true) (h2 : leB (double.order b (fl 16777216)) = true)
    (h3 : (double.order (truncBits b) b == some .eq) = true) : ∃ n : Int, n.natAbs ≤ 16777216 ∧ Rep b n := by
  have m1 := rep_fl (-16777216) (by decide)
  have m2 := rep_fl 16777216 (by decide)
  have key : ∃ (s : Bool) (m k : Nat), double.read b = .number s m (-(k : Int)) ∧ m < 2 ^ 53 := by
    have hM : double.read (fl 16777216) = .number false (2 ^ 52) (-28) := by rw [most_fl]; decide
    have hL : double.read (fl (-16777216)) = .number true (2 ^ 52) (-28) := by rw [least_fl]; decide
    unfold Format.order at h1 h2
    rw [hM] at h2
    rw [hL] at h1
    cases hd : double.read b with
    | nan s t => rw [hd] at h2; simp [Datum.order, leB] at h2
    | infinity s => rw [hd] at h1 h2; cases s <;> simp [Datum.order, leB] at h1 h2
    | number s m i =>
      have hm : m < 2 ^ 53 ∧ (2 ^ 52 ≤ m ∨ i = -1074) := by
        unfold Format.read at hd
        have e5 : double.binade = 2 ^ 52 := rfl
        have e6 : double.infRung = 2047 * 2 ^ 52 := rfl
        have e2 : double.leastPlace = -1074 := by decide
        have e7 : double.signWeight = 2 ^ 63 := rfl
        simp only [e5, e6, e2, e7] at hd
        split at hd
        · injection hd with q1 q2 q3; omega
        · split at hd
          · injection hd with q1 q2 q3; omega
          · split at hd <;> simp at hd
      by_cases hi : i ≤ 0
      · exact ⟨s, m, (-i).toNat, by rw [show -(((-i).toNat : Nat) : Int) = i by omega], hm.1⟩
      · exfalso
        rw [hd] at h1 h2
        have hmm : 2 ^ 52 ≤ m := by omega
        have hb : min i (-28) = -28 := by omega
        have hb' : min (-28) i = -28 := by omega
        simp only [Datum.order, hb, hb'] at h1 h2
        rw [leB_compare] at h1 h2
        have hbig : 2 ^ 53 ≤ m * 2 ^ (i - -28).toNat := by
          have : 2 ^ 1 ≤ 2 ^ (i - -28).toNat := Nat.pow_le_pow_right (by omega) (by omega)
          have := Nat.mul_le_mul hmm this
          omega
        rw [← signed_natAbs s] at hbig
        have c1 : signed false (2 ^ 52) (-28 - -28 : Int).toNat = 4503599627370496 := by decide
        have c2 : signed true (2 ^ 52) (-28 - -28 : Int).toNat = -4503599627370496 := by decide
        rw [c2] at h1
        rw [c1] at h2
        have h1' := of_decide_eq_true h1
        have h2' := of_decide_eq_true h2
        omega
  obtain ⟨s, m, k, hd, hm⟩ := key
  have hcut : ∃ N : Nat, Toward.zero.cut s m k = N ∧ N < 2 ^ 53 := by
    refine ⟨_, rfl, ?_⟩
    unfold Toward.cut
    simp
    exact Nat.lt_of_le_of_lt (Nat.div_le_self _ _) hm
  obtain ⟨N, hN, hN53⟩ := hcut
  have htr : (double.read b).integral .zero = .number s N 0 := by
    rw [hd]
    have e1 : (-(k : Int)).toNat = 0 := by omega
    have e2 : (- -(k : Int)).toNat = k := by omega
    simp only [Datum.integral, e1, e2, Nat.shiftLeft_zero, hN]
  let n : Int := if s then -(N : Int) else N
  have hnN : n.natAbs = N := by show (if s then -(N : Int) else N).natAbs = N; cases s <;> simp
  have hns : n ≠ 0 → s = decide (n < 0) := by
    show (if s then -(N : Int) else (N : Int)) ≠ 0 → s = decide ((if s then -(N : Int) else (N : Int)) < 0)
    cases s <;> simp <;> omega
  have hwh : Whole (.number s N 0) n := ⟨s, 0, by simp [hnN], hns⟩
  have hrep : Rep (truncBits b) n := by
    unfold truncBits
    rw [htr]
    exact (write_whole hwh (by omega)).1
  obtain ⟨_, s', k', hr', hs'⟩ := hrep
  have hb : Rep b n := by
    refine ⟨hlt, ?_⟩
    unfold Format.order at h3
    rw [hr', hd] at h3
    have e1 : (-(k' : Int) - min (-(k' : Int)) (-(k : Int))).toNat = max k' k - k' := by omega
    have e2 : (-(k : Int) - min (-(k' : Int)) (-(k : Int))).toNat = max k' k - k := by omega
    simp only [Datum.order, e1, e2] at h3
    rw [signed_whole hs', show k' + (max k' k - k') = max k' k by omega] at h3
    have h4 : n * 2 ^ max k' k = signed s m (max k' k - k) := by
      have : compare (n * 2 ^ max k' k) (signed s m (max k' k - k)) = .eq := by simpa using h3
      exact Int.compare_eq_eq.1 this
    have h5 : (n * 2 ^ max k' k).natAbs = m * 2 ^ (max k' k - k) := by
      rw [h4]; exact signed_natAbs s m _
    rw [natAbs_mul_pow] at h5
    have h6 : m = n.natAbs * 2 ^ k := by
      have h7 : n.natAbs * 2 ^ k * 2 ^ (max k' k - k) = m * 2 ^ (max k' k - k) := by
        rw [Nat.mul_assoc, ← Nat.pow_add, show k + (max k' k - k) = max k' k by omega]; exact h5
      exact (Nat.eq_of_mul_eq_mul_right (Nat.two_pow_pos _) h7).symm
    rw [hd, h6]
    exact ⟨s, k, rfl, hns⟩
  refine ⟨n, ?_, hb⟩
  have o1 := rep_order m1 hb
  have o2 := rep_order hb m2
  rw [show double.order (fl (-16777216)) b = _ from o1, leB_compare] at h1
  rw [show double.order b (fl 16777216) = _ from o2, leB_compare] at h2
  simp at h1 h2
  omega

/-- What the code asks of a part. -/
def codeVp (b : Nat) : Bool :=
  if double.order b 0 == some .eq then decide (b < 2 ^ 63)
  else leB (double.order (fl (-16777216)) b) && leB (double.order b (fl 16777216)) && double.order (truncBits b) b == some .eq

theorem order_zero_eq {b : Nat} (hlt : b < 2 ^ 63) (h : (double.order b 0 == some .eq) = true) : b = 0 := by
  have hz : double.read 0 = .number false 0 (-1074) := by decide
  unfold Format.order at h
  rw [hz] at h
  unfold Format.read at h
  have e5 : double.binade = 2 ^ 52 := rfl
  have e6 : double.infRung = 2047 * 2 ^ 52 := rfl
  have e2 : double.leastPlace = -1074 := by decide
  have e7 : double.signWeight = 2 ^ 63 := rfl
  simp only [e5, e6, e2, e7] at h
  have hn : (b / 2 ^ 63 % 2 == 1) = false := by
    have : b / 2 ^ 63 = 0 := by omega
    simp [this]
  have hr : b % 2 ^ 63 = b := by omega
  rw [hn, hr] at h
  have hzero : ∀ u, signed false 0 u = 0 := by intro u; simp [signed]
  split at h
  · simp only [Datum.order, hzero, Int.min_self, Int.sub_self, Int.toNat_zero] at h
    have : compare (signed false b 0) 0 = .eq := by simpa using h
    have := Int.compare_eq_eq.1 this
    simp [signed] at this
    exact this
  · split at h
    · exfalso
      rename_i c1 c2
      simp only [Datum.order, hzero] at h
      have h' := Int.compare_eq_eq.1 (by simpa using h)
      have h2 := congrArg Int.natAbs h'
      rw [signed_natAbs] at h2
      rcases Nat.mul_eq_zero.1 h2 with h3 | h3
      · omega
      · exact absurd h3 (Nat.ne_of_gt (Nat.two_pow_pos _))
    · exfalso
      split at h <;> simp [Datum.order] at h

theorem codeVp_eq (b : Nat) (hlt : b < 2 ^ 64) : codeVp b = vp b := by
  have m1 := rep_fl (-16777216) (by decide)
  have m2 := rep_fl 16777216 (by decide)
  have rz : Rep 0 0 := rep_zero false
  cases hv : vp b with
  | true =>
    obtain ⟨hn, hb⟩ := vp_true hv
    have hr : Rep b (nb b) := by rw [hb, nb_fl _ (by omega)]; exact rep_fl _ (by omega)
    unfold codeVp
    by_cases h0 : nb b = 0
    · have hb0 : b = 0 := by rw [hb, h0]; rfl
      subst hb0
      rw [show double.order 0 0 = _ from rep_order rz rz]
      simp
    · rw [show double.order b 0 = _ from rep_order hr rz]
      have : (some (compare (nb b) 0) == some .eq) = false := by
        rw [Bool.eq_false_iff]
        intro h
        exact h0 (Int.compare_eq_eq.1 (by simpa using h))
      rw [this]
      simp only [Bool.false_eq_true, if_false]
      rw [show double.order (fl (-16777216)) b = _ from rep_order m1 hr, show double.order b (fl 16777216) = _ from rep_order hr m2,
        show double.order (truncBits b) b = _ from rep_order (trunc_rep hr (by omega)) hr, leB_compare, leB_compare]
      simp
      omega
  | false =>
    unfold codeVp
    by_cases hz : (double.order b 0 == some .eq) = true
    · rw [if_pos hz]
      simp
      apply Decidable.byContradiction
      intro hc
      have := order_zero_eq (by omega) hz
      subst this
      have : vp 0 = true := vp_fl 0 (by decide)
      rw [hv] at this
      cases this
    · rw [if_neg hz]
      rw [Bool.eq_false_iff]
      intro hc
      simp only [Bool.and_eq_true] at hc
      obtain ⟨⟨h1, h2⟩, h3⟩ := hc
      obtain ⟨n, hn, hr⟩ := trunc_inv hlt h1 h2 h3
      have h0 : n ≠ 0 := by
        intro h0
        subst h0
        rw [show double.order b 0 = _ from rep_order hr rz] at hz
        simp at hz
      have hb := rep_fl_iff hr (by omega) h0
      have : vp b = true := by rw [hb]; exact vp_fl n hn
      rw [hv] at this
      cases this

theorem bound_mul {a b : Int} {A B : Nat} (ha : a.natAbs ≤ A) (hb : b.natAbs ≤ B) : (a * b).natAbs ≤ A * B := by
  rw [Int.natAbs_mul]; exact Nat.mul_le_mul ha hb

/-- A sum of complex numbers, part by part. -/
theorem rep_csum {a b c d : Nat} {p q r s : Int} (ha : Rep a p) (hb : Rep b q) (hc : Rep c r) (hd : Rep d s) (h1 : (p + r).natAbs < 2 ^ 53) (h2 : (q + s).natAbs < 2 ^ 53) :
    ∃ re im, cSumBits .add .f64 a b c d = some (re, im) ∧ Rep re (p + r) ∧ Rep im (q + s) := by
  obtain ⟨x, hx, rx⟩ := rep_add ha hc h1
  obtain ⟨y, hy, ry⟩ := rep_add hb hd h2
  exact ⟨x, y, by simp [cSumBits, hx, hy], rx, ry⟩

theorem rep_cdiff {a b c d : Nat} {p q r s : Int} (ha : Rep a p) (hb : Rep b q) (hc : Rep c r) (hd : Rep d s) (h1 : (p - r).natAbs < 2 ^ 53) (h2 : (q - s).natAbs < 2 ^ 53) :
    ∃ re im, cSumBits .sub .f64 a b c d = some (re, im) ∧ Rep re (p - r) ∧ Rep im (q - s) := by
  obtain ⟨x, hx, rx⟩ := rep_sub ha hc h1
  obtain ⟨y, hy, ry⟩ := rep_sub hb hd h2
  exact ⟨x, y, by simp [cSumBits, hx, hy], rx, ry⟩

/-- A product of complex numbers whose parts are within the bounds. -/
theorem rep_cmul {a b c d : Nat} {p q r s : Int} (ha : Rep a p) (hb : Rep b q) (hc : Rep c r) (hd : Rep d s)
    (hp : p.natAbs ≤ 16777216) (hq : q.natAbs ≤ 16777216) (hr : r.natAbs ≤ 16777216) (hs : s.natAbs ≤ 16777216) :
    ∃ re im, cMulBits a b c d = some (re, im) ∧ Rep re (p * r - q * s) ∧ Rep im (p * s + q * r) := by
  have b1 := bound_mul hp hr
  have b2 := bound_mul hq hs
  have b3 := bound_mul hp hs
  have b4 := bound_mul hq hr
  obtain ⟨x1, e1, r1⟩ := rep_mul ha hc (by omega)
  obtain ⟨x2, e2, r2⟩ := rep_mul hb hd (by omega)
  obtain ⟨x3, e3, r3⟩ := rep_sub r1 r2 (by omega)
  obtain ⟨x4, e4, r4⟩ := rep_mul ha hd (by omega)
  obtain ⟨x5, e5, r5⟩ := rep_mul hb hc (by omega)
  obtain ⟨x6, e6, r6⟩ := rep_add r4 r5 (by omega)
  exact ⟨x3, x6, by simp [cMulBits, e1, e2, e3, e4, e5, e6], r3, r6⟩
end Go.Proofs.YtndgglhppoijnaaGreatDoor
/-
  The walks of the small functions: what a float's bits are, whether a part is one, whether a number is one.
-/
namespace Go.Proofs.YtndgglhppoijnaaGreatDoor
open Go.RowKit
open Ieee

theorem run_bits (b : Nat) (w : World) : (callFunc 158 #[.float .f64 b]).run Tryz.prog w = .ok (.value (.int .u64 b)) w := by
  rw [run_callFunc_extern (e := Extern.MathFloatBits.float64bits) Tryz.func158 (by kernel_rfl) (by kernel_rfl) (by kernel_rfl) (by kernel_rfl)]
  rfl

theorem run_frombits (n : Int) (w : World) : (callFunc 173 #[.int .u64 n]).run Tryz.prog w = .ok (.value (.float .f64 n.toNat)) w := by
  rw [run_callFunc_extern (e := Extern.MathFloatBits.float64frombits) Tryz.func173 (by kernel_rfl) (by kernel_rfl) (by kernel_rfl) (by kernel_rfl)]
  rfl

theorem run_trunc (b : Nat) (w : World) (h : (double.read b).isNaN = false) : (callFunc 159 #[.float .f64 b]).run Tryz.prog w = .ok (.value (.float .f64 (truncBits b))) w := by
  rw [run_callFunc_extern (e := Extern.MathFloor.toIntegral "math.archTrunc" .zero) Tryz.func159 (by kernel_rfl) (by kernel_rfl) (by kernel_rfl) (by kernel_rfl)]
  have : (Extern.MathFloor.toIntegral "math.archTrunc" .zero #[.float .f64 b]) = pure (.float .f64 (truncBits b)) := by
    have e : FloatKind.f64.decode b = double.read b := rfl
    have h3 : truncBits b = FloatKind.f64.encode ((FloatKind.f64.decode b).integral .zero) := rfl
    rw [h3]
    rw [← e] at h
    delta Extern.MathFloor.toIntegral
    unfold Extern.MathFloor.toIntegral.match_2
    dsimp
    have g : (#[Value.float FloatKind.f64 b].getLit 0 rfl Nat.zero_lt_one) = Value.float .f64 b := rfl
    rw [g]
    dsimp only [Extern.MathFloor.toIntegral._sparseCasesOn_2, Extern.MathFloor.toIntegral._sparseCasesOn_3]
    cases hd : FloatKind.f64.decode b with
    | nan s t => rw [hd] at h; simp [Datum.isNaN] at h
    | infinity s => rfl
    | number s m i => rfl
  rw [this]
  rfl

theorem f64_double : FloatKind.f64.format = double := rfl
theorem ret_bool {a b : Bool} (h : a = b) : Ending.returned (.bool a) = .returned (.bool b) := by rw [h]

set_option maxHeartbeats 400000 in
theorem within_any (b : Nat) (w : World) :
    Calls Tryz.prog 149 #[.float .f64 b] w fun e w' => e = .returned (.bool (leB (double.order (fl (-16777216)) b) && leB (double.order b (fl 16777216)))) ∧ w' = w := by
  rw [most_fl, least_fl]
  go_enter Tryz.func149, Tryz.ntmps149
  go_wp2
  all_goals (go_ret; refine ⟨ret_bool ?_, rfl⟩; simp_all [leB, f64_double])

set_option maxHeartbeats 400000 in
theorem signbit_any (b : Nat) (w : World) (hb : b < 2 ^ 64) :
    Calls Tryz.prog 148 #[.float .f64 b] w fun e w' => e = .returned (.bool (decide (2 ^ 63 ≤ b))) ∧ w' = w := by
  have hr := run_bits b
  go_enter Tryz.func148, Tryz.ntmps148
  go_wp2
  go_ret
  refine ⟨ret_bool ?_, rfl⟩
  unfold wrap64
  rw [decide_eq_decide]
  omega

set_option maxHeartbeats 400000 in
theorem trunc_any (b : Nat) (w : World) (h : (double.read b).isNaN = false) :
    Calls Tryz.prog 150 #[.float .f64 b] w fun e w' => e = .returned (.float .f64 (truncBits b)) ∧ w' = w := by
  have hr := fun w => run_trunc b w h
  go_enter Tryz.func150, Tryz.ntmps150
  go_wp2
  go_ret
  exact ⟨rfl, rfl⟩

theorem not_nan_of_le {x y : Nat} (h : leB (double.order x y) = true) : (double.read y).isNaN = false := by
  unfold Format.order at h
  cases hy : double.read y with
  | nan s t => rw [hy] at h; cases hx : double.read x <;> rw [hx] at h <;> simp [Datum.order, leB] at h
  | infinity s => rfl
  | number s m i => rfl

set_option maxHeartbeats 400000 in
theorem validPart_any (b : Nat) (w : World) (hb : b < 2 ^ 64) :
    Calls Tryz.prog 140 #[.float .f64 b] w fun e w' => e = .returned (.bool (vp b)) ∧ w' = w := by
  have key : Hid (codeVp b = vp b) := codeVp_eq b hb
  by_cases hz : (double.order b 0 == some .eq) = true
  · have hz' : (FloatKind.f64.format.order b 0 == some .eq) = true := hz
    go_enter Tryz.func140, Tryz.ntmps140
    go_wp2_with (go_at_call 148; refine (signbit_any b _ hb).mono ?_; rintro e w' ⟨rfl, rfl⟩)
    go_ret
    refine ⟨ret_bool ?_, rfl⟩
    rw [← key.out]
    unfold codeVp
    rw [if_pos hz]
    have : (!decide (2 ^ 63 ≤ b)) = decide (b < 2 ^ 63) := by rw [← decide_not, decide_eq_decide]; omega
    exact this
  · have hz' : (FloatKind.f64.format.order b 0 == some .eq) = false := by simpa [f64_double] using hz
    by_cases hw : (leB (double.order (fl (-16777216)) b) && leB (double.order b (fl 16777216))) = true
    · have hn : (double.read b).isNaN = false := not_nan_of_le (by simp at hw; exact hw.1)
      go_enter Tryz.func140, Tryz.ntmps140
      go_wp2_with (first | (go_at_call 149; refine (within_any b _).mono ?_; rintro e w' ⟨rfl, rfl⟩) | (go_at_call 150; refine (trunc_any b _ hn).mono ?_; rintro e w' ⟨rfl, rfl⟩))
      go_ret
      refine ⟨ret_bool ?_, rfl⟩
      rw [← key.out]
      unfold codeVp
      rw [if_neg hz, hw]
      simp [f64_double]
    · have hw' : (leB (double.order (fl (-16777216)) b) && leB (double.order b (fl 16777216))) = false := by simpa using hw
      go_enter Tryz.func140, Tryz.ntmps140
      go_wp2_with (first | (go_at_call 149; refine (within_any b _).mono ?_; rintro e w' ⟨rfl, rfl⟩))
      go_ret
      refine ⟨ret_bool ?_, rfl⟩
      rw [← key.out]
      unfold codeVp
      rw [if_neg hz, hw']
      simp

set_option maxHeartbeats 400000 in
theorem valid_any (a b : Nat) (w : World) (ha : a < 2 ^ 64) (hb : b < 2 ^ 64) :
    Calls Tryz.prog 126 #[.complex .f64 a b] w fun e w' => e = .returned (.bool (vp a && vp b)) ∧ w' = w := by
  by_cases h : vp a = true
  · go_enter Tryz.func126, Tryz.ntmps126
    go_wp2_with (go_at_call 140; refine (validPart_any _ _ (by assumption)).mono ?_; rintro e w' ⟨rfl, rfl⟩)
    go_ret
    exact ⟨ret_bool (by simp [h]), rfl⟩
  · have h' : vp a = false := by simpa using h
    go_enter Tryz.func126, Tryz.ntmps126
    go_wp2_with (go_at_call 140; refine (validPart_any _ _ (by assumption)).mono ?_; rintro e w' ⟨rfl, rfl⟩)
    go_ret
    exact ⟨ret_bool (by simp [h']), rfl⟩

/-- A whole number within the bounds. -/
def inB (n : Int) : Bool := decide (n.natAbs ≤ 16777216)

theorem fl_conv (n : Int) : floatOfInt .f64 n = fl n := rfl

set_option maxHeartbeats 400000 in
theorem make_yes (x y : Int) (w : World) (hx : x.natAbs ≤ 16777216) (hy : y.natAbs ≤ 16777216) :
    Calls Tryz.prog 69 #[.int .i64 x, .int .i64 y] w fun e w' => e = .returned (.tuple #[.complex .f64 (fl x) (fl y), .int .i64 0]) ∧ w' = w := by
  have h1 : ¬ x < -16777216 := by omega
  have h2 : ¬ 16777216 < x := by omega
  have h3 : ¬ y < -16777216 := by omega
  have h4 : ¬ 16777216 < y := by omega
  clear hx hy
  go_enter Tryz.func69, Tryz.ntmps69
  go_wp2
  go_ret2
  exact ⟨rfl, rfl⟩

set_option maxHeartbeats 400000 in
theorem make_no (x y : Int) (w : World) (h : ¬ (x.natAbs ≤ 16777216 ∧ y.natAbs ≤ 16777216)) :
    Calls Tryz.prog 69 #[.int .i64 x, .int .i64 y] w fun e w' => e = .returned (.tuple #[.complex .f64 0 0, .int .i64 2]) ∧ w' = w := by
  have h1 : x < -16777216 ∨ 16777216 < x ∨ y < -16777216 ∨ 16777216 < y := by omega
  clear h
  go_enter Tryz.func69, Tryz.ntmps69
  go_wp2
  all_goals first | (go_ret2; exact ⟨rfl, rfl⟩) | (exfalso; omega)

/-- What settle answers of a whole complex number. -/
def okC (x y : Int) : Bool := decide (x.natAbs ≤ 16777216) && decide (y.natAbs ≤ 16777216)

theorem within_rep {b : Nat} {n : Int} (hb : Rep b n) : (leB (double.order (fl (-16777216)) b) && leB (double.order b (fl 16777216))) = inB n := by
  have m1 := rep_fl (-16777216) (by decide)
  have m2 := rep_fl 16777216 (by decide)
  rw [show double.order (fl (-16777216)) b = _ from rep_order m1 hb, show double.order b (fl 16777216) = _ from rep_order hb m2, leB_compare, leB_compare]
  unfold inB
  rw [← Bool.decide_and, decide_eq_decide]
  omega

theorem within_rep_any {b : Nat} {n : Int} (hb : Rep b n) (w : World) :
    Calls Tryz.prog 149 #[.float .f64 b] w fun e w' => e = .returned (.bool (inB n)) ∧ w' = w := by
  rw [← within_rep hb]; exact within_any b w

/-- What an operation answers: the number, or that it is too great. -/
def ansV (x y : Int) : Value := if okC x y then .complex .f64 (fl x) (fl y) else .complex .f64 0 0
def ansE (x y : Int) : Int := if okC x y then 0 else 50

/-- Bit by bit the same. -/
def same (a b c d : Nat) : Bool := decide (a = c ∧ b = d)

theorem same_refl (a b : Nat) : same a b a b = true := by simp [same]

end Go.Proofs.YtndgglhppoijnaaGreatDoor
/-
  The walks of sums, products and of a number out of its parts.
-/
namespace Go.Proofs.YtndgglhppoijnaaGreatDoor
open Go.RowKit
open Ieee

/-- Both are numbers. -/
def valid4 (a b c d : Nat) : Bool := (vp a && vp b) && (vp c && vp d)

/-- The parts of a sum, and of a product. -/
def addX (p _q r _s : Int) : Int := p + r
def addY (_p q _r s : Int) : Int := q + s
def mulX (p q r s : Int) : Int := p * r - q * s
def mulY (p q r s : Int) : Int := p * s + q * r

def opE (X Y : Int → Int → Int → Int → Int) (a b c d : Nat) : Int :=
  if valid4 a b c d then (if okC (X (nb a) (nb b) (nb c) (nb d)) (Y (nb a) (nb b) (nb c) (nb d)) then 0 else 50) else 3
def opR (X Y : Int → Int → Int → Int → Int) (a b c d : Nat) : Nat :=
  if opE X Y a b c d = 0 then fl (X (nb a) (nb b) (nb c) (nb d)) else 0
def opI (X Y : Int → Int → Int → Int → Int) (a b c d : Nat) : Nat :=
  if opE X Y a b c d = 0 then fl (Y (nb a) (nb b) (nb c) (nb d)) else 0

theorem okC_iff {x y : Int} : okC x y = true ↔ x.natAbs ≤ 16777216 ∧ y.natAbs ≤ 16777216 := by
  unfold okC; simp

theorem opE_zero {X Y : Int → Int → Int → Int → Int} {a b c d : Nat} (h : opE X Y a b c d = 0) : valid4 a b c d = true ∧ okC (X (nb a) (nb b) (nb c) (nb d)) (Y (nb a) (nb b) (nb c) (nb d)) = true := by
  unfold opE at h
  split at h
  · split at h
    · constructor <;> assumption
    · omega
  · omega

theorem opR_lt (X Y : Int → Int → Int → Int → Int) (a b c d : Nat) : opR X Y a b c d < 2 ^ 64 := by
  unfold opR
  split
  · rename_i h
    have := okC_iff.1 (opE_zero h).2
    exact fl_lt _ (by omega)
  · decide

theorem opI_lt (X Y : Int → Int → Int → Int → Int) (a b c d : Nat) : opI X Y a b c d < 2 ^ 64 := by
  unfold opI
  split
  · rename_i h
    have := okC_iff.1 (opE_zero h).2
    exact fl_lt _ (by omega)
  · decide

/-- The answer of an operation, whatever the words. -/
def opAns (X Y : Int → Int → Int → Int → Int) (a b c d : Nat) : Ending :=
  .returned (.tuple #[.complex .f64 (opR X Y a b c d) (opI X Y a b c d), .int .i64 (opE X Y a b c d)])

theorem opAns_bad {X Y : Int → Int → Int → Int → Int} {a b c d : Nat} (h : valid4 a b c d = false) : opAns X Y a b c d = .returned (.tuple #[.complex .f64 0 0, .int .i64 3]) := by
  have e : opE X Y a b c d = 3 := by unfold opE; rw [h]; rfl
  unfold opAns opR opI
  rw [e]; rfl

theorem opAns_good {X Y : Int → Int → Int → Int → Int} {a b c d : Nat} (h : valid4 a b c d = true) {x y : Int} (hx : X (nb a) (nb b) (nb c) (nb d) = x) (hy : Y (nb a) (nb b) (nb c) (nb d) = y) :
    opAns X Y a b c d = .returned (.tuple #[ansV x y, .int .i64 (ansE x y)]) := by
  subst hx hy
  unfold opAns opR opI ansV ansE
  cases ho : okC (X (nb a) (nb b) (nb c) (nb d)) (Y (nb a) (nb b) (nb c) (nb d)) with
  | true =>
    have e : opE X Y a b c d = 0 := by unfold opE; rw [h, ho]; rfl
    rw [e]; rfl
  | false =>
    have e : opE X Y a b c d = 50 := by unfold opE; rw [h, ho]; rfl
    rw [e]; rfl

theorem vp_rep {b : Nat} (h : vp b = true) : Rep b (nb b) ∧ (nb b).natAbs ≤ 16777216 := by
  obtain ⟨h1, h2⟩ := vp_true h
  refine ⟨?_, h1⟩
  have := rep_fl (nb b) (by omega)
  rwa [← h2] at this

theorem valid4_parts {a b c d : Nat} (h : valid4 a b c d = true) : vp a = true ∧ vp b = true ∧ vp c = true ∧ vp d = true := by
  unfold valid4 at h
  simp at h
  exact ⟨h.1.1, h.1.2, h.2.1, h.2.2⟩

/-- What Valid answers. -/
def vc (a b : Nat) : Bool := vp a && vp b

theorem valid_vc (a b : Nat) (w : World) (ha : a < 2 ^ 64) (hb : b < 2 ^ 64) :
    Calls Tryz.prog 126 #[.complex .f64 a b] w fun e w' => e = .returned (.bool (vc a b)) ∧ w' = w := valid_any a b w ha hb

theorem valid4_vc (a b c d : Nat) : valid4 a b c d = (vc a b && vc c d) := rfl

/-- The bits that Z takes of a part. -/
def zb (raw : Bool) (n : Int) : Nat := if raw then (IntKind.u64.wrap n).toNat else fl n

theorem wrap_u64_lt (n : Int) : (IntKind.u64.wrap n).toNat < 2 ^ 64 := by
  have hs : IntKind.u64.signed = false := rfl
  have h : IntKind.u64.wrap n = n % 18446744073709551616 := by simp [go_sem, IntKind.wrap, hs]
  rw [h]; omega

theorem nearest_lt64 (s : Bool) (m : Nat) (i : Int) : double.nearest s m i < 2 ^ 64 := double.nearest_lt s m i

theorem zb_lt (raw : Bool) (n : Int) : zb raw n < 2 ^ 64 := by
  unfold zb
  split
  · exact wrap_u64_lt n
  · exact nearest_lt64 _ _ _

end Go.Proofs.YtndgglhppoijnaaGreatDoor
/-
  The walk of the quotient.
-/
namespace Go.Proofs.YtndgglhppoijnaaGreatDoor
open Go.RowKit
open Ieee

/-- The divisor's norm, and the dividend times the divisor's conjugate. -/
def qN (r s : Int) : Int := r * r - s * -s
def qX (p q r s : Int) : Int := p * r - q * -s
def qY (p q r s : Int) : Int := p * -s + q * r

/-- Does the divisor divide? -/
def quoT (p q r s : Int) : Bool := decide ((qX p q r s).tmod (qN r s) = 0) && decide ((qY p q r s).tmod (qN r s) = 0)

def quoE (a b c d : Nat) : Int :=
  if valid4 a b c d then
    (if nb c = 0 ∧ nb d = 0 then 51 else
      if quoT (nb a) (nb b) (nb c) (nb d) then
        (if okC ((qX (nb a) (nb b) (nb c) (nb d)).tdiv (qN (nb c) (nb d))) ((qY (nb a) (nb b) (nb c) (nb d)).tdiv (qN (nb c) (nb d))) then 0 else 50)
      else 51)
  else 3
def quoR (a b c d : Nat) : Nat := if quoE a b c d = 0 then fl ((qX (nb a) (nb b) (nb c) (nb d)).tdiv (qN (nb c) (nb d))) else 0
def quoI (a b c d : Nat) : Nat := if quoE a b c d = 0 then fl ((qY (nb a) (nb b) (nb c) (nb d)).tdiv (qN (nb c) (nb d))) else 0

def quoAns (a b c d : Nat) : Ending := .returned (.tuple #[.complex .f64 (quoR a b c d) (quoI a b c d), .int .i64 (quoE a b c d)])

theorem quoE_zero {a b c d : Nat} (h : quoE a b c d = 0) : valid4 a b c d = true ∧ ¬ (nb c = 0 ∧ nb d = 0) ∧ quoT (nb a) (nb b) (nb c) (nb d) = true ∧
    okC ((qX (nb a) (nb b) (nb c) (nb d)).tdiv (qN (nb c) (nb d))) ((qY (nb a) (nb b) (nb c) (nb d)).tdiv (qN (nb c) (nb d))) = true := by
  unfold quoE at h
  split at h
  · split at h
    · omega
    · split at h
      · split at h
        · refine ⟨?_, ?_, ?_, ?_⟩ <;> assumption
        · omega
      · omega
  · omega

theorem quoR_lt (a b c d : Nat) : quoR a b c d < 2 ^ 64 := by
  unfold quoR
  split
  · rename_i h
    have := okC_iff.1 (quoE_zero h).2.2.2
    exact fl_lt _ (by omega)
  · decide
theorem quoI_lt (a b c d : Nat) : quoI a b c d < 2 ^ 64 := by
  unfold quoI
  split
  · rename_i h
    have := okC_iff.1 (quoE_zero h).2.2.2
    exact fl_lt _ (by omega)
  · decide

theorem quoAns_of {a b c d : Nat} {e : Int} (h : quoE a b c d = e) (h0 : e ≠ 0) : quoAns a b c d = .returned (.tuple #[.complex .f64 0 0, .int .i64 e]) := by
  unfold quoAns quoR quoI
  rw [h, if_neg h0, if_neg h0]

theorem quoAns_good {a b c d : Nat} (h : valid4 a b c d = true) (h0 : ¬ (nb c = 0 ∧ nb d = 0)) (ht : quoT (nb a) (nb b) (nb c) (nb d) = true) {x y : Int}
    (hx : (qX (nb a) (nb b) (nb c) (nb d)).tdiv (qN (nb c) (nb d)) = x) (hy : (qY (nb a) (nb b) (nb c) (nb d)).tdiv (qN (nb c) (nb d)) = y) :
    quoAns a b c d = .returned (.tuple #[ansV x y, .int .i64 (ansE x y)]) := by
  unfold quoAns quoR quoI ansV ansE
  cases ho : okC x y with
  | true =>
    have e : quoE a b c d = 0 := by unfold quoE; rw [h, ht, hx, hy, ho, if_neg h0]; rfl
    rw [e, hx, hy]; rfl
  | false =>
    have e : quoE a b c d = 50 := by unfold quoE; rw [h, ht, hx, hy, ho, if_neg h0]; rfl
    rw [e]; rfl

theorem rep_conv (n : Int) (h : n.natAbs ≤ 562949953421312) : Rep (floatOfInt .f64 n) n := by rw [fl_conv]; exact rep_fl n (by omega)

theorem order_zero_rep {b : Nat} {n : Int} (h : Rep b n) : (FloatKind.f64.format.order b 0 == some .eq) = decide (n = 0) := by
  rw [rep_order h (show Rep 0 0 from rep_zero false)]
  by_cases h0 : n = 0
  · subst h0; simp
  · rw [decide_eq_false h0, Bool.eq_false_iff]
    intro hc
    exact h0 (Int.compare_eq_eq.1 (by simpa using hc))

theorem sq_bounds (n : Int) (h : n.natAbs ≤ 16777216) : 0 ≤ n * n ∧ n * n ≤ 281474976710656 ∧ (n ≠ 0 → 0 < n * n) := by
  have b := bound_mul h h
  have e : 0 ≤ n * n := by rw [← Int.natAbs_mul_self]; omega
  refine ⟨e, by omega, fun h0 => ?_⟩
  rcases Int.lt_trichotomy n 0 with h1 | h1 | h1
  · exact Int.mul_pos_of_neg_of_neg h1 h1
  · omega
  · exact Int.mul_pos h1 h1

end Go.Proofs.YtndgglhppoijnaaGreatDoor
/-
  What follows of the answers of sums and products: they hang on no grouping, and a product of a sum is the sum of the products.
-/
namespace Go.Proofs.YtndgglhppoijnaaGreatDoor
open Go.RowKit
open Ieee

theorem op_congr {X Y X' Y' : Int → Int → Int → Int → Int} {a b c d a' b' c' d' : Nat} (hv : valid4 a b c d = valid4 a' b' c' d')
    (hx : X (nb a) (nb b) (nb c) (nb d) = X' (nb a') (nb b') (nb c') (nb d')) (hy : Y (nb a) (nb b) (nb c) (nb d) = Y' (nb a') (nb b') (nb c') (nb d')) :
    opE X Y a b c d = opE X' Y' a' b' c' d' ∧ opR X Y a b c d = opR X' Y' a' b' c' d' ∧ opI X Y a b c d = opI X' Y' a' b' c' d' := by
  have e : opE X Y a b c d = opE X' Y' a' b' c' d' := by unfold opE; rw [hv, hx, hy]
  exact ⟨e, by unfold opR; rw [e, hx], by unfold opI; rw [e, hy]⟩

theorem op_res {X Y : Int → Int → Int → Int → Int} {a b c d : Nat} (h : opE X Y a b c d = 0) :
    vp (opR X Y a b c d) = true ∧ vp (opI X Y a b c d) = true ∧ nb (opR X Y a b c d) = X (nb a) (nb b) (nb c) (nb d) ∧ nb (opI X Y a b c d) = Y (nb a) (nb b) (nb c) (nb d) := by
  obtain ⟨h1, h2⟩ := okC_iff.1 (opE_zero h).2
  unfold opR opI
  rw [if_pos h, if_pos h]
  exact ⟨vp_fl _ h1, vp_fl _ h2, nb_fl _ (by omega), nb_fl _ (by omega)⟩

theorem valid4_mk {a b c d : Nat} (h1 : vp a = true) (h2 : vp b = true) (h3 : vp c = true) (h4 : vp d = true) : valid4 a b c d = true := by
  unfold valid4; rw [h1, h2, h3, h4]; rfl

theorem add_three {a b c d e f : Nat} (h1 : opE addX addY a b c d = 0) (h2 : opE addX addY c d e f = 0) :
    opE addX addY (opR addX addY a b c d) (opI addX addY a b c d) e f = opE addX addY a b (opR addX addY c d e f) (opI addX addY c d e f) ∧
    opR addX addY (opR addX addY a b c d) (opI addX addY a b c d) e f = opR addX addY a b (opR addX addY c d e f) (opI addX addY c d e f) ∧
    opI addX addY (opR addX addY a b c d) (opI addX addY a b c d) e f = opI addX addY a b (opR addX addY c d e f) (opI addX addY c d e f) := by
  obtain ⟨r1, r2, r3, r4⟩ := op_res h1
  obtain ⟨s1, s2, s3, s4⟩ := op_res h2
  obtain ⟨v1, v2, v3, v4⟩ := valid4_parts (opE_zero h1).1
  obtain ⟨_, _, v5, v6⟩ := valid4_parts (opE_zero h2).1
  apply op_congr
  · rw [valid4_mk r1 r2 v5 v6, valid4_mk v1 v2 s1 s2]
  · rw [r3, s3]; simp only [addX]; omega
  · rw [r4, s4]; simp only [addY]; omega

theorem mul_three {a b c d e f : Nat} (h1 : opE mulX mulY a b c d = 0) (h2 : opE mulX mulY c d e f = 0) :
    opE mulX mulY (opR mulX mulY a b c d) (opI mulX mulY a b c d) e f = opE mulX mulY a b (opR mulX mulY c d e f) (opI mulX mulY c d e f) ∧
    opR mulX mulY (opR mulX mulY a b c d) (opI mulX mulY a b c d) e f = opR mulX mulY a b (opR mulX mulY c d e f) (opI mulX mulY c d e f) ∧
    opI mulX mulY (opR mulX mulY a b c d) (opI mulX mulY a b c d) e f = opI mulX mulY a b (opR mulX mulY c d e f) (opI mulX mulY c d e f) := by
  obtain ⟨r1, r2, r3, r4⟩ := op_res h1
  obtain ⟨s1, s2, s3, s4⟩ := op_res h2
  obtain ⟨v1, v2, v3, v4⟩ := valid4_parts (opE_zero h1).1
  obtain ⟨_, _, v5, v6⟩ := valid4_parts (opE_zero h2).1
  apply op_congr
  · rw [valid4_mk r1 r2 v5 v6, valid4_mk v1 v2 s1 s2]
  · rw [r3, r4, s3, s4]; simp only [mulX, mulY, Int.sub_mul, Int.mul_sub, Int.add_mul, Int.mul_add, Int.mul_assoc]; omega
  · rw [r3, r4, s3, s4]; simp only [mulX, mulY, Int.sub_mul, Int.mul_sub, Int.add_mul, Int.mul_add, Int.mul_assoc]; omega

theorem mul_of_sum {a b c d e f : Nat} (h1 : opE mulX mulY a b c d = 0) (h2 : opE mulX mulY a b e f = 0)
    (h3 : opE addX addY (opR mulX mulY a b c d) (opI mulX mulY a b c d) (opR mulX mulY a b e f) (opI mulX mulY a b e f) = 0) (h4 : opE addX addY c d e f = 0) :
    opE mulX mulY a b (opR addX addY c d e f) (opI addX addY c d e f) = 0 ∧
    opR mulX mulY a b (opR addX addY c d e f) (opI addX addY c d e f) = opR addX addY (opR mulX mulY a b c d) (opI mulX mulY a b c d) (opR mulX mulY a b e f) (opI mulX mulY a b e f) ∧
    opI mulX mulY a b (opR addX addY c d e f) (opI addX addY c d e f) = opI addX addY (opR mulX mulY a b c d) (opI mulX mulY a b c d) (opR mulX mulY a b e f) (opI mulX mulY a b e f) := by
  obtain ⟨r1, r2, r3, r4⟩ := op_res h1
  obtain ⟨s1, s2, s3, s4⟩ := op_res h2
  obtain ⟨t1, t2, t3, t4⟩ := op_res h4
  obtain ⟨v1, v2, v3, v4⟩ := valid4_parts (opE_zero h1).1
  have := op_congr (X := mulX) (Y := mulY) (X' := addX) (Y' := addY) (a := a) (b := b) (c := opR addX addY c d e f) (d := opI addX addY c d e f)
    (a' := opR mulX mulY a b c d) (b' := opI mulX mulY a b c d) (c' := opR mulX mulY a b e f) (d' := opI mulX mulY a b e f)
    (by rw [valid4_mk r1 r2 s1 s2, valid4_mk v1 v2 t1 t2])
    (by rw [r3, s3, t3, t4]; simp only [mulX, addX, addY, Int.mul_add]; omega)
    (by rw [r4, s4, t3, t4]; simp only [mulY, addX, addY, Int.mul_add]; omega)
  rw [h3] at this
  exact this
end Go.Proofs.YtndgglhppoijnaaGreatDoor
/-
  The walks of the difference, the conjugate and the order.
-/
namespace Go.Proofs.YtndgglhppoijnaaGreatDoor
open Go.RowKit
open Ieee

def subX (p _q r _s : Int) : Int := p - r
def subY (_p q _r s : Int) : Int := q - s

/-- The word of a part turned round. -/
def cj (b : Nat) : Nat := fl (-(nb b))

theorem cj_facts {b : Nat} (h : vp b = true) : vp (cj b) = true ∧ nb (cj b) = -(nb b) ∧ cj (cj b) = b ∧ cj b < 2 ^ 64 := by
  obtain ⟨h1, h2⟩ := vp_true h
  have e : nb (cj b) = -(nb b) := nb_fl _ (by omega)
  refine ⟨vp_fl _ (by omega), e, ?_, fl_lt _ (by omega)⟩
  unfold cj at e
  unfold cj
  rw [e, Int.neg_neg]
  exact h2.symm

theorem vc_parts {a b : Nat} (h : vc a b = true) : vp a = true ∧ vp b = true := by
  unfold vc at h; simpa using h

/-- The order of numbers. -/
def ltW (a b c d : Nat) : Bool := decide (nb a < nb c ∨ nb a = nb c ∧ nb b < nb d)

theorem ltB_rep {x y : Nat} {m n : Int} (hx : Rep x m) (hy : Rep y n) : (FloatKind.f64.format.order x y == some .lt) = decide (m < n) := by
  rw [rep_order hx hy]
  by_cases h : m < n
  · rw [Int.compare_eq_lt.2 h]; simp [h]
  · rw [decide_eq_false h, Bool.eq_false_iff]
    intro hc
    exact h (Int.compare_eq_lt.1 (by simpa using hc))

theorem eqB_rep {x y : Nat} {m n : Int} (hx : Rep x m) (hy : Rep y n) : (FloatKind.f64.format.order x y == some .eq) = decide (m = n) := by
  rw [rep_order hx hy]
  by_cases h : m = n
  · subst h; simp
  · rw [decide_eq_false h, Bool.eq_false_iff]
    intro hc
    exact h (Int.compare_eq_eq.1 (by simpa using hc))

theorem add_comm {a b c d : Nat} : opE addX addY c d a b = opE addX addY a b c d ∧ opR addX addY c d a b = opR addX addY a b c d ∧ opI addX addY c d a b = opI addX addY a b c d :=
  op_congr (by unfold valid4; rw [Bool.and_comm]) (by simp only [addX]; omega) (by simp only [addY]; omega)

theorem mul_comm {a b c d : Nat} : opE mulX mulY c d a b = opE mulX mulY a b c d ∧ opR mulX mulY c d a b = opR mulX mulY a b c d ∧ opI mulX mulY c d a b = opI mulX mulY a b c d :=
  op_congr (by unfold valid4; rw [Bool.and_comm]) (by simp only [mulX, Int.mul_comm]) (by simp only [mulY, Int.mul_comm]; omega)

theorem op_vc (X Y : Int → Int → Int → Int → Int) (a b c d : Nat) : vc (opR X Y a b c d) (opI X Y a b c d) = true := by
  unfold vc
  by_cases h : opE X Y a b c d = 0
  · obtain ⟨h1, h2, _, _⟩ := op_res h
    rw [h1, h2]; rfl
  · unfold opR opI
    rw [if_neg h, if_neg h]
    decide

theorem mul_conj {a b c d : Nat} (h1 : vc a b = true) (h2 : vc c d = true) : opE mulX mulY a (cj b) c (cj d) = opE mulX mulY a b c d ∧
    (opE mulX mulY a b c d = 0 → opR mulX mulY a (cj b) c (cj d) = opR mulX mulY a b c d ∧ opI mulX mulY a (cj b) c (cj d) = cj (opI mulX mulY a b c d)) := by
  obtain ⟨va, vb⟩ := vc_parts h1
  obtain ⟨vcc, vd⟩ := vc_parts h2
  obtain ⟨b1, b2, b3, _⟩ := cj_facts vb
  obtain ⟨d1, d2, d3, _⟩ := cj_facts vd
  have eX : mulX (nb a) (nb (cj b)) (nb c) (nb (cj d)) = mulX (nb a) (nb b) (nb c) (nb d) := by rw [b2, d2]; simp only [mulX, Int.neg_mul_neg]
  have eY : mulY (nb a) (nb (cj b)) (nb c) (nb (cj d)) = -(mulY (nb a) (nb b) (nb c) (nb d)) := by rw [b2, d2]; simp only [mulY, Int.mul_neg, Int.neg_mul]; omega
  have hv1 := valid4_mk va b1 vcc d1
  have hv2 := valid4_mk va vb vcc vd
  have eE : opE mulX mulY a (cj b) c (cj d) = opE mulX mulY a b c d := by
    unfold opE
    rw [hv1, hv2, eX, eY]
    have : okC (mulX (nb a) (nb b) (nb c) (nb d)) (-(mulY (nb a) (nb b) (nb c) (nb d))) = okC (mulX (nb a) (nb b) (nb c) (nb d)) (mulY (nb a) (nb b) (nb c) (nb d)) := by
      unfold okC; rw [Int.natAbs_neg]
    rw [this]
  refine ⟨eE, fun h => ?_⟩
  obtain ⟨_, _, r3, r4⟩ := op_res h
  constructor
  · unfold opR; rw [eE, if_pos h, if_pos h, eX]
  · have : opI mulX mulY a (cj b) c (cj d) = fl (-(mulY (nb a) (nb b) (nb c) (nb d))) := by unfold opI; rw [eE, if_pos h, eY]
    rw [this]
    unfold cj
    rw [r4]
end Go.Proofs.YtndgglhppoijnaaGreatDoor
/-
  The whole part of a float within the bounds, as an integer conversion gives it.
-/
namespace Go.Proofs.YtndgglhppoijnaaGreatDoor
open Go.RowKit
open Ieee

def geB (o : Option Ordering) : Bool := o == some .gt || o == some .eq

theorem geB_compare (m n : Int) : geB (some (compare m n)) = decide (n ≤ m) := by
  unfold geB
  rcases Int.lt_trichotomy m n with h | h | h
  · rw [Int.compare_eq_lt.2 h]; simp; omega
  · subst h; simp
  · rw [Int.compare_eq_gt.2 h]; simp; omega

theorem order_swap (x y : Nat) : geB (double.order x y) = leB (double.order y x) := by
  unfold Format.order
  cases hx : double.read x with
  | nan s t => cases hy : double.read y <;> simp [Datum.order, geB, leB]
  | infinity s =>
    cases hy : double.read y with
    | nan u t => simp [Datum.order, geB, leB]
    | infinity u => cases s <;> cases u <;> simp [Datum.order, geB, leB] <;> decide
    | number u m i => cases s <;> simp [Datum.order, geB, leB]
  | number s m i =>
    cases hy : double.read y with
    | nan u t => simp [Datum.order, geB, leB]
    | infinity u => cases u <;> simp [Datum.order, geB, leB]
    | number u n j =>
      have e : min j i = min i j := by omega
      simp only [Datum.order, e]
      rw [geB_compare, leB_compare]

/-- A word within the bounds: its whole part, and when that is all of it. -/
theorem trunc_val {b : Nat} (hlt : b < 2 ^ 64) (h1 : leB (double.order (fl (-16777216)) b) = true) (h2 : leB (double.order b (fl 16777216)) = true) :
    ∃ n : Int, (double.read b).toInt .zero = some n ∧ n.natAbs < 2 ^ 53 ∧ ∀ X, Rep X n → (double.order X b == some .eq) = true → Rep b n ∧ n.natAbs ≤ 16777216 := by
  have m1 := rep_fl (-16777216) (by decide)
  have m2 := rep_fl 16777216 (by decide)
  have key : ∃ (s : Bool) (m k : Nat), double.read b = .number s m (-(k : Int)) ∧ m < 2 ^ 53 := by
    have hM : double.read (fl 16777216) = .number false (2 ^ 52) (-28) := by rw [most_fl]; decide
    have hL : double.read (fl (-16777216)) = .number true (2 ^ 52) (-28) := by rw [least_fl]; decide
    unfold Format.order at h1 h2
    rw [hM] at h2
    rw [hL] at h1
    cases hd : double.read b with
    | nan s t => rw [hd] at h2; simp [Datum.order, leB] at h2
    | infinity s => rw [hd] at h1 h2; cases s <;> simp [Datum.order, leB] at h1 h2
    | number s m i =>
      have hm : m < 2 ^ 53 ∧ (2 ^ 52 ≤ m ∨ i = -1074) := by
        unfold Format.read at hd
        have e5 : double.binade = 2 ^ 52 := rfl
        have e6 : double.infRung = 2047 * 2 ^ 52 := rfl
        have e2 : double.leastPlace = -1074 := by decide
        have e7 : double.signWeight = 2 ^ 63 := rfl
        simp only [e5, e6, e2, e7] at hd
        split at hd
        · injection hd with q1 q2 q3; omega
        · split at hd
          · injection hd with q1 q2 q3; omega
          · split at hd <;> simp at hd
      by_cases hi : i ≤ 0
      · exact ⟨s, m, (-i).toNat, by rw [show -(((-i).toNat : Nat) : Int) = i by omega], hm.1⟩
      · exfalso
        rw [hd] at h1 h2
        have hmm : 2 ^ 52 ≤ m := by omega
        have hb : min i (-28) = -28 := by omega
        have hb' : min (-28) i = -28 := by omega
        simp only [Datum.order, hb, hb'] at h1 h2
        rw [leB_compare] at h1 h2
        have hbig : 2 ^ 53 ≤ m * 2 ^ (i - -28).toNat := by
          have : 2 ^ 1 ≤ 2 ^ (i - -28).toNat := Nat.pow_le_pow_right (by omega) (by omega)
          have := Nat.mul_le_mul hmm this
          omega
        rw [← signed_natAbs s] at hbig
        have c1 : signed false (2 ^ 52) (-28 - -28 : Int).toNat = 4503599627370496 := by decide
        have c2 : signed true (2 ^ 52) (-28 - -28 : Int).toNat = -4503599627370496 := by decide
        rw [c2] at h1
        rw [c1] at h2
        have h1' := of_decide_eq_true h1
        have h2' := of_decide_eq_true h2
        omega
  obtain ⟨s, m, k, hd, hm⟩ := key
  have hcut : ∃ N : Nat, Toward.zero.cut s m k = N ∧ N < 2 ^ 53 := by
    refine ⟨_, rfl, ?_⟩
    unfold Toward.cut
    simp
    exact Nat.lt_of_le_of_lt (Nat.div_le_self _ _) hm
  obtain ⟨N, hN, hN53⟩ := hcut
  have htr : (double.read b).integral .zero = .number s N 0 := by
    rw [hd]
    have e1 : (-(k : Int)).toNat = 0 := by omega
    have e2 : (- -(k : Int)).toNat = k := by omega
    simp only [Datum.integral, e1, e2, Nat.shiftLeft_zero, hN]
  have hnN : (signed s N 0).natAbs = N := by rw [signed_natAbs]; simp
  have hns : signed s N 0 ≠ 0 → s = decide (signed s N 0 < 0) := by
    unfold signed
    simp only [Nat.shiftLeft_zero]
    cases s <;> simp <;> omega
  refine ⟨signed s N 0, ?_, by omega, ?_⟩
  · unfold Datum.toInt
    rw [htr]
  · intro X hX h3
    obtain ⟨_, s', k', hr', hs'⟩ := hX
    generalize signed s N 0 = n at *
    have hb : Rep b n := by
      refine ⟨hlt, ?_⟩
      unfold Format.order at h3
      rw [hr', hd] at h3
      have e1 : (-(k' : Int) - min (-(k' : Int)) (-(k : Int))).toNat = max k' k - k' := by omega
      have e2 : (-(k : Int) - min (-(k' : Int)) (-(k : Int))).toNat = max k' k - k := by omega
      simp only [Datum.order, e1, e2] at h3
      rw [signed_whole hs', show k' + (max k' k - k') = max k' k by omega] at h3
      have h4 : n * 2 ^ max k' k = signed s m (max k' k - k) := by
        have : compare (n * 2 ^ max k' k) (signed s m (max k' k - k)) = .eq := by simpa using h3
        exact Int.compare_eq_eq.1 this
      have h5 : (n * 2 ^ max k' k).natAbs = m * 2 ^ (max k' k - k) := by
        rw [h4]; exact signed_natAbs s m _
      rw [natAbs_mul_pow] at h5
      have h6 : m = n.natAbs * 2 ^ k := by
        have h7 : n.natAbs * 2 ^ k * 2 ^ (max k' k - k) = m * 2 ^ (max k' k - k) := by
          rw [Nat.mul_assoc, ← Nat.pow_add, show k + (max k' k - k) = max k' k by omega]; exact h5
        exact (Nat.eq_of_mul_eq_mul_right (Nat.two_pow_pos _) h7).symm
      rw [hd, h6]
      exact ⟨s, k, rfl, hns⟩
    refine ⟨hb, ?_⟩
    have o1 := rep_order m1 hb
    have o2 := rep_order hb m2
    rw [show double.order (fl (-16777216)) b = _ from o1, leB_compare] at h1
    rw [show double.order b (fl 16777216) = _ from o2, leB_compare] at h2
    simp at h1 h2
    omega

theorem vp_within {b : Nat} (h : vp b = true) : leB (double.order (fl (-16777216)) b) = true ∧ leB (double.order b (fl 16777216)) = true := by
  obtain ⟨hr, hb⟩ := vp_rep h
  have := within_rep hr
  rw [show inB (nb b) = true from decide_eq_true hb] at this
  simpa using this

end Go.Proofs.YtndgglhppoijnaaGreatDoor
/-
  The walk of the calls whose answers the document fixes.
-/
namespace Go.Proofs.YtndgglhppoijnaaGreatDoor
open Go.RowKit
open Ieee

set_option maxHeartbeats 400000 in
theorem parts_any (p q : Int) (w : World) (hp : p.natAbs ≤ 16777216) (hq : q.natAbs ≤ 16777216) :
    Calls Tryz.prog 101 #[.complex .f64 (fl p) (fl q)] w fun e w' => e = .returned (.tuple #[.int .i64 p, .int .i64 q, .int .i64 0]) ∧ w' = w := by
  have l1 := fl_lt p (by omega)
  have l2 := fl_lt q (by omega)
  have hv : vc (fl p) (fl q) = true := by unfold vc; rw [vp_fl p hp, vp_fl q hq]; rfl
  have c1 := rep_toInt (rep_fl p (by omega)) (by omega)
  have c2 := rep_toInt (rep_fl q (by omega)) (by omega)
  have q1 : ∀ w, (convert 132 3 (.float .f64 (fl p))).run Tryz.prog w = .ok (.int .i64 p) w := fun w => run_convert_float_int w 132 3 .f64 .i64 (fl p) p (by rw [Tryz.underlying132]; rfl) Tryz.underlying3 c1
  have q2 : ∀ w, (convert 132 3 (.float .f64 (fl q))).run Tryz.prog w = .ok (.int .i64 q) w := fun w => run_convert_float_int w 132 3 .f64 .i64 (fl q) q (by rw [Tryz.underlying132]; rfl) Tryz.underlying3 c2
  clear c1 c2 hp hq
  go_enter Tryz.func101, Tryz.ntmps101
  go_wp2_with (go_at_call 126; refine (valid_vc _ _ _ (by assumption) (by assumption)).mono ?_; rintro e w' ⟨rfl, rfl⟩)
  go_ret3
  exact ⟨rfl, rfl⟩

set_option maxHeartbeats 400000 in
theorem small_two (w : World) :
    Calls Tryz.prog 151 #[.int .i64 2] w fun e w' => e = .returned (.string ⟨#[50]⟩) ∧ w' = w := by
  go_enter Tryz.func151, Tryz.ntmps151
  go_wp2
  go_ret
  exact ⟨rfl, rfl⟩

set_option maxRecDepth 100000 in
set_option maxHeartbeats 400000 in
theorem small_more (w : World) :
    Calls Tryz.prog 151 #[.int .i64 23] w fun e w' => e = .returned (.string ⟨#[50, 51]⟩) ∧ w' = w := by
  go_enter Tryz.func151, Tryz.ntmps151
  go_wp2
  go_ret
  exact ⟨rfl, rfl⟩

set_option maxHeartbeats 400000 in
theorem itoa_of (n : Int) (h0 : 0 ≤ n) (h1 : n < 100) (s : ByteArray) (hs : ∀ w, Calls Tryz.prog 151 #[.int .i64 n] w fun e w' => e = .returned (.string s) ∧ w' = w) (w : World) :
    Calls Tryz.prog 102 #[.int .i64 n] w fun e w' => e = .returned (.string s) ∧ w' = w := by
  have hs' : Hid (∀ w, Calls Tryz.prog 151 #[.int .i64 n] w fun e w' => e = .returned (.string s) ∧ w' = w) := hs
  clear hs
  go_enter Tryz.func102, Tryz.ntmps102
  go_wp2_with (first | (go_at_call 151; refine (hs'.out _).mono ?_; rintro e w' ⟨rfl, rfl⟩) | (go_at_call 127; go_in) | (go_at_call 141; go_in))
  go_ret
  exact ⟨rfl, rfl⟩

theorem itoa_two (w : World) : Calls Tryz.prog 102 #[.int .i64 2] w fun e w' => e = .returned (.string ⟨#[50]⟩) ∧ w' = w :=
  itoa_of 2 (by decide) (by decide) _ small_two w
theorem itoa_more (w : World) : Calls Tryz.prog 102 #[.int .i64 23] w fun e w' => e = .returned (.string ⟨#[50, 51]⟩) ∧ w' = w :=
  itoa_of 23 (by decide) (by decide) _ small_more w

theorem parts_fixed (w : World) : Calls Tryz.prog 101 #[.complex .f64 4627167142146473984 4611686018427387904] w fun e w' => e = .returned (.tuple #[.int .i64 23, .int .i64 2, .int .i64 0]) ∧ w' = w := by
  have e1 : (4627167142146473984 : Nat) = fl 23 := by decide
  have e2 : (4611686018427387904 : Nat) = fl 2 := by decide
  rw [e1, e2]
  exact parts_any 23 2 w (by decide) (by decide)

set_option maxRecDepth 100000 in
set_option maxHeartbeats 400000 in
theorem text_fixed (w : World) :
    Calls Tryz.prog 70 #[.complex .f64 4627167142146473984 4611686018427387904] w fun e w' => e = .returned (.tuple #[.string ⟨#[50, 51, 43, 50, 105]⟩, .int .i64 0]) ∧ w' = w := by
  go_enter Tryz.func70, Tryz.ntmps70
  go_wp2_with (go_at_call 101; refine (parts_fixed _).mono ?_; rintro e w' ⟨rfl, rfl⟩)
  refine (itoa_two _).mono ?_
  rintro e w' ⟨rfl, rfl⟩
  go_wp2_with fail
  refine (itoa_more _).mono ?_
  rintro e w' ⟨rfl, rfl⟩
  go_wp2_with fail
  go_ret2
  exact ⟨rfl, rfl⟩

end Go.Proofs.YtndgglhppoijnaaGreatDoor
/-
  The walks of the document's answers: a number of a float, sums, products, quotients, the order.
-/
namespace Go.Proofs.YtndgglhppoijnaaGreatDoor
open Go.RowKit
open Ieee

theorem bcell {W w1 : World} (hb : Below W.heap.size W w1) : (∀ b o, b < W.heap.size → w1.cell? ⟨b, o, none⟩ = W.cell? ⟨b, o, none⟩) ∧ (∀ b o, b < W.heap.size → w1.frozen? ⟨b, o, none⟩ = W.frozen? ⟨b, o, none⟩) :=
  ⟨fun b o h => hb.cell (p := ⟨b, o, none⟩) h, fun b o h => hb.frozen (p := ⟨b, o, none⟩) h⟩

/-- The parts that Of tells. -/
def ofX (a b : Nat) : Int := if vc a b then nb a else 0
def ofY (a b : Nat) : Int := if vc a b then nb b else 0

/-- What the document answers of a number that may be too great. -/
def inX (x y : Int) : Int := if okC x y then x else 0
def inY (x y : Int) : Int := if okC x y then y else 0

set_option maxHeartbeats 400000 in
theorem in_any (x y : Int) (w : World) :
    Calls Tryz.prog 81 #[.agg #[.int .i64 x, .int .i64 y]] w fun e w' => e = .returned (.tuple #[.agg #[.int .i64 (inX x y), .int .i64 (inY x y)], .int .i64 (ansE x y)]) ∧ w' = (w.alloc (.cells #[.int .i64 x, .int .i64 y] 112)).alloc (.cells #[.int .i64 (inX x y), .int .i64 (inY x y)] 112) := by
  by_cases h : okC x y = true
  · have e1 : inX x y = x := by unfold inX; rw [h]; rfl
    have e2 : inY x y = y := by unfold inY; rw [h]; rfl
    have e3 : ansE x y = 0 := by unfold ansE; rw [h]; rfl
    rw [e1, e2, e3]
    obtain ⟨b1, b2⟩ := okC_iff.1 h
    have h1 : ¬ x < -16777216 := by omega
    have h2 : ¬ 16777216 < x := by omega
    have h3 : ¬ y < -16777216 := by omega
    have h4 : ¬ 16777216 < y := by omega
    clear e1 e2 e3 h b1 b2
    go_enter Tryz.func81, Tryz.ntmps81
    go_wp2
    exact bodyPost_ret (v := .tuple #[.agg #[.int .i64 x, .int .i64 y], .int .i64 0]) (by simp [results, Tryz.results81, go_sem]) rfl ⟨rfl, rfl⟩
  · have h' : okC x y = false := by simpa using h
    have e1 : inX x y = 0 := by unfold inX; rw [h']; rfl
    have e2 : inY x y = 0 := by unfold inY; rw [h']; rfl
    have e3 : ansE x y = 50 := by unfold ansE; rw [h']; rfl
    rw [e1, e2, e3]
    have hb : ¬ (x.natAbs ≤ 16777216 ∧ y.natAbs ≤ 16777216) := fun hc => h (okC_iff.2 hc)
    have h1 : x < -16777216 ∨ 16777216 < x ∨ y < -16777216 ∨ 16777216 < y := by omega
    clear e1 e2 e3 h h' hb
    go_enter Tryz.func81, Tryz.ntmps81
    go_wp2
    all_goals first | (exact bodyPost_ret (v := .tuple #[.agg #[.int .i64 0, .int .i64 0], .int .i64 50]) (by simp [results, Tryz.results81, go_sem]) rfl ⟨rfl, rfl⟩) | (exfalso; omega)

set_option maxHeartbeats 400000 in
theorem refz_any (x y : Int) (w : World) :
    Calls Tryz.prog 55 #[.agg #[.int .i64 x, .int .i64 y]] w fun e w' => e = .returned (.complex .f64 (fl x) (fl y)) ∧ w' = w.alloc (.cells #[.int .i64 x, .int .i64 y] 112) := by
  rw [← fl_conv, ← fl_conv]
  go_enter Tryz.func55, Tryz.ntmps55
  go_wp2
  go_ret
  exact ⟨rfl, rfl⟩

set_option maxHeartbeats 400000 in
theorem parts_no (a b : Nat) (w : World) (ha : a < 2 ^ 64) (hb : b < 2 ^ 64) (hv : vc a b = false) :
    Calls Tryz.prog 101 #[.complex .f64 a b] w fun e w' => e = .returned (.tuple #[.int .i64 0, .int .i64 0, .int .i64 3]) ∧ w' = w := by
  go_enter Tryz.func101, Tryz.ntmps101
  go_wp2_with (go_at_call 126; refine (valid_vc _ _ _ (by assumption) (by assumption)).mono ?_; rintro e w' ⟨rfl, rfl⟩)
  go_ret3
  exact ⟨rfl, rfl⟩

theorem parts_w (a b : Nat) (w : World) (hv : vc a b = true) :
    Calls Tryz.prog 101 #[.complex .f64 a b] w fun e w' => e = .returned (.tuple #[.int .i64 (nb a), .int .i64 (nb b), .int .i64 0]) ∧ w' = w := by
  obtain ⟨va, vb⟩ := vc_parts hv
  obtain ⟨b1, e1⟩ := vp_true va
  obtain ⟨b2, e2⟩ := vp_true vb
  have := parts_any (nb a) (nb b) w b1 b2
  rwa [← e1, ← e2] at this

theorem bal {w w1 : World} {o : Obj} (h : Below w.heap.size w w1) : Below w.heap.size w (w1.alloc o) := h.alloc h.size o

end Go.Proofs.YtndgglhppoijnaaGreatDoor
/-
  What a law of two arguments holds in memory while it runs: the two boxes and the two numbers that the document makes of them.
-/
namespace Go.Proofs.YtndgglhppoijnaaGreatDoor
open Go.RowKit
open Ieee

abbrev Nm (p q : Int) : Obj := .cells #[.int .i64 p, .int .i64 q] 112

/-- What lies in memory. -/
def Held (W : World) (s : Nat) (x1 y1 : Int) (r1 : Bool) (x2 y2 : Int) (r2 : Bool) (p1 q1 p2 q2 : Int) : Prop :=
  (W.cell? ⟨s, 0, none⟩ = some (.int .i64 x1) ∧ W.cell? ⟨s, 1, none⟩ = some (.int .i64 y1) ∧ W.cell? ⟨s, 2, none⟩ = some (.bool r1)) ∧
  (W.cell? ⟨s + 1, 0, none⟩ = some (.int .i64 x2) ∧ W.cell? ⟨s + 1, 1, none⟩ = some (.int .i64 y2) ∧ W.cell? ⟨s + 1, 2, none⟩ = some (.bool r2)) ∧
  (W.cell? ⟨s + 1 + 1 + 1 + 1, 0, none⟩ = some (.int .i64 p1) ∧ W.cell? ⟨s + 1 + 1 + 1 + 1, 1, none⟩ = some (.int .i64 q1)) ∧
  (W.cell? ⟨s + 1 + 1 + 1 + 1 + 1 + 1 + 1, 0, none⟩ = some (.int .i64 p2) ∧ W.cell? ⟨s + 1 + 1 + 1 + 1 + 1 + 1 + 1, 1, none⟩ = some (.int .i64 q2))

theorem held_size {W : World} {s : Nat} {x1 y1 : Int} {r1 : Bool} {x2 y2 : Int} {r2 : Bool} {p1 q1 p2 q2 : Int} (h : Held W s x1 y1 r1 x2 y2 r2 p1 q1 p2 q2) : s + 7 < W.heap.size := by
  have := World.block_lt_of_cell? (a := ⟨s + 1 + 1 + 1 + 1 + 1 + 1 + 1, 0, none⟩) W h.2.2.2.1
  simp at this
  omega

theorem held_below {W W' : World} {s : Nat} {x1 y1 : Int} {r1 : Bool} {x2 y2 : Int} {r2 : Bool} {p1 q1 p2 q2 : Int} (h : Held W s x1 y1 r1 x2 y2 r2 p1 q1 p2 q2) (hb : Below W.heap.size W W') : Held W' s x1 y1 r1 x2 y2 r2 p1 q1 p2 q2 := by
  have hs := held_size h
  have hc : ∀ b o, b ≤ s + 7 → W'.cell? ⟨b, o, none⟩ = W.cell? ⟨b, o, none⟩ := fun b o hbo => hb.cell (p := ⟨b, o, none⟩) (by simp; omega)
  unfold Held at h ⊢
  rw [hc s 0 (by omega), hc s 1 (by omega), hc s 2 (by omega), hc (s + 1) 0 (by omega), hc (s + 1) 1 (by omega), hc (s + 1) 2 (by omega), hc (s + 1 + 1 + 1 + 1) 0 (by omega), hc (s + 1 + 1 + 1 + 1) 1 (by omega), hc (s + 1 + 1 + 1 + 1 + 1 + 1 + 1) 0 (by omega), hc (s + 1 + 1 + 1 + 1 + 1 + 1 + 1) 1 (by omega)]
  exact h

theorem keep {W W' : World} {b o : Nat} {v : Value} (hb : Below W.heap.size W W') (h : W.cell? ⟨b, o, none⟩ = some v) : W'.cell? ⟨b, o, none⟩ = some v := by
  have hlt := World.block_lt_of_cell? (a := ⟨b, o, none⟩) W h
  rw [hb.cell (p := ⟨b, o, none⟩) hlt]; exact h

/-- What the document answers, in the words of the code's answer. -/
theorem op_told {X Y : Int → Int → Int → Int → Int} {a b c d : Nat} (h : valid4 a b c d = true) {x y : Int} (hx : X (nb a) (nb b) (nb c) (nb d) = x) (hy : Y (nb a) (nb b) (nb c) (nb d) = y) :
    opE X Y a b c d = ansE x y ∧ opR X Y a b c d = fl (inX x y) ∧ opI X Y a b c d = fl (inY x y) := by
  have e : opE X Y a b c d = ansE x y := by unfold opE ansE; rw [h, hx, hy]; rfl
  refine ⟨e, ?_, ?_⟩
  · unfold opR inX; rw [e, hx]; unfold ansE
    cases okC x y <;> rfl
  · unfold opI inY; rw [e, hy]; unfold ansE
    cases okC x y <;> rfl

theorem op_bad {X Y : Int → Int → Int → Int → Int} {a b c d : Nat} (h : valid4 a b c d = false) : opE X Y a b c d = 3 ∧ opR X Y a b c d = 0 ∧ opI X Y a b c d = 0 := by
  have e : opE X Y a b c d = 3 := by unfold opE; rw [h]; rfl
  exact ⟨e, by unfold opR; rw [e]; rfl, by unfold opI; rw [e]; rfl⟩

theorem of_valid {a b : Nat} (h : vc a b = true) : ofX a b = nb a ∧ ofY a b = nb b := by
  unfold ofX ofY; rw [h]; exact ⟨rfl, rfl⟩
end Go.Proofs.YtndgglhppoijnaaGreatDoor
