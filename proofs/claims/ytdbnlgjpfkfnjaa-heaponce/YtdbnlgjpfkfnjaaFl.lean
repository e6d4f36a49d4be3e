/-
  Floats that are whole numbers: sums, differences and products of them are exact, they are compared as the numbers are, and the code's test of a part holds just of the words of whole numbers up to the bound.
-/
import Derived.Laws.FloatArith
import Derived.Laws.ComplexArith
namespace Go.Proofs.Ytdbnlgjpfkfnjaa
open Ieee

theorem log2_mul_pow (N k : Nat) (h : N ≠ 0) : (N * 2 ^ k).log2 = N.log2 + k := by
  have hp : 0 < 2 ^ k := Nat.two_pow_pos k
  have hne : N * 2 ^ k ≠ 0 := Nat.mul_ne_zero h (by omega)
  rw [Nat.log2_eq_iff hne]
  constructor
  · rw [Nat.pow_add]; exact Nat.mul_le_mul_right _ (Nat.log2_self_le h)
  · have e : N.log2 + k + 1 = (N.log2 + 1) + k := by omega
    rw [e, Nat.pow_add]
    exact Nat.mul_lt_mul_of_pos_right Nat.lt_log2_self hp

/-- The rung of a whole number under 2 to the 53. -/
def rungOf (N : Nat) : Nat := (N.log2 + 1022) * 2 ^ 52 + N * 2 ^ (52 - N.log2)

theorem cut_pow (way : Toward) (s : Bool) (M d : Nat) : way.cut s (M * 2 ^ d) d = M := by
  unfold Toward.cut
  by_cases hM : M = 0
  · subst hM; cases way <;> simp
    all_goals (try (have := Nat.two_pow_pos (min d 2); simp [Nat.shiftLeft_eq] <;> omega))
  · have hl := log2_mul_pow M d hM
    have hm : min d ((M * 2 ^ d).log2 + 2) = d := by omega
    have hp : 0 < 2 ^ d := Nat.two_pow_pos d
    simp only [hm, Nat.shiftLeft_eq, Nat.one_mul, Nat.mul_mod_left, Nat.mul_div_cancel M hp]
    cases way <;> simp <;> omega

theorem nearest_pow (s : Bool) (N k : Nat) (h0 : N ≠ 0) (h : N < 2 ^ 53) :
    double.nearest s (N * 2 ^ k) (-(k : Int)) = double.word s (rungOf N) := by
  have hp : 0 < 2 ^ k := Nat.two_pow_pos k
  have hne : N * 2 ^ k ≠ 0 := Nat.mul_ne_zero h0 (by omega)
  have hL : N.log2 < 53 := (Nat.log2_lt h0).2 h
  unfold Format.nearest
  rw [if_neg hne]
  simp only [log2_mul_pow N k h0]
  have hlast : max (-(k : Int) + ((N.log2 + k : Nat) : Int) - (double.fractionBits : Nat)) double.leastPlace = (N.log2 : Int) - 52 := by
    have e1 : (double.fractionBits : Nat) = 52 := rfl
    have e2 : double.leastPlace = -1074 := by decide
    rw [e1, e2]; omega
  rw [hlast]
  have hk : Toward.even.cut s ((N * 2 ^ k) <<< (-(k : Int) - ((N.log2 : Int) - 52)).toNat) ((N.log2 : Int) - 52 - -(k : Int)).toNat = N * 2 ^ (52 - N.log2) := by
    by_cases c : k ≤ 52 - N.log2
    · have e1 : (-(k : Int) - ((N.log2 : Int) - 52)).toNat = 52 - N.log2 - k := by omega
      have e2 : ((N.log2 : Int) - 52 - -(k : Int)).toNat = 0 := by omega
      rw [e1, e2, Nat.shiftLeft_eq, Nat.mul_assoc, ← Nat.pow_add, show k + (52 - N.log2 - k) = 52 - N.log2 by omega]
      have := cut_pow .even s (N * 2 ^ (52 - N.log2)) 0
      simpa using this
    · have e1 : (-(k : Int) - ((N.log2 : Int) - 52)).toNat = 0 := by omega
      have e2 : ((N.log2 : Int) - 52 - -(k : Int)).toNat = k - (52 - N.log2) := by omega
      rw [e1, e2, Nat.shiftLeft_zero]
      have e3 : N * 2 ^ k = (N * 2 ^ (52 - N.log2)) * 2 ^ (k - (52 - N.log2)) := by
        rw [Nat.mul_assoc, ← Nat.pow_add, show (52 - N.log2) + (k - (52 - N.log2)) = k by omega]
      rw [e3]
      exact cut_pow .even s _ _
  rw [hk]
  have e4 : ((N.log2 : Int) - 52 - double.leastPlace).toNat = N.log2 + 1022 := by
    have e2 : double.leastPlace = -1074 := by decide
    rw [e2]; omega
  rw [e4]
  have hb : N * 2 ^ (52 - N.log2) < 2 ^ 53 := by
    have : N < 2 ^ (N.log2 + 1) := Nat.lt_log2_self
    calc N * 2 ^ (52 - N.log2) < 2 ^ (N.log2 + 1) * 2 ^ (52 - N.log2) := Nat.mul_lt_mul_of_pos_right this (Nat.two_pow_pos _)
      _ = 2 ^ 53 := by rw [← Nat.pow_add, show N.log2 + 1 + (52 - N.log2) = 53 by omega]
  have e5 : double.binade = 2 ^ 52 := rfl
  have e6 : double.infRung = 2047 * 2 ^ 52 := rfl
  rw [e5, e6]
  have e7 : min ((N.log2 + 1022) * 2 ^ 52 + N * 2 ^ (52 - N.log2)) (2047 * 2 ^ 52) = rungOf N := by
    unfold rungOf
    apply Nat.min_eq_left
    generalize N * 2 ^ (52 - N.log2) = X at hb ⊢
    generalize N.log2 = L at hL ⊢
    omega
  rw [e7]

theorem rung_bounds (N : Nat) (h0 : N ≠ 0) (h : N < 2 ^ 53) : 2 ^ 52 ≤ N * 2 ^ (52 - N.log2) ∧ N * 2 ^ (52 - N.log2) < 2 ^ 53 ∧ N.log2 < 53 := by
  have hL : N.log2 < 53 := (Nat.log2_lt h0).2 h
  refine ⟨?_, ?_, hL⟩
  · have : 2 ^ N.log2 ≤ N := Nat.log2_self_le h0
    have e : 2 ^ 52 = 2 ^ N.log2 * 2 ^ (52 - N.log2) := by rw [← Nat.pow_add, show N.log2 + (52 - N.log2) = 52 by omega]
    rw [e]; exact Nat.mul_le_mul_right _ this
  · have : N < 2 ^ (N.log2 + 1) := Nat.lt_log2_self
    have e : 2 ^ 53 = 2 ^ (N.log2 + 1) * 2 ^ (52 - N.log2) := by rw [← Nat.pow_add, show N.log2 + 1 + (52 - N.log2) = 53 by omega]
    rw [e]; exact Nat.mul_lt_mul_of_pos_right this (Nat.two_pow_pos _)

theorem word_parts (s : Bool) (r : Nat) (h : r < 2 ^ 63) : (double.word s r / double.signWeight % 2 == 1) = s ∧ double.word s r % double.signWeight = r ∧ double.word s r < 2 ^ 64 := by
  have e : double.signWeight = 2 ^ 63 := rfl
  unfold Format.word
  rw [e]
  cases s
  · simp only [Bool.false_eq_true, if_false]
    refine ⟨?_, by omega, by omega⟩
    have : r / 2 ^ 63 = 0 := by omega
    simp [this]
  · simp only [if_true]
    refine ⟨?_, by omega, by omega⟩
    have : (2 ^ 63 + r) / 2 ^ 63 = 1 := by omega
    simp [this]

theorem read_word (s : Bool) (N : Nat) (h0 : N ≠ 0) (h : N < 2 ^ 53) : double.read (double.word s (rungOf N)) = .number s (N * 2 ^ (52 - N.log2)) ((N.log2 : Int) - 52) := by
  obtain ⟨h1, h2, h3⟩ := rung_bounds N h0 h
  have hr : rungOf N < 2 ^ 63 := by
    unfold rungOf
    generalize N * 2 ^ (52 - N.log2) = X at h1 h2 ⊢
    generalize N.log2 = L at h3 ⊢
    omega
  obtain ⟨p1, p2, _⟩ := word_parts s (rungOf N) hr
  unfold Format.read
  simp only [p1, p2]
  have e5 : double.binade = 2 ^ 52 := rfl
  have e6 : double.infRung = 2047 * 2 ^ 52 := rfl
  have e2 : double.leastPlace = -1074 := by decide
  rw [e5, e6, e2]
  have q1 : ¬ rungOf N < 2 ^ 52 := by unfold rungOf; generalize N * 2 ^ (52 - N.log2) = X at h1 h2 ⊢; generalize N.log2 = L at h3 ⊢; omega
  have q2 : rungOf N < 2047 * 2 ^ 52 := by unfold rungOf; generalize N * 2 ^ (52 - N.log2) = X at h1 h2 ⊢; generalize N.log2 = L at h3 ⊢; omega
  rw [if_neg q1, if_pos q2]
  have q3 : 2 ^ 52 + rungOf N % 2 ^ 52 = N * 2 ^ (52 - N.log2) := by unfold rungOf; generalize N * 2 ^ (52 - N.log2) = X at h1 h2 ⊢; generalize N.log2 = L at h3 ⊢; omega
  have q4 : rungOf N / 2 ^ 52 = N.log2 + 1023 := by unfold rungOf; generalize N * 2 ^ (52 - N.log2) = X at h1 h2 ⊢; generalize N.log2 = L at h3 ⊢; omega
  have q5 : (-1074 : Int) + ((N.log2 + 1023 - 1 : Nat) : Int) = (N.log2 : Int) - 52 := by omega
  rw [q3, q4, q5]

/-- The word of a whole number; nought is the positive one. -/
def fl (n : Int) : Nat := double.nearest (decide (n < 0)) n.natAbs 0

/-- The datum is the whole number n, a nought of either sign. -/
def Whole (d : Datum) (n : Int) : Prop := ∃ (s : Bool) (k : Nat), d = .number s (n.natAbs * 2 ^ k) (-(k : Int)) ∧ (n ≠ 0 → s = decide (n < 0))

/-- The word stands for the whole number n, a nought of either sign. -/
def Rep (b : Nat) (n : Int) : Prop := b < 2 ^ 64 ∧ Whole (double.read b) n

theorem fl_zero : fl 0 = 0 := rfl

theorem fl_word (n : Int) (h0 : n ≠ 0) (h : n.natAbs < 2 ^ 53) : fl n = double.word (decide (n < 0)) (rungOf n.natAbs) := by
  have := nearest_pow (decide (n < 0)) n.natAbs 0 (by omega) h
  simpa [fl] using this

theorem rungOf_lt (N : Nat) (h0 : N ≠ 0) (h : N < 2 ^ 53) : 2 ^ 52 ≤ rungOf N ∧ rungOf N < 2 ^ 63 := by
  obtain ⟨h1, h2, h3⟩ := rung_bounds N h0 h
  unfold rungOf
  generalize N * 2 ^ (52 - N.log2) = X at h1 h2 ⊢
  generalize N.log2 = L at h3 ⊢
  omega

theorem read_zero (s : Bool) : double.read (double.word s 0) = .number s 0 (-1074) := by cases s <;> decide

theorem rep_word (s : Bool) (n : Int) (h0 : n ≠ 0) (h : n.natAbs < 2 ^ 53) (hs : s = decide (n < 0)) : Rep (double.word s (rungOf n.natAbs)) n := by
  have hr := rungOf_lt n.natAbs (by omega) h
  refine ⟨(word_parts s _ hr.2).2.2, ?_⟩
  rw [read_word s n.natAbs (by omega) h]
  have hb := rung_bounds n.natAbs (by omega) h
  refine ⟨s, 52 - n.natAbs.log2, ?_, fun _ => hs⟩
  have q : ((n.natAbs.log2 : Nat) : Int) - 52 = -((52 - n.natAbs.log2 : Nat) : Int) := by omega
  rw [q]

theorem whole_zero (s : Bool) (k : Nat) : Whole (.number s 0 (-(k : Int))) 0 := ⟨s, k, by rw [show (0 : Int).natAbs = 0 from rfl, Nat.zero_mul], fun h => absurd rfl h⟩

theorem rep_zero (s : Bool) : Rep (double.word s 0) 0 := by
  refine ⟨(word_parts s 0 (by decide)).2.2, ?_⟩
  rw [read_zero]
  exact whole_zero s 1074

theorem rep_fl (n : Int) (h : n.natAbs < 2 ^ 53) : Rep (fl n) n := by
  by_cases h0 : n = 0
  · subst h0; exact rep_zero false
  · rw [fl_word n h0 h]; exact rep_word _ n h0 h rfl

/-- What is written of a whole number. -/
theorem write_whole {d : Datum} {n : Int} (hd : Whole d n) (h : n.natAbs < 2 ^ 53) : Rep (double.write d) n ∧ (n ≠ 0 → double.write d = fl n) := by
  obtain ⟨s, k, rfl, hs⟩ := hd
  by_cases h0 : n = 0
  · subst h0
    have : double.write (.number s ((0 : Int).natAbs * 2 ^ k) (-(k : Int))) = double.word s 0 := by simp [Format.write, Format.nearest]
    rw [this]
    exact ⟨rep_zero s, fun h => absurd rfl h⟩
  · have := nearest_pow s n.natAbs k (by omega) h
    have e : double.write (.number s (n.natAbs * 2 ^ k) (-(k : Int))) = double.word s (rungOf n.natAbs) := this
    rw [e]
    exact ⟨rep_word s n h0 h (hs h0), fun _ => by rw [fl_word n h0 h, hs h0]⟩

theorem signed_whole {s : Bool} {n : Int} (hs : n ≠ 0 → s = decide (n < 0)) (k u : Nat) : signed s (n.natAbs * 2 ^ k) u = n * 2 ^ (k + u) := by
  unfold signed
  rw [Nat.shiftLeft_eq, Nat.mul_assoc, ← Nat.pow_add]
  by_cases h0 : n = 0
  · subst h0; simp
  · have := hs h0
    subst this
    have e : (((n.natAbs * 2 ^ (k + u) : Nat)) : Int) = (n.natAbs : Int) * 2 ^ (k + u) := by simp
    rw [e]
    by_cases hn : n < 0
    · simp only [hn, decide_true, if_true]
      rw [← Int.neg_mul, show -(n.natAbs : Int) = n by omega]
    · simp only [hn, decide_false, Bool.false_eq_true, if_false]
      rw [show (n.natAbs : Int) = n by omega]

theorem pow_int_pos (k : Nat) : (0 : Int) < 2 ^ k := by
  have := Nat.two_pow_pos k
  have e : ((2 ^ k : Nat) : Int) = (2 : Int) ^ k := by simp
  omega

theorem natAbs_mul_pow (n : Int) (k : Nat) : (n * 2 ^ k).natAbs = n.natAbs * 2 ^ k := by
  rw [Int.natAbs_mul]
  have e : ((2 ^ k : Nat) : Int) = (2 : Int) ^ k := by simp
  rw [← e, Int.natAbs_natCast]

theorem sum_whole {c d : Datum} {m n : Int} (hc : Whole c m) (hd : Whole d n) : ∃ r, c.sum d = some r ∧ Whole r (m + n) := by
  obtain ⟨s, k, rfl, hs⟩ := hc
  obtain ⟨t, l, rfl, ht⟩ := hd
  refine ⟨_, rfl, ?_⟩
  have e1 : (-(k : Int) - min (-(k : Int)) (-(l : Int))).toNat = max k l - k := by omega
  have e2 : (-(l : Int) - min (-(k : Int)) (-(l : Int))).toNat = max k l - l := by omega
  simp only [e1, e2]
  rw [signed_whole hs, signed_whole ht, show k + (max k l - k) = max k l by omega, show l + (max k l - l) = max k l by omega, ← Int.add_mul]
  have hp := pow_int_pos (max k l)
  refine ⟨if (m + n) * 2 ^ max k l = 0 then s && t else decide ((m + n) * 2 ^ max k l < 0), max k l, ?_, ?_⟩
  · rw [natAbs_mul_pow, show min (-(k : Int)) (-(l : Int)) = -((max k l : Nat) : Int) by omega]
  · intro hne
    have hz : ¬ ((m + n) * 2 ^ max k l = 0) := by
      intro h
      rcases Int.mul_eq_zero.1 h with h | h
      · exact hne h
      · omega
    rw [if_neg hz]
    have : (m + n) * 2 ^ max k l < 0 ↔ m + n < 0 := by
      constructor
      · intro h
        apply Int.not_le.1
        intro h'
        have := Int.mul_nonneg h' (Int.le_of_lt hp)
        omega
      · intro h; exact Int.mul_neg_of_neg_of_pos h hp
    simp [this]

theorem opposite_whole {d : Datum} {n : Int} (hd : Whole d n) : Whole d.opposite (-n) := by
  obtain ⟨s, k, rfl, hs⟩ := hd
  refine ⟨!s, k, by simp [Datum.opposite], fun h => ?_⟩
  have h0 : n ≠ 0 := by omega
  rw [hs h0]
  by_cases hn : n < 0
  · simp [hn]; omega
  · simp [hn]; omega

theorem product_whole {c d : Datum} {m n : Int} (hc : Whole c m) (hd : Whole d n) : ∃ r, c.product d = some r ∧ Whole r (m * n) := by
  obtain ⟨s, k, rfl, hs⟩ := hc
  obtain ⟨t, l, rfl, ht⟩ := hd
  refine ⟨_, rfl, s ^^ t, k + l, ?_, ?_⟩
  · rw [Int.natAbs_mul, Nat.pow_add, show -(k : Int) + -(l : Int) = -((k + l : Nat) : Int) by omega]
    congr 1
    simp only [Nat.mul_assoc, Nat.mul_left_comm]
  · intro hne
    have hm : m ≠ 0 := by intro h; subst h; simp at hne
    have hn : n ≠ 0 := by intro h; subst h; simp at hne
    rw [hs hm, ht hn]
    have hpos : ∀ a b : Int, 0 < a → 0 < b → 0 < a * b := fun a b => Int.mul_pos
    by_cases h1 : m < 0
    · by_cases h2 : n < 0
      · have : 0 < m * n := Int.mul_pos_of_neg_of_neg h1 h2
        simp [h1, h2]; omega
      · have : m * n < 0 := Int.mul_neg_of_neg_of_pos h1 (by omega)
        simp [h1, h2, this]
    · by_cases h2 : n < 0
      · have : m * n < 0 := Int.mul_neg_of_pos_of_neg (by omega) h2
        simp [h1, h2, this]
      · have : 0 < m * n := Int.mul_pos (by omega) (by omega)
        simp [h1, h2]; omega

theorem order_whole {c d : Datum} {m n : Int} (hc : Whole c m) (hd : Whole d n) : c.order d = some (compare m n) := by
  obtain ⟨s, k, rfl, hs⟩ := hc
  obtain ⟨t, l, rfl, ht⟩ := hd
  have e1 : (-(k : Int) - min (-(k : Int)) (-(l : Int))).toNat = max k l - k := by omega
  have e2 : (-(l : Int) - min (-(k : Int)) (-(l : Int))).toNat = max k l - l := by omega
  simp only [Datum.order, e1, e2]
  rw [signed_whole hs, signed_whole ht, show k + (max k l - k) = max k l by omega, show l + (max k l - l) = max k l by omega]
  have hp := pow_int_pos (max k l)
  congr 1
  rcases Int.lt_trichotomy m n with h | h | h
  · rw [Int.compare_eq_lt.2 h, Int.compare_eq_lt]; exact Int.mul_lt_mul_of_pos_right h hp
  · subst h; simp
  · rw [Int.compare_eq_gt.2 h, Int.compare_eq_gt]; exact Int.mul_lt_mul_of_pos_right h hp

theorem integral_whole {d : Datum} {n : Int} (hd : Whole d n) (way : Toward) : ∃ s, d.integral way = .number s n.natAbs 0 ∧ (n ≠ 0 → s = decide (n < 0)) := by
  obtain ⟨s, k, rfl, hs⟩ := hd
  refine ⟨s, ?_, hs⟩
  have e1 : (-(k : Int)).toNat = 0 := by omega
  have e2 : (- -(k : Int)).toNat = k := by omega
  simp only [Datum.integral, e1, e2, Nat.shiftLeft_zero, cut_pow]

theorem toInt_whole {d : Datum} {n : Int} (hd : Whole d n) (way : Toward) : d.toInt way = some n := by
  obtain ⟨s, he, hs⟩ := integral_whole hd way
  unfold Datum.toInt
  rw [he]
  have := signed_whole hs 0 0
  simp at this
  simp [this]

/-- Which words stand for a whole number. -/
theorem rep_inv {b : Nat} {n : Int} (hb : Rep b n) (h : n.natAbs < 2 ^ 53) : b = fl n ∨ (n = 0 ∧ b = 2 ^ 63) := by
  obtain ⟨hlt, s, k, hr, hs⟩ := hb
  unfold Format.read at hr
  have e5 : double.binade = 2 ^ 52 := rfl
  have e6 : double.infRung = 2047 * 2 ^ 52 := rfl
  have e2 : double.leastPlace = -1074 := by decide
  have e7 : double.signWeight = 2 ^ 63 := rfl
  simp only [e5, e6, e2, e7] at hr
  have hw : b = double.word (b / 2 ^ 63 % 2 == 1) (b % 2 ^ 63) := by
    unfold Format.word
    rw [e7]
    have : b / 2 ^ 63 = 0 ∨ b / 2 ^ 63 = 1 := by omega
    rcases this with h | h
    · simp [h]; omega
    · simp [h]; omega
  split at hr
  · rename_i hsub
    injection hr with q1 q2 q3
    have hk : k = 1074 := by omega
    have hz : n.natAbs = 0 := by
      apply Decidable.byContradiction
      intro hne
      have h1 : 1 * 2 ^ k ≤ n.natAbs * 2 ^ k := Nat.mul_le_mul_right _ (by omega)
      have h2 : (2 : Nat) ^ 52 ≤ 2 ^ k := Nat.pow_le_pow_right (by omega) (by omega)
      generalize (2 : Nat) ^ k = X at *
      omega
    have hn : n = 0 := by omega
    subst hn
    have hrz : b % 2 ^ 63 = 0 := by rw [q2]; simp
    rw [hrz] at hw
    by_cases hneg : (b / 2 ^ 63 % 2 == 1) = true
    · right; refine ⟨rfl, ?_⟩; rw [hw, hneg]; rfl
    · left; rw [hw, Bool.eq_false_iff.2 hneg]; rfl
  · split at hr
    · rename_i hnsub hfin
      injection hr with q1 q2 q3
      have hn0 : n.natAbs ≠ 0 := by
        intro h0
        rw [h0] at q2
        simp at q2
      have hn : n ≠ 0 := by omega
      have hl := log2_mul_pow n.natAbs k hn0
      have h52 : (n.natAbs * 2 ^ k).log2 = 52 := by
        rw [Nat.log2_eq_iff (by omega)]
        omega
      have hk : k = 52 - n.natAbs.log2 := by omega
      left
      rw [hw, q1, hs hn, fl_word n hn h]
      congr 1
      unfold rungOf
      rw [← hk, ← q2]
      have : n.natAbs.log2 = 52 - k := by omega
      rw [this]
      omega
    · split at hr <;> simp at hr

theorem rep_fl_iff {b : Nat} {n : Int} (hb : Rep b n) (h : n.natAbs < 2 ^ 53) (h0 : n ≠ 0) : b = fl n := by
  rcases rep_inv hb h with h | h
  · exact h
  · exact absurd h.1 h0

theorem fl_lt (n : Int) (h : n.natAbs < 2 ^ 53) : fl n < 2 ^ 64 := (rep_fl n h).1

theorem rep_unique {b : Nat} {m n : Int} (h1 : Rep b m) (h2 : Rep b n) : m = n := by
  have e1 := toInt_whole h1.2 .zero
  have e2 := toInt_whole h2.2 .zero
  rw [e1] at e2
  exact Option.some.inj e2

theorem fl_inj {m n : Int} (hm : m.natAbs < 2 ^ 53) (hn : n.natAbs < 2 ^ 53) (h : fl m = fl n) : m = n := by
  have h1 := rep_fl m hm
  rw [h] at h1
  exact rep_unique h1 (rep_fl n hn)

theorem rep_add {x y : Nat} {m n : Int} (hx : Rep x m) (hy : Rep y n) (h : (m + n).natAbs < 2 ^ 53) : ∃ r, floatBits .add .f64 x y = some r ∧ Rep r (m + n) := by
  obtain ⟨d, hd, hw⟩ := sum_whole hx.2 hy.2
  have := write_whole hw h
  refine ⟨double.write d, ?_, this.1⟩
  show double.add x y = _
  unfold Format.add
  rw [hd]; rfl

theorem rep_sub {x y : Nat} {m n : Int} (hx : Rep x m) (hy : Rep y n) (h : (m - n).natAbs < 2 ^ 53) : ∃ r, floatBits .sub .f64 x y = some r ∧ Rep r (m - n) := by
  obtain ⟨d, hd, hw⟩ := sum_whole hx.2 (opposite_whole hy.2)
  rw [← Int.sub_eq_add_neg] at hw
  have := write_whole hw h
  refine ⟨double.write d, ?_, this.1⟩
  show double.sub x y = _
  unfold Format.sub
  rw [hd]; rfl

theorem rep_mul {x y : Nat} {m n : Int} (hx : Rep x m) (hy : Rep y n) (h : (m * n).natAbs < 2 ^ 53) : ∃ r, floatBits .mul .f64 x y = some r ∧ Rep r (m * n) := by
  obtain ⟨d, hd, hw⟩ := product_whole hx.2 hy.2
  have := write_whole hw h
  refine ⟨double.write d, ?_, this.1⟩
  show double.mul x y = _
  unfold Format.mul
  rw [hd]; rfl

theorem rep_order {x y : Nat} {m n : Int} (hx : Rep x m) (hy : Rep y n) : FloatKind.f64.format.order x y = some (compare m n) := by
  show double.order x y = _
  unfold Format.order
  exact order_whole hx.2 hy.2

theorem rep_toInt {x : Nat} {n : Int} (hx : Rep x n) (h : n.natAbs < 2 ^ 53) : floatToIntVal .f64 x .i64 = some n := by
  unfold floatToIntVal
  have : (FloatKind.f64.decode x).toInt .zero = some n := toInt_whole hx.2 .zero
  rw [this]
  have e1 : IntKind.i64.min = -9223372036854775808 := by decide
  have e2 : IntKind.i64.max = 9223372036854775807 := by decide
  simp only [e1, e2]
  rw [if_pos (by omega)]

theorem xor_top (r : Nat) (h : r < 2 ^ 63) : r ^^^ 2 ^ 63 = 2 ^ 63 + r := by
  apply Nat.eq_of_testBit_eq
  intro i
  rw [Nat.testBit_xor]
  by_cases h1 : i = 63
  · subst h1
    rw [Nat.testBit_two_pow_add_eq, Nat.testBit_two_pow_self, Nat.testBit_lt_two_pow h]
    rfl
  · by_cases h2 : i < 63
    · rw [Nat.testBit_two_pow_add_gt h2, Nat.testBit_two_pow_of_ne (by omega)]
      simp
    · have h3 : 2 ^ 64 ≤ 2 ^ i := Nat.pow_le_pow_right (by omega) (by omega)
      rw [Nat.testBit_two_pow_of_ne (by omega), Nat.testBit_lt_two_pow (by omega), Nat.testBit_lt_two_pow (by omega)]
      rfl

theorem xor_word (s : Bool) (r : Nat) (h : r < 2 ^ 63) : double.word s r ^^^ 2 ^ 63 = double.word (!s) r := by
  have e : double.signWeight = 2 ^ 63 := rfl
  cases s
  · simp only [Format.word, e, Bool.false_eq_true, if_false, Bool.not_false, if_true]
    exact xor_top r h
  · simp only [Format.word, e, if_true, Bool.not_true, Bool.false_eq_true, if_false]
    rw [← xor_top r h, Nat.xor_assoc, Nat.xor_self, Nat.xor_zero]

theorem rep_neg {x : Nat} {n : Int} (hx : Rep x n) (h : n.natAbs < 2 ^ 53) : Rep (Op.negFloat .f64 x) (-n) := by
  have e : Op.negFloat .f64 x = x ^^^ 2 ^ 63 := rfl
  rw [e]
  rcases rep_inv hx h with rfl | ⟨rfl, rfl⟩
  · by_cases h0 : n = 0
    · subst h0; exact rep_zero true
    · have hr := rungOf_lt n.natAbs (by omega) h
      rw [fl_word n h0 h, xor_word _ _ hr.2]
      have : Rep (double.word (!decide (n < 0)) (rungOf (-n).natAbs)) (-n) := rep_word _ (-n) (by omega) (by omega) (by by_cases hn : n < 0 <;> simp [hn] <;> omega)
      rwa [Int.natAbs_neg] at this
  · have : (2 : Nat) ^ 63 ^^^ 2 ^ 63 = 0 := Nat.xor_self _
    rw [this]; exact rep_zero false

/-- The whole number of a word, cut towards nought. -/
def nb (b : Nat) : Int := ((double.read b).toInt .zero).getD 0

/-- Is the word one of a number's parts? -/
def vp (b : Nat) : Bool := decide ((nb b).natAbs ≤ 16777216) && fl (nb b) == b

theorem vp_true {b : Nat} (h : vp b = true) : (nb b).natAbs ≤ 16777216 ∧ b = fl (nb b) := by
  unfold vp at h
  simp at h
  exact ⟨h.1, h.2.symm⟩

theorem nb_fl (n : Int) (h : n.natAbs < 2 ^ 53) : nb (fl n) = n := by
  unfold nb
  rw [toInt_whole (rep_fl n h).2]; rfl

theorem vp_fl (n : Int) (h : n.natAbs ≤ 16777216) : vp (fl n) = true := by
  unfold vp
  rw [nb_fl n (by omega)]
  simp [h]

/-- What archTrunc gives of a word that is no NaN. -/
def truncBits (b : Nat) : Nat := double.write ((double.read b).integral .zero)

theorem trunc_rep {b : Nat} {n : Int} (hb : Rep b n) (h : n.natAbs < 2 ^ 53) : Rep (truncBits b) n := by
  obtain ⟨s, he, hs⟩ := integral_whole hb.2 .zero
  unfold truncBits
  rw [he]
  have : Whole (.number s n.natAbs 0) n := ⟨s, 0, by simp, hs⟩
  exact (write_whole this h).1

theorem signed_natAbs (s : Bool) (m u : Nat) : (signed s m u).natAbs = m * 2 ^ u := by
  unfold signed
  rw [Nat.shiftLeft_eq]
  cases s <;> simp only [Bool.false_eq_true, if_false, if_true, Int.natAbs_neg, Int.natAbs_natCast]

def leB (o : Option Ordering) : Bool := o == some .lt || o == some .eq

theorem leB_compare (m n : Int) : leB (some (compare m n)) = decide (m ≤ n) := by
  unfold leB
  rcases Int.lt_trichotomy m n with h | h | h
  · rw [Int.compare_eq_lt.2 h]; simp; omega
  · subst h; simp
  · rw [Int.compare_eq_gt.2 h]; simp; omega

theorem most_fl : fl 16777216 = 4715268809856909312 := by decide
theorem least_fl : fl (-16777216) = 13938640846711685120 := by decide

/-- A word within the bounds that is no nought and no whole number's has another one for its whole part. -/
theorem trunc_inv {b : Nat} (hlt : b < 2 ^ 64) (h1 : leB (double.order (fl (-16777216)) b) = true) (h2 : leB (double.order b (fl 16777216)) = true)
    (h3 : (double.order (truncBits b) b == some .eq) = true) : ∃ n : Int, n.natAbs ≤ 16777216 ∧ Rep b n := by
  have m1 := rep_fl (-16777216) (by decide)
  have m2 := rep_fl 16777216 (by decide)
  have key : ∃ (s : Bool) (m k : Nat), double.read b = .number s m (-(k : Int)) ∧ m < 2 ^ 53 := by
    have hM : double.read (fl 16777216) = .number false (2 ^ 52) (-28) := by rw [most_fl]; decide
    have hL : double.read (fl (-16777216)) = .number true (2 ^ 52) (-28) := by rw [least_fl]; decide
    unfold Format.order at h1 h2
    rw [hM] at h2
    rw [hL] at h1
    cases hd : double.read b with
    | nan s t => rw [hd] at h2; simp [Datum.order, leB] at h2
    | infinity s => rw [hd] at h1 h2; cases s <;> simp [Datum.order, leB] at h1 h2
    | number s m i =>
      have hm : m < 2 ^ 53 ∧ (2 ^ 52 ≤ m ∨ i = -1074) := by
        unfold Format.read at hd
        have e5 : double.binade = 2 ^ 52 := rfl
        have e6 : double.infRung = 2047 * 2 ^ 52 := rfl
        have e2 : double.leastPlace = -1074 := by decide
        have e7 : double.signWeight = 2 ^ 63 := rfl
        simp only [e5, e6, e2, e7] at hd
        split at hd
        · injection hd with q1 q2 q3; omega
        · split at hd
          · injection hd with q1 q2 q3; omega
          · split at hd <;> simp at hd
      by_cases hi : i ≤ 0
      · exact ⟨s, m, (-i).toNat, by rw [show -(((-i).toNat : Nat) : Int) = i by omega], hm.1⟩
      · exfalso
        rw [hd] at h1 h2
        have hmm : 2 ^ 52 ≤ m := by omega
        have hb : min i (-28) = -28 := by omega
        have hb' : min (-28) i = -28 := by omega
        simp only [Datum.order, hb, hb'] at h1 h2
        rw [leB_compare] at h1 h2
        have hbig : 2 ^ 53 ≤ m * 2 ^ (i - -28).toNat := by
          have : 2 ^ 1 ≤ 2 ^ (i - -28).toNat := Nat.pow_le_pow_right (by omega) (by omega)
          have := Nat.mul_le_mul hmm this
          omega
        rw [← signed_natAbs s] at hbig
        have c1 : signed false (2 ^ 52) (-28 - -28 : Int).toNat = 4503599627370496 := by decide
        have c2 : signed true (2 ^ 52) (-28 - -28 : Int).toNat = -4503599627370496 := by decide
        rw [c2] at h1
        rw [c1] at h2
        have h1' := of_decide_eq_true h1
        have h2' := of_decide_eq_true h2
        omega
  obtain ⟨s, m, k, hd, hm⟩ := key
  have hcut : ∃ N : Nat, Toward.zero.cut s m k = N ∧ N < 2 ^ 53 := by
    refine ⟨_, rfl, ?_⟩
    unfold Toward.cut
    simp
    exact Nat.lt_of_le_of_lt (Nat.div_le_self _ _) hm
  obtain ⟨N, hN, hN53⟩ := hcut
  have htr : (double.read b).integral .zero = .number s N 0 := by
    rw [hd]
    have e1 : (-(k : Int)).toNat = 0 := by omega
    have e2 : (- -(k : Int)).toNat = k := by omega
    simp only [Datum.integral, e1, e2, Nat.shiftLeft_zero, hN]
  let n : Int := if s then -(N : Int) else N
  have hnN : n.natAbs = N := by show (if s then -(N : Int) else N).natAbs = N; cases s <;> simp
  have hns : n ≠ 0 → s = decide (n < 0) := by
    show (if s then -(N : Int) else (N : Int)) ≠ 0 → s = decide ((if s then -(N : Int) else (N : Int)) < 0)
    cases s <;> simp <;> omega
  have hwh : Whole (.number s N 0) n := ⟨s, 0, by simp [hnN], hns⟩
  have hrep : Rep (truncBits b) n := by
    unfold truncBits
    rw [htr]
    exact (write_whole hwh (by omega)).1
  obtain ⟨_, s', k', hr', hs'⟩ := hrep
  have hb : Rep b n := by
    refine ⟨hlt, ?_⟩
    unfold Format.order at h3
    rw [hr', hd] at h3
    have e1 : (-(k' : Int) - min (-(k' : Int)) (-(k : Int))).toNat = max k' k - k' := by omega
    have e2 : (-(k : Int) - min (-(k' : Int)) (-(k : Int))).toNat = max k' k - k := by omega
    simp only [Datum.order, e1, e2] at h3
    rw [signed_whole hs', show k' + (max k' k - k') = max k' k by omega] at h3
    have h4 : n * 2 ^ max k' k = signed s m (max k' k - k) := by
      have : compare (n * 2 ^ max k' k) (signed s m (max k' k - k)) = .eq := by simpa using h3
      exact Int.compare_eq_eq.1 this
    have h5 : (n * 2 ^ max k' k).natAbs = m * 2 ^ (max k' k - k) := by
      rw [h4]; exact signed_natAbs s m _
    rw [natAbs_mul_pow] at h5
    have h6 : m = n.natAbs * 2 ^ k := by
      have h7 : n.natAbs * 2 ^ k * 2 ^ (max k' k - k) = m * 2 ^ (max k' k - k) := by
        rw [Nat.mul_assoc, ← Nat.pow_add, show k + (max k' k - k) = max k' k by omega]; exact h5
      exact (Nat.eq_of_mul_eq_mul_right (Nat.two_pow_pos _) h7).symm
    rw [hd, h6]
    exact ⟨s, k, rfl, hns⟩
  refine ⟨n, ?_, hb⟩
  have o1 := rep_order m1 hb
  have o2 := rep_order hb m2
  rw [show double.order (fl (-16777216)) b = _ from o1, leB_compare] at h1
  rw [show double.order b (fl 16777216) = _ from o2, leB_compare] at h2
  simp at h1 h2
  omega

/-- What the code asks of a part. -/
def codeVp (b : Nat) : Bool :=
  if double.order b 0 == some .eq then decide (b < 2 ^ 63)
  else leB (double.order (fl (-16777216)) b) && leB (double.order b (fl 16777216)) && double.order (truncBits b) b == some .eq

theorem order_zero_eq {b : Nat} (hlt : b < 2 ^ 63) (h : (double.order b 0 == some .eq) = true) : b = 0 := by
  have hz : double.read 0 = .number false 0 (-1074) := by decide
  unfold Format.order at h
  rw [hz] at h
  unfold Format.read at h
  have e5 : double.binade = 2 ^ 52 := rfl
  have e6 : double.infRung = 2047 * 2 ^ 52 := rfl
  have e2 : double.leastPlace = -1074 := by decide
  have e7 : double.signWeight = 2 ^ 63 := rfl
  simp only [e5, e6, e2, e7] at h
  have hn : (b / 2 ^ 63 % 2 == 1) = false := by
    have : b / 2 ^ 63 = 0 := by omega
    simp [this]
  have hr : b % 2 ^ 63 = b := by omega
  rw [hn, hr] at h
  have hzero : ∀ u, signed false 0 u = 0 := by intro u; simp [signed]
  split at h
  · simp only [Datum.order, hzero, Int.min_self, Int.sub_self, Int.toNat_zero] at h
    have : compare (signed false b 0) 0 = .eq := by simpa using h
    have := Int.compare_eq_eq.1 this
    simp [signed] at this
    exact this
  · split at h
    · exfalso
      rename_i c1 c2
      simp only [Datum.order, hzero] at h
      have h' := Int.compare_eq_eq.1 (by simpa using h)
      have h2 := congrArg Int.natAbs h'
      rw [signed_natAbs] at h2
      rcases Nat.mul_eq_zero.1 h2 with h3 | h3
      · omega
      · exact absurd h3 (Nat.ne_of_gt (Nat.two_pow_pos _))
    · exfalso
      split at h <;> simp [Datum.order] at h

theorem codeVp_eq (b : Nat) (hlt : b < 2 ^ 64) : codeVp b = vp b := by
  have m1 := rep_fl (-16777216) (by decide)
  have m2 := rep_fl 16777216 (by decide)
  have rz : Rep 0 0 := rep_zero false
  cases hv : vp b with
  | true =>
    obtain ⟨hn, hb⟩ := vp_true hv
    have hr : Rep b (nb b) := by rw [hb, nb_fl _ (by omega)]; exact rep_fl _ (by omega)
    unfold codeVp
    by_cases h0 : nb b = 0
    · have hb0 : b = 0 := by rw [hb, h0]; rfl
      subst hb0
      rw [show double.order 0 0 = _ from rep_order rz rz]
      simp
    · rw [show double.order b 0 = _ from rep_order hr rz]
      have : (some (compare (nb b) 0) == some .eq) = false := by
        rw [Bool.eq_false_iff]
        intro h
        exact h0 (Int.compare_eq_eq.1 (by simpa using h))
      rw [this]
      simp only [Bool.false_eq_true, if_false]
      rw [show double.order (fl (-16777216)) b = _ from rep_order m1 hr, show double.order b (fl 16777216) = _ from rep_order hr m2,
        show double.order (truncBits b) b = _ from rep_order (trunc_rep hr (by omega)) hr, leB_compare, leB_compare]
      simp
      omega
  | false =>
    unfold codeVp
    by_cases hz : (double.order b 0 == some .eq) = true
    · rw [if_pos hz]
      simp
      apply Decidable.byContradiction
      intro hc
      have := order_zero_eq (by omega) hz
      subst this
      have : vp 0 = true := vp_fl 0 (by decide)
      rw [hv] at this
      cases this
    · rw [if_neg hz]
      rw [Bool.eq_false_iff]
      intro hc
      simp only [Bool.and_eq_true] at hc
      obtain ⟨⟨h1, h2⟩, h3⟩ := hc
      obtain ⟨n, hn, hr⟩ := trunc_inv hlt h1 h2 h3
      have h0 : n ≠ 0 := by
        intro h0
        subst h0
        rw [show double.order b 0 = _ from rep_order hr rz] at hz
        simp at hz
      have hb := rep_fl_iff hr (by omega) h0
      have : vp b = true := by rw [hb]; exact vp_fl n hn
      rw [hv] at this
      cases this

theorem bound_mul {a b : Int} {A B : Nat} (ha : a.natAbs ≤ A) (hb : b.natAbs ≤ B) : (a * b).natAbs ≤ A * B := by
  rw [Int.natAbs_mul]; exact Nat.mul_le_mul ha hb

/-- A sum of complex numbers, part by part. -/
theorem rep_csum {a b c d : Nat} {p q r s : Int} (ha : Rep a p) (hb : Rep b q) (hc : Rep c r) (hd : Rep d s) (h1 : (p + r).natAbs < 2 ^ 53) (h2 : (q + s).natAbs < 2 ^ 53) :
    ∃ re im, cSumBits .add .f64 a b c d = some (re, im) ∧ Rep re (p + r) ∧ Rep im (q + s) := by
  obtain ⟨x, hx, rx⟩ := rep_add ha hc h1
  obtain ⟨y, hy, ry⟩ := rep_add hb hd h2
  exact ⟨x, y, by simp [cSumBits, hx, hy], rx, ry⟩

theorem rep_cdiff {a b c d : Nat} {p q r s : Int} (ha : Rep a p) (hb : Rep b q) (hc : Rep c r) (hd : Rep d s) (h1 : (p - r).natAbs < 2 ^ 53) (h2 : (q - s).natAbs < 2 ^ 53) :
    ∃ re im, cSumBits .sub .f64 a b c d = some (re, im) ∧ Rep re (p - r) ∧ Rep im (q - s) := by
  obtain ⟨x, hx, rx⟩ := rep_sub ha hc h1
  obtain ⟨y, hy, ry⟩ := rep_sub hb hd h2
  exact ⟨x, y, by simp [cSumBits, hx, hy], rx, ry⟩

/-- A product of complex numbers whose parts are within the bounds. -/
theorem rep_cmul {a b c d : Nat} {p q r s : Int} (ha : Rep a p) (hb : Rep b q) (hc : Rep c r) (hd : Rep d s)
    (hp : p.natAbs ≤ 16777216) (hq : q.natAbs ≤ 16777216) (hr : r.natAbs ≤ 16777216) (hs : s.natAbs ≤ 16777216) :
    ∃ re im, cMulBits a b c d = some (re, im) ∧ Rep re (p * r - q * s) ∧ Rep im (p * s + q * r) := by
  have b1 := bound_mul hp hr
  have b2 := bound_mul hq hs
  have b3 := bound_mul hp hs
  have b4 := bound_mul hq hr
  obtain ⟨x1, e1, r1⟩ := rep_mul ha hc (by omega)
  obtain ⟨x2, e2, r2⟩ := rep_mul hb hd (by omega)
  obtain ⟨x3, e3, r3⟩ := rep_sub r1 r2 (by omega)
  obtain ⟨x4, e4, r4⟩ := rep_mul ha hd (by omega)
  obtain ⟨x5, e5, r5⟩ := rep_mul hb hc (by omega)
  obtain ⟨x6, e6, r6⟩ := rep_add r4 r5 (by omega)
  exact ⟨x3, x6, by simp [cMulBits, e1, e2, e3, e4, e5, e6], r3, r6⟩
end Go.Proofs.Ytdbnlgjpfkfnjaa
