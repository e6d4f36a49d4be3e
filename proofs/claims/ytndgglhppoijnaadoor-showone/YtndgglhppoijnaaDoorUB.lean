/-
  10 texts in one: what each proves stands at its head.
-/
import Derived.Laws.FloatArith
import Derived.Laws.ComplexArith
import Derived.Test.YtndgglhppoijnaaDoorRows
import Derived.WalkKit
import Derived.WalkSpells
import Derived.WalkLawsBesides
import Derived.Laws.Externs
import Derived.Deep.QuietTactic
import Derived.BigQuiet
/-
  Floats that are whole numbers: sums, differences and products of them are exact, they are compared as the numbers are, and the code's test of a part holds just of the words of whole numbers up to the bound.
-/
namespace Go.Proofs.YtndgglhppoijnaaDoor
open Ieee

theorem log2_mul_pow (N k : Nat) (h : N ≠ 0) : (N * 2 ^ k).log2 = N.log2 + k := by
  have hp : 0 < 2 ^ k := Nat.two_pow_pos k
  have hne : N * 2 ^ k ≠ 0 := Nat.mul_ne_zero h (by omega)
  rw [Nat.log2_eq_iff hne]
  constructor
  · rw [Nat.pow_add]; exact Nat.mul_le_mul_right _ (Nat.log2_self_le h)
  · have e : N.log2 + k + 1 = (N.log2 + 1) + k := by omega
    rw [e, Nat.pow_add]
    exact Nat.mul_lt_mul_of_pos_right Nat.lt_log2_self hp

/-- The rung of a whole number under 2 to the 53. -/
def rungOf (N : Nat) : Nat := (N.log2 + 1022) * 2 ^ 52 + N * 2 ^ (52 - N.log2)

theorem cut_pow (way : Toward) (s : Bool) (M d : Nat) : way.cut s (M * 2 ^ d) d = M := by
  unfold Toward.cut
  by_cases hM : M = 0
  · subst hM; cases way <;> simp
    all_goals (try (have := Nat.two_pow_pos (min d 2); simp [Nat.shiftLeft_eq] <;> omega))
  · have hl := log2_mul_pow M d hM
    have hm : min d ((M * 2 ^ d).log2 + 2) = d := by omega
    have hp : 0 < 2 ^ d := Nat.two_pow_pos d
    simp only [hm, Nat.shiftLeft_eq, Nat.one_mul, Nat.mul_mod_left, Nat.mul_div_cancel M hp]
    cases way <;> simp <;> omega

theorem nearest_pow (s : Bool) (N k : Nat) (h0 : N ≠ 0) (h : N < 2 ^ 53) :
    double.nearest s (N * 2 ^ k) (-(k : Int)) = double.word s (rungOf N) := by
  have hp : 0 < 2 ^ k := Nat.two_pow_pos k
  have hne : N * 2 ^ k ≠ 0 := Nat.mul_ne_zero h0 (by omega)
  have hL : N.log2 < 53 := (Nat.log2_lt h0).2 h
  unfold Format.nearest
  rw [if_neg hne]
  simp only [log2_mul_pow N k h0]
  have hlast : max (-(k : Int) + ((N.log2 + k : Nat) : Int) - (double.fractionBits : Nat)) double.leastPlace = (N.log2 : Int) - 52 := by
    have e1 : (double.fractionBits : Nat) = 52 := rfl
    have e2 : double.leastPlace = -1074 := by decide
    rw [e1, e2]; omega
  rw [hlast]
  have hk : Toward.even.cut s ((N * 2 ^ k) <<< (-(k : Int) - ((N.log2 : Int) - 52)).toNat) ((N.log2 : Int) - 52 - -(k : Int)).toNat = N * 2 ^ (52 - N.log2) := by
    by_cases c : k ≤ 52 - N.log2
    · have e1 : (-(k : Int) - ((N.log2 : Int) - 52)).toNat = 52 - N.log2 - k := by omega
      have e2 : ((N.log2 : Int) - 52 - -(k : Int)).toNat = 0 := by omega
      rw [e1, e2, Nat.shiftLeft_eq, Nat.mul_assoc, ← Nat.pow_add, show k + (52 - N.log2 - k) = 52 - N.log2 by omega]
      have := cut_pow .even s (N * 2 ^ (52 - N.log2)) 0
      simpa using this
    · have e1 : (-(k : Int) - ((N.log2 : Int) - 52)).toNat = 0 := by omega
      have e2 : ((N.log2 : Int) - 52 - -(k : Int)).toNat = k - (52 - N.log2) := by omega
      rw [e1, e2, Nat.shiftLeft_zero]
      have e3 : N * 2 ^ k = (N * 2 ^ (52 - N.log2)) * 2 ^ (k - (52 - N.log2)) := by
        rw [Nat.mul_assoc, ← Nat.pow_add, show (52 - N.log2) + (k - (52 - N.log2)) = k by omega]
      rw [e3]
      exact cut_pow .even s _ _
  rw [hk]
  have e4 : ((N.log2 : Int) - 52 - double.leastPlace).toNat = N.log2 + 1022 := by
    have e2 : double.leastPlace = -1074 := by decide
    rw [e2]; omega
  rw [e4]
  have hb : N * 2 ^ (52 - N.log2) < 2 ^ 53 := by
    have : N < 2 ^ (N.log2 + 1) := Nat.lt_log2_self
    calc N * 2 ^ (52 - N.log2) < 2 ^ (N.log2 + 1) * 2 ^ (52 - N.log2) := Nat.mul_lt_mul_of_pos_right this (Nat.two_pow_pos _)
      _ = 2 ^ 53 := by rw [← Nat.pow_add, show N.log2 + 1 + (52 - N.log2) = 53 by omega]
  have e5 : double.binade = 2 ^ 52 := rfl
  have e6 : double.infRung = 2047 * 2 ^ 52 := rfl
  rw [e5, e6]
  have e7 : min ((N.log2 + 1022) * 2 ^ 52 + N * 2 ^ (52 - N.log2)) (2047 * 2 ^ 52) = rungOf N := by
    unfold rungOf
    apply Nat.min_eq_left
    generalize N * 2 ^ (52 - N.log2) = X at hb ⊢
    generalize N.log2 = L at hL ⊢
    omega
  rw [e7]

theorem rung_bounds (N : Nat) (h0 : N ≠ 0) (h : N < 2 ^ 53) : 2 ^ 52 ≤ N * 2 ^ (52 - N.log2) ∧ N * 2 ^ (52 - N.log2) < 2 ^ 53 ∧ N.log2 < 53 := by
  have hL : N.log2 < 53 := (Nat.log2_lt h0).2 h
  refine ⟨?_, ?_, hL⟩
  · have : 2 ^ N.log2 ≤ N := Nat.log2_self_le h0
    have e : 2 ^ 52 = 2 ^ N.log2 * 2 ^ (52 - N.log2) := by rw [← Nat.pow_add, show N.log2 + (52 - N.log2) = 52 by omega]
    rw [e]; exact Nat.mul_le_mul_right _ this
  · have : N < 2 ^ (N.log2 + 1) := Nat.lt_log2_self
    have e : 2 ^ 53 = 2 ^ (N.log2 + 1) * 2 ^ (52 - N.log2) := by rw [← Nat.pow_add, show N.log2 + 1 + (52 - N.log2) = 53 by omega]
    rw [e]; exact Nat.mul_lt_mul_of_pos_right this (Nat.two_pow_pos _)

theorem word_parts (s : Bool) (r : Nat) (h : r < 2 ^ 63) : (double.word s r / double.signWeight % 2 == 1) = s ∧ double.word s r % double.signWeight = r ∧ double.word s r < 2 ^ 64 := by
  have e : double.signWeight = 2 ^ 63 := rfl
  unfold Format.word
  rw [e]
  cases s
  · simp only [Bool.false_eq_true, if_false]
    refine ⟨?_, by omega, by omega⟩
    have : r / 2 ^ 63 = 0 := by omega
    simp [this]
  · simp only [if_true]
    refine ⟨?_, by omega, by omega⟩
    have : (2 ^ 63 + r) / 2 ^ 63 = 1 := by omega
    simp [this]

theorem read_word (s : Bool) (N : Nat) (h0 : N ≠ 0) (h : N < 2 ^ 53) : double.read (double.word s (rungOf N)) = .number s (N * 2 ^ (52 - N.log2)) ((N.log2 : Int) - 52) := by
  obtain ⟨h1, h2, h3⟩ := rung_bounds N h0 h
  have hr : rungOf N < 2 ^ 63 := by
    unfold rungOf
    generalize N * 2 ^ (52 - N.log2) = X at h1 h2 ⊢
    generalize N.log2 = L at h3 ⊢
    omega
  obtain ⟨p1, p2, _⟩ := word_parts s (rungOf N) hr
  unfold Format.read
  simp only [p1, p2]
  have e5 : double.binade = 2 ^ 52 := rfl
  have e6 : double.infRung = 2047 * 2 ^ 52 := rfl
  have e2 : double.leastPlace = -1074 := by decide
  rw [e5, e6, e2]
  have q1 : ¬ rungOf N < 2 ^ 52 := by unfold rungOf; generalize N * 2 ^ (52 - N.log2) = X at h1 h2 ⊢; generalize N.log2 = L at h3 ⊢; omega
  have q2 : rungOf N < 2047 * 2 ^ 52 := by unfold rungOf; generalize N * 2 ^ (52 - N.log2) = X at h1 h2 ⊢; generalize N.log2 = L at h3 ⊢; omega
  rw [if_neg q1, if_pos q2]
  have q3 : 2 ^ 52 + rungOf N % 2 ^ 52 = N * 2 ^ (52 - N.log2) := by unfold rungOf; generalize N * 2 ^ (52 - N.log2) = X at h1 h2 ⊢; generalize N.log2 = L at h3 ⊢; omega
  have q4 : rungOf N / 2 ^ 52 = N.log2 + 1023 := by unfold rungOf; generalize N * 2 ^ (52 - N.log2) = X at h1 h2 ⊢; generalize N.log2 = L at h3 ⊢; omega
  have q5 : (-1074 : Int) + ((N.log2 + 1023 - 1 : Nat) : Int) = (N.log2 : Int) - 52 := by omega
  rw [q3, q4, q5]

/-- The word of a whole number; nought is the positive one. -/
def fl (n : Int) : Nat := double.nearest (decide (n < 0)) n.natAbs 0

/-- The datum is the whole number n, a nought of either sign. -/
def Whole (d : Datum) (n : Int) : Prop := ∃ (s : Bool) (k : Nat), d = .number s (n.natAbs * 2 ^ k) (-(k : Int)) ∧ (n ≠ 0 → s = decide (n < 0))

/-- The word stands for the whole number n, a nought of either sign. -/
def Rep (b : Nat) (n : Int) : Prop := b < 2 ^ 64 ∧ Whole (double.read b) n

theorem fl_zero : fl 0 = 0 := rfl

theorem fl_word (n : Int) (h0 : n ≠ 0) (h : n.natAbs < 2 ^ 53) : fl n = double.word (decide (n < 0)) (rungOf n.natAbs) := by
  have := nearest_pow (decide (n < 0)) n.natAbs 0 (by omega) h
  simpa [fl] using this

theorem rungOf_lt (N : Nat) (h0 : N ≠ 0) (h : N < 2 ^ 53) : 2 ^ 52 ≤ rungOf N ∧ rungOf N < 2 ^ 63 := by
  obtain ⟨h1, h2, h3⟩ := rung_bounds N h0 h
  unfold rungOf
  generalize N * 2 ^ (52 - N.log2) = X at h1 h2 ⊢
  generalize N.log2 = L at h3 ⊢
  omega

theorem read_zero (s : Bool) : double.read (double.word s 0) = .number s 0 (-1074) := by cases s <;> decide

theorem rep_word (s : Bool) (n : Int) (h0 : n ≠ 0) (h : n.natAbs < 2 ^ 53) (hs : s = decide (n < 0)) : Rep (double.word s (rungOf n.natAbs)) n := by
  have hr := rungOf_lt n.natAbs (by omega) h
  refine ⟨(word_parts s _ hr.2).2.2, ?_⟩
  rw [read_word s n.natAbs (by omega) h]
  have hb := rung_bounds n.natAbs (by omega) h
  refine ⟨s, 52 - n.natAbs.log2, ?_, fun _ => hs⟩
  have q : ((n.natAbs.log2 : Nat) : Int) - 52 = -((52 - n.natAbs.log2 : Nat) : Int) := by omega
  rw [q]

theorem whole_zero (s : Bool) (k : Nat) : Whole (.number s 0 (-(k : Int))) 0 := ⟨s, k, by rw [show (0 : Int).natAbs = 0 from rfl, Nat.zero_mul], fun h => absurd rfl h⟩

theorem rep_zero (s : Bool) : Rep (double.word s 0) 0 := by
  refine ⟨(word_parts s 0 (by decide)).2.2, ?_⟩
  rw [read_zero]
  exact whole_zero s 1074

theorem rep_fl (n : Int) (h : n.natAbs < 2 ^ 53) : Rep (fl n) n := by
  by_cases h0 : n = 0
  · subst h0; exact rep_zero false
  · rw [fl_word n h0 h]; exact rep_word _ n h0 h rfl

/-- What is written of a whole number. -/
theorem write_whole {d : Datum} {n : Int} (hd : Whole d n) (h : n.natAbs < 2 ^ 53) : Rep (double.write d) n ∧ (n ≠ 0 → double.write d = fl n) := by
  obtain ⟨s, k, rfl, hs⟩ := hd
  by_cases h0 : n = 0
  · subst h0
    have : double.write (.number s ((0 : Int).natAbs * 2 ^ k) (-(k : Int))) = double.word s 0 := by simp [Format.write, Format.nearest]
    rw [this]
    exact ⟨rep_zero s, fun h => absurd rfl h⟩
  · have := nearest_pow s n.natAbs k (by omega) h
    have e : double.write (.number s (n.natAbs * 2 ^ k) (-(k : Int))) = double.word s (rungOf n.natAbs) := this
    rw [e]
    exact ⟨rep_word s n h0 h (hs h0), fun _ => by rw [fl_word n h0 h, hs h0]⟩

theorem signed_whole {s : Bool} {n : Int} (hs : n ≠ 0 → s = decide (n < 0)) (k u : Nat) : signed s (n.natAbs * 2 ^ k) u = n * 2 ^ (k + u) := by
  unfold signed
  rw [Nat.shiftLeft_eq, Nat.mul_assoc, ← Nat.pow_add]
  by_cases h0 : n = 0
  · subst h0; simp
  · have := hs h0
    subst this
    have e : (((n.natAbs * 2 ^ (k + u) : Nat)) : Int) = (n.natAbs : Int) * 2 ^ (k + u) := by simp
    rw [e]
    by_cases hn : n < 0
    · simp only [hn, decide_true, if_true]
      rw [← Int.neg_mul, show -(n.natAbs : Int) = n by omega]
    · simp only [hn, decide_false, Bool.false_eq_true, if_false]
      rw [show (n.natAbs : Int) = n by omega]

theorem pow_int_pos (k : Nat) : (0 : Int) < 2 ^ k := by
  have := Nat.two_pow_pos k
  have e : ((2 ^ k : Nat) : Int) = (2 : Int) ^ k := by simp
  omega

theorem natAbs_mul_pow (n : Int) (k : Nat) : (n * 2 ^ k).natAbs = n.natAbs * 2 ^ k := by
  rw [Int.natAbs_mul]
  have e : ((2 ^ k : Nat) : Int) = (2 : Int) ^ k := by simp
  rw [← e, Int.natAbs_natCast]

theorem order_whole {c d : Datum} {m n : Int} (hc : Whole c m) (hd : Whole d n) : c.order d = some (compare m n) := by
  obtain ⟨s, k, rfl, hs⟩ := hc
  obtain ⟨t, l, rfl, ht⟩ := hd
  have e1 : (-(k : Int) - min (-(k : Int)) (-(l : Int))).toNat = max k l - k := by omega
  have e2 : (-(l : Int) - min (-(k : Int)) (-(l : Int))).toNat = max k l - l := by omega
  simp only [Datum.order, e1, e2]
  rw [signed_whole hs, signed_whole ht, show k + (max k l - k) = max k l by omega, show l + (max k l - l) = max k l by omega]
  have hp := pow_int_pos (max k l)
  congr 1
  rcases Int.lt_trichotomy m n with h | h | h
  · rw [Int.compare_eq_lt.2 h, Int.compare_eq_lt]; exact Int.mul_lt_mul_of_pos_right h hp
  · subst h; simp
  · rw [Int.compare_eq_gt.2 h, Int.compare_eq_gt]; exact Int.mul_lt_mul_of_pos_right h hp

theorem integral_whole {d : Datum} {n : Int} (hd : Whole d n) (way : Toward) : ∃ s, d.integral way = .number s n.natAbs 0 ∧ (n ≠ 0 → s = decide (n < 0)) := by
  obtain ⟨s, k, rfl, hs⟩ := hd
  refine ⟨s, ?_, hs⟩
  have e1 : (-(k : Int)).toNat = 0 := by omega
  have e2 : (- -(k : Int)).toNat = k := by omega
  simp only [Datum.integral, e1, e2, Nat.shiftLeft_zero, cut_pow]

theorem toInt_whole {d : Datum} {n : Int} (hd : Whole d n) (way : Toward) : d.toInt way = some n := by
  obtain ⟨s, he, hs⟩ := integral_whole hd way
  unfold Datum.toInt
  rw [he]
  have := signed_whole hs 0 0
  simp at this
  simp [this]

/-- Which words stand for a whole number. -/
theorem rep_inv {b : Nat} {n : Int} (hb : Rep b n) (h : n.natAbs < 2 ^ 53) : b = fl n ∨ (n = 0 ∧ b = 2 ^ 63) := by
  obtain ⟨hlt, s, k, hr, hs⟩ := hb
  unfold Format.read at hr
  have e5 : double.binade = 2 ^ 52 := rfl
  have e6 : double.infRung = 2047 * 2 ^ 52 := rfl
  have e2 : double.leastPlace = -1074 := by decide
  have e7 : double.signWeight = 2 ^ 63 := rfl
  simp only [e5, e6, e2, e7] at hr
  have hw : b = double.word (b / 2 ^ 63 % 2 == 1) (b % 2 ^ 63) := by
    unfold Format.word
    rw [e7]
    have : b / 2 ^ 63 = 0 ∨ b / 2 ^ 63 = 1 := by omega
    rcases this with h | h
    · simp [h]; omega
    · simp [h]; omega
  split at hr
  · rename_i hsub
    injection hr with q1 q2 q3
    have hk : k = 1074 := by omega
    have hz : n.natAbs = 0 := by
      apply Decidable.byContradiction
      intro hne
      have h1 : 1 * 2 ^ k ≤ n.natAbs * 2 ^ k := Nat.mul_le_mul_right _ (by omega)
      have h2 : (2 : Nat) ^ 52 ≤ 2 ^ k := Nat.pow_le_pow_right (by omega) (by omega)
      generalize (2 : Nat) ^ k = X at *
      omega
    have hn : n = 0 := by omega
    subst hn
    have hrz : b % 2 ^ 63 = 0 := by rw [q2]; simp
    rw [hrz] at hw
    by_cases hneg : (b / 2 ^ 63 % 2 == 1) = true
    · right; refine ⟨rfl, ?_⟩; rw [hw, hneg]; rfl
    · left; rw [hw, Bool.eq_false_iff.2 hneg]; rfl
  · split at hr
    · rename_i hnsub hfin
      injection hr with q1 q2 q3
      have hn0 : n.natAbs ≠ 0 := by
        intro h0
        rw [h0] at q2
        simp at q2
      have hn : n ≠ 0 := by omega
      have hl := log2_mul_pow n.natAbs k hn0
      have h52 : (n.natAbs * 2 ^ k).log2 = 52 := by
        rw [Nat.log2_eq_iff (by omega)]
        omega
      have hk : k = 52 - n.natAbs.log2 := by omega
      left
      rw [hw, q1, hs hn, fl_word n hn h]
      congr 1
      unfold rungOf
      rw [← hk, ← q2]
      have : n.natAbs.log2 = 52 - k := by omega
      rw [this]
      omega
    · split at hr <;> simp at hr

theorem rep_fl_iff {b : Nat} {n : Int} (hb : Rep b n) (h : n.natAbs < 2 ^ 53) (h0 : n ≠ 0) : b = fl n := by
  rcases rep_inv hb h with h | h
  · exact h
  · exact absurd h.1 h0

theorem fl_lt (n : Int) (h : n.natAbs < 2 ^ 53) : fl n < 2 ^ 64 := (rep_fl n h).1

theorem rep_order {x y : Nat} {m n : Int} (hx : Rep x m) (hy : Rep y n) : FloatKind.f64.format.order x y = some (compare m n) := by
  show double.order x y = _
  unfold Format.order
  exact order_whole hx.2 hy.2

theorem rep_toInt {x : Nat} {n : Int} (hx : Rep x n) (h : n.natAbs < 2 ^ 53) : floatToIntVal .f64 x .i64 = some n := by
  unfold floatToIntVal
  have : (FloatKind.f64.decode x).toInt .zero = some n := toInt_whole hx.2 .zero
  rw [this]
  have e1 : IntKind.i64.min = -9223372036854775808 := by decide
  have e2 : IntKind.i64.max = 9223372036854775807 := by decide
  simp only [e1, e2]
  rw [if_pos (by omega)]

/-- The whole number of a word, cut towards nought. -/
def nb (b : Nat) : Int := ((double.read b).toInt .zero).getD 0

/-- Is the word one of a number's parts? -/
def vp (b : Nat) : Bool := decide ((nb b).natAbs ≤ 16777216) && fl (nb b) == b

theorem vp_true {b : Nat} (h : vp b = true) : (nb b).natAbs ≤ 16777216 ∧ b = fl (nb b) := by
  unfold vp at h
  simp at h
  exact ⟨h.1, h.2.symm⟩

theorem nb_fl (n : Int) (h : n.natAbs < 2 ^ 53) : nb (fl n) = n := by
  unfold nb
  rw [toInt_whole (rep_fl n h).2]; rfl

theorem vp_fl (n : Int) (h : n.natAbs ≤ 16777216) : vp (fl n) = true := by
  unfold vp
  rw [nb_fl n (by omega)]
  simp [h]

/-- What archTrunc gives of a word that is no NaN. -/
def truncBits (b : Nat) : Nat := double.write ((double.read b).integral .zero)

theorem trunc_rep {b : Nat} {n : Int} (hb : Rep b n) (h : n.natAbs < 2 ^ 53) : Rep (truncBits b) n := by
  obtain ⟨s, he, hs⟩ := integral_whole hb.2 .zero
  unfold truncBits
  rw [he]
  have : Whole (.number s n.natAbs 0) n := ⟨s, 0, by simp, hs⟩
  exact (write_whole this h).1

theorem signed_natAbs (s : Bool) (m u : Nat) : (signed s m u).natAbs = m * 2 ^ u := by
  unfold signed
  rw [Nat.shiftLeft_eq]
  cases s <;> simp only [Bool.false_eq_true, if_false, if_true, Int.natAbs_neg, Int.natAbs_natCast]

def leB (o : Option Ordering) : Bool := o == some .lt || o == some .eq

theorem leB_compare (m n : Int) : leB (some (compare m n)) = decide (m ≤ n) := by
  unfold leB
  rcases Int.lt_trichotomy m n with h | h | h
  · rw [Int.compare_eq_lt.2 h]; simp; omega
  · subst h; simp
  · rw [Int.compare_eq_gt.2 h]; simp; omega

theorem most_fl : fl 16777216 = 4715268809856909312 := by decide
theorem least_fl : fl (-16777216) = 13938640846711685120 := by decide

/-- A word within the bounds that is no nought and no whole number's has another one for its whole part. -/
theorem trunc_inv {b : Nat} (hlt : b < 2 ^ 64) (h1 : leB (double.order (fl (-16777216)) b) = true) (h2 : leB (double.order b (fl 16777216)) = true)
    (h3 : (double.order (truncBits b) b == some .eq) = true) : ∃ n : Int, n.natAbs ≤ 16777216 ∧ Rep b n := by
  have m1 := rep_fl (-16777216) (by decide)
  have m2 := rep_fl 16777216 (by decide)
  have key : ∃ (s : Bool) (m k : Nat), double.read b = .number s m (-(k : Int)) ∧ m < 2 ^ 53 := by
    have hM : double.read (fl 16777216) = .number false (2 ^ 52) (-28) := by rw [most_fl]; decide
    have hL : double.read (fl (-16777216)) = .number true (2 ^ 52) (-28) := by rw [least_fl]; decide
    unfold Format.order at h1 h2
    rw [hM] at h2
    rw [hL] at h1
    cases hd : double.read b with
    | nan s t => rw [hd] at h2; simp [Datum.order, leB] at h2
    | infinity s => rw [hd] at h1 h2; cases s <;> simp [Datum.order, leB] at h1 h2
    | number s m i =>
      have hm : m < 2 ^ 53 ∧ (2 ^ 52 ≤ m ∨ i = -1074) := by
        unfold Format.read at hd
        have e5 : double.binade = 2 ^ 52 := rfl
        have e6 : double.infRung = 2047 * 2 ^ 52 := rfl
        have e2 : double.leastPlace = -1074 := by decide
        have e7 : double.signWeight = 2 ^ 63 := rfl
        simp only [e5, e6, e2, e7] at hd
        split at hd
        · injection hd with q1 q2 q3; omega
        · split at hd
          · injection hd with q1 q2 q3; omega
          · split at hd <;> simp at hd
      by_cases hi : i ≤ 0
      · exact ⟨s, m, (-i).toNat, by rw [show -(((-i).toNat : Nat) : Int) = i by omega], hm.1⟩
      · exfalso
        rw [hd] at h1 h2
        have hmm : 2 ^ 52 ≤ m := by omega
        have hb : min i (-28) = -28 := by omega
        have hb' : min (-28) i = -28 := by omega
        simp only [Datum.order, hb, hb'] at h1 h2
        rw [leB_compare] at h1 h2
        have hbig : 2 ^ 53 ≤ m * 2 ^ (i - -28).toNat := by
          have : 2 ^ 1 ≤ 2 ^ (i - -28).toNat := Nat.pow_le_pow_right (by omega) (by omega)
          have := Nat.mul_le_mul hmm this
          omega
        rw [← signed_natAbs s] at hbig
        have c1 : signed false (2 ^ 52) (-28 - -28 : Int).toNat = 4503599627370496 := by decide
        have c2 : signed true (2 ^ 52) (-28 - -28 : Int).toNat = -4503599627370496 := by decide
        rw [c2] at h1
        rw [c1] at h2
        have h1' := of_decide_eq_true h1
        have h2' := of_decide_eq_true h2
        omega
  obtain ⟨s, m, k, hd, hm⟩ := key
  have hcut : ∃ N : Nat, Toward.zero.cut s m k = N ∧ N < 2 ^ 53 := by
    refine ⟨_, rfl, ?_⟩
    unfold Toward.cut
    simp
    exact Nat.lt_of_le_of_lt (Nat.div_le_self _ _) hm
  obtain ⟨N, hN, hN53⟩ := hcut
  have htr : (double.read b).integral .zero = .number s N 0 := by
    rw [hd]
    have e1 : (-(k : Int)).toNat = 0 := by omega
    have e2 : (- -(k : Int)).toNat = k := by omega
    simp only [Datum.integral, e1, e2, Nat.shiftLeft_zero, hN]
  let n : Int := if s then -(N : Int) else N
  have hnN : n.natAbs = N := by show (if s then -(N : Int) else N).natAbs = N; cases s <;> simp
  have hns : n ≠ 0 → s = decide (n < 0) := by
    show (if s then -(N : Int) else (N : Int)) ≠ 0 → s = decide ((if s then -(N : Int) else (N : Int)) < 0)
    cases s <;> simp <;> omega
  have hwh : Whole (.number s N 0) n := ⟨s, 0, by simp [hnN], hns⟩
  have hrep : Rep (truncBits b) n := by
    unfold truncBits
    rw [htr]
    exact (write_whole hwh (by omega)).1
  obtain ⟨_, s', k', hr', hs'⟩ := hrep
  have hb : Rep b n := by
    refine ⟨hlt, ?_⟩
    unfold Format.order at h3
    rw [hr', hd] at h3
    have e1 : (-(k' : Int) - min (-(k' : Int)) (-(k : Int))).toNat = max k' k - k' := by omega
    have e2 : (-(k : Int) - min (-(k' : Int)) (-(k : Int))).toNat = max k' k - k := by omega
    simp only [Datum.order, e1, e2] at h3
    rw [signed_whole hs', show k' + (max k' k - k') = max k' k by omega] at h3
    have h4 : n * 2 ^ max k' k = signed s m (max k' k - k) := by
      have : compare (n * 2 ^ max k' k) (signed s m (max k' k - k)) = .eq := by simpa using h3
      exact Int.compare_eq_eq.1 this
    have h5 : (n * 2 ^ max k' k).natAbs = m * 2 ^ (max k' k - k) := by
      rw [h4]; exact signed_natAbs s m _
    rw [natAbs_mul_pow] at h5
    have h6 : m = n.natAbs * 2 ^ k := by
      have h7 : n.natAbs * 2 ^ k * 2 ^ (max k' k - k) = m * 2 ^ (max k' k - k) := by
        rw [Nat.mul_assoc, ← Nat.pow_add, show k + (max k' k - k) = max k' k by omega]; exact h5
      exact (Nat.eq_of_mul_eq_mul_right (Nat.two_pow_pos _) h7).symm
    rw [hd, h6]
    exact ⟨s, k, rfl, hns⟩
  refine ⟨n, ?_, hb⟩
  have o1 := rep_order m1 hb
  have o2 := rep_order hb m2
  rw [show double.order (fl (-16777216)) b = _ from o1, leB_compare] at h1
  rw [show double.order b (fl 16777216) = _ from o2, leB_compare] at h2
  simp at h1 h2
  omega

/-- What the code asks of a part. -/
def codeVp (b : Nat) : Bool :=
  if double.order b 0 == some .eq then decide (b < 2 ^ 63)
  else leB (double.order (fl (-16777216)) b) && leB (double.order b (fl 16777216)) && double.order (truncBits b) b == some .eq

theorem order_zero_eq {b : Nat} (hlt : b < 2 ^ 63) (h : (double.order b 0 == some .eq) = true) : b = 0 := by
  have hz : double.read 0 = .number false 0 (-1074) := by decide
  unfold Format.order at h
  rw [hz] at h
  unfold Format.read at h
  have e5 : double.binade = 2 ^ 52 := rfl
  have e6 : double.infRung = 2047 * 2 ^ 52 := rfl
  have e2 : double.leastPlace = -1074 := by decide
  have e7 : double.signWeight = 2 ^ 63 := rfl
  simp only [e5, e6, e2, e7] at h
  have hn : (b / 2 ^ 63 % 2 == 1) = false := by
    have : b / 2 ^ 63 = 0 := by omega
    simp [this]
  have hr : b % 2 ^ 63 = b := by omega
  rw [hn, hr] at h
  have hzero : ∀ u, signed false 0 u = 0 := by intro u; simp [signed]
  split at h
  · simp only [Datum.order, hzero, Int.min_self, Int.sub_self, Int.toNat_zero] at h
    have : compare (signed false b 0) 0 = .eq := by simpa using h
    have := Int.compare_eq_eq.1 this
    simp [signed] at this
    exact this
  · split at h
    · exfalso
      rename_i c1 c2
      simp only [Datum.order, hzero] at h
      have h' := Int.compare_eq_eq.1 (by simpa using h)
      have h2 := congrArg Int.natAbs h'
      rw [signed_natAbs] at h2
      rcases Nat.mul_eq_zero.1 h2 with h3 | h3
      · omega
      · exact absurd h3 (Nat.ne_of_gt (Nat.two_pow_pos _))
    · exfalso
      split at h <;> simp [Datum.order] at h

theorem codeVp_eq (b : Nat) (hlt : b < 2 ^ 64) : codeVp b = vp b := by
  have m1 := rep_fl (-16777216) (by decide)
  have m2 := rep_fl 16777216 (by decide)
  have rz : Rep 0 0 := rep_zero false
  cases hv : vp b with
  | true =>
    obtain ⟨hn, hb⟩ := vp_true hv
    have hr : Rep b (nb b) := by rw [hb, nb_fl _ (by omega)]; exact rep_fl _ (by omega)
    unfold codeVp
    by_cases h0 : nb b = 0
    · have hb0 : b = 0 := by rw [hb, h0]; rfl
      subst hb0
      rw [show double.order 0 0 = _ from rep_order rz rz]
      simp
    · rw [show double.order b 0 = _ from rep_order hr rz]
      have : (some (compare (nb b) 0) == some .eq) = false := by
        rw [Bool.eq_false_iff]
        intro h
        exact h0 (Int.compare_eq_eq.1 (by simpa using h))
      rw [this]
      simp only [Bool.false_eq_true, if_false]
      rw [show double.order (fl (-16777216)) b = _ from rep_order m1 hr, show double.order b (fl 16777216) = _ from rep_order hr m2,
        show double.order (truncBits b) b = _ from rep_order (trunc_rep hr (by omega)) hr, leB_compare, leB_compare]
      simp
      omega
  | false =>
    unfold codeVp
    by_cases hz : (double.order b 0 == some .eq) = true
    · rw [if_pos hz]
      simp
      apply Decidable.byContradiction
      intro hc
      have := order_zero_eq (by omega) hz
      subst this
      have : vp 0 = true := vp_fl 0 (by decide)
      rw [hv] at this
      cases this
    · rw [if_neg hz]
      rw [Bool.eq_false_iff]
      intro hc
      simp only [Bool.and_eq_true] at hc
      obtain ⟨⟨h1, h2⟩, h3⟩ := hc
      obtain ⟨n, hn, hr⟩ := trunc_inv hlt h1 h2 h3
      have h0 : n ≠ 0 := by
        intro h0
        subst h0
        rw [show double.order b 0 = _ from rep_order hr rz] at hz
        simp at hz
      have hb := rep_fl_iff hr (by omega) h0
      have : vp b = true := by rw [hb]; exact vp_fl n hn
      rw [hv] at this
      cases this

end Go.Proofs.YtndgglhppoijnaaDoor
/-
  The walks of the small functions: what a float's bits are, whether a part is one, whether a number is one.
-/
namespace Go.Proofs.YtndgglhppoijnaaDoor
open Go.RowKit
open Ieee

theorem run_bits (b : Nat) (w : World) : (callFunc 83 #[.float .f64 b]).run Tryd.prog w = .ok (.value (.int .u64 b)) w := by
  rw [run_callFunc_extern (e := Extern.MathFloatBits.float64bits) Tryd.func83 (by kernel_rfl) (by kernel_rfl) (by kernel_rfl) (by kernel_rfl)]
  rfl

theorem run_trunc (b : Nat) (w : World) (h : (double.read b).isNaN = false) : (callFunc 84 #[.float .f64 b]).run Tryd.prog w = .ok (.value (.float .f64 (truncBits b))) w := by
  rw [run_callFunc_extern (e := Extern.MathFloor.toIntegral "math.archTrunc" .zero) Tryd.func84 (by kernel_rfl) (by kernel_rfl) (by kernel_rfl) (by kernel_rfl)]
  have : (Extern.MathFloor.toIntegral "math.archTrunc" .zero #[.float .f64 b]) = pure (.float .f64 (truncBits b)) := by
    have e : FloatKind.f64.decode b = double.read b := rfl
    have h3 : truncBits b = FloatKind.f64.encode ((FloatKind.f64.decode b).integral .zero) := rfl
    rw [h3]
    rw [← e] at h
    delta Extern.MathFloor.toIntegral
    unfold Extern.MathFloor.toIntegral.match_2
    dsimp
    have g : (#[Value.float FloatKind.f64 b].getLit 0 rfl Nat.zero_lt_one) = Value.float .f64 b := rfl
    rw [g]
    dsimp only [Extern.MathFloor.toIntegral._sparseCasesOn_2, Extern.MathFloor.toIntegral._sparseCasesOn_3]
    cases hd : FloatKind.f64.decode b with
    | nan s t => rw [hd] at h; simp [Datum.isNaN] at h
    | infinity s => rfl
    | number s m i => rfl
  rw [this]
  rfl

theorem f64_double : FloatKind.f64.format = double := rfl
theorem ret_bool {a b : Bool} (h : a = b) : Ending.returned (.bool a) = .returned (.bool b) := by rw [h]

set_option maxHeartbeats 400000 in
theorem within_any (b : Nat) (w : World) :
    Calls Tryd.prog 76 #[.float .f64 b] w fun e w' => e = .returned (.bool (leB (double.order (fl (-16777216)) b) && leB (double.order b (fl 16777216)))) ∧ w' = w := by
  rw [most_fl, least_fl]
  go_enter Tryd.func76, Tryd.ntmps76
  go_wp2
  all_goals (go_ret; refine ⟨ret_bool ?_, rfl⟩; simp_all [leB, f64_double])

set_option maxHeartbeats 400000 in
theorem signbit_any (b : Nat) (w : World) (hb : b < 2 ^ 64) :
    Calls Tryd.prog 75 #[.float .f64 b] w fun e w' => e = .returned (.bool (decide (2 ^ 63 ≤ b))) ∧ w' = w := by
  have hr := run_bits b
  go_enter Tryd.func75, Tryd.ntmps75
  go_wp2
  go_ret
  refine ⟨ret_bool ?_, rfl⟩
  unfold wrap64
  rw [decide_eq_decide]
  omega

set_option maxHeartbeats 400000 in
theorem trunc_any (b : Nat) (w : World) (h : (double.read b).isNaN = false) :
    Calls Tryd.prog 77 #[.float .f64 b] w fun e w' => e = .returned (.float .f64 (truncBits b)) ∧ w' = w := by
  have hr := fun w => run_trunc b w h
  go_enter Tryd.func77, Tryd.ntmps77
  go_wp2
  go_ret
  exact ⟨rfl, rfl⟩

theorem not_nan_of_le {x y : Nat} (h : leB (double.order x y) = true) : (double.read y).isNaN = false := by
  unfold Format.order at h
  cases hy : double.read y with
  | nan s t => rw [hy] at h; cases hx : double.read x <;> rw [hx] at h <;> simp [Datum.order, leB] at h
  | infinity s => rfl
  | number s m i => rfl

set_option maxHeartbeats 400000 in
theorem validPart_any (b : Nat) (w : World) (hb : b < 2 ^ 64) :
    Calls Tryd.prog 72 #[.float .f64 b] w fun e w' => e = .returned (.bool (vp b)) ∧ w' = w := by
  have key : Hid (codeVp b = vp b) := codeVp_eq b hb
  by_cases hz : (double.order b 0 == some .eq) = true
  · have hz' : (FloatKind.f64.format.order b 0 == some .eq) = true := hz
    go_enter Tryd.func72, Tryd.ntmps72
    go_wp2_with (go_at_call 75; refine (signbit_any b _ hb).mono ?_; rintro e w' ⟨rfl, rfl⟩)
    go_ret
    refine ⟨ret_bool ?_, rfl⟩
    rw [← key.out]
    unfold codeVp
    rw [if_pos hz]
    have : (!decide (2 ^ 63 ≤ b)) = decide (b < 2 ^ 63) := by rw [← decide_not, decide_eq_decide]; omega
    exact this
  · have hz' : (FloatKind.f64.format.order b 0 == some .eq) = false := by simpa [f64_double] using hz
    by_cases hw : (leB (double.order (fl (-16777216)) b) && leB (double.order b (fl 16777216))) = true
    · have hn : (double.read b).isNaN = false := not_nan_of_le (by simp at hw; exact hw.1)
      go_enter Tryd.func72, Tryd.ntmps72
      go_wp2_with (first | (go_at_call 76; refine (within_any b _).mono ?_; rintro e w' ⟨rfl, rfl⟩) | (go_at_call 77; refine (trunc_any b _ hn).mono ?_; rintro e w' ⟨rfl, rfl⟩))
      go_ret
      refine ⟨ret_bool ?_, rfl⟩
      rw [← key.out]
      unfold codeVp
      rw [if_neg hz, hw]
      simp [f64_double]
    · have hw' : (leB (double.order (fl (-16777216)) b) && leB (double.order b (fl 16777216))) = false := by simpa using hw
      go_enter Tryd.func72, Tryd.ntmps72
      go_wp2_with (first | (go_at_call 76; refine (within_any b _).mono ?_; rintro e w' ⟨rfl, rfl⟩))
      go_ret
      refine ⟨ret_bool ?_, rfl⟩
      rw [← key.out]
      unfold codeVp
      rw [if_neg hz, hw']
      simp

set_option maxHeartbeats 400000 in
theorem valid_any (a b : Nat) (w : World) (ha : a < 2 ^ 64) (hb : b < 2 ^ 64) :
    Calls Tryd.prog 69 #[.complex .f64 a b] w fun e w' => e = .returned (.bool (vp a && vp b)) ∧ w' = w := by
  by_cases h : vp a = true
  · go_enter Tryd.func69, Tryd.ntmps69
    go_wp2_with (go_at_call 72; refine (validPart_any _ _ (by assumption)).mono ?_; rintro e w' ⟨rfl, rfl⟩)
    go_ret
    exact ⟨ret_bool (by simp [h]), rfl⟩
  · have h' : vp a = false := by simpa using h
    go_enter Tryd.func69, Tryd.ntmps69
    go_wp2_with (go_at_call 72; refine (validPart_any _ _ (by assumption)).mono ?_; rintro e w' ⟨rfl, rfl⟩)
    go_ret
    exact ⟨ret_bool (by simp [h']), rfl⟩

theorem fl_conv (n : Int) : floatOfInt .f64 n = fl n := rfl

/-- What settle answers of a whole complex number. -/
def okC (x y : Int) : Bool := decide (x.natAbs ≤ 16777216) && decide (y.natAbs ≤ 16777216)

def ansE (x y : Int) : Int := if okC x y then 0 else 50

/-- Bit by bit the same. -/
def same (a b c d : Nat) : Bool := decide (a = c ∧ b = d)

end Go.Proofs.YtndgglhppoijnaaDoor
/-
  The walks of sums, products and of a number out of its parts.
-/
namespace Go.Proofs.YtndgglhppoijnaaDoor
open Go.RowKit
open Ieee

theorem okC_iff {x y : Int} : okC x y = true ↔ x.natAbs ≤ 16777216 ∧ y.natAbs ≤ 16777216 := by
  unfold okC; simp

/-- What Valid answers. -/
def vc (a b : Nat) : Bool := vp a && vp b

theorem valid_vc (a b : Nat) (w : World) (ha : a < 2 ^ 64) (hb : b < 2 ^ 64) :
    Calls Tryd.prog 69 #[.complex .f64 a b] w fun e w' => e = .returned (.bool (vc a b)) ∧ w' = w := valid_any a b w ha hb

end Go.Proofs.YtndgglhppoijnaaDoor
/-
  The walk of the quotient.
-/
namespace Go.Proofs.YtndgglhppoijnaaDoor
open Go.RowKit
open Ieee

end Go.Proofs.YtndgglhppoijnaaDoor
/-
  What follows of the answers of sums and products: they hang on no grouping, and a product of a sum is the sum of the products.
-/
namespace Go.Proofs.YtndgglhppoijnaaDoor
open Go.RowKit
open Ieee

end Go.Proofs.YtndgglhppoijnaaDoor
/-
  The walks of the difference, the conjugate and the order.
-/
namespace Go.Proofs.YtndgglhppoijnaaDoor
open Go.RowKit
open Ieee

end Go.Proofs.YtndgglhppoijnaaDoor
/-
  The whole part of a float within the bounds, as an integer conversion gives it.
-/
namespace Go.Proofs.YtndgglhppoijnaaDoor
open Go.RowKit
open Ieee

end Go.Proofs.YtndgglhppoijnaaDoor
/-
  The walk of the calls whose answers the document fixes.
-/
namespace Go.Proofs.YtndgglhppoijnaaDoor
open Go.RowKit
open Ieee

set_option maxHeartbeats 400000 in
theorem parts_any (p q : Int) (w : World) (hp : p.natAbs ≤ 16777216) (hq : q.natAbs ≤ 16777216) :
    Calls Tryd.prog 64 #[.complex .f64 (fl p) (fl q)] w fun e w' => e = .returned (.tuple #[.int .i64 p, .int .i64 q, .int .i64 0]) ∧ w' = w := by
  have l1 := fl_lt p (by omega)
  have l2 := fl_lt q (by omega)
  have hv : vc (fl p) (fl q) = true := by unfold vc; rw [vp_fl p hp, vp_fl q hq]; rfl
  have c1 := rep_toInt (rep_fl p (by omega)) (by omega)
  have c2 := rep_toInt (rep_fl q (by omega)) (by omega)
  have q1 : ∀ w, (convert 111 3 (.float .f64 (fl p))).run Tryd.prog w = .ok (.int .i64 p) w := fun w => run_convert_float_int w 111 3 .f64 .i64 (fl p) p (by rw [Tryd.underlying111]; rfl) Tryd.underlying3 c1
  have q2 : ∀ w, (convert 111 3 (.float .f64 (fl q))).run Tryd.prog w = .ok (.int .i64 q) w := fun w => run_convert_float_int w 111 3 .f64 .i64 (fl q) q (by rw [Tryd.underlying111]; rfl) Tryd.underlying3 c2
  clear c1 c2 hp hq
  go_enter Tryd.func64, Tryd.ntmps64
  go_wp2_with (go_at_call 69; refine (valid_vc _ _ _ (by assumption) (by assumption)).mono ?_; rintro e w' ⟨rfl, rfl⟩)
  go_ret3
  exact ⟨rfl, rfl⟩

end Go.Proofs.YtndgglhppoijnaaDoor
/-
  The walks of the document's answers: a number of a float, sums, products, quotients, the order.
-/
namespace Go.Proofs.YtndgglhppoijnaaDoor
open Go.RowKit
open Ieee

theorem bcell {W w1 : World} (hb : Below W.heap.size W w1) : (∀ b o, b < W.heap.size → w1.cell? ⟨b, o, none⟩ = W.cell? ⟨b, o, none⟩) ∧ (∀ b o, b < W.heap.size → w1.frozen? ⟨b, o, none⟩ = W.frozen? ⟨b, o, none⟩) :=
  ⟨fun b o h => hb.cell (p := ⟨b, o, none⟩) h, fun b o h => hb.frozen (p := ⟨b, o, none⟩) h⟩

/-- What the document answers of a number that may be too great. -/
def inX (x y : Int) : Int := if okC x y then x else 0
def inY (x y : Int) : Int := if okC x y then y else 0

set_option maxHeartbeats 400000 in
theorem in_any (x y : Int) (w : World) :
    Calls Tryd.prog 57 #[.agg #[.int .i64 x, .int .i64 y]] w fun e w' => e = .returned (.tuple #[.agg #[.int .i64 (inX x y), .int .i64 (inY x y)], .int .i64 (ansE x y)]) ∧ w' = (w.alloc (.cells #[.int .i64 x, .int .i64 y] 93)).alloc (.cells #[.int .i64 (inX x y), .int .i64 (inY x y)] 93) := by
  by_cases h : okC x y = true
  · have e1 : inX x y = x := by unfold inX; rw [h]; rfl
    have e2 : inY x y = y := by unfold inY; rw [h]; rfl
    have e3 : ansE x y = 0 := by unfold ansE; rw [h]; rfl
    rw [e1, e2, e3]
    obtain ⟨b1, b2⟩ := okC_iff.1 h
    have h1 : ¬ x < -16777216 := by omega
    have h2 : ¬ 16777216 < x := by omega
    have h3 : ¬ y < -16777216 := by omega
    have h4 : ¬ 16777216 < y := by omega
    clear e1 e2 e3 h b1 b2
    go_enter Tryd.func57, Tryd.ntmps57
    go_wp2
    exact bodyPost_ret (v := .tuple #[.agg #[.int .i64 x, .int .i64 y], .int .i64 0]) (by simp [results, Tryd.results57, go_sem]) rfl ⟨rfl, rfl⟩
  · have h' : okC x y = false := by simpa using h
    have e1 : inX x y = 0 := by unfold inX; rw [h']; rfl
    have e2 : inY x y = 0 := by unfold inY; rw [h']; rfl
    have e3 : ansE x y = 50 := by unfold ansE; rw [h']; rfl
    rw [e1, e2, e3]
    have hb : ¬ (x.natAbs ≤ 16777216 ∧ y.natAbs ≤ 16777216) := fun hc => h (okC_iff.2 hc)
    have h1 : x < -16777216 ∨ 16777216 < x ∨ y < -16777216 ∨ 16777216 < y := by omega
    clear e1 e2 e3 h h' hb
    go_enter Tryd.func57, Tryd.ntmps57
    go_wp2
    all_goals first | (exact bodyPost_ret (v := .tuple #[.agg #[.int .i64 0, .int .i64 0], .int .i64 50]) (by simp [results, Tryd.results57, go_sem]) rfl ⟨rfl, rfl⟩) | (exfalso; omega)

set_option maxHeartbeats 400000 in
theorem refz_any (x y : Int) (w : World) :
    Calls Tryd.prog 41 #[.agg #[.int .i64 x, .int .i64 y]] w fun e w' => e = .returned (.complex .f64 (fl x) (fl y)) ∧ w' = w.alloc (.cells #[.int .i64 x, .int .i64 y] 93) := by
  rw [← fl_conv, ← fl_conv]
  go_enter Tryd.func41, Tryd.ntmps41
  go_wp2
  go_ret
  exact ⟨rfl, rfl⟩

theorem bal {w w1 : World} {o : Obj} (h : Below w.heap.size w w1) : Below w.heap.size w (w1.alloc o) := h.alloc h.size o

end Go.Proofs.YtndgglhppoijnaaDoor
/-
  What a law of two arguments holds in memory while it runs: the two boxes and the two numbers that the document makes of them.
-/
namespace Go.Proofs.YtndgglhppoijnaaDoor
open Go.RowKit
open Ieee

abbrev Nm (p q : Int) : Obj := .cells #[.int .i64 p, .int .i64 q] 93

theorem keep {W W' : World} {b o : Nat} {v : Value} (hb : Below W.heap.size W W') (h : W.cell? ⟨b, o, none⟩ = some v) : W'.cell? ⟨b, o, none⟩ = some v := by
  have hlt := World.block_lt_of_cell? (a := ⟨b, o, none⟩) W h
  rw [hb.cell (p := ⟨b, o, none⟩) hlt]; exact h

end Go.Proofs.YtndgglhppoijnaaDoor
