/-
  Tuples, plainly: how many, their numbers, and what rising is.
-/
import Derived.WalkKit
namespace Go.Proofs.Ytiikkbofcccjfaa

/-- A type's top; below 0: it is none. -/
def topP (t : Int) : Int := if t = 1 ∨ t = 2 then 1 else if t = 3 then 3 else -1
def topV (t : Int) : Int := if topP t < 0 then 0 else topP t
def topE (t : Int) : Int := if topP t < 0 then 3 else 0
def isP (t p : Int) : Bool := decide (0 ≤ p ∧ p ≤ topP t)
def chkP (t p : Int) : Int := if topP t < 0 then 3 else if isP t p then 0 else 2

theorem top_cases (t : Int) : (t = 1 ∧ topP t = 1) ∨ (t = 2 ∧ topP t = 1) ∨ (t = 3 ∧ topP t = 3) ∨ ((t == 1) = false ∧ (t == 2) = false ∧ (t == 3) = false ∧ topP t = -1) := by
  unfold topP
  simp only [beq_eq_false_iff_ne, ne_eq]
  split
  · omega
  · split <;> omega

theorem top_le (t : Int) : topP t ≤ 3 ∧ -1 ≤ topP t := by
  unfold topP
  split
  · omega
  · split <;> omega

/-- Are they types? -/
def okTs (ks : List Int) : Bool := ks.all fun k => decide (0 ≤ topP k)
/-- How many tuples. -/
def prodT : List Int → Int
  | [] => 1
  | k :: ks => (topP k + 1) * prodT ks

theorem okTs_cons (k : Int) (ks : List Int) : okTs (k :: ks) = (decide (0 ≤ topP k) && okTs ks) := rfl
theorem okTs_app (as bs : List Int) : okTs (as ++ bs) = (okTs as && okTs bs) := by unfold okTs; rw [List.all_append]
theorem prodT_app (as bs : List Int) : prodT (as ++ bs) = prodT as * prodT bs := by
  induction as with
  | nil => simp [prodT]
  | cons k as ih => rw [List.cons_append, prodT, prodT, ih, Int.mul_assoc]
theorem prodT_one (k : Int) : prodT [k] = topP k + 1 := by simp [prodT]

theorem sz_pos {k : Int} (h : 0 ≤ topP k) : 2 ≤ topP k + 1 ∧ topP k + 1 ≤ 4 := by
  rcases top_cases k with ⟨rfl, e⟩ | ⟨rfl, e⟩ | ⟨rfl, e⟩ | ⟨_, _, _, e⟩ <;> omega

theorem prodT_pos {ks : List Int} (h : okTs ks = true) : 1 ≤ prodT ks := by
  induction ks with
  | nil => simp [prodT]
  | cons k ks ih =>
    rw [okTs_cons, Bool.and_eq_true, decide_eq_true_eq] at h
    have h1 := ih h.2
    have h2 := (sz_pos h.1).1
    have := Int.mul_le_mul (show 1 ≤ topP k + 1 by omega) h1 (by omega) (by omega)
    unfold prodT
    omega

theorem prodT_len {ks : List Int} (h : okTs ks = true) : (ks.length : Int) + 1 ≤ prodT ks := by
  induction ks with
  | nil => simp [prodT]
  | cons k ks ih =>
    rw [okTs_cons, Bool.and_eq_true, decide_eq_true_eq] at h
    have h1 := ih h.2
    have h2 := (sz_pos h.1).1
    have := Int.mul_le_mul (show 2 ≤ topP k + 1 by omega) h1 (by omega) (by omega)
    unfold prodT
    rw [List.length_cons]
    omega

theorem take_succ {α : Type} (ks : List α) (d : α) {i : Nat} (h : i < ks.length) : ks.take (i + 1) = ks.take i ++ [ks.getD i d] := by
  rw [List.take_add_one, List.getElem?_eq_getElem h, List.getD_eq_getElem?_getD, List.getElem?_eq_getElem h]; rfl
theorem drop_get {α : Type} (ks : List α) (d : α) {i : Nat} (h : i < ks.length) : ks.drop i = ks.getD i d :: ks.drop (i + 1) := by
  rw [List.drop_eq_getElem_cons h, List.getD_eq_getElem?_getD, List.getElem?_eq_getElem h]; rfl

theorem okTs_get {ks : List Int} (h : okTs ks = true) {i : Nat} (hi : i < ks.length) : 0 ≤ topP (ks.getD i 0) := by
  unfold okTs at h
  rw [List.all_eq_true] at h
  rw [List.getD_eq_getElem?_getD, List.getElem?_eq_getElem hi]
  simpa using h _ (List.getElem_mem hi)
theorem okTs_no {ks : List Int} {i : Nat} (hi : i < ks.length) (h : topP (ks.getD i 0) < 0) : okTs ks = false := by
  rw [Bool.eq_false_iff]
  intro e
  have := okTs_get e hi
  omega
theorem okTs_take {ks : List Int} {i : Nat} (hi : i < ks.length) (h : okTs (ks.take i) = true) (h0 : 0 ≤ topP (ks.getD i 0)) : okTs (ks.take (i + 1)) = true := by
  rw [take_succ ks 0 hi, okTs_app, h, okTs_cons, decide_eq_true h0]
  rfl
theorem okTs_split {ks : List Int} (h : okTs ks = true) (i : Nat) : okTs (ks.take i) = true ∧ okTs (ks.drop i) = true := by
  have : okTs (ks.take i ++ ks.drop i) = true := by rw [List.take_append_drop]; exact h
  rw [okTs_app, Bool.and_eq_true] at this
  exact this
theorem prodT_take {ks : List Int} {i : Nat} (hi : i < ks.length) : prodT (ks.take (i + 1)) = prodT (ks.take i) * (topP (ks.getD i 0) + 1) := by
  rw [take_succ ks 0 hi, prodT_app, prodT_one]
theorem prodT_drop {ks : List Int} {i : Nat} (hi : i < ks.length) : prodT (ks.drop i) = (topP (ks.getD i 0) + 1) * prodT (ks.drop (i + 1)) := by
  rw [drop_get ks 0 hi]; rfl
theorem prodT_split (ks : List Int) (i : Nat) : prodT (ks.take i) * prodT (ks.drop i) = prodT ks := by
  rw [← prodT_app, List.take_append_drop]
theorem prodT_take_le {ks : List Int} (h : okTs ks = true) (i : Nat) : prodT (ks.take i) ≤ prodT ks := by
  have h1 := prodT_pos (okTs_split h i).1
  have h2 := prodT_pos (okTs_split h i).2
  have := Int.mul_le_mul (Int.le_refl (prodT (ks.take i))) h2 (by omega) (by omega)
  rw [prodT_split] at this
  omega
theorem prodT_drop_le {ks : List Int} (h : okTs ks = true) (i : Nat) : prodT (ks.drop i) ≤ prodT ks := by
  have h1 := prodT_pos (okTs_split h i).1
  have h2 := prodT_pos (okTs_split h i).2
  have := Int.mul_le_mul h1 (Int.le_refl (prodT (ks.drop i))) (by omega) (by omega)
  rw [prodT_split] at this
  omega

/-- What Count tells. -/
def cntE (ks : List Int) : Int := if okTs ks then if prodT ks ≤ 4096 then 0 else 22 else 3
def cntV (ks : List Int) : Int := if cntE ks = 0 then prodT ks else 0

theorem cntE_no {ks : List Int} (h : okTs ks = false) : cntE ks = 3 := by unfold cntE; rw [h]; rfl
theorem cntE_big {ks : List Int} (h : okTs ks = true) (h4 : 4096 < prodT ks) : cntE ks = 22 := by unfold cntE; rw [h]; simp; omega
theorem cntE_yes {ks : List Int} (h : okTs ks = true) (h4 : prodT ks ≤ 4096) : cntE ks = 0 := by unfold cntE; rw [h]; simp; omega
theorem cntE_zero {ks : List Int} (h : cntE ks = 0) : okTs ks = true ∧ prodT ks ≤ 4096 := by
  unfold cntE at h
  split at h
  · split at h
    · constructor <;> assumption
    · omega
  · omega
theorem cntE_cases (ks : List Int) : cntE ks = 0 ∨ cntE ks = 3 ∨ cntE ks = 22 := by
  unfold cntE
  split
  · split <;> simp
  · simp
theorem cntV_zero {ks : List Int} (h : cntE ks = 0) : cntV ks = prodT ks := by unfold cntV; rw [if_pos h]
theorem cntV_no {ks : List Int} (h : cntE ks ≠ 0) : cntV ks = 0 := by unfold cntV; rw [if_neg h]

/-- The number of a tuple, from a number on. -/
def numA : Int → List Int → List Int → Int
  | n, k :: ks, p :: ps => numA (n * (topP k + 1) + p) ks ps
  | n, _, _ => n
/-- Is it a tuple of these types? -/
def okPs : List Int → List Int → Bool
  | k :: ks, p :: ps => isP k p && okPs ks ps
  | [], [] => true
  | _, _ => false

def numE (ks ps : List Int) : Int := if cntE ks = 0 then if ks.length = ps.length then if okPs ks ps then 0 else 2 else 3 else cntE ks
def numV (ks ps : List Int) : Int := if numE ks ps = 0 then numA 0 ks ps else 0

theorem okPs_len {ks ps : List Int} (h : okPs ks ps = true) : ks.length = ps.length := by
  induction ks generalizing ps with
  | nil => cases ps with
    | nil => rfl
    | cons p ps => cases h
  | cons k ks ih => cases ps with
    | nil => cases h
    | cons p ps =>
      unfold okPs at h
      rw [Bool.and_eq_true] at h
      simp [ih h.2]

theorem okPs_app {ks ps js qs : List Int} (hl : ks.length = ps.length) : okPs (ks ++ js) (ps ++ qs) = (okPs ks ps && okPs js qs) := by
  induction ks generalizing ps with
  | nil => cases ps with
    | nil => simp [okPs]
    | cons p ps => cases hl
  | cons k ks ih => cases ps with
    | nil => cases hl
    | cons p ps =>
      rw [List.cons_append, List.cons_append, okPs, okPs, ih (by simpa using hl), Bool.and_assoc]

theorem numA_app {ks ps js qs : List Int} (hl : ks.length = ps.length) (n : Int) : numA n (ks ++ js) (ps ++ qs) = numA (numA n ks ps) js qs := by
  induction ks generalizing ps n with
  | nil => cases ps with
    | nil => simp [numA]
    | cons p ps => cases hl
  | cons k ks ih => cases ps with
    | nil => cases hl
    | cons p ps => rw [List.cons_append, List.cons_append, numA, numA, ih (by simpa using hl)]

theorem numA_eq {ks ps : List Int} (hl : ks.length = ps.length) (n : Int) : numA n ks ps = n * prodT ks + numA 0 ks ps := by
  induction ks generalizing ps n with
  | nil => cases ps with
    | nil => simp [numA, prodT]
    | cons p ps => cases hl
  | cons k ks ih => cases ps with
    | nil => cases hl
    | cons p ps =>
      have hl' : ks.length = ps.length := by simpa using hl
      rw [numA, numA, ih hl' (n * (topP k + 1) + p), ih hl' (0 * (topP k + 1) + p), prodT, Int.add_mul, Int.zero_mul, Int.zero_add, Int.mul_assoc, Int.add_assoc]

theorem numA_rng {ks ps : List Int} (h : okPs ks ps = true) : 0 ≤ numA 0 ks ps ∧ numA 0 ks ps < prodT ks := by
  induction ks generalizing ps with
  | nil => cases ps with
    | nil => simp [numA, prodT]
    | cons p ps => cases h
  | cons k ks ih => cases ps with
    | nil => cases h
    | cons p ps =>
      have hl := okPs_len h
      unfold okPs at h
      rw [Bool.and_eq_true] at h
      obtain ⟨h1, h2⟩ := ih h.2
      have hp : 0 ≤ p ∧ p ≤ topP k := by simpa [isP] using h.1
      rw [numA, numA_eq (by simpa using hl), prodT, Int.zero_mul, Int.zero_add]
      have e1 := Int.mul_nonneg hp.1 (show 0 ≤ prodT ks by omega)
      have e2 := Int.mul_le_mul_of_nonneg_right (show p + 1 ≤ topP k + 1 by omega) (show 0 ≤ prodT ks by omega)
      rw [Int.add_mul, Int.one_mul] at e2
      omega

theorem okPs_take {ks ps : List Int} {i : Nat} (hl : ks.length = ps.length) (hi : i < ks.length) (h : okPs (ks.take i) (ps.take i) = true) (h0 : isP (ks.getD i 0) (ps.getD i 0) = true) : okPs (ks.take (i + 1)) (ps.take (i + 1)) = true := by
  rw [take_succ ks 0 hi, take_succ ps 0 (by omega), okPs_app (by simp; omega), h, okPs, h0]
  rfl
theorem okPs_no {ks ps : List Int} {i : Nat} (hl : ks.length = ps.length) (hi : i < ks.length) (h0 : isP (ks.getD i 0) (ps.getD i 0) = false) : okPs ks ps = false := by
  have e1 : ks = ks.take i ++ (ks.getD i 0 :: ks.drop (i + 1)) := by rw [← drop_get ks 0 hi, List.take_append_drop]
  have e2 : ps = ps.take i ++ (ps.getD i 0 :: ps.drop (i + 1)) := by rw [← drop_get ps 0 (by omega), List.take_append_drop]
  rw [e1, e2, okPs_app (by simp; omega), okPs]
  rw [h0]
  simp
theorem numA_take {ks ps : List Int} {i : Nat} (hl : ks.length = ps.length) (hi : i < ks.length) : numA 0 (ks.take (i + 1)) (ps.take (i + 1)) = numA 0 (ks.take i) (ps.take i) * (topP (ks.getD i 0) + 1) + ps.getD i 0 := by
  rw [take_succ ks 0 hi, take_succ ps 0 (by omega), numA_app (by simp; omega)]
  rfl
theorem okPs_get {ks ps : List Int} (h : okPs ks ps = true) {i : Nat} (hi : i < ks.length) : isP (ks.getD i 0) (ps.getD i 0) = true := by
  cases h0 : isP (ks.getD i 0) (ps.getD i 0) with
  | true => rfl
  | false => rw [okPs_no (okPs_len h) hi h0] at h; cases h

/-- One digit, and all of them. -/
def dig (ks : List Int) (n : Int) (j : Nat) : Int := n / prodT (ks.drop (j + 1)) % (topP (ks.getD j 0) + 1)
def tupL : List Int → Int → List Int
  | [], _ => []
  | k :: ks, n => n / prodT ks % (topP k + 1) :: tupL ks n
def tupE (ks : List Int) (n : Int) : Int := if cntE ks = 0 then if 0 ≤ n ∧ n < prodT ks then 0 else 2 else cntE ks
def tupV (ks : List Int) (n : Int) : List Int := if tupE ks n = 0 then tupL ks n else []

theorem tupL_len (ks : List Int) (n : Int) : (tupL ks n).length = ks.length := by
  induction ks with
  | nil => rfl
  | cons k ks ih => simp [tupL, ih]
theorem tupL_get (ks : List Int) (n : Int) (j : Nat) (hj : j < ks.length) : (tupL ks n).getD j 0 = dig ks n j := by
  induction ks generalizing j with
  | nil => cases hj
  | cons k ks ih =>
    cases j with
    | zero => simp [tupL, dig]
    | succ j =>
      have := ih j (by simpa using hj)
      simpa [tupL, dig] using this

theorem tupL_ok {ks : List Int} (h : okTs ks = true) (n : Int) : okPs ks (tupL ks n) = true := by
  induction ks with
  | nil => rfl
  | cons k ks ih =>
    rw [okTs_cons, Bool.and_eq_true, decide_eq_true_eq] at h
    have h2 := sz_pos h.1
    have e1 := Int.emod_nonneg (n / prodT ks) (show topP k + 1 ≠ 0 by omega)
    have e2 := Int.emod_lt_of_pos (n / prodT ks) (show 0 < topP k + 1 by omega)
    rw [tupL, okPs, ih h.2]
    simp only [isP, Bool.and_true, decide_eq_true_eq]
    omega

theorem mod_split (n p s : Int) (hp : 0 ≤ p) : n / p % s * p + n % p = n % (s * p) := by
  rw [Int.emod_def n (s * p), Int.mul_comm s p, ← Int.ediv_ediv_of_nonneg hp, Int.emod_def n p, Int.emod_def (n / p) s, Int.sub_mul, Int.mul_comm (n / p) p, Int.mul_comm (s * (n / p / s)) p, Int.mul_assoc]
  omega

theorem num_tup {ks : List Int} (h : okTs ks = true) (n : Int) : numA 0 ks (tupL ks n) = n % prodT ks := by
  induction ks with
  | nil => simp [numA, prodT]
  | cons k ks ih =>
    rw [okTs_cons, Bool.and_eq_true, decide_eq_true_eq] at h
    rw [tupL, numA, numA_eq (by rw [tupL_len]), ih h.2, Int.zero_mul, Int.zero_add, mod_split _ _ _ (by have := prodT_pos h.2; omega), prodT]

theorem num_tup_at {ks : List Int} (h : okTs ks = true) {n : Int} (h0 : 0 ≤ n) (h1 : n < prodT ks) : numA 0 ks (tupL ks n) = n := by
  rw [num_tup h, Int.emod_eq_of_lt h0 h1]

theorem tupL_mod {ks : List Int} (h : okTs ks = true) (n m : Int) : tupL ks (n + m * prodT ks) = tupL ks n := by
  induction ks generalizing n m with
  | nil => rfl
  | cons k ks ih =>
    rw [okTs_cons, Bool.and_eq_true, decide_eq_true_eq] at h
    have hp := prodT_pos h.2
    rw [tupL, tupL, prodT, ← Int.mul_assoc, ih h.2, Int.add_mul_ediv_right _ _ (by omega), Int.add_mul_emod_self_right]

theorem tup_num {ks ps : List Int} (h : okPs ks ps = true) (hk : okTs ks = true) : tupL ks (numA 0 ks ps) = ps := by
  induction ks generalizing ps with
  | nil => cases ps with
    | nil => rfl
    | cons p ps => cases h
  | cons k ks ih => cases ps with
    | nil => cases h
    | cons p ps =>
      have hl := okPs_len h
      unfold okPs at h
      rw [Bool.and_eq_true] at h
      rw [okTs_cons, Bool.and_eq_true, decide_eq_true_eq] at hk
      have hr := numA_rng h.2
      have hp : 0 ≤ p ∧ p ≤ topP k := by simpa [isP] using h.1
      have hpp := prodT_pos hk.2
      rw [tupL, numA, numA_eq (by simpa using hl), Int.zero_mul, Int.zero_add, Int.add_comm (p * _), tupL_mod hk.2, ih h.2 hk.2, Int.add_mul_ediv_right _ _ (by omega), Int.ediv_eq_zero_of_lt hr.1 hr.2, Int.zero_add, Int.emod_eq_of_lt hp.1 (by omega)]

/-- Nowhere greater. -/
def belowT : List Int → List Int → Bool
  | x :: xs, y :: ys => decide (x ≤ y) && belowT xs ys
  | [], [] => true
  | _, _ => false

theorem belowT_len {xs ys : List Int} (h : belowT xs ys = true) : xs.length = ys.length := by
  induction xs generalizing ys with
  | nil => cases ys with
    | nil => rfl
    | cons p ps => cases h
  | cons k ks ih => cases ys with
    | nil => cases h
    | cons p ps =>
      unfold belowT at h
      rw [Bool.and_eq_true] at h
      simp [ih h.2]

theorem belowT_iff {xs ys : List Int} (hl : xs.length = ys.length) : belowT xs ys = true ↔ ∀ j, j < xs.length → xs.getD j 0 ≤ ys.getD j 0 := by
  induction xs generalizing ys with
  | nil => cases ys with
    | nil => simp [belowT]
    | cons p ps => cases hl
  | cons k ks ih => cases ys with
    | nil => cases hl
    | cons p ps =>
      rw [belowT, Bool.and_eq_true, decide_eq_true_eq, ih (by simpa using hl)]
      constructor
      · rintro ⟨h1, h2⟩ j hj
        cases j with
        | zero => simpa using h1
        | succ j => simpa using h2 j (by simpa using hj)
      · intro h
        refine ⟨by simpa using h 0 (by simp), fun j hj => ?_⟩
        simpa using h (j + 1) (by simpa using hj)

theorem num_mono {ks : List Int} (hk : okTs ks = true) : ∀ {xs ys : List Int} {a b : Int}, ks.length = xs.length → belowT xs ys = true → a ≤ b → numA a ks xs ≤ numA b ks ys := by
  induction ks with
  | nil =>
    intro xs ys a b hl h hab
    cases xs with
    | nil => cases ys with
      | nil => simpa [numA] using hab
      | cons y ys => cases h
    | cons x xs => cases hl
  | cons k ks ih =>
    intro xs ys a b hl h hab
    cases xs with
    | nil => cases hl
    | cons x xs => cases ys with
      | nil => cases h
      | cons y ys =>
        rw [okTs_cons, Bool.and_eq_true, decide_eq_true_eq] at hk
        rw [belowT, Bool.and_eq_true, decide_eq_true_eq] at h
        rw [numA, numA]
        refine ih hk.2 (by simpa using hl) h.2 ?_
        have := Int.mul_le_mul_of_nonneg_right hab (show 0 ≤ topP k + 1 by omega)
        omega

theorem num_set {ks : List Int} : ∀ {xs : List Int} {i : Nat} (_ : ks.length = xs.length) (_ : i < ks.length) (a d : Int), numA a ks (xs.set i (xs.getD i 0 + d)) = numA a ks xs + d * prodT (ks.drop (i + 1)) := by
  induction ks with
  | nil => intro xs i _ hi; cases hi
  | cons k ks ih =>
    intro xs i hl hi a d
    cases xs with
    | nil => cases hl
    | cons x xs =>
      have hl' : ks.length = xs.length := by simpa using hl
      cases i with
      | zero =>
        simp only [List.set_cons_zero, List.getD_cons_zero, numA, List.drop_one, List.tail_cons, Nat.zero_add]
        rw [numA_eq hl', numA_eq hl' (a * (topP k + 1) + x), ← Int.add_assoc, Int.add_mul _ d]
        omega
      | succ i =>
        simp only [List.set_cons_succ, List.getD_cons_succ, numA, List.drop_succ_cons]
        exact ih hl' (by simpa using hi) _ _

/-- Cell n of a table's row, and whether it rises: each against those that are one step ahead. -/
def risS (ks : List Int) (N : Nat) (f : Nat → Nat) : Bool := decide (∀ j, j < ks.length → ∀ n, n < N → (n : Int) % prodT (ks.drop j) + prodT (ks.drop (j + 1)) < prodT (ks.drop j) → f n ≤ f (n + (prodT (ks.drop (j + 1))).toNat))

theorem step_iff {ks : List Int} (h : okTs ks = true) {j : Nat} (hj : j < ks.length) (n : Int) (_ : 0 ≤ n) : isP (ks.getD j 0) (dig ks n j + 1) = decide (n % prodT (ks.drop j) + prodT (ks.drop (j + 1)) < prodT (ks.drop j)) := by
  have hs := sz_pos (okTs_get h hj)
  have hp := prodT_pos (okTs_split h (j + 1)).2
  rw [prodT_drop hj]
  unfold isP dig
  generalize prodT (ks.drop (j + 1)) = p at *
  generalize topP (ks.getD j 0) = t at *
  rw [← mod_split n p (t + 1) (by omega)]
  have e1 := Int.emod_nonneg (n / p) (show t + 1 ≠ 0 by omega)
  have e3 := Int.emod_nonneg n (show p ≠ 0 by omega)
  have e4 := Int.emod_lt_of_pos n (show 0 < p by omega)
  generalize n / p % (t + 1) = d at *
  generalize n % p = r at *
  by_cases hd : d + 1 ≤ t
  · have := Int.mul_le_mul_of_nonneg_right (show d + 2 ≤ t + 1 by omega) (show 0 ≤ p by omega)
    rw [Int.add_mul] at this
    rw [decide_eq_true (show 0 ≤ d + 1 ∧ d + 1 ≤ t by omega), decide_eq_true (by omega)]
  · have := Int.mul_le_mul_of_nonneg_right (show t ≤ d by omega) (show 0 ≤ p by omega)
    rw [decide_eq_false (show ¬ (0 ≤ d + 1 ∧ d + 1 ≤ t) by omega), decide_eq_false (by rw [Int.add_mul]; omega)]

theorem okPs_set {ks xs : List Int} {j : Nat} {p : Int} (h : okPs ks xs = true) (hp : isP (ks.getD j 0) p = true) (hj : j < ks.length) : okPs ks (xs.set j p) = true := by
  induction ks generalizing xs j with
  | nil => cases hj
  | cons k ks ih => cases xs with
    | nil => cases h
    | cons x xs =>
      rw [okPs, Bool.and_eq_true] at h
      cases j with
      | zero => rw [List.set_cons_zero, okPs, h.2]; simpa using hp
      | succ j =>
        rw [List.set_cons_succ, okPs, h.1, ih h.2 (by simpa using hp) (by simpa using hj)]
        rfl

/-- A way from a tuple to one that is nowhere lesser, one step at a time. -/
theorem way {ks : List Int} : ∀ (R : List Int → List Int → Prop) (_ : ∀ a, R a a) (_ : ∀ a b c, R a b → R b c → R a c)
    (_ : ∀ xs j, okPs ks xs = true → j < ks.length → isP (ks.getD j 0) (xs.getD j 0 + 1) = true → R xs (xs.set j (xs.getD j 0 + 1)))
    (xs ys : List Int), okPs ks xs = true → okPs ks ys = true → belowT xs ys = true → R xs ys := by
  induction ks with
  | nil =>
    intro R hr _ _ xs ys hx hy _
    cases xs with
    | nil => cases ys with
      | nil => exact hr _
      | cons y ys => cases hy
    | cons x xs => cases hx
  | cons k ks ih =>
    intro R hr ht hs xs ys hx hy hb
    cases xs with
    | nil => cases hx
    | cons x xs => cases ys with
      | nil => cases hy
      | cons y ys =>
        rw [okPs, Bool.and_eq_true] at hx hy
        rw [belowT, Bool.and_eq_true, decide_eq_true_eq] at hb
        have hx1 : 0 ≤ x ∧ x ≤ topP k := by simpa [isP] using hx.1
        have hy1 : 0 ≤ y ∧ y ≤ topP k := by simpa [isP] using hy.1
        have h1 : ∀ d : Nat, x + d ≤ y → R (x :: xs) ((x + d) :: xs) := by
          intro d
          induction d with
          | zero => intro _; simpa using hr _
          | succ d ihd =>
            intro hd
            refine ht _ _ _ (ihd (by omega)) ?_
            have hpp : isP k (x + d + 1) = true := by simp only [isP, decide_eq_true_eq]; omega
            have := hs ((x + d) :: xs) 0 (by rw [okPs, hx.2]; simp only [isP, Bool.and_true, decide_eq_true_eq]; omega) (by simp) (by simpa using hpp)
            simpa [Int.add_assoc] using this
        have h2 : R (x :: xs) (y :: xs) := by
          have := h1 (y - x).toNat (by omega)
          rwa [show x + ((y - x).toNat : Int) = y by omega] at this
        refine ht _ _ _ h2 (ih (fun a b => R (y :: a) (y :: b)) (fun _ => hr _) (fun _ _ _ => ht _ _ _) ?_ xs ys hx.2 hy.2 hb.2)
        intro zs j hz hj hp
        have := hs (y :: zs) (j + 1) (by rw [okPs, hz, hy.1]; rfl) (by simpa using hj) (by simpa using hp)
        simpa using this

/-- A table that rises: of two tuples of which the one is nowhere greater its point isn't greater either. -/
theorem ris_below {ks : List Int} (hk : okTs ks = true) {f : Nat → Nat} (h : risS ks (prodT ks).toNat f = true) {xs ys : List Int} (hx : okPs ks xs = true) (hy : okPs ks ys = true) (hb : belowT xs ys = true) :
    f (numA 0 ks xs).toNat ≤ f (numA 0 ks ys).toNat := by
  unfold risS at h
  rw [decide_eq_true_eq] at h
  refine way (ks := ks) (fun a b => f (numA 0 ks a).toNat ≤ f (numA 0 ks b).toNat) (fun _ => Nat.le_refl _) (fun _ _ _ => Nat.le_trans) ?_ xs ys hx hy hb
  intro zs j hz hj hp
  have hr := numA_rng hz
  have hset := num_set (okPs_len hz) hj 0 1
  rw [Int.one_mul] at hset
  rw [hset]
  have hpp := prodT_pos (okTs_split hk (j + 1)).2
  rw [Int.toNat_add hr.1 (by omega)]
  refine h j hj _ (by omega) ?_
  rw [Int.toNat_of_nonneg hr.1]
  have := step_iff hk hj (numA 0 ks zs) hr.1
  rw [← tupL_get ks _ j hj] at this
  rw [show (tupL ks (numA 0 ks zs)).getD j 0 = zs.getD j 0 from ?_] at this
  · rw [this] at hp
    simpa using hp
  · rw [tup_num hz hk]
end Go.Proofs.Ytiikkbofcccjfaa
