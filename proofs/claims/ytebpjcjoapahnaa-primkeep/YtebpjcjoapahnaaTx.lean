/-
  Numerals and the texts of numbers, as lists of bytes: what is written is read back, and where the last sign stands.
-/
import Derived.Lib.Atoi
import Derived.Lib.ItoaMem
import Derived.Lib.Strings
namespace Go.Proofs.Ytebpjcjoapahnaa
open Go.Lib

/-- Is it a decimal digit? -/
def isDig (b : UInt8) : Prop := 48 ≤ b.toNat ∧ b.toNat ≤ 57

theorem dig_of {d : Nat} (h : d < 10) : (UInt8.ofNat (48 + d)).toNat = 48 + d := by
  rw [UInt8.toNat_ofNat']; omega

theorem decDigits_dig (u : Nat) : ∀ b ∈ decDigits u, isDig b := by
  induction u using Nat.strongRecOn with
  | _ u ih =>
    rw [decDigits]
    split
    · rename_i h
      intro b hb
      rw [List.mem_singleton] at hb
      rw [hb]
      unfold isDig
      rw [dig_of h]; omega
    · intro b hb
      rcases List.mem_append.1 hb with hb | hb
      · exact ih (u / 10) (by omega) b hb
      · rw [List.mem_singleton] at hb
        rw [hb]
        unfold isDig
        rw [dig_of (show u % 10 < 10 by omega)]; omega

theorem decFrom_append (l1 l2 : List UInt8) : ∀ acc, decFrom acc (l1 ++ l2) = (decFrom acc l1).bind fun n => decFrom n l2 := by
  induction l1 with
  | nil => intro acc; rfl
  | cons b r ih =>
    intro acc
    simp only [List.cons_append, decFrom]
    cases digitVal b with
    | none => rfl
    | some d => exact ih _

theorem digitVal_of {d : Nat} (h : d < 10) : digitVal (UInt8.ofNat (48 + d)) = some d := by
  unfold digitVal
  rw [dig_of h, if_pos (by omega)]
  congr 1; omega

theorem decFrom_digits (u : Nat) : ∀ acc, decFrom acc (decDigits u) = some (acc * 10 ^ nDigits u + u) := by
  induction u using Nat.strongRecOn with
  | _ u ih =>
    intro acc
    by_cases h : u < 10
    · rw [decDigits_one h, nDigits_small h]
      simp only [decFrom, digitVal_of h, Nat.pow_one]
    · rw [decDigits, dif_neg h, decFrom_append, ih (u / 10) (by omega), nDigits_big h]
      simp only [Option.bind_some, decFrom, digitVal_of (show u % 10 < 10 by omega)]
      congr 1
      rw [Nat.pow_succ, Nat.add_mul, Nat.mul_assoc]
      omega

theorem decDigits_cons (u : Nat) : ∃ b r, decDigits u = b :: r ∧ isDig b := by
  have hl := decDigits_length u
  have hp := nDigits_pos u
  cases h : decDigits u with
  | nil => rw [h] at hl; simp at hl; omega
  | cons b r => exact ⟨b, r, rfl, decDigits_dig u b (by rw [h]; simp)⟩

theorem decNat_digits (u : Nat) : decNat (decDigits u) = some u := by
  obtain ⟨b, r, h, _⟩ := decDigits_cons u
  unfold decNat
  have e : (decDigits u).isEmpty = false := by rw [h]; rfl
  rw [e]
  simp only [Bool.false_eq_true, if_false]
  rw [decFrom_digits]
  simp

theorem atoi_itoa (n : Int) : atoi (itoa n) = some n := by
  unfold itoa
  split
  · rename_i h
    simp only [atoi]
    rw [if_pos (by decide), decNat_digits]
    simp; omega
  · rename_i h
    obtain ⟨b, r, e, hb⟩ := decDigits_cons n.toNat
    have h0 := decNat_digits n.toNat
    rw [e] at h0 ⊢
    simp only [atoi]
    unfold isDig at hb
    have h1 : (b == 45) = false := by rw [beq_eq_false_iff_ne]; intro hc; rw [hc] at hb; simp at hb
    have h2 : (b == 43) = false := by rw [beq_eq_false_iff_ne]; intro hc; rw [hc] at hb; simp at hb
    rw [h1, h2, h0]
    simp; omega

theorem atoi_plus {n : Int} (h : 0 ≤ n) : atoi (43 :: itoa n) = some n := by
  unfold itoa
  rw [if_neg (by omega)]
  simp only [atoi]
  rw [if_neg (by decide), if_pos (by decide), decNat_digits]
  simp; omega

theorem itoa_zero : itoa 0 = [48] := by
  unfold itoa
  rw [if_neg (by omega)]
  exact decDigits_one (by omega)

/-- How long a numeral within the bounds is. -/
theorem itoa_len {n : Int} (h : n.natAbs ≤ 16777216) : 1 ≤ (itoa n).length ∧ (itoa n).length ≤ 9 := by
  have hd : ∀ u, u ≤ 16777216 → 1 ≤ (decDigits u).length ∧ (decDigits u).length ≤ 8 := by
    intro u hu
    rw [decDigits_length]
    refine ⟨nDigits_pos u, ?_⟩
    apply Decidable.byContradiction
    intro hc
    have h1 : ∀ k u, k < nDigits u → 1 ≤ k → 10 ^ k ≤ u := by
      intro k
      induction k with
      | zero => intro u _ h0; omega
      | succ k ih =>
        intro u hk _
        by_cases hu : u < 10
        · rw [nDigits_small hu] at hk; omega
        · rw [nDigits_big hu] at hk
          by_cases hk0 : k = 0
          · subst hk0; omega
          · have := ih (u / 10) (by omega) (by omega)
            rw [Nat.pow_succ]; omega
    have := h1 8 u (by omega) (by omega)
    omega
  unfold itoa
  split
  · have := hd n.natAbs h
    simp; omega
  · have := hd n.toNat (by omega)
    omega

/-- Where the last sign stands; -1: nowhere. -/
def isSign (b : UInt8) : Bool := b == 43 || b == 45
def lastS : List UInt8 → Int
  | [] => -1
  | b :: r => if 0 ≤ lastS r then lastS r + 1 else if isSign b then 0 else -1

theorem lastS_ge (l : List UInt8) : -1 ≤ lastS l ∧ lastS l < l.length := by
  induction l with
  | nil => simp [lastS]
  | cons b r ih =>
    simp only [lastS]
    split
    · simp; omega
    · split <;> simp <;> omega

theorem lastS_snoc (l : List UInt8) (c : UInt8) : lastS (l ++ [c]) = if isSign c then (l.length : Int) else lastS l := by
  induction l with
  | nil => simp [lastS]
  | cons b r ih =>
    simp only [List.cons_append, lastS, ih]
    by_cases hc : isSign c = true
    · rw [if_pos hc, if_pos hc]
      have : (0 : Int) ≤ r.length := by omega
      rw [if_pos this]
      simp
    · simp [hc]

theorem lastS_digits {l : List UInt8} (h : ∀ b ∈ l, isDig b) : lastS l = -1 := by
  induction l with
  | nil => rfl
  | cons b r ih =>
    have e := ih (fun x hx => h x (List.mem_cons_of_mem _ hx))
    have hb := h b (List.mem_cons_self ..)
    unfold isDig at hb
    have hs : isSign b = false := by
      unfold isSign
      have h1 : (b == 43) = false := by rw [beq_eq_false_iff_ne]; intro hc; rw [hc] at hb; simp at hb
      have h2 : (b == 45) = false := by rw [beq_eq_false_iff_ne]; intro hc; rw [hc] at hb; simp at hb
      rw [h1, h2]; rfl
    simp [lastS, e, hs]

theorem lastS_append {l : List UInt8} {d : List UInt8} (h : ∀ b ∈ d, isDig b) (c : UInt8) (hc : isSign c = true) : lastS (l ++ c :: d) = l.length := by
  induction l with
  | nil => simp [lastS, lastS_digits h, hc]
  | cons b r ih => simp only [List.cons_append, lastS, ih]; simp

/-- The text of a number. -/
def txt (p q : Int) : List UInt8 :=
  if q = 0 then itoa p
  else if p = 0 then itoa q ++ [105]
  else if 0 < q then itoa p ++ [43] ++ (itoa q ++ [105])
  else itoa p ++ (itoa q ++ [105])
end Go.Proofs.Ytebpjcjoapahnaa
