/-
  The walk of the quotient.
-/
import Derived.Test.YtdbnlgjpfkfnjaaWb
import Derived.Deep.QuietTactic
import Derived.BigQuiet
namespace Go.Proofs.Ytdbnlgjpfkfnjaa
open Go.RowKit
open Ieee

/-- The divisor's norm, and the dividend times the divisor's conjugate. -/
def qN (r s : Int) : Int := r * r - s * -s
def qX (p q r s : Int) : Int := p * r - q * -s
def qY (p q r s : Int) : Int := p * -s + q * r

/-- Does the divisor divide? -/
def quoT (p q r s : Int) : Bool := decide ((qX p q r s).tmod (qN r s) = 0) && decide ((qY p q r s).tmod (qN r s) = 0)

def quoE (a b c d : Nat) : Int :=
  if valid4 a b c d then
    (if nb c = 0 ∧ nb d = 0 then 51 else
      if quoT (nb a) (nb b) (nb c) (nb d) then
        (if okC ((qX (nb a) (nb b) (nb c) (nb d)).tdiv (qN (nb c) (nb d))) ((qY (nb a) (nb b) (nb c) (nb d)).tdiv (qN (nb c) (nb d))) then 0 else 50)
      else 51)
  else 3
def quoR (a b c d : Nat) : Nat := if quoE a b c d = 0 then fl ((qX (nb a) (nb b) (nb c) (nb d)).tdiv (qN (nb c) (nb d))) else 0
def quoI (a b c d : Nat) : Nat := if quoE a b c d = 0 then fl ((qY (nb a) (nb b) (nb c) (nb d)).tdiv (qN (nb c) (nb d))) else 0

def quoAns (a b c d : Nat) : Ending := .returned (.tuple #[.complex .f64 (quoR a b c d) (quoI a b c d), .int .i64 (quoE a b c d)])

theorem quoE_zero {a b c d : Nat} (h : quoE a b c d = 0) : valid4 a b c d = true ∧ ¬ (nb c = 0 ∧ nb d = 0) ∧ quoT (nb a) (nb b) (nb c) (nb d) = true ∧
    okC ((qX (nb a) (nb b) (nb c) (nb d)).tdiv (qN (nb c) (nb d))) ((qY (nb a) (nb b) (nb c) (nb d)).tdiv (qN (nb c) (nb d))) = true := by
  unfold quoE at h
  split at h
  · split at h
    · omega
    · split at h
      · split at h
        · refine ⟨?_, ?_, ?_, ?_⟩ <;> assumption
        · omega
      · omega
  · omega

theorem quoR_lt (a b c d : Nat) : quoR a b c d < 2 ^ 64 := by
  unfold quoR
  split
  · rename_i h
    have := okC_iff.1 (quoE_zero h).2.2.2
    exact fl_lt _ (by omega)
  · decide
theorem quoI_lt (a b c d : Nat) : quoI a b c d < 2 ^ 64 := by
  unfold quoI
  split
  · rename_i h
    have := okC_iff.1 (quoE_zero h).2.2.2
    exact fl_lt _ (by omega)
  · decide

theorem quoAns_of {a b c d : Nat} {e : Int} (h : quoE a b c d = e) (h0 : e ≠ 0) : quoAns a b c d = .returned (.tuple #[.complex .f64 0 0, .int .i64 e]) := by
  unfold quoAns quoR quoI
  rw [h, if_neg h0, if_neg h0]

theorem quoAns_good {a b c d : Nat} (h : valid4 a b c d = true) (h0 : ¬ (nb c = 0 ∧ nb d = 0)) (ht : quoT (nb a) (nb b) (nb c) (nb d) = true) {x y : Int}
    (hx : (qX (nb a) (nb b) (nb c) (nb d)).tdiv (qN (nb c) (nb d)) = x) (hy : (qY (nb a) (nb b) (nb c) (nb d)).tdiv (qN (nb c) (nb d)) = y) :
    quoAns a b c d = .returned (.tuple #[ansV x y, .int .i64 (ansE x y)]) := by
  unfold quoAns quoR quoI ansV ansE
  cases ho : okC x y with
  | true =>
    have e : quoE a b c d = 0 := by unfold quoE; rw [h, ht, hx, hy, ho, if_neg h0]; rfl
    rw [e, hx, hy]; rfl
  | false =>
    have e : quoE a b c d = 50 := by unfold quoE; rw [h, ht, hx, hy, ho, if_neg h0]; rfl
    rw [e]; rfl

theorem rep_conv (n : Int) (h : n.natAbs ≤ 562949953421312) : Rep (floatOfInt .f64 n) n := by rw [fl_conv]; exact rep_fl n (by omega)

theorem order_zero_rep {b : Nat} {n : Int} (h : Rep b n) : (FloatKind.f64.format.order b 0 == some .eq) = decide (n = 0) := by
  rw [rep_order h (show Rep 0 0 from rep_zero false)]
  by_cases h0 : n = 0
  · subst h0; simp
  · rw [decide_eq_false h0, Bool.eq_false_iff]
    intro hc
    exact h0 (Int.compare_eq_eq.1 (by simpa using hc))

theorem sq_bounds (n : Int) (h : n.natAbs ≤ 16777216) : 0 ≤ n * n ∧ n * n ≤ 281474976710656 ∧ (n ≠ 0 → 0 < n * n) := by
  have b := bound_mul h h
  have e : 0 ≤ n * n := by rw [← Int.natAbs_mul_self]; omega
  refine ⟨e, by omega, fun h0 => ?_⟩
  rcases Int.lt_trichotomy n 0 with h1 | h1 | h1
  · exact Int.mul_pos_of_neg_of_neg h1 h1
  · omega
  · exact Int.mul_pos h1 h1

end Go.Proofs.Ytdbnlgjpfkfnjaa
