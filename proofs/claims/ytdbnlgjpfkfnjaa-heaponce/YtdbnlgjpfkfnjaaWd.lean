/-
  The walks of the difference, the conjugate and the order.
-/
import Derived.Test.YtdbnlgjpfkfnjaaWq
import Derived.Test.YtdbnlgjpfkfnjaaAl
namespace Go.Proofs.Ytdbnlgjpfkfnjaa
open Go.RowKit
open Ieee

def subX (p _q r _s : Int) : Int := p - r
def subY (_p q _r s : Int) : Int := q - s

/-- The word of a part turned round. -/
def cj (b : Nat) : Nat := fl (-(nb b))

theorem cj_facts {b : Nat} (h : vp b = true) : vp (cj b) = true ∧ nb (cj b) = -(nb b) ∧ cj (cj b) = b ∧ cj b < 2 ^ 64 := by
  obtain ⟨h1, h2⟩ := vp_true h
  have e : nb (cj b) = -(nb b) := nb_fl _ (by omega)
  refine ⟨vp_fl _ (by omega), e, ?_, fl_lt _ (by omega)⟩
  unfold cj at e
  unfold cj
  rw [e, Int.neg_neg]
  exact h2.symm

theorem vc_parts {a b : Nat} (h : vc a b = true) : vp a = true ∧ vp b = true := by
  unfold vc at h; simpa using h

/-- The order of numbers. -/
def ltW (a b c d : Nat) : Bool := decide (nb a < nb c ∨ nb a = nb c ∧ nb b < nb d)

theorem ltB_rep {x y : Nat} {m n : Int} (hx : Rep x m) (hy : Rep y n) : (FloatKind.f64.format.order x y == some .lt) = decide (m < n) := by
  rw [rep_order hx hy]
  by_cases h : m < n
  · rw [Int.compare_eq_lt.2 h]; simp [h]
  · rw [decide_eq_false h, Bool.eq_false_iff]
    intro hc
    exact h (Int.compare_eq_lt.1 (by simpa using hc))

theorem eqB_rep {x y : Nat} {m n : Int} (hx : Rep x m) (hy : Rep y n) : (FloatKind.f64.format.order x y == some .eq) = decide (m = n) := by
  rw [rep_order hx hy]
  by_cases h : m = n
  · subst h; simp
  · rw [decide_eq_false h, Bool.eq_false_iff]
    intro hc
    exact h (Int.compare_eq_eq.1 (by simpa using hc))

theorem add_comm {a b c d : Nat} : opE addX addY c d a b = opE addX addY a b c d ∧ opR addX addY c d a b = opR addX addY a b c d ∧ opI addX addY c d a b = opI addX addY a b c d :=
  op_congr (by unfold valid4; rw [Bool.and_comm]) (by simp only [addX]; omega) (by simp only [addY]; omega)

theorem mul_comm {a b c d : Nat} : opE mulX mulY c d a b = opE mulX mulY a b c d ∧ opR mulX mulY c d a b = opR mulX mulY a b c d ∧ opI mulX mulY c d a b = opI mulX mulY a b c d :=
  op_congr (by unfold valid4; rw [Bool.and_comm]) (by simp only [mulX, Int.mul_comm]) (by simp only [mulY, Int.mul_comm]; omega)

theorem op_vc (X Y : Int → Int → Int → Int → Int) (a b c d : Nat) : vc (opR X Y a b c d) (opI X Y a b c d) = true := by
  unfold vc
  by_cases h : opE X Y a b c d = 0
  · obtain ⟨h1, h2, _, _⟩ := op_res h
    rw [h1, h2]; rfl
  · unfold opR opI
    rw [if_neg h, if_neg h]
    decide

theorem mul_conj {a b c d : Nat} (h1 : vc a b = true) (h2 : vc c d = true) : opE mulX mulY a (cj b) c (cj d) = opE mulX mulY a b c d ∧
    (opE mulX mulY a b c d = 0 → opR mulX mulY a (cj b) c (cj d) = opR mulX mulY a b c d ∧ opI mulX mulY a (cj b) c (cj d) = cj (opI mulX mulY a b c d)) := by
  obtain ⟨va, vb⟩ := vc_parts h1
  obtain ⟨vcc, vd⟩ := vc_parts h2
  obtain ⟨b1, b2, b3, _⟩ := cj_facts vb
  obtain ⟨d1, d2, d3, _⟩ := cj_facts vd
  have eX : mulX (nb a) (nb (cj b)) (nb c) (nb (cj d)) = mulX (nb a) (nb b) (nb c) (nb d) := by rw [b2, d2]; simp only [mulX, Int.neg_mul_neg]
  have eY : mulY (nb a) (nb (cj b)) (nb c) (nb (cj d)) = -(mulY (nb a) (nb b) (nb c) (nb d)) := by rw [b2, d2]; simp only [mulY, Int.mul_neg, Int.neg_mul]; omega
  have hv1 := valid4_mk va b1 vcc d1
  have hv2 := valid4_mk va vb vcc vd
  have eE : opE mulX mulY a (cj b) c (cj d) = opE mulX mulY a b c d := by
    unfold opE
    rw [hv1, hv2, eX, eY]
    have : okC (mulX (nb a) (nb b) (nb c) (nb d)) (-(mulY (nb a) (nb b) (nb c) (nb d))) = okC (mulX (nb a) (nb b) (nb c) (nb d)) (mulY (nb a) (nb b) (nb c) (nb d)) := by
      unfold okC; rw [Int.natAbs_neg]
    rw [this]
  refine ⟨eE, fun h => ?_⟩
  obtain ⟨_, _, r3, r4⟩ := op_res h
  constructor
  · unfold opR; rw [eE, if_pos h, if_pos h, eX]
  · have : opI mulX mulY a (cj b) c (cj d) = fl (-(mulY (nb a) (nb b) (nb c) (nb d))) := by unfold opI; rw [eE, if_pos h, eY]
    rw [this]
    unfold cj
    rw [r4]
end Go.Proofs.Ytdbnlgjpfkfnjaa
