/-
  The walks of the difference, the conjugate and the order.
-/
import Derived.Test.YtebpjcjoapahnaaWq
import Derived.Test.YtebpjcjoapahnaaAl
namespace Go.Proofs.Ytebpjcjoapahnaa
open Go.RowKit
open Ieee

def subX (p _q r _s : Int) : Int := p - r
def subY (_p q _r s : Int) : Int := q - s

set_option maxHeartbeats 400000 in
theorem sub_any (a b c d : Nat) (w : World) (ha : a < 2 ^ 64) (hb : b < 2 ^ 64) (hc : c < 2 ^ 64) (hd : d < 2 ^ 64) :
    Calls Try.prog 23 #[.complex .f64 a b, .complex .f64 c d] w fun e w' => e = opAns subX subY a b c d ∧ w' = w := by
  by_cases h1 : vc a b = true
  · by_cases h2 : vc c d = true
    · have hv : valid4 a b c d = true := by rw [valid4_vc, h1, h2]; rfl
      obtain ⟨va, vb, vcc, vd⟩ := valid4_parts hv
      obtain ⟨ra, ba⟩ := vp_rep va
      obtain ⟨rb, bb⟩ := vp_rep vb
      obtain ⟨rc, bc⟩ := vp_rep vcc
      obtain ⟨rd, bd⟩ := vp_rep vd
      obtain ⟨re, im, he, r1, r2⟩ := rep_cdiff ra rb rc rd (by omega) (by omega)
      rw [opAns_good hv (x := nb a - nb c) (y := nb b - nb d) rfl rfl]
      have hop := fun t w => run_complex_sum (P := Try.prog) w .sub (Or.inr rfl) t .f64 a b c d re im he
      clear hv va vb vcc vd ra ba rb bb rc bc rd bd he
      go_enter Try.func23, Try.ntmps23
      go_wp2_with (first | (go_at_call 21; refine (valid_vc _ _ _ (by assumption) (by assumption)).mono ?_; rintro e w' ⟨rfl, rfl⟩) | (go_at_call 44; refine (settle_any _ _ _ _ _ (by assumption) (by assumption)).mono ?_; rintro e w' ⟨rfl, rfl⟩))
      go_ret2
      exact ⟨rfl, rfl⟩
    · have h2' : vc c d = false := by simpa using h2
      rw [opAns_bad (by rw [valid4_vc, h2']; simp)]
      clear h2
      go_enter Try.func23, Try.ntmps23
      go_wp2_with (first | (go_at_call 21; refine (valid_vc _ _ _ (by assumption) (by assumption)).mono ?_; rintro e w' ⟨rfl, rfl⟩))
      go_ret2
      exact ⟨rfl, rfl⟩
  · have h1' : vc a b = false := by simpa using h1
    rw [opAns_bad (by rw [valid4_vc, h1']; simp)]
    clear h1
    go_enter Try.func23, Try.ntmps23
    go_wp2_with (first | (go_at_call 21; refine (valid_vc _ _ _ (by assumption) (by assumption)).mono ?_; rintro e w' ⟨rfl, rfl⟩))
    go_ret2
    exact ⟨rfl, rfl⟩

/-- The word of a part turned round. -/
def cj (b : Nat) : Nat := fl (-(nb b))

theorem cj_facts {b : Nat} (h : vp b = true) : vp (cj b) = true ∧ nb (cj b) = -(nb b) ∧ cj (cj b) = b ∧ cj b < 2 ^ 64 := by
  obtain ⟨h1, h2⟩ := vp_true h
  have e : nb (cj b) = -(nb b) := nb_fl _ (by omega)
  refine ⟨vp_fl _ (by omega), e, ?_, fl_lt _ (by omega)⟩
  unfold cj at e
  unfold cj
  rw [e, Int.neg_neg]
  exact h2.symm

theorem vc_parts {a b : Nat} (h : vc a b = true) : vp a = true ∧ vp b = true := by
  unfold vc at h; simpa using h

set_option maxHeartbeats 400000 in
theorem conj_yes (a b : Nat) (w : World) (h : vc a b = true) :
    Calls Try.prog 27 #[.complex .f64 a b] w fun e w' => e = .returned (.tuple #[.complex .f64 a (cj b), .int .i64 0]) ∧ w' = w := by
  obtain ⟨va, vb⟩ := vc_parts h
  obtain ⟨ra, ba⟩ := vp_rep va
  obtain ⟨rb, bb⟩ := vp_rep vb
  have rn := rep_neg rb (by omega)
  have bn : (-nb b).natAbs ≤ 16777216 := by omega
  have la := ra.1
  have lb := rb.1
  have ea : fl (nb a) = a := (vp_true va).2.symm
  have eb : fl (-nb b) = cj b := rfl
  have hs : Hid (∀ w, Calls Try.prog 44 #[.complex .f64 a (Op.negFloat .f64 b)] w fun e w' => e = .returned (.tuple #[.complex .f64 a (cj b), .int .i64 0]) ∧ w' = w) := by
    intro w
    have := settle_yes a (Op.negFloat .f64 b) (nb a) (-nb b) w ra rn ba bn
    rw [ea, eb] at this
    exact this
  clear va vb ra ba rb bb rn bn ea eb
  go_enter Try.func27, Try.ntmps27
  go_wp2_with (first | (go_at_call 21; refine (valid_vc _ _ _ (by assumption) (by assumption)).mono ?_; rintro e w' ⟨rfl, rfl⟩) | (go_at_call 45; refine (turn_any _ _ _).mono ?_; rintro e w' ⟨rfl, rfl⟩) | (go_at_call 44; refine (hs.out _).mono ?_; rintro e w' ⟨rfl, rfl⟩))
  go_ret2
  exact ⟨rfl, rfl⟩

set_option maxHeartbeats 400000 in
theorem conj_no (a b : Nat) (w : World) (ha : a < 2 ^ 64) (hb : b < 2 ^ 64) (h : vc a b = false) :
    Calls Try.prog 27 #[.complex .f64 a b] w fun e w' => e = .returned (.tuple #[.complex .f64 0 0, .int .i64 3]) ∧ w' = w := by
  go_enter Try.func27, Try.ntmps27
  go_wp2_with (go_at_call 21; refine (valid_vc _ _ _ (by assumption) (by assumption)).mono ?_; rintro e w' ⟨rfl, rfl⟩)
  go_ret2
  exact ⟨rfl, rfl⟩

/-- The order of numbers. -/
def ltW (a b c d : Nat) : Bool := decide (nb a < nb c ∨ nb a = nb c ∧ nb b < nb d)

theorem ltB_rep {x y : Nat} {m n : Int} (hx : Rep x m) (hy : Rep y n) : (FloatKind.f64.format.order x y == some .lt) = decide (m < n) := by
  rw [rep_order hx hy]
  by_cases h : m < n
  · rw [Int.compare_eq_lt.2 h]; simp [h]
  · rw [decide_eq_false h, Bool.eq_false_iff]
    intro hc
    exact h (Int.compare_eq_lt.1 (by simpa using hc))

theorem eqB_rep {x y : Nat} {m n : Int} (hx : Rep x m) (hy : Rep y n) : (FloatKind.f64.format.order x y == some .eq) = decide (m = n) := by
  rw [rep_order hx hy]
  by_cases h : m = n
  · subst h; simp
  · rw [decide_eq_false h, Bool.eq_false_iff]
    intro hc
    exact h (Int.compare_eq_eq.1 (by simpa using hc))

set_option maxHeartbeats 400000 in
theorem less_yes (a b c d : Nat) (w : World) (h1 : vc a b = true) (h2 : vc c d = true) :
    Calls Try.prog 26 #[.complex .f64 a b, .complex .f64 c d] w fun e w' => e = .returned (.tuple #[.bool (ltW a b c d), .int .i64 0]) ∧ w' = w := by
  obtain ⟨va, vb⟩ := vc_parts h1
  obtain ⟨vcc, vd⟩ := vc_parts h2
  obtain ⟨ra, ba⟩ := vp_rep va
  obtain ⟨rb, bb⟩ := vp_rep vb
  obtain ⟨rc, bc⟩ := vp_rep vcc
  obtain ⟨rd, bd⟩ := vp_rep vd
  have la := ra.1
  have lb := rb.1
  have lc := rc.1
  have ld := rd.1
  have o1 := eqB_rep ra rc
  have o2 := ltB_rep ra rc
  have o3 := ltB_rep rb rd
  have o4 : (FloatKind.f64.format.order a c != some .eq) = !decide (nb a = nb c) := by rw [← o1]; rfl
  by_cases he : nb a = nb c
  · have e1 : ltW a b c d = (FloatKind.f64.format.order b d == some .lt) := by
      rw [o3]; unfold ltW; rw [decide_eq_decide]; omega
    have e2 : (FloatKind.f64.format.order a c != some .eq) = false := by rw [o4, decide_eq_true he]; rfl
    rw [e1]
    clear e1 o1 o2 o3 o4 va vb vcc vd ra rb rc rd he
    go_enter Try.func26, Try.ntmps26
    go_wp2_with (go_at_call 21; refine (valid_vc _ _ _ (by assumption) (by assumption)).mono ?_; rintro e w' ⟨rfl, rfl⟩)
    go_ret2
    exact ⟨rfl, rfl⟩
  · have e1 : ltW a b c d = (FloatKind.f64.format.order a c == some .lt) := by
      rw [o2]; unfold ltW; rw [decide_eq_decide]; omega
    have e2 : (FloatKind.f64.format.order a c != some .eq) = true := by rw [o4, decide_eq_false he]; rfl
    rw [e1]
    clear e1 o1 o2 o3 o4 va vb vcc vd ra rb rc rd he
    go_enter Try.func26, Try.ntmps26
    go_wp2_with (go_at_call 21; refine (valid_vc _ _ _ (by assumption) (by assumption)).mono ?_; rintro e w' ⟨rfl, rfl⟩)
    go_ret2
    exact ⟨rfl, rfl⟩

set_option maxHeartbeats 400000 in
theorem less_no (a b c d : Nat) (w : World) (ha : a < 2 ^ 64) (hb : b < 2 ^ 64) (hc : c < 2 ^ 64) (hd : d < 2 ^ 64) (hv : valid4 a b c d = false) :
    Calls Try.prog 26 #[.complex .f64 a b, .complex .f64 c d] w fun e w' => e = .returned (.tuple #[.bool false, .int .i64 3]) ∧ w' = w := by
  rw [valid4_vc] at hv
  by_cases h1 : vc a b = true
  · have h2 : vc c d = false := by simpa [h1] using hv
    clear hv
    go_enter Try.func26, Try.ntmps26
    go_wp2_with (go_at_call 21; refine (valid_vc _ _ _ (by assumption) (by assumption)).mono ?_; rintro e w' ⟨rfl, rfl⟩)
    go_ret2
    exact ⟨rfl, rfl⟩
  · have h1' : vc a b = false := by simpa using h1
    clear hv h1
    go_enter Try.func26, Try.ntmps26
    go_wp2_with (go_at_call 21; refine (valid_vc _ _ _ (by assumption) (by assumption)).mono ?_; rintro e w' ⟨rfl, rfl⟩)
    go_ret2
    exact ⟨rfl, rfl⟩

theorem add_comm {a b c d : Nat} : opE addX addY c d a b = opE addX addY a b c d ∧ opR addX addY c d a b = opR addX addY a b c d ∧ opI addX addY c d a b = opI addX addY a b c d :=
  op_congr (by unfold valid4; rw [Bool.and_comm]) (by simp only [addX]; omega) (by simp only [addY]; omega)

theorem mul_comm {a b c d : Nat} : opE mulX mulY c d a b = opE mulX mulY a b c d ∧ opR mulX mulY c d a b = opR mulX mulY a b c d ∧ opI mulX mulY c d a b = opI mulX mulY a b c d :=
  op_congr (by unfold valid4; rw [Bool.and_comm]) (by simp only [mulX, Int.mul_comm]) (by simp only [mulY, Int.mul_comm]; omega)

theorem op_vc (X Y : Int → Int → Int → Int → Int) (a b c d : Nat) : vc (opR X Y a b c d) (opI X Y a b c d) = true := by
  unfold vc
  by_cases h : opE X Y a b c d = 0
  · obtain ⟨h1, h2, _, _⟩ := op_res h
    rw [h1, h2]; rfl
  · unfold opR opI
    rw [if_neg h, if_neg h]
    decide

theorem mul_conj {a b c d : Nat} (h1 : vc a b = true) (h2 : vc c d = true) : opE mulX mulY a (cj b) c (cj d) = opE mulX mulY a b c d ∧
    (opE mulX mulY a b c d = 0 → opR mulX mulY a (cj b) c (cj d) = opR mulX mulY a b c d ∧ opI mulX mulY a (cj b) c (cj d) = cj (opI mulX mulY a b c d)) := by
  obtain ⟨va, vb⟩ := vc_parts h1
  obtain ⟨vcc, vd⟩ := vc_parts h2
  obtain ⟨b1, b2, b3, _⟩ := cj_facts vb
  obtain ⟨d1, d2, d3, _⟩ := cj_facts vd
  have eX : mulX (nb a) (nb (cj b)) (nb c) (nb (cj d)) = mulX (nb a) (nb b) (nb c) (nb d) := by rw [b2, d2]; simp only [mulX, Int.neg_mul_neg]
  have eY : mulY (nb a) (nb (cj b)) (nb c) (nb (cj d)) = -(mulY (nb a) (nb b) (nb c) (nb d)) := by rw [b2, d2]; simp only [mulY, Int.mul_neg, Int.neg_mul]; omega
  have hv1 := valid4_mk va b1 vcc d1
  have hv2 := valid4_mk va vb vcc vd
  have eE : opE mulX mulY a (cj b) c (cj d) = opE mulX mulY a b c d := by
    unfold opE
    rw [hv1, hv2, eX, eY]
    have : okC (mulX (nb a) (nb b) (nb c) (nb d)) (-(mulY (nb a) (nb b) (nb c) (nb d))) = okC (mulX (nb a) (nb b) (nb c) (nb d)) (mulY (nb a) (nb b) (nb c) (nb d)) := by
      unfold okC; rw [Int.natAbs_neg]
    rw [this]
  refine ⟨eE, fun h => ?_⟩
  obtain ⟨_, _, r3, r4⟩ := op_res h
  constructor
  · unfold opR; rw [eE, if_pos h, if_pos h, eX]
  · have : opI mulX mulY a (cj b) c (cj d) = fl (-(mulY (nb a) (nb b) (nb c) (nb d))) := by unfold opI; rw [eE, if_pos h, eY]
    rw [this]
    unfold cj
    rw [r4]
end Go.Proofs.Ytebpjcjoapahnaa
