/-
  What Apply makes of numbers, plainly.
-/
import Derived.Test.YtebpjcjoapahnaaPg
namespace Go.Proofs.Ytebpjcjoapahnaa
open Go.RowKit
set_option maxRecDepth 100000

theorem one_rn (a : Wz) : oneB 1 (rn a) = vc a.1 a.2 := by
  unfold oneB rn soundV
  simp
theorem fit_rn2 {op : Int} (ho : 8 ≤ op ∧ op ≤ 13) (a b : Wz) : fitB op [rn a, rn b] = (vc a.1 a.2 && vc b.1 b.2) := by
  have e1 : tkN op = 2 := by unfold tkN; rw [if_pos ho]
  have e2 : tkT op = 1 := by unfold tkT; rw [if_neg (by omega), if_pos (by omega)]
  unfold fitB
  rw [e1, e2]
  simp only [List.all_cons, List.all_nil, one_rn]
  simp
theorem fit_rn1 {op : Int} (ho : 15 ≤ op ∧ op ≤ 17) (a : Wz) : fitB op [rn a] = vc a.1 a.2 := by
  have e1 : tkN op = 1 := by unfold tkN; rw [if_neg (by omega), if_pos (by omega)]
  have e2 : tkT op = 1 := by unfold tkT; rw [if_neg (by omega), if_pos (by omega)]
  unfold fitB
  rw [e1, e2]
  simp only [List.all_cons, List.all_nil, one_rn]
  simp
theorem fit_rb (b : Bool) : fitB 14 [rb b] = true := by
  have : oneB 2 (rb b) = true := by
    unfold oneB
    have h := sound_ofV (u := .b b) trivial
    rw [show soundV (rb b) = true from h]; rfl
  unfold fitB
  rw [show tkN 14 = 1 from rfl, show tkT 14 = 2 from rfl]
  simp [this]

theorem t_bad {op : Int} (ho : 8 ≤ op ∧ op ≤ 13) {a b : Wz} (h : (vc a.1 a.2 && vc b.1 b.2) = false) : tV op a b = rv0 ∧ tE op a b = 3 :=
  ap_bad (by rw [fit_rn2 ho]; exact h)
theorem t_two {op : Int} (ho : 8 ≤ op ∧ op ≤ 11) {a b : Wz} (h : (vc a.1 a.2 && vc b.1 b.2) = true) : tV op a b = nuR (twoW op a b) (twoE op a b) ∧ tE op a b = twoE op a b :=
  ap_two (by rw [fit_rn2 (by omega)]; exact h) ho
theorem t_eq {a b : Wz} (h : (vc a.1 a.2 && vc b.1 b.2) = true) : tV 12 a b = rb (feW a b) ∧ tE 12 a b = 0 :=
  ap_eq (by rw [fit_rn2 (by omega)]; exact h)
theorem t_less {a b : Wz} (h : (vc a.1 a.2 && vc b.1 b.2) = true) : tV 13 a b = rb (ltW a.1 a.2 b.1 b.2) ∧ tE 13 a b = 0 :=
  ap_less (by rw [fit_rn2 (by omega)]; exact h)
theorem o_bad {op : Int} (ho : 15 ≤ op ∧ op ≤ 17) {a : Wz} (h : vc a.1 a.2 = false) : oV op (rn a) = rv0 ∧ oE op (rn a) = 3 :=
  ap_bad (by rw [fit_rn1 ho]; exact h)
theorem o_one {op : Int} (ho : 15 ≤ op ∧ op ≤ 17) {a : Wz} (h : vc a.1 a.2 = true) : oV op (rn a) = rn (oneW op a) ∧ oE op (rn a) = 0 :=
  ap_one (by rw [fit_rn1 ho]; exact h) ho
theorem o_not (b : Bool) : oV 14 (rb b) = rb (!b) ∧ oE 14 (rb b) = 0 := ap_not (fit_rb b)

theorem vc_op (X Y : Int → Int → Int → Int → Int) (a b c d : Nat) : vc (opR X Y a b c d) (opI X Y a b c d) = true := op_vc X Y a b c d
theorem vc_quo (a b c d : Nat) : vc (quoR a b c d) (quoI a b c d) = true := by
  by_cases h : quoE a b c d = 0
  · obtain ⟨_, _, _, h4⟩ := quoE_zero h
    have hk := okC_iff.1 h4
    unfold quoR quoI vc
    rw [if_pos h, if_pos h, vp_fl _ hk.1, vp_fl _ hk.2]; rfl
  · unfold quoR quoI
    rw [if_neg h, if_neg h]
    exact vc_zero
theorem vc_two (op : Int) (a b : Wz) : vc (twoW op a b).1 (twoW op a b).2 = true := by
  unfold twoW
  split
  · exact vc_op _ _ _ _ _ _
  · split
    · exact vc_op _ _ _ _ _ _
    · split
      · exact vc_op _ _ _ _ _ _
      · exact vc_quo _ _ _ _
theorem two_zero {op : Int} {a b : Wz} (h : twoE op a b ≠ 0) : twoW op a b = (0, 0) := by
  unfold twoE at h
  unfold twoW
  split
  · rename_i e; rw [if_pos e] at h; unfold opR opI; rw [if_neg h, if_neg h]
  · rename_i e; rw [if_neg e] at h
    split
    · rename_i e; rw [if_pos e] at h; unfold opR opI; rw [if_neg h, if_neg h]
    · rename_i e; rw [if_neg e] at h
      split
      · rename_i e; rw [if_pos e] at h; unfold opR opI; rw [if_neg h, if_neg h]
      · rename_i e; rw [if_neg e] at h; unfold quoR quoI; rw [if_neg h, if_neg h]
/-- The type that an answer has. -/
def tt (e : Int) : Int := if e = 0 then 1 else 0
theorem nuR_two (op : Int) (a b : Wz) : nuR (twoW op a b) (twoE op a b) = ⟨tt (twoE op a b), twoW op a b, false, []⟩ := by
  unfold nuR tt
  split
  · rfl
  · rename_i h
    rw [two_zero h]; rfl
theorem sound_rn {a : Wz} (h : vc a.1 a.2 = true) : soundV (rn a) = true := by
  unfold soundV rn; simp [h]
theorem sound_rb (b : Bool) : soundV (rb b) = true := sound_ofV (u := .b b) trivial
theorem ap_sound (op : Int) (vs : List Rv) : soundV (apV op vs) = true ∨ apV op vs = rv0 := by
  cases hF : fitB op vs with
  | false => exact .inr (ap_bad hF).1
  | true =>
    rcases fit_cases hF with ⟨ho, a, b, rfl, ha, hb⟩ | ⟨rfl, r, rfl⟩ | ⟨ho, a, rfl, ha⟩
    · by_cases e12 : op = 12
      · subst e12; left; rw [(ap_eq hF).1]; exact sound_rb _
      · by_cases e13 : op = 13
        · subst e13; left; rw [(ap_less hF).1]; exact sound_rb _
        · rw [(ap_two hF (by omega)).1]
          unfold nuR
          split
          · left; exact sound_rn (vc_two _ _ _)
          · right; rfl
    · left; rw [(ap_not hF).1]; exact sound_rb _
    · left
      rw [(ap_one hF ho).1]
      refine sound_rn ?_
      obtain ⟨h1, h2⟩ := vc_parts ha
      unfold oneW
      split
      · unfold vc; rw [h1]; show (true && vp 0) = true; decide
      · split
        · unfold vc; rw [h2]; show (true && vp 0) = true; decide
        · unfold vc; rw [h1, (cj_facts h2).1]; rfl

theorem apV_lt (op : Int) (vs : List Rv) : ltZ (apV op vs).z := by
  rcases ap_sound op vs with h | h
  · obtain ⟨h1, h2⟩ := vc_parts (sound_vc h).1
    exact ⟨(vp_rep h1).1.1, (vp_rep h2).1.1⟩
  · rw [h]; exact ⟨by decide, by decide⟩

/-- Whole, of what Apply answered twice. -/
theorem whole_ap (op : Int) (vs : List Rv) (w : World) :
    Calls Try.prog 14 #[.agg #[.int .i64 (apV op vs).t, .complex .f64 (apV op vs).z.1 (apV op vs).z.2, .bool (apV op vs).r, .slice none 0 0], .agg #[.int .i64 (apV op vs).t, .complex .f64 (apV op vs).z.1 (apV op vs).z.2, .bool (apV op vs).r, .slice none 0 0]] w fun e w' => e = .returned (.bool true) ∧ Below w.heap.size w w' := by
  rw [← vV_agg _ (apV_zs op vs)]
  have hv : Vr w none (apV op vs) := ⟨apV_lt _ _, by rw [apV_zs]; exact Zr.nil _ _, by rw [apV_zs]; simp⟩
  rcases ap_sound op vs with h | h
  · exact wholeV_yes _ none none 0 0 w hv hv h
  · rw [h]; exact wholeV_zero none none 0 0 w

theorem feW_comm (a b : Wz) (ha : vc a.1 a.2 = true) (hb : vc b.1 b.2 = true) : feW a b = feW b a := by
  rw [feW_vc ha hb, feW_vc hb ha, decide_eq_decide]
  exact eq_comm

theorem t_comm {op : Int} (ho : op = 8 ∨ op = 10 ∨ op = 12) (a b : Wz) : tV op b a = tV op a b ∧ tE op b a = tE op a b := by
  cases hv : (vc a.1 a.2 && vc b.1 b.2) with
  | false =>
    have hv' : (vc b.1 b.2 && vc a.1 a.2) = false := by rw [Bool.and_comm]; exact hv
    have h1 := t_bad (op := op) (by omega) hv
    have h2 := t_bad (op := op) (by omega) hv'
    rw [h1.1, h1.2, h2.1, h2.2]; exact ⟨rfl, rfl⟩
  | true =>
    have hv' : (vc b.1 b.2 && vc a.1 a.2) = true := by rw [Bool.and_comm]; exact hv
    rcases ho with rfl | rfl | rfl
    · have h1 := t_two (op := 8) (by omega) hv
      have h2 := t_two (op := 8) (by omega) hv'
      obtain ⟨c1, c2, c3⟩ := add_comm (a := a.1) (b := a.2) (c := b.1) (d := b.2)
      have e1 : twoE 8 b a = twoE 8 a b := c1
      have e2 : twoW 8 b a = twoW 8 a b := by
        show (_, _) = (_, _)
        rw [c2, c3]
      rw [h1.1, h1.2, h2.1, h2.2, e1, e2]; exact ⟨rfl, rfl⟩
    · have h1 := t_two (op := 10) (by omega) hv
      have h2 := t_two (op := 10) (by omega) hv'
      obtain ⟨c1, c2, c3⟩ := mul_comm (a := a.1) (b := a.2) (c := b.1) (d := b.2)
      have e1 : twoE 10 b a = twoE 10 a b := c1
      have e2 : twoW 10 b a = twoW 10 a b := by
        show (_, _) = (_, _)
        rw [c2, c3]
      rw [h1.1, h1.2, h2.1, h2.2, e1, e2]; exact ⟨rfl, rfl⟩
    · have h1 := t_eq hv
      have h2 := t_eq hv'
      rw [Bool.and_eq_true] at hv
      rw [h1.1, h1.2, h2.1, h2.2, feW_comm b a hv.2 hv.1]; exact ⟨rfl, rfl⟩

/-- Just one of three. -/
theorem just_one {a b : Wz} (hv : (vc a.1 a.2 && vc b.1 b.2) = true) :
    (feW a b = true ∧ ltW a.1 a.2 b.1 b.2 = false ∧ ltW b.1 b.2 a.1 a.2 = false) ∨ (feW a b = false ∧ ltW a.1 a.2 b.1 b.2 = true ∧ ltW b.1 b.2 a.1 a.2 = false) ∨ (feW a b = false ∧ ltW a.1 a.2 b.1 b.2 = false ∧ ltW b.1 b.2 a.1 a.2 = true) := by
  rw [Bool.and_eq_true] at hv
  obtain ⟨p1, p2⟩ := wz_of hv.1
  obtain ⟨q1, q2⟩ := wz_of hv.2
  have e : feW a b = decide (nb a.1 = nb b.1 ∧ nb a.2 = nb b.2) := by
    rw [feW_vc hv.1 hv.2, decide_eq_decide]
    constructor
    · intro h; rw [h]; exact ⟨rfl, rfl⟩
    · rintro ⟨h1, h2⟩
      rw [← p2, ← q2, h1, h2]
  rw [e]
  unfold ltW
  simp only [decide_eq_true_eq, decide_eq_false_iff_not]
  omega
end Go.Proofs.Ytebpjcjoapahnaa
