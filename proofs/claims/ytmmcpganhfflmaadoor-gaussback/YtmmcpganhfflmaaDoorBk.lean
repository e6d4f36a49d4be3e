/-
  The walk of GaussBack.
-/
import Derived.Test.YtmmcpganhfflmaaDoorTw
import Derived.Test.YtmmcpganhfflmaaDoorUn
namespace Go.Proofs.YtmmcpganhfflmaaDoor
open Go.RowKit
open Ieee
set_option linter.unusedSimpArgs false

theorem ring_a (P Q R S : Int) : (P * R - Q * -S) * R - (P * -S + Q * R) * S = (R * R - S * -S) * P := by
  simp only [Int.mul_neg, Int.neg_mul, Int.sub_mul, Int.add_mul, Int.mul_sub, Int.mul_add, Int.sub_neg]
  simp only [Int.mul_assoc, Int.mul_comm, Int.mul_left_comm]
  omega

theorem ring_b (P Q R S : Int) : (P * R - Q * -S) * S + (P * -S + Q * R) * R = (R * R - S * -S) * Q := by
  simp only [Int.mul_neg, Int.neg_mul, Int.sub_mul, Int.add_mul, Int.mul_sub, Int.mul_add, Int.sub_neg]
  simp only [Int.mul_assoc, Int.mul_comm, Int.mul_left_comm]
  omega

theorem quo_whole_facts {p q r s x y : Int} (hp : p.natAbs ≤ 16777216) (hq : q.natAbs ≤ 16777216) (hr : r.natAbs ≤ 16777216) (hs : s.natAbs ≤ 16777216) (hx : x.natAbs ≤ 16777216) (hy : y.natAbs ≤ 16777216)
    (h0 : ¬ (r = 0 ∧ s = 0)) (hX : qX p q r s = x * qN r s) (hY : qY p q r s = y * qN r s) :
    quoE (fl p) (fl q) (fl r) (fl s) = 0 ∧ quoR (fl p) (fl q) (fl r) (fl s) = fl x ∧ quoI (fl p) (fl q) (fl r) (fl s) = fl y := by
  have := quo_whole hp hq hr hs hx hy h0 hX hY
  unfold quoAns at this
  simp at this
  exact ⟨this.2, this.1.1, this.1.2⟩

theorem norm_ne {r s : Int} (hr : r.natAbs ≤ 16777216) (hs : s.natAbs ≤ 16777216) (h0 : ¬ (r = 0 ∧ s = 0)) : qN r s ≠ 0 := by
  have s1 := sq_bounds r hr
  have s2 := sq_bounds s hs
  unfold qN
  rw [Int.mul_neg]
  by_cases hz : r = 0
  · have := s2.2.2 (fun h => h0 ⟨hz, h⟩)
    omega
  · have := s1.2.2 hz
    omega

/-- A quotient takes a product back. -/
theorem back_mul {a b c d : Nat} (h1 : vc a b = true) (h2 : vc c d = true) (h0 : ¬ (nb c = 0 ∧ nb d = 0)) (h : opE mulX mulY a b c d = 0) :
    quoE (opR mulX mulY a b c d) (opI mulX mulY a b c d) c d = 0 ∧ quoR (opR mulX mulY a b c d) (opI mulX mulY a b c d) c d = a ∧ quoI (opR mulX mulY a b c d) (opI mulX mulY a b c d) c d = b := by
  obtain ⟨va, vb⟩ := vc_parts h1
  obtain ⟨vcc, vd⟩ := vc_parts h2
  obtain ⟨ba, ea⟩ := vp_true va
  obtain ⟨bb, eb⟩ := vp_true vb
  obtain ⟨bc, ec⟩ := vp_true vcc
  obtain ⟨bd, ed⟩ := vp_true vd
  obtain ⟨r1, r2, r3, r4⟩ := op_res h
  obtain ⟨b1, e1⟩ := vp_true r1
  obtain ⟨b2, e2⟩ := vp_true r2
  rw [r3] at b1 e1
  rw [r4] at b2 e2
  have := quo_whole_facts (x := nb a) (y := nb b) b1 b2 bc bd ba bb h0
    (by unfold qX mulX mulY qN; simp only [Int.mul_neg, Int.sub_mul, Int.add_mul, Int.mul_add, Int.mul_sub, Int.mul_assoc, Int.mul_comm (nb d) (nb c)]; omega)
    (by unfold qY mulX mulY qN; simp only [Int.mul_neg, Int.sub_mul, Int.add_mul, Int.mul_add, Int.mul_sub, Int.mul_assoc, Int.mul_comm (nb d) (nb c)]; omega)
  rw [← e1, ← e2, ← ec, ← ed, ← ea, ← eb] at this
  exact this

/-- A quotient times the divisor is what was divided. -/
theorem back_quo {a b c d : Nat} (h : quoE a b c d = 0) :
    opE mulX mulY (quoR a b c d) (quoI a b c d) c d = 0 ∧ opR mulX mulY (quoR a b c d) (quoI a b c d) c d = a ∧ opI mulX mulY (quoR a b c d) (quoI a b c d) c d = b := by
  obtain ⟨hv, h0, ht, hok⟩ := quoE_zero h
  obtain ⟨va, vb, vcc, vd⟩ := valid4_parts hv
  obtain ⟨ba, ea⟩ := vp_true va
  obtain ⟨bb, eb⟩ := vp_true vb
  obtain ⟨bc, ec⟩ := vp_true vcc
  obtain ⟨bd, ed⟩ := vp_true vd
  obtain ⟨o1, o2⟩ := okC_iff.1 hok
  have hN := norm_ne bc bd h0
  have eR : quoR a b c d = fl ((qX (nb a) (nb b) (nb c) (nb d)).tdiv (qN (nb c) (nb d))) := by unfold quoR; rw [if_pos h]
  have eI : quoI a b c d = fl ((qY (nb a) (nb b) (nb c) (nb d)).tdiv (qN (nb c) (nb d))) := by unfold quoI; rw [if_pos h]
  rw [eR, eI]
  unfold quoT at ht
  simp only [Bool.and_eq_true, decide_eq_true_eq] at ht
  have dX := Int.mul_tdiv_add_tmod (qX (nb a) (nb b) (nb c) (nb d)) (qN (nb c) (nb d))
  have dY := Int.mul_tdiv_add_tmod (qY (nb a) (nb b) (nb c) (nb d)) (qN (nb c) (nb d))
  rw [ht.1, Int.add_zero] at dX
  rw [ht.2, Int.add_zero] at dY
  generalize (qX (nb a) (nb b) (nb c) (nb d)).tdiv (qN (nb c) (nb d)) = x at *
  generalize (qY (nb a) (nb b) (nb c) (nb d)).tdiv (qN (nb c) (nb d)) = y at *
  have k1 : qN (nb c) (nb d) * (x * nb c - y * nb d) = qN (nb c) (nb d) * nb a := by
    rw [Int.mul_sub, ← Int.mul_assoc, ← Int.mul_assoc, dX, dY]
    exact ring_a _ _ _ _
  have k2 : qN (nb c) (nb d) * (x * nb d + y * nb c) = qN (nb c) (nb d) * nb b := by
    rw [Int.mul_add, ← Int.mul_assoc, ← Int.mul_assoc, dX, dY]
    exact ring_b _ _ _ _
  have m1 : x * nb c - y * nb d = nb a := Int.eq_of_mul_eq_mul_left hN k1
  have m2 : x * nb d + y * nb c = nb b := Int.eq_of_mul_eq_mul_left hN k2
  have := op_told (X := mulX) (Y := mulY) (a := fl x) (b := fl y) (c := c) (d := d) (valid4_mk (vp_fl x o1) (vp_fl y o2) vcc vd) (x := nb a) (y := nb b)
    (by rw [nb_fl x (by omega), nb_fl y (by omega)]; exact m1) (by rw [nb_fl x (by omega), nb_fl y (by omega)]; exact m2)
  have ok : okC (nb a) (nb b) = true := okC_iff.2 ⟨ba, bb⟩
  unfold ansE inX inY at this
  rw [ok] at this
  simp only [if_true] at this
  rw [← ea, ← eb] at this
  exact this

theorem quo_err {a b c d : Nat} (hv : valid4 a b c d = true) (h : ¬ quoE a b c d = 0) : quoE a b c d = 51 ∨ quoE a b c d = 50 := by
  unfold quoE at h ⊢
  rw [hv] at h ⊢
  simp only [if_true] at h ⊢
  split
  · left; rfl
  · rename_i h0
    rw [if_neg h0] at h
    split
    · rename_i ht
      rw [if_pos ht] at h
      split
      · rename_i ho
        rw [if_pos ho] at h
        exact absurd rfl h
      · right; rfl
    · left; rfl

theorem neq_zero {c d : Nat} (h : vc c d = true) : ((FloatKind.f64.format.order c 0 == some .eq) && (FloatKind.f64.format.order d 0 == some .eq)) = decide (nb c = 0 ∧ nb d = 0) := by
  obtain ⟨v1, v2⟩ := vc_parts h
  rw [order_zero_rep (vp_rep v1).1, order_zero_rep (vp_rep v2).1, ← Bool.decide_and]

set_option maxRecDepth 100000 in
set_option maxHeartbeats 2000000 in
theorem back_any (x1 y1 : Int) (r1 : Bool) (x2 y2 : Int) (r2 : Bool) (w : World) (ht : Tab w) :
    Calls Tryd.prog 7 #[.agg #[.int .i64 x1, .int .i64 y1, .bool r1], .agg #[.int .i64 x2, .int .i64 y2, .bool r2]] w fun e w' => e = .returned (.bool true) ∧ Below w.heap.size w w' := by
  have l1 := zb_lt r1 x1
  have l2 := zb_lt r1 y1
  have l3 := zb_lt r2 x2
  have l4 := zb_lt r2 y2
  go_enter Tryd.func7, Tryd.ntmps7
  go_wp2_with (go_at_call 9; refine (awake_any _).mono ?_; rintro e w' ⟨rfl, rfl⟩)
  refine (z_any _ _ _ _).mono ?_
  rintro e w' ⟨rfl, n1, rfl⟩
  go_wp2_with fail
  refine (z_any _ _ _ _).mono ?_
  rintro e w' ⟨rfl, n2, rfl⟩
  have hB : Below w.heap.size w (((((w.alloc (.cells #[.int .i64 x1, .int .i64 y1, .bool r1] 23)).alloc (.cells #[.int .i64 x2, .int .i64 y2, .bool r2] 23)).alloc
      (.cells #[.int .i64 x1, .int .i64 y1, .bool r1] 23)).drewN n1).alloc (.cells #[.int .i64 x2, .int .i64 y2, .bool r2] 23) |>.drewN n2) :=
    below_drewN (bal (below_drewN (bal (bal (bal (Below.refl _ _)))) _)) _
  generalize ((((((w.alloc (Obj.cells #[.int .i64 x1, .int .i64 y1, .bool r1] 23)).alloc (.cells #[.int .i64 x2, .int .i64 y2, .bool r2] 23)).alloc
      (.cells #[.int .i64 x1, .int .i64 y1, .bool r1] 23)).drewN n1).alloc (.cells #[.int .i64 x2, .int .i64 y2, .bool r2] 23)).drewN n2) = W at hB ⊢
  have htW := tab_keep ht hB
  generalize zb r1 x1 = a at *
  generalize zb r1 y1 = b at *
  generalize zb r2 x2 = c at *
  generalize zb r2 y2 = d at *
  clear n1 n2
  have sr := same_refl
  by_cases v1 : vc a b = true
  · by_cases v2 : vc c d = true
    · obtain ⟨va, vb⟩ := vc_parts v1
      have KT : Hid (∀ w, Tab w → Calls Tryd.prog 29 #[.complex .f64 a b] w fun e w' => e = .returned (.tuple #[.string (bs (txt (nb a) (nb b))), .int .i64 0]) ∧ Below w.heap.size w w') := by
        intro w ht
        have := text_w (nb a) (nb b) w ht (vp_true va).1 (vp_true vb).1
        rwa [← (vp_true va).2, ← (vp_true vb).2] at this
      have KP : Hid (∀ w, Tab w → Calls Tryd.prog 32 #[.string (bs (txt (nb a) (nb b)))] w fun e w' => e = .returned (.tuple #[.complex .f64 a b, .int .i64 0]) ∧ Below w.heap.size w w') := by
        intro w ht
        have := parse_w (nb a) (nb b) w ht (vp_true va).1 (vp_true vb).1
        rwa [← (vp_true va).2, ← (vp_true vb).2] at this
      have hv : Hid (valid4 a b c d = true) := by show valid4 a b c d = true; rw [valid4_vc, v1, v2]; rfl
      have bz := neq_zero v2
      clear va vb
      go_wp2_with (go_at_call 15; refine (valid_vc _ _ _ (by assumption) (by assumption)).mono ?_; rintro _ w' ⟨rfl, rfl⟩)
      refine (KT.out _ htW).mono ?_
      rintro e w1 ⟨rfl, hb1⟩
      have ht1 := tab_keep htW hb1
      have hB1 := hB.trans (hb1.mono hB.size)
      clear hb1 hB htW KT
      go_wp2_with fail
      refine (KP.out _ ht1).mono ?_
      rintro e w2 ⟨rfl, hb2⟩
      have hB2 := hB1.trans (hb2.mono hB1.size)
      clear hb2 hB1 ht1 KP ht
      by_cases h0 : nb c = 0 ∧ nb d = 0
      · rw [decide_eq_true h0] at bz
        have q0 : quoE a b c d = 51 := by unfold quoE; rw [hv.out, if_pos h0]; rfl
        clear h0 hv
        go_wp2_with (first
          | (go_at_call 18; refine (mul_any _ _ _ _ _ (by assumption) (by assumption) (by assumption) (by assumption)).mono ?_; rintro _ w' ⟨rfl, rfl⟩; unfold opAns)
          | (go_at_call 24; refine (quo_any _ _ _ _ _ (by assumption) (by assumption) (by assumption) (by assumption)).mono ?_; rintro _ w' ⟨rfl, n, rfl⟩; unfold quoAns)
          | (go_at_call 11; refine (bits_any _ _ _ _ _).mono ?_; rintro _ w' ⟨rfl, rfl⟩))
        all_goals
          go_ret
          refine ⟨ret_bool ?_, by repeat (first | exact hB2 | refine below_drewN ?_ _)⟩
        all_goals first | with_reducible rfl | (clear hB2 l1 l2 l3 l4; simp_all; done)
      · rw [decide_eq_false h0] at bz
        have f1 := fun h => (back_mul v1 v2 h0 h).1
        have f2 := fun h => (back_mul v1 v2 h0 h).2.1
        have f3 := fun h => (back_mul v1 v2 h0 h).2.2
        have g1 := fun h => (back_quo (a := a) (b := b) (c := c) (d := d) h).1
        have g2 := fun h => (back_quo (a := a) (b := b) (c := c) (d := d) h).2.1
        have g3 := fun h => (back_quo (a := a) (b := b) (c := c) (d := d) h).2.2
        have g4 := fun h => quo_err hv.out h
        clear h0 hv
        go_wp2_with (first
          | (go_at_call 18; refine (mul_any _ _ _ _ _ (by first | assumption | exact quoR_lt _ _ _ _) (by first | assumption | exact quoI_lt _ _ _ _) (by assumption) (by assumption)).mono ?_; rintro _ w' ⟨rfl, rfl⟩; unfold opAns)
          | (go_at_call 24; refine (quo_any _ _ _ _ _ (by first | assumption | exact opR_lt _ _ _ _ _ _) (by first | assumption | exact opI_lt _ _ _ _ _ _) (by assumption) (by assumption)).mono ?_; rintro _ w' ⟨rfl, n, rfl⟩; unfold quoAns)
          | (go_at_call 11; refine (bits_any _ _ _ _ _).mono ?_; rintro _ w' ⟨rfl, rfl⟩))
        all_goals
          go_ret
          refine ⟨ret_bool ?_, by repeat (first | exact hB2 | refine below_drewN ?_ _)⟩
        all_goals first | with_reducible rfl | (clear hB2 l1 l2 l3 l4; simp_all; done)
    · have v2' : vc c d = false := by simpa using v2
      clear v2
      go_wp2_with (go_at_call 15; refine (valid_vc _ _ _ (by assumption) (by assumption)).mono ?_; rintro _ w' ⟨rfl, rfl⟩)
      go_ret
      exact ⟨rfl, hB⟩
  · have v1' : vc a b = false := by simpa using v1
    clear v1
    go_wp2_with (go_at_call 15; refine (valid_vc _ _ _ (by assumption) (by assumption)).mono ?_; rintro _ w' ⟨rfl, rfl⟩)
    go_ret
    exact ⟨rfl, hB⟩
end Go.Proofs.YtmmcpganhfflmaaDoor
