/-
  The walk of PrimGauss.
-/
import Derived.Test.YtebpjcjoapahnaaPh
namespace Go.Proofs.Ytebpjcjoapahnaa
open Go.RowKit
set_option maxRecDepth 100000

/-- A number's word held against itself. -/
theorem ord_self {x : Nat} (h : vp x = true) : (FloatKind.f64.format.order x x == some Ordering.eq) = true := by
  rw [eqB_rep (vp_rep h).1 (vp_rep h).1]; simp

theorem two_valid (op : Int) (ho : 8 ≤ op ∧ op ≤ 11) (a b : Wz) (w : World) (ha : ltZ a) (hb : ltZ b) (hv : (vc a.1 a.2 && vc b.1 b.2) = true) :
    Calls Try.prog 16 #[.int .i64 op, .complex .f64 a.1 a.2, .complex .f64 b.1 b.2] w fun e w' => e = .returned (.tuple #[.agg #[.int .i64 (tt (twoE op a b)), .complex .f64 (twoW op a b).1 (twoW op a b).2, .bool false, .slice none 0 0], .int .i64 (twoE op a b)]) ∧ Below w.heap.size w w' := by
  have h := two_any op a b w ha hb
  rw [(t_two ho hv).1, (t_two ho hv).2, nuR_two] at h
  exact h

set_option maxHeartbeats 4000000 in
theorem primGauss_any (x1 y1 : Int) (r1 : Bool) (x2 y2 : Int) (r2 : Bool) (w : World) :
    Calls Try.prog 7 #[.agg #[.int .i64 x1, .int .i64 y1, .bool r1], .agg #[.int .i64 x2, .int .i64 y2, .bool r2]] w fun e w' => e = .returned (.bool true) ∧ Below w.heap.size w w' := by
  have l1 := zb_lt r1 x1
  have l2 := zb_lt r1 y1
  have l3 := zb_lt r2 x2
  have l4 := zb_lt r2 y2
  have hz1 := fun W => zb_any ⟨x1, y1, r1⟩ W
  have hz2 := fun W => zb_any ⟨x2, y2, r2⟩ W
  unfold Nq.w at hz1 hz2
  simp only at hz1 hz2
  have hB := Bk.new w 34 #[.int .i64 x1, .int .i64 y1, .bool r1]
  go_enter Try.func7, Try.ntmps7
  go_wp2_with fail
  refine (awake10_any _).mono ?_
  rintro e w1 ⟨rfl, hb1⟩
  have b0 := Below.thn (below_alloc w (.cells #[.int .i64 x1, .int .i64 y1, .bool r1] 34)) (below_alloc _ (.cells #[.int .i64 x2, .int .i64 y2, .bool r2] 34))
  have m1 := (hB.alloc (.cells #[.int .i64 x2, .int .i64 y2, .bool r2] 34)).up hb1
  have m2 := (Bk.new (w.alloc (.cells #[.int .i64 x1, .int .i64 y1, .bool r1] 34)) 34 #[.int .i64 x2, .int .i64 y2, .bool r2]).up hb1
  rw [show (w.alloc (.cells #[.int .i64 x1, .int .i64 y1, .bool r1] 34)).heap.size = w.heap.size + 1 by simp] at m2
  have B1 := Below.thn b0 hb1
  have c0 : w1.cell? ⟨w.heap.size, 0, none⟩ = some (.int .i64 x1) := m1.cell 0
  have c1 : w1.cell? ⟨w.heap.size, 1, none⟩ = some (.int .i64 y1) := m1.cell 1
  have c2 : w1.cell? ⟨w.heap.size, 2, none⟩ = some (.bool r1) := m1.cell 2
  clear hb1 b0 hB
  go_wp2_with fail
  refine (hz1 _).mono ?_
  rintro e w2 ⟨rfl, hb2⟩
  have B2 := Below.thn B1 hb2
  have n2 := m2.up hb2
  have d0 : w2.cell? ⟨w.heap.size + 1, 0, none⟩ = some (.int .i64 x2) := n2.cell 0
  have d1 : w2.cell? ⟨w.heap.size + 1, 1, none⟩ = some (.int .i64 y2) := n2.cell 1
  have d2 : w2.cell? ⟨w.heap.size + 1, 2, none⟩ = some (.bool r2) := n2.cell 2
  clear m1 m2 hb2 B1 c0 c1 c2
  go_wp2_with fail
  refine (hz2 _).mono ?_
  rintro e w3 ⟨rfl, hb3⟩
  have B3 := Below.thn B2 hb3
  clear hb3 B2 n2 d0 d1 d2 hz1 hz2
  generalize zb r1 x1 = p at *
  generalize zb r1 y1 = q at *
  generalize zb r2 x2 = u at *
  generalize zb r2 y2 = v at *
  have v1 := fun W => valid_vc p q W l1 l2
  have v2 := fun W => valid_vc u v W l3 l4
  have hT := fun W => two_any 8 (p, q) (u, v) W ⟨l1, l2⟩ ⟨l3, l4⟩
  cases hp : vc p q with
  | false =>
    rw [hp] at v1
    have ht := t_bad (op := 8) (by omega) (a := (p, q)) (b := (u, v)) (by simp only; rw [hp]; rfl)
    rw [ht.1, ht.2] at hT
    simp only [rv0] at hT
    clear ht v2
    have hcx := store_cx
    go_wp2_with (first | (go_at_call 21; (with_reducible refine Calls.mono (v1 _) ?_); rintro e w' ⟨rfl, hw'⟩; rw [hw']; clear hw') | (go_at_call 16; (with_reducible refine Calls.mono (hT _) ?_); rintro e w4 ⟨rfl, hb4⟩))
    go_ret
    exact ⟨rfl, Below.thn B3 (Below.thn hb4 (below_alloc _ _))⟩
  | true =>
    cases hu : vc u v with
    | false =>
      rw [hp] at v1
      rw [hu] at v2
      have ht := t_bad (op := 8) (by omega) (a := (p, q)) (b := (u, v)) (by simp only; rw [hu]; simp)
      rw [ht.1, ht.2] at hT
      simp only [rv0] at hT
      clear ht
      have hcx := store_cx
      go_wp2_with (first | (go_at_call 21; (with_reducible refine Calls.mono (v1 _) ?_); rintro e w' ⟨rfl, hw'⟩; rw [hw']; clear hw') | (go_at_call 21; (with_reducible refine Calls.mono (v2 _) ?_); rintro e w' ⟨rfl, hw'⟩; rw [hw']; clear hw') | (go_at_call 16; (with_reducible refine Calls.mono (hT _) ?_); rintro e w4 ⟨rfl, hb4⟩))
      go_ret
      exact ⟨rfl, Below.thn B3 (Below.thn hb4 (below_alloc _ _))⟩
    | true =>
      rw [hp] at v1
      rw [hu] at v2
      have hv : (vc (p, q).1 (p, q).2 && vc (u, v).1 (u, v).2) = true := by simp only; rw [hp, hu]; rfl
      have a1 := fun W => add_any p q u v W l1 l2 l3 l4
      have a2 := fun W => sub_any p q u v W l1 l2 l3 l4
      have a3 := fun W => mul_any p q u v W l1 l2 l3 l4
      have a4 := fun W => quo_any p q u v W l1 l2 l3 l4
      have t1 := fun W => two_valid 8 (by omega) (p, q) (u, v) W ⟨l1, l2⟩ ⟨l3, l4⟩ hv
      have t2 := fun W => two_valid 9 (by omega) (p, q) (u, v) W ⟨l1, l2⟩ ⟨l3, l4⟩ hv
      have t3 := fun W => two_valid 10 (by omega) (p, q) (u, v) W ⟨l1, l2⟩ ⟨l3, l4⟩ hv
      have t4 := fun W => two_valid 11 (by omega) (p, q) (u, v) W ⟨l1, l2⟩ ⟨l3, l4⟩ hv
      have t5 := fun W => two_any 13 (p, q) (u, v) W ⟨l1, l2⟩ ⟨l3, l4⟩
      rw [(t_less hv).1, (t_less hv).2] at t5
      have t6 := fun W => less_yes p q u v W hp hu
      have t7 := fun W => lone_any 17 (rn (p, q)) W rfl ⟨l1, l2⟩
      rw [(o_one (by omega) (a := (p, q)) hp).1, (o_one (by omega) (a := (p, q)) hp).2] at t7
      have t8 := fun W => conj_yes p q W hp
      have t9 := fun W => lnum_any p q W
      have k1 := vc_two 8 (p, q) (u, v)
      have k2 := vc_two 9 (p, q) (u, v)
      have k3 := vc_two 10 (p, q) (u, v)
      have k4 := vc_two 11 (p, q) (u, v)
      have k5 : vc p (cj q) = true := by
        obtain ⟨h1, h2⟩ := vc_parts hp
        unfold vc
        rw [h1, (cj_facts h2).1]; rfl
      unfold opAns at a1 a2 a3
      unfold quoAns at a4
      simp only [rb, rn, show oneW 17 (p, q) = (p, cj q) from rfl] at t5 t7
      simp only [show twoW 8 (p, q) (u, v) = (opR addX addY p q u v, opI addX addY p q u v) from rfl, show twoE 8 (p, q) (u, v) = opE addX addY p q u v from rfl] at t1 k1
      simp only [show twoW 9 (p, q) (u, v) = (opR subX subY p q u v, opI subX subY p q u v) from rfl, show twoE 9 (p, q) (u, v) = opE subX subY p q u v from rfl] at t2 k2
      simp only [show twoW 10 (p, q) (u, v) = (opR mulX mulY p q u v, opI mulX mulY p q u v) from rfl, show twoE 10 (p, q) (u, v) = opE mulX mulY p q u v from rfl] at t3 k3
      simp only [show twoW 11 (p, q) (u, v) = (quoR p q u v, quoI p q u v) from rfl, show twoE 11 (p, q) (u, v) = quoE p q u v from rfl] at t4 k4
      generalize opR addX addY p q u v = R1 at *
      generalize opI addX addY p q u v = I1 at *
      generalize opE addX addY p q u v = E1 at *
      generalize opR subX subY p q u v = R2 at *
      generalize opI subX subY p q u v = I2 at *
      generalize opE subX subY p q u v = E2 at *
      generalize opR mulX mulY p q u v = R3 at *
      generalize opI mulX mulY p q u v = I3 at *
      generalize opE mulX mulY p q u v = E3 at *
      generalize quoR p q u v = R4 at *
      generalize quoI p q u v = I4 at *
      generalize quoE p q u v = E4 at *
      generalize ltW p q u v = L at *
      generalize cj q = cq at *
      clear hT hv
      have H1 : Hid (vc R1 I1 = true ∧ vc R2 I2 = true ∧ vc R3 I3 = true ∧ vc R4 I4 = true) := ⟨k1, k2, k3, k4⟩
      have o1 := ord_self (vc_parts k5).1
      have o2 := ord_self (vc_parts k5).2
      clear k1 k2 k3 k4 k5
      have hcx := store_cx
      go_wp2_with (first | (go_at_call 21; (with_reducible refine Calls.mono (v1 _) ?_); rintro e w' ⟨rfl, hw'⟩; rw [hw']; clear hw') | (go_at_call 21; (with_reducible refine Calls.mono (v2 _) ?_); rintro e w' ⟨rfl, hw'⟩; rw [hw']; clear hw'))
      clear v1 v2 hp hu
      go_loopw [9] (fun i wr => ∃ k : Int, 8 ≤ k ∧ k ≤ 12 ∧ i = .int .i64 k ∧ Below w.heap.size w wr) (fun i _ => (12 - intOf i).toNat)
      case atStart => exact ⟨8, by omega, by omega, rfl, B3⟩
      case round =>
        obtain ⟨k, hk1, hk2, rfl, hB⟩ := hrel
        by_cases hk : k = 12
        · subst hk
          go_wp2_with fail
          refine (t5 _).mono ?_
          rintro e w5 ⟨rfl, hb5⟩
          go_wp2_with fail
          refine (t6 _).mono ?_
          rintro e w6 ⟨rfl, hw6⟩
          rw [hw6]
          clear hw6
          go_wp2_with fail
          refine (t9 _).mono ?_
          rintro e w7 ⟨rfl, hb7⟩
          go_wp2_with fail
          refine (t7 _).mono ?_
          rintro e w8 ⟨rfl, hb8⟩
          go_wp2_with fail
          refine (t8 _).mono ?_
          rintro e w9 ⟨rfl, hw9⟩
          rw [hw9]
          clear hw9
          have g5 := ((Bk.new w5 32 #[.int .i64 2, .complex .f64 0 0, .bool L, .slice none 0 0]).up hb7).up hb8
          have g6 : w8.cell? ⟨w5.heap.size, 2, none⟩ = some (.bool L) := g5.cell 2
          have hlt := g5.lt
          have bb := Below.thn hB (Below.thn hb5 (Below.thn (below_alloc w5 (.cells #[.int .i64 2, .complex .f64 0 0, .bool L, .slice none 0 0] 32)) (Below.thn hb7 (Below.thn hb8 (below_alloc w8 (.cells #[.int .i64 1, .complex .f64 p cq, .bool false, .slice none 0 0] 32))))))
          clear t1 t2 t3 t4 t5 t6 t7 t8 t9 a1 a2 a3 a4 hcx g5
          go_wp2
          all_goals
            go_ret
            exact ⟨by simp_all, bb⟩
        · have h4 : k = 8 ∨ k = 9 ∨ k = 10 ∨ k = 11 := by omega
          obtain ⟨j1, j2, j3, j4⟩ := H1.out
          clear H1 t5 t6 t7 t8 t9 o1 o2 hk1 hk2 hk
          rcases h4 with rfl | rfl | rfl | rfl
          · have q1 := ord_self (vc_parts j1).1
            have q2 := ord_self (vc_parts j1).2
            obtain ⟨T9, hT9⟩ : ∃ T9, Hid (T9 = tt E1) := ⟨_, rfl⟩
            rw [← hT9.out] at t1
            have hT8 : (T9 = 1 ∧ E1 = 0) ∨ ((T9 == 1) = false ∧ (E1 == 0) = false) := by
              rw [hT9.out]
              unfold tt
              by_cases h0 : E1 = 0
              · left; rw [if_pos h0]; exact ⟨rfl, h0⟩
              · right; rw [if_neg h0]; exact ⟨rfl, by rw [beq_eq_false_iff_ne]; exact h0⟩
            clear j1 j2 j3 j4 t2  t3  t4 a2 a3 a4 hT9
            go_wp2_with fail
            refine (t1 _).mono ?_
            rintro e w5 ⟨rfl, hb5⟩
            go_wp2_with fail
            refine (a1 _).mono ?_
            rintro e w6 ⟨rfl, hw6⟩
            rw [hw6]
            clear hw6
            rcases hT8 with ⟨rfl, rfl⟩ | ⟨z1, z2⟩
            all_goals
              go_wp2
              go_roundw
              case rel => exact ⟨9, by omega, by omega, by go_num, Below.thn hB (Below.thn hb5 (below_alloc _ _))⟩
              case measure => simp [intOf]
          · have q1 := ord_self (vc_parts j2).1
            have q2 := ord_self (vc_parts j2).2
            obtain ⟨T9, hT9⟩ : ∃ T9, Hid (T9 = tt E2) := ⟨_, rfl⟩
            rw [← hT9.out] at t2
            have hT8 : (T9 = 1 ∧ E2 = 0) ∨ ((T9 == 1) = false ∧ (E2 == 0) = false) := by
              rw [hT9.out]
              unfold tt
              by_cases h0 : E2 = 0
              · left; rw [if_pos h0]; exact ⟨rfl, h0⟩
              · right; rw [if_neg h0]; exact ⟨rfl, by rw [beq_eq_false_iff_ne]; exact h0⟩
            clear j1 j2 j3 j4 t1  t3  t4 a3 a4 hT9
            go_wp2_with fail
            refine (t2 _).mono ?_
            rintro e w5 ⟨rfl, hb5⟩
            go_wp2_with fail
            refine (a1 _).mono ?_
            rintro e w6 ⟨rfl, hw6⟩
            rw [hw6]
            clear hw6
            go_wp2_with fail
            refine (a2 _).mono ?_
            rintro e w7 ⟨rfl, hw7⟩
            rw [hw7]
            clear hw7
            rcases hT8 with ⟨rfl, rfl⟩ | ⟨z1, z2⟩
            all_goals
              go_wp2
              go_roundw
              case rel => exact ⟨10, by omega, by omega, by go_num, Below.thn hB (Below.thn hb5 (below_alloc _ _))⟩
              case measure => simp [intOf]
          · have q1 := ord_self (vc_parts j3).1
            have q2 := ord_self (vc_parts j3).2
            obtain ⟨T9, hT9⟩ : ∃ T9, Hid (T9 = tt E3) := ⟨_, rfl⟩
            rw [← hT9.out] at t3
            have hT8 : (T9 = 1 ∧ E3 = 0) ∨ ((T9 == 1) = false ∧ (E3 == 0) = false) := by
              rw [hT9.out]
              unfold tt
              by_cases h0 : E3 = 0
              · left; rw [if_pos h0]; exact ⟨rfl, h0⟩
              · right; rw [if_neg h0]; exact ⟨rfl, by rw [beq_eq_false_iff_ne]; exact h0⟩
            clear j1 j2 j3 j4 t1  t2  t4 a2 a4 hT9
            go_wp2_with fail
            refine (t3 _).mono ?_
            rintro e w5 ⟨rfl, hb5⟩
            go_wp2_with fail
            refine (a1 _).mono ?_
            rintro e w6 ⟨rfl, hw6⟩
            rw [hw6]
            clear hw6
            go_wp2_with fail
            refine (a3 _).mono ?_
            rintro e w7 ⟨rfl, hw7⟩
            rw [hw7]
            clear hw7
            rcases hT8 with ⟨rfl, rfl⟩ | ⟨z1, z2⟩
            all_goals
              go_wp2
              go_roundw
              case rel => exact ⟨11, by omega, by omega, by go_num, Below.thn hB (Below.thn hb5 (below_alloc _ _))⟩
              case measure => simp [intOf]
          · have q1 := ord_self (vc_parts j4).1
            have q2 := ord_self (vc_parts j4).2
            obtain ⟨T9, hT9⟩ : ∃ T9, Hid (T9 = tt E4) := ⟨_, rfl⟩
            rw [← hT9.out] at t4
            have hT8 : (T9 = 1 ∧ E4 = 0) ∨ ((T9 == 1) = false ∧ (E4 == 0) = false) := by
              rw [hT9.out]
              unfold tt
              by_cases h0 : E4 = 0
              · left; rw [if_pos h0]; exact ⟨rfl, h0⟩
              · right; rw [if_neg h0]; exact ⟨rfl, by rw [beq_eq_false_iff_ne]; exact h0⟩
            clear j1 j2 j3 j4 t1  t2  t3 a2 a3 hT9
            go_wp2_with fail
            refine (t4 _).mono ?_
            rintro e w5 ⟨rfl, hb5⟩
            go_wp2_with fail
            refine (a1 _).mono ?_
            rintro e w6 ⟨rfl, hw6⟩
            rw [hw6]
            clear hw6
            go_wp2_with fail
            refine (a4 _).mono ?_
            rintro e w7 ⟨rfl, nq, hw7⟩
            rw [hw7]
            clear hw7
            rcases hT8 with ⟨rfl, rfl⟩ | ⟨z1, z2⟩
            all_goals
              go_wp2
              go_roundw
              case rel => exact ⟨12, by omega, by omega, by go_num, Below.thn hB (Below.thn hb5 (below_drewN (below_alloc _ _) nq))⟩
              case measure => simp [intOf]
end Go.Proofs.Ytebpjcjoapahnaa
