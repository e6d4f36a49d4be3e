/-
  The walk of PrimOrder.
-/
import Derived.Test.YtebpjcjoapahnaaPh
namespace Go.Proofs.Ytebpjcjoapahnaa
open Go.RowKit
set_option maxRecDepth 100000

/-- The two calls in either order, and what they answer held against itself. -/
theorem order_calls {op : Int} (ho : op = 8 ∨ op = 10 ∨ op = 12) (a b : Wz) (ha : ltZ a) (hb : ltZ b) : ∃ (t : Int) (x y : Nat) (r : Bool) (k : Int),
    (∀ W, Calls Try.prog 16 #[.int .i64 op, .complex .f64 a.1 a.2, .complex .f64 b.1 b.2] W fun e w' => e = .returned (.tuple #[.agg #[.int .i64 t, .complex .f64 x y, .bool r, .slice none 0 0], .int .i64 k]) ∧ Below W.heap.size W w') ∧
    (∀ W, Calls Try.prog 16 #[.int .i64 op, .complex .f64 b.1 b.2, .complex .f64 a.1 a.2] W fun e w' => e = .returned (.tuple #[.agg #[.int .i64 t, .complex .f64 x y, .bool r, .slice none 0 0], .int .i64 k]) ∧ Below W.heap.size W w') ∧
    (∀ W, Calls Try.prog 14 #[.agg #[.int .i64 t, .complex .f64 x y, .bool r, .slice none 0 0], .agg #[.int .i64 t, .complex .f64 x y, .bool r, .slice none 0 0]] W fun e w' => e = .returned (.bool true) ∧ Below W.heap.size W w') := by
  refine ⟨(tV op a b).t, (tV op a b).z.1, (tV op a b).z.2, (tV op a b).r, tE op a b, fun W => two_any op a b W ha hb, fun W => ?_, fun W => whole_ap op _ W⟩
  have h := two_any op b a W hb ha
  rw [(t_comm ho a b).1, (t_comm ho a b).2] at h
  exact h

set_option maxHeartbeats 4000000 in
theorem primOrder_any (x1 y1 : Int) (r1 : Bool) (x2 y2 : Int) (r2 : Bool) (w : World) :
    Calls Try.prog 4 #[.agg #[.int .i64 x1, .int .i64 y1, .bool r1], .agg #[.int .i64 x2, .int .i64 y2, .bool r2]] w fun e w' => e = .returned (.bool true) ∧ Below w.heap.size w w' := by
  have l1 := zb_lt r1 x1
  have l2 := zb_lt r1 y1
  have l3 := zb_lt r2 x2
  have l4 := zb_lt r2 y2
  have hz1 := fun W => zb_any ⟨x1, y1, r1⟩ W
  have hz2 := fun W => zb_any ⟨x2, y2, r2⟩ W
  unfold Nq.w at hz1 hz2
  simp only at hz1 hz2
  have hB := Bk.new w 34 #[.int .i64 x1, .int .i64 y1, .bool r1]
  go_enter Try.func4, Try.ntmps4
  go_wp2_with fail
  refine (awake10_any _).mono ?_
  rintro e w1 ⟨rfl, hb1⟩
  have b0 := Below.thn (below_alloc w (.cells #[.int .i64 x1, .int .i64 y1, .bool r1] 34)) (below_alloc _ (.cells #[.int .i64 x2, .int .i64 y2, .bool r2] 34))
  have m1 := (hB.alloc (.cells #[.int .i64 x2, .int .i64 y2, .bool r2] 34)).up hb1
  have m2 := (Bk.new (w.alloc (.cells #[.int .i64 x1, .int .i64 y1, .bool r1] 34)) 34 #[.int .i64 x2, .int .i64 y2, .bool r2]).up hb1
  rw [show (w.alloc (.cells #[.int .i64 x1, .int .i64 y1, .bool r1] 34)).heap.size = w.heap.size + 1 by simp] at m2
  have B1 := Below.thn b0 hb1
  have c0 : w1.cell? ⟨w.heap.size, 0, none⟩ = some (.int .i64 x1) := m1.cell 0
  have c1 : w1.cell? ⟨w.heap.size, 1, none⟩ = some (.int .i64 y1) := m1.cell 1
  have c2 : w1.cell? ⟨w.heap.size, 2, none⟩ = some (.bool r1) := m1.cell 2
  clear hb1 b0 hB
  go_wp2_with fail
  refine (hz1 _).mono ?_
  rintro e w2 ⟨rfl, hb2⟩
  have B2 := Below.thn B1 hb2
  have n2 := m2.up hb2
  have d0 : w2.cell? ⟨w.heap.size + 1, 0, none⟩ = some (.int .i64 x2) := n2.cell 0
  have d1 : w2.cell? ⟨w.heap.size + 1, 1, none⟩ = some (.int .i64 y2) := n2.cell 1
  have d2 : w2.cell? ⟨w.heap.size + 1, 2, none⟩ = some (.bool r2) := n2.cell 2
  clear m1 m2 hb2 B1 c0 c1 c2
  go_wp2_with fail
  refine (hz2 _).mono ?_
  rintro e w3 ⟨rfl, hb3⟩
  have B3 := Below.thn B2 hb3
  clear hb3 B2 n2 d0 d1 d2 hz1 hz2
  generalize zb r1 x1 = p at *
  generalize zb r1 y1 = q at *
  generalize zb r2 x2 = u at *
  generalize zb r2 y2 = v at *
  have t5 := fun W => two_any 12 (p, q) (u, v) W ⟨l1, l2⟩ ⟨l3, l4⟩
  have t6 := fun W => two_any 13 (p, q) (u, v) W ⟨l1, l2⟩ ⟨l3, l4⟩
  have t7 := fun W => two_any 13 (u, v) (p, q) W ⟨l3, l4⟩ ⟨l1, l2⟩
  have hcx := store_cx
  have HO : Hid (∀ op, op = 8 ∨ op = 10 ∨ op = 12 → ∃ (t : Int) (x y : Nat) (r : Bool) (k : Int),
    (∀ W, Calls Try.prog 16 #[.int .i64 op, .complex .f64 p q, .complex .f64 u v] W fun e w' => e = .returned (.tuple #[.agg #[.int .i64 t, .complex .f64 x y, .bool r, .slice none 0 0], .int .i64 k]) ∧ Below W.heap.size W w') ∧
    (∀ W, Calls Try.prog 16 #[.int .i64 op, .complex .f64 u v, .complex .f64 p q] W fun e w' => e = .returned (.tuple #[.agg #[.int .i64 t, .complex .f64 x y, .bool r, .slice none 0 0], .int .i64 k]) ∧ Below W.heap.size W w') ∧
    (∀ W, Calls Try.prog 14 #[.agg #[.int .i64 t, .complex .f64 x y, .bool r, .slice none 0 0], .agg #[.int .i64 t, .complex .f64 x y, .bool r, .slice none 0 0]] W fun e w' => e = .returned (.bool true) ∧ Below W.heap.size W w')) :=
    fun op ho => order_calls ho (p, q) (u, v) ⟨l1, l2⟩ ⟨l3, l4⟩
  have hG := Bk.new w3 27 #[.int .i64 8, .int .i64 10, .int .i64 12]
  have bG := below_alloc w3 (.cells #[.int .i64 8, .int .i64 10, .int .i64 12] 27)
  go_wp2_with fail
  generalize w3.alloc (.cells #[.int .i64 8, .int .i64 10, .int .i64 12] 27) = W at *
  have B4 := Below.thn B3 bG
  have HG : Hid (Bk W w3.heap.size 27 [.int .i64 8, .int .i64 10, .int .i64 12]) := hG
  clear hG bG B3
  go_loopw [34] (fun i wr => ∃ k : Nat, k ≤ 3 ∧ i = .int .i64 k ∧ Below W.heap.size W wr) (fun i _ => 3 - (intOf i).toNat)
  case atStart => exact ⟨0, by omega, rfl, Below.refl _ _⟩
  case round =>
    obtain ⟨k, hk, rfl, hB⟩ := hrel
    by_cases hk3 : k = 3
    · subst hk3
      clear HO HG
      have B5 := B4.trans (hB.mono B4.size)
      cases hv : (vc (p, q).1 (p, q).2 && vc (u, v).1 (u, v).2) with
      | false =>
        have hv2 : (vc (u, v).1 (u, v).2 && vc (p, q).1 (p, q).2) = false := by rw [Bool.and_comm]; exact hv
        have z5 := t_bad (op := 12) (by omega) hv
        have z6 := t_bad (op := 13) (by omega) hv
        have z7 := t_bad (op := 13) (by omega) hv2
        rw [z5.1, z5.2] at t5
        rw [z6.1, z6.2] at t6
        rw [z7.1, z7.2] at t7
        simp only [rv0] at t5 t6 t7
        clear z5 z6 z7 hv hv2
        go_wp2_with fail
        refine (t5 _).mono ?_
        rintro e w5 ⟨rfl, hb5⟩
        go_wp2_with fail
        refine (t6 _).mono ?_
        rintro e w6 ⟨rfl, hb6⟩
        go_wp2_with fail
        refine (t7 _).mono ?_
        rintro e w7 ⟨rfl, hb7⟩
        go_wp2
        go_ret
        exact ⟨rfl, Below.thn B5 (Below.thn hb5 (Below.thn (below_alloc _ _) (Below.thn hb6 (Below.thn (below_alloc _ _) (Below.thn hb7 (below_alloc _ _))))))⟩
      | true =>
        have hv2 : (vc (u, v).1 (u, v).2 && vc (p, q).1 (p, q).2) = true := by rw [Bool.and_comm]; exact hv
        have z5 := t_eq hv
        have z6 := t_less hv
        have z7 := t_less hv2
        have hJ := just_one hv
        rw [z5.1, z5.2] at t5
        rw [z6.1, z6.2] at t6
        rw [z7.1, z7.2] at t7
        simp only [rb] at t5 t6 t7
        simp only at hJ
        generalize feW (p, q) (u, v) = f1 at *
        generalize ltW p q u v = f2 at *
        generalize ltW u v p q = f3 at *
        clear z5 z6 z7 hv hv2
        have n1 := fun W => lone_any 14 (rb f1) W rfl ⟨show (0 : Nat) < 2 ^ 64 by decide, show (0 : Nat) < 2 ^ 64 by decide⟩
        have n2 := fun W => lone_any 14 (rb (!f1)) W rfl ⟨show (0 : Nat) < 2 ^ 64 by decide, show (0 : Nat) < 2 ^ 64 by decide⟩
        rw [(o_not f1).1, (o_not f1).2] at n1
        rw [(o_not (!f1)).1, (o_not (!f1)).2] at n2
        simp only [rb] at n1 n2
        go_wp2_with fail
        refine (t5 _).mono ?_
        rintro e w5 ⟨rfl, hb5⟩
        go_wp2_with fail
        refine (t6 _).mono ?_
        rintro e w6 ⟨rfl, hb6⟩
        go_wp2_with fail
        refine (t7 _).mono ?_
        rintro e w7 ⟨rfl, hb7⟩
        have g1 := ((Bk.new w5 32 #[.int .i64 2, .complex .f64 0 0, .bool f1, .slice none 0 0]).up hb6).alloc (.cells #[.int .i64 2, .complex .f64 0 0, .bool f2, .slice none 0 0] 32) |>.up hb7 |>.alloc (.cells #[.int .i64 2, .complex .f64 0 0, .bool f3, .slice none 0 0] 32)
        have g2 := ((Bk.new w6 32 #[.int .i64 2, .complex .f64 0 0, .bool f2, .slice none 0 0]).up hb7).alloc (.cells #[.int .i64 2, .complex .f64 0 0, .bool f3, .slice none 0 0] 32)
        have g3 := Bk.new w7 32 #[.int .i64 2, .complex .f64 0 0, .bool f3, .slice none 0 0]
        have B7 := Below.thn B5 (Below.thn hb5 (Below.thn (below_alloc _ _) (Below.thn hb6 (Below.thn (below_alloc _ _) (Below.thn hb7 (below_alloc w7 (.cells #[.int .i64 2, .complex .f64 0 0, .bool f3, .slice none 0 0] 32)))))))
        go_upto_region 19 with fail
        generalize w7.alloc (.cells #[.int .i64 2, .complex .f64 0 0, .bool f3, .slice none 0 0] 32) = W7 at *
        have e10 : W7.cell? ⟨w5.heap.size, 0, none⟩ = some (.int .i64 2) := g1.cell 0
        have e11 : W7.cell? ⟨w5.heap.size, 1, none⟩ = some (.complex .f64 0 0) := g1.cell 1
        have e12 : W7.cell? ⟨w5.heap.size, 2, none⟩ = some (.bool f1) := g1.cell 2
        have e13 : W7.cell? ⟨w5.heap.size, 3, none⟩ = some (.slice none 0 0) := g1.cell 3
        have e20 : W7.cell? ⟨w6.heap.size, 0, none⟩ = some (.int .i64 2) := g2.cell 0
        have e21 : W7.cell? ⟨w6.heap.size, 1, none⟩ = some (.complex .f64 0 0) := g2.cell 1
        have e22 : W7.cell? ⟨w6.heap.size, 2, none⟩ = some (.bool f2) := g2.cell 2
        have e23 : W7.cell? ⟨w6.heap.size, 3, none⟩ = some (.slice none 0 0) := g2.cell 3
        have e30 : W7.cell? ⟨w7.heap.size, 0, none⟩ = some (.int .i64 2) := g3.cell 0
        have e31 : W7.cell? ⟨w7.heap.size, 1, none⟩ = some (.complex .f64 0 0) := g3.cell 1
        have e32 : W7.cell? ⟨w7.heap.size, 2, none⟩ = some (.bool f3) := g3.cell 2
        have e33 : W7.cell? ⟨w7.heap.size, 3, none⟩ = some (.slice none 0 0) := g3.cell 3
        clear t5 t6 t7 hb5 hb6 hb7 hB B4 B5 g2 g3
        go_wp2_with fail
        have HS := Bk.new W7 32 #[.int .i64 2, .complex .f64 0 0, .bool f1, .slice none 0 0, .int .i64 2, .complex .f64 0 0, .bool f2, .slice none 0 0, .int .i64 2, .complex .f64 0 0, .bool f3, .slice none 0 0]
        have B8 := Below.thn B7 (below_alloc W7 (.cells #[.int .i64 2, .complex .f64 0 0, .bool f1, .slice none 0 0, .int .i64 2, .complex .f64 0 0, .bool f2, .slice none 0 0, .int .i64 2, .complex .f64 0 0, .bool f3, .slice none 0 0] 32))
        have g1' := g1.alloc (.cells #[.int .i64 2, .complex .f64 0 0, .bool f1, .slice none 0 0, .int .i64 2, .complex .f64 0 0, .bool f2, .slice none 0 0, .int .i64 2, .complex .f64 0 0, .bool f3, .slice none 0 0] 32)
        generalize W7.alloc (.cells #[.int .i64 2, .complex .f64 0 0, .bool f1, .slice none 0 0, .int .i64 2, .complex .f64 0 0, .bool f2, .slice none 0 0, .int .i64 2, .complex .f64 0 0, .bool f3, .slice none 0 0] 32) = W8 at *
        clear e10 e11 e12 e13 e20 e21 e22 e23 e30 e31 e32 e33 g1 B7
        have HSS : Hid (Bk W8 W7.heap.size 32 [.int .i64 2, .complex .f64 0 0, .bool f1, .slice none 0 0, .int .i64 2, .complex .f64 0 0, .bool f2, .slice none 0 0, .int .i64 2, .complex .f64 0 0, .bool f3, .slice none 0 0]) := HS
        have HG1 : Hid (Bk W8 w5.heap.size 32 [.int .i64 2, .complex .f64 0 0, .bool f1, .slice none 0 0]) := g1'
        clear HS g1'
        rcases hJ with ⟨rfl, rfl, rfl⟩ | ⟨rfl, rfl, rfl⟩ | ⟨rfl, rfl, rfl⟩
        · go_loopw [97, 19] (fun i s wr => ((i = .int .i64 0 ∧ s = .int .i64 0) ∨ (i = .int .i64 1 ∧ s = .int .i64 1) ∨ (i = .int .i64 2 ∧ s = .int .i64 1) ∨ (i = .int .i64 3 ∧ s = .int .i64 1)) ∧ Below W8.heap.size W8 wr) (fun i _ _ => 3 - (intOf i).toNat)
          case atStart => exact ⟨.inl ⟨rfl, rfl⟩, Below.refl _ _⟩
          case round =>
            obtain ⟨hc, hB⟩ := hrel
            have hS := HSS.out.up hB
            have s0 : wr.cell? ⟨W7.heap.size, 0, none⟩ = some (.int .i64 2) := hS.cell 0
            have s1 : wr.cell? ⟨W7.heap.size, 1, none⟩ = some (.complex .f64 0 0) := hS.cell 1
            have s2 : wr.cell? ⟨W7.heap.size, 2, none⟩ = some (.bool true) := hS.cell 2
            have s3 : wr.cell? ⟨W7.heap.size, 3, none⟩ = some (.slice none 0 0) := hS.cell 3
            have s4 : wr.cell? ⟨W7.heap.size, 4, none⟩ = some (.int .i64 2) := hS.cell 4
            have s5 : wr.cell? ⟨W7.heap.size, 5, none⟩ = some (.complex .f64 0 0) := hS.cell 5
            have s6 : wr.cell? ⟨W7.heap.size, 6, none⟩ = some (.bool false) := hS.cell 6
            have s7 : wr.cell? ⟨W7.heap.size, 7, none⟩ = some (.slice none 0 0) := hS.cell 7
            have s8 : wr.cell? ⟨W7.heap.size, 8, none⟩ = some (.int .i64 2) := hS.cell 8
            have s9 : wr.cell? ⟨W7.heap.size, 9, none⟩ = some (.complex .f64 0 0) := hS.cell 9
            have s10 : wr.cell? ⟨W7.heap.size, 10, none⟩ = some (.bool false) := hS.cell 10
            have s11 : wr.cell? ⟨W7.heap.size, 11, none⟩ = some (.slice none 0 0) := hS.cell 11
            rcases hc with ⟨rfl, rfl⟩ | ⟨rfl, rfl⟩ | ⟨rfl, rfl⟩ | ⟨rfl, rfl⟩
            · go_wp2
              go_roundw
              case rel => exact ⟨.inr (.inl ⟨by go_num, by go_num⟩), Below.thn hB (below_alloc _ _)⟩
              case measure => simp [intOf]
            · go_wp2
              go_roundw
              case rel => exact ⟨.inr (.inr (.inl ⟨by go_num, by go_num⟩)), Below.thn hB (below_alloc _ _)⟩
              case measure => simp [intOf]
            · go_wp2
              go_roundw
              case rel => exact ⟨.inr (.inr (.inr ⟨by go_num, by go_num⟩)), Below.thn hB (below_alloc _ _)⟩
              case measure => simp [intOf]
            · have g1 := HG1.out.up hB
              have e10 : wr.cell? ⟨w5.heap.size, 0, none⟩ = some (.int .i64 2) := g1.cell 0
              have e11 : wr.cell? ⟨w5.heap.size, 1, none⟩ = some (.complex .f64 0 0) := g1.cell 1
              have e12 : wr.cell? ⟨w5.heap.size, 2, none⟩ = some (.bool true) := g1.cell 2
              have e13 : wr.cell? ⟨w5.heap.size, 3, none⟩ = some (.slice none 0 0) := g1.cell 3
              simp only [Bool.not_true, Bool.not_false] at n1 n2
              go_wp2_with fail
              refine (n1 _).mono ?_
              rintro e wa ⟨rfl, hba⟩
              clear e10 e11 e12 e13
              go_wp2_with fail
              refine (n2 _).mono ?_
              rintro e wb ⟨rfl, hbb⟩
              have g2 := (Bk.new wa 32 #[.int .i64 2, .complex .f64 0 0, .bool false, .slice none 0 0]).up hbb
              have g3 := (g1.up (Below.thn hba (below_alloc wa (.cells #[.int .i64 2, .complex .f64 0 0, .bool false, .slice none 0 0] 32)))).up hbb
              have e22 : wb.cell? ⟨wa.heap.size, 2, none⟩ = some (.bool false) := g2.cell 2
              have e32 : wb.cell? ⟨w5.heap.size, 2, none⟩ = some (.bool true) := g3.cell 2
              have hl2 := g2.lt
              have hl3 := g3.lt
              have bb := Below.thn B8 (Below.thn hB (Below.thn hba (Below.thn (below_alloc wa (.cells #[.int .i64 2, .complex .f64 0 0, .bool false, .slice none 0 0] 32)) (Below.thn hbb (below_alloc wb (.cells #[.int .i64 2, .complex .f64 0 0, .bool true, .slice none 0 0] 32))))))
              go_wp2
              go_ret
              exact ⟨rfl, bb⟩
        · go_loopw [97, 19] (fun i s wr => ((i = .int .i64 0 ∧ s = .int .i64 0) ∨ (i = .int .i64 1 ∧ s = .int .i64 0) ∨ (i = .int .i64 2 ∧ s = .int .i64 1) ∨ (i = .int .i64 3 ∧ s = .int .i64 1)) ∧ Below W8.heap.size W8 wr) (fun i _ _ => 3 - (intOf i).toNat)
          case atStart => exact ⟨.inl ⟨rfl, rfl⟩, Below.refl _ _⟩
          case round =>
            obtain ⟨hc, hB⟩ := hrel
            have hS := HSS.out.up hB
            have s0 : wr.cell? ⟨W7.heap.size, 0, none⟩ = some (.int .i64 2) := hS.cell 0
            have s1 : wr.cell? ⟨W7.heap.size, 1, none⟩ = some (.complex .f64 0 0) := hS.cell 1
            have s2 : wr.cell? ⟨W7.heap.size, 2, none⟩ = some (.bool false) := hS.cell 2
            have s3 : wr.cell? ⟨W7.heap.size, 3, none⟩ = some (.slice none 0 0) := hS.cell 3
            have s4 : wr.cell? ⟨W7.heap.size, 4, none⟩ = some (.int .i64 2) := hS.cell 4
            have s5 : wr.cell? ⟨W7.heap.size, 5, none⟩ = some (.complex .f64 0 0) := hS.cell 5
            have s6 : wr.cell? ⟨W7.heap.size, 6, none⟩ = some (.bool true) := hS.cell 6
            have s7 : wr.cell? ⟨W7.heap.size, 7, none⟩ = some (.slice none 0 0) := hS.cell 7
            have s8 : wr.cell? ⟨W7.heap.size, 8, none⟩ = some (.int .i64 2) := hS.cell 8
            have s9 : wr.cell? ⟨W7.heap.size, 9, none⟩ = some (.complex .f64 0 0) := hS.cell 9
            have s10 : wr.cell? ⟨W7.heap.size, 10, none⟩ = some (.bool false) := hS.cell 10
            have s11 : wr.cell? ⟨W7.heap.size, 11, none⟩ = some (.slice none 0 0) := hS.cell 11
            rcases hc with ⟨rfl, rfl⟩ | ⟨rfl, rfl⟩ | ⟨rfl, rfl⟩ | ⟨rfl, rfl⟩
            · go_wp2
              go_roundw
              case rel => exact ⟨.inr (.inl ⟨by go_num, by go_num⟩), Below.thn hB (below_alloc _ _)⟩
              case measure => simp [intOf]
            · go_wp2
              go_roundw
              case rel => exact ⟨.inr (.inr (.inl ⟨by go_num, by go_num⟩)), Below.thn hB (below_alloc _ _)⟩
              case measure => simp [intOf]
            · go_wp2
              go_roundw
              case rel => exact ⟨.inr (.inr (.inr ⟨by go_num, by go_num⟩)), Below.thn hB (below_alloc _ _)⟩
              case measure => simp [intOf]
            · have g1 := HG1.out.up hB
              have e10 : wr.cell? ⟨w5.heap.size, 0, none⟩ = some (.int .i64 2) := g1.cell 0
              have e11 : wr.cell? ⟨w5.heap.size, 1, none⟩ = some (.complex .f64 0 0) := g1.cell 1
              have e12 : wr.cell? ⟨w5.heap.size, 2, none⟩ = some (.bool false) := g1.cell 2
              have e13 : wr.cell? ⟨w5.heap.size, 3, none⟩ = some (.slice none 0 0) := g1.cell 3
              simp only [Bool.not_true, Bool.not_false] at n1 n2
              go_wp2_with fail
              refine (n1 _).mono ?_
              rintro e wa ⟨rfl, hba⟩
              clear e10 e11 e12 e13
              go_wp2_with fail
              refine (n2 _).mono ?_
              rintro e wb ⟨rfl, hbb⟩
              have g2 := (Bk.new wa 32 #[.int .i64 2, .complex .f64 0 0, .bool true, .slice none 0 0]).up hbb
              have g3 := (g1.up (Below.thn hba (below_alloc wa (.cells #[.int .i64 2, .complex .f64 0 0, .bool true, .slice none 0 0] 32)))).up hbb
              have e22 : wb.cell? ⟨wa.heap.size, 2, none⟩ = some (.bool true) := g2.cell 2
              have e32 : wb.cell? ⟨w5.heap.size, 2, none⟩ = some (.bool false) := g3.cell 2
              have hl2 := g2.lt
              have hl3 := g3.lt
              have bb := Below.thn B8 (Below.thn hB (Below.thn hba (Below.thn (below_alloc wa (.cells #[.int .i64 2, .complex .f64 0 0, .bool true, .slice none 0 0] 32)) (Below.thn hbb (below_alloc wb (.cells #[.int .i64 2, .complex .f64 0 0, .bool false, .slice none 0 0] 32))))))
              go_wp2
              go_ret
              exact ⟨rfl, bb⟩
        · go_loopw [97, 19] (fun i s wr => ((i = .int .i64 0 ∧ s = .int .i64 0) ∨ (i = .int .i64 1 ∧ s = .int .i64 0) ∨ (i = .int .i64 2 ∧ s = .int .i64 0) ∨ (i = .int .i64 3 ∧ s = .int .i64 1)) ∧ Below W8.heap.size W8 wr) (fun i _ _ => 3 - (intOf i).toNat)
          case atStart => exact ⟨.inl ⟨rfl, rfl⟩, Below.refl _ _⟩
          case round =>
            obtain ⟨hc, hB⟩ := hrel
            have hS := HSS.out.up hB
            have s0 : wr.cell? ⟨W7.heap.size, 0, none⟩ = some (.int .i64 2) := hS.cell 0
            have s1 : wr.cell? ⟨W7.heap.size, 1, none⟩ = some (.complex .f64 0 0) := hS.cell 1
            have s2 : wr.cell? ⟨W7.heap.size, 2, none⟩ = some (.bool false) := hS.cell 2
            have s3 : wr.cell? ⟨W7.heap.size, 3, none⟩ = some (.slice none 0 0) := hS.cell 3
            have s4 : wr.cell? ⟨W7.heap.size, 4, none⟩ = some (.int .i64 2) := hS.cell 4
            have s5 : wr.cell? ⟨W7.heap.size, 5, none⟩ = some (.complex .f64 0 0) := hS.cell 5
            have s6 : wr.cell? ⟨W7.heap.size, 6, none⟩ = some (.bool false) := hS.cell 6
            have s7 : wr.cell? ⟨W7.heap.size, 7, none⟩ = some (.slice none 0 0) := hS.cell 7
            have s8 : wr.cell? ⟨W7.heap.size, 8, none⟩ = some (.int .i64 2) := hS.cell 8
            have s9 : wr.cell? ⟨W7.heap.size, 9, none⟩ = some (.complex .f64 0 0) := hS.cell 9
            have s10 : wr.cell? ⟨W7.heap.size, 10, none⟩ = some (.bool true) := hS.cell 10
            have s11 : wr.cell? ⟨W7.heap.size, 11, none⟩ = some (.slice none 0 0) := hS.cell 11
            rcases hc with ⟨rfl, rfl⟩ | ⟨rfl, rfl⟩ | ⟨rfl, rfl⟩ | ⟨rfl, rfl⟩
            · go_wp2
              go_roundw
              case rel => exact ⟨.inr (.inl ⟨by go_num, by go_num⟩), Below.thn hB (below_alloc _ _)⟩
              case measure => simp [intOf]
            · go_wp2
              go_roundw
              case rel => exact ⟨.inr (.inr (.inl ⟨by go_num, by go_num⟩)), Below.thn hB (below_alloc _ _)⟩
              case measure => simp [intOf]
            · go_wp2
              go_roundw
              case rel => exact ⟨.inr (.inr (.inr ⟨by go_num, by go_num⟩)), Below.thn hB (below_alloc _ _)⟩
              case measure => simp [intOf]
            · have g1 := HG1.out.up hB
              have e10 : wr.cell? ⟨w5.heap.size, 0, none⟩ = some (.int .i64 2) := g1.cell 0
              have e11 : wr.cell? ⟨w5.heap.size, 1, none⟩ = some (.complex .f64 0 0) := g1.cell 1
              have e12 : wr.cell? ⟨w5.heap.size, 2, none⟩ = some (.bool false) := g1.cell 2
              have e13 : wr.cell? ⟨w5.heap.size, 3, none⟩ = some (.slice none 0 0) := g1.cell 3
              simp only [Bool.not_true, Bool.not_false] at n1 n2
              go_wp2_with fail
              refine (n1 _).mono ?_
              rintro e wa ⟨rfl, hba⟩
              clear e10 e11 e12 e13
              go_wp2_with fail
              refine (n2 _).mono ?_
              rintro e wb ⟨rfl, hbb⟩
              have g2 := (Bk.new wa 32 #[.int .i64 2, .complex .f64 0 0, .bool true, .slice none 0 0]).up hbb
              have g3 := (g1.up (Below.thn hba (below_alloc wa (.cells #[.int .i64 2, .complex .f64 0 0, .bool true, .slice none 0 0] 32)))).up hbb
              have e22 : wb.cell? ⟨wa.heap.size, 2, none⟩ = some (.bool true) := g2.cell 2
              have e32 : wb.cell? ⟨w5.heap.size, 2, none⟩ = some (.bool false) := g3.cell 2
              have hl2 := g2.lt
              have hl3 := g3.lt
              have bb := Below.thn B8 (Below.thn hB (Below.thn hba (Below.thn (below_alloc wa (.cells #[.int .i64 2, .complex .f64 0 0, .bool true, .slice none 0 0] 32)) (Below.thn hbb (below_alloc wb (.cells #[.int .i64 2, .complex .f64 0 0, .bool false, .slice none 0 0] 32))))))
              go_wp2
              go_ret
              exact ⟨rfl, bb⟩
    · have h3 : k = 0 ∨ k = 1 ∨ k = 2 := by omega
      have hg := HG.out.up hB
      have q0 : wr.cell? ⟨w3.heap.size, 0, none⟩ = some (.int .i64 8) := hg.cell 0
      have q1 : wr.cell? ⟨w3.heap.size, 1, none⟩ = some (.int .i64 10) := hg.cell 1
      have q2 : wr.cell? ⟨w3.heap.size, 2, none⟩ = some (.int .i64 12) := hg.cell 2
      clear t5 t6 t7 hk hk3 hg
      rcases h3 with rfl | rfl | rfl
      · obtain ⟨t, x, y, r, kk, a1, a2, a3⟩ := HO.out 8 (by omega)
        go_wp2_with fail
        refine (a1 _).mono ?_
        rintro e w5 ⟨rfl, hb5⟩
        go_wp2_with fail
        refine (a2 _).mono ?_
        rintro e w6 ⟨rfl, hb6⟩
        have g1 := (Bk.new w5 32 #[.int .i64 t, .complex .f64 x y, .bool r, .slice none 0 0]).up hb6
        have e10 : w6.cell? ⟨w5.heap.size, 0, none⟩ = some (.int .i64 t) := g1.cell 0
        have e11 : w6.cell? ⟨w5.heap.size, 1, none⟩ = some (.complex .f64 x y) := g1.cell 1
        have e12 : w6.cell? ⟨w5.heap.size, 2, none⟩ = some (.bool r) := g1.cell 2
        have e13 : w6.cell? ⟨w5.heap.size, 3, none⟩ = some (.slice none 0 0) := g1.cell 3
        have hl := g1.lt
        go_wp2_with fail
        refine (a3 _).mono ?_
        rintro e w7 ⟨rfl, hb7⟩
        go_wp2
        go_roundw
        case rel => exact ⟨1, by omega, by go_num, Below.thn hB (Below.thn hb5 (Below.thn (below_alloc _ _) (Below.thn hb6 (Below.thn (below_alloc _ _) hb7))))⟩
        case measure => simp [intOf]
      · obtain ⟨t, x, y, r, kk, a1, a2, a3⟩ := HO.out 10 (by omega)
        go_wp2_with fail
        refine (a1 _).mono ?_
        rintro e w5 ⟨rfl, hb5⟩
        go_wp2_with fail
        refine (a2 _).mono ?_
        rintro e w6 ⟨rfl, hb6⟩
        have g1 := (Bk.new w5 32 #[.int .i64 t, .complex .f64 x y, .bool r, .slice none 0 0]).up hb6
        have e10 : w6.cell? ⟨w5.heap.size, 0, none⟩ = some (.int .i64 t) := g1.cell 0
        have e11 : w6.cell? ⟨w5.heap.size, 1, none⟩ = some (.complex .f64 x y) := g1.cell 1
        have e12 : w6.cell? ⟨w5.heap.size, 2, none⟩ = some (.bool r) := g1.cell 2
        have e13 : w6.cell? ⟨w5.heap.size, 3, none⟩ = some (.slice none 0 0) := g1.cell 3
        have hl := g1.lt
        go_wp2_with fail
        refine (a3 _).mono ?_
        rintro e w7 ⟨rfl, hb7⟩
        go_wp2
        go_roundw
        case rel => exact ⟨2, by omega, by go_num, Below.thn hB (Below.thn hb5 (Below.thn (below_alloc _ _) (Below.thn hb6 (Below.thn (below_alloc _ _) hb7))))⟩
        case measure => simp [intOf]
      · obtain ⟨t, x, y, r, kk, a1, a2, a3⟩ := HO.out 12 (by omega)
        go_wp2_with fail
        refine (a1 _).mono ?_
        rintro e w5 ⟨rfl, hb5⟩
        go_wp2_with fail
        refine (a2 _).mono ?_
        rintro e w6 ⟨rfl, hb6⟩
        have g1 := (Bk.new w5 32 #[.int .i64 t, .complex .f64 x y, .bool r, .slice none 0 0]).up hb6
        have e10 : w6.cell? ⟨w5.heap.size, 0, none⟩ = some (.int .i64 t) := g1.cell 0
        have e11 : w6.cell? ⟨w5.heap.size, 1, none⟩ = some (.complex .f64 x y) := g1.cell 1
        have e12 : w6.cell? ⟨w5.heap.size, 2, none⟩ = some (.bool r) := g1.cell 2
        have e13 : w6.cell? ⟨w5.heap.size, 3, none⟩ = some (.slice none 0 0) := g1.cell 3
        have hl := g1.lt
        go_wp2_with fail
        refine (a3 _).mono ?_
        rintro e w7 ⟨rfl, hb7⟩
        go_wp2
        go_roundw
        case rel => exact ⟨3, by omega, by go_num, Below.thn hB (Below.thn hb5 (Below.thn (below_alloc _ _) (Below.thn hb6 (Below.thn (below_alloc _ _) hb7))))⟩
        case measure => simp [intOf]
end Go.Proofs.Ytebpjcjoapahnaa
