/-
  The walk of GaussOrder.
-/
import Derived.Test.YtmmcpganhfflmaaDoorWc
import Derived.Test.YtmmcpganhfflmaaDoorWd
namespace Go.Proofs.YtmmcpganhfflmaaDoor
open Go.RowKit
open Ieee

/-- Of two numbers just one of three holds; and what follows for a third. -/
theorem order_cases {a b c d e f : Nat} (v1 : vc a b = true) (v2 : vc c d = true) :
    (ltW a b c d = true ∧ ltW c d a b = false ∧ ltW c d e f = false ∧ ((FloatKind.f64.format.order a c == some .eq) && (FloatKind.f64.format.order b d == some .eq)) = false) ∨
    (ltW a b c d = true ∧ ltW c d a b = false ∧ ltW c d e f = true ∧ ltW a b e f = true ∧ ((FloatKind.f64.format.order a c == some .eq) && (FloatKind.f64.format.order b d == some .eq)) = false) ∨
    (ltW a b c d = false ∧ ltW c d a b = false ∧ ((FloatKind.f64.format.order a c == some .eq) && (FloatKind.f64.format.order b d == some .eq)) = true) ∨
    (ltW a b c d = false ∧ ltW c d a b = true ∧ ((FloatKind.f64.format.order a c == some .eq) && (FloatKind.f64.format.order b d == some .eq)) = false) := by
  obtain ⟨va, vb⟩ := vc_parts v1
  obtain ⟨vcc, vd⟩ := vc_parts v2
  obtain ⟨ra, ba⟩ := vp_rep va
  obtain ⟨rb, bb⟩ := vp_rep vb
  obtain ⟨rc, bc⟩ := vp_rep vcc
  obtain ⟨rd, bd⟩ := vp_rep vd
  rw [eqB_rep ra rc, eqB_rep rb rd, ← Bool.decide_and]
  unfold ltW
  simp only [decide_eq_true_eq, decide_eq_false_iff_not]
  omega

set_option maxRecDepth 100000 in
set_option maxHeartbeats 2000000 in
theorem order_any (x1 y1 : Int) (r1 : Bool) (x2 y2 : Int) (r2 : Bool) (x3 y3 : Int) (r3 : Bool) (w : World) :
    Calls Tryd.prog 8 #[.agg #[.int .i64 x1, .int .i64 y1, .bool r1], .agg #[.int .i64 x2, .int .i64 y2, .bool r2], .agg #[.int .i64 x3, .int .i64 y3, .bool r3]] w fun e w' => e = .returned (.bool true) ∧ Below w.heap.size w w' := by
  have l1 := zb_lt r1 x1
  have l2 := zb_lt r1 y1
  have l3 := zb_lt r2 x2
  have l4 := zb_lt r2 y2
  have l5 := zb_lt r3 x3
  have l6 := zb_lt r3 y3
  go_enter Tryd.func8, Tryd.ntmps8
  go_wp2_with (go_at_call 9; refine (awake_any _).mono ?_; rintro e w' ⟨rfl, rfl⟩)
  refine (z_any _ _ _ _).mono ?_
  rintro e w' ⟨rfl, n1, rfl⟩
  go_wp2_with fail
  refine (z_any _ _ _ _).mono ?_
  rintro e w' ⟨rfl, n2, rfl⟩
  go_wp2_with fail
  refine (z_any _ _ _ _).mono ?_
  rintro e w' ⟨rfl, n3, rfl⟩
  have hB : Below w.heap.size w (((((((((w.alloc (.cells #[.int .i64 x1, .int .i64 y1, .bool r1] 23)).alloc (.cells #[.int .i64 x2, .int .i64 y2, .bool r2] 23)).alloc (.cells #[.int .i64 x3, .int .i64 y3, .bool r3] 23)).alloc
      (.cells #[.int .i64 x1, .int .i64 y1, .bool r1] 23)).drewN n1).alloc (.cells #[.int .i64 x2, .int .i64 y2, .bool r2] 23)).drewN n2).alloc (.cells #[.int .i64 x3, .int .i64 y3, .bool r3] 23)).drewN n3) := by
    refine below_drewN (Below.alloc (below_drewN (Below.alloc (below_drewN (Below.alloc (Below.alloc (Below.alloc (Below.alloc (Below.refl _ _) (Nat.le_refl _) _) ?_ _) ?_ _) ?_ _) _) ?_ _) _) ?_ _) _
    all_goals (simp; try omega)
  generalize (((((((((w.alloc (Obj.cells #[.int .i64 x1, .int .i64 y1, .bool r1] 23)).alloc (.cells #[.int .i64 x2, .int .i64 y2, .bool r2] 23)).alloc (.cells #[.int .i64 x3, .int .i64 y3, .bool r3] 23)).alloc
      (.cells #[.int .i64 x1, .int .i64 y1, .bool r1] 23)).drewN n1).alloc (.cells #[.int .i64 x2, .int .i64 y2, .bool r2] 23)).drewN n2).alloc (.cells #[.int .i64 x3, .int .i64 y3, .bool r3] 23)).drewN n3) = W at hB ⊢
  generalize zb r1 x1 = a at *
  generalize zb r1 y1 = b at *
  generalize zb r2 x2 = c at *
  generalize zb r2 y2 = d at *
  generalize zb r3 x3 = e at *
  generalize zb r3 y3 = f at *
  clear n1 n2 n3
  by_cases v1 : vc a b = true
  · by_cases v2 : vc c d = true
    · by_cases v3 : vc e f = true
      · have hx := order_cases (e := e) (f := f) v1 v2
        obtain ⟨eA, eR, eI⟩ := add_comm (a := a) (b := b) (c := c) (d := d)
        obtain ⟨fA, fR, fI⟩ := mul_comm (a := a) (b := b) (c := c) (d := d)
        obtain ⟨g1, g2⟩ := mul_conj v1 v2
        have g3 := fun h => (g2 h).1
        have g4 := fun h => (g2 h).2
        clear g2
        obtain ⟨va, vb⟩ := vc_parts v1
        obtain ⟨vcc, vd⟩ := vc_parts v2
        obtain ⟨b1, _, b3, b4⟩ := cj_facts vb
        obtain ⟨d1, _, d3, d4⟩ := cj_facts vd
        have v4 : vc a (cj b) = true := by unfold vc; rw [va, b1]; rfl
        clear va vb vcc vd b1 d1 d3
        have sr := same_refl
        rcases hx with ⟨h1, h2, h3, h4⟩ | ⟨h1, h2, h3, h4, h5⟩ | ⟨h1, h2, h3⟩ | ⟨h1, h2, h3⟩
        all_goals
          go_wp2_with (first
            | (go_at_call 15; refine (valid_vc _ _ _ (by assumption) (by assumption)).mono ?_; rintro _ w' ⟨rfl, rfl⟩)
            | (go_at_call 26; refine (less_yes _ _ _ _ _ (by assumption) (by assumption)).mono ?_; rintro _ w' ⟨rfl, rfl⟩)
            | (go_at_call 25; refine (conj_yes _ _ _ (by first | assumption | exact op_vc _ _ _ _ _ _)).mono ?_; rintro _ w' ⟨rfl, rfl⟩)
            | (go_at_call 16; refine (add_any _ _ _ _ _ (by assumption) (by assumption) (by assumption) (by assumption)).mono ?_; rintro _ w' ⟨rfl, rfl⟩; unfold opAns)
            | (go_at_call 18; refine (mul_any _ _ _ _ _ (by assumption) (by assumption) (by assumption) (by assumption)).mono ?_; rintro _ w' ⟨rfl, rfl⟩; unfold opAns)
            | (go_at_call 11; refine (bits_any _ _ _ _ _).mono ?_; rintro _ w' ⟨rfl, rfl⟩))
        all_goals (go_ret; refine ⟨ret_bool ?_, hB⟩)
        all_goals first | with_reducible rfl | (clear hB l1 l2 l3 l4 l5 l6; simp_all; done)
      · have v3' : vc e f = false := by simpa using v3
        clear v3
        go_wp2_with (go_at_call 15; refine (valid_vc _ _ _ (by assumption) (by assumption)).mono ?_; rintro _ w' ⟨rfl, rfl⟩)
        go_ret
        exact ⟨rfl, hB⟩
    · have v2' : vc c d = false := by simpa using v2
      clear v2
      go_wp2_with (go_at_call 15; refine (valid_vc _ _ _ (by assumption) (by assumption)).mono ?_; rintro _ w' ⟨rfl, rfl⟩)
      go_ret
      exact ⟨rfl, hB⟩
  · have v1' : vc a b = false := by simpa using v1
    clear v1
    go_wp2_with (go_at_call 15; refine (valid_vc _ _ _ (by assumption) (by assumption)).mono ?_; rintro _ w' ⟨rfl, rfl⟩)
    go_ret
    exact ⟨rfl, hB⟩
end Go.Proofs.YtmmcpganhfflmaaDoor
