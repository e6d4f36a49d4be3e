/-
  The walk of GaussThree.
-/
import Derived.Test.YtmmcpganhfflmabDoorWc
import Derived.Test.YtmmcpganhfflmabDoorAl
namespace Go.Proofs.YtmmcpganhfflmabDoor
open Go.RowKit
open Ieee

set_option maxRecDepth 100000 in
set_option maxHeartbeats 1000000 in
theorem three_any (x1 y1 x2 y2 x3 y3 : Int) (r1 r2 r3 : Bool) (w : World) :
    Calls Tryd.prog 3 #[.agg #[.int .i64 x1, .int .i64 y1, .bool r1], .agg #[.int .i64 x2, .int .i64 y2, .bool r2], .agg #[.int .i64 x3, .int .i64 y3, .bool r3]] w fun e w' => e = .returned (.bool true) ∧ Below w.heap.size w w' := by
  have l1 := zb_lt r1 x1
  have l2 := zb_lt r1 y1
  have l3 := zb_lt r2 x2
  have l4 := zb_lt r2 y2
  have l5 := zb_lt r3 x3
  have l6 := zb_lt r3 y3
  go_enter Tryd.func3, Tryd.ntmps3
  go_wp2_with (go_at_call 5; refine (awake_any _).mono ?_; rintro e w' ⟨rfl, rfl⟩)
  refine (z_any _ _ _ _).mono ?_
  rintro e w' ⟨rfl, n1, rfl⟩
  go_wp2_with fail
  refine (z_any _ _ _ _).mono ?_
  rintro e w' ⟨rfl, n2, rfl⟩
  go_wp2_with fail
  refine (z_any _ _ _ _).mono ?_
  rintro e w' ⟨rfl, n3, rfl⟩
  have hB : Below w.heap.size w (((((((((w.alloc (.cells #[.int .i64 x1, .int .i64 y1, .bool r1] 23)).alloc (.cells #[.int .i64 x2, .int .i64 y2, .bool r2] 23)).alloc (.cells #[.int .i64 x3, .int .i64 y3, .bool r3] 23)).alloc
      (.cells #[.int .i64 x1, .int .i64 y1, .bool r1] 23)).drewN n1).alloc (.cells #[.int .i64 x2, .int .i64 y2, .bool r2] 23)).drewN n2).alloc (.cells #[.int .i64 x3, .int .i64 y3, .bool r3] 23)).drewN n3) := by
    refine below_drewN (Below.alloc (below_drewN (Below.alloc (below_drewN (Below.alloc (Below.alloc (Below.alloc (Below.alloc (Below.refl _ _) (Nat.le_refl _) _) ?_ _) ?_ _) ?_ _) _) ?_ _) _) ?_ _) _
    all_goals (simp; try omega)
  generalize (((((((((w.alloc (Obj.cells #[.int .i64 x1, .int .i64 y1, .bool r1] 23)).alloc (.cells #[.int .i64 x2, .int .i64 y2, .bool r2] 23)).alloc (.cells #[.int .i64 x3, .int .i64 y3, .bool r3] 23)).alloc
      (.cells #[.int .i64 x1, .int .i64 y1, .bool r1] 23)).drewN n1).alloc (.cells #[.int .i64 x2, .int .i64 y2, .bool r2] 23)).drewN n2).alloc (.cells #[.int .i64 x3, .int .i64 y3, .bool r3] 23)).drewN n3) = W at hB ⊢
  generalize zb r1 x1 = a at *
  generalize zb r1 y1 = b at *
  generalize zb r2 x2 = c at *
  generalize zb r2 y2 = d at *
  generalize zb r3 x3 = e at *
  generalize zb r3 y3 = f at *
  clear n1 n2 n3
  have cA := fun h1 h2 => (add_three (a := a) (b := b) (c := c) (d := d) (e := e) (f := f) h1 h2).1
  have cB := fun h1 h2 => (add_three (a := a) (b := b) (c := c) (d := d) (e := e) (f := f) h1 h2).2.1
  have cC := fun h1 h2 => (add_three (a := a) (b := b) (c := c) (d := d) (e := e) (f := f) h1 h2).2.2
  have dA := fun h1 h2 => (mul_three (a := a) (b := b) (c := c) (d := d) (e := e) (f := f) h1 h2).1
  have dB := fun h1 h2 => (mul_three (a := a) (b := b) (c := c) (d := d) (e := e) (f := f) h1 h2).2.1
  have dC := fun h1 h2 => (mul_three (a := a) (b := b) (c := c) (d := d) (e := e) (f := f) h1 h2).2.2
  have mA := fun h1 h2 h3 h4 => (mul_of_sum (a := a) (b := b) (c := c) (d := d) (e := e) (f := f) h1 h2 h3 h4).1
  have mB := fun h1 h2 h3 h4 => (mul_of_sum (a := a) (b := b) (c := c) (d := d) (e := e) (f := f) h1 h2 h3 h4).2.1
  have mC := fun h1 h2 h3 h4 => (mul_of_sum (a := a) (b := b) (c := c) (d := d) (e := e) (f := f) h1 h2 h3 h4).2.2
  have sr := same_refl
  go_wp2_with (first
    | (go_at_call 7; refine (add_any _ _ _ _ _ (by first | assumption | exact opR_lt _ _ _ _ _ _) (by first | assumption | exact opI_lt _ _ _ _ _ _) (by first | assumption | exact opR_lt _ _ _ _ _ _) (by first | assumption | exact opI_lt _ _ _ _ _ _)).mono ?_; rintro _ w' ⟨rfl, rfl⟩; unfold opAns)
    | (go_at_call 9; refine (mul_any _ _ _ _ _ (by first | assumption | exact opR_lt _ _ _ _ _ _) (by first | assumption | exact opI_lt _ _ _ _ _ _) (by first | assumption | exact opR_lt _ _ _ _ _ _) (by first | assumption | exact opI_lt _ _ _ _ _ _)).mono ?_; rintro _ w' ⟨rfl, rfl⟩; unfold opAns)
    | (go_at_call 8; refine (bits_any _ _ _ _ _).mono ?_; rintro _ w' ⟨rfl, rfl⟩))
  all_goals (go_ret; refine ⟨ret_bool ?_, hB⟩)
  all_goals first | with_reducible rfl | (clear hB l1 l2 l3 l4 l5 l6; simp_all; done)
end Go.Proofs.YtmmcpganhfflmabDoor
