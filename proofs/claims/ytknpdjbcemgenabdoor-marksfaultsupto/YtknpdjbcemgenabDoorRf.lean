/-
  The walks of the document's answers: a number of a float, sums, products, quotients, the order.
-/
import Derived.Test.YtknpdjbcemgenabDoorFr
import Derived.Test.YtknpdjbcemgenabDoorWc
namespace Go.Proofs.YtknpdjbcemgenabDoor
open Go.RowKit
open Ieee

theorem bcell {W w1 : World} (hb : Below W.heap.size W w1) : (∀ b o, b < W.heap.size → w1.cell? ⟨b, o, none⟩ = W.cell? ⟨b, o, none⟩) ∧ (∀ b o, b < W.heap.size → w1.frozen? ⟨b, o, none⟩ = W.frozen? ⟨b, o, none⟩) :=
  ⟨fun b o h => hb.cell (p := ⟨b, o, none⟩) h, fun b o h => hb.frozen (p := ⟨b, o, none⟩) h⟩

/-- The parts that Of tells. -/
def ofX (a b : Nat) : Int := if vc a b then nb a else 0
def ofY (a b : Nat) : Int := if vc a b then nb b else 0

/-- What the document answers of a number that may be too great. -/
def inX (x y : Int) : Int := if okC x y then x else 0
def inY (x y : Int) : Int := if okC x y then y else 0

set_option maxHeartbeats 400000 in
theorem parts_no (a b : Nat) (w : World) (ha : a < 2 ^ 64) (hb : b < 2 ^ 64) (hv : vc a b = false) :
    Calls Tryd.prog 23 #[.complex .f64 a b] w fun e w' => e = .returned (.tuple #[.int .i64 0, .int .i64 0, .int .i64 3]) ∧ w' = w := by
  go_enter Tryd.func23, Tryd.ntmps23
  go_wp2_with (go_at_call 36; refine (valid_vc _ _ _ (by assumption) (by assumption)).mono ?_; rintro e w' ⟨rfl, rfl⟩)
  go_ret3
  exact ⟨rfl, rfl⟩

theorem parts_w (a b : Nat) (w : World) (hv : vc a b = true) :
    Calls Tryd.prog 23 #[.complex .f64 a b] w fun e w' => e = .returned (.tuple #[.int .i64 (nb a), .int .i64 (nb b), .int .i64 0]) ∧ w' = w := by
  obtain ⟨va, vb⟩ := vc_parts hv
  obtain ⟨b1, e1⟩ := vp_true va
  obtain ⟨b2, e2⟩ := vp_true vb
  have := parts_any (nb a) (nb b) w b1 b2
  rwa [← e1, ← e2] at this

theorem bal {w w1 : World} {o : Obj} (h : Below w.heap.size w w1) : Below w.heap.size w (w1.alloc o) := h.alloc h.size o

end Go.Proofs.YtknpdjbcemgenabDoor
