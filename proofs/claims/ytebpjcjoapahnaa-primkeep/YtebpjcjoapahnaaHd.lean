/-
  What a law of two arguments holds in memory while it runs: the two boxes and the two numbers that the document makes of them.
-/
import Derived.Test.YtebpjcjoapahnaaRf
namespace Go.Proofs.Ytebpjcjoapahnaa
open Go.RowKit
open Ieee

/-- A box of type Num, and a number of the document's. -/
abbrev Bx (x y : Int) (r : Bool) : Obj := .cells #[.int .i64 x, .int .i64 y, .bool r] 34
abbrev Nm (p q : Int) : Obj := .cells #[.int .i64 p, .int .i64 q] 68

/-- What lies in memory. -/
def Held (W : World) (s : Nat) (x1 y1 : Int) (r1 : Bool) (x2 y2 : Int) (r2 : Bool) (p1 q1 p2 q2 : Int) : Prop :=
  (W.cell? ⟨s, 0, none⟩ = some (.int .i64 x1) ∧ W.cell? ⟨s, 1, none⟩ = some (.int .i64 y1) ∧ W.cell? ⟨s, 2, none⟩ = some (.bool r1)) ∧
  (W.cell? ⟨s + 1, 0, none⟩ = some (.int .i64 x2) ∧ W.cell? ⟨s + 1, 1, none⟩ = some (.int .i64 y2) ∧ W.cell? ⟨s + 1, 2, none⟩ = some (.bool r2)) ∧
  (W.cell? ⟨s + 1 + 1 + 1 + 1, 0, none⟩ = some (.int .i64 p1) ∧ W.cell? ⟨s + 1 + 1 + 1 + 1, 1, none⟩ = some (.int .i64 q1)) ∧
  (W.cell? ⟨s + 1 + 1 + 1 + 1 + 1 + 1 + 1, 0, none⟩ = some (.int .i64 p2) ∧ W.cell? ⟨s + 1 + 1 + 1 + 1 + 1 + 1 + 1, 1, none⟩ = some (.int .i64 q2))

theorem held_size {W : World} {s : Nat} {x1 y1 : Int} {r1 : Bool} {x2 y2 : Int} {r2 : Bool} {p1 q1 p2 q2 : Int} (h : Held W s x1 y1 r1 x2 y2 r2 p1 q1 p2 q2) : s + 7 < W.heap.size := by
  have := World.block_lt_of_cell? (a := ⟨s + 1 + 1 + 1 + 1 + 1 + 1 + 1, 0, none⟩) W h.2.2.2.1
  simp at this
  omega

theorem held_below {W W' : World} {s : Nat} {x1 y1 : Int} {r1 : Bool} {x2 y2 : Int} {r2 : Bool} {p1 q1 p2 q2 : Int} (h : Held W s x1 y1 r1 x2 y2 r2 p1 q1 p2 q2) (hb : Below W.heap.size W W') : Held W' s x1 y1 r1 x2 y2 r2 p1 q1 p2 q2 := by
  have hs := held_size h
  have hc : ∀ b o, b ≤ s + 7 → W'.cell? ⟨b, o, none⟩ = W.cell? ⟨b, o, none⟩ := fun b o hbo => hb.cell (p := ⟨b, o, none⟩) (by simp; omega)
  unfold Held at h ⊢
  rw [hc s 0 (by omega), hc s 1 (by omega), hc s 2 (by omega), hc (s + 1) 0 (by omega), hc (s + 1) 1 (by omega), hc (s + 1) 2 (by omega), hc (s + 1 + 1 + 1 + 1) 0 (by omega), hc (s + 1 + 1 + 1 + 1) 1 (by omega), hc (s + 1 + 1 + 1 + 1 + 1 + 1 + 1) 0 (by omega), hc (s + 1 + 1 + 1 + 1 + 1 + 1 + 1) 1 (by omega)]
  exact h

/-- The world behind the law's first four calls. -/
abbrev firstW (w : World) (n1 n2 : Nat) (x1 y1 : Int) (r1 : Bool) (x2 y2 : Int) (r2 : Bool) (p1 q1 p2 q2 : Int) : World :=
  (((((((((w.alloc (Bx x1 y1 r1)).alloc (Bx x2 y2 r2)).alloc (Bx x1 y1 r1)).drewN n1).alloc (Nm p1 q1)).alloc (Nm p1 q1)).alloc (Bx x2 y2 r2)).drewN n2).alloc (Nm p2 q2)).alloc (Nm p2 q2)

theorem first_below (w : World) (n1 n2 : Nat) (x1 y1 : Int) (r1 : Bool) (x2 y2 : Int) (r2 : Bool) (p1 q1 p2 q2 : Int) : Below w.heap.size w (firstW w n1 n2 x1 y1 r1 x2 y2 r2 p1 q1 p2 q2) :=
  bal (bal (below_drewN (bal (bal (bal (below_drewN (bal (bal (bal (Below.refl _ _)))) _)))) _))

theorem first_held (w : World) (n1 n2 : Nat) (x1 y1 : Int) (r1 : Bool) (x2 y2 : Int) (r2 : Bool) (p1 q1 p2 q2 : Int) : Held (firstW w n1 n2 x1 y1 r1 x2 y2 r2 p1 q1 p2 q2) w.heap.size x1 y1 r1 x2 y2 r2 p1 q1 p2 q2 := by
  unfold Held
  refine ⟨⟨?_, ?_, ?_⟩, ⟨?_, ?_, ?_⟩, ⟨?_, ?_⟩, ?_, ?_⟩ <;> go_simp

theorem keep {W W' : World} {b o : Nat} {v : Value} (hb : Below W.heap.size W W') (h : W.cell? ⟨b, o, none⟩ = some v) : W'.cell? ⟨b, o, none⟩ = some v := by
  have hlt := World.block_lt_of_cell? (a := ⟨b, o, none⟩) W h
  rw [hb.cell (p := ⟨b, o, none⟩) hlt]; exact h

/-- What the document answers, in the words of the code's answer. -/
theorem op_told {X Y : Int → Int → Int → Int → Int} {a b c d : Nat} (h : valid4 a b c d = true) {x y : Int} (hx : X (nb a) (nb b) (nb c) (nb d) = x) (hy : Y (nb a) (nb b) (nb c) (nb d) = y) :
    opE X Y a b c d = ansE x y ∧ opR X Y a b c d = fl (inX x y) ∧ opI X Y a b c d = fl (inY x y) := by
  have e : opE X Y a b c d = ansE x y := by unfold opE ansE; rw [h, hx, hy]; rfl
  refine ⟨e, ?_, ?_⟩
  · unfold opR inX; rw [e, hx]; unfold ansE
    cases okC x y <;> rfl
  · unfold opI inY; rw [e, hy]; unfold ansE
    cases okC x y <;> rfl

theorem op_bad {X Y : Int → Int → Int → Int → Int} {a b c d : Nat} (h : valid4 a b c d = false) : opE X Y a b c d = 3 ∧ opR X Y a b c d = 0 ∧ opI X Y a b c d = 0 := by
  have e : opE X Y a b c d = 3 := by unfold opE; rw [h]; rfl
  exact ⟨e, by unfold opR; rw [e]; rfl, by unfold opI; rw [e]; rfl⟩

theorem refadd_w (a b c d : Nat) (w : World) (h : valid4 a b c d = true) :
    Calls Try.prog 36 #[.agg #[.int .i64 (nb a), .int .i64 (nb b)], .agg #[.int .i64 (nb c), .int .i64 (nb d)]] w fun e w' => ∃ U V E : Int, Hid (opE addX addY a b c d = E ∧ opR addX addY a b c d = fl U ∧ opI addX addY a b c d = fl V) ∧ e = .returned (.tuple #[.agg #[.int .i64 U, .int .i64 V], .int .i64 E]) ∧ Below w.heap.size w w' := by
  obtain ⟨va, vb, vcc, vd⟩ := valid4_parts h
  refine (refadd_any (nb a) (nb b) (nb c) (nb d) w (vp_true va).1 (vp_true vb).1 (vp_true vcc).1 (vp_true vd).1).mono ?_
  rintro e w' ⟨rfl, hb⟩
  exact ⟨_, _, _, op_told h rfl rfl, rfl, hb⟩

theorem refsub_w (a b c d : Nat) (w : World) (h : valid4 a b c d = true) :
    Calls Try.prog 37 #[.agg #[.int .i64 (nb a), .int .i64 (nb b)], .agg #[.int .i64 (nb c), .int .i64 (nb d)]] w fun e w' => ∃ U V E : Int, Hid (opE subX subY a b c d = E ∧ opR subX subY a b c d = fl U ∧ opI subX subY a b c d = fl V) ∧ e = .returned (.tuple #[.agg #[.int .i64 U, .int .i64 V], .int .i64 E]) ∧ Below w.heap.size w w' := by
  obtain ⟨va, vb, vcc, vd⟩ := valid4_parts h
  refine (refsub_any (nb a) (nb b) (nb c) (nb d) w (vp_true va).1 (vp_true vb).1 (vp_true vcc).1 (vp_true vd).1).mono ?_
  rintro e w' ⟨rfl, hb⟩
  exact ⟨_, _, _, op_told h rfl rfl, rfl, hb⟩

theorem refmul_w (a b c d : Nat) (w : World) (h : valid4 a b c d = true) :
    Calls Try.prog 38 #[.agg #[.int .i64 (nb a), .int .i64 (nb b)], .agg #[.int .i64 (nb c), .int .i64 (nb d)]] w fun e w' => ∃ U V E : Int, Hid (opE mulX mulY a b c d = E ∧ opR mulX mulY a b c d = fl U ∧ opI mulX mulY a b c d = fl V) ∧ e = .returned (.tuple #[.agg #[.int .i64 U, .int .i64 V], .int .i64 E]) ∧ Below w.heap.size w w' := by
  obtain ⟨va, vb, vcc, vd⟩ := valid4_parts h
  refine (refmul_any (nb a) (nb b) (nb c) (nb d) w (vp_true va).1 (vp_true vb).1 (vp_true vcc).1 (vp_true vd).1).mono ?_
  rintro e w' ⟨rfl, hb⟩
  exact ⟨_, _, _, op_told h rfl rfl, rfl, hb⟩

theorem of_valid {a b : Nat} (h : vc a b = true) : ofX a b = nb a ∧ ofY a b = nb b := by
  unfold ofX ofY; rw [h]; exact ⟨rfl, rfl⟩
end Go.Proofs.Ytebpjcjoapahnaa
