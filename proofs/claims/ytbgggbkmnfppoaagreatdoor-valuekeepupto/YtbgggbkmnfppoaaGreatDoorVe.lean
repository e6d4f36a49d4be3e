/-
  A value's four cells; the walks of Same, and of the document's Valid, Same, Whole.
-/
import Derived.Test.YtbgggbkmnfppoaaGreatDoorVd
namespace Go.Proofs.YtbgggbkmnfppoaaGreatDoor
open Go.RowKit
open Go.Lib
set_option maxRecDepth 100000

/-- A value's cells at this place. -/
structure V4 (w : World) (b o : Nat) (ao : Option Addr) (cap : Nat) (v : Rv) : Prop where
  c0 : w.cell? ⟨b, o, none⟩ = some (.int .i64 v.t)
  c1 : w.cell? ⟨b, o + 1, none⟩ = some (.complex .f64 v.z.1 v.z.2)
  c2 : w.cell? ⟨b, o + 2, none⟩ = some (.bool v.r)
  c3 : w.cell? ⟨b, o + 3, none⟩ = some (.slice ao v.zs.length cap)

theorem V4.to {w w' : World} {b o B : Nat} {ao : Option Addr} {cap : Nat} {v : Rv} (h : V4 w b o ao cap v) (hl : b < B) (hb : Below B w w') : V4 w' b o ao cap v :=
  ⟨(hb.cell hl).trans h.c0, (hb.cell hl).trans h.c1, (hb.cell hl).trans h.c2, (hb.cell hl).trans h.c3⟩
theorem V4.lt {w : World} {b o : Nat} {ao : Option Addr} {cap : Nat} {v : Rv} (h : V4 w b o ao cap v) : b < w.heap.size := cell_lt h.c0
theorem V4.up {w w' : World} {b o : Nat} {ao : Option Addr} {cap : Nat} {v : Rv} (h : V4 w b o ao cap v) (hb : Below w.heap.size w w') : V4 w' b o ao cap v := h.to h.lt hb
def vObj (ao : Option Addr) (cap : Nat) (v : Rv) : Obj := .cells #[.int .i64 v.t, .complex .f64 v.z.1 v.z.2, .bool v.r, .slice ao v.zs.length cap] 35
theorem V4.new (w : World) (ao : Option Addr) (cap : Nat) (v : Rv) : V4 (w.alloc (vObj ao cap v)) w.heap.size 0 ao cap v := by
  have h := fun j => cell_of_row (w.alloc (vObj ao cap v)) w.heap.size j _ _ _ (heap_alloc_new w _)
  exact ⟨by rw [h]; rfl, by rw [h]; rfl, by rw [h]; rfl, by rw [h]; rfl⟩

theorem sound_vc {v : Rv} (h : soundV v = true) : vc v.z.1 v.z.2 = true ∧ allV v.zs = true := by
  obtain ⟨u, hu, rfl⟩ := sound_is h
  cases u with
  | n z => exact ⟨vc_wz hu, rfl⟩
  | b r => exact ⟨vc_zero, rfl⟩
  | l zs =>
    refine ⟨vc_zero, ?_⟩
    simp only [ofV]
    unfold allV
    rw [List.all_eq_true]
    intro z hz
    obtain ⟨y, hy, rfl⟩ := List.mem_map.1 hz
    exact vc_wz (hu y hy)

/-- A value that is handed on: its words fit, and its elements are read. -/
structure Vr (w : World) (ao : Option Addr) (v : Rv) : Prop where
  z : ltZ v.z
  l : Zr w ao v.zs
  n : v.zs.length ≤ 5864062014806
theorem Vr.up {w w' : World} {ao : Option Addr} {v : Rv} (h : Vr w ao v) (hb : Below w.heap.size w w') : Vr w' ao v := ⟨h.z, h.l.up hb, h.n⟩
theorem Vr.alloc {w : World} {ao : Option Addr} {v : Rv} (h : Vr w ao v) (o : Obj) : Vr (w.alloc o) ao v := ⟨h.z, h.l.alloc o, h.n⟩

theorem sameV_ne {v u : Rv} (h : v ≠ u) : sameV v u = false := by unfold sameV; rw [decide_eq_false h, Bool.and_false]

set_option maxHeartbeats 1000000 in
theorem same_any (v u : Rv) (a1 a2 : Option Addr) (c1 c2 : Nat) (w : World) (h1 : Vr w a1 v) (h2 : Vr w a2 u) :
    Calls Tryz.prog 14 #[vV a1 c1 v, vV a2 c2 u] w fun e w' => e = .returned (.bool (sameV v u)) ∧ Below w.heap.size w w' := by
  have k1 := (h1.alloc (vObj a1 c1 v)).alloc (vObj a2 c2 u)
  have k2 := (h2.alloc (vObj a1 c1 v)).alloc (vObj a2 c2 u)
  have b0 := Below.thn (below_alloc w (vObj a1 c1 v)) (below_alloc _ (vObj a2 c2 u))
  have m1 := (V4.new w a1 c1 v).up (below_alloc _ (vObj a2 c2 u))
  have m2 := V4.new (w.alloc (vObj a1 c1 v)) a2 c2 u
  have hsz : (w.alloc (vObj a1 c1 v)).heap.size = w.heap.size + 1 := by simp
  rw [hsz] at m2
  have s1 := sound_any v a1 c1 _ k1.z k1.l k1.n
  obtain ⟨N, hN⟩ : ∃ N, Hid (N = sameV v u) := ⟨_, rfl⟩
  rw [← hN.out]
  unfold vV vObj at *
  clear hsz
  cases hv : soundV v with
  | false =>
    rw [hv] at s1
    have : N = false := by rw [hN.out]; unfold sameV; rw [hv]; rfl
    subst this
    clear h1 h2 k1 k2
    go_enter Tryz.func14, Tryz.ntmps14
    go_wp2_with fail
    refine s1.mono ?_
    rintro e w1 ⟨rfl, hb1⟩
    go_wp2
    go_ret
    exact ⟨rfl, Below.thn b0 hb1⟩
  | true =>
    rw [hv] at s1
    go_enter Tryz.func14, Tryz.ntmps14
    go_wp2_with fail
    refine s1.mono ?_
    rintro e w1 ⟨rfl, hb1⟩
    replace m1 := m1.up hb1
    replace m2 := m2.up hb1
    replace k1 := k1.up hb1
    replace k2 := k2.up hb1
    replace b0 := Below.thn b0 hb1
    have s2 := sound_any u a2 c2 _ k2.z k2.l k2.n
    unfold vV at s2
    clear s1 h1 h2 hb1
    obtain ⟨q1, q2, q3, q4⟩ := m2
    simp only [Nat.zero_add] at q2 q3 q4
    cases hu : soundV u with
    | false =>
      rw [hu] at s2
      have : N = false := by rw [hN.out]; unfold sameV; rw [hu, Bool.and_false]; rfl
      subst this
      clear k1 k2 m1
      go_wp2_with fail
      refine s2.mono ?_
      rintro e w2 ⟨rfl, hb2⟩
      go_wp2
      go_ret
      exact ⟨rfl, Below.thn b0 hb2⟩
    | true =>
      rw [hu] at s2
      go_wp2_with fail
      refine s2.mono ?_
      rintro e w2 ⟨rfl, hb2⟩
      obtain ⟨p1, p2, p3, p4⟩ := m1.up hb2
      replace m2 := (show V4 w1 (w.heap.size + 1) 0 a2 c2 u from ⟨q1, q2, q3, q4⟩).up hb2
      clear q1 q2 q3 q4
      obtain ⟨q1, q2, q3, q4⟩ := m2
      have e0 := equal_any a1 a2 c1 c2 v.zs u.zs _ (k1.up hb2).l (k2.up hb2).l k1.n
      replace b0 := Below.thn b0 hb2
      obtain ⟨vz, va⟩ := sound_vc hv
      obtain ⟨uz, ua⟩ := sound_vc hu
      rw [eqZ_eq va ua] at e0
      have fz := feW_vc vz uz
      unfold feW Op.floatEq at fz
      have key : Hid (N = decide (v = u)) := by show _ = _; rw [hN.out]; unfold sameV; rw [hv, hu]; rfl
      clear hN k1 k2 s2 hb2 m1 va ua vz uz hv hu
      obtain ⟨t1, ⟨x1, y1⟩, r1, zs1⟩ := v
      obtain ⟨t2, ⟨x2, y2⟩, r2, zs2⟩ := u
      simp only [Nat.zero_add] at *
      go_wp2_with (go_at_call 28; refine e0.mono ?_; rintro e w3 ⟨rfl, hb3⟩)
      all_goals
        go_ret
        refine ⟨ret_bool ?_, by first | exact b0 | exact Below.thn b0 hb3⟩
        rw [key.out]
        simp_all
end Go.Proofs.YtbgggbkmnfppoaaGreatDoor
