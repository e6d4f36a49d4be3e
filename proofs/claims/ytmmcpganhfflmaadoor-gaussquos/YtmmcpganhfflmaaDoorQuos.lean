/-
  The walk of GaussQuos.
-/
import Derived.Test.YtmmcpganhfflmaaDoorRq
import Derived.Deep.RegionWith
import Derived.Deep.DeepCutAuto
namespace Go.Proofs.YtmmcpganhfflmaaDoor
open Go.RowKit
open Ieee

set_option maxRecDepth 100000 in
set_option maxHeartbeats 2000000 in
theorem quos_any (x1 y1 : Int) (r1 : Bool) (x2 y2 : Int) (r2 : Bool) (w : World) :
    Calls Tryd.prog 5 #[.agg #[.int .i64 x1, .int .i64 y1, .bool r1], .agg #[.int .i64 x2, .int .i64 y2, .bool r2]] w fun e w' => e = .returned (.bool true) ∧ Below w.heap.size w w' := by
  have l1 := zb_lt r1 x1
  have l2 := zb_lt r1 y1
  have l3 := zb_lt r2 x2
  have l4 := zb_lt r2 y2
  go_enter Tryd.func5, Tryd.ntmps5
  go_wp2_with (go_at_call 9; refine (awake_any _).mono ?_; rintro e w' ⟨rfl, rfl⟩)
  refine (z_any _ _ _ _).mono ?_
  rintro e w' ⟨rfl, n1, rfl⟩
  go_wp2_with fail
  refine (of_any _ _ _ l1 l2).mono ?_
  rintro e w' ⟨rfl, rfl⟩
  go_wp2_with fail
  refine (z_any _ _ _ _).mono ?_
  rintro e w' ⟨rfl, n2, rfl⟩
  go_wp2_with fail
  refine (of_any _ _ _ l3 l4).mono ?_
  rintro e w' ⟨rfl, rfl⟩
  go_upto_region 5 with fail
  have hB := first_below w n1 n2 x1 y1 r1 x2 y2 r2 (ofX (zb r1 x1) (zb r1 y1)) (ofY (zb r1 x1) (zb r1 y1)) (ofX (zb r2 x2) (zb r2 y2)) (ofY (zb r2 x2) (zb r2 y2))
  have hH := first_held w n1 n2 x1 y1 r1 x2 y2 r2 (ofX (zb r1 x1) (zb r1 y1)) (ofY (zb r1 x1) (zb r1 y1)) (ofX (zb r2 x2) (zb r2 y2)) (ofY (zb r2 x2) (zb r2 y2))
  unfold firstW Bx Nm at hB hH
  generalize (((((((((w.alloc (Obj.cells #[.int .i64 x1, .int .i64 y1, .bool r1] 23)).alloc (.cells #[.int .i64 x2, .int .i64 y2, .bool r2] 23)).alloc (.cells #[.int .i64 x1, .int .i64 y1, .bool r1] 23)).drewN n1).alloc (.cells #[.int .i64 (ofX (zb r1 x1) (zb r1 y1)), .int .i64 (ofY (zb r1 x1) (zb r1 y1))] 32)).alloc (.cells #[.int .i64 (ofX (zb r1 x1) (zb r1 y1)), .int .i64 (ofY (zb r1 x1) (zb r1 y1))] 32)).alloc (.cells #[.int .i64 x2, .int .i64 y2, .bool r2] 23)).drewN n2).alloc (.cells #[.int .i64 (ofX (zb r2 x2) (zb r2 y2)), .int .i64 (ofY (zb r2 x2) (zb r2 y2))] 32)).alloc (.cells #[.int .i64 (ofX (zb r2 x2) (zb r2 y2)), .int .i64 (ofY (zb r2 x2) (zb r2 y2))] 32) = W at hB hH ⊢
  clear n1 n2
  go_cut [9, 10] (fun v9 v10 wx => v9 = .complex .f64 (quoR (zb r1 x1) (zb r1 y1) (zb r2 x2) (zb r2 y2)) (quoI (zb r1 x1) (zb r1 y1) (zb r2 x2) (zb r2 y2)) ∧ v10 = .int .i64 (quoE (zb r1 x1) (zb r1 y1) (zb r2 x2) (zb r2 y2)) ∧ Below w.heap.size w wx ∧ Held wx w.heap.size x1 y1 r1 x2 y2 r2 (ofX (zb r1 x1) (zb r1 y1)) (ofY (zb r1 x1) (zb r1 y1)) (ofX (zb r2 x2) (zb r2 y2)) (ofY (zb r2 x2) (zb r2 y2)))
  case first =>
    have hs := held_size hH
    obtain ⟨⟨c1, c2, c3⟩, ⟨c4, c5, c6⟩, _, _⟩ := id hH
    have d1 : ∀ o, (W.alloc o).cell? ⟨w.heap.size, 0, none⟩ = some (.int .i64 x1) := fun o => ((bcell (bal (o := o) (Below.refl W.heap.size W))).1 _ _ (by omega)).trans c1
    have d2 : ∀ o, (W.alloc o).cell? ⟨w.heap.size, 1, none⟩ = some (.int .i64 y1) := fun o => ((bcell (bal (o := o) (Below.refl W.heap.size W))).1 _ _ (by omega)).trans c2
    have d3 : ∀ o, (W.alloc o).cell? ⟨w.heap.size, 2, none⟩ = some (.bool r1) := fun o => ((bcell (bal (o := o) (Below.refl W.heap.size W))).1 _ _ (by omega)).trans c3
    have d4 : ∀ o, (W.alloc o).cell? ⟨w.heap.size + 1, 0, none⟩ = some (.int .i64 x2) := fun o => ((bcell (bal (o := o) (Below.refl W.heap.size W))).1 _ _ (by omega)).trans c4
    have d5 : ∀ o, (W.alloc o).cell? ⟨w.heap.size + 1, 1, none⟩ = some (.int .i64 y2) := fun o => ((bcell (bal (o := o) (Below.refl W.heap.size W))).1 _ _ (by omega)).trans c5
    have d6 : ∀ o, (W.alloc o).cell? ⟨w.heap.size + 1, 2, none⟩ = some (.bool r2) := fun o => ((bcell (bal (o := o) (Below.refl W.heap.size W))).1 _ _ (by omega)).trans c6
    go_region_with (first
      | (go_at_call 13; refine (z_any _ _ _ _).mono ?_; rintro e w' ⟨rfl, n, rfl⟩)
      | (go_at_call 24; refine (quo_any _ _ _ _ _ (by assumption) (by assumption) (by assumption) (by assumption)).mono ?_; rintro _ w' ⟨rfl, n, rfl⟩; unfold quoAns))
    all_goals
      go_wp2_with fail
      go_meet
      case rel =>
        refine ⟨rfl, rfl, hB.trans (Below.mono (B := W.heap.size) ?_ hB.size), held_below hH ?_⟩
        all_goals repeat (first | exact Below.refl _ _ | refine bal ?_ | refine below_drewN ?_ _ | refine Below.drew ?_)
  case rest =>
  obtain ⟨rfl, rfl, hBn, hHn⟩ := hcut
  clear hB hH
  have hB := hBn
  have hH := hHn
  clear hBn hHn
  generalize wc = W2 at *
  obtain ⟨⟨c1, c2, c3⟩, _, _, _⟩ := id hH
  go_wp2_with fail
  refine (z_any _ _ _ _).mono ?_
  rintro e w' ⟨rfl, n3, rfl⟩
  go_wp2_with fail
  refine (conj_any _ _ _ l1 l2).mono ?_
  rintro e w' ⟨rfl, rfl⟩
  go_upto_region 7 with fail
  clear c1 c2 c3
  have k3 : Below W2.heap.size W2 ((W2.alloc (.cells #[.int .i64 x1, .int .i64 y1, .bool r1] 23)).drewN n3) := below_drewN (bal (Below.refl _ _)) _
  have hHn := held_below hH k3
  have hBn := hB.trans (k3.mono hB.size)
  clear hH hB k3
  have hH := hHn
  have hB := hBn
  clear hHn hBn
  generalize (W2.alloc (Obj.cells #[.int .i64 x1, .int .i64 y1, .bool r1] 23)).drewN n3 = W3 at *
  go_cut [13, 14] (fun v9 v10 wx => v9 = .bool (lB (zb r1 x1) (zb r1 y1) (zb r2 x2) (zb r2 y2)) ∧ v10 = .int .i64 (lE (zb r1 x1) (zb r1 y1) (zb r2 x2) (zb r2 y2)) ∧ Below w.heap.size w wx ∧ Held wx w.heap.size x1 y1 r1 x2 y2 r2 (ofX (zb r1 x1) (zb r1 y1)) (ofY (zb r1 x1) (zb r1 y1)) (ofX (zb r2 x2) (zb r2 y2)) (ofY (zb r2 x2) (zb r2 y2)))
  case first =>
    have hs := held_size hH
    obtain ⟨⟨c1, c2, c3⟩, ⟨c4, c5, c6⟩, _, _⟩ := id hH
    have d1 : ∀ o, (W3.alloc o).cell? ⟨w.heap.size, 0, none⟩ = some (.int .i64 x1) := fun o => ((bcell (bal (o := o) (Below.refl W3.heap.size W3))).1 _ _ (by omega)).trans c1
    have d2 : ∀ o, (W3.alloc o).cell? ⟨w.heap.size, 1, none⟩ = some (.int .i64 y1) := fun o => ((bcell (bal (o := o) (Below.refl W3.heap.size W3))).1 _ _ (by omega)).trans c2
    have d3 : ∀ o, (W3.alloc o).cell? ⟨w.heap.size, 2, none⟩ = some (.bool r1) := fun o => ((bcell (bal (o := o) (Below.refl W3.heap.size W3))).1 _ _ (by omega)).trans c3
    have d4 : ∀ o, (W3.alloc o).cell? ⟨w.heap.size + 1, 0, none⟩ = some (.int .i64 x2) := fun o => ((bcell (bal (o := o) (Below.refl W3.heap.size W3))).1 _ _ (by omega)).trans c4
    have d5 : ∀ o, (W3.alloc o).cell? ⟨w.heap.size + 1, 1, none⟩ = some (.int .i64 y2) := fun o => ((bcell (bal (o := o) (Below.refl W3.heap.size W3))).1 _ _ (by omega)).trans c5
    have d6 : ∀ o, (W3.alloc o).cell? ⟨w.heap.size + 1, 2, none⟩ = some (.bool r2) := fun o => ((bcell (bal (o := o) (Below.refl W3.heap.size W3))).1 _ _ (by omega)).trans c6
    go_region_with (first
      | (go_at_call 13; refine (z_any _ _ _ _).mono ?_; rintro e w' ⟨rfl, n, rfl⟩)
      | (go_at_call 26; refine (less_any _ _ _ _ _ (by assumption) (by assumption) (by assumption) (by assumption)).mono ?_; rintro _ w' ⟨rfl, rfl⟩))
    all_goals
      go_wp2_with fail
      go_meet
      case rel =>
        refine ⟨rfl, rfl, hB.trans (Below.mono (B := W3.heap.size) ?_ hB.size), held_below hH ?_⟩
        all_goals repeat (first | exact Below.refl _ _ | refine bal ?_ | refine below_drewN ?_ _ | refine Below.drew ?_)
  case rest =>
  obtain ⟨rfl, rfl, hBn, hHn⟩ := hcut
  clear hB hH
  have hB := hBn
  have hH := hHn
  clear hBn hHn
  generalize wc = W4 at *
  have sr := same_refl
  by_cases h1 : vc (zb r1 x1) (zb r1 y1) = true
  · have k1 : Hid (cR (zb r1 x1) (zb r1 y1) = fl (nb (zb r1 x1)) ∧ cI (zb r1 x1) (zb r1 y1) = fl (-(nb (zb r1 y1)))) := by
      refine ⟨?_, ?_⟩
      · unfold cR; rw [h1]; exact (vp_true (vc_parts h1).1).2
      · unfold cI; rw [h1]; rfl
    have k2 : cE (zb r1 x1) (zb r1 y1) = 0 := by unfold cE; rw [h1]; rfl
    have bb := (vp_true (vc_parts h1).2).1
    rw [(of_valid h1).1, (of_valid h1).2] at hH
    by_cases h2 : vc (zb r2 x2) (zb r2 y2) = true
    · have hv : valid4 (zb r1 x1) (zb r1 y1) (zb r2 x2) (zb r2 y2) = true := by rw [valid4_vc, h1, h2]; rfl
      rw [(of_valid h2).1, (of_valid h2).2] at hH
      have k3 : lB (zb r1 x1) (zb r1 y1) (zb r2 x2) (zb r2 y2) = decide (nb (zb r1 x1) < nb (zb r2 x2) ∨ nb (zb r1 x1) = nb (zb r2 x2) ∧ nb (zb r1 y1) < nb (zb r2 y2)) := by unfold lB; rw [hv]; rfl
      have k4 : lE (zb r1 x1) (zb r1 y1) (zb r2 x2) (zb r2 y2) = 0 := by unfold lE; rw [hv]; rfl
      obtain ⟨_, _, ⟨c7, c8⟩, c9, c10⟩ := id hH
      go_wp2_with fail
      refine (told_yes _ _ _ _ _ _ _ rfl k1.out.1 k1.out.2).mono ?_
      rintro _ w1 ⟨rfl, hb1⟩
      have hH1 := held_below hH hb1
      have hB1 := hB.trans (hb1.mono hB.size)
      clear hb1 hH hB c7 c8 c9 c10
      obtain ⟨_, _, ⟨c7, c8⟩, c9, c10⟩ := id hH1
      go_wp2_with fail
      refine (refquo_w _ _ _ _ _ hv).mono ?_
      rintro _ w2 ⟨U, V, E, K, rfl, hb2⟩
      have j2 := bal (o := .cells #[.int .i64 U, .int .i64 V] 32) (Below.refl w2.heap.size w2)
      have hH2 := held_below (held_below hH1 hb2) j2
      have hB2 := (hB1.trans (hb2.mono hB1.size)).trans (j2.mono (hB1.trans (hb2.mono hB1.size)).size)
      have ga : (w2.alloc (.cells #[.int .i64 U, .int .i64 V] 32)).cell? ⟨w2.heap.size, 0, none⟩ = some (.int .i64 U) := by go_simp
      have gb : (w2.alloc (.cells #[.int .i64 U, .int .i64 V] 32)).cell? ⟨w2.heap.size, 1, none⟩ = some (.int .i64 V) := by go_simp
      clear hb2 j2 hH1 hB1 c7 c8 c9 c10
      go_wp2_with fail
      generalize w2.alloc (.cells #[.int .i64 U, .int .i64 V] 32) = P2 at *
      generalize w2.heap.size = u2 at *
      refine (told_yes _ _ _ _ _ _ _ K.out.1 K.out.2.1 K.out.2.2).mono ?_
      rintro _ w3 ⟨rfl, hb3⟩
      have hH3 := held_below hH2 hb3
      have hB3 := hB2.trans (hb3.mono hB2.size)
      obtain ⟨_, _, ⟨c7, c8⟩, c9, c10⟩ := id hH3
      clear hb3 hH2 hB2 ga gb
      go_wp2_with fail
      refine (refless_any _ _ _ _ _).mono ?_
      rintro _ w4 ⟨rfl, hb4⟩
      go_wp2_with fail
      go_ret
      exact ⟨ret_bool (by simp), hB3.trans (hb4.mono hB3.size)⟩
    · have h2' : vc (zb r2 x2) (zb r2 y2) = false := by simpa using h2
      have hv : valid4 (zb r1 x1) (zb r1 y1) (zb r2 x2) (zb r2 y2) = false := by rw [valid4_vc, h1, h2']; rfl
      obtain ⟨q1, q2, q3⟩ := quo_bad_facts hv
      have k3 : lB (zb r1 x1) (zb r1 y1) (zb r2 x2) (zb r2 y2) = false := by unfold lB; rw [hv]; rfl
      have k4 : lE (zb r1 x1) (zb r1 y1) (zb r2 x2) (zb r2 y2) = 3 := by unfold lE; rw [hv]; rfl
      obtain ⟨_, _, ⟨c7, c8⟩, _, _⟩ := id hH
      clear hv h2
      go_wp2_with fail
      refine (told_yes _ _ _ _ _ _ _ rfl k1.out.1 k1.out.2).mono ?_
      rintro _ w1 ⟨rfl, hb1⟩
      have hB1 := hB.trans (hb1.mono hB.size)
      clear hb1 hH hB c7 c8
      go_wp2_with (go_at_call 19; refine (shapeless_yes _).mono ?_; rintro _ w' ⟨rfl, rfl⟩)
      go_ret
      exact ⟨rfl, hB1⟩
  · have h1' : vc (zb r1 x1) (zb r1 y1) = false := by simpa using h1
    have hv : valid4 (zb r1 x1) (zb r1 y1) (zb r2 x2) (zb r2 y2) = false := by rw [valid4_vc, h1']; rfl
    obtain ⟨q1, q2, q3⟩ := quo_bad_facts hv
    have k1 : cR (zb r1 x1) (zb r1 y1) = 0 := by unfold cR; rw [h1']; rfl
    have k2 : cI (zb r1 x1) (zb r1 y1) = 0 := by unfold cI; rw [h1']; rfl
    have k5 : cE (zb r1 x1) (zb r1 y1) = 3 := by unfold cE; rw [h1']; rfl
    have k3 : lB (zb r1 x1) (zb r1 y1) (zb r2 x2) (zb r2 y2) = false := by unfold lB; rw [hv]; rfl
    have k4 : lE (zb r1 x1) (zb r1 y1) (zb r2 x2) (zb r2 y2) = 3 := by unfold lE; rw [hv]; rfl
    clear hv h1 hH
    go_wp2_with (go_at_call 19; refine (shapeless_yes _).mono ?_; rintro _ w' ⟨rfl, rfl⟩)
    go_ret
    exact ⟨rfl, hB⟩
end Go.Proofs.YtmmcpganhfflmaaDoor
