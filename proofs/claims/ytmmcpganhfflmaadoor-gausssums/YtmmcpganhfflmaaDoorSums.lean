/-
  The walk of GaussSums.
-/
import Derived.Test.YtmmcpganhfflmaaDoorHd
import Derived.Deep.RegionWith
import Derived.Deep.DeepCutAuto
namespace Go.Proofs.YtmmcpganhfflmaaDoor
open Go.RowKit
open Ieee

set_option maxRecDepth 100000 in
set_option maxHeartbeats 2000000 in
theorem sums_any (x1 y1 : Int) (r1 : Bool) (x2 y2 : Int) (r2 : Bool) (w : World) :
    Calls Tryd.prog 4 #[.agg #[.int .i64 x1, .int .i64 y1, .bool r1], .agg #[.int .i64 x2, .int .i64 y2, .bool r2]] w fun e w' => e = .returned (.bool true) ∧ Below w.heap.size w w' := by
  have l1 := zb_lt r1 x1
  have l2 := zb_lt r1 y1
  have l3 := zb_lt r2 x2
  have l4 := zb_lt r2 y2
  go_enter Tryd.func4, Tryd.ntmps4
  go_wp2_with (go_at_call 9; refine (awake_any _).mono ?_; rintro e w' ⟨rfl, rfl⟩)
  refine (z_any _ _ _ _).mono ?_
  rintro e w' ⟨rfl, n1, rfl⟩
  go_wp2_with fail
  refine (of_any _ _ _ l1 l2).mono ?_
  rintro e w' ⟨rfl, rfl⟩
  go_wp2_with fail
  refine (z_any _ _ _ _).mono ?_
  rintro e w' ⟨rfl, n2, rfl⟩
  go_wp2_with fail
  refine (of_any _ _ _ l3 l4).mono ?_
  rintro e w' ⟨rfl, rfl⟩
  go_upto_region 5 with fail
  have hB := first_below w n1 n2 x1 y1 r1 x2 y2 r2 (ofX (zb r1 x1) (zb r1 y1)) (ofY (zb r1 x1) (zb r1 y1)) (ofX (zb r2 x2) (zb r2 y2)) (ofY (zb r2 x2) (zb r2 y2))
  have hH := first_held w n1 n2 x1 y1 r1 x2 y2 r2 (ofX (zb r1 x1) (zb r1 y1)) (ofY (zb r1 x1) (zb r1 y1)) (ofX (zb r2 x2) (zb r2 y2)) (ofY (zb r2 x2) (zb r2 y2))
  unfold firstW Bx Nm at hB hH
  generalize (((((((((w.alloc (Obj.cells #[.int .i64 x1, .int .i64 y1, .bool r1] 23)).alloc (.cells #[.int .i64 x2, .int .i64 y2, .bool r2] 23)).alloc (.cells #[.int .i64 x1, .int .i64 y1, .bool r1] 23)).drewN n1).alloc (.cells #[.int .i64 (ofX (zb r1 x1) (zb r1 y1)), .int .i64 (ofY (zb r1 x1) (zb r1 y1))] 32)).alloc (.cells #[.int .i64 (ofX (zb r1 x1) (zb r1 y1)), .int .i64 (ofY (zb r1 x1) (zb r1 y1))] 32)).alloc (.cells #[.int .i64 x2, .int .i64 y2, .bool r2] 23)).drewN n2).alloc (.cells #[.int .i64 (ofX (zb r2 x2) (zb r2 y2)), .int .i64 (ofY (zb r2 x2) (zb r2 y2))] 32)).alloc (.cells #[.int .i64 (ofX (zb r2 x2) (zb r2 y2)), .int .i64 (ofY (zb r2 x2) (zb r2 y2))] 32) = W at hB hH ⊢
  clear n1 n2
  go_cut [9, 10] (fun v9 v10 wx => v9 = .complex .f64 (opR addX addY (zb r1 x1) (zb r1 y1) (zb r2 x2) (zb r2 y2)) (opI addX addY (zb r1 x1) (zb r1 y1) (zb r2 x2) (zb r2 y2)) ∧ v10 = .int .i64 (opE addX addY (zb r1 x1) (zb r1 y1) (zb r2 x2) (zb r2 y2)) ∧ Below w.heap.size w wx ∧ Held wx w.heap.size x1 y1 r1 x2 y2 r2 (ofX (zb r1 x1) (zb r1 y1)) (ofY (zb r1 x1) (zb r1 y1)) (ofX (zb r2 x2) (zb r2 y2)) (ofY (zb r2 x2) (zb r2 y2)))
  case first =>
    have hs := held_size hH
    obtain ⟨⟨c1, c2, c3⟩, ⟨c4, c5, c6⟩, _, _⟩ := id hH
    have d1 : ∀ o, (W.alloc o).cell? ⟨w.heap.size, 0, none⟩ = some (.int .i64 x1) := fun o => ((bcell (bal (o := o) (Below.refl W.heap.size W))).1 _ _ (by omega)).trans c1
    have d2 : ∀ o, (W.alloc o).cell? ⟨w.heap.size, 1, none⟩ = some (.int .i64 y1) := fun o => ((bcell (bal (o := o) (Below.refl W.heap.size W))).1 _ _ (by omega)).trans c2
    have d3 : ∀ o, (W.alloc o).cell? ⟨w.heap.size, 2, none⟩ = some (.bool r1) := fun o => ((bcell (bal (o := o) (Below.refl W.heap.size W))).1 _ _ (by omega)).trans c3
    have d4 : ∀ o, (W.alloc o).cell? ⟨w.heap.size + 1, 0, none⟩ = some (.int .i64 x2) := fun o => ((bcell (bal (o := o) (Below.refl W.heap.size W))).1 _ _ (by omega)).trans c4
    have d5 : ∀ o, (W.alloc o).cell? ⟨w.heap.size + 1, 1, none⟩ = some (.int .i64 y2) := fun o => ((bcell (bal (o := o) (Below.refl W.heap.size W))).1 _ _ (by omega)).trans c5
    have d6 : ∀ o, (W.alloc o).cell? ⟨w.heap.size + 1, 2, none⟩ = some (.bool r2) := fun o => ((bcell (bal (o := o) (Below.refl W.heap.size W))).1 _ _ (by omega)).trans c6
    go_region_with (first
      | (go_at_call 13; refine (z_any _ _ _ _).mono ?_; rintro e w' ⟨rfl, n, rfl⟩)
      | (go_at_call 16; refine (add_any _ _ _ _ _ (by assumption) (by assumption) (by assumption) (by assumption)).mono ?_; rintro _ w' ⟨rfl, rfl⟩; unfold opAns))
    all_goals
      go_wp2_with fail
      go_meet
      case rel =>
        refine ⟨rfl, rfl, hB.trans (Below.mono (B := W.heap.size) ?_ hB.size), held_below hH ?_⟩
        all_goals repeat (first | exact Below.refl _ _ | refine bal ?_ | refine below_drewN ?_ _ | refine Below.drew ?_)
  case rest =>
  obtain ⟨rfl, rfl, hBn, hHn⟩ := hcut
  clear hB hH
  have hB := hBn
  have hH := hHn
  clear hBn hHn
  generalize wc = W2 at *
  go_upto_region 6 with fail
  go_cut [11, 12] (fun v9 v10 wx => v9 = .complex .f64 (opR subX subY (zb r1 x1) (zb r1 y1) (zb r2 x2) (zb r2 y2)) (opI subX subY (zb r1 x1) (zb r1 y1) (zb r2 x2) (zb r2 y2)) ∧ v10 = .int .i64 (opE subX subY (zb r1 x1) (zb r1 y1) (zb r2 x2) (zb r2 y2)) ∧ Below w.heap.size w wx ∧ Held wx w.heap.size x1 y1 r1 x2 y2 r2 (ofX (zb r1 x1) (zb r1 y1)) (ofY (zb r1 x1) (zb r1 y1)) (ofX (zb r2 x2) (zb r2 y2)) (ofY (zb r2 x2) (zb r2 y2)))
  case first =>
    have hs := held_size hH
    obtain ⟨⟨c1, c2, c3⟩, ⟨c4, c5, c6⟩, _, _⟩ := id hH
    have d1 : ∀ o, (W2.alloc o).cell? ⟨w.heap.size, 0, none⟩ = some (.int .i64 x1) := fun o => ((bcell (bal (o := o) (Below.refl W2.heap.size W2))).1 _ _ (by omega)).trans c1
    have d2 : ∀ o, (W2.alloc o).cell? ⟨w.heap.size, 1, none⟩ = some (.int .i64 y1) := fun o => ((bcell (bal (o := o) (Below.refl W2.heap.size W2))).1 _ _ (by omega)).trans c2
    have d3 : ∀ o, (W2.alloc o).cell? ⟨w.heap.size, 2, none⟩ = some (.bool r1) := fun o => ((bcell (bal (o := o) (Below.refl W2.heap.size W2))).1 _ _ (by omega)).trans c3
    have d4 : ∀ o, (W2.alloc o).cell? ⟨w.heap.size + 1, 0, none⟩ = some (.int .i64 x2) := fun o => ((bcell (bal (o := o) (Below.refl W2.heap.size W2))).1 _ _ (by omega)).trans c4
    have d5 : ∀ o, (W2.alloc o).cell? ⟨w.heap.size + 1, 1, none⟩ = some (.int .i64 y2) := fun o => ((bcell (bal (o := o) (Below.refl W2.heap.size W2))).1 _ _ (by omega)).trans c5
    have d6 : ∀ o, (W2.alloc o).cell? ⟨w.heap.size + 1, 2, none⟩ = some (.bool r2) := fun o => ((bcell (bal (o := o) (Below.refl W2.heap.size W2))).1 _ _ (by omega)).trans c6
    go_region_with (first
      | (go_at_call 13; refine (z_any _ _ _ _).mono ?_; rintro e w' ⟨rfl, n, rfl⟩)
      | (go_at_call 17; refine (sub_any _ _ _ _ _ (by assumption) (by assumption) (by assumption) (by assumption)).mono ?_; rintro _ w' ⟨rfl, rfl⟩; unfold opAns))
    all_goals
      go_wp2_with fail
      go_meet
      case rel =>
        refine ⟨rfl, rfl, hB.trans (Below.mono (B := W2.heap.size) ?_ hB.size), held_below hH ?_⟩
        all_goals repeat (first | exact Below.refl _ _ | refine bal ?_ | refine below_drewN ?_ _ | refine Below.drew ?_)
  case rest =>
  obtain ⟨rfl, rfl, hBn, hHn⟩ := hcut
  clear hB hH
  have hB := hBn
  have hH := hHn
  clear hBn hHn
  generalize wc = W3 at *
  go_upto_region 7 with fail
  go_cut [13, 14] (fun v9 v10 wx => v9 = .complex .f64 (opR mulX mulY (zb r1 x1) (zb r1 y1) (zb r2 x2) (zb r2 y2)) (opI mulX mulY (zb r1 x1) (zb r1 y1) (zb r2 x2) (zb r2 y2)) ∧ v10 = .int .i64 (opE mulX mulY (zb r1 x1) (zb r1 y1) (zb r2 x2) (zb r2 y2)) ∧ Below w.heap.size w wx ∧ Held wx w.heap.size x1 y1 r1 x2 y2 r2 (ofX (zb r1 x1) (zb r1 y1)) (ofY (zb r1 x1) (zb r1 y1)) (ofX (zb r2 x2) (zb r2 y2)) (ofY (zb r2 x2) (zb r2 y2)))
  case first =>
    have hs := held_size hH
    obtain ⟨⟨c1, c2, c3⟩, ⟨c4, c5, c6⟩, _, _⟩ := id hH
    have d1 : ∀ o, (W3.alloc o).cell? ⟨w.heap.size, 0, none⟩ = some (.int .i64 x1) := fun o => ((bcell (bal (o := o) (Below.refl W3.heap.size W3))).1 _ _ (by omega)).trans c1
    have d2 : ∀ o, (W3.alloc o).cell? ⟨w.heap.size, 1, none⟩ = some (.int .i64 y1) := fun o => ((bcell (bal (o := o) (Below.refl W3.heap.size W3))).1 _ _ (by omega)).trans c2
    have d3 : ∀ o, (W3.alloc o).cell? ⟨w.heap.size, 2, none⟩ = some (.bool r1) := fun o => ((bcell (bal (o := o) (Below.refl W3.heap.size W3))).1 _ _ (by omega)).trans c3
    have d4 : ∀ o, (W3.alloc o).cell? ⟨w.heap.size + 1, 0, none⟩ = some (.int .i64 x2) := fun o => ((bcell (bal (o := o) (Below.refl W3.heap.size W3))).1 _ _ (by omega)).trans c4
    have d5 : ∀ o, (W3.alloc o).cell? ⟨w.heap.size + 1, 1, none⟩ = some (.int .i64 y2) := fun o => ((bcell (bal (o := o) (Below.refl W3.heap.size W3))).1 _ _ (by omega)).trans c5
    have d6 : ∀ o, (W3.alloc o).cell? ⟨w.heap.size + 1, 2, none⟩ = some (.bool r2) := fun o => ((bcell (bal (o := o) (Below.refl W3.heap.size W3))).1 _ _ (by omega)).trans c6
    go_region_with (first
      | (go_at_call 13; refine (z_any _ _ _ _).mono ?_; rintro e w' ⟨rfl, n, rfl⟩)
      | (go_at_call 18; refine (mul_any _ _ _ _ _ (by assumption) (by assumption) (by assumption) (by assumption)).mono ?_; rintro _ w' ⟨rfl, rfl⟩; unfold opAns))
    all_goals
      go_wp2_with fail
      go_meet
      case rel =>
        refine ⟨rfl, rfl, hB.trans (Below.mono (B := W3.heap.size) ?_ hB.size), held_below hH ?_⟩
        all_goals repeat (first | exact Below.refl _ _ | refine bal ?_ | refine below_drewN ?_ _ | refine Below.drew ?_)
  case rest =>
  obtain ⟨rfl, rfl, hBn, hHn⟩ := hcut
  clear hB hH
  have hB := hBn
  have hH := hHn
  clear hBn hHn
  generalize wc = W4 at *
  by_cases hv : valid4 (zb r1 x1) (zb r1 y1) (zb r2 x2) (zb r2 y2) = true
  · obtain ⟨h1, h2⟩ : vc (zb r1 x1) (zb r1 y1) = true ∧ vc (zb r2 x2) (zb r2 y2) = true := by rw [valid4_vc] at hv; simpa using hv
    rw [(of_valid h1).1, (of_valid h1).2, (of_valid h2).1, (of_valid h2).2] at hH
    have hs := held_size hH
    obtain ⟨_, _, ⟨c7, c8⟩, c9, c10⟩ := id hH
    go_wp2_with fail
    refine (refadd_w _ _ _ _ _ hv).mono ?_
    rintro _ w1 ⟨U1, V1, E1, K1, rfl, hb1⟩
    have j1 := bal (o := (.cells #[.int .i64 U1, .int .i64 V1] 32)) (Below.refl w1.heap.size w1)
    have hH1 := held_below (held_below hH hb1) j1
    have hB1 := (hB.trans (hb1.mono hB.size)).trans (j1.mono (hB.trans (hb1.mono hB.size)).size)
    have ga1 : (w1.alloc (.cells #[.int .i64 U1, .int .i64 V1] 32)).cell? ⟨w1.heap.size, 0, none⟩ = some (.int .i64 U1) := by go_simp
    have gb1 : (w1.alloc (.cells #[.int .i64 U1, .int .i64 V1] 32)).cell? ⟨w1.heap.size, 1, none⟩ = some (.int .i64 V1) := by go_simp
    obtain ⟨_, _, ⟨c7, c8⟩, c9, c10⟩ := id hH1
    clear hb1 j1 hH hB
    go_wp2_with fail
    generalize w1.alloc (.cells #[.int .i64 U1, .int .i64 V1] 32) = P1 at *
    generalize w1.heap.size = u1 at *
    refine (refsub_w _ _ _ _ _ hv).mono ?_
    rintro _ w2 ⟨U2, V2, E2, K2, rfl, hb2⟩
    have j2 := bal (o := (.cells #[.int .i64 U2, .int .i64 V2] 32)) (Below.refl w2.heap.size w2)
    have hH2 := held_below (held_below hH1 hb2) j2
    have hB2 := (hB1.trans (hb2.mono hB1.size)).trans (j2.mono (hB1.trans (hb2.mono hB1.size)).size)
    have ga1 := keep j2 (keep hb2 ga1)
    have gb1 := keep j2 (keep hb2 gb1)
    have ga2 : (w2.alloc (.cells #[.int .i64 U2, .int .i64 V2] 32)).cell? ⟨w2.heap.size, 0, none⟩ = some (.int .i64 U2) := by go_simp
    have gb2 : (w2.alloc (.cells #[.int .i64 U2, .int .i64 V2] 32)).cell? ⟨w2.heap.size, 1, none⟩ = some (.int .i64 V2) := by go_simp
    obtain ⟨_, _, ⟨c7, c8⟩, c9, c10⟩ := id hH2
    clear hb2 j2 hH1 hB1
    go_wp2_with fail
    generalize w2.alloc (.cells #[.int .i64 U2, .int .i64 V2] 32) = P2 at *
    generalize w2.heap.size = u2 at *
    refine (refmul_w _ _ _ _ _ hv).mono ?_
    rintro _ w3 ⟨U3, V3, E3, K3, rfl, hb3⟩
    have j3 := bal (o := (.cells #[.int .i64 U3, .int .i64 V3] 32)) (Below.refl w3.heap.size w3)
    have hH3 := held_below (held_below hH2 hb3) j3
    have hB3 := (hB2.trans (hb3.mono hB2.size)).trans (j3.mono (hB2.trans (hb3.mono hB2.size)).size)
    have ga1 := keep j3 (keep hb3 ga1)
    have gb1 := keep j3 (keep hb3 gb1)
    have ga2 := keep j3 (keep hb3 ga2)
    have gb2 := keep j3 (keep hb3 gb2)
    have ga3 : (w3.alloc (.cells #[.int .i64 U3, .int .i64 V3] 32)).cell? ⟨w3.heap.size, 0, none⟩ = some (.int .i64 U3) := by go_simp
    have gb3 : (w3.alloc (.cells #[.int .i64 U3, .int .i64 V3] 32)).cell? ⟨w3.heap.size, 1, none⟩ = some (.int .i64 V3) := by go_simp
    obtain ⟨_, _, ⟨c7, c8⟩, c9, c10⟩ := id hH3
    clear hb3 j3 hH2 hB2
    go_wp2_with fail
    generalize w3.alloc (.cells #[.int .i64 U3, .int .i64 V3] 32) = P3 at *
    generalize w3.heap.size = u3 at *
    refine (told_yes _ _ _ _ _ _ _ K1.out.1 K1.out.2.1 K1.out.2.2).mono ?_
    rintro _ w4 ⟨rfl, hb4⟩
    have ga2 := keep hb4 ga2
    have gb2 := keep hb4 gb2
    have ga3 := keep hb4 ga3
    have gb3 := keep hb4 gb3
    have hB4 := hB3.trans (hb4.mono hB3.size)
    clear hb4 hB3 ga1 gb1
    go_wp2_with fail
    refine (told_yes _ _ _ _ _ _ _ K2.out.1 K2.out.2.1 K2.out.2.2).mono ?_
    rintro _ w5 ⟨rfl, hb5⟩
    have ga3 := keep hb5 ga3
    have gb3 := keep hb5 gb3
    have hB5 := hB4.trans (hb5.mono hB4.size)
    clear hb5 hB4 ga2 gb2
    go_wp2_with fail
    refine (told_yes _ _ _ _ _ _ _ K3.out.1 K3.out.2.1 K3.out.2.2).mono ?_
    rintro _ w6 ⟨rfl, hb6⟩
    go_wp2_with fail
    go_ret
    exact ⟨rfl, hB5.trans (hb6.mono hB5.size)⟩
  · have hv' : valid4 (zb r1 x1) (zb r1 y1) (zb r2 x2) (zb r2 y2) = false := by simpa using hv
    obtain ⟨e1, e2, e3⟩ := op_bad (X := addX) (Y := addY) hv'
    obtain ⟨f1, f2, f3⟩ := op_bad (X := subX) (Y := subY) hv'
    obtain ⟨g1, g2, g3⟩ := op_bad (X := mulX) (Y := mulY) hv'
    rw [valid4_vc] at hv'
    clear hv hH
    by_cases h1 : vc (zb r1 x1) (zb r1 y1) = true
    · have h2 : vc (zb r2 x2) (zb r2 y2) = false := by simpa [h1] using hv'
      clear hv'
      go_wp2_with (go_at_call 19; refine (shapeless_yes _).mono ?_; rintro _ w' ⟨rfl, rfl⟩)
      go_ret
      exact ⟨rfl, hB⟩
    · have h1' : vc (zb r1 x1) (zb r1 y1) = false := by simpa using h1
      clear hv' h1
      go_wp2_with (go_at_call 19; refine (shapeless_yes _).mono ?_; rintro _ w' ⟨rfl, rfl⟩)
      go_ret
      exact ⟨rfl, hB⟩
end Go.Proofs.YtmmcpganhfflmaaDoor
