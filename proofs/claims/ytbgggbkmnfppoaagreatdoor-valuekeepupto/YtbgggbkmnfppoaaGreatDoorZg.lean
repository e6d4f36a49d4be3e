/-
  The walk of ValueParses.
-/
import Derived.Test.YtbgggbkmnfppoaaGreatDoorZf
namespace Go.Proofs.YtbgggbkmnfppoaaGreatDoor
open Go.RowKit
set_option maxRecDepth 100000

theorem spl_len : ∀ (n : Nat) {l : List UInt8} {vs : List Vl}, l.length ≤ n → spl rdG l = some vs → vs.length ≤ l.length := by
  intro n
  induction n with
  | zero =>
    intro l vs h hs
    have : l = [] := List.length_eq_zero_iff.1 (by omega)
    subst this
    rw [spl_nil rfl] at hs
    simp only [Option.some.injEq] at hs
    rw [← hs]; simp
  | succ n ih =>
    intro l vs h hs
    by_cases h0 : skp l = []
    · rw [spl_nil h0] at hs
      simp only [Option.some.injEq] at hs
      rw [← hs]; simp
    · rw [spl_cons rfl h0] at hs
      have h1 := skp_len l
      have h2 : 0 < tokE (skp l) := by
        cases hk : skp l with
        | nil => exact absurd hk h0
        | cons b r => exact tokE_pos (skp_head hk) r
      have h3 := tokE_le (skp l)
      split at hs
      · cases hs
      · cases hp : pvV rdG ((skp l).take (tokE (skp l))) with
        | none => rw [hp] at hs; cases hs
        | some v =>
          rw [hp] at hs
          simp only at hs
          cases hr : spl rdG ((skp l).drop (tokE (skp l))) with
          | none => rw [hr] at hs; cases hs
          | some us =>
            rw [hr] at hs
            simp only [Option.map_some, Option.some.injEq] at hs
            have := ih (by rw [List.length_drop]; omega) hr
            rw [List.length_drop] at this
            rw [← hs]
            simp
            omega

set_option maxHeartbeats 8000000 in
theorem valueParses_any (l : List UInt8) (w : World) (hE : Env w) (hl : l.length ≤ 2000000) :
    Calls Tryz.prog 4 #[.string (bs l)] w fun e w' => e = .returned (.bool true) ∧ Below w.heap.size w w' := by
  have hp1 := fun W (hW : Env W) => parseV_any l (by omega) W hW
  have hp2 := fun W => rparse_any l (by omega) W
  have hs1 := fun W (hW : Env W) => split_any l (by omega) W hW
  have hs2 := fun W => rsplit_any l (by omega) W
  rw [rspl_spl rdG_rdr l.length l (Nat.le_refl _)] at hs2
  have hntl : ∀ its : List It, its.map (·.2.2) = (spl rdG l).getD [] → its.length < 140737488355328 := by
    intro its h
    have h1 := congrArg List.length h
    rw [List.length_map] at h1
    cases hs : spl rdG l with
    | none =>
      rw [hs] at h1
      have : its.length = 0 := h1
      omega
    | some vs =>
      rw [hs] at h1
      have : its.length = vs.length := h1
      have := spl_len l.length (Nat.le_refl _) hs
      omega
  go_enter Tryz.func4, Tryz.ntmps4
  go_wp2_with fail
  refine (awake9_any _ hE).mono ?_
  rintro e w1 ⟨rfl, hb1⟩
  go_wp2_with fail
  refine (hp1 _ (env_keep hE hb1)).mono ?_
  rintro e w2 ⟨hpa, hb2⟩
  obtain ⟨x1, y1, rfl, hvr1, _⟩ := hpa.ex
  have hZ1 := Bk.new w2 35 #[.int .i64 0, .complex .f64 0 0, .bool false, .slice none 0 0]
  have B2 := Below.thn hb1 hb2
  clear hpa hb2
  obtain ⟨o, ho⟩ : ∃ o, o = pvV rdG l := ⟨_, rfl⟩
  rw [← ho] at hvr1 hp2 ⊢
  have HO : Hid (o = pvV rdG l) := ho
  clear ho hp1
  have hwh : ∀ x y x' y' W, Vr W x (pR o) → Vr W x' (pR o) → Calls Tryz.prog 18 #[.agg #[.int .i64 (pR o).t, .complex .f64 (pR o).z.1 (pR o).z.2, .bool (pR o).r, .slice x (pR o).zs.length y], .agg #[.int .i64 (pR o).t, .complex .f64 (pR o).z.1 (pR o).z.2, .bool (pR o).r, .slice x' (pR o).zs.length y']] W fun e w' => e = .returned (.bool true) ∧ Below W.heap.size W w' := by
    intro x y x' y' W hv hu
    cases ho : o with
    | none => exact wholeV_zero x x' y y' W
    | some u =>
      have hok := (pv_of rdG_rdr (HO.out.symm.trans ho)).1
      rw [ho] at hv hu
      exact wholeV_yes (ofV u) x x' y y' W hv hu (sound_ofV hok)
  clear HO
  unfold vV
  go_wp2_with (refine wpList_storeN rfl 35 (.tmp 3) (.tmp 17) rfl w2.heap.size 0 [.int .i64 (pR o).t, .complex .f64 (pR o).z.1 (pR o).z.2, .bool (pR o).r, .slice x1 (pR o).zs.length y1] rfl rfl hZ1 (Nat.le_refl 4) Tryz.infoV (one4 _ _ _ _ _ _ _) ?_; intro w3 hB3 hO3)
  have b23 : Below w2.heap.size w2 w3 := (below_alloc w2 _).trans (hO3.below (Nat.le_refl _))
  have B3 := Below.thn B2 b23
  refine (hp2 _).mono ?_
  rintro e w4 ⟨hpb, hb4⟩
  obtain ⟨x2, y2, rfl, hvr2, _⟩ := hpb.ex
  have hZ2 := Bk.new w4 35 #[.int .i64 0, .complex .f64 0 0, .bool false, .slice none 0 0]
  have hB4 := hB3.up hb4
  have B4a := Below.thn B3 hb4
  clear hpb hZ1 hB3 hO3
  unfold vV
  go_wp2_with (refine wpList_storeN rfl 35 (.tmp 5) (.tmp 22) rfl w4.heap.size 0 [.int .i64 (pR o).t, .complex .f64 (pR o).z.1 (pR o).z.2, .bool (pR o).r, .slice x2 (pR o).zs.length y2] rfl rfl hZ2 (Nat.le_refl 4) Tryz.infoV (one4 _ _ _ _ _ _ _) ?_; intro w4' hB4' hO4'; have bb : Below w4.heap.size w4 w4' := (below_alloc w4 _).trans (hO4'.below (Nat.le_refl _)); have hB5 := hB4.up bb; have p0 : w4'.cell? ⟨w2.heap.size, 0, none⟩ = some (.int .i64 (pR o).t) := hB5.cell 0; have p1 : w4'.cell? ⟨w2.heap.size, 1, none⟩ = some (.complex .f64 (pR o).z.1 (pR o).z.2) := hB5.cell 1; have p2 : w4'.cell? ⟨w2.heap.size, 2, none⟩ = some (.bool (pR o).r) := hB5.cell 2; have p3 : w4'.cell? ⟨w2.heap.size, 3, none⟩ = some (.slice x1 (pR o).zs.length y1) := hB5.cell 3; have q0 : w4'.cell? ⟨w4.heap.size, 0, none⟩ = some (.int .i64 (pR o).t) := hB4'.cell 0; have q1 : w4'.cell? ⟨w4.heap.size, 1, none⟩ = some (.complex .f64 (pR o).z.1 (pR o).z.2) := hB4'.cell 1; have q2 : w4'.cell? ⟨w4.heap.size, 2, none⟩ = some (.bool (pR o).r) := hB4'.cell 2; have q3 : w4'.cell? ⟨w4.heap.size, 3, none⟩ = some (.slice x2 (pR o).zs.length y2) := hB4'.cell 3)
  have B4 := Below.thn B4a bb
  refine (hwh x1 y1 x2 y2 _ (((hvr1.up b23).up hb4).up bb) (hvr2.up bb)).mono ?_
  rintro e w5 ⟨rfl, hb5⟩
  clear hwh hvr1 hvr2 hZ2 hB4 hB4' hO4' hB5 p0 p1 p2 p3 q0 q1 q2 q3 b23 hb4 bb hp2 B2 B3 B4a
  have B5 := Below.thn B4 hb5
  go_wp2_with fail
  refine (hs1 _ (env_keep hE B5)).mono ?_
  rintro e w6 ⟨hsa, hb6⟩
  obtain ⟨v6, its, rfl, hS6, hits⟩ := hsa.ex
  have B6 := Below.thn B5 hb6
  go_wp2_with fail
  refine (hs2 _).mono ?_
  rintro e w7 ⟨hsb, hb7⟩
  obtain ⟨v7, its2, rfl, hS7, hits2⟩ := hsb.ex
  have B7 := Below.thn B6 hb7
  have HIE : Hid (its.map (·.2.2) = its2.map (·.2.2)) := by show _ = _; rw [hits, hits2]
  have hlen : its.length = its2.length := by
    have h1 := congrArg List.length HIE.out
    simpa only [List.length_map] using h1
  obtain ⟨ag, cg, eg, _, _⟩ := owns_slice hS6.row
  obtain ⟨aw, cw, ew, _, _⟩ := owns_slice hS7.row
  subst eg ew
  rw [← hlen]
  have HS2 : Hid (SR w7 w5.heap.size (.slice ag its.length cg) its) := hS6.up hb7
  have HS1 : Hid (SR w7 w6.heap.size (.slice aw its.length cw) its2) := by rw [hlen]; exact hS7
  have HLE : Hid (its.length = its2.length) := hlen
  have hnt : its.length < 140737488355328 := by
    rcases hS6.row.2 with ⟨_, h0⟩ | ⟨g, cap, cur, e, _, hcur, h1, h2, h3, _⟩
    · omega
    · exact hntl _ hits
  obtain ⟨mm, hmm⟩ : ∃ mm, Hid (mm = its.length) := ⟨_, rfl⟩
  rw [← hmm.out] at hnt ⊢
  clear hsa hsb hS6 hS7 hits hits2 hlen hb6 hb7 hs1 hs2 hntl
  generalize sE (spl rdG l) = se at *
  go_wp2_with fail
  go_loopw [11] (fun i wx => ∃ j : Nat, j ≤ mm ∧ i = .int .i64 j ∧ Below w7.heap.size w7 wx) (fun i _ => mm - (RowKit.intOf i).toNat)
  case atStart => exact ⟨0, Nat.zero_le _, rfl, Below.refl _ _⟩
  case round =>
    obtain ⟨k2, hk2, rfl, hBx⟩ := hrel
    by_cases hj : k2 < mm
    · have hj2 : k2 < its.length := by rw [← hmm.out]; exact hj
      have hj1 : k2 < its2.length := by rw [← HLE.out]; exact hj2
      have hne1 : its2 ≠ [] := by intro e; rw [e] at hj1; simp at hj1
      have hne2 : its ≠ [] := by intro e; rw [e] at hj2; simp at hj2
      obtain ⟨g2, cap2, eq2, _, _, hv2⟩ := (HS1.out.up hBx).at hne1
      obtain ⟨g1, cap1, eq1, _, _, hv1⟩ := (HS2.out.up hBx).at hne2
      have m1 := hv1 k2 its[k2] (List.getElem?_eq_getElem hj2)
      have m2 := hv2 k2 its2[k2] (List.getElem?_eq_getElem hj1)
      have r1 := ((HS2.out.up hBx).its _ (List.getElem_mem hj2)).vr
      have r2 := ((HS1.out.up hBx).its _ (List.getElem_mem hj1)).vr
      have ok1 := ((HS1.out.up hBx).its _ (List.getElem_mem hj1)).ok
      have hee : its[k2].2.2 = its2[k2].2.2 := by
        have := congrArg (fun x => x[k2]?) HIE.out
        simpa [List.getElem?_eq_getElem hj1, List.getElem?_eq_getElem hj2] using this
      rw [hee] at m1 r1
      have hso := sound_ofV ok1
      simp only [Value.slice.injEq] at eq1 eq2
      obtain ⟨rfl, em1, rfl⟩ := eq1
      obtain ⟨rfl, em2, rfl⟩ := eq2
      clear em1 em2
      generalize its[k2].1 = i1 at *
      generalize its[k2].2.1 = e1' at *
      generalize its2[k2].1 = i2 at *
      generalize its2[k2].2.1 = e2' at *
      generalize ofV its2[k2].2.2 = v1 at *
      have hsame : ∀ W, Vr W i1 v1 → Vr W i2 v1 → Calls Tryz.prog 15 #[.agg #[.int .i64 v1.t, .complex .f64 v1.z.1 v1.z.2, .bool v1.r, .slice i1 v1.zs.length e1'], .agg #[.int .i64 v1.t, .complex .f64 v1.z.1 v1.z.2, .bool v1.r, .slice i2 v1.zs.length e2']] W fun e w' => e = .returned (.bool (sameV v1 v1)) ∧ Below W.heap.size W w' := fun W hv hu => rsame_any v1 v1 i1 i2 e1' e2' W hv hu
      have hss : sameV v1 v1 = true := by unfold sameV; rw [hso]; simp
      rw [hss] at hsame
      have hl1 := m1.lt
      have hl2 := m2.lt
      have hSS : ∀ X, Below wr.heap.size wr X → X.cell? ⟨g1, k2 * 4, none⟩ = some (.int .i64 v1.t) ∧ X.cell? ⟨g1, k2 * 4 + 1, none⟩ = some (.complex .f64 v1.z.1 v1.z.2) ∧ X.cell? ⟨g1, k2 * 4 + 2, none⟩ = some (.bool v1.r) ∧ X.cell? ⟨g1, k2 * 4 + 3, none⟩ = some (.slice i1 v1.zs.length e1') ∧ X.cell? ⟨g2, k2 * 4, none⟩ = some (.int .i64 v1.t) ∧ X.cell? ⟨g2, k2 * 4 + 1, none⟩ = some (.complex .f64 v1.z.1 v1.z.2) ∧ X.cell? ⟨g2, k2 * 4 + 2, none⟩ = some (.bool v1.r) ∧ X.cell? ⟨g2, k2 * 4 + 3, none⟩ = some (.slice i2 v1.zs.length e2') := fun X hX => ⟨(hX.cell hl1).trans m1.c0, (hX.cell hl1).trans m1.c1, (hX.cell hl1).trans m1.c2, (hX.cell hl1).trans m1.c3, (hX.cell hl2).trans m2.c0, (hX.cell hl2).trans m2.c1, (hX.cell hl2).trans m2.c2, (hX.cell hl2).trans m2.c3⟩
      have HS : Hid (∀ X, Below wr.heap.size wr X → X.cell? ⟨g1, k2 * 4, none⟩ = some (.int .i64 v1.t) ∧ X.cell? ⟨g1, k2 * 4 + 1, none⟩ = some (.complex .f64 v1.z.1 v1.z.2) ∧ X.cell? ⟨g1, k2 * 4 + 2, none⟩ = some (.bool v1.r) ∧ X.cell? ⟨g1, k2 * 4 + 3, none⟩ = some (.slice i1 v1.zs.length e1') ∧ X.cell? ⟨g2, k2 * 4, none⟩ = some (.int .i64 v1.t) ∧ X.cell? ⟨g2, k2 * 4 + 1, none⟩ = some (.complex .f64 v1.z.1 v1.z.2) ∧ X.cell? ⟨g2, k2 * 4 + 2, none⟩ = some (.bool v1.r) ∧ X.cell? ⟨g2, k2 * 4 + 3, none⟩ = some (.slice i2 v1.zs.length e2')) := hSS
      have s4 := hSS wr (Below.refl _ _)
      have bD := (Below.refl wr.heap.size wr).drew
      have sD := hSS wr.drew bD
      clear hSS m1 m2 hv1 hv2 hee hso ok1 hss hne1 hne2 hj1 hj2 HS1 HS2 HIE HLE
      go_upto_region 14 with fail
      go_region_held3 (fun X => X.cell? ⟨g1, k2 * 4, none⟩ = some (.int .i64 v1.t) ∧ X.cell? ⟨g1, k2 * 4 + 1, none⟩ = some (.complex .f64 v1.z.1 v1.z.2) ∧ X.cell? ⟨g1, k2 * 4 + 2, none⟩ = some (.bool v1.r) ∧ X.cell? ⟨g1, k2 * 4 + 3, none⟩ = some (.slice i1 v1.zs.length e1') ∧ X.cell? ⟨g2, k2 * 4, none⟩ = some (.int .i64 v1.t) ∧ X.cell? ⟨g2, k2 * 4 + 1, none⟩ = some (.complex .f64 v1.z.1 v1.z.2) ∧ X.cell? ⟨g2, k2 * 4 + 2, none⟩ = some (.bool v1.r) ∧ X.cell? ⟨g2, k2 * 4 + 3, none⟩ = some (.slice i2 v1.zs.length e2'))
        (first | (with_reducible exact sD) | (with_reducible exact s4) | (with_reducible exact sa)) (first
        | (go_at_call 15; (with_reducible refine Calls.mono (hsame _ (r1.up bD) (r2.up bD)) ?_); rintro e wa ⟨rfl, hba⟩; have ba := Below.thn bD hba; have sa := HS.out wa ba)
        | fail)
      all_goals
        go_wp2_with fail
        go_roundw
        case rel => exact ⟨k2 + 1, by omega, by go_num, Below.thn hBx ba⟩
        case measure => simp [RowKit.intOf]; omega
    · have hje : k2 = mm := by omega
      subst hje
      go_wp2
      go_ret
      exact ⟨rfl, Below.thn B7 hBx⟩
end Go.Proofs.YtbgggbkmnfppoaaGreatDoor
