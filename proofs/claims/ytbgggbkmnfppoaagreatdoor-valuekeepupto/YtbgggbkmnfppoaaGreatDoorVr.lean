/-
  The walk of Parse.
-/
import Derived.Test.YtbgggbkmnfppoaaGreatDoorVp
namespace Go.Proofs.YtbgggbkmnfppoaaGreatDoor
open Go.RowKit
set_option maxRecDepth 100000

theorem PA_num {B : Nat} {w : World} {z : Zn} (hz : okZ z) : PA B (some (.n z)) (.returned (.tuple #[.agg #[.int .i64 1, .complex .f64 (wz z).1 (wz z).2, .bool false, .slice none 0 0], .int .i64 0])) w :=
  ⟨none, 0, rfl, ⟨wz_lt hz, Zr.nil _ _, Nat.zero_le _⟩, ⟨rfl, .inl ⟨rfl, rfl⟩⟩⟩
theorem PA_bool {B : Nat} {w : World} (r : Bool) : PA B (some (.b r)) (.returned (.tuple #[.agg #[.int .i64 2, .complex .f64 0 0, .bool r, .slice none 0 0], .int .i64 0])) w :=
  ⟨none, 0, rfl, ⟨⟨Nat.zero_lt_succ _, Nat.zero_lt_succ _⟩, Zr.nil _ _, Nat.zero_le _⟩, ⟨rfl, .inl ⟨rfl, rfl⟩⟩⟩

theorem PA.mono {B C : Nat} {o : Option Vl} {e : Ending} {w : World} (h : PA C o e w) (hB : B ≤ C) : PA B o e w := by
  obtain ⟨ao, cap, h1, h2, h3⟩ := h.ex
  exact ⟨ao, cap, h1, h2, owns_mono h3 hB⟩

set_option maxHeartbeats 2000000 in
theorem parseV_any (l : List UInt8) (hl : l.length ≤ 5864062014806) (w : World) (hE : Env w) :
    Calls Tryz.prog 16 #[.string (bs l)] w fun e w' => PA w.heap.size (pvV rdG l) e w' ∧ Below w.heap.size w w' := by
  have hcp : ∀ W, Calls Tryz.prog 29 #[.string (bs l), .string ⟨#[91]⟩] W fun e w' => e = .returned (.tuple #[.string (bs (Lib.trimPrefix l [91])), .bool (Lib.hasPrefix l [91])]) ∧ w' = W := by
    intro W
    have := Tryz.strings_CutPrefix (bs l) ⟨#[91]⟩ W
    rw [bs_list, show (⟨#[91]⟩ : ByteArray).data.toList = [91] from rfl] at this
    exact this
  have hR0 := Bk.new w 35 #[.int .i64 0, .complex .f64 0 0, .bool false, .slice none 0 0]
  have b0 := below_alloc w (.cells #[.int .i64 0, .complex .f64 0 0, .bool false, .slice none 0 0] 35)
  obtain ⟨A, hA⟩ : ∃ A, A = pvV rdG l := ⟨_, rfl⟩
  rw [← hA]
  have t1 : ((bs l).toList == [116, 114, 117, 101]) = decide (l = tTrue) := by rw [bs_toList, Bool.eq_iff_iff, beq_iff_eq, decide_eq_true_eq]; exact Iff.rfl
  have t2 : ((bs l).toList == [102, 97, 108, 115, 101]) = decide (l = tFalse) := by rw [bs_toList, Bool.eq_iff_iff, beq_iff_eq, decide_eq_true_eq]; exact Iff.rfl
  by_cases h1 : l = tTrue
  · have hA2 : A = some (.b true) := by rw [hA]; unfold pvV; rw [if_pos h1]
    subst hA2
    rw [decide_eq_true h1] at t1
    clear hA t2 hcp h1
    go_enter Tryz.func16, Tryz.ntmps16
    go_wp2_with (refine wpList_storeN rfl 35 (.tmp 2) (.tmp 11) rfl w.heap.size 0 [.int .i64 2, .complex .f64 0 0, .bool true, .slice none 0 0] rfl rfl hR0 (Nat.le_refl 4) Tryz.infoV (one4 _ _ _ _ _ _ _) ?_; intro w9 hB9 hO9)
    have z0 : w9.cell? ⟨w.heap.size, 0, none⟩ = some (.int .i64 2) := hB9.cell 0
    have z1 : w9.cell? ⟨w.heap.size, 1, none⟩ = some (.complex .f64 0 0) := hB9.cell 1
    have z2 : w9.cell? ⟨w.heap.size, 2, none⟩ = some (.bool true) := hB9.cell 2
    have z3 : w9.cell? ⟨w.heap.size, 3, none⟩ = some (.slice none 0 0) := hB9.cell 3
    go_wp2
    exact bodyPost_ret (v := .tuple #[.agg #[.int .i64 2, .complex .f64 0 0, .bool true, .slice none 0 0], .int .i64 0]) (by simp [results, Tryz.results16, go_sem, z0, z1, z2, z3]) rfl ⟨PA_bool _, b0.trans (hO9.below (Nat.le_refl _))⟩
  rw [decide_eq_false h1] at t1
  by_cases h2 : l = tFalse
  · have hA2 : A = some (.b false) := by rw [hA]; unfold pvV; rw [if_neg h1, if_pos h2]
    subst hA2
    rw [decide_eq_true h2] at t2
    clear hA hcp h1 h2
    go_enter Tryz.func16, Tryz.ntmps16
    go_wp2_with (refine wpList_storeN rfl 35 (.tmp 2) (.tmp 14) rfl w.heap.size 0 [.int .i64 2, .complex .f64 0 0, .bool false, .slice none 0 0] rfl rfl hR0 (Nat.le_refl 4) Tryz.infoV (one4 _ _ _ _ _ _ _) ?_; intro w9 hB9 hO9)
    have z0 : w9.cell? ⟨w.heap.size, 0, none⟩ = some (.int .i64 2) := hB9.cell 0
    have z1 : w9.cell? ⟨w.heap.size, 1, none⟩ = some (.complex .f64 0 0) := hB9.cell 1
    have z2 : w9.cell? ⟨w.heap.size, 2, none⟩ = some (.bool false) := hB9.cell 2
    have z3 : w9.cell? ⟨w.heap.size, 3, none⟩ = some (.slice none 0 0) := hB9.cell 3
    go_wp2
    exact bodyPost_ret (v := .tuple #[.agg #[.int .i64 2, .complex .f64 0 0, .bool false, .slice none 0 0], .int .i64 0]) (by simp [results, Tryz.results16, go_sem, z0, z1, z2, z3]) rfl ⟨PA_bool _, b0.trans (hO9.below (Nat.le_refl _))⟩
  rw [decide_eq_false h2] at t2
  by_cases h3 : ∃ r, l = 91 :: r
  · obtain ⟨r, hr⟩ := h3
    have hA2 : A = plV rdG r := by rw [hA]; unfold pvV; rw [if_neg h1, if_neg h2, hr]; rfl
    have e1 : Lib.hasPrefix l [91] = true := by rw [hr]; simp [Lib.hasPrefix, List.isPrefixOf]
    have e2 : Lib.trimPrefix l [91] = r := by unfold Lib.trimPrefix; rw [e1, hr]; simp
    rw [e1, e2] at hcp
    have hpl := parseList_any r (by rw [hr] at hl; simp at hl; omega) _ (env_keep hE b0)
    rw [← hA2] at hpl
    clear hA hA2 h1 h2 hr e1 e2
    generalize hW : w.alloc (.cells #[.int .i64 0, .complex .f64 0 0, .bool false, .slice none 0 0] 35) = W at *
    go_enter Tryz.func16, Tryz.ntmps16
    go_wp2_with fail
    refine (hcp _).mono ?_
    rintro e w1 ⟨rfl, hw1⟩
    rw [hw1]
    clear hw1 hcp hW
    go_wp2_with fail
    refine hpl.mono ?_
    rintro e w2 ⟨hpa, hb2⟩
    obtain ⟨ao, cap, rfl, hvr, hO⟩ := hpa.ex
    have hRr := hR0.up hb2
    have hPA : ∀ X, OwZ X W.heap.size (.slice ao (pR A).zs.length cap) (pR A).zs → Vr X ao (pR A) → PA w.heap.size A (.returned (.tuple #[vV ao cap (pR A), .int .i64 (pE A)])) X := fun X h1 h2 => ⟨ao, cap, rfl, h2, owns_mono h1 b0.size⟩
    have HPA : Hid (∀ X, OwZ X W.heap.size (.slice ao (pR A).zs.length cap) (pR A).zs → Vr X ao (pR A) → PA w.heap.size A (.returned (.tuple #[vV ao cap (pR A), .int .i64 (pE A)])) X) := hPA
    have HO : Hid (OwZ w2 W.heap.size (.slice ao (pR A).zs.length cap) (pR A).zs) := hO
    have HV : Hid (Vr w2 ao (pR A)) := hvr
    clear hO hvr hPA hpl
    unfold vV at HPA ⊢
    generalize pE A = pe at *
    generalize pR A = v at *
    obtain ⟨t, ⟨x, y⟩, b, zs⟩ := v
    go_wp2_with (refine wpList_storeN rfl 35 (.tmp 2) (.tmp 23) rfl w.heap.size 0 [.int .i64 t, .complex .f64 x y, .bool b, .slice ao zs.length cap] rfl rfl hRr (Nat.le_refl 4) Tryz.infoV (one4 _ _ _ _ _ _ _) ?_; intro w9 hB9 hO9)
    have z0 : w9.cell? ⟨w.heap.size, 0, none⟩ = some (.int .i64 t) := hB9.cell 0
    have z1 : w9.cell? ⟨w.heap.size, 1, none⟩ = some (.complex .f64 x y) := hB9.cell 1
    have z2 : w9.cell? ⟨w.heap.size, 2, none⟩ = some (.bool b) := hB9.cell 2
    have z3 : w9.cell? ⟨w.heap.size, 3, none⟩ = some (.slice ao zs.length cap) := hB9.cell 3
    go_wp2
    have hO2 := owns_oth HO.out hRr (by decide) hO9
    obtain ⟨ao2, c2, e2, _, hzr⟩ := OwZ.zr (B := W.heap.size) hO2 HV.out.l.lt
    have hao : ao = ao2 := by simp only [Value.slice.injEq] at e2; exact e2.1
    subst hao
    exact bodyPost_ret (v := .tuple #[.agg #[.int .i64 t, .complex .f64 x y, .bool b, .slice ao zs.length cap], .int .i64 pe]) (by simp [results, Tryz.results16, go_sem, z0, z1, z2, z3]) rfl ⟨HPA.out _ hO2 ⟨HV.out.z, hzr, HV.out.n⟩, (b0.trans (hb2.mono b0.size)).trans (hO9.below (Nat.le_refl _))⟩
  · have hA2 : A = (rdG l).map .n := by
      rw [hA]
      unfold pvV
      rw [if_neg h1, if_neg h2]
      split
      · rename_i r; exact absurd ⟨r, rfl⟩ h3
      · rfl
    have e1 : Lib.hasPrefix l [91] = false := by
      cases l with
      | nil => rfl
      | cons c r =>
        have : c ≠ 91 := fun e => h3 ⟨r, by rw [e]⟩
        simp [Lib.hasPrefix, List.isPrefixOf]
        exact fun e => this e.symm
    rw [e1] at hcp
    have hgp := gparse_any l (by omega) _ (env_keep hE b0)
    generalize hW : w.alloc (.cells #[.int .i64 0, .complex .f64 0 0, .bool false, .slice none 0 0] 35) = W at *
    cases hg : rdG l with
    | none =>
      rw [hg] at hA2 hgp
      subst hA2
      clear hA h1 h2 h3 e1
      go_enter Tryz.func16, Tryz.ntmps16
      go_wp2_with fail
      refine (hcp _).mono ?_
      rintro e w1 ⟨rfl, hw1⟩
      rw [hw1]
      clear hw1 hcp hW
      go_wp2_with fail
      refine hgp.mono ?_
      rintro e w2 ⟨rfl, hb2⟩
      have hRr := hR0.up hb2
      go_wp2_with (refine wpList_storeN rfl 35 (.tmp 2) (.tmp 32) rfl w.heap.size 0 [.int .i64 0, .complex .f64 0 0, .bool false, .slice none 0 0] rfl rfl hRr (Nat.le_refl 4) Tryz.infoV (one4 _ _ _ _ _ _ _) ?_; intro w9 hB9 hO9)
      have z0 : w9.cell? ⟨w.heap.size, 0, none⟩ = some (.int .i64 0) := hB9.cell 0
      have z1 : w9.cell? ⟨w.heap.size, 1, none⟩ = some (.complex .f64 0 0) := hB9.cell 1
      have z2 : w9.cell? ⟨w.heap.size, 2, none⟩ = some (.bool false) := hB9.cell 2
      have z3 : w9.cell? ⟨w.heap.size, 3, none⟩ = some (.slice none 0 0) := hB9.cell 3
      go_wp2
      exact bodyPost_ret (v := .tuple #[.agg #[.int .i64 0, .complex .f64 0 0, .bool false, .slice none 0 0], .int .i64 11]) (by simp [results, Tryz.results16, go_sem, z0, z1, z2, z3]) rfl ⟨PA_none _ _, (b0.trans (hb2.mono b0.size)).trans (hO9.below (Nat.le_refl _))⟩
    | some z =>
      have hz := (rdG_rdr.of _ _ hg).1
      rw [hg] at hA2 hgp
      simp only [Option.map_some, Option.getD_some, Option.isSome_some, if_true] at hgp hA2
      have HP : Hid (∀ X, PA w.heap.size A (.returned (.tuple #[.agg #[.int .i64 1, .complex .f64 (wz z).1 (wz z).2, .bool false, .slice none 0 0], .int .i64 0])) X) := fun X => by rw [hA2]; exact PA_num hz
      clear hA hA2 h1 h2 h3 e1 hg hz
      generalize wz z = y at *
      go_enter Tryz.func16, Tryz.ntmps16
      go_wp2_with fail
      refine (hcp _).mono ?_
      rintro e w1 ⟨rfl, hw1⟩
      rw [hw1]
      clear hw1 hcp hW
      go_wp2_with fail
      refine hgp.mono ?_
      rintro e w2 ⟨rfl, hb2⟩
      have hRr := hR0.up hb2
      go_wp2_with (refine wpList_storeN rfl 35 (.tmp 2) (.tmp 34) rfl w.heap.size 0 [.int .i64 1, .complex .f64 y.1 y.2, .bool false, .slice none 0 0] rfl rfl hRr (Nat.le_refl 4) Tryz.infoV (one4 _ _ _ _ _ _ _) ?_; intro w9 hB9 hO9)
      have z0 : w9.cell? ⟨w.heap.size, 0, none⟩ = some (.int .i64 1) := hB9.cell 0
      have z1 : w9.cell? ⟨w.heap.size, 1, none⟩ = some (.complex .f64 y.1 y.2) := hB9.cell 1
      have z2 : w9.cell? ⟨w.heap.size, 2, none⟩ = some (.bool false) := hB9.cell 2
      have z3 : w9.cell? ⟨w.heap.size, 3, none⟩ = some (.slice none 0 0) := hB9.cell 3
      go_wp2
      exact bodyPost_ret (v := .tuple #[.agg #[.int .i64 1, .complex .f64 y.1 y.2, .bool false, .slice none 0 0], .int .i64 0]) (by simp [results, Tryz.results16, go_sem, z0, z1, z2, z3]) rfl ⟨HP.out _, (b0.trans (hb2.mono b0.size)).trans (hO9.below (Nat.le_refl _))⟩
end Go.Proofs.YtbgggbkmnfppoaaGreatDoor
