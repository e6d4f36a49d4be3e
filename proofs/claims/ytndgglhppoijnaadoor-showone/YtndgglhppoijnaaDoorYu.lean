/-
  The walk of the document's def, where the limit of functions IS met.
-/
import Derived.Test.YtndgglhppoijnaaDoorUT
import Derived.Deep.RegionHeld3
namespace Go.Proofs.YtndgglhppoijnaaDoor
open Go.RowKit
set_option maxRecDepth 100000

set_option maxHeartbeats 16000000 in
theorem rdef_lim (I : Rdi) (hE : Ends I.M I.n) (hW : ∀ s ∈ lks, Wm I.M s) (f : Nat) (hA : AllR I f) (num : Nat) (w : World) (R k z : Nat) (hz : z = 0) (h : Rq I w R k 0 0 z) (hl : (I.M k).kind = 0 ∧ I.lf ≤ (num : Int)) (hne : defP I.M (lmOf I) f num k ≠ .out) :
    Calls Tryd.prog 28 #[.pointer (some ⟨R, 0, none⟩), .int .i64 num] w (DA I R z w (defP I.M (lmOf I) f num k)) := by
  obtain ⟨r, hr⟩ : ∃ r, r = defP I.M (lmOf I) f num k := ⟨_, rfl⟩
  rw [← hr] at hne ⊢
  have HR : Hid (r = _) := hr
  clear hr
  have hlt := h.lt
  have hcx := store_cx
  have hW3 : ∀ s ∈ [[78], [66], [76]], Wm I.M s := fun s hs => hW s (by simp only [List.mem_cons, List.not_mem_nil, or_false] at hs; rcases hs with rfl | rfl | rfl <;> simp [lks])
  have hW40 := hW [40] (by simp [lks])
  have hW41 := hW [41] (by simp [lks])
  have hW44 := hW [44] (by simp [lks])
  have hW58 := hW [58] (by simp [lks])
  have hW61 := hW [61] (by simp [lks])
  have hW59 := hW [59] (by simp [lks])
  have HZ : Hid (z = 0) := hz
  clear hz
  obtain ⟨rn, hrn⟩ : ∃ rn, rn = nameOfP I.M num (lmOf I).f k := ⟨_, rfl⟩
  obtain ⟨rp, hrp⟩ : ∃ rp, rp = nx rn (paramsP I.M (lmOf I) f) := ⟨_, rfl⟩
  obtain ⟨r3, hr3⟩ : ∃ r3, r3 = nx (nx rp (mustP I.M [58])) (typeP I.M) := ⟨_, rfl⟩
  obtain ⟨r5, hr5⟩ : ∃ r5, r5 = nx (nx r3 (mustP I.M [61])) (exprP I.M (lmOf I) f z) := ⟨_, rfl⟩
  obtain ⟨r6, hr6⟩ : ∃ r6, r6 = nx r5 (mustP I.M [59]) := ⟨_, rfl⟩
  have HC : Hid _ := def_chain I.M (lmOf I) f num k rn rp r3 r5 r6 hrn hrp hr3 (by rw [hr5, show z = 0 from HZ]) hr6
  have HN : Hid (rn = _) := hrn
  have HP : Hid (rp = _) := hrp
  have H3 : Hid (r3 = _) := hr3
  have H5 : Hid (r5 = _) := hr5
  have H6 : Hid (r6 = _) := hr6
  have hrpo : rp ≠ .out := fun e => hne (by rw [show r = _ from HR]; exact (show _ ∧ _ from HC).2.1 e)
  have hr5o : r5 ≠ .out := fun e => hne (by rw [show r = _ from HR]; exact (show _ ∧ _ from HC).2.2.1 e)
  clear hrn hrp hr3 hr5 hr6
  have Q_1 := h.up (below_alloc w (.cells fz 41))
  have U_1 := (But.refl R w).then (below_alloc w (.cells fz 41))
  have hB0 : Bk (w.alloc (.cells fz 41)) w.heap.size 41 [.string ⟨#[]⟩, .slice none 0 0, .int .i64 0, .int .i64 0, .string ⟨#[]⟩, .string ⟨#[]⟩, .int .i64 0, .complex .f64 0 0, .slice none 0 0, .int .i64 0, .int .i64 0] := Bk.new w 41 fz
  have lB_1 := hB0.lt
  have hf := fun W => (fldM (I.M k) W).1
  obtain ⟨-, -, c2, -, c5, -⟩ := Q_1.nine
  have b0 : ((I.M k).kind == 0) = true := by rw [hl.1]; rfl
  have b1 : decide (I.lf ≤ (num : Int)) = true := by rw [decide_eq_true_eq]; exact hl.2
  have HL : Hid (rn = .bad 22 k) := by
    show rn = _
    rw [show rn = _ from HN, nameOfP]
    exact if_pos ⟨hl.2, hl.1⟩
  clear hl
  go_enter Tryd.func28, Tryd.ntmps28
  go_wp2_with fail
  refine (rnext_any I _ R k 0 0 z Q_1).mono ?_
  rintro e w1 ⟨rfl, hb1⟩
  have Q_2 := Q_1.up hb1
  have U_2 := U_1.then hb1
  have B_2 := hB0.up hb1
  have lB_2 := B_2.lt
  have s_2 := hb1.size
  unfold mkV
  obtain ⟨-, -, d2, -, d5, -⟩ := Q_2.nine
  go_wp2_with fail
  refine (rfail_live I w1 R k 22 z Q_2).mono ?_
  rintro e w2 ⟨rfl, hd2, hV2⟩
  have U_3 := U_2.trans hV2
  have B_3 := B_2.but hV2 (by omega)
  have lB_3 := B_3.lt
  have s_3 := hV2.size
  go_wp2_with fail
  refine (rname_any I hE (.bad 22 k : Rs Unit) w2 R z ⟨by decide, k, z, hd2⟩).mono ?_
  rintro e w3 ⟨m, rfl, hgm, hs3, hV3⟩
  have hgm : Got rn m := fun x j e => by rw [show rn = _ from HL] at e; cases e
  have hs3 : St I w3 R z rn := by rw [show rn = _ from HL]; exact hs3
  have U_4 := U_3.trans hV3
  have B_4 := B_3.but hV3 (by omega)
  have lB_4 := B_4.lt
  have s_4 := hV3.size
  unfold mkV
  go_wp2_with (first
    | (refine wpList_storeN rfl 83 (.tmp 5) (.tmp 25) rfl w3.heap.size 0 (mkC m) rfl rfl (Bk.new w3 83 mz) (Nat.le_refl 4) Tryd.infoM (mkC_one _) ?_; intro w4 M_5 hoa5; have hba5 : Below w3.heap.size w3 w4 := (below_alloc w3 (.cells mz 83)).trans (hoa5.below (Nat.le_refl _)); have U_5 := U_4.then hba5; have B_5 := B_4.up hba5; have Q_5 := hs3.up hba5; have lB_5 := B_5.lt; have lM_5 := M_5.lt; have s_5 := hba5.size; obtain ⟨m0, m1, m2, m3⟩ := Bk.four (show Bk w4 w3.heap.size _ [_, _, _, _] from M_5))
    | (refine wpList_storeN rfl 41 (.tmp 6) (.tmp 30) rfl w4.heap.size 0 [.string (bs m.text), .slice none 0 0, .int .i64 0, .int .i64 0, .string ⟨#[]⟩, .string ⟨#[]⟩, .int .i64 0, .complex .f64 0 0, .slice none 0 0, .int .i64 0, .int .i64 m.at_] rfl rfl (Bk.new w4 41 fz) (Nat.le_refl 11) Tryd.infoFn (f0_one _ _ _ _ _ _) ?_; intro w5 F_6 hoa6; have hba6 : Below w4.heap.size w4 w5 := (below_alloc w4 (.cells fz 41)).trans (hoa6.below (Nat.le_refl _)); have U_6 := U_5.then hba6; have B_6 := B_5.up hba6; have Q_6 := Q_5.up hba6; have M_6 := M_5.up hba6; have lB_6 := B_6.lt; have lM_6 := M_6.lt; have lF_6 := F_6.lt; have s_6 := hba6.size))
  refine (rwant_any I hE [40] hW40 rn w5 R z Q_6).mono ?_
  rintro e w6 ⟨rfl, hs6, hV6⟩
  have U_7 := U_6.trans hV6
  have B_7 := B_6.but hV6 (by omega)
  have F_7 := F_6.but hV6 (by omega)
  have lB_7 := B_7.lt
  have lF_7 := F_7.lt
  have s_7 := hV6.size
  have hdd : ∃ (k0 : Nat) (d0 : Int), Rq I w6 R k0 22 (I.M k).at_ d0 := by
    rw [show rn = _ from HL] at hs6
    obtain ⟨-, k0, d0, hd⟩ := hs6
    exact ⟨k0, d0, hd⟩
  have hJ : LJ I f R z w4.heap.size w m rp w6 := by
    refine ⟨B_7, U_7, none, 0, [], F_7, PrW.nil _ _, ?_⟩
    cases hq : nx rn (mustP I.M [40]) with
    | out => rw [hq] at hs6; exact hs6.elim
    | bad y j =>
      rw [hq] at hs6
      obtain ⟨hy, k', d', hd⟩ := hs6
      exact .inr ⟨y, j, k', d', pg_none (show rp = _ from HP) hq, hy, hd⟩
    | ok u k' =>
      rw [hq] at hs6
      exact .inl ⟨k', pg_start (show rp = _ from HP) hq, hs6, Nat.zero_le _⟩
  have hg0 : w.heap.size < w4.heap.size := by omega
  have hgR : R < w4.heap.size ∧ I.b < w4.heap.size := by omega
  obtain ⟨gF, hgd⟩ : ∃ g, g = w4.heap.size := ⟨_, rfl⟩
  go_wp2_with fail
  rw [← hgd] at hJ hg0 hgR ⊢
  clear hgd B_7 U_7 F_7 hs6 m0 m1 m2 m3 hs3 d2 d5 c2 c5
  go_loopw [] (fun wr => LJ I f R z gF w m rp wr ∧ ∃ (k0 : Nat) (d0 : Int), Rq I wr R k0 22 (I.M k).at_ d0) (fun wr => msr I.n R wr)
  case atStart => exact ⟨hJ, hdd⟩
  case round =>
    obtain ⟨⟨hB, hU, ao, cc, ps, hF0, hPr, hst⟩, k0, d0, hdq⟩ := hrel
    have lB := hB.lt
    have lF := hF0.lt
    rcases hst with ⟨k2, HG, hd, hpk⟩ | ⟨y, j, k2, d', HD, hy, hd⟩
    · exact absurd (hd.nine.2.2.1.symm.trans hdq.nine.2.2.1) (by simp)
    · obtain ⟨-, -, c2, -⟩ := hd.nine
      have b0 : (y == 0) = false := by rw [beq_eq_false_iff_ne]; exact hy
      go_wp2_with fail
      refine (rwant_any I hE [41] hW41 (.bad y j : Rs Unit) wr R z ⟨hy, k2, d', hd⟩).mono ?_
      rintro e w7 ⟨rfl, hs7, hV7⟩
      have hs7 : St I w7 R z rp := by rw [show rp = _ from HD]; exact hs7
      have hgp : ∀ ps' j, rp = .ok ps' j → ps = ps' := by
        intro ps' j e
        rw [show rp = _ from HD] at e
        cases e
      have B_1 := hB.but hV7 (by omega)
      have U_1 := hU.trans hV7
      have F_1 := hF0.but hV7 (by omega)
      have P_1 := hPr.but hV7 (by omega)
      have lB_1 := B_1.lt
      have lF_1 := F_1.lt
      have s_1 := hV7.size
      go_wp2_with fail
      refine (rwant_any I hE [58] hW58 rp w7 R z hs7).mono ?_
      rintro e w8 ⟨rfl, hs8, hV8⟩
      have B_2 := B_1.but hV8 (by omega)
      have U_2 := U_1.trans hV8
      have F_2 := F_1.but hV8 (by omega)
      have P_2 := P_1.but hV8 (by omega)
      have lB_2 := B_2.lt
      have lF_2 := F_2.lt
      have s_2 := hV8.size
      go_wp2_with fail
      refine (rtyp_any I hE hW3 (nx rp (mustP I.M [58])) w8 R z hs8).mono ?_
      rintro e w9 ⟨t, rfl, hgt, hs9, hV9⟩
      have B_3 := B_2.but hV9 (by omega)
      have U_3 := U_2.trans hV9
      have F_3 := F_2.but hV9 (by omega)
      have P_3 := P_2.but hV9 (by omega)
      have lB_3 := B_3.lt
      have lF_3 := F_3.lt
      have s_3 := hV9.size
      obtain ⟨-, -, x2, -⟩ := Bk.eleven (show Bk w9 gF _ [_, _, _, _, _, _, _, _, _, _, _] from F_3)
      have y2 := F_3.frz 2
      have hoT := (Oth.refl gF w9).set 2 (.int .i64 t)
      have hF10 : Bk (w9.setCell ⟨gF, 2, none⟩ (.int .i64 t)) gF 41 [.string (bs m.text), .slice ao ps.length cc, .int .i64 t, .int .i64 0, .string ⟨#[]⟩, .string ⟨#[]⟩, .int .i64 0, .complex .f64 0 0, .slice none 0 0, .int .i64 0, .int .i64 m.at_] := F_3.set 2 (.int .i64 t)
      have hs9 : St I w9 R z r3 := by rw [show r3 = _ from H3]; exact hs9
      have hgt : Got r3 t := fun x j e => hgt x j (by rw [← show r3 = _ from H3]; exact e)
      have B_4 := B_3.oth hoT (by omega)
      have U_4 := hoT.but U_3 (by omega)
      have P_4 := P_3.oth hoT (by omega)
      have Q_4 := hs9.oth hoT (by omega) (by omega)
      have lB_4 := B_4.lt
      have lF_4 := hF10.lt
      go_wp2_with fail
      refine (rwant_any I hE [61] hW61 r3 _ R z Q_4).mono ?_
      rintro e w11 ⟨rfl, hs11, hV11⟩
      have B_5 := B_4.but hV11 (by omega)
      have U_5 := U_4.trans hV11
      have P_5 := P_4.but hV11 (by omega)
      have F_5 := hF10.but hV11 (by omega)
      have lB_5 := B_5.lt
      have lF_5 := F_5.lt
      have s_5 := hV11.size
      go_wp2_with fail
      refine (hA.expr (nx r3 (mustP I.M [61])) w11 R z hs11 (by rw [← show r5 = _ from H5]; exact hr5o)).mono ?_
      rintro e w12 ⟨us, rfl, sv, hex, hs12, hV12⟩
      obtain ⟨e0, e1, e2, e3, e4, e5, e6, rfl⟩ := list7 sv.len
      have B_6 := B_5.but hV12 (by omega)
      have U_6 := U_5.trans hV12
      have P_6 := P_5.but hV12 (by omega)
      have F_6 := F_5.but hV12 (by omega)
      have lB_6 := B_6.lt
      have lF_6 := F_6.lt
      have s_6 := hV12.size
      have hs12 : St I w12 R z r5 := by rw [show r5 = _ from H5]; exact hs12
      have hex : ∀ x j, r5 = .ok x j → ExV w12 w11.heap.size x [e0, e1, e2, e3, e4, e5, e6] := fun x j e => hex x j (by rw [← show r5 = _ from H5]; exact e)
      go_wp2_with (first
        | (refine wpList_storeN rfl 39 (.tmp 99) (.tmp 98) rfl gF 3 [e0, e1, e2, e3, e4, e5, e6] rfl rfl F_6 (show (3 + 7 : Nat) ≤ 11 by decide) Tryd.infoE sv.one ?_; intro w13 hF13 ho13)
        | fail)
      have hF13 : Bk w13 gF 41 [.string (bs m.text), .slice ao ps.length cc, .int .i64 t, e0, e1, e2, e3, e4, e5, e6, .int .i64 m.at_] := hF13
      have B_7 := B_6.oth ho13 (by omega)
      have U_7 := ho13.but U_6 (by omega)
      have P_7 := P_6.oth ho13 (by omega)
      have Q_7 := hs12.oth ho13 (by omega) (by omega)
      have X_7 := fun x j e => (hex x j e).oth2 ho13 (fun b hb => by omega)
      have lB_7 := B_7.lt
      have lF_7 := hF13.lt
      refine (rwant_any I hE [59] hW59 r5 w13 R z Q_7).mono ?_
      rintro e w14 ⟨rfl, hs14, hV14⟩
      have B_8 := B_7.but hV14 (by omega)
      have U_8 := U_7.trans hV14
      have P_8 := P_7.but hV14 (by omega)
      have X_8 := fun x j e => (X_7 x j e).but2 hV14 (fun b hb => by omega)
      have F_8 := hF13.but hV14 (by omega)
      have lB_8 := B_8.lt
      have lF_8 := F_8.lt
      have s_8 := hV14.size
      have hs14 : St I w14 R z r6 := by rw [show r6 = _ from H6]; exact hs14
      have hse := se_mk (bs m.text) ao ps.length cc t m.at_ sv
      go_wp2_with (first
        | refine wpList_loadN rfl 41 (.tmp 6) rfl gF 0 rfl [.string (bs m.text), .slice ao ps.length cc, .int .i64 t, e0, e1, e2, e3, e4, e5, e6, .int .i64 m.at_] _ (F_8.range 0 11) Tryd.underFn Tryd.infoFn ?_
        | (refine wpList_storeN rfl 41 (.tmp 4) (.tmp 102) rfl w.heap.size 0 [.string (bs m.text), .slice ao ps.length cc, .int .i64 t, e0, e1, e2, e3, e4, e5, e6, .int .i64 m.at_] rfl rfl B_8 (Nat.le_refl 11) Tryd.infoFn hse.one ?_; intro wz hBz hoz; obtain ⟨q0, q1, q2, q3, q4, q5, q6, q7, q8, q9, q10⟩ := Bk.eleven (show Bk wz w.heap.size _ [_, _, _, _, _, _, _, _, _, _, _] from hBz))
        | fail)
      have U_9 := hoz.but U_8 (by omega)
      have P_9 := P_8.oth hoz (by omega)
      have X_9 := fun x j e => (X_8 x j e).oth2 hoz (fun b hb => by omega)
      have F_9 := F_8.oth hoz (by omega)
      have Q_9 := hs14.oth hoz (by omega) (by omega)
      refine bodyPost_ret (v := .agg #[.string (bs m.text), .slice ao ps.length cc, .int .i64 t, e0, e1, e2, e3, e4, e5, e6, .int .i64 m.at_]) (by simp [results, Tryd.results28, go_sem, q0, q1, q2, q3, q4, q5, q6, q7, q8, q9, q10]) rfl ⟨_, rfl, hse, ?_, ?_, U_9⟩
      · intro x0 j0 e
        rw [show r = _ from HR] at e
        obtain ⟨ch1, -, -, ch4⟩ := (show _ ∧ _ ∧ _ ∧ _ from HC)
        cases hq6 : r6 with
        | out => rw [hq6] at hs14; exact hs14.elim
        | bad y' j' => rw [ch1 y' j' hq6] at e; cases e
        | ok u j6 =>
          obtain ⟨x, i1, ps', i2, t', i4, b, i6, g1, g2, g3, g5, g6⟩ := ch4 u j6 hq6
          rw [g6] at e
          cases e
          obtain rfl := hgm x i1 g1
          obtain rfl := hgp ps' i2 g2
          obtain rfl := hgt t' i4 g3
          exact ⟨ao, cc, _, rfl, (P_9.read).imp fun b hb _ => by omega, (X_9 b i6 g5).imp fun b hb _ => by omega⟩
      · rw [show r = _ from HR]
        obtain ⟨ch1, -, -, ch4⟩ := (show _ ∧ _ ∧ _ ∧ _ from HC)
        have hsz := Q_9
        cases hq6 : r6 with
        | out => rw [hq6] at hsz; exact hsz.elim
        | bad y' j' => rw [hq6] at hsz; rw [ch1 y' j' hq6]; exact hsz
        | ok u j6 =>
          obtain ⟨x, i1, ps', i2, t', i4, b, i6, g1, g2, g3, g5, g6⟩ := ch4 u j6 hq6
          rw [hq6] at hsz
          rw [g6]
          exact hsz
end Go.Proofs.YtndgglhppoijnaaDoor
