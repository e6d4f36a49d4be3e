/-
  The walk of the document's Apply where the operation fits: sums, products, quotients, the order.
-/
import Derived.Test.YtebpjcjoapahnaaPx
namespace Go.Proofs.Ytebpjcjoapahnaa
open Go.RowKit
set_option maxRecDepth 100000

theorem rnum_at (U Z E : Int) (W : World) {t : Int} {x y : Nat} {r : Bool} (h : nuR (fl U, fl Z) E = ⟨t, (x, y), r, []⟩) :
    Calls Try.prog 35 #[.agg #[.int .i64 U, .int .i64 Z], .int .i64 E] W fun e w' => e = .returned (.tuple #[.agg #[.int .i64 t, .complex .f64 x y, .bool r, .slice none 0 0], .int .i64 E]) ∧ Below W.heap.size W w' := by
  have := rnumber_any U Z E W
  rw [h] at this
  exact this
theorem But.cell {R : Nat} {w w' : World} {a : Addr} (h : But R w w') (hl : a.block < w.heap.size) (hn : a.block ≠ R) : w'.cell? a = w.cell? a := World.cell?_of_block (w := w) (h.block _ hl hn)
theorem Bk.but2 {R : Nat} {w w' : World} {t : TypeId} {vs : List Value} (h : Bk w R t vs) (hb : Below w.heap.size w w') : Bk w' R t vs := h.up hb

set_option maxHeartbeats 4000000 in
theorem rgood_8 (ao : Option Addr) (cap : Nat) (l : List Ai) (w : World) (h : Ar w ao l) (a b : Wz) (hv : l.map (·.2.2) = [rn a, rn b]) (ha : vc a.1 a.2 = true) (hb : vc b.1 b.2 = true) {t k : Int} {x y : Nat} {r : Bool} (hV : Hid (nuR (opR addX addY a.1 a.2 b.1 b.2, opI addX addY a.1 a.2 b.1 b.2) k = ⟨t, (x, y), r, []⟩)) (hE : Hid (opE addX addY a.1 a.2 b.1 b.2 = k)) :
    Calls Try.prog 13 #[.int .i64 8, .slice ao 2 cap] w fun e w' => e = .returned (.tuple #[.agg #[.int .i64 t, .complex .f64 x y, .bool r, .slice none 0 0], .int .i64 k]) ∧ Below w.heap.size w w' := by
  have b0 := below_alloc w (.cells #[.int .i64 0, .complex .f64 0 0, .bool false, .slice none 0 0] 32)
  have hR0 := Bk.new w 32 #[.int .i64 0, .complex .f64 0 0, .bool false, .slice none 0 0]
  have ht := fun W => rtakes_any 8 W
  rw [show tkN 8 = 2 from rfl, show tkT 8 = 1 from rfl] at ht
  obtain ⟨vs, hvs⟩ : ∃ vs, Hid (vs = l.map (·.2.2)) := ⟨_, rfl⟩
  have HLL : Hid (l.length = 2) := by show _ = _; have := congrArg List.length hv; simpa using this
  have HLEN : Hid (vs.length = 2) := by show _ = _; rw [hvs.out, List.length_map, HLL.out]
  have HZ : Hid (∀ i ∈ l, ∃ z : Wz, i.2.2 = rn z ∧ vc z.1 z.2 = true) := by
    intro i hi
    have hm : i.2.2 ∈ l.map (·.2.2) := List.mem_map.2 ⟨i, hi, rfl⟩
    rw [hv] at hm
    simp only [List.mem_cons, List.not_mem_nil, or_false] at hm
    rcases hm with e | e
    · exact ⟨a, e, ha⟩
    · exact ⟨b, e, hb⟩
  have HZO : Hid (vs.map zOf = [(nb a.1, nb a.2), (nb b.1, nb b.2)]) := by show _ = _; rw [hvs.out, hv]; simp only [List.map_cons, List.map_nil, zOf_rn ha, zOf_rn hb]
  have HA : Hid (Ar _ ao l) := h.up b0
  clear h
  generalize hW : w.alloc (.cells #[.int .i64 0, .complex .f64 0 0, .bool false, .slice none 0 0] 32) = W at *
  go_enter Try.func13, Try.ntmps13
  go_wp2_with fail
  refine (ht _).mono ?_
  rintro e w1 ⟨rfl, hw1⟩
  rw [hw1]
  clear hw1 ht hW
  go_wp2_with fail
  go_loopw [8, 9, 10] (fun f v i wr => ∃ (k : Nat) (x9 : Option Addr) (y9 : Nat), k ≤ 2 ∧ f = .bool true ∧ v = .slice x9 k y9 ∧ i = .int .i64 k ∧ Below W.heap.size W wr ∧ Hid (OwN wr W.heap.size (.slice x9 k y9) ((vs.take k).map zOf))) (fun _ _ i _ => 2 - (intOf i).toNat)
  case atStart => exact ⟨0, none, 0, Nat.zero_le _, rfl, rfl, rfl, Below.refl _ _, OwN.nil _ _⟩
  case round =>
    obtain ⟨k, x9, y9, hkn, rfl, rfl, rfl, hB, hO⟩ := hrel
    by_cases hlt : k < 2
    · have hk : k < l.length := by rw [HLL.out]; exact hlt
      have hk2 : k < vs.length := by rw [HLEN.out]; exact hlt
      obtain ⟨bb, off, rfl, hv4⟩ := (HA.out.up hB).pl (by intro e; rw [e] at hk; simp at hk)
      have v4 := hv4 k hk
      have vr := (HA.out.up hB).vr _ (getD_mem (d := ai0) hk)
      have hm : vs.getD k rv0 = (l.getD k ai0).2.2 := by rw [hvs.out]; exact map_getD l k hk
      have HT : Hid ((vs.take (k + 1)).map zOf = (vs.take k).map zOf ++ [zOf (l.getD k ai0).2.2]) := by rw [← hm]; exact take_map_zOf hk2
      obtain ⟨z, hz, hvz⟩ := HZ.out _ (getD_mem (d := ai0) hk)
      generalize l.getD k ai0 = i at *
      obtain ⟨ai, ci, u⟩ := i
      simp only at hz
      subst hz
      simp only at *
      obtain ⟨c0, c1, c2, c3⟩ := v4
      have hvl := fun W (hW : Vr W ai (rn z)) => rvalid_any (rn z) ai ci W hW
      rw [sound_rn hvz] at hvl
      have hof := fun W => ofb_any (rn z).z W vr.z
      unfold vV at hvl
      obtain ⟨X, hX⟩ : ∃ X, Hid (X = ofX (rn z).z.1 (rn z).z.2) := ⟨_, rfl⟩
      obtain ⟨Y, hY⟩ : ∃ Y, Hid (Y = ofY (rn z).z.1 (rn z).z.2) := ⟨_, rfl⟩
      rw [← hX.out, ← hY.out] at hof
      have HZz : Hid (zOf (rn z) = (X, Y)) := by show (_, _) = (_, _); rw [hX.out, hY.out]
      have HL2 : Hid (((vs.take k).map zOf).length < 8796093022208) := by show _ < _; rw [List.length_map, List.length_take]; omega
      have HL3 : Hid (((vs.take k).map zOf).length = k) := by show _ = _; rw [List.length_map, List.length_take, HLEN.out]; omega
      generalize vc (rn z).z.1 (rn z).z.2 = vq at *
      simp only [rn, List.length_nil] at c0 c1 c2 c3 hvl hof
      clear hv4 hm hk2 hk hX hY HZ HZO
      go_wp2_with fail
      refine (hvl _ vr).mono ?_
      rintro e w1 ⟨rfl, hb1⟩
      have d0 := (hb1.cell (cell_lt c0)).trans c0
      have d1 := (hb1.cell (cell_lt c1)).trans c1
      clear c0 c1 c2 c3
      go_wp2_with fail
      refine (hof _).mono ?_
      rintro e w2 ⟨rfl, hb2⟩
      have b2 := Below.thn hb1 (Below.thn hb2 (below_alloc w2 (.cells #[.int .i64 X, .int .i64 Y] 68)))
      obtain ⟨v9, w9, r9, o9, k9⟩ := own_nm (w2.alloc (.cells #[.int .i64 X, .int .i64 Y] 68)) W.heap.size (.slice x9 k y9) ((vs.take k).map zOf) (X, Y) (hO.out.up b2) (Nat.le_trans hB.size b2.size) HL2.out
      obtain ⟨p9, q9, e9, _, _⟩ := owns_slice o9
      rw [List.length_append, List.length_singleton, HL3.out] at e9
      subst e9
      have R9 : Hid (_ = _) := r9
      rw [show (w2.alloc (.cells #[.int .i64 X, .int .i64 Y] 68)).heap.size = w2.heap.size + 1 by simp] at R9
      have b9 : Below W.heap.size W w9 := (hB.trans (b2.mono hB.size)).trans k9.low
      clear r9 d0 d1
      go_wp2_with (at_builtin; refine wpList_append_run rfl (.tmp 57) (.tmp 59) 65 rfl rfl (.slice x9 k y9) (.slice (some ⟨w2.heap.size + 1, 0, none⟩) 1 1) rfl rfl (.slice p9 (k + 1) q9) w9 (show _ = _ from R9) ?_)
      all_goals
        go_roundw
        case rel => exact ⟨k + 1, p9, q9, by omega, rfl, rfl, by go_num, b9, by rw [HT.out, HZz.out]; exact o9⟩
        case measure => simp [intOf]; omega
    · have hke : k = 2 := by omega
      subst hke
      have hO2 : OwN wr W.heap.size (.slice x9 2 y9) (vs.map zOf) := by
        have := hO.out
        rwa [List.take_of_length_le (by rw [HLEN.out]; exact Nat.le_refl _)] at this
      rw [HZO.out] at hO2
      have hR1 := hR0.up hB
      have b1 := b0.trans (hB.mono b0.size)
      obtain ⟨g, rfl, hg, e0, e1, e2, e3⟩ := hO2.two
      simp only at e0 e1 e2 e3
      have hgl := cell_lt e0
      have hgR : g ≠ w.heap.size := by have h1 := hR0.lt; omega
      have HS : Hid (∀ X, But w.heap.size wr X → X.cell? ⟨g, 0, none⟩ = some (.int .i64 (nb a.1)) ∧ X.cell? ⟨g, 1, none⟩ = some (.int .i64 (nb a.2)) ∧ X.cell? ⟨g, 2, none⟩ = some (.int .i64 (nb b.1)) ∧ X.cell? ⟨g, 2 + 1, none⟩ = some (.int .i64 (nb b.2))) := fun X hX => ⟨(hX.cell (a := ⟨g, 0, none⟩) hgl hgR).trans e0, (hX.cell (a := ⟨g, 1, none⟩) hgl hgR).trans e1, (hX.cell (a := ⟨g, 2, none⟩) hgl hgR).trans e2, (hX.cell (a := ⟨g, 2 + 1, none⟩) hgl hgR).trans e3⟩
      have s1 := HS.out wr (But.refl _ _)
      have hcx := store_cx
      have hadd := fun W => refadd_w a.1 a.2 b.1 b.2 W (show valid4 a.1 a.2 b.1 b.2 = true by rw [valid4_vc, ha, hb]; rfl)
      clear hO hO2 HZ HZO HA hg e0 e1 e2 e3
      go_upto_region 14 with fail
      go_region_held3 (fun X => X.cell? ⟨g, 0, none⟩ = some (.int .i64 (nb a.1)) ∧ X.cell? ⟨g, 1, none⟩ = some (.int .i64 (nb a.2)) ∧ X.cell? ⟨g, 2, none⟩ = some (.int .i64 (nb b.1)) ∧ X.cell? ⟨g, 2 + 1, none⟩ = some (.int .i64 (nb b.2))) ((refine HS.out _ ?_; repeat (first | (with_reducible exact But.refl _ _) | (with_reducible exact bt2) | (with_reducible exact bt3) | refine But.setR ?_ _ | refine But.drew ?_))) (first
        | (go_at_call 36; (with_reducible refine Calls.mono (hadd _) ?_); rintro e w2 ⟨U, Z, E, hid, rfl, hb2'⟩; obtain ⟨h1, h2, h3⟩ := hid.out; have hk : E = k := h1.symm.trans hE.out; subst hk; have hn : Hid (nuR (fl U, fl Z) E = ⟨t, (x, y), r, []⟩) := (by show _ = _; rw [← h2, ← h3]; exact hV.out); have hb2 := Below.thn (Below.refl wr.heap.size wr).drew hb2'; have bt2 := bel_but hb2 w.heap.size; have hR2 := hR1.up hb2; have b2 := b1.trans (hb2.mono b1.size); clear hid h1 h2 h3)
        | (go_at_call 35; (with_reducible refine Calls.mono (rnum_at U Z E _ hn.out) ?_); rintro e w3 ⟨rfl, hb3⟩; have bt3 := bt2.then hb3; have hRl := hR2.up hb3; have bl := b2.trans (hb3.mono b2.size); have g0 : w3.cell? ⟨w.heap.size, 0, none⟩ = some (.int .i64 0) := hRl.cell 0; have f0 : w3.frozen? ⟨w.heap.size, 0, none⟩ = false := hRl.frz 0; have g1 : w3.cell? ⟨w.heap.size, 1, none⟩ = some (.complex .f64 0 0) := hRl.cell 1; have f1 : w3.frozen? ⟨w.heap.size, 1, none⟩ = false := hRl.frz 1; have g2 : w3.cell? ⟨w.heap.size, 2, none⟩ = some (.bool false) := hRl.cell 2; have f2 : w3.frozen? ⟨w.heap.size, 2, none⟩ = false := hRl.frz 2; have g3 : w3.cell? ⟨w.heap.size, 3, none⟩ = some (.slice none 0 0) := hRl.cell 3; have f3 : w3.frozen? ⟨w.heap.size, 3, none⟩ = false := hRl.frz 3)
        | fail)
      all_goals
        have hR9 := (((hRl.set 0 (.int .i64 t)).set 1 (.complex .f64 x y)).set 2 (.bool r)).set 3 (.slice none 0 0)
        have b9 := Below.setCell (Below.setCell (Below.setCell (Below.setCell bl (show w.heap.size ≤ (⟨w.heap.size, 0, none⟩ : Addr).block from Nat.le_refl _) (.int .i64 t)) (show w.heap.size ≤ (⟨w.heap.size, 1, none⟩ : Addr).block from Nat.le_refl _) (.complex .f64 x y)) (show w.heap.size ≤ (⟨w.heap.size, 2, none⟩ : Addr).block from Nat.le_refl _) (.bool r)) (show w.heap.size ≤ (⟨w.heap.size, 3, none⟩ : Addr).block from Nat.le_refl _) (.slice none 0 0)
        have z0 := hR9.cell 0
        have z1 := hR9.cell 1
        have z2 := hR9.cell 2
        have z3 := hR9.cell 3
        go_wp2_with fail
        exact bodyPost_ret (v := .tuple #[.agg #[.int .i64 t, .complex .f64 x y, .bool r, .slice none 0 0], .int .i64 E]) (by simp [results, Try.results13, go_sem, z0, z1, z2, z3]) rfl ⟨rfl, b9⟩


set_option maxHeartbeats 4000000 in
theorem rgood_9 (ao : Option Addr) (cap : Nat) (l : List Ai) (w : World) (h : Ar w ao l) (a b : Wz) (hv : l.map (·.2.2) = [rn a, rn b]) (ha : vc a.1 a.2 = true) (hb : vc b.1 b.2 = true) {t k : Int} {x y : Nat} {r : Bool} (hV : Hid (nuR (opR subX subY a.1 a.2 b.1 b.2, opI subX subY a.1 a.2 b.1 b.2) k = ⟨t, (x, y), r, []⟩)) (hE : Hid (opE subX subY a.1 a.2 b.1 b.2 = k)) :
    Calls Try.prog 13 #[.int .i64 9, .slice ao 2 cap] w fun e w' => e = .returned (.tuple #[.agg #[.int .i64 t, .complex .f64 x y, .bool r, .slice none 0 0], .int .i64 k]) ∧ Below w.heap.size w w' := by
  have b0 := below_alloc w (.cells #[.int .i64 0, .complex .f64 0 0, .bool false, .slice none 0 0] 32)
  have hR0 := Bk.new w 32 #[.int .i64 0, .complex .f64 0 0, .bool false, .slice none 0 0]
  have ht := fun W => rtakes_any 9 W
  rw [show tkN 9 = 2 from rfl, show tkT 9 = 1 from rfl] at ht
  obtain ⟨vs, hvs⟩ : ∃ vs, Hid (vs = l.map (·.2.2)) := ⟨_, rfl⟩
  have HLL : Hid (l.length = 2) := by show _ = _; have := congrArg List.length hv; simpa using this
  have HLEN : Hid (vs.length = 2) := by show _ = _; rw [hvs.out, List.length_map, HLL.out]
  have HZ : Hid (∀ i ∈ l, ∃ z : Wz, i.2.2 = rn z ∧ vc z.1 z.2 = true) := by
    intro i hi
    have hm : i.2.2 ∈ l.map (·.2.2) := List.mem_map.2 ⟨i, hi, rfl⟩
    rw [hv] at hm
    simp only [List.mem_cons, List.not_mem_nil, or_false] at hm
    rcases hm with e | e
    · exact ⟨a, e, ha⟩
    · exact ⟨b, e, hb⟩
  have HZO : Hid (vs.map zOf = [(nb a.1, nb a.2), (nb b.1, nb b.2)]) := by show _ = _; rw [hvs.out, hv]; simp only [List.map_cons, List.map_nil, zOf_rn ha, zOf_rn hb]
  have HA : Hid (Ar _ ao l) := h.up b0
  clear h
  generalize hW : w.alloc (.cells #[.int .i64 0, .complex .f64 0 0, .bool false, .slice none 0 0] 32) = W at *
  go_enter Try.func13, Try.ntmps13
  go_wp2_with fail
  refine (ht _).mono ?_
  rintro e w1 ⟨rfl, hw1⟩
  rw [hw1]
  clear hw1 ht hW
  go_wp2_with fail
  go_loopw [8, 9, 10] (fun f v i wr => ∃ (k : Nat) (x9 : Option Addr) (y9 : Nat), k ≤ 2 ∧ f = .bool true ∧ v = .slice x9 k y9 ∧ i = .int .i64 k ∧ Below W.heap.size W wr ∧ Hid (OwN wr W.heap.size (.slice x9 k y9) ((vs.take k).map zOf))) (fun _ _ i _ => 2 - (intOf i).toNat)
  case atStart => exact ⟨0, none, 0, Nat.zero_le _, rfl, rfl, rfl, Below.refl _ _, OwN.nil _ _⟩
  case round =>
    obtain ⟨k, x9, y9, hkn, rfl, rfl, rfl, hB, hO⟩ := hrel
    by_cases hlt : k < 2
    · have hk : k < l.length := by rw [HLL.out]; exact hlt
      have hk2 : k < vs.length := by rw [HLEN.out]; exact hlt
      obtain ⟨bb, off, rfl, hv4⟩ := (HA.out.up hB).pl (by intro e; rw [e] at hk; simp at hk)
      have v4 := hv4 k hk
      have vr := (HA.out.up hB).vr _ (getD_mem (d := ai0) hk)
      have hm : vs.getD k rv0 = (l.getD k ai0).2.2 := by rw [hvs.out]; exact map_getD l k hk
      have HT : Hid ((vs.take (k + 1)).map zOf = (vs.take k).map zOf ++ [zOf (l.getD k ai0).2.2]) := by rw [← hm]; exact take_map_zOf hk2
      obtain ⟨z, hz, hvz⟩ := HZ.out _ (getD_mem (d := ai0) hk)
      generalize l.getD k ai0 = i at *
      obtain ⟨ai, ci, u⟩ := i
      simp only at hz
      subst hz
      simp only at *
      obtain ⟨c0, c1, c2, c3⟩ := v4
      have hvl := fun W (hW : Vr W ai (rn z)) => rvalid_any (rn z) ai ci W hW
      rw [sound_rn hvz] at hvl
      have hof := fun W => ofb_any (rn z).z W vr.z
      unfold vV at hvl
      obtain ⟨X, hX⟩ : ∃ X, Hid (X = ofX (rn z).z.1 (rn z).z.2) := ⟨_, rfl⟩
      obtain ⟨Y, hY⟩ : ∃ Y, Hid (Y = ofY (rn z).z.1 (rn z).z.2) := ⟨_, rfl⟩
      rw [← hX.out, ← hY.out] at hof
      have HZz : Hid (zOf (rn z) = (X, Y)) := by show (_, _) = (_, _); rw [hX.out, hY.out]
      have HL2 : Hid (((vs.take k).map zOf).length < 8796093022208) := by show _ < _; rw [List.length_map, List.length_take]; omega
      have HL3 : Hid (((vs.take k).map zOf).length = k) := by show _ = _; rw [List.length_map, List.length_take, HLEN.out]; omega
      generalize vc (rn z).z.1 (rn z).z.2 = vq at *
      simp only [rn, List.length_nil] at c0 c1 c2 c3 hvl hof
      clear hv4 hm hk2 hk hX hY HZ HZO
      go_wp2_with fail
      refine (hvl _ vr).mono ?_
      rintro e w1 ⟨rfl, hb1⟩
      have d0 := (hb1.cell (cell_lt c0)).trans c0
      have d1 := (hb1.cell (cell_lt c1)).trans c1
      clear c0 c1 c2 c3
      go_wp2_with fail
      refine (hof _).mono ?_
      rintro e w2 ⟨rfl, hb2⟩
      have b2 := Below.thn hb1 (Below.thn hb2 (below_alloc w2 (.cells #[.int .i64 X, .int .i64 Y] 68)))
      obtain ⟨v9, w9, r9, o9, k9⟩ := own_nm (w2.alloc (.cells #[.int .i64 X, .int .i64 Y] 68)) W.heap.size (.slice x9 k y9) ((vs.take k).map zOf) (X, Y) (hO.out.up b2) (Nat.le_trans hB.size b2.size) HL2.out
      obtain ⟨p9, q9, e9, _, _⟩ := owns_slice o9
      rw [List.length_append, List.length_singleton, HL3.out] at e9
      subst e9
      have R9 : Hid (_ = _) := r9
      rw [show (w2.alloc (.cells #[.int .i64 X, .int .i64 Y] 68)).heap.size = w2.heap.size + 1 by simp] at R9
      have b9 : Below W.heap.size W w9 := (hB.trans (b2.mono hB.size)).trans k9.low
      clear r9 d0 d1
      go_wp2_with (at_builtin; refine wpList_append_run rfl (.tmp 57) (.tmp 59) 65 rfl rfl (.slice x9 k y9) (.slice (some ⟨w2.heap.size + 1, 0, none⟩) 1 1) rfl rfl (.slice p9 (k + 1) q9) w9 (show _ = _ from R9) ?_)
      all_goals
        go_roundw
        case rel => exact ⟨k + 1, p9, q9, by omega, rfl, rfl, by go_num, b9, by rw [HT.out, HZz.out]; exact o9⟩
        case measure => simp [intOf]; omega
    · have hke : k = 2 := by omega
      subst hke
      have hO2 : OwN wr W.heap.size (.slice x9 2 y9) (vs.map zOf) := by
        have := hO.out
        rwa [List.take_of_length_le (by rw [HLEN.out]; exact Nat.le_refl _)] at this
      rw [HZO.out] at hO2
      have hR1 := hR0.up hB
      have b1 := b0.trans (hB.mono b0.size)
      obtain ⟨g, rfl, hg, e0, e1, e2, e3⟩ := hO2.two
      simp only at e0 e1 e2 e3
      have hgl := cell_lt e0
      have hgR : g ≠ w.heap.size := by have h1 := hR0.lt; omega
      have HS : Hid (∀ X, But w.heap.size wr X → X.cell? ⟨g, 0, none⟩ = some (.int .i64 (nb a.1)) ∧ X.cell? ⟨g, 1, none⟩ = some (.int .i64 (nb a.2)) ∧ X.cell? ⟨g, 2, none⟩ = some (.int .i64 (nb b.1)) ∧ X.cell? ⟨g, 2 + 1, none⟩ = some (.int .i64 (nb b.2))) := fun X hX => ⟨(hX.cell (a := ⟨g, 0, none⟩) hgl hgR).trans e0, (hX.cell (a := ⟨g, 1, none⟩) hgl hgR).trans e1, (hX.cell (a := ⟨g, 2, none⟩) hgl hgR).trans e2, (hX.cell (a := ⟨g, 2 + 1, none⟩) hgl hgR).trans e3⟩
      have s1 := HS.out wr (But.refl _ _)
      have hcx := store_cx
      have hadd := fun W => refsub_w a.1 a.2 b.1 b.2 W (show valid4 a.1 a.2 b.1 b.2 = true by rw [valid4_vc, ha, hb]; rfl)
      clear hO hO2 HZ HZO HA hg e0 e1 e2 e3
      go_upto_region 16 with fail
      go_region_held3 (fun X => X.cell? ⟨g, 0, none⟩ = some (.int .i64 (nb a.1)) ∧ X.cell? ⟨g, 1, none⟩ = some (.int .i64 (nb a.2)) ∧ X.cell? ⟨g, 2, none⟩ = some (.int .i64 (nb b.1)) ∧ X.cell? ⟨g, 2 + 1, none⟩ = some (.int .i64 (nb b.2))) ((refine HS.out _ ?_; repeat (first | (with_reducible exact But.refl _ _) | (with_reducible exact bt2) | (with_reducible exact bt3) | refine But.setR ?_ _ | refine But.drew ?_))) (first
        | (go_at_call 37; (with_reducible refine Calls.mono (hadd _) ?_); rintro e w2 ⟨U, Z, E, hid, rfl, hb2'⟩; obtain ⟨h1, h2, h3⟩ := hid.out; have hk : E = k := h1.symm.trans hE.out; subst hk; have hn : Hid (nuR (fl U, fl Z) E = ⟨t, (x, y), r, []⟩) := (by show _ = _; rw [← h2, ← h3]; exact hV.out); have hb2 := Below.thn (Below.refl wr.heap.size wr).drew hb2'; have bt2 := bel_but hb2 w.heap.size; have hR2 := hR1.up hb2; have b2 := b1.trans (hb2.mono b1.size); clear hid h1 h2 h3)
        | (go_at_call 35; (with_reducible refine Calls.mono (rnum_at U Z E _ hn.out) ?_); rintro e w3 ⟨rfl, hb3⟩; have bt3 := bt2.then hb3; have hRl := hR2.up hb3; have bl := b2.trans (hb3.mono b2.size); have g0 : w3.cell? ⟨w.heap.size, 0, none⟩ = some (.int .i64 0) := hRl.cell 0; have f0 : w3.frozen? ⟨w.heap.size, 0, none⟩ = false := hRl.frz 0; have g1 : w3.cell? ⟨w.heap.size, 1, none⟩ = some (.complex .f64 0 0) := hRl.cell 1; have f1 : w3.frozen? ⟨w.heap.size, 1, none⟩ = false := hRl.frz 1; have g2 : w3.cell? ⟨w.heap.size, 2, none⟩ = some (.bool false) := hRl.cell 2; have f2 : w3.frozen? ⟨w.heap.size, 2, none⟩ = false := hRl.frz 2; have g3 : w3.cell? ⟨w.heap.size, 3, none⟩ = some (.slice none 0 0) := hRl.cell 3; have f3 : w3.frozen? ⟨w.heap.size, 3, none⟩ = false := hRl.frz 3)
        | fail)
      all_goals
        have hR9 := (((hRl.set 0 (.int .i64 t)).set 1 (.complex .f64 x y)).set 2 (.bool r)).set 3 (.slice none 0 0)
        have b9 := Below.setCell (Below.setCell (Below.setCell (Below.setCell bl (show w.heap.size ≤ (⟨w.heap.size, 0, none⟩ : Addr).block from Nat.le_refl _) (.int .i64 t)) (show w.heap.size ≤ (⟨w.heap.size, 1, none⟩ : Addr).block from Nat.le_refl _) (.complex .f64 x y)) (show w.heap.size ≤ (⟨w.heap.size, 2, none⟩ : Addr).block from Nat.le_refl _) (.bool r)) (show w.heap.size ≤ (⟨w.heap.size, 3, none⟩ : Addr).block from Nat.le_refl _) (.slice none 0 0)
        have z0 := hR9.cell 0
        have z1 := hR9.cell 1
        have z2 := hR9.cell 2
        have z3 := hR9.cell 3
        go_wp2_with fail
        exact bodyPost_ret (v := .tuple #[.agg #[.int .i64 t, .complex .f64 x y, .bool r, .slice none 0 0], .int .i64 E]) (by simp [results, Try.results13, go_sem, z0, z1, z2, z3]) rfl ⟨rfl, b9⟩


set_option maxHeartbeats 4000000 in
theorem rgood_10 (ao : Option Addr) (cap : Nat) (l : List Ai) (w : World) (h : Ar w ao l) (a b : Wz) (hv : l.map (·.2.2) = [rn a, rn b]) (ha : vc a.1 a.2 = true) (hb : vc b.1 b.2 = true) {t k : Int} {x y : Nat} {r : Bool} (hV : Hid (nuR (opR mulX mulY a.1 a.2 b.1 b.2, opI mulX mulY a.1 a.2 b.1 b.2) k = ⟨t, (x, y), r, []⟩)) (hE : Hid (opE mulX mulY a.1 a.2 b.1 b.2 = k)) :
    Calls Try.prog 13 #[.int .i64 10, .slice ao 2 cap] w fun e w' => e = .returned (.tuple #[.agg #[.int .i64 t, .complex .f64 x y, .bool r, .slice none 0 0], .int .i64 k]) ∧ Below w.heap.size w w' := by
  have b0 := below_alloc w (.cells #[.int .i64 0, .complex .f64 0 0, .bool false, .slice none 0 0] 32)
  have hR0 := Bk.new w 32 #[.int .i64 0, .complex .f64 0 0, .bool false, .slice none 0 0]
  have ht := fun W => rtakes_any 10 W
  rw [show tkN 10 = 2 from rfl, show tkT 10 = 1 from rfl] at ht
  obtain ⟨vs, hvs⟩ : ∃ vs, Hid (vs = l.map (·.2.2)) := ⟨_, rfl⟩
  have HLL : Hid (l.length = 2) := by show _ = _; have := congrArg List.length hv; simpa using this
  have HLEN : Hid (vs.length = 2) := by show _ = _; rw [hvs.out, List.length_map, HLL.out]
  have HZ : Hid (∀ i ∈ l, ∃ z : Wz, i.2.2 = rn z ∧ vc z.1 z.2 = true) := by
    intro i hi
    have hm : i.2.2 ∈ l.map (·.2.2) := List.mem_map.2 ⟨i, hi, rfl⟩
    rw [hv] at hm
    simp only [List.mem_cons, List.not_mem_nil, or_false] at hm
    rcases hm with e | e
    · exact ⟨a, e, ha⟩
    · exact ⟨b, e, hb⟩
  have HZO : Hid (vs.map zOf = [(nb a.1, nb a.2), (nb b.1, nb b.2)]) := by show _ = _; rw [hvs.out, hv]; simp only [List.map_cons, List.map_nil, zOf_rn ha, zOf_rn hb]
  have HA : Hid (Ar _ ao l) := h.up b0
  clear h
  generalize hW : w.alloc (.cells #[.int .i64 0, .complex .f64 0 0, .bool false, .slice none 0 0] 32) = W at *
  go_enter Try.func13, Try.ntmps13
  go_wp2_with fail
  refine (ht _).mono ?_
  rintro e w1 ⟨rfl, hw1⟩
  rw [hw1]
  clear hw1 ht hW
  go_wp2_with fail
  go_loopw [8, 9, 10] (fun f v i wr => ∃ (k : Nat) (x9 : Option Addr) (y9 : Nat), k ≤ 2 ∧ f = .bool true ∧ v = .slice x9 k y9 ∧ i = .int .i64 k ∧ Below W.heap.size W wr ∧ Hid (OwN wr W.heap.size (.slice x9 k y9) ((vs.take k).map zOf))) (fun _ _ i _ => 2 - (intOf i).toNat)
  case atStart => exact ⟨0, none, 0, Nat.zero_le _, rfl, rfl, rfl, Below.refl _ _, OwN.nil _ _⟩
  case round =>
    obtain ⟨k, x9, y9, hkn, rfl, rfl, rfl, hB, hO⟩ := hrel
    by_cases hlt : k < 2
    · have hk : k < l.length := by rw [HLL.out]; exact hlt
      have hk2 : k < vs.length := by rw [HLEN.out]; exact hlt
      obtain ⟨bb, off, rfl, hv4⟩ := (HA.out.up hB).pl (by intro e; rw [e] at hk; simp at hk)
      have v4 := hv4 k hk
      have vr := (HA.out.up hB).vr _ (getD_mem (d := ai0) hk)
      have hm : vs.getD k rv0 = (l.getD k ai0).2.2 := by rw [hvs.out]; exact map_getD l k hk
      have HT : Hid ((vs.take (k + 1)).map zOf = (vs.take k).map zOf ++ [zOf (l.getD k ai0).2.2]) := by rw [← hm]; exact take_map_zOf hk2
      obtain ⟨z, hz, hvz⟩ := HZ.out _ (getD_mem (d := ai0) hk)
      generalize l.getD k ai0 = i at *
      obtain ⟨ai, ci, u⟩ := i
      simp only at hz
      subst hz
      simp only at *
      obtain ⟨c0, c1, c2, c3⟩ := v4
      have hvl := fun W (hW : Vr W ai (rn z)) => rvalid_any (rn z) ai ci W hW
      rw [sound_rn hvz] at hvl
      have hof := fun W => ofb_any (rn z).z W vr.z
      unfold vV at hvl
      obtain ⟨X, hX⟩ : ∃ X, Hid (X = ofX (rn z).z.1 (rn z).z.2) := ⟨_, rfl⟩
      obtain ⟨Y, hY⟩ : ∃ Y, Hid (Y = ofY (rn z).z.1 (rn z).z.2) := ⟨_, rfl⟩
      rw [← hX.out, ← hY.out] at hof
      have HZz : Hid (zOf (rn z) = (X, Y)) := by show (_, _) = (_, _); rw [hX.out, hY.out]
      have HL2 : Hid (((vs.take k).map zOf).length < 8796093022208) := by show _ < _; rw [List.length_map, List.length_take]; omega
      have HL3 : Hid (((vs.take k).map zOf).length = k) := by show _ = _; rw [List.length_map, List.length_take, HLEN.out]; omega
      generalize vc (rn z).z.1 (rn z).z.2 = vq at *
      simp only [rn, List.length_nil] at c0 c1 c2 c3 hvl hof
      clear hv4 hm hk2 hk hX hY HZ HZO
      go_wp2_with fail
      refine (hvl _ vr).mono ?_
      rintro e w1 ⟨rfl, hb1⟩
      have d0 := (hb1.cell (cell_lt c0)).trans c0
      have d1 := (hb1.cell (cell_lt c1)).trans c1
      clear c0 c1 c2 c3
      go_wp2_with fail
      refine (hof _).mono ?_
      rintro e w2 ⟨rfl, hb2⟩
      have b2 := Below.thn hb1 (Below.thn hb2 (below_alloc w2 (.cells #[.int .i64 X, .int .i64 Y] 68)))
      obtain ⟨v9, w9, r9, o9, k9⟩ := own_nm (w2.alloc (.cells #[.int .i64 X, .int .i64 Y] 68)) W.heap.size (.slice x9 k y9) ((vs.take k).map zOf) (X, Y) (hO.out.up b2) (Nat.le_trans hB.size b2.size) HL2.out
      obtain ⟨p9, q9, e9, _, _⟩ := owns_slice o9
      rw [List.length_append, List.length_singleton, HL3.out] at e9
      subst e9
      have R9 : Hid (_ = _) := r9
      rw [show (w2.alloc (.cells #[.int .i64 X, .int .i64 Y] 68)).heap.size = w2.heap.size + 1 by simp] at R9
      have b9 : Below W.heap.size W w9 := (hB.trans (b2.mono hB.size)).trans k9.low
      clear r9 d0 d1
      go_wp2_with (at_builtin; refine wpList_append_run rfl (.tmp 57) (.tmp 59) 65 rfl rfl (.slice x9 k y9) (.slice (some ⟨w2.heap.size + 1, 0, none⟩) 1 1) rfl rfl (.slice p9 (k + 1) q9) w9 (show _ = _ from R9) ?_)
      all_goals
        go_roundw
        case rel => exact ⟨k + 1, p9, q9, by omega, rfl, rfl, by go_num, b9, by rw [HT.out, HZz.out]; exact o9⟩
        case measure => simp [intOf]; omega
    · have hke : k = 2 := by omega
      subst hke
      have hO2 : OwN wr W.heap.size (.slice x9 2 y9) (vs.map zOf) := by
        have := hO.out
        rwa [List.take_of_length_le (by rw [HLEN.out]; exact Nat.le_refl _)] at this
      rw [HZO.out] at hO2
      have hR1 := hR0.up hB
      have b1 := b0.trans (hB.mono b0.size)
      obtain ⟨g, rfl, hg, e0, e1, e2, e3⟩ := hO2.two
      simp only at e0 e1 e2 e3
      have hgl := cell_lt e0
      have hgR : g ≠ w.heap.size := by have h1 := hR0.lt; omega
      have HS : Hid (∀ X, But w.heap.size wr X → X.cell? ⟨g, 0, none⟩ = some (.int .i64 (nb a.1)) ∧ X.cell? ⟨g, 1, none⟩ = some (.int .i64 (nb a.2)) ∧ X.cell? ⟨g, 2, none⟩ = some (.int .i64 (nb b.1)) ∧ X.cell? ⟨g, 2 + 1, none⟩ = some (.int .i64 (nb b.2))) := fun X hX => ⟨(hX.cell (a := ⟨g, 0, none⟩) hgl hgR).trans e0, (hX.cell (a := ⟨g, 1, none⟩) hgl hgR).trans e1, (hX.cell (a := ⟨g, 2, none⟩) hgl hgR).trans e2, (hX.cell (a := ⟨g, 2 + 1, none⟩) hgl hgR).trans e3⟩
      have s1 := HS.out wr (But.refl _ _)
      have hcx := store_cx
      have hadd := fun W => refmul_w a.1 a.2 b.1 b.2 W (show valid4 a.1 a.2 b.1 b.2 = true by rw [valid4_vc, ha, hb]; rfl)
      clear hO hO2 HZ HZO HA hg e0 e1 e2 e3
      go_upto_region 18 with fail
      go_region_held3 (fun X => X.cell? ⟨g, 0, none⟩ = some (.int .i64 (nb a.1)) ∧ X.cell? ⟨g, 1, none⟩ = some (.int .i64 (nb a.2)) ∧ X.cell? ⟨g, 2, none⟩ = some (.int .i64 (nb b.1)) ∧ X.cell? ⟨g, 2 + 1, none⟩ = some (.int .i64 (nb b.2))) ((refine HS.out _ ?_; repeat (first | (with_reducible exact But.refl _ _) | (with_reducible exact bt2) | (with_reducible exact bt3) | refine But.setR ?_ _ | refine But.drew ?_))) (first
        | (go_at_call 38; (with_reducible refine Calls.mono (hadd _) ?_); rintro e w2 ⟨U, Z, E, hid, rfl, hb2'⟩; obtain ⟨h1, h2, h3⟩ := hid.out; have hk : E = k := h1.symm.trans hE.out; subst hk; have hn : Hid (nuR (fl U, fl Z) E = ⟨t, (x, y), r, []⟩) := (by show _ = _; rw [← h2, ← h3]; exact hV.out); have hb2 := Below.thn (Below.refl wr.heap.size wr).drew hb2'; have bt2 := bel_but hb2 w.heap.size; have hR2 := hR1.up hb2; have b2 := b1.trans (hb2.mono b1.size); clear hid h1 h2 h3)
        | (go_at_call 35; (with_reducible refine Calls.mono (rnum_at U Z E _ hn.out) ?_); rintro e w3 ⟨rfl, hb3⟩; have bt3 := bt2.then hb3; have hRl := hR2.up hb3; have bl := b2.trans (hb3.mono b2.size); have g0 : w3.cell? ⟨w.heap.size, 0, none⟩ = some (.int .i64 0) := hRl.cell 0; have f0 : w3.frozen? ⟨w.heap.size, 0, none⟩ = false := hRl.frz 0; have g1 : w3.cell? ⟨w.heap.size, 1, none⟩ = some (.complex .f64 0 0) := hRl.cell 1; have f1 : w3.frozen? ⟨w.heap.size, 1, none⟩ = false := hRl.frz 1; have g2 : w3.cell? ⟨w.heap.size, 2, none⟩ = some (.bool false) := hRl.cell 2; have f2 : w3.frozen? ⟨w.heap.size, 2, none⟩ = false := hRl.frz 2; have g3 : w3.cell? ⟨w.heap.size, 3, none⟩ = some (.slice none 0 0) := hRl.cell 3; have f3 : w3.frozen? ⟨w.heap.size, 3, none⟩ = false := hRl.frz 3)
        | fail)
      all_goals
        have hR9 := (((hRl.set 0 (.int .i64 t)).set 1 (.complex .f64 x y)).set 2 (.bool r)).set 3 (.slice none 0 0)
        have b9 := Below.setCell (Below.setCell (Below.setCell (Below.setCell bl (show w.heap.size ≤ (⟨w.heap.size, 0, none⟩ : Addr).block from Nat.le_refl _) (.int .i64 t)) (show w.heap.size ≤ (⟨w.heap.size, 1, none⟩ : Addr).block from Nat.le_refl _) (.complex .f64 x y)) (show w.heap.size ≤ (⟨w.heap.size, 2, none⟩ : Addr).block from Nat.le_refl _) (.bool r)) (show w.heap.size ≤ (⟨w.heap.size, 3, none⟩ : Addr).block from Nat.le_refl _) (.slice none 0 0)
        have z0 := hR9.cell 0
        have z1 := hR9.cell 1
        have z2 := hR9.cell 2
        have z3 := hR9.cell 3
        go_wp2_with fail
        exact bodyPost_ret (v := .tuple #[.agg #[.int .i64 t, .complex .f64 x y, .bool r, .slice none 0 0], .int .i64 E]) (by simp [results, Try.results13, go_sem, z0, z1, z2, z3]) rfl ⟨rfl, b9⟩


set_option maxHeartbeats 4000000 in
theorem rgood_11 (ao : Option Addr) (cap : Nat) (l : List Ai) (w : World) (h : Ar w ao l) (a b : Wz) (hv : l.map (·.2.2) = [rn a, rn b]) (ha : vc a.1 a.2 = true) (hb : vc b.1 b.2 = true) {t k : Int} {x y : Nat} {r : Bool} (hV : Hid (nuR (quoR a.1 a.2 b.1 b.2, quoI a.1 a.2 b.1 b.2) k = ⟨t, (x, y), r, []⟩)) (hE : Hid (quoE a.1 a.2 b.1 b.2 = k)) :
    Calls Try.prog 13 #[.int .i64 11, .slice ao 2 cap] w fun e w' => e = .returned (.tuple #[.agg #[.int .i64 t, .complex .f64 x y, .bool r, .slice none 0 0], .int .i64 k]) ∧ Below w.heap.size w w' := by
  have b0 := below_alloc w (.cells #[.int .i64 0, .complex .f64 0 0, .bool false, .slice none 0 0] 32)
  have hR0 := Bk.new w 32 #[.int .i64 0, .complex .f64 0 0, .bool false, .slice none 0 0]
  have ht := fun W => rtakes_any 11 W
  rw [show tkN 11 = 2 from rfl, show tkT 11 = 1 from rfl] at ht
  obtain ⟨vs, hvs⟩ : ∃ vs, Hid (vs = l.map (·.2.2)) := ⟨_, rfl⟩
  have HLL : Hid (l.length = 2) := by show _ = _; have := congrArg List.length hv; simpa using this
  have HLEN : Hid (vs.length = 2) := by show _ = _; rw [hvs.out, List.length_map, HLL.out]
  have HZ : Hid (∀ i ∈ l, ∃ z : Wz, i.2.2 = rn z ∧ vc z.1 z.2 = true) := by
    intro i hi
    have hm : i.2.2 ∈ l.map (·.2.2) := List.mem_map.2 ⟨i, hi, rfl⟩
    rw [hv] at hm
    simp only [List.mem_cons, List.not_mem_nil, or_false] at hm
    rcases hm with e | e
    · exact ⟨a, e, ha⟩
    · exact ⟨b, e, hb⟩
  have HZO : Hid (vs.map zOf = [(nb a.1, nb a.2), (nb b.1, nb b.2)]) := by show _ = _; rw [hvs.out, hv]; simp only [List.map_cons, List.map_nil, zOf_rn ha, zOf_rn hb]
  have HA : Hid (Ar _ ao l) := h.up b0
  clear h
  generalize hW : w.alloc (.cells #[.int .i64 0, .complex .f64 0 0, .bool false, .slice none 0 0] 32) = W at *
  go_enter Try.func13, Try.ntmps13
  go_wp2_with fail
  refine (ht _).mono ?_
  rintro e w1 ⟨rfl, hw1⟩
  rw [hw1]
  clear hw1 ht hW
  go_wp2_with fail
  go_loopw [8, 9, 10] (fun f v i wr => ∃ (k : Nat) (x9 : Option Addr) (y9 : Nat), k ≤ 2 ∧ f = .bool true ∧ v = .slice x9 k y9 ∧ i = .int .i64 k ∧ Below W.heap.size W wr ∧ Hid (OwN wr W.heap.size (.slice x9 k y9) ((vs.take k).map zOf))) (fun _ _ i _ => 2 - (intOf i).toNat)
  case atStart => exact ⟨0, none, 0, Nat.zero_le _, rfl, rfl, rfl, Below.refl _ _, OwN.nil _ _⟩
  case round =>
    obtain ⟨k, x9, y9, hkn, rfl, rfl, rfl, hB, hO⟩ := hrel
    by_cases hlt : k < 2
    · have hk : k < l.length := by rw [HLL.out]; exact hlt
      have hk2 : k < vs.length := by rw [HLEN.out]; exact hlt
      obtain ⟨bb, off, rfl, hv4⟩ := (HA.out.up hB).pl (by intro e; rw [e] at hk; simp at hk)
      have v4 := hv4 k hk
      have vr := (HA.out.up hB).vr _ (getD_mem (d := ai0) hk)
      have hm : vs.getD k rv0 = (l.getD k ai0).2.2 := by rw [hvs.out]; exact map_getD l k hk
      have HT : Hid ((vs.take (k + 1)).map zOf = (vs.take k).map zOf ++ [zOf (l.getD k ai0).2.2]) := by rw [← hm]; exact take_map_zOf hk2
      obtain ⟨z, hz, hvz⟩ := HZ.out _ (getD_mem (d := ai0) hk)
      generalize l.getD k ai0 = i at *
      obtain ⟨ai, ci, u⟩ := i
      simp only at hz
      subst hz
      simp only at *
      obtain ⟨c0, c1, c2, c3⟩ := v4
      have hvl := fun W (hW : Vr W ai (rn z)) => rvalid_any (rn z) ai ci W hW
      rw [sound_rn hvz] at hvl
      have hof := fun W => ofb_any (rn z).z W vr.z
      unfold vV at hvl
      obtain ⟨X, hX⟩ : ∃ X, Hid (X = ofX (rn z).z.1 (rn z).z.2) := ⟨_, rfl⟩
      obtain ⟨Y, hY⟩ : ∃ Y, Hid (Y = ofY (rn z).z.1 (rn z).z.2) := ⟨_, rfl⟩
      rw [← hX.out, ← hY.out] at hof
      have HZz : Hid (zOf (rn z) = (X, Y)) := by show (_, _) = (_, _); rw [hX.out, hY.out]
      have HL2 : Hid (((vs.take k).map zOf).length < 8796093022208) := by show _ < _; rw [List.length_map, List.length_take]; omega
      have HL3 : Hid (((vs.take k).map zOf).length = k) := by show _ = _; rw [List.length_map, List.length_take, HLEN.out]; omega
      generalize vc (rn z).z.1 (rn z).z.2 = vq at *
      simp only [rn, List.length_nil] at c0 c1 c2 c3 hvl hof
      clear hv4 hm hk2 hk hX hY HZ HZO
      go_wp2_with fail
      refine (hvl _ vr).mono ?_
      rintro e w1 ⟨rfl, hb1⟩
      have d0 := (hb1.cell (cell_lt c0)).trans c0
      have d1 := (hb1.cell (cell_lt c1)).trans c1
      clear c0 c1 c2 c3
      go_wp2_with fail
      refine (hof _).mono ?_
      rintro e w2 ⟨rfl, hb2⟩
      have b2 := Below.thn hb1 (Below.thn hb2 (below_alloc w2 (.cells #[.int .i64 X, .int .i64 Y] 68)))
      obtain ⟨v9, w9, r9, o9, k9⟩ := own_nm (w2.alloc (.cells #[.int .i64 X, .int .i64 Y] 68)) W.heap.size (.slice x9 k y9) ((vs.take k).map zOf) (X, Y) (hO.out.up b2) (Nat.le_trans hB.size b2.size) HL2.out
      obtain ⟨p9, q9, e9, _, _⟩ := owns_slice o9
      rw [List.length_append, List.length_singleton, HL3.out] at e9
      subst e9
      have R9 : Hid (_ = _) := r9
      rw [show (w2.alloc (.cells #[.int .i64 X, .int .i64 Y] 68)).heap.size = w2.heap.size + 1 by simp] at R9
      have b9 : Below W.heap.size W w9 := (hB.trans (b2.mono hB.size)).trans k9.low
      clear r9 d0 d1
      go_wp2_with (at_builtin; refine wpList_append_run rfl (.tmp 57) (.tmp 59) 65 rfl rfl (.slice x9 k y9) (.slice (some ⟨w2.heap.size + 1, 0, none⟩) 1 1) rfl rfl (.slice p9 (k + 1) q9) w9 (show _ = _ from R9) ?_)
      all_goals
        go_roundw
        case rel => exact ⟨k + 1, p9, q9, by omega, rfl, rfl, by go_num, b9, by rw [HT.out, HZz.out]; exact o9⟩
        case measure => simp [intOf]; omega
    · have hke : k = 2 := by omega
      subst hke
      have hO2 : OwN wr W.heap.size (.slice x9 2 y9) (vs.map zOf) := by
        have := hO.out
        rwa [List.take_of_length_le (by rw [HLEN.out]; exact Nat.le_refl _)] at this
      rw [HZO.out] at hO2
      have hR1 := hR0.up hB
      have b1 := b0.trans (hB.mono b0.size)
      obtain ⟨g, rfl, hg, e0, e1, e2, e3⟩ := hO2.two
      simp only at e0 e1 e2 e3
      have hgl := cell_lt e0
      have hgR : g ≠ w.heap.size := by have h1 := hR0.lt; omega
      have HS : Hid (∀ X, But w.heap.size wr X → X.cell? ⟨g, 0, none⟩ = some (.int .i64 (nb a.1)) ∧ X.cell? ⟨g, 1, none⟩ = some (.int .i64 (nb a.2)) ∧ X.cell? ⟨g, 2, none⟩ = some (.int .i64 (nb b.1)) ∧ X.cell? ⟨g, 2 + 1, none⟩ = some (.int .i64 (nb b.2))) := fun X hX => ⟨(hX.cell (a := ⟨g, 0, none⟩) hgl hgR).trans e0, (hX.cell (a := ⟨g, 1, none⟩) hgl hgR).trans e1, (hX.cell (a := ⟨g, 2, none⟩) hgl hgR).trans e2, (hX.cell (a := ⟨g, 2 + 1, none⟩) hgl hgR).trans e3⟩
      have s1 := HS.out wr (But.refl _ _)
      have hcx := store_cx
      have hadd := fun W => refquo_w a.1 a.2 b.1 b.2 W (show valid4 a.1 a.2 b.1 b.2 = true by rw [valid4_vc, ha, hb]; rfl)
      clear hO hO2 HZ HZO HA hg e0 e1 e2 e3
      go_upto_region 20 with fail
      go_region_held3 (fun X => X.cell? ⟨g, 0, none⟩ = some (.int .i64 (nb a.1)) ∧ X.cell? ⟨g, 1, none⟩ = some (.int .i64 (nb a.2)) ∧ X.cell? ⟨g, 2, none⟩ = some (.int .i64 (nb b.1)) ∧ X.cell? ⟨g, 2 + 1, none⟩ = some (.int .i64 (nb b.2))) ((refine HS.out _ ?_; repeat (first | (with_reducible exact But.refl _ _) | (with_reducible exact bt2) | (with_reducible exact bt3) | refine But.setR ?_ _ | refine But.drew ?_))) (first
        | (go_at_call 39; (with_reducible refine Calls.mono (hadd _) ?_); rintro e w2 ⟨U, Z, E, hid, rfl, hb2'⟩; obtain ⟨h1, h2, h3⟩ := hid.out; have hk : E = k := h1.symm.trans hE.out; subst hk; have hn : Hid (nuR (fl U, fl Z) E = ⟨t, (x, y), r, []⟩) := (by show _ = _; rw [← h2, ← h3]; exact hV.out); have hb2 := Below.thn (Below.refl wr.heap.size wr).drew hb2'; have bt2 := bel_but hb2 w.heap.size; have hR2 := hR1.up hb2; have b2 := b1.trans (hb2.mono b1.size); clear hid h1 h2 h3)
        | (go_at_call 35; (with_reducible refine Calls.mono (rnum_at U Z E _ hn.out) ?_); rintro e w3 ⟨rfl, hb3⟩; have bt3 := bt2.then hb3; have hRl := hR2.up hb3; have bl := b2.trans (hb3.mono b2.size); have g0 : w3.cell? ⟨w.heap.size, 0, none⟩ = some (.int .i64 0) := hRl.cell 0; have f0 : w3.frozen? ⟨w.heap.size, 0, none⟩ = false := hRl.frz 0; have g1 : w3.cell? ⟨w.heap.size, 1, none⟩ = some (.complex .f64 0 0) := hRl.cell 1; have f1 : w3.frozen? ⟨w.heap.size, 1, none⟩ = false := hRl.frz 1; have g2 : w3.cell? ⟨w.heap.size, 2, none⟩ = some (.bool false) := hRl.cell 2; have f2 : w3.frozen? ⟨w.heap.size, 2, none⟩ = false := hRl.frz 2; have g3 : w3.cell? ⟨w.heap.size, 3, none⟩ = some (.slice none 0 0) := hRl.cell 3; have f3 : w3.frozen? ⟨w.heap.size, 3, none⟩ = false := hRl.frz 3)
        | fail)
      all_goals
        have hR9 := (((hRl.set 0 (.int .i64 t)).set 1 (.complex .f64 x y)).set 2 (.bool r)).set 3 (.slice none 0 0)
        have b9 := Below.setCell (Below.setCell (Below.setCell (Below.setCell bl (show w.heap.size ≤ (⟨w.heap.size, 0, none⟩ : Addr).block from Nat.le_refl _) (.int .i64 t)) (show w.heap.size ≤ (⟨w.heap.size, 1, none⟩ : Addr).block from Nat.le_refl _) (.complex .f64 x y)) (show w.heap.size ≤ (⟨w.heap.size, 2, none⟩ : Addr).block from Nat.le_refl _) (.bool r)) (show w.heap.size ≤ (⟨w.heap.size, 3, none⟩ : Addr).block from Nat.le_refl _) (.slice none 0 0)
        have z0 := hR9.cell 0
        have z1 := hR9.cell 1
        have z2 := hR9.cell 2
        have z3 := hR9.cell 3
        go_wp2_with fail
        exact bodyPost_ret (v := .tuple #[.agg #[.int .i64 t, .complex .f64 x y, .bool r, .slice none 0 0], .int .i64 E]) (by simp [results, Try.results13, go_sem, z0, z1, z2, z3]) rfl ⟨rfl, b9⟩


set_option maxHeartbeats 4000000 in
theorem rgood_12a (ao : Option Addr) (cap : Nat) (l : List Ai) (w : World) (h : Ar w ao l) (a b : Wz) (hv : l.map (·.2.2) = [rn a, rn b]) (ha : vc a.1 a.2 = true) (hb : vc b.1 b.2 = true) (ho1 : (nb a.1 == nb b.1) = false) :
    Calls Try.prog 13 #[.int .i64 12, .slice ao 2 cap] w fun e w' => e = .returned (.tuple #[.agg #[.int .i64 2, .complex .f64 0 0, .bool false, .slice none 0 0], .int .i64 0]) ∧ Below w.heap.size w w' := by
  have b0 := below_alloc w (.cells #[.int .i64 0, .complex .f64 0 0, .bool false, .slice none 0 0] 32)
  have hR0 := Bk.new w 32 #[.int .i64 0, .complex .f64 0 0, .bool false, .slice none 0 0]
  have ht := fun W => rtakes_any 12 W
  rw [show tkN 12 = 2 from rfl, show tkT 12 = 1 from rfl] at ht
  obtain ⟨vs, hvs⟩ : ∃ vs, Hid (vs = l.map (·.2.2)) := ⟨_, rfl⟩
  have HLL : Hid (l.length = 2) := by show _ = _; have := congrArg List.length hv; simpa using this
  have HLEN : Hid (vs.length = 2) := by show _ = _; rw [hvs.out, List.length_map, HLL.out]
  have HZ : Hid (∀ i ∈ l, ∃ z : Wz, i.2.2 = rn z ∧ vc z.1 z.2 = true) := by
    intro i hi
    have hm : i.2.2 ∈ l.map (·.2.2) := List.mem_map.2 ⟨i, hi, rfl⟩
    rw [hv] at hm
    simp only [List.mem_cons, List.not_mem_nil, or_false] at hm
    rcases hm with e | e
    · exact ⟨a, e, ha⟩
    · exact ⟨b, e, hb⟩
  have HZO : Hid (vs.map zOf = [(nb a.1, nb a.2), (nb b.1, nb b.2)]) := by show _ = _; rw [hvs.out, hv]; simp only [List.map_cons, List.map_nil, zOf_rn ha, zOf_rn hb]
  have HA : Hid (Ar _ ao l) := h.up b0
  clear h
  generalize hW : w.alloc (.cells #[.int .i64 0, .complex .f64 0 0, .bool false, .slice none 0 0] 32) = W at *
  go_enter Try.func13, Try.ntmps13
  go_wp2_with fail
  refine (ht _).mono ?_
  rintro e w1 ⟨rfl, hw1⟩
  rw [hw1]
  clear hw1 ht hW
  go_wp2_with fail
  go_loopw [8, 9, 10] (fun f v i wr => ∃ (k : Nat) (x9 : Option Addr) (y9 : Nat), k ≤ 2 ∧ f = .bool true ∧ v = .slice x9 k y9 ∧ i = .int .i64 k ∧ Below W.heap.size W wr ∧ Hid (OwN wr W.heap.size (.slice x9 k y9) ((vs.take k).map zOf))) (fun _ _ i _ => 2 - (intOf i).toNat)
  case atStart => exact ⟨0, none, 0, Nat.zero_le _, rfl, rfl, rfl, Below.refl _ _, OwN.nil _ _⟩
  case round =>
    obtain ⟨k, x9, y9, hkn, rfl, rfl, rfl, hB, hO⟩ := hrel
    by_cases hlt : k < 2
    · have hk : k < l.length := by rw [HLL.out]; exact hlt
      have hk2 : k < vs.length := by rw [HLEN.out]; exact hlt
      obtain ⟨bb, off, rfl, hv4⟩ := (HA.out.up hB).pl (by intro e; rw [e] at hk; simp at hk)
      have v4 := hv4 k hk
      have vr := (HA.out.up hB).vr _ (getD_mem (d := ai0) hk)
      have hm : vs.getD k rv0 = (l.getD k ai0).2.2 := by rw [hvs.out]; exact map_getD l k hk
      have HT : Hid ((vs.take (k + 1)).map zOf = (vs.take k).map zOf ++ [zOf (l.getD k ai0).2.2]) := by rw [← hm]; exact take_map_zOf hk2
      obtain ⟨z, hz, hvz⟩ := HZ.out _ (getD_mem (d := ai0) hk)
      generalize l.getD k ai0 = i at *
      obtain ⟨ai, ci, u⟩ := i
      simp only at hz
      subst hz
      simp only at *
      obtain ⟨c0, c1, c2, c3⟩ := v4
      have hvl := fun W (hW : Vr W ai (rn z)) => rvalid_any (rn z) ai ci W hW
      rw [sound_rn hvz] at hvl
      have hof := fun W => ofb_any (rn z).z W vr.z
      unfold vV at hvl
      obtain ⟨X, hX⟩ : ∃ X, Hid (X = ofX (rn z).z.1 (rn z).z.2) := ⟨_, rfl⟩
      obtain ⟨Y, hY⟩ : ∃ Y, Hid (Y = ofY (rn z).z.1 (rn z).z.2) := ⟨_, rfl⟩
      rw [← hX.out, ← hY.out] at hof
      have HZz : Hid (zOf (rn z) = (X, Y)) := by show (_, _) = (_, _); rw [hX.out, hY.out]
      have HL2 : Hid (((vs.take k).map zOf).length < 8796093022208) := by show _ < _; rw [List.length_map, List.length_take]; omega
      have HL3 : Hid (((vs.take k).map zOf).length = k) := by show _ = _; rw [List.length_map, List.length_take, HLEN.out]; omega
      generalize vc (rn z).z.1 (rn z).z.2 = vq at *
      simp only [rn, List.length_nil] at c0 c1 c2 c3 hvl hof
      clear hv4 hm hk2 hk hX hY HZ HZO
      go_wp2_with fail
      refine (hvl _ vr).mono ?_
      rintro e w1 ⟨rfl, hb1⟩
      have d0 := (hb1.cell (cell_lt c0)).trans c0
      have d1 := (hb1.cell (cell_lt c1)).trans c1
      clear c0 c1 c2 c3
      go_wp2_with fail
      refine (hof _).mono ?_
      rintro e w2 ⟨rfl, hb2⟩
      have b2 := Below.thn hb1 (Below.thn hb2 (below_alloc w2 (.cells #[.int .i64 X, .int .i64 Y] 68)))
      obtain ⟨v9, w9, r9, o9, k9⟩ := own_nm (w2.alloc (.cells #[.int .i64 X, .int .i64 Y] 68)) W.heap.size (.slice x9 k y9) ((vs.take k).map zOf) (X, Y) (hO.out.up b2) (Nat.le_trans hB.size b2.size) HL2.out
      obtain ⟨p9, q9, e9, _, _⟩ := owns_slice o9
      rw [List.length_append, List.length_singleton, HL3.out] at e9
      subst e9
      have R9 : Hid (_ = _) := r9
      rw [show (w2.alloc (.cells #[.int .i64 X, .int .i64 Y] 68)).heap.size = w2.heap.size + 1 by simp] at R9
      have b9 : Below W.heap.size W w9 := (hB.trans (b2.mono hB.size)).trans k9.low
      clear r9 d0 d1
      go_wp2_with (at_builtin; refine wpList_append_run rfl (.tmp 57) (.tmp 59) 65 rfl rfl (.slice x9 k y9) (.slice (some ⟨w2.heap.size + 1, 0, none⟩) 1 1) rfl rfl (.slice p9 (k + 1) q9) w9 (show _ = _ from R9) ?_)
      all_goals
        go_roundw
        case rel => exact ⟨k + 1, p9, q9, by omega, rfl, rfl, by go_num, b9, by rw [HT.out, HZz.out]; exact o9⟩
        case measure => simp [intOf]; omega
    · have hke : k = 2 := by omega
      subst hke
      have hO2 : OwN wr W.heap.size (.slice x9 2 y9) (vs.map zOf) := by
        have := hO.out
        rwa [List.take_of_length_le (by rw [HLEN.out]; exact Nat.le_refl _)] at this
      rw [HZO.out] at hO2
      have hR1 := hR0.up hB
      have b1 := b0.trans (hB.mono b0.size)
      obtain ⟨g, rfl, hg, e0, e1, e2, e3⟩ := hO2.two
      simp only at e0 e1 e2 e3
      have hgl := cell_lt e0
      have hgR : g ≠ w.heap.size := by have h1 := hR0.lt; omega
      have HS : Hid (∀ X, But w.heap.size wr X → X.cell? ⟨g, 0, none⟩ = some (.int .i64 (nb a.1)) ∧ X.cell? ⟨g, 1, none⟩ = some (.int .i64 (nb a.2)) ∧ X.cell? ⟨g, 2, none⟩ = some (.int .i64 (nb b.1)) ∧ X.cell? ⟨g, 2 + 1, none⟩ = some (.int .i64 (nb b.2))) := fun X hX => ⟨(hX.cell (a := ⟨g, 0, none⟩) hgl hgR).trans e0, (hX.cell (a := ⟨g, 1, none⟩) hgl hgR).trans e1, (hX.cell (a := ⟨g, 2, none⟩) hgl hgR).trans e2, (hX.cell (a := ⟨g, 2 + 1, none⟩) hgl hgR).trans e3⟩
      have s1 := HS.out wr (But.refl _ _)
      have hcx := store_cx
      clear hO hO2 HZ HZO HA hg e0 e1 e2 e3
      go_upto_region 22 with fail
      go_region_held3 (fun X => X.cell? ⟨g, 0, none⟩ = some (.int .i64 (nb a.1)) ∧ X.cell? ⟨g, 1, none⟩ = some (.int .i64 (nb a.2)) ∧ X.cell? ⟨g, 2, none⟩ = some (.int .i64 (nb b.1)) ∧ X.cell? ⟨g, 2 + 1, none⟩ = some (.int .i64 (nb b.2))) ((refine HS.out _ ?_; repeat (first | (with_reducible exact But.refl _ _) | (with_reducible exact bt2) | (with_reducible exact bt3) | refine But.setR ?_ _ | refine But.drew ?_))) (first
        | (go_at_call 40; (with_reducible refine Calls.mono (rtruth_any _ _) ?_); rintro e w3 ⟨rfl, hb3'⟩; have hb3 := Below.thn (Below.refl wr.heap.size wr).drew hb3'; have bt3 := bel_but hb3 w.heap.size; have hRl := hR1.up hb3; have bl := b1.trans (hb3.mono b1.size); have g0 : w3.cell? ⟨w.heap.size, 0, none⟩ = some (.int .i64 0) := hRl.cell 0; have f0 : w3.frozen? ⟨w.heap.size, 0, none⟩ = false := hRl.frz 0; have g1 : w3.cell? ⟨w.heap.size, 1, none⟩ = some (.complex .f64 0 0) := hRl.cell 1; have f1 : w3.frozen? ⟨w.heap.size, 1, none⟩ = false := hRl.frz 1; have g2 : w3.cell? ⟨w.heap.size, 2, none⟩ = some (.bool false) := hRl.cell 2; have f2 : w3.frozen? ⟨w.heap.size, 2, none⟩ = false := hRl.frz 2; have g3 : w3.cell? ⟨w.heap.size, 3, none⟩ = some (.slice none 0 0) := hRl.cell 3; have f3 : w3.frozen? ⟨w.heap.size, 3, none⟩ = false := hRl.frz 3)
        | fail)
      all_goals
        have hR9 := (((hRl.set 0 (.int .i64 2)).set 1 (.complex .f64 0 0)).set 2 (.bool false)).set 3 (.slice none 0 0)
        have b9 := Below.setCell (Below.setCell (Below.setCell (Below.setCell bl (show w.heap.size ≤ (⟨w.heap.size, 0, none⟩ : Addr).block from Nat.le_refl _) (.int .i64 2)) (show w.heap.size ≤ (⟨w.heap.size, 1, none⟩ : Addr).block from Nat.le_refl _) (.complex .f64 0 0)) (show w.heap.size ≤ (⟨w.heap.size, 2, none⟩ : Addr).block from Nat.le_refl _) (.bool false)) (show w.heap.size ≤ (⟨w.heap.size, 3, none⟩ : Addr).block from Nat.le_refl _) (.slice none 0 0)
        have z0 := hR9.cell 0
        have z1 := hR9.cell 1
        have z2 := hR9.cell 2
        have z3 := hR9.cell 3
        go_wp2_with fail
        exact bodyPost_ret (v := .tuple #[.agg #[.int .i64 2, .complex .f64 0 0, .bool false, .slice none 0 0], .int .i64 0]) (by simp [results, Try.results13, go_sem, z0, z1, z2, z3]) rfl ⟨rfl, b9⟩


set_option maxHeartbeats 4000000 in
theorem rgood_12b (ao : Option Addr) (cap : Nat) (l : List Ai) (w : World) (h : Ar w ao l) (a b : Wz) (hv : l.map (·.2.2) = [rn a, rn b]) (ha : vc a.1 a.2 = true) (hb : vc b.1 b.2 = true) (ho1 : (nb a.1 == nb b.1) = true) (ho2 : (nb a.2 == nb b.2) = false) :
    Calls Try.prog 13 #[.int .i64 12, .slice ao 2 cap] w fun e w' => e = .returned (.tuple #[.agg #[.int .i64 2, .complex .f64 0 0, .bool false, .slice none 0 0], .int .i64 0]) ∧ Below w.heap.size w w' := by
  have b0 := below_alloc w (.cells #[.int .i64 0, .complex .f64 0 0, .bool false, .slice none 0 0] 32)
  have hR0 := Bk.new w 32 #[.int .i64 0, .complex .f64 0 0, .bool false, .slice none 0 0]
  have ht := fun W => rtakes_any 12 W
  rw [show tkN 12 = 2 from rfl, show tkT 12 = 1 from rfl] at ht
  obtain ⟨vs, hvs⟩ : ∃ vs, Hid (vs = l.map (·.2.2)) := ⟨_, rfl⟩
  have HLL : Hid (l.length = 2) := by show _ = _; have := congrArg List.length hv; simpa using this
  have HLEN : Hid (vs.length = 2) := by show _ = _; rw [hvs.out, List.length_map, HLL.out]
  have HZ : Hid (∀ i ∈ l, ∃ z : Wz, i.2.2 = rn z ∧ vc z.1 z.2 = true) := by
    intro i hi
    have hm : i.2.2 ∈ l.map (·.2.2) := List.mem_map.2 ⟨i, hi, rfl⟩
    rw [hv] at hm
    simp only [List.mem_cons, List.not_mem_nil, or_false] at hm
    rcases hm with e | e
    · exact ⟨a, e, ha⟩
    · exact ⟨b, e, hb⟩
  have HZO : Hid (vs.map zOf = [(nb a.1, nb a.2), (nb b.1, nb b.2)]) := by show _ = _; rw [hvs.out, hv]; simp only [List.map_cons, List.map_nil, zOf_rn ha, zOf_rn hb]
  have HA : Hid (Ar _ ao l) := h.up b0
  clear h
  generalize hW : w.alloc (.cells #[.int .i64 0, .complex .f64 0 0, .bool false, .slice none 0 0] 32) = W at *
  go_enter Try.func13, Try.ntmps13
  go_wp2_with fail
  refine (ht _).mono ?_
  rintro e w1 ⟨rfl, hw1⟩
  rw [hw1]
  clear hw1 ht hW
  go_wp2_with fail
  go_loopw [8, 9, 10] (fun f v i wr => ∃ (k : Nat) (x9 : Option Addr) (y9 : Nat), k ≤ 2 ∧ f = .bool true ∧ v = .slice x9 k y9 ∧ i = .int .i64 k ∧ Below W.heap.size W wr ∧ Hid (OwN wr W.heap.size (.slice x9 k y9) ((vs.take k).map zOf))) (fun _ _ i _ => 2 - (intOf i).toNat)
  case atStart => exact ⟨0, none, 0, Nat.zero_le _, rfl, rfl, rfl, Below.refl _ _, OwN.nil _ _⟩
  case round =>
    obtain ⟨k, x9, y9, hkn, rfl, rfl, rfl, hB, hO⟩ := hrel
    by_cases hlt : k < 2
    · have hk : k < l.length := by rw [HLL.out]; exact hlt
      have hk2 : k < vs.length := by rw [HLEN.out]; exact hlt
      obtain ⟨bb, off, rfl, hv4⟩ := (HA.out.up hB).pl (by intro e; rw [e] at hk; simp at hk)
      have v4 := hv4 k hk
      have vr := (HA.out.up hB).vr _ (getD_mem (d := ai0) hk)
      have hm : vs.getD k rv0 = (l.getD k ai0).2.2 := by rw [hvs.out]; exact map_getD l k hk
      have HT : Hid ((vs.take (k + 1)).map zOf = (vs.take k).map zOf ++ [zOf (l.getD k ai0).2.2]) := by rw [← hm]; exact take_map_zOf hk2
      obtain ⟨z, hz, hvz⟩ := HZ.out _ (getD_mem (d := ai0) hk)
      generalize l.getD k ai0 = i at *
      obtain ⟨ai, ci, u⟩ := i
      simp only at hz
      subst hz
      simp only at *
      obtain ⟨c0, c1, c2, c3⟩ := v4
      have hvl := fun W (hW : Vr W ai (rn z)) => rvalid_any (rn z) ai ci W hW
      rw [sound_rn hvz] at hvl
      have hof := fun W => ofb_any (rn z).z W vr.z
      unfold vV at hvl
      obtain ⟨X, hX⟩ : ∃ X, Hid (X = ofX (rn z).z.1 (rn z).z.2) := ⟨_, rfl⟩
      obtain ⟨Y, hY⟩ : ∃ Y, Hid (Y = ofY (rn z).z.1 (rn z).z.2) := ⟨_, rfl⟩
      rw [← hX.out, ← hY.out] at hof
      have HZz : Hid (zOf (rn z) = (X, Y)) := by show (_, _) = (_, _); rw [hX.out, hY.out]
      have HL2 : Hid (((vs.take k).map zOf).length < 8796093022208) := by show _ < _; rw [List.length_map, List.length_take]; omega
      have HL3 : Hid (((vs.take k).map zOf).length = k) := by show _ = _; rw [List.length_map, List.length_take, HLEN.out]; omega
      generalize vc (rn z).z.1 (rn z).z.2 = vq at *
      simp only [rn, List.length_nil] at c0 c1 c2 c3 hvl hof
      clear hv4 hm hk2 hk hX hY HZ HZO
      go_wp2_with fail
      refine (hvl _ vr).mono ?_
      rintro e w1 ⟨rfl, hb1⟩
      have d0 := (hb1.cell (cell_lt c0)).trans c0
      have d1 := (hb1.cell (cell_lt c1)).trans c1
      clear c0 c1 c2 c3
      go_wp2_with fail
      refine (hof _).mono ?_
      rintro e w2 ⟨rfl, hb2⟩
      have b2 := Below.thn hb1 (Below.thn hb2 (below_alloc w2 (.cells #[.int .i64 X, .int .i64 Y] 68)))
      obtain ⟨v9, w9, r9, o9, k9⟩ := own_nm (w2.alloc (.cells #[.int .i64 X, .int .i64 Y] 68)) W.heap.size (.slice x9 k y9) ((vs.take k).map zOf) (X, Y) (hO.out.up b2) (Nat.le_trans hB.size b2.size) HL2.out
      obtain ⟨p9, q9, e9, _, _⟩ := owns_slice o9
      rw [List.length_append, List.length_singleton, HL3.out] at e9
      subst e9
      have R9 : Hid (_ = _) := r9
      rw [show (w2.alloc (.cells #[.int .i64 X, .int .i64 Y] 68)).heap.size = w2.heap.size + 1 by simp] at R9
      have b9 : Below W.heap.size W w9 := (hB.trans (b2.mono hB.size)).trans k9.low
      clear r9 d0 d1
      go_wp2_with (at_builtin; refine wpList_append_run rfl (.tmp 57) (.tmp 59) 65 rfl rfl (.slice x9 k y9) (.slice (some ⟨w2.heap.size + 1, 0, none⟩) 1 1) rfl rfl (.slice p9 (k + 1) q9) w9 (show _ = _ from R9) ?_)
      all_goals
        go_roundw
        case rel => exact ⟨k + 1, p9, q9, by omega, rfl, rfl, by go_num, b9, by rw [HT.out, HZz.out]; exact o9⟩
        case measure => simp [intOf]; omega
    · have hke : k = 2 := by omega
      subst hke
      have hO2 : OwN wr W.heap.size (.slice x9 2 y9) (vs.map zOf) := by
        have := hO.out
        rwa [List.take_of_length_le (by rw [HLEN.out]; exact Nat.le_refl _)] at this
      rw [HZO.out] at hO2
      have hR1 := hR0.up hB
      have b1 := b0.trans (hB.mono b0.size)
      obtain ⟨g, rfl, hg, e0, e1, e2, e3⟩ := hO2.two
      simp only at e0 e1 e2 e3
      have hgl := cell_lt e0
      have hgR : g ≠ w.heap.size := by have h1 := hR0.lt; omega
      have HS : Hid (∀ X, But w.heap.size wr X → X.cell? ⟨g, 0, none⟩ = some (.int .i64 (nb a.1)) ∧ X.cell? ⟨g, 1, none⟩ = some (.int .i64 (nb a.2)) ∧ X.cell? ⟨g, 2, none⟩ = some (.int .i64 (nb b.1)) ∧ X.cell? ⟨g, 2 + 1, none⟩ = some (.int .i64 (nb b.2))) := fun X hX => ⟨(hX.cell (a := ⟨g, 0, none⟩) hgl hgR).trans e0, (hX.cell (a := ⟨g, 1, none⟩) hgl hgR).trans e1, (hX.cell (a := ⟨g, 2, none⟩) hgl hgR).trans e2, (hX.cell (a := ⟨g, 2 + 1, none⟩) hgl hgR).trans e3⟩
      have s1 := HS.out wr (But.refl _ _)
      have hcx := store_cx
      clear hO hO2 HZ HZO HA hg e0 e1 e2 e3
      go_upto_region 22 with fail
      go_region_held3 (fun X => X.cell? ⟨g, 0, none⟩ = some (.int .i64 (nb a.1)) ∧ X.cell? ⟨g, 1, none⟩ = some (.int .i64 (nb a.2)) ∧ X.cell? ⟨g, 2, none⟩ = some (.int .i64 (nb b.1)) ∧ X.cell? ⟨g, 2 + 1, none⟩ = some (.int .i64 (nb b.2))) ((refine HS.out _ ?_; repeat (first | (with_reducible exact But.refl _ _) | (with_reducible exact bt2) | (with_reducible exact bt3) | refine But.setR ?_ _ | refine But.drew ?_))) (first
        | (go_at_call 40; (with_reducible refine Calls.mono (rtruth_any _ _) ?_); rintro e w3 ⟨rfl, hb3'⟩; have hb3 := Below.thn (Below.refl wr.heap.size wr).drew hb3'; have bt3 := bel_but hb3 w.heap.size; have hRl := hR1.up hb3; have bl := b1.trans (hb3.mono b1.size); have g0 : w3.cell? ⟨w.heap.size, 0, none⟩ = some (.int .i64 0) := hRl.cell 0; have f0 : w3.frozen? ⟨w.heap.size, 0, none⟩ = false := hRl.frz 0; have g1 : w3.cell? ⟨w.heap.size, 1, none⟩ = some (.complex .f64 0 0) := hRl.cell 1; have f1 : w3.frozen? ⟨w.heap.size, 1, none⟩ = false := hRl.frz 1; have g2 : w3.cell? ⟨w.heap.size, 2, none⟩ = some (.bool false) := hRl.cell 2; have f2 : w3.frozen? ⟨w.heap.size, 2, none⟩ = false := hRl.frz 2; have g3 : w3.cell? ⟨w.heap.size, 3, none⟩ = some (.slice none 0 0) := hRl.cell 3; have f3 : w3.frozen? ⟨w.heap.size, 3, none⟩ = false := hRl.frz 3)
        | fail)
      all_goals
        have hR9 := (((hRl.set 0 (.int .i64 2)).set 1 (.complex .f64 0 0)).set 2 (.bool false)).set 3 (.slice none 0 0)
        have b9 := Below.setCell (Below.setCell (Below.setCell (Below.setCell bl (show w.heap.size ≤ (⟨w.heap.size, 0, none⟩ : Addr).block from Nat.le_refl _) (.int .i64 2)) (show w.heap.size ≤ (⟨w.heap.size, 1, none⟩ : Addr).block from Nat.le_refl _) (.complex .f64 0 0)) (show w.heap.size ≤ (⟨w.heap.size, 2, none⟩ : Addr).block from Nat.le_refl _) (.bool false)) (show w.heap.size ≤ (⟨w.heap.size, 3, none⟩ : Addr).block from Nat.le_refl _) (.slice none 0 0)
        have z0 := hR9.cell 0
        have z1 := hR9.cell 1
        have z2 := hR9.cell 2
        have z3 := hR9.cell 3
        go_wp2_with fail
        exact bodyPost_ret (v := .tuple #[.agg #[.int .i64 2, .complex .f64 0 0, .bool false, .slice none 0 0], .int .i64 0]) (by simp [results, Try.results13, go_sem, z0, z1, z2, z3]) rfl ⟨rfl, b9⟩


set_option maxHeartbeats 4000000 in
theorem rgood_12c (ao : Option Addr) (cap : Nat) (l : List Ai) (w : World) (h : Ar w ao l) (a b : Wz) (hv : l.map (·.2.2) = [rn a, rn b]) (ha : vc a.1 a.2 = true) (hb : vc b.1 b.2 = true) (ho1 : (nb a.1 == nb b.1) = true) (ho2 : (nb a.2 == nb b.2) = true) :
    Calls Try.prog 13 #[.int .i64 12, .slice ao 2 cap] w fun e w' => e = .returned (.tuple #[.agg #[.int .i64 2, .complex .f64 0 0, .bool true, .slice none 0 0], .int .i64 0]) ∧ Below w.heap.size w w' := by
  have b0 := below_alloc w (.cells #[.int .i64 0, .complex .f64 0 0, .bool false, .slice none 0 0] 32)
  have hR0 := Bk.new w 32 #[.int .i64 0, .complex .f64 0 0, .bool false, .slice none 0 0]
  have ht := fun W => rtakes_any 12 W
  rw [show tkN 12 = 2 from rfl, show tkT 12 = 1 from rfl] at ht
  obtain ⟨vs, hvs⟩ : ∃ vs, Hid (vs = l.map (·.2.2)) := ⟨_, rfl⟩
  have HLL : Hid (l.length = 2) := by show _ = _; have := congrArg List.length hv; simpa using this
  have HLEN : Hid (vs.length = 2) := by show _ = _; rw [hvs.out, List.length_map, HLL.out]
  have HZ : Hid (∀ i ∈ l, ∃ z : Wz, i.2.2 = rn z ∧ vc z.1 z.2 = true) := by
    intro i hi
    have hm : i.2.2 ∈ l.map (·.2.2) := List.mem_map.2 ⟨i, hi, rfl⟩
    rw [hv] at hm
    simp only [List.mem_cons, List.not_mem_nil, or_false] at hm
    rcases hm with e | e
    · exact ⟨a, e, ha⟩
    · exact ⟨b, e, hb⟩
  have HZO : Hid (vs.map zOf = [(nb a.1, nb a.2), (nb b.1, nb b.2)]) := by show _ = _; rw [hvs.out, hv]; simp only [List.map_cons, List.map_nil, zOf_rn ha, zOf_rn hb]
  have HA : Hid (Ar _ ao l) := h.up b0
  clear h
  generalize hW : w.alloc (.cells #[.int .i64 0, .complex .f64 0 0, .bool false, .slice none 0 0] 32) = W at *
  go_enter Try.func13, Try.ntmps13
  go_wp2_with fail
  refine (ht _).mono ?_
  rintro e w1 ⟨rfl, hw1⟩
  rw [hw1]
  clear hw1 ht hW
  go_wp2_with fail
  go_loopw [8, 9, 10] (fun f v i wr => ∃ (k : Nat) (x9 : Option Addr) (y9 : Nat), k ≤ 2 ∧ f = .bool true ∧ v = .slice x9 k y9 ∧ i = .int .i64 k ∧ Below W.heap.size W wr ∧ Hid (OwN wr W.heap.size (.slice x9 k y9) ((vs.take k).map zOf))) (fun _ _ i _ => 2 - (intOf i).toNat)
  case atStart => exact ⟨0, none, 0, Nat.zero_le _, rfl, rfl, rfl, Below.refl _ _, OwN.nil _ _⟩
  case round =>
    obtain ⟨k, x9, y9, hkn, rfl, rfl, rfl, hB, hO⟩ := hrel
    by_cases hlt : k < 2
    · have hk : k < l.length := by rw [HLL.out]; exact hlt
      have hk2 : k < vs.length := by rw [HLEN.out]; exact hlt
      obtain ⟨bb, off, rfl, hv4⟩ := (HA.out.up hB).pl (by intro e; rw [e] at hk; simp at hk)
      have v4 := hv4 k hk
      have vr := (HA.out.up hB).vr _ (getD_mem (d := ai0) hk)
      have hm : vs.getD k rv0 = (l.getD k ai0).2.2 := by rw [hvs.out]; exact map_getD l k hk
      have HT : Hid ((vs.take (k + 1)).map zOf = (vs.take k).map zOf ++ [zOf (l.getD k ai0).2.2]) := by rw [← hm]; exact take_map_zOf hk2
      obtain ⟨z, hz, hvz⟩ := HZ.out _ (getD_mem (d := ai0) hk)
      generalize l.getD k ai0 = i at *
      obtain ⟨ai, ci, u⟩ := i
      simp only at hz
      subst hz
      simp only at *
      obtain ⟨c0, c1, c2, c3⟩ := v4
      have hvl := fun W (hW : Vr W ai (rn z)) => rvalid_any (rn z) ai ci W hW
      rw [sound_rn hvz] at hvl
      have hof := fun W => ofb_any (rn z).z W vr.z
      unfold vV at hvl
      obtain ⟨X, hX⟩ : ∃ X, Hid (X = ofX (rn z).z.1 (rn z).z.2) := ⟨_, rfl⟩
      obtain ⟨Y, hY⟩ : ∃ Y, Hid (Y = ofY (rn z).z.1 (rn z).z.2) := ⟨_, rfl⟩
      rw [← hX.out, ← hY.out] at hof
      have HZz : Hid (zOf (rn z) = (X, Y)) := by show (_, _) = (_, _); rw [hX.out, hY.out]
      have HL2 : Hid (((vs.take k).map zOf).length < 8796093022208) := by show _ < _; rw [List.length_map, List.length_take]; omega
      have HL3 : Hid (((vs.take k).map zOf).length = k) := by show _ = _; rw [List.length_map, List.length_take, HLEN.out]; omega
      generalize vc (rn z).z.1 (rn z).z.2 = vq at *
      simp only [rn, List.length_nil] at c0 c1 c2 c3 hvl hof
      clear hv4 hm hk2 hk hX hY HZ HZO
      go_wp2_with fail
      refine (hvl _ vr).mono ?_
      rintro e w1 ⟨rfl, hb1⟩
      have d0 := (hb1.cell (cell_lt c0)).trans c0
      have d1 := (hb1.cell (cell_lt c1)).trans c1
      clear c0 c1 c2 c3
      go_wp2_with fail
      refine (hof _).mono ?_
      rintro e w2 ⟨rfl, hb2⟩
      have b2 := Below.thn hb1 (Below.thn hb2 (below_alloc w2 (.cells #[.int .i64 X, .int .i64 Y] 68)))
      obtain ⟨v9, w9, r9, o9, k9⟩ := own_nm (w2.alloc (.cells #[.int .i64 X, .int .i64 Y] 68)) W.heap.size (.slice x9 k y9) ((vs.take k).map zOf) (X, Y) (hO.out.up b2) (Nat.le_trans hB.size b2.size) HL2.out
      obtain ⟨p9, q9, e9, _, _⟩ := owns_slice o9
      rw [List.length_append, List.length_singleton, HL3.out] at e9
      subst e9
      have R9 : Hid (_ = _) := r9
      rw [show (w2.alloc (.cells #[.int .i64 X, .int .i64 Y] 68)).heap.size = w2.heap.size + 1 by simp] at R9
      have b9 : Below W.heap.size W w9 := (hB.trans (b2.mono hB.size)).trans k9.low
      clear r9 d0 d1
      go_wp2_with (at_builtin; refine wpList_append_run rfl (.tmp 57) (.tmp 59) 65 rfl rfl (.slice x9 k y9) (.slice (some ⟨w2.heap.size + 1, 0, none⟩) 1 1) rfl rfl (.slice p9 (k + 1) q9) w9 (show _ = _ from R9) ?_)
      all_goals
        go_roundw
        case rel => exact ⟨k + 1, p9, q9, by omega, rfl, rfl, by go_num, b9, by rw [HT.out, HZz.out]; exact o9⟩
        case measure => simp [intOf]; omega
    · have hke : k = 2 := by omega
      subst hke
      have hO2 : OwN wr W.heap.size (.slice x9 2 y9) (vs.map zOf) := by
        have := hO.out
        rwa [List.take_of_length_le (by rw [HLEN.out]; exact Nat.le_refl _)] at this
      rw [HZO.out] at hO2
      have hR1 := hR0.up hB
      have b1 := b0.trans (hB.mono b0.size)
      obtain ⟨g, rfl, hg, e0, e1, e2, e3⟩ := hO2.two
      simp only at e0 e1 e2 e3
      have hgl := cell_lt e0
      have hgR : g ≠ w.heap.size := by have h1 := hR0.lt; omega
      have HS : Hid (∀ X, But w.heap.size wr X → X.cell? ⟨g, 0, none⟩ = some (.int .i64 (nb a.1)) ∧ X.cell? ⟨g, 1, none⟩ = some (.int .i64 (nb a.2)) ∧ X.cell? ⟨g, 2, none⟩ = some (.int .i64 (nb b.1)) ∧ X.cell? ⟨g, 2 + 1, none⟩ = some (.int .i64 (nb b.2))) := fun X hX => ⟨(hX.cell (a := ⟨g, 0, none⟩) hgl hgR).trans e0, (hX.cell (a := ⟨g, 1, none⟩) hgl hgR).trans e1, (hX.cell (a := ⟨g, 2, none⟩) hgl hgR).trans e2, (hX.cell (a := ⟨g, 2 + 1, none⟩) hgl hgR).trans e3⟩
      have s1 := HS.out wr (But.refl _ _)
      have hcx := store_cx
      clear hO hO2 HZ HZO HA hg e0 e1 e2 e3
      go_upto_region 22 with fail
      go_region_held3 (fun X => X.cell? ⟨g, 0, none⟩ = some (.int .i64 (nb a.1)) ∧ X.cell? ⟨g, 1, none⟩ = some (.int .i64 (nb a.2)) ∧ X.cell? ⟨g, 2, none⟩ = some (.int .i64 (nb b.1)) ∧ X.cell? ⟨g, 2 + 1, none⟩ = some (.int .i64 (nb b.2))) ((refine HS.out _ ?_; repeat (first | (with_reducible exact But.refl _ _) | (with_reducible exact bt2) | (with_reducible exact bt3) | refine But.setR ?_ _ | refine But.drew ?_))) (first
        | (go_at_call 40; (with_reducible refine Calls.mono (rtruth_any _ _) ?_); rintro e w3 ⟨rfl, hb3'⟩; have hb3 := Below.thn (Below.refl wr.heap.size wr).drew hb3'; have bt3 := bel_but hb3 w.heap.size; have hRl := hR1.up hb3; have bl := b1.trans (hb3.mono b1.size); have g0 : w3.cell? ⟨w.heap.size, 0, none⟩ = some (.int .i64 0) := hRl.cell 0; have f0 : w3.frozen? ⟨w.heap.size, 0, none⟩ = false := hRl.frz 0; have g1 : w3.cell? ⟨w.heap.size, 1, none⟩ = some (.complex .f64 0 0) := hRl.cell 1; have f1 : w3.frozen? ⟨w.heap.size, 1, none⟩ = false := hRl.frz 1; have g2 : w3.cell? ⟨w.heap.size, 2, none⟩ = some (.bool false) := hRl.cell 2; have f2 : w3.frozen? ⟨w.heap.size, 2, none⟩ = false := hRl.frz 2; have g3 : w3.cell? ⟨w.heap.size, 3, none⟩ = some (.slice none 0 0) := hRl.cell 3; have f3 : w3.frozen? ⟨w.heap.size, 3, none⟩ = false := hRl.frz 3)
        | fail)
      all_goals
        have hR9 := (((hRl.set 0 (.int .i64 2)).set 1 (.complex .f64 0 0)).set 2 (.bool true)).set 3 (.slice none 0 0)
        have b9 := Below.setCell (Below.setCell (Below.setCell (Below.setCell bl (show w.heap.size ≤ (⟨w.heap.size, 0, none⟩ : Addr).block from Nat.le_refl _) (.int .i64 2)) (show w.heap.size ≤ (⟨w.heap.size, 1, none⟩ : Addr).block from Nat.le_refl _) (.complex .f64 0 0)) (show w.heap.size ≤ (⟨w.heap.size, 2, none⟩ : Addr).block from Nat.le_refl _) (.bool true)) (show w.heap.size ≤ (⟨w.heap.size, 3, none⟩ : Addr).block from Nat.le_refl _) (.slice none 0 0)
        have z0 := hR9.cell 0
        have z1 := hR9.cell 1
        have z2 := hR9.cell 2
        have z3 := hR9.cell 3
        go_wp2_with fail
        exact bodyPost_ret (v := .tuple #[.agg #[.int .i64 2, .complex .f64 0 0, .bool true, .slice none 0 0], .int .i64 0]) (by simp [results, Try.results13, go_sem, z0, z1, z2, z3]) rfl ⟨rfl, b9⟩


set_option maxHeartbeats 4000000 in
theorem rgood_13 (ao : Option Addr) (cap : Nat) (l : List Ai) (w : World) (h : Ar w ao l) (a b : Wz) (hv : l.map (·.2.2) = [rn a, rn b]) (ha : vc a.1 a.2 = true) (hb : vc b.1 b.2 = true) (r1 : Bool) (ho1 : ltW a.1 a.2 b.1 b.2 = r1) :
    Calls Try.prog 13 #[.int .i64 13, .slice ao 2 cap] w fun e w' => e = .returned (.tuple #[.agg #[.int .i64 2, .complex .f64 0 0, .bool r1, .slice none 0 0], .int .i64 0]) ∧ Below w.heap.size w w' := by
  have b0 := below_alloc w (.cells #[.int .i64 0, .complex .f64 0 0, .bool false, .slice none 0 0] 32)
  have hR0 := Bk.new w 32 #[.int .i64 0, .complex .f64 0 0, .bool false, .slice none 0 0]
  have ht := fun W => rtakes_any 13 W
  rw [show tkN 13 = 2 from rfl, show tkT 13 = 1 from rfl] at ht
  obtain ⟨vs, hvs⟩ : ∃ vs, Hid (vs = l.map (·.2.2)) := ⟨_, rfl⟩
  have HLL : Hid (l.length = 2) := by show _ = _; have := congrArg List.length hv; simpa using this
  have HLEN : Hid (vs.length = 2) := by show _ = _; rw [hvs.out, List.length_map, HLL.out]
  have HZ : Hid (∀ i ∈ l, ∃ z : Wz, i.2.2 = rn z ∧ vc z.1 z.2 = true) := by
    intro i hi
    have hm : i.2.2 ∈ l.map (·.2.2) := List.mem_map.2 ⟨i, hi, rfl⟩
    rw [hv] at hm
    simp only [List.mem_cons, List.not_mem_nil, or_false] at hm
    rcases hm with e | e
    · exact ⟨a, e, ha⟩
    · exact ⟨b, e, hb⟩
  have HZO : Hid (vs.map zOf = [(nb a.1, nb a.2), (nb b.1, nb b.2)]) := by show _ = _; rw [hvs.out, hv]; simp only [List.map_cons, List.map_nil, zOf_rn ha, zOf_rn hb]
  have HA : Hid (Ar _ ao l) := h.up b0
  clear h
  generalize hW : w.alloc (.cells #[.int .i64 0, .complex .f64 0 0, .bool false, .slice none 0 0] 32) = W at *
  go_enter Try.func13, Try.ntmps13
  go_wp2_with fail
  refine (ht _).mono ?_
  rintro e w1 ⟨rfl, hw1⟩
  rw [hw1]
  clear hw1 ht hW
  go_wp2_with fail
  go_loopw [8, 9, 10] (fun f v i wr => ∃ (k : Nat) (x9 : Option Addr) (y9 : Nat), k ≤ 2 ∧ f = .bool true ∧ v = .slice x9 k y9 ∧ i = .int .i64 k ∧ Below W.heap.size W wr ∧ Hid (OwN wr W.heap.size (.slice x9 k y9) ((vs.take k).map zOf))) (fun _ _ i _ => 2 - (intOf i).toNat)
  case atStart => exact ⟨0, none, 0, Nat.zero_le _, rfl, rfl, rfl, Below.refl _ _, OwN.nil _ _⟩
  case round =>
    obtain ⟨k, x9, y9, hkn, rfl, rfl, rfl, hB, hO⟩ := hrel
    by_cases hlt : k < 2
    · have hk : k < l.length := by rw [HLL.out]; exact hlt
      have hk2 : k < vs.length := by rw [HLEN.out]; exact hlt
      obtain ⟨bb, off, rfl, hv4⟩ := (HA.out.up hB).pl (by intro e; rw [e] at hk; simp at hk)
      have v4 := hv4 k hk
      have vr := (HA.out.up hB).vr _ (getD_mem (d := ai0) hk)
      have hm : vs.getD k rv0 = (l.getD k ai0).2.2 := by rw [hvs.out]; exact map_getD l k hk
      have HT : Hid ((vs.take (k + 1)).map zOf = (vs.take k).map zOf ++ [zOf (l.getD k ai0).2.2]) := by rw [← hm]; exact take_map_zOf hk2
      obtain ⟨z, hz, hvz⟩ := HZ.out _ (getD_mem (d := ai0) hk)
      generalize l.getD k ai0 = i at *
      obtain ⟨ai, ci, u⟩ := i
      simp only at hz
      subst hz
      simp only at *
      obtain ⟨c0, c1, c2, c3⟩ := v4
      have hvl := fun W (hW : Vr W ai (rn z)) => rvalid_any (rn z) ai ci W hW
      rw [sound_rn hvz] at hvl
      have hof := fun W => ofb_any (rn z).z W vr.z
      unfold vV at hvl
      obtain ⟨X, hX⟩ : ∃ X, Hid (X = ofX (rn z).z.1 (rn z).z.2) := ⟨_, rfl⟩
      obtain ⟨Y, hY⟩ : ∃ Y, Hid (Y = ofY (rn z).z.1 (rn z).z.2) := ⟨_, rfl⟩
      rw [← hX.out, ← hY.out] at hof
      have HZz : Hid (zOf (rn z) = (X, Y)) := by show (_, _) = (_, _); rw [hX.out, hY.out]
      have HL2 : Hid (((vs.take k).map zOf).length < 8796093022208) := by show _ < _; rw [List.length_map, List.length_take]; omega
      have HL3 : Hid (((vs.take k).map zOf).length = k) := by show _ = _; rw [List.length_map, List.length_take, HLEN.out]; omega
      generalize vc (rn z).z.1 (rn z).z.2 = vq at *
      simp only [rn, List.length_nil] at c0 c1 c2 c3 hvl hof
      clear hv4 hm hk2 hk hX hY HZ HZO
      go_wp2_with fail
      refine (hvl _ vr).mono ?_
      rintro e w1 ⟨rfl, hb1⟩
      have d0 := (hb1.cell (cell_lt c0)).trans c0
      have d1 := (hb1.cell (cell_lt c1)).trans c1
      clear c0 c1 c2 c3
      go_wp2_with fail
      refine (hof _).mono ?_
      rintro e w2 ⟨rfl, hb2⟩
      have b2 := Below.thn hb1 (Below.thn hb2 (below_alloc w2 (.cells #[.int .i64 X, .int .i64 Y] 68)))
      obtain ⟨v9, w9, r9, o9, k9⟩ := own_nm (w2.alloc (.cells #[.int .i64 X, .int .i64 Y] 68)) W.heap.size (.slice x9 k y9) ((vs.take k).map zOf) (X, Y) (hO.out.up b2) (Nat.le_trans hB.size b2.size) HL2.out
      obtain ⟨p9, q9, e9, _, _⟩ := owns_slice o9
      rw [List.length_append, List.length_singleton, HL3.out] at e9
      subst e9
      have R9 : Hid (_ = _) := r9
      rw [show (w2.alloc (.cells #[.int .i64 X, .int .i64 Y] 68)).heap.size = w2.heap.size + 1 by simp] at R9
      have b9 : Below W.heap.size W w9 := (hB.trans (b2.mono hB.size)).trans k9.low
      clear r9 d0 d1
      go_wp2_with (at_builtin; refine wpList_append_run rfl (.tmp 57) (.tmp 59) 65 rfl rfl (.slice x9 k y9) (.slice (some ⟨w2.heap.size + 1, 0, none⟩) 1 1) rfl rfl (.slice p9 (k + 1) q9) w9 (show _ = _ from R9) ?_)
      all_goals
        go_roundw
        case rel => exact ⟨k + 1, p9, q9, by omega, rfl, rfl, by go_num, b9, by rw [HT.out, HZz.out]; exact o9⟩
        case measure => simp [intOf]; omega
    · have hke : k = 2 := by omega
      subst hke
      have hO2 : OwN wr W.heap.size (.slice x9 2 y9) (vs.map zOf) := by
        have := hO.out
        rwa [List.take_of_length_le (by rw [HLEN.out]; exact Nat.le_refl _)] at this
      rw [HZO.out] at hO2
      have hR1 := hR0.up hB
      have b1 := b0.trans (hB.mono b0.size)
      obtain ⟨g, rfl, hg, e0, e1, e2, e3⟩ := hO2.two
      simp only at e0 e1 e2 e3
      have hgl := cell_lt e0
      have hgR : g ≠ w.heap.size := by have h1 := hR0.lt; omega
      have HS : Hid (∀ X, But w.heap.size wr X → X.cell? ⟨g, 0, none⟩ = some (.int .i64 (nb a.1)) ∧ X.cell? ⟨g, 1, none⟩ = some (.int .i64 (nb a.2)) ∧ X.cell? ⟨g, 2, none⟩ = some (.int .i64 (nb b.1)) ∧ X.cell? ⟨g, 2 + 1, none⟩ = some (.int .i64 (nb b.2))) := fun X hX => ⟨(hX.cell (a := ⟨g, 0, none⟩) hgl hgR).trans e0, (hX.cell (a := ⟨g, 1, none⟩) hgl hgR).trans e1, (hX.cell (a := ⟨g, 2, none⟩) hgl hgR).trans e2, (hX.cell (a := ⟨g, 2 + 1, none⟩) hgl hgR).trans e3⟩
      have s1 := HS.out wr (But.refl _ _)
      have hcx := store_cx
      have hles := fun W => refless_any (nb a.1) (nb a.2) (nb b.1) (nb b.2) W
      rw [show decide (nb a.1 < nb b.1 ∨ nb a.1 = nb b.1 ∧ nb a.2 < nb b.2) = r1 from ho1] at hles
      clear hO hO2 HZ HZO HA hg e0 e1 e2 e3
      go_upto_region 24 with fail
      go_region_held3 (fun X => X.cell? ⟨g, 0, none⟩ = some (.int .i64 (nb a.1)) ∧ X.cell? ⟨g, 1, none⟩ = some (.int .i64 (nb a.2)) ∧ X.cell? ⟨g, 2, none⟩ = some (.int .i64 (nb b.1)) ∧ X.cell? ⟨g, 2 + 1, none⟩ = some (.int .i64 (nb b.2))) ((refine HS.out _ ?_; repeat (first | (with_reducible exact But.refl _ _) | (with_reducible exact bt2) | (with_reducible exact bt3) | refine But.setR ?_ _ | refine But.drew ?_))) (first
        | (go_at_call 41; (with_reducible refine Calls.mono (hles _) ?_); rintro e w2 ⟨rfl, hb2'⟩; have hb2 := Below.thn (Below.refl wr.heap.size wr).drew hb2'; have bt2 := bel_but hb2 w.heap.size; have hR2 := hR1.up hb2; have b2 := b1.trans (hb2.mono b1.size))
        | (go_at_call 40; (with_reducible refine Calls.mono (rtruth_any _ _) ?_); rintro e w3 ⟨rfl, hb3⟩; have bt3 := bt2.then hb3; have hRl := hR2.up hb3; have bl := b2.trans (hb3.mono b2.size); have g0 : w3.cell? ⟨w.heap.size, 0, none⟩ = some (.int .i64 0) := hRl.cell 0; have f0 : w3.frozen? ⟨w.heap.size, 0, none⟩ = false := hRl.frz 0; have g1 : w3.cell? ⟨w.heap.size, 1, none⟩ = some (.complex .f64 0 0) := hRl.cell 1; have f1 : w3.frozen? ⟨w.heap.size, 1, none⟩ = false := hRl.frz 1; have g2 : w3.cell? ⟨w.heap.size, 2, none⟩ = some (.bool false) := hRl.cell 2; have f2 : w3.frozen? ⟨w.heap.size, 2, none⟩ = false := hRl.frz 2; have g3 : w3.cell? ⟨w.heap.size, 3, none⟩ = some (.slice none 0 0) := hRl.cell 3; have f3 : w3.frozen? ⟨w.heap.size, 3, none⟩ = false := hRl.frz 3)
        | fail)
      all_goals
        have hR9 := (((hRl.set 0 (.int .i64 2)).set 1 (.complex .f64 0 0)).set 2 (.bool r1)).set 3 (.slice none 0 0)
        have b9 := Below.setCell (Below.setCell (Below.setCell (Below.setCell bl (show w.heap.size ≤ (⟨w.heap.size, 0, none⟩ : Addr).block from Nat.le_refl _) (.int .i64 2)) (show w.heap.size ≤ (⟨w.heap.size, 1, none⟩ : Addr).block from Nat.le_refl _) (.complex .f64 0 0)) (show w.heap.size ≤ (⟨w.heap.size, 2, none⟩ : Addr).block from Nat.le_refl _) (.bool r1)) (show w.heap.size ≤ (⟨w.heap.size, 3, none⟩ : Addr).block from Nat.le_refl _) (.slice none 0 0)
        have z0 := hR9.cell 0
        have z1 := hR9.cell 1
        have z2 := hR9.cell 2
        have z3 := hR9.cell 3
        go_wp2_with fail
        exact bodyPost_ret (v := .tuple #[.agg #[.int .i64 2, .complex .f64 0 0, .bool r1, .slice none 0 0], .int .i64 0]) (by simp [results, Try.results13, go_sem, z0, z1, z2, z3]) rfl ⟨rfl, b9⟩


set_option maxHeartbeats 4000000 in
theorem rgood_17 (ao : Option Addr) (cap : Nat) (l : List Ai) (w : World) (h : Ar w ao l) (a : Wz) (hv : l.map (·.2.2) = [rn a]) (ha : vc a.1 a.2 = true) (c9 : Nat) (hc9 : cj a.2 = c9) :
    Calls Try.prog 13 #[.int .i64 17, .slice ao 1 cap] w fun e w' => e = .returned (.tuple #[.agg #[.int .i64 1, .complex .f64 a.1 c9, .bool false, .slice none 0 0], .int .i64 0]) ∧ Below w.heap.size w w' := by
  have b0 := below_alloc w (.cells #[.int .i64 0, .complex .f64 0 0, .bool false, .slice none 0 0] 32)
  have hR0 := Bk.new w 32 #[.int .i64 0, .complex .f64 0 0, .bool false, .slice none 0 0]
  have ht := fun W => rtakes_any 17 W
  rw [show tkN 17 = 1 from rfl, show tkT 17 = 1 from rfl] at ht
  obtain ⟨vs, hvs⟩ : ∃ vs, Hid (vs = l.map (·.2.2)) := ⟨_, rfl⟩
  have HLL : Hid (l.length = 1) := by show _ = _; have := congrArg List.length hv; simpa using this
  have HLEN : Hid (vs.length = 1) := by show _ = _; rw [hvs.out, List.length_map, HLL.out]
  have HZ : Hid (∀ i ∈ l, ∃ z : Wz, i.2.2 = rn z ∧ vc z.1 z.2 = true) := by
    intro i hi
    have hm : i.2.2 ∈ l.map (·.2.2) := List.mem_map.2 ⟨i, hi, rfl⟩
    rw [hv] at hm
    simp only [List.mem_cons, List.not_mem_nil, or_false] at hm
    have e := hm
    exact ⟨a, e, ha⟩
  have HZO : Hid (vs.map zOf = [(nb a.1, nb a.2)]) := by show _ = _; rw [hvs.out, hv]; simp only [List.map_cons, List.map_nil, zOf_rn ha]
  have HA : Hid (Ar _ ao l) := h.up b0
  clear h
  generalize hW : w.alloc (.cells #[.int .i64 0, .complex .f64 0 0, .bool false, .slice none 0 0] 32) = W at *
  go_enter Try.func13, Try.ntmps13
  go_wp2_with fail
  refine (ht _).mono ?_
  rintro e w1 ⟨rfl, hw1⟩
  rw [hw1]
  clear hw1 ht hW
  go_wp2_with fail
  go_loopw [8, 9, 10] (fun f v i wr => ∃ (k : Nat) (x9 : Option Addr) (y9 : Nat), k ≤ 1 ∧ f = .bool true ∧ v = .slice x9 k y9 ∧ i = .int .i64 k ∧ Below W.heap.size W wr ∧ Hid (OwN wr W.heap.size (.slice x9 k y9) ((vs.take k).map zOf))) (fun _ _ i _ => 1 - (intOf i).toNat)
  case atStart => exact ⟨0, none, 0, Nat.zero_le _, rfl, rfl, rfl, Below.refl _ _, OwN.nil _ _⟩
  case round =>
    obtain ⟨k, x9, y9, hkn, rfl, rfl, rfl, hB, hO⟩ := hrel
    by_cases hlt : k < 1
    · have hk : k < l.length := by rw [HLL.out]; exact hlt
      have hk2 : k < vs.length := by rw [HLEN.out]; exact hlt
      obtain ⟨bb, off, rfl, hv4⟩ := (HA.out.up hB).pl (by intro e; rw [e] at hk; simp at hk)
      have v4 := hv4 k hk
      have vr := (HA.out.up hB).vr _ (getD_mem (d := ai0) hk)
      have hm : vs.getD k rv0 = (l.getD k ai0).2.2 := by rw [hvs.out]; exact map_getD l k hk
      have HT : Hid ((vs.take (k + 1)).map zOf = (vs.take k).map zOf ++ [zOf (l.getD k ai0).2.2]) := by rw [← hm]; exact take_map_zOf hk2
      obtain ⟨z, hz, hvz⟩ := HZ.out _ (getD_mem (d := ai0) hk)
      generalize l.getD k ai0 = i at *
      obtain ⟨ai, ci, u⟩ := i
      simp only at hz
      subst hz
      simp only at *
      obtain ⟨c0, c1, c2, c3⟩ := v4
      have hvl := fun W (hW : Vr W ai (rn z)) => rvalid_any (rn z) ai ci W hW
      rw [sound_rn hvz] at hvl
      have hof := fun W => ofb_any (rn z).z W vr.z
      unfold vV at hvl
      obtain ⟨X, hX⟩ : ∃ X, Hid (X = ofX (rn z).z.1 (rn z).z.2) := ⟨_, rfl⟩
      obtain ⟨Y, hY⟩ : ∃ Y, Hid (Y = ofY (rn z).z.1 (rn z).z.2) := ⟨_, rfl⟩
      rw [← hX.out, ← hY.out] at hof
      have HZz : Hid (zOf (rn z) = (X, Y)) := by show (_, _) = (_, _); rw [hX.out, hY.out]
      have HL2 : Hid (((vs.take k).map zOf).length < 8796093022208) := by show _ < _; rw [List.length_map, List.length_take]; omega
      have HL3 : Hid (((vs.take k).map zOf).length = k) := by show _ = _; rw [List.length_map, List.length_take, HLEN.out]; omega
      generalize vc (rn z).z.1 (rn z).z.2 = vq at *
      simp only [rn, List.length_nil] at c0 c1 c2 c3 hvl hof
      clear hv4 hm hk2 hk hX hY HZ HZO
      go_wp2_with fail
      refine (hvl _ vr).mono ?_
      rintro e w1 ⟨rfl, hb1⟩
      have d0 := (hb1.cell (cell_lt c0)).trans c0
      have d1 := (hb1.cell (cell_lt c1)).trans c1
      clear c0 c1 c2 c3
      go_wp2_with fail
      refine (hof _).mono ?_
      rintro e w2 ⟨rfl, hb2⟩
      have b2 := Below.thn hb1 (Below.thn hb2 (below_alloc w2 (.cells #[.int .i64 X, .int .i64 Y] 68)))
      obtain ⟨v9, w9, r9, o9, k9⟩ := own_nm (w2.alloc (.cells #[.int .i64 X, .int .i64 Y] 68)) W.heap.size (.slice x9 k y9) ((vs.take k).map zOf) (X, Y) (hO.out.up b2) (Nat.le_trans hB.size b2.size) HL2.out
      obtain ⟨p9, q9, e9, _, _⟩ := owns_slice o9
      rw [List.length_append, List.length_singleton, HL3.out] at e9
      subst e9
      have R9 : Hid (_ = _) := r9
      rw [show (w2.alloc (.cells #[.int .i64 X, .int .i64 Y] 68)).heap.size = w2.heap.size + 1 by simp] at R9
      have b9 : Below W.heap.size W w9 := (hB.trans (b2.mono hB.size)).trans k9.low
      clear r9 d0 d1
      go_wp2_with (at_builtin; refine wpList_append_run rfl (.tmp 57) (.tmp 59) 65 rfl rfl (.slice x9 k y9) (.slice (some ⟨w2.heap.size + 1, 0, none⟩) 1 1) rfl rfl (.slice p9 (k + 1) q9) w9 (show _ = _ from R9) ?_)
      all_goals
        go_roundw
        case rel => exact ⟨k + 1, p9, q9, by omega, rfl, rfl, by go_num, b9, by rw [HT.out, HZz.out]; exact o9⟩
        case measure => simp [intOf]; omega
    · have hke : k = 1 := by omega
      subst hke
      have hO2 : OwN wr W.heap.size (.slice x9 1 y9) (vs.map zOf) := by
        have := hO.out
        rwa [List.take_of_length_le (by rw [HLEN.out]; exact Nat.le_refl _)] at this
      rw [HZO.out] at hO2
      have hR1 := hR0.up hB
      have b1 := b0.trans (hB.mono b0.size)
      obtain ⟨g, rfl, hg, e0, e1⟩ := hO2.one
      simp only at e0 e1
      have hgl := cell_lt e0
      have hgR : g ≠ w.heap.size := by have h1 := hR0.lt; omega
      have HS : Hid (∀ X, But w.heap.size wr X → X.cell? ⟨g, 0, none⟩ = some (.int .i64 (nb a.1)) ∧ X.cell? ⟨g, 1, none⟩ = some (.int .i64 (nb a.2))) := fun X hX => ⟨(hX.cell (a := ⟨g, 0, none⟩) hgl hgR).trans e0, (hX.cell (a := ⟨g, 1, none⟩) hgl hgR).trans e1⟩
      have s1 := HS.out wr (But.refl _ _)
      have hcx := store_cx
      have hneg : IntKind.i64.wrap (-nb a.2) = -nb a.2 := by have := (vp_true (vc_parts ha).2).1; exact wrap_id (by omega)
      have hnum := fun W => rnum_at (nb a.1) (-nb a.2) 0 W (t := 1) (x := a.1) (y := c9) (r := false) (by rw [show nuR (fl (nb a.1), fl (-nb a.2)) 0 = rn (fl (nb a.1), fl (-nb a.2)) from rfl, ← (vp_true (vc_parts ha).1).2, show fl (-nb a.2) = c9 from hc9]; rfl)
      clear hO hO2 HZ HZO HA hg e0 e1
      go_upto_region 31 with fail
      go_region_held3 (fun X => X.cell? ⟨g, 0, none⟩ = some (.int .i64 (nb a.1)) ∧ X.cell? ⟨g, 1, none⟩ = some (.int .i64 (nb a.2))) ((refine HS.out _ ?_; repeat (first | (with_reducible exact But.refl _ _) | (with_reducible exact bt2) | (with_reducible exact bt3) | refine But.setR ?_ _ | refine But.drew ?_))) (first
        | (go_at_call 35; (with_reducible refine Calls.mono (hnum _) ?_); rintro e w3 ⟨rfl, hb3'⟩; have hb3 := Below.thn (Below.refl wr.heap.size wr).drew hb3'; have bt3 := bel_but hb3 w.heap.size; have hRl := hR1.up hb3; have bl := b1.trans (hb3.mono b1.size); have g0 : w3.cell? ⟨w.heap.size, 0, none⟩ = some (.int .i64 0) := hRl.cell 0; have f0 : w3.frozen? ⟨w.heap.size, 0, none⟩ = false := hRl.frz 0; have g1 : w3.cell? ⟨w.heap.size, 1, none⟩ = some (.complex .f64 0 0) := hRl.cell 1; have f1 : w3.frozen? ⟨w.heap.size, 1, none⟩ = false := hRl.frz 1; have g2 : w3.cell? ⟨w.heap.size, 2, none⟩ = some (.bool false) := hRl.cell 2; have f2 : w3.frozen? ⟨w.heap.size, 2, none⟩ = false := hRl.frz 2; have g3 : w3.cell? ⟨w.heap.size, 3, none⟩ = some (.slice none 0 0) := hRl.cell 3; have f3 : w3.frozen? ⟨w.heap.size, 3, none⟩ = false := hRl.frz 3)
        | fail)
      all_goals
        have hR9 := (((hRl.set 0 (.int .i64 1)).set 1 (.complex .f64 a.1 c9)).set 2 (.bool false)).set 3 (.slice none 0 0)
        have b9 := Below.setCell (Below.setCell (Below.setCell (Below.setCell bl (show w.heap.size ≤ (⟨w.heap.size, 0, none⟩ : Addr).block from Nat.le_refl _) (.int .i64 1)) (show w.heap.size ≤ (⟨w.heap.size, 1, none⟩ : Addr).block from Nat.le_refl _) (.complex .f64 a.1 c9)) (show w.heap.size ≤ (⟨w.heap.size, 2, none⟩ : Addr).block from Nat.le_refl _) (.bool false)) (show w.heap.size ≤ (⟨w.heap.size, 3, none⟩ : Addr).block from Nat.le_refl _) (.slice none 0 0)
        have z0 := hR9.cell 0
        have z1 := hR9.cell 1
        have z2 := hR9.cell 2
        have z3 := hR9.cell 3
        go_wp2_with fail
        exact bodyPost_ret (v := .tuple #[.agg #[.int .i64 1, .complex .f64 a.1 c9, .bool false, .slice none 0 0], .int .i64 0]) (by simp [results, Try.results13, go_sem, z0, z1, z2, z3]) rfl ⟨rfl, b9⟩


end Go.Proofs.Ytebpjcjoapahnaa
