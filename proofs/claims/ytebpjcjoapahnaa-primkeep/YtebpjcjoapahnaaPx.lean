/-
  The walk of the document's Apply where the operation fits.
-/
import Derived.Test.YtebpjcjoapahnaaPw
namespace Go.Proofs.Ytebpjcjoapahnaa
open Go.RowKit
set_option maxRecDepth 100000

theorem OwN.two {w : World} {B y : Nat} {x : Option Addr} {p q : Zn} (h : OwN w B (.slice x 2 y) [p, q]) : ∃ g, x = some ⟨g, 0, none⟩ ∧ B ≤ g ∧ w.cell? ⟨g, 0, none⟩ = some (.int .i64 p.1) ∧ w.cell? ⟨g, 1, none⟩ = some (.int .i64 p.2) ∧ w.cell? ⟨g, 2, none⟩ = some (.int .i64 q.1) ∧ w.cell? ⟨g, 2 + 1, none⟩ = some (.int .i64 q.2) := by
  rcases h.2 with ⟨e, _⟩ | ⟨g, cap, cur, e, h2, _, _, _⟩
  · cases e
  · simp only [Value.slice.injEq] at e
    obtain ⟨rfl, _, rfl⟩ := e
    have hc := fun j v hj => h.cells (g := g) rfl j v hj
    have c0 := hc 0 (.int .i64 p.1) rfl
    have c1 := hc 1 (.int .i64 p.2) rfl
    have c2 := hc 2 (.int .i64 q.1) rfl
    have c3 := hc 3 (.int .i64 q.2) rfl
    simp only [Addr.add_mid, Nat.zero_add] at c0 c1 c2 c3
    exact ⟨g, rfl, h2, c0, c1, c2, c3⟩
theorem OwN.one {w : World} {B y : Nat} {x : Option Addr} {p : Zn} (h : OwN w B (.slice x 1 y) [p]) : ∃ g, x = some ⟨g, 0, none⟩ ∧ B ≤ g ∧ w.cell? ⟨g, 0, none⟩ = some (.int .i64 p.1) ∧ w.cell? ⟨g, 1, none⟩ = some (.int .i64 p.2) := by
  rcases h.2 with ⟨e, _⟩ | ⟨g, cap, cur, e, h2, _, _, _⟩
  · cases e
  · simp only [Value.slice.injEq] at e
    obtain ⟨rfl, _, rfl⟩ := e
    have hc := fun j v hj => h.cells (g := g) rfl j v hj
    have c0 := hc 0 (.int .i64 p.1) rfl
    have c1 := hc 1 (.int .i64 p.2) rfl
    simp only [Addr.add_mid, Nat.zero_add] at c0 c1
    exact ⟨g, rfl, h2, c0, c1⟩
theorem zOf_rn {a : Wz} (h : vc a.1 a.2 = true) : zOf (rn a) = (nb a.1, nb a.2) := by
  unfold zOf
  rw [show (rn a).z = a from rfl, (of_valid h).1, (of_valid h).2]

set_option maxHeartbeats 4000000 in
theorem rgood_14 (ao : Option Addr) (cap : Nat) (l : List Ai) (w : World) (h : Ar w ao l) (r : Bool) (hv : l.map (·.2.2) = [rb r]) :
    Calls Try.prog 13 #[.int .i64 14, .slice ao 1 cap] w fun e w' => e = .returned (.tuple #[.agg #[.int .i64 2, .complex .f64 0 0, .bool (!r), .slice none 0 0], .int .i64 0]) ∧ Below w.heap.size w w' := by
  have b0 := below_alloc w (.cells #[.int .i64 0, .complex .f64 0 0, .bool false, .slice none 0 0] 32)
  have hR0 := Bk.new w 32 #[.int .i64 0, .complex .f64 0 0, .bool false, .slice none 0 0]
  have ht := fun W => rtakes_any 14 W
  rw [show tkN 14 = 1 from rfl, show tkT 14 = 2 from rfl] at ht
  obtain ⟨vs, hvs⟩ : ∃ vs, Hid (vs = l.map (·.2.2)) := ⟨_, rfl⟩
  have HLL : Hid (l.length = 1) := by show _ = _; have := congrArg List.length hv; simpa using this
  have HLEN : Hid (vs.length = 1) := by show _ = _; rw [hvs.out, List.length_map, HLL.out]
  have HZ : Hid (∀ i ∈ l, i.2.2 = rb r) := by
    intro i hi
    have hm : i.2.2 ∈ l.map (·.2.2) := List.mem_map.2 ⟨i, hi, rfl⟩
    rw [hv] at hm
    simpa using hm
  have HZO : Hid (vs.map zOf = [zOf (rb r)]) := by show _ = _; rw [hvs.out, hv]; rfl
  have HA : Hid (Ar _ ao l) := h.up b0
  clear h
  generalize hW : w.alloc (.cells #[.int .i64 0, .complex .f64 0 0, .bool false, .slice none 0 0] 32) = W at *
  go_enter Try.func13, Try.ntmps13
  go_wp2_with fail
  refine (ht _).mono ?_
  rintro e w1 ⟨rfl, hw1⟩
  rw [hw1]
  clear hw1 ht hW
  go_wp2_with fail
  go_loopw [8, 9, 10] (fun f v i wr => ∃ (k : Nat) (x9 : Option Addr) (y9 : Nat), k ≤ 1 ∧ f = .bool true ∧ v = .slice x9 k y9 ∧ i = .int .i64 k ∧ Below W.heap.size W wr ∧ Hid (OwN wr W.heap.size (.slice x9 k y9) ((vs.take k).map zOf))) (fun _ _ i _ => 1 - (intOf i).toNat)
  case atStart => exact ⟨0, none, 0, Nat.zero_le _, rfl, rfl, rfl, Below.refl _ _, OwN.nil _ _⟩
  case round =>
    obtain ⟨k, x9, y9, hkn, rfl, rfl, rfl, hB, hO⟩ := hrel
    by_cases hlt : k < 1
    · have hk : k < l.length := by rw [HLL.out]; exact hlt
      have hk2 : k < vs.length := by rw [HLEN.out]; exact hlt
      obtain ⟨bb, off, rfl, hv4⟩ := (HA.out.up hB).pl (by intro e; rw [e] at hk; simp at hk)
      have v4 := hv4 k hk
      have vr := (HA.out.up hB).vr _ (getD_mem (d := ai0) hk)
      have hm : vs.getD k rv0 = (l.getD k ai0).2.2 := by rw [hvs.out]; exact map_getD l k hk
      have HT : Hid ((vs.take (k + 1)).map zOf = (vs.take k).map zOf ++ [zOf (l.getD k ai0).2.2]) := by rw [← hm]; exact take_map_zOf hk2
      have hz := HZ.out _ (getD_mem (d := ai0) hk)
      generalize l.getD k ai0 = i at *
      obtain ⟨ai, ci, u⟩ := i
      simp only at hz
      subst hz
      simp only at *
      obtain ⟨c0, c1, c2, c3⟩ := v4
      have hvl := fun W (hW : Vr W ai (rb r)) => rvalid_any (rb r) ai ci W hW
      rw [sound_rb r] at hvl
      have hof := fun W => ofb_any (rb r).z W vr.z
      unfold vV at hvl
      obtain ⟨X, hX⟩ : ∃ X, Hid (X = ofX (rb r).z.1 (rb r).z.2) := ⟨_, rfl⟩
      obtain ⟨Y, hY⟩ : ∃ Y, Hid (Y = ofY (rb r).z.1 (rb r).z.2) := ⟨_, rfl⟩
      rw [← hX.out, ← hY.out] at hof
      have HZz : Hid (zOf (rb r) = (X, Y)) := by show (_, _) = (_, _); rw [hX.out, hY.out]
      have HL2 : Hid (((vs.take k).map zOf).length < 8796093022208) := by show _ < _; rw [List.length_map, List.length_take]; omega
      have HL3 : Hid (((vs.take k).map zOf).length = k) := by show _ = _; rw [List.length_map, List.length_take, HLEN.out]; omega
      generalize vc (rb r).z.1 (rb r).z.2 = vq at *
      simp only [rb, List.length_nil] at c0 c1 c2 c3 hvl hof
      clear hv4 hm hk2 hk hX hY HZ HZO
      go_wp2_with fail
      refine (hvl _ vr).mono ?_
      rintro e w1 ⟨rfl, hb1⟩
      have d0 := (hb1.cell (cell_lt c0)).trans c0
      have d1 := (hb1.cell (cell_lt c1)).trans c1
      clear c0 c1 c2 c3
      go_wp2_with fail
      refine (hof _).mono ?_
      rintro e w2 ⟨rfl, hb2⟩
      have b2 := Below.thn hb1 (Below.thn hb2 (below_alloc w2 (.cells #[.int .i64 X, .int .i64 Y] 68)))
      obtain ⟨v9, w9, r9, o9, k9⟩ := own_nm (w2.alloc (.cells #[.int .i64 X, .int .i64 Y] 68)) W.heap.size (.slice x9 k y9) ((vs.take k).map zOf) (X, Y) (hO.out.up b2) (Nat.le_trans hB.size b2.size) HL2.out
      obtain ⟨p9, q9, e9, _, _⟩ := owns_slice o9
      rw [List.length_append, List.length_singleton, HL3.out] at e9
      subst e9
      have R9 : Hid (_ = _) := r9
      rw [show (w2.alloc (.cells #[.int .i64 X, .int .i64 Y] 68)).heap.size = w2.heap.size + 1 by simp] at R9
      have b9 : Below W.heap.size W w9 := (hB.trans (b2.mono hB.size)).trans k9.low
      clear r9 d0 d1
      go_wp2_with (at_builtin; refine wpList_append_run rfl (.tmp 57) (.tmp 59) 65 rfl rfl (.slice x9 k y9) (.slice (some ⟨w2.heap.size + 1, 0, none⟩) 1 1) rfl rfl (.slice p9 (k + 1) q9) w9 (show _ = _ from R9) ?_)
      all_goals
        go_roundw
        case rel => exact ⟨k + 1, p9, q9, by omega, rfl, rfl, by go_num, b9, by rw [HT.out, HZz.out]; exact o9⟩
        case measure => simp [intOf]; omega
    · have hke : k = 1 := by omega
      subst hke
      have hO2 : OwN wr W.heap.size (.slice x9 1 y9) (vs.map zOf) := by
        have := hO.out
        rwa [List.take_of_length_le (by rw [HLEN.out]; exact Nat.le_refl _)] at this
      rw [HZO.out] at hO2
      have hR1 := hR0.up hB
      have b1 := b0.trans (hB.mono b0.size)
      obtain ⟨i9, hl9, hi9⟩ := map_one hv
      obtain ⟨bb, off, rfl, _, q2, _⟩ := (show Ar W ao (i9 :: []) by rw [← hl9]; exact HA.out).fst
      have c2 := q2 wr hB
      rw [hi9] at c2
      simp only [rb] at c2
      have hT := fun W => rtruth_any (!r) W
      clear hO hO2 HZ HZO HA q2 hi9 hl9
      go_wp2_with fail
      refine (hT _).mono ?_
      rintro e w2 ⟨rfl, hb2⟩
      have hR2 := hR1.up hb2
      have b2 := b1.trans (hb2.mono b1.size)
      go_wp2_with (refine wpList_storeN rfl 32 (.tmp 4) (.tmp 153) rfl w.heap.size 0 [.int .i64 2, .complex .f64 0 0, .bool (!r), .slice none 0 0] rfl rfl hR2 (Nat.le_refl 4) Try.infoV (one4 _ _ _ _ _ _ _) ?_; intro w9 hB9 hO9)
      have z0 : w9.cell? ⟨w.heap.size, 0, none⟩ = some (.int .i64 2) := hB9.cell 0
      have z1 : w9.cell? ⟨w.heap.size, 1, none⟩ = some (.complex .f64 0 0) := hB9.cell 1
      have z2 : w9.cell? ⟨w.heap.size, 2, none⟩ = some (.bool (!r)) := hB9.cell 2
      have z3 : w9.cell? ⟨w.heap.size, 3, none⟩ = some (.slice none 0 0) := hB9.cell 3
      go_wp2
      exact bodyPost_ret (v := .tuple #[.agg #[.int .i64 2, .complex .f64 0 0, .bool (!r), .slice none 0 0], .int .i64 0]) (by simp [results, Try.results13, go_sem, z0, z1, z2, z3]) rfl ⟨rfl, b2.trans (hO9.below (Nat.le_refl _))⟩


set_option maxHeartbeats 4000000 in
theorem rgood_15 (ao : Option Addr) (cap : Nat) (l : List Ai) (w : World) (h : Ar w ao l) (a : Wz) (hv : l.map (·.2.2) = [rn a]) (ha : vc a.1 a.2 = true) :
    Calls Try.prog 13 #[.int .i64 15, .slice ao 1 cap] w fun e w' => e = .returned (.tuple #[.agg #[.int .i64 1, .complex .f64 a.1 0, .bool false, .slice none 0 0], .int .i64 0]) ∧ Below w.heap.size w w' := by
  have b0 := below_alloc w (.cells #[.int .i64 0, .complex .f64 0 0, .bool false, .slice none 0 0] 32)
  have hR0 := Bk.new w 32 #[.int .i64 0, .complex .f64 0 0, .bool false, .slice none 0 0]
  have ht := fun W => rtakes_any 15 W
  rw [show tkN 15 = 1 from rfl, show tkT 15 = 1 from rfl] at ht
  obtain ⟨vs, hvs⟩ : ∃ vs, Hid (vs = l.map (·.2.2)) := ⟨_, rfl⟩
  have HLL : Hid (l.length = 1) := by show _ = _; have := congrArg List.length hv; simpa using this
  have HLEN : Hid (vs.length = 1) := by show _ = _; rw [hvs.out, List.length_map, HLL.out]
  have HZ : Hid (∀ i ∈ l, ∃ z : Wz, i.2.2 = rn z ∧ vc z.1 z.2 = true) := by
    intro i hi
    have hm : i.2.2 ∈ l.map (·.2.2) := List.mem_map.2 ⟨i, hi, rfl⟩
    rw [hv] at hm
    simp only [List.mem_cons, List.not_mem_nil, or_false] at hm
    have e := hm
    exact ⟨a, e, ha⟩
  have HZO : Hid (vs.map zOf = [(nb a.1, nb a.2)]) := by show _ = _; rw [hvs.out, hv]; simp only [List.map_cons, List.map_nil, zOf_rn ha]
  have HA : Hid (Ar _ ao l) := h.up b0
  clear h
  generalize hW : w.alloc (.cells #[.int .i64 0, .complex .f64 0 0, .bool false, .slice none 0 0] 32) = W at *
  go_enter Try.func13, Try.ntmps13
  go_wp2_with fail
  refine (ht _).mono ?_
  rintro e w1 ⟨rfl, hw1⟩
  rw [hw1]
  clear hw1 ht hW
  go_wp2_with fail
  go_loopw [8, 9, 10] (fun f v i wr => ∃ (k : Nat) (x9 : Option Addr) (y9 : Nat), k ≤ 1 ∧ f = .bool true ∧ v = .slice x9 k y9 ∧ i = .int .i64 k ∧ Below W.heap.size W wr ∧ Hid (OwN wr W.heap.size (.slice x9 k y9) ((vs.take k).map zOf))) (fun _ _ i _ => 1 - (intOf i).toNat)
  case atStart => exact ⟨0, none, 0, Nat.zero_le _, rfl, rfl, rfl, Below.refl _ _, OwN.nil _ _⟩
  case round =>
    obtain ⟨k, x9, y9, hkn, rfl, rfl, rfl, hB, hO⟩ := hrel
    by_cases hlt : k < 1
    · have hk : k < l.length := by rw [HLL.out]; exact hlt
      have hk2 : k < vs.length := by rw [HLEN.out]; exact hlt
      obtain ⟨bb, off, rfl, hv4⟩ := (HA.out.up hB).pl (by intro e; rw [e] at hk; simp at hk)
      have v4 := hv4 k hk
      have vr := (HA.out.up hB).vr _ (getD_mem (d := ai0) hk)
      have hm : vs.getD k rv0 = (l.getD k ai0).2.2 := by rw [hvs.out]; exact map_getD l k hk
      have HT : Hid ((vs.take (k + 1)).map zOf = (vs.take k).map zOf ++ [zOf (l.getD k ai0).2.2]) := by rw [← hm]; exact take_map_zOf hk2
      obtain ⟨z, hz, hvz⟩ := HZ.out _ (getD_mem (d := ai0) hk)
      generalize l.getD k ai0 = i at *
      obtain ⟨ai, ci, u⟩ := i
      simp only at hz
      subst hz
      simp only at *
      obtain ⟨c0, c1, c2, c3⟩ := v4
      have hvl := fun W (hW : Vr W ai (rn z)) => rvalid_any (rn z) ai ci W hW
      rw [sound_rn hvz] at hvl
      have hof := fun W => ofb_any (rn z).z W vr.z
      unfold vV at hvl
      obtain ⟨X, hX⟩ : ∃ X, Hid (X = ofX (rn z).z.1 (rn z).z.2) := ⟨_, rfl⟩
      obtain ⟨Y, hY⟩ : ∃ Y, Hid (Y = ofY (rn z).z.1 (rn z).z.2) := ⟨_, rfl⟩
      rw [← hX.out, ← hY.out] at hof
      have HZz : Hid (zOf (rn z) = (X, Y)) := by show (_, _) = (_, _); rw [hX.out, hY.out]
      have HL2 : Hid (((vs.take k).map zOf).length < 8796093022208) := by show _ < _; rw [List.length_map, List.length_take]; omega
      have HL3 : Hid (((vs.take k).map zOf).length = k) := by show _ = _; rw [List.length_map, List.length_take, HLEN.out]; omega
      generalize vc (rn z).z.1 (rn z).z.2 = vq at *
      simp only [rn, List.length_nil] at c0 c1 c2 c3 hvl hof
      clear hv4 hm hk2 hk hX hY HZ HZO
      go_wp2_with fail
      refine (hvl _ vr).mono ?_
      rintro e w1 ⟨rfl, hb1⟩
      have d0 := (hb1.cell (cell_lt c0)).trans c0
      have d1 := (hb1.cell (cell_lt c1)).trans c1
      clear c0 c1 c2 c3
      go_wp2_with fail
      refine (hof _).mono ?_
      rintro e w2 ⟨rfl, hb2⟩
      have b2 := Below.thn hb1 (Below.thn hb2 (below_alloc w2 (.cells #[.int .i64 X, .int .i64 Y] 68)))
      obtain ⟨v9, w9, r9, o9, k9⟩ := own_nm (w2.alloc (.cells #[.int .i64 X, .int .i64 Y] 68)) W.heap.size (.slice x9 k y9) ((vs.take k).map zOf) (X, Y) (hO.out.up b2) (Nat.le_trans hB.size b2.size) HL2.out
      obtain ⟨p9, q9, e9, _, _⟩ := owns_slice o9
      rw [List.length_append, List.length_singleton, HL3.out] at e9
      subst e9
      have R9 : Hid (_ = _) := r9
      rw [show (w2.alloc (.cells #[.int .i64 X, .int .i64 Y] 68)).heap.size = w2.heap.size + 1 by simp] at R9
      have b9 : Below W.heap.size W w9 := (hB.trans (b2.mono hB.size)).trans k9.low
      clear r9 d0 d1
      go_wp2_with (at_builtin; refine wpList_append_run rfl (.tmp 57) (.tmp 59) 65 rfl rfl (.slice x9 k y9) (.slice (some ⟨w2.heap.size + 1, 0, none⟩) 1 1) rfl rfl (.slice p9 (k + 1) q9) w9 (show _ = _ from R9) ?_)
      all_goals
        go_roundw
        case rel => exact ⟨k + 1, p9, q9, by omega, rfl, rfl, by go_num, b9, by rw [HT.out, HZz.out]; exact o9⟩
        case measure => simp [intOf]; omega
    · have hke : k = 1 := by omega
      subst hke
      have hO2 : OwN wr W.heap.size (.slice x9 1 y9) (vs.map zOf) := by
        have := hO.out
        rwa [List.take_of_length_le (by rw [HLEN.out]; exact Nat.le_refl _)] at this
      rw [HZO.out] at hO2
      have hR1 := hR0.up hB
      have b1 := b0.trans (hB.mono b0.size)
      obtain ⟨g, rfl, hg, e0, e1⟩ := hO2.one
      simp only at e0 e1
      have hT := fun W => rnumber_any (nb a.1) 0 0 W
      rw [show nuR (fl (nb a.1), fl 0) 0 = rn (fl (nb a.1), fl 0) from rfl, fl_zero, ← (vp_true (vc_parts ha).1).2] at hT
      simp only [rn] at hT
      clear hO hO2 HZ HZO HA
      go_wp2_with fail
      refine (hT _).mono ?_
      rintro e w2 ⟨rfl, hb2⟩
      have hR2 := hR1.up hb2
      have b2 := b1.trans (hb2.mono b1.size)
      go_wp2_with (refine wpList_storeN rfl 32 (.tmp 4) (.tmp 163) rfl w.heap.size 0 [.int .i64 1, .complex .f64 a.1 0, .bool false, .slice none 0 0] rfl rfl hR2 (Nat.le_refl 4) Try.infoV (one4 _ _ _ _ _ _ _) ?_; intro w9 hB9 hO9)
      have z0 : w9.cell? ⟨w.heap.size, 0, none⟩ = some (.int .i64 1) := hB9.cell 0
      have z1 : w9.cell? ⟨w.heap.size, 1, none⟩ = some (.complex .f64 a.1 0) := hB9.cell 1
      have z2 : w9.cell? ⟨w.heap.size, 2, none⟩ = some (.bool false) := hB9.cell 2
      have z3 : w9.cell? ⟨w.heap.size, 3, none⟩ = some (.slice none 0 0) := hB9.cell 3
      go_wp2
      exact bodyPost_ret (v := .tuple #[.agg #[.int .i64 1, .complex .f64 a.1 0, .bool false, .slice none 0 0], .int .i64 0]) (by simp [results, Try.results13, go_sem, z0, z1, z2, z3]) rfl ⟨rfl, b2.trans (hO9.below (Nat.le_refl _))⟩


set_option maxHeartbeats 4000000 in
theorem rgood_16 (ao : Option Addr) (cap : Nat) (l : List Ai) (w : World) (h : Ar w ao l) (a : Wz) (hv : l.map (·.2.2) = [rn a]) (ha : vc a.1 a.2 = true) :
    Calls Try.prog 13 #[.int .i64 16, .slice ao 1 cap] w fun e w' => e = .returned (.tuple #[.agg #[.int .i64 1, .complex .f64 a.2 0, .bool false, .slice none 0 0], .int .i64 0]) ∧ Below w.heap.size w w' := by
  have b0 := below_alloc w (.cells #[.int .i64 0, .complex .f64 0 0, .bool false, .slice none 0 0] 32)
  have hR0 := Bk.new w 32 #[.int .i64 0, .complex .f64 0 0, .bool false, .slice none 0 0]
  have ht := fun W => rtakes_any 16 W
  rw [show tkN 16 = 1 from rfl, show tkT 16 = 1 from rfl] at ht
  obtain ⟨vs, hvs⟩ : ∃ vs, Hid (vs = l.map (·.2.2)) := ⟨_, rfl⟩
  have HLL : Hid (l.length = 1) := by show _ = _; have := congrArg List.length hv; simpa using this
  have HLEN : Hid (vs.length = 1) := by show _ = _; rw [hvs.out, List.length_map, HLL.out]
  have HZ : Hid (∀ i ∈ l, ∃ z : Wz, i.2.2 = rn z ∧ vc z.1 z.2 = true) := by
    intro i hi
    have hm : i.2.2 ∈ l.map (·.2.2) := List.mem_map.2 ⟨i, hi, rfl⟩
    rw [hv] at hm
    simp only [List.mem_cons, List.not_mem_nil, or_false] at hm
    have e := hm
    exact ⟨a, e, ha⟩
  have HZO : Hid (vs.map zOf = [(nb a.1, nb a.2)]) := by show _ = _; rw [hvs.out, hv]; simp only [List.map_cons, List.map_nil, zOf_rn ha]
  have HA : Hid (Ar _ ao l) := h.up b0
  clear h
  generalize hW : w.alloc (.cells #[.int .i64 0, .complex .f64 0 0, .bool false, .slice none 0 0] 32) = W at *
  go_enter Try.func13, Try.ntmps13
  go_wp2_with fail
  refine (ht _).mono ?_
  rintro e w1 ⟨rfl, hw1⟩
  rw [hw1]
  clear hw1 ht hW
  go_wp2_with fail
  go_loopw [8, 9, 10] (fun f v i wr => ∃ (k : Nat) (x9 : Option Addr) (y9 : Nat), k ≤ 1 ∧ f = .bool true ∧ v = .slice x9 k y9 ∧ i = .int .i64 k ∧ Below W.heap.size W wr ∧ Hid (OwN wr W.heap.size (.slice x9 k y9) ((vs.take k).map zOf))) (fun _ _ i _ => 1 - (intOf i).toNat)
  case atStart => exact ⟨0, none, 0, Nat.zero_le _, rfl, rfl, rfl, Below.refl _ _, OwN.nil _ _⟩
  case round =>
    obtain ⟨k, x9, y9, hkn, rfl, rfl, rfl, hB, hO⟩ := hrel
    by_cases hlt : k < 1
    · have hk : k < l.length := by rw [HLL.out]; exact hlt
      have hk2 : k < vs.length := by rw [HLEN.out]; exact hlt
      obtain ⟨bb, off, rfl, hv4⟩ := (HA.out.up hB).pl (by intro e; rw [e] at hk; simp at hk)
      have v4 := hv4 k hk
      have vr := (HA.out.up hB).vr _ (getD_mem (d := ai0) hk)
      have hm : vs.getD k rv0 = (l.getD k ai0).2.2 := by rw [hvs.out]; exact map_getD l k hk
      have HT : Hid ((vs.take (k + 1)).map zOf = (vs.take k).map zOf ++ [zOf (l.getD k ai0).2.2]) := by rw [← hm]; exact take_map_zOf hk2
      obtain ⟨z, hz, hvz⟩ := HZ.out _ (getD_mem (d := ai0) hk)
      generalize l.getD k ai0 = i at *
      obtain ⟨ai, ci, u⟩ := i
      simp only at hz
      subst hz
      simp only at *
      obtain ⟨c0, c1, c2, c3⟩ := v4
      have hvl := fun W (hW : Vr W ai (rn z)) => rvalid_any (rn z) ai ci W hW
      rw [sound_rn hvz] at hvl
      have hof := fun W => ofb_any (rn z).z W vr.z
      unfold vV at hvl
      obtain ⟨X, hX⟩ : ∃ X, Hid (X = ofX (rn z).z.1 (rn z).z.2) := ⟨_, rfl⟩
      obtain ⟨Y, hY⟩ : ∃ Y, Hid (Y = ofY (rn z).z.1 (rn z).z.2) := ⟨_, rfl⟩
      rw [← hX.out, ← hY.out] at hof
      have HZz : Hid (zOf (rn z) = (X, Y)) := by show (_, _) = (_, _); rw [hX.out, hY.out]
      have HL2 : Hid (((vs.take k).map zOf).length < 8796093022208) := by show _ < _; rw [List.length_map, List.length_take]; omega
      have HL3 : Hid (((vs.take k).map zOf).length = k) := by show _ = _; rw [List.length_map, List.length_take, HLEN.out]; omega
      generalize vc (rn z).z.1 (rn z).z.2 = vq at *
      simp only [rn, List.length_nil] at c0 c1 c2 c3 hvl hof
      clear hv4 hm hk2 hk hX hY HZ HZO
      go_wp2_with fail
      refine (hvl _ vr).mono ?_
      rintro e w1 ⟨rfl, hb1⟩
      have d0 := (hb1.cell (cell_lt c0)).trans c0
      have d1 := (hb1.cell (cell_lt c1)).trans c1
      clear c0 c1 c2 c3
      go_wp2_with fail
      refine (hof _).mono ?_
      rintro e w2 ⟨rfl, hb2⟩
      have b2 := Below.thn hb1 (Below.thn hb2 (below_alloc w2 (.cells #[.int .i64 X, .int .i64 Y] 68)))
      obtain ⟨v9, w9, r9, o9, k9⟩ := own_nm (w2.alloc (.cells #[.int .i64 X, .int .i64 Y] 68)) W.heap.size (.slice x9 k y9) ((vs.take k).map zOf) (X, Y) (hO.out.up b2) (Nat.le_trans hB.size b2.size) HL2.out
      obtain ⟨p9, q9, e9, _, _⟩ := owns_slice o9
      rw [List.length_append, List.length_singleton, HL3.out] at e9
      subst e9
      have R9 : Hid (_ = _) := r9
      rw [show (w2.alloc (.cells #[.int .i64 X, .int .i64 Y] 68)).heap.size = w2.heap.size + 1 by simp] at R9
      have b9 : Below W.heap.size W w9 := (hB.trans (b2.mono hB.size)).trans k9.low
      clear r9 d0 d1
      go_wp2_with (at_builtin; refine wpList_append_run rfl (.tmp 57) (.tmp 59) 65 rfl rfl (.slice x9 k y9) (.slice (some ⟨w2.heap.size + 1, 0, none⟩) 1 1) rfl rfl (.slice p9 (k + 1) q9) w9 (show _ = _ from R9) ?_)
      all_goals
        go_roundw
        case rel => exact ⟨k + 1, p9, q9, by omega, rfl, rfl, by go_num, b9, by rw [HT.out, HZz.out]; exact o9⟩
        case measure => simp [intOf]; omega
    · have hke : k = 1 := by omega
      subst hke
      have hO2 : OwN wr W.heap.size (.slice x9 1 y9) (vs.map zOf) := by
        have := hO.out
        rwa [List.take_of_length_le (by rw [HLEN.out]; exact Nat.le_refl _)] at this
      rw [HZO.out] at hO2
      have hR1 := hR0.up hB
      have b1 := b0.trans (hB.mono b0.size)
      obtain ⟨g, rfl, hg, e0, e1⟩ := hO2.one
      simp only at e0 e1
      have hT := fun W => rnumber_any (nb a.2) 0 0 W
      rw [show nuR (fl (nb a.2), fl 0) 0 = rn (fl (nb a.2), fl 0) from rfl, fl_zero, ← (vp_true (vc_parts ha).2).2] at hT
      simp only [rn] at hT
      clear hO hO2 HZ HZO HA
      go_wp2_with fail
      refine (hT _).mono ?_
      rintro e w2 ⟨rfl, hb2⟩
      have hR2 := hR1.up hb2
      have b2 := b1.trans (hb2.mono b1.size)
      go_wp2_with (refine wpList_storeN rfl 32 (.tmp 4) (.tmp 173) rfl w.heap.size 0 [.int .i64 1, .complex .f64 a.2 0, .bool false, .slice none 0 0] rfl rfl hR2 (Nat.le_refl 4) Try.infoV (one4 _ _ _ _ _ _ _) ?_; intro w9 hB9 hO9)
      have z0 : w9.cell? ⟨w.heap.size, 0, none⟩ = some (.int .i64 1) := hB9.cell 0
      have z1 : w9.cell? ⟨w.heap.size, 1, none⟩ = some (.complex .f64 a.2 0) := hB9.cell 1
      have z2 : w9.cell? ⟨w.heap.size, 2, none⟩ = some (.bool false) := hB9.cell 2
      have z3 : w9.cell? ⟨w.heap.size, 3, none⟩ = some (.slice none 0 0) := hB9.cell 3
      go_wp2
      exact bodyPost_ret (v := .tuple #[.agg #[.int .i64 1, .complex .f64 a.2 0, .bool false, .slice none 0 0], .int .i64 0]) (by simp [results, Try.results13, go_sem, z0, z1, z2, z3]) rfl ⟨rfl, b2.trans (hO9.below (Nat.le_refl _))⟩

end Go.Proofs.Ytebpjcjoapahnaa
