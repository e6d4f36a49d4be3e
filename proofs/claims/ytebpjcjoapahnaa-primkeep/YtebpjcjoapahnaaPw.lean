/-
  The walk of the document's Apply.
-/
import Derived.Test.YtebpjcjoapahnaaPu
import Derived.Deep.RegionHeld3
namespace Go.Proofs.Ytebpjcjoapahnaa
open Go.RowKit
set_option maxRecDepth 100000

theorem take_map_zOf {vs : List Rv} {k : Nat} (hk : k < vs.length) : (vs.take (k + 1)).map zOf = (vs.take k).map zOf ++ [zOf (vs.getD k rv0)] := by
  rw [List.take_succ_eq_append_getElem hk, List.map_append, List.getD_eq_getElem?_getD, List.getElem?_eq_getElem hk]; rfl
theorem take_all_one {vs : List Rv} {K : Int} {k : Nat} (hk : k < vs.length) (h : (vs.take k).all (oneB K) = true) : (vs.take (k + 1)).all (oneB K) = oneB K (vs.getD k rv0) := by
  rw [List.take_succ_eq_append_getElem hk, List.all_append, h, List.getD_eq_getElem?_getD, List.getElem?_eq_getElem hk]
  simp
theorem all_take_false {vs : List Rv} {K : Int} {k : Nat} (h : (vs.take k).all (oneB K) = false) : vs.all (oneB K) = false := by
  rw [List.all_eq_false] at h ⊢
  obtain ⟨x, hx, hn⟩ := h
  exact ⟨x, List.mem_of_mem_take hx, hn⟩

set_option maxHeartbeats 4000000 in
theorem rapply_bad0 (op : Int) (ao : Option Addr) (cap n : Nat) (w : World) (hp : ¬ (0 < tkN op ∧ (n : Int) = tkN op)) :
    Calls Try.prog 13 #[.int .i64 op, .slice ao n cap] w fun e w' => e = .returned (.tuple #[.agg #[.int .i64 0, .complex .f64 0 0, .bool false, .slice none 0 0], .int .i64 3]) ∧ Below w.heap.size w w' := by
  have b0 := below_alloc w (.cells #[.int .i64 0, .complex .f64 0 0, .bool false, .slice none 0 0] 32)
  have hR0 := Bk.new w 32 #[.int .i64 0, .complex .f64 0 0, .bool false, .slice none 0 0]
  have ht := fun W => rtakes_any op W
  generalize tkN op = N at *
  generalize tkT op = K at *
  generalize hW : w.alloc (.cells #[.int .i64 0, .complex .f64 0 0, .bool false, .slice none 0 0] 32) = W at *
  by_cases hN0 : 0 < N
  · have hne : ((n : Int) == N) = false := by rw [beq_eq_false_iff_ne]; omega
    clear hp
    go_enter Try.func13, Try.ntmps13
    go_wp2_with fail
    refine (ht _).mono ?_
    rintro e w1 ⟨rfl, hw1⟩
    rw [hw1]
    clear hw1 ht hW
    go_wp2_with fail
    go_loopw [8] (fun f wr => f = .bool false ∧ Below W.heap.size W wr) (fun _ _ => 0)
    case atStart => exact ⟨rfl, Below.refl _ _⟩
    case round =>
      obtain ⟨rfl, hB⟩ := hrel
      have hR1 := hR0.up hB
      have b1 := b0.trans (hB.mono b0.size)
      go_wp2_with (refine wpList_storeN rfl 32 (.tmp 4) (.tmp 63) rfl w.heap.size 0 [.int .i64 0, .complex .f64 0 0, .bool false, .slice none 0 0] rfl rfl hR1 (Nat.le_refl 4) Try.infoV (one4 _ _ _ _ _ _ _) ?_; intro w9 hB9 hO9)
      have z0 : w9.cell? ⟨w.heap.size, 0, none⟩ = some (.int .i64 0) := hB9.cell 0
      have z1 : w9.cell? ⟨w.heap.size, 1, none⟩ = some (.complex .f64 0 0) := hB9.cell 1
      have z2 : w9.cell? ⟨w.heap.size, 2, none⟩ = some (.bool false) := hB9.cell 2
      have z3 : w9.cell? ⟨w.heap.size, 3, none⟩ = some (.slice none 0 0) := hB9.cell 3
      go_wp2
      exact bodyPost_ret (v := .tuple #[.agg #[.int .i64 0, .complex .f64 0 0, .bool false, .slice none 0 0], .int .i64 3]) (by simp [results, Try.results13, go_sem, z0, z1, z2, z3]) rfl ⟨rfl, b1.trans (hO9.below (Nat.le_refl _))⟩
  · clear hp
    go_enter Try.func13, Try.ntmps13
    go_wp2_with fail
    refine (ht _).mono ?_
    rintro e w1 ⟨rfl, hw1⟩
    rw [hw1]
    clear hw1 ht hW
    go_wp2_with fail
    go_loopw [8] (fun f wr => f = .bool false ∧ Below W.heap.size W wr) (fun _ _ => 0)
    case atStart => exact ⟨rfl, Below.refl _ _⟩
    case round =>
      obtain ⟨rfl, hB⟩ := hrel
      have hR1 := hR0.up hB
      have b1 := b0.trans (hB.mono b0.size)
      go_wp2_with (refine wpList_storeN rfl 32 (.tmp 4) (.tmp 63) rfl w.heap.size 0 [.int .i64 0, .complex .f64 0 0, .bool false, .slice none 0 0] rfl rfl hR1 (Nat.le_refl 4) Try.infoV (one4 _ _ _ _ _ _ _) ?_; intro w9 hB9 hO9)
      have z0 : w9.cell? ⟨w.heap.size, 0, none⟩ = some (.int .i64 0) := hB9.cell 0
      have z1 : w9.cell? ⟨w.heap.size, 1, none⟩ = some (.complex .f64 0 0) := hB9.cell 1
      have z2 : w9.cell? ⟨w.heap.size, 2, none⟩ = some (.bool false) := hB9.cell 2
      have z3 : w9.cell? ⟨w.heap.size, 3, none⟩ = some (.slice none 0 0) := hB9.cell 3
      go_wp2
      exact bodyPost_ret (v := .tuple #[.agg #[.int .i64 0, .complex .f64 0 0, .bool false, .slice none 0 0], .int .i64 3]) (by simp [results, Try.results13, go_sem, z0, z1, z2, z3]) rfl ⟨rfl, b1.trans (hO9.below (Nat.le_refl _))⟩

set_option maxHeartbeats 4000000 in
theorem rapply_bad1 (op : Int) (ao : Option Addr) (cap : Nat) (l : List Ai) (w : World) (h : Ar w ao l) (hl : l.length < 2500000000000) (hp : 0 < tkN op ∧ (l.length : Int) = tkN op) (hF : (l.map (·.2.2)).all (oneB (tkT op)) = false) :
    Calls Try.prog 13 #[.int .i64 op, .slice ao l.length cap] w fun e w' => e = .returned (.tuple #[.agg #[.int .i64 0, .complex .f64 0 0, .bool false, .slice none 0 0], .int .i64 3]) ∧ Below w.heap.size w w' := by
  have b0 := below_alloc w (.cells #[.int .i64 0, .complex .f64 0 0, .bool false, .slice none 0 0] 32)
  have hR0 := Bk.new w 32 #[.int .i64 0, .complex .f64 0 0, .bool false, .slice none 0 0]
  have ht := fun W => rtakes_any op W
  obtain ⟨n, hn⟩ : ∃ n, Hid (n = l.length) := ⟨_, rfl⟩
  obtain ⟨vs, hvs⟩ : ∃ vs, Hid (vs = l.map (·.2.2)) := ⟨_, rfl⟩
  have HLEN : Hid (vs.length = n) := by show _ = _; rw [hvs.out, List.length_map, hn.out]
  rw [← hvs.out] at hF
  rw [← hn.out] at hl hp ⊢
  have HA : Hid (Ar _ ao l) := h.up b0
  have HF : Hid (vs.all (oneB (tkT op)) = false) := hF
  clear h hF
  generalize tkN op = N at *
  generalize tkT op = K at *
  obtain ⟨hN0, hNn⟩ := hp
  subst hNn
  generalize hW : w.alloc (.cells #[.int .i64 0, .complex .f64 0 0, .bool false, .slice none 0 0] 32) = W at *
  go_enter Try.func13, Try.ntmps13
  go_wp2_with fail
  refine (ht _).mono ?_
  rintro e w1 ⟨rfl, hw1⟩
  rw [hw1]
  clear hw1 ht hW
  go_wp2_with fail
  go_loopw [8, 9, 10] (fun f v i wr => ∃ (k : Nat) (b : Bool) (x9 : Option Addr) (y9 : Nat), k ≤ n ∧ f = .bool b ∧ v = .slice x9 k y9 ∧ i = .int .i64 k ∧ Below W.heap.size W wr ∧ Hid (b = (vs.take k).all (oneB K)) ∧ Hid (OwN wr W.heap.size (.slice x9 k y9) ((vs.take k).map zOf))) (fun _ _ i _ => n - (intOf i).toNat)
  case atStart => exact ⟨0, true, none, 0, Nat.zero_le _, rfl, rfl, rfl, Below.refl _ _, rfl, OwN.nil _ _⟩
  case round =>
    obtain ⟨k, b, x9, y9, hkn, rfl, rfl, rfl, hB, hb, hO⟩ := hrel
    cases b with
    | false =>
      have hR1 := hR0.up hB
      have b1 := b0.trans (hB.mono b0.size)
      go_wp2_with (refine wpList_storeN rfl 32 (.tmp 4) (.tmp 63) rfl w.heap.size 0 [.int .i64 0, .complex .f64 0 0, .bool false, .slice none 0 0] rfl rfl hR1 (Nat.le_refl 4) Try.infoV (one4 _ _ _ _ _ _ _) ?_; intro w9 hB9 hO9)
      have z0 : w9.cell? ⟨w.heap.size, 0, none⟩ = some (.int .i64 0) := hB9.cell 0
      have z1 : w9.cell? ⟨w.heap.size, 1, none⟩ = some (.complex .f64 0 0) := hB9.cell 1
      have z2 : w9.cell? ⟨w.heap.size, 2, none⟩ = some (.bool false) := hB9.cell 2
      have z3 : w9.cell? ⟨w.heap.size, 3, none⟩ = some (.slice none 0 0) := hB9.cell 3
      go_wp2
      exact bodyPost_ret (v := .tuple #[.agg #[.int .i64 0, .complex .f64 0 0, .bool false, .slice none 0 0], .int .i64 3]) (by simp [results, Try.results13, go_sem, z0, z1, z2, z3]) rfl ⟨rfl, b1.trans (hO9.below (Nat.le_refl _))⟩
    | true =>
      have hlt : k < n := by
        rcases Nat.lt_or_ge k n with g | g
        · exact g
        · exfalso
          have h1 := hb.out
          rw [List.take_of_length_le (by rw [HLEN.out]; exact g), HF.out] at h1
          cases h1
      have hk : k < l.length := by rw [← hn.out]; exact hlt
      have hk2 : k < vs.length := by rw [HLEN.out]; exact hlt
      obtain ⟨bb, off, rfl, hv⟩ := (HA.out.up hB).pl (by intro e; rw [e] at hk; simp at hk)
      have v4 := hv k hk
      have vr := (HA.out.up hB).vr _ (getD_mem (d := ai0) hk)
      have hm : vs.getD k rv0 = (l.getD k ai0).2.2 := by rw [hvs.out]; exact map_getD l k hk
      have HT : Hid ((vs.take (k + 1)).map zOf = (vs.take k).map zOf ++ [zOf (l.getD k ai0).2.2]) := by rw [← hm]; exact take_map_zOf hk2
      have HO : Hid ((vs.take (k + 1)).all (oneB K) = oneB K (l.getD k ai0).2.2) := by rw [← hm]; exact take_all_one hk2 hb.out.symm
      generalize l.getD k ai0 = i at *
      obtain ⟨ai, ci, u⟩ := i
      simp only at *
      obtain ⟨c0, c1, c2, c3⟩ := v4
      have hvl := fun W (hW : Vr W ai u) => rvalid_any u ai ci W hW
      have hof := fun W => ofb_any u.z W vr.z
      unfold vV at hvl
      obtain ⟨X, hX⟩ : ∃ X, Hid (X = ofX u.z.1 u.z.2) := ⟨_, rfl⟩
      obtain ⟨Y, hY⟩ : ∃ Y, Hid (Y = ofY u.z.1 u.z.2) := ⟨_, rfl⟩
      rw [← hX.out, ← hY.out] at hof
      have HZ : Hid (zOf u = (X, Y)) := by show (_, _) = (_, _); rw [hX.out, hY.out]
      have HL2 : Hid (((vs.take k).map zOf).length < 8796093022208) := by show _ < _; rw [List.length_map, List.length_take]; omega
      have HL3 : Hid (((vs.take k).map zOf).length = k) := by show _ = _; rw [List.length_map, List.length_take, HLEN.out]; omega
      clear hv hm hk2 hk hb hX hY
      generalize vc u.z.1 u.z.2 = vq at *
      cases hS : soundV u with
      | true =>
        rw [hS] at hvl
        have HB : Hid ((vs.take (k + 1)).all (oneB K) = (u.t == K)) := by
          show _ = _
          rw [HO.out]; unfold oneB; rw [hS, Bool.and_true]
          by_cases e : u.t = K
          · simp [e]
          · simp [e]
        clear hS HO
        go_wp2_with fail
        refine (hvl _ vr).mono ?_
        rintro e w1 ⟨rfl, hb1⟩
        have d0 := (hb1.cell (cell_lt c0)).trans c0
        have d1 := (hb1.cell (cell_lt c1)).trans c1
        clear c0 c1 c2 c3
        go_wp2_with fail
        refine (hof _).mono ?_
        rintro e w2 ⟨rfl, hb2⟩
        have b2 := Below.thn hb1 (Below.thn hb2 (below_alloc w2 (.cells #[.int .i64 X, .int .i64 Y] 68)))
        obtain ⟨v9, w9, r9, o9, k9⟩ := own_nm (w2.alloc (.cells #[.int .i64 X, .int .i64 Y] 68)) W.heap.size (.slice x9 k y9) ((vs.take k).map zOf) (X, Y) (hO.out.up b2) (Nat.le_trans hB.size b2.size) HL2.out
        obtain ⟨p9, q9, e9, _, _⟩ := owns_slice o9
        rw [List.length_append, List.length_singleton, HL3.out] at e9
        subst e9
        have R9 : Hid (_ = _) := r9
        rw [show (w2.alloc (.cells #[.int .i64 X, .int .i64 Y] 68)).heap.size = w2.heap.size + 1 by simp] at R9
        have b9 : Below W.heap.size W w9 := (hB.trans (b2.mono hB.size)).trans k9.low
        clear r9 d0 d1
        go_wp2_with (at_builtin; refine wpList_append_run rfl (.tmp 57) (.tmp 59) 65 rfl rfl (.slice x9 k y9) (.slice (some ⟨w2.heap.size + 1, 0, none⟩) 1 1) rfl rfl (.slice p9 (k + 1) q9) w9 (show _ = _ from R9) ?_)
        all_goals
          go_roundw
          case rel => exact ⟨k + 1, u.t == K, p9, q9, by omega, rfl, rfl, by go_num, b9, HB.out.symm, by rw [HT.out, HZ.out]; exact o9⟩
          case measure => simp [intOf]; omega
      | false =>
        rw [hS] at hvl
        have HB : Hid ((vs.take (k + 1)).all (oneB K) = false) := by
          show _ = _
          rw [HO.out]; unfold oneB; rw [hS, Bool.and_false]
        clear hS HO
        go_wp2_with fail
        refine (hvl _ vr).mono ?_
        rintro e w1 ⟨rfl, hb1⟩
        have d0 := (hb1.cell (cell_lt c0)).trans c0
        have d1 := (hb1.cell (cell_lt c1)).trans c1
        clear c0 c1 c2 c3
        go_wp2_with fail
        refine (hof _).mono ?_
        rintro e w2 ⟨rfl, hb2⟩
        have b2 := Below.thn hb1 (Below.thn hb2 (below_alloc w2 (.cells #[.int .i64 X, .int .i64 Y] 68)))
        obtain ⟨v9, w9, r9, o9, k9⟩ := own_nm (w2.alloc (.cells #[.int .i64 X, .int .i64 Y] 68)) W.heap.size (.slice x9 k y9) ((vs.take k).map zOf) (X, Y) (hO.out.up b2) (Nat.le_trans hB.size b2.size) HL2.out
        obtain ⟨p9, q9, e9, _, _⟩ := owns_slice o9
        rw [List.length_append, List.length_singleton, HL3.out] at e9
        subst e9
        have R9 : Hid (_ = _) := r9
        rw [show (w2.alloc (.cells #[.int .i64 X, .int .i64 Y] 68)).heap.size = w2.heap.size + 1 by simp] at R9
        have b9 : Below W.heap.size W w9 := (hB.trans (b2.mono hB.size)).trans k9.low
        clear r9 d0 d1
        go_wp2_with (at_builtin; refine wpList_append_run rfl (.tmp 57) (.tmp 59) 65 rfl rfl (.slice x9 k y9) (.slice (some ⟨w2.heap.size + 1, 0, none⟩) 1 1) rfl rfl (.slice p9 (k + 1) q9) w9 (show _ = _ from R9) ?_)
        all_goals
          go_roundw
          case rel => exact ⟨k + 1, false, p9, q9, by omega, rfl, rfl, by go_num, b9, HB.out.symm, by rw [HT.out, HZ.out]; exact o9⟩
          case measure => simp [intOf]; omega
end Go.Proofs.Ytebpjcjoapahnaa
