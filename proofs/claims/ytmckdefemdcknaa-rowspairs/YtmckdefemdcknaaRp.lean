/-
  The walk of fathomref02.Put.
-/
import Derived.Test.YtmckdefemdcknaaRg
namespace Go.Proofs.Ytmckdefemdcknaa
open Go.RowKit
open RowsM

theorem packed_put {n : Int} {xs : List Nat} {i v : Int} {L : List Nat} (hb : Bd xs) (h : okPut n xs i v = true) (hP : Packed ((cellsL n xs).set i.toNat v.toNat) ((cellsL n xs).set i.toNat v.toNat).length L) : L = putL n xs i v := by
  obtain ⟨hr, i0, i1, v0, v3⟩ := okPut_parts h
  have hr' := hr
  simp only [okR, decide_eq_true_eq] at hr'
  obtain ⟨n0, n1, hln, _⟩ := hr'
  have hz := (okR_cells hb n0 n1 hln).1 hr
  have hl : ((cellsL n xs).set i.toNat v.toNat).length = n.toNat := by rw [List.length_set, cellsL_len]
  refine packed_one hP (put_bd hb) (by rw [put_len h, hl]; omega) fun q j hq hj => ?_
  rw [put_len h] at hq
  rw [put_cells h q j hq hj, hl]
  have hg : 32 * q + j < n.toNat → ((cellsL n xs).set i.toNat v.toNat).getD (32 * q + j) 0 = if 32 * q + j = i.toNat then v.toNat else cellAt xs (32 * q + j) := by
    intro hlt
    rw [List.getD_eq_getElem?_getD, List.getElem?_set]
    by_cases e : i.toNat = 32 * q + j
    · rw [if_pos e, if_pos e.symm, if_pos (by rw [cellsL_len]; omega)]; rfl
    · rw [if_neg e, if_neg (fun x => e x.symm), ← List.getD_eq_getElem?_getD, cellsL_at n xs _ hlt]
  have hcc : cell (xs.getD q 0) j = cellAt xs (32 * q + j) := by
    unfold cellAt
    have e1 : (32 * q + j) / 32 = q := by omega
    have e2 : (32 * q + j) % 32 = j := by omega
    rw [e1, e2]
  by_cases hlt : 32 * q + j < n.toNat
  · rw [if_pos hlt, hg hlt, hcc]
    by_cases e : 32 * q + j = i.toNat
    · rw [if_pos e, if_pos (by omega)]
    · rw [if_neg e, if_neg (by omega)]
  · rw [if_neg hlt, if_neg (by omega), hcc]
    exact hz _ (by omega) (by omega)

set_option maxHeartbeats 1000000 in
theorem refput_any (n : Int) (ao : Option Addr) (ca : Nat) (xs : List Nat) (i v : Int) (w : World) (h : Rd w ao xs) (hl : xs.length ≤ 17592186043904) :
    Calls Try.prog 19 #[.agg #[.int .i64 n, .slice ao xs.length ca], .int .i64 i, .int .i64 v] w fun e w' => RowEnd (if okPut n xs i v then n else 0) (putE n xs i v) (putL n xs i v) w e w' := by
  obtain ⟨s1, s3⟩ := st_two w (.int .i64 n) (.slice ao xs.length ca) (.int .i64 0) (.slice none 0 0)
  have b2 := below_two w (.cells #[.int .i64 n, .slice ao xs.length ca] 24) (.cells #[.int .i64 0, .slice none 0 0] 24)
  have hbd : Bd xs := h.lt
  have h2 := h.up b2
  have hcl := cells_any n ao ca xs _ h2 hl
  have hck := fun h cs hc => cells_ok n ao ca xs cs _ h hc h2 hl
  obtain ⟨c0, c1, _, _⟩ := s1.cells
  have hsz : ((w.alloc (.cells #[.int .i64 n, .slice ao xs.length ca] 24)).alloc (.cells #[.int .i64 0, .slice none 0 0] 24)).heap.size = w.heap.size + 2 := by simp
  clear h s1 h2
  cases hx : okR n xs with
  | false =>
    rw [hx] at hcl
    have hp : okPut n xs i v = false := by unfold okPut; rw [hx]; rfl
    have hv : putL n xs i v = [] := by unfold putL; rw [hp]; rfl
    have he : putE n xs i v = 3 := by unfold putE; rw [hx]; rfl
    rw [hv, he, hp]
    simp only [Bool.false_eq_true, if_false]
    go_enter Try.func19, Try.ntmps19
    go_wp2_with fail
    refine hcl.mono ?_
    rintro e w1 ⟨u, rfl, _, hv0, hb⟩
    have hv1 := hv0 rfl
    subst hv1
    have b3 := Below.thn b2 hb
    obtain ⟨q0, q1, q2, q3⟩ := (s3.up hb).cells
    clear hcl hb c0 c1 hv0 s3 hsz
    go_wp2
    refine bodyPost_ret (v := .tuple #[.agg #[.int .i64 0, .slice none 0 0], .int .i64 3]) (by simp [results, Try.results19, go_sem, q0, q1]) rfl ⟨none, 0, rfl, Rd.nil _ _, ?_⟩
    exact (b3.setCell (Nat.le_succ _) _).setCell (Nat.le_succ _) _
  | true =>
    rw [hx] at hcl
    have hn : 0 ≤ n ∧ n ≤ 4096 := by simp only [okR, decide_eq_true_eq] at hx; exact ⟨hx.1, hx.2.1⟩
    obtain ⟨n0, n1⟩ := hn
    have hlen := cellsL_len n xs
    cases hi : inR n i && okV v with
    | false =>
      have hp : okPut n xs i v = false := by unfold okPut; rw [Bool.and_assoc, hi, Bool.and_false]
      have hv : putL n xs i v = [] := by unfold putL; rw [hp]; rfl
      have he : putE n xs i v = 2 := by unfold putE; rw [hx, hi]; rfl
      rw [hv, he, hp]
      simp only [Bool.false_eq_true, if_false]
      have hi' : i < 0 ∨ n ≤ i ∨ v < 0 ∨ 3 < v := by
        simp only [inR, okV, ← Bool.decide_and, decide_eq_false_iff_not] at hi
        omega
      go_enter Try.func19, Try.ntmps19
      go_wp2_with fail
      refine hcl.mono ?_
      rintro e w1 ⟨u, rfl, ho, _, hb⟩
      obtain ⟨co, cc, rfl, hri⟩ := (ho rfl).form
      generalize cellsL n xs = cs at *
      have hli : (cs.length : Int) = n := by omega
      have b3 := Below.thn b2 hb
      obtain ⟨q0, q1, q2, q3⟩ := (s3.up hb).cells
      clear hcl hb c0 c1 ho hri hlen s3 hsz
      rcases Decidable.em (i < 0) with h4 | h4
      · go_wp2
        refine bodyPost_ret (v := .tuple #[.agg #[.int .i64 0, .slice none 0 0], .int .i64 2]) (by simp [results, Try.results19, go_sem, q0, q1]) rfl ⟨none, 0, rfl, Rd.nil _ _, ?_⟩
        exact (b3.setCell (Nat.le_succ _) _).setCell (Nat.le_succ _) _
      rcases Decidable.em (n ≤ i) with h5 | h5
      · go_wp2
        refine bodyPost_ret (v := .tuple #[.agg #[.int .i64 0, .slice none 0 0], .int .i64 2]) (by simp [results, Try.results19, go_sem, q0, q1]) rfl ⟨none, 0, rfl, Rd.nil _ _, ?_⟩
        exact (b3.setCell (Nat.le_succ _) _).setCell (Nat.le_succ _) _
      rcases Decidable.em (v < 0) with h6 | h6
      · go_wp2
        refine bodyPost_ret (v := .tuple #[.agg #[.int .i64 0, .slice none 0 0], .int .i64 2]) (by simp [results, Try.results19, go_sem, q0, q1]) rfl ⟨none, 0, rfl, Rd.nil _ _, ?_⟩
        exact (b3.setCell (Nat.le_succ _) _).setCell (Nat.le_succ _) _
      · have h7 : 3 < v := by omega
        go_wp2
        refine bodyPost_ret (v := .tuple #[.agg #[.int .i64 0, .slice none 0 0], .int .i64 2]) (by simp [results, Try.results19, go_sem, q0, q1]) rfl ⟨none, 0, rfl, Rd.nil _ _, ?_⟩
        exact (b3.setCell (Nat.le_succ _) _).setCell (Nat.le_succ _) _
    | true =>
      have hp : okPut n xs i v = true := by unfold okPut; rw [Bool.and_assoc, hi, hx]; rfl
      have he : putE n xs i v = 0 := by unfold putE; rw [hx, hi]; rfl
      rw [he, hp]
      simp only [if_true]
      have hpk := fun L => packed_put (L := L) hbd hp
      obtain ⟨_, i0, i1, v0, v3⟩ := okPut_parts hp
      have hle := cellsL_le n xs
      clear hcl
      have hcl := hck hx _ rfl
      generalize cellsL n xs = cs at *
      generalize putL n xs i v = X at *
      have HPK : Hid (∀ L, Packed (cs.set i.toNat v.toNat) (cs.set i.toNat v.toNat).length L → L = X) := hpk
      clear hpk he hp
      go_enter Try.func19, Try.ntmps19
      go_wp2_with fail
      refine hcl.mono ?_
      rintro e w1 ⟨u, rfl, hoi, hb⟩
      unfold Oi at hoi
      rw [hsz] at hoi
      obtain ⟨G, cc, rfl, hG⟩ := own_form hoi (by omega)
      have b3 := Below.thn b2 hb
      have s3' := s3.up hb
      have hcell := hoi.cellAt i.toNat (by omega)
      have hfr := hoi.frozenAt i.toNat
      have hcell2 : ∃ y, w1.cell? ⟨G, i.toNat, none⟩ = some y := by rw [hcell]; exact ⟨_, by rw [List.getElem?_map, List.getElem?_eq_getElem (by omega)]; rfl⟩
      obtain ⟨y, hy⟩ := hcell2
      have hst := (hoi.stored i.toNat (.int .i64 v)).1
      have hil : i < (cs.length : Int) := by omega
      have hli : (cs.length : Int) = n := by omega
      have HLI : Hid ((cs.length : Int) = n) := hli
      have hin : ¬ n ≤ i := by omega
      have hvv : Value.int .i64 v = Value.int .i64 ((v.toNat : Nat) : Int) := by congr 1; omega
      have hl2 : (cs.set i.toNat v.toNat).length = n.toNat := by rw [List.length_set]; omega
      have hmp : (cs.map fun c : Nat => Value.int .i64 c).set i.toNat (.int .i64 v) = (cs.set i.toNat v.toNat).map fun c : Nat => Value.int .i64 c := by rw [hvv, List.map_set]
      have hoi2 : Oi (w1.setCell ⟨G, i.toNat, none⟩ (.int .i64 v)) (w.heap.size + 2 + 1) (.slice (some ⟨G, 0, none⟩) (cs.set i.toNat v.toNat).length cc) (cs.set i.toNat v.toNat) := by
        unfold Oi
        rw [List.length_set, ← hmp]
        exact hst
      obtain ⟨co, cp, e0, hri⟩ := hoi2.form
      simp only [Value.slice.injEq] at e0
      obtain ⟨rfl, _, rfl⟩ := e0
      have hb6 : Below (w.heap.size + 2) w1 (w1.setCell ⟨G, i.toNat, none⟩ (.int .i64 v)) := (Below.refl _ _).setCell (by show w.heap.size + 2 ≤ G; omega) _
      have s4 : St (w1.setCell ⟨G, i.toNat, none⟩ (.int .i64 v)) (w.heap.size + 1) (.int .i64 0) (.slice none 0 0) := by unfold St; rw [hb6.block _ (by omega)]; exact s3'
      have b4 := b3.trans (hb6.mono (by omega))
      have hpc := pack_any (some ⟨G, 0, none⟩) cc (cs.set i.toNat v.toNat) _ hri (by rw [hl2]; omega) (by
        intro c hc
        rcases List.mem_or_eq_of_mem_set hc with h | h
        · exact hle c h
        · omega)
      rw [hl2] at hpc
      clear hcl hb c0 c1 hcell hli hck hri hoi2 hst hmp hvv hoi
      go_wp2_with fail
      refine hpc.mono ?_
      rintro e w2 ⟨so, cap, L, rfl, hP, hrd, hb7, hnw⟩
      have hLX := (show ∀ L, _ → _ from HPK) L hP
      subst hLX
      obtain ⟨q0, q1, q2, q3⟩ := (s4.up hb7).cells
      have b5 := Below.thn b4 hb7
      have hnn : (((cs.set i.toNat v.toNat).length : Nat) : Int) = n := by rw [hl2]; omega
      rw [hnn]
      have hs4 := s4.lt
      clear hpc hP HPK s3' s3 hy hfr
      go_wp2
      refine bodyPost_ret (v := .tuple #[.agg #[.int .i64 n, .slice so L.length cap], .int .i64 0]) (by simp [results, Try.results19, go_sem, q0, q1]) rfl ⟨so, cap, rfl, ?_, ?_⟩
      · refine (hrd.other ?_ _).other ?_ _
        · intro h b off e; have := hnw h b off e; show b ≠ w.heap.size + 1; omega
        · intro h b off e; have := hnw h b off e; show b ≠ w.heap.size + 1; omega
      · exact (b5.setCell (Nat.le_succ _) _).setCell (Nat.le_succ _) _
end Go.Proofs.Ytmckdefemdcknaa
