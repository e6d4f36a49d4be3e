/-
  The walk of fathomref02.Meet.
-/
import Derived.Test.YtmckdefemdcknaaBt
namespace Go.Proofs.Ytmckdefemdcknaa
open Go.RowKit
open RowsM

/-- The first k cells taken together, the others as they were. -/
def mixMin (cs ds : List Nat) (k : Nat) : List Nat := (List.zipWith min cs ds).take k ++ cs.drop k

theorem mixMin_len {cs ds : List Nat} (h : cs.length = ds.length) (k : Nat) (hk : k ≤ cs.length) : (mixMin cs ds k).length = cs.length := by
  simp [mixMin, List.length_zipWith, ← h]; omega
theorem mixMin_zero (cs ds : List Nat) : mixMin cs ds 0 = cs := by simp [mixMin]
theorem mixMin_end {cs ds : List Nat} (h : cs.length = ds.length) : mixMin cs ds cs.length = List.zipWith min cs ds := by
  unfold mixMin
  rw [List.drop_length, List.append_nil]
  exact List.take_of_length_le (by rw [List.length_zipWith]; omega)
theorem mixMin_at {cs ds : List Nat} (h : cs.length = ds.length) {k : Nat} (hk : k < cs.length) : (mixMin cs ds k).getD k 0 = cs.getD k 0 := by
  have hk2 : k < ds.length := by omega
  have e : ((List.zipWith min cs ds).take k).length = k := by rw [List.length_take, List.length_zipWith]; omega
  unfold mixMin
  rw [List.getD_eq_getElem?_getD, List.getElem?_append_right (by omega), e, Nat.sub_self, List.getElem?_drop, Nat.add_zero, ← List.getD_eq_getElem?_getD]
theorem mixMin_set {cs ds : List Nat} (h : cs.length = ds.length) {k : Nat} (hk : k < cs.length) : (mixMin cs ds k).set k (min (cs.getD k 0) (ds.getD k 0)) = mixMin cs ds (k + 1) := by
  have hk2 : k < ds.length := by omega
  apply List.ext_getElem
  · rw [List.length_set, mixMin_len h k (by omega), mixMin_len h (k + 1) (by omega)]
  · intro i h1 h2
    have hi : i < cs.length := by rw [mixMin_len h (k + 1) (by omega)] at h2; exact h2
    have hi2 : i < ds.length := by omega
    rw [List.getElem_set]
    by_cases e : k = i
    · subst e
      rw [if_pos rfl]
      simp [mixMin, List.getElem_append, List.length_zipWith, hk, hk2]
      intro h3; omega
    · rw [if_neg e]
      simp only [mixMin, List.getElem_append, List.length_take, List.length_zipWith, List.getElem_take, List.getElem_drop]
      by_cases hlt : i < k
      · rw [dif_pos (by omega), dif_pos (by omega)]
      · rw [dif_neg (by omega), dif_neg (by omega)]
        congr 1
        omega

theorem packed_meet {n : Int} {xs ys L : List Nat} (hx : Bd xs) (hy : Bd ys) (kx : okR n xs = true) (ky : okR n ys = true) (hP : Packed (List.zipWith min (cellsL n xs) (cellsL n ys)) (List.zipWith min (cellsL n xs) (cellsL n ys)).length L) : L = List.zipWith meetW xs ys := by
  have hl := okR_len kx ky
  have kx' := kx
  simp only [okR, decide_eq_true_eq] at kx'
  obtain ⟨n0, n1, hln, _⟩ := kx'
  have hzx := (okR_cells hx n0 n1 hln).1 kx
  have hzy := (okR_cells hy n0 n1 (by omega)).1 ky
  have hlen : (List.zipWith min (cellsL n xs) (cellsL n ys)).length = n.toNat := by rw [List.length_zipWith, cellsL_len, cellsL_len, Nat.min_self]
  refine packed_one hP (meet_bd hx hy) (by rw [zip_len _ hl, hlen]; omega) fun q j hq hj => ?_
  rw [zip_len _ hl] at hq
  rw [zip_getD _ hl hq, meet_cell (hx.get q) (hy.get q) hj, hlen]
  have e1 : (32 * q + j) / 32 = q := by omega
  have e2 : (32 * q + j) % 32 = j := by omega
  have cx : cell (xs.getD q 0) j = cellAt xs (32 * q + j) := by unfold cellAt; rw [e1, e2]
  have cy : cell (ys.getD q 0) j = cellAt ys (32 * q + j) := by unfold cellAt; rw [e1, e2]
  rw [cx, cy]
  by_cases hlt : 32 * q + j < n.toNat
  · rw [if_pos hlt, zip_getD _ (by rw [cellsL_len, cellsL_len]) (by rw [cellsL_len]; exact hlt), cellsL_at n xs _ hlt, cellsL_at n ys _ hlt]
  · rw [if_neg hlt, hzx _ (by omega) (by omega), hzy _ (by omega) (by omega)]
    rfl

theorem zip_le_min {cs ds : List Nat} (h : ∀ c, c ∈ cs → c ≤ 3) (g : ∀ c, c ∈ ds → c ≤ 3) : ∀ c, c ∈ List.zipWith min cs ds → c ≤ 3 := by
  intro c hc
  obtain ⟨i, hi, rfl⟩ := List.getElem_of_mem hc
  rw [List.getElem_zipWith]
  have a := h _ (List.getElem_mem (by rw [List.length_zipWith] at hi; omega : i < cs.length))
  have b := g _ (List.getElem_mem (by rw [List.length_zipWith] at hi; omega : i < ds.length))
  omega

set_option maxHeartbeats 1000000 in
theorem refmeet_any (n m : Int) (ao bo : Option Addr) (ca cb : Nat) (xs ys : List Nat) (w : World) (h : Rd w ao xs) (g : Rd w bo ys) (hl : xs.length ≤ 17592186043904) (gl : ys.length ≤ 17592186043904) :
    Calls Try.prog 27 #[.agg #[.int .i64 n, .slice ao xs.length ca], .agg #[.int .i64 m, .slice bo ys.length cb]] w fun e w' => RowEnd (if okP n m xs ys then n else 0) (if okP n m xs ys then 0 else 3) (opL meetW n m xs ys) w e w' := by
  have hbx : Bd xs := h.lt
  have hby : Bd ys := g.lt
  obtain ⟨s1, s2, s3⟩ := st_three w (.int .i64 n) (.slice ao xs.length ca) (.int .i64 m) (.slice bo ys.length cb) (.int .i64 0) (.slice none 0 0)
  have b2 := Below.thn (below_two w (.cells #[.int .i64 n, .slice ao xs.length ca] 24) (.cells #[.int .i64 m, .slice bo ys.length cb] 24)) (below_alloc _ (.cells #[.int .i64 0, .slice none 0 0] 24))
  have h2 := h.up b2
  have g2 := g.up b2
  have htw := two_any n m ao bo ca cb xs ys _ h2 g2 hl gl
  obtain ⟨c0, c1, _, _⟩ := s1.cells
  obtain ⟨d0, d1, _, _⟩ := s2.cells
  have hsz := s3.lt
  clear h g h2 g2 s1 s2
  cases hp : okP n m xs ys with
  | false =>
    rw [hp] at htw
    rw [opL_no hp]
    simp only [Bool.false_eq_true, if_false]
    go_enter Try.func27, Try.ntmps27
    go_wp2_with fail
    refine htw.mono ?_
    rintro e w1 ⟨v, u, B1, B2, rfl, _, hb⟩
    have b3 := Below.thn b2 hb
    obtain ⟨q0, q1, q2, q3⟩ := (s3.up hb).cells
    clear htw hb c0 c1 d0 d1 s3
    go_wp2
    refine bodyPost_ret (v := .tuple #[.agg #[.int .i64 0, .slice none 0 0], .int .i64 3]) (by simp [results, Try.results27, go_sem, q0, q1]) rfl ⟨none, 0, rfl, Rd.nil _ _, ?_⟩
    exact (b3.setCell (by show w.heap.size ≤ w.heap.size + 1 + 1; omega) _).setCell (by show w.heap.size ≤ w.heap.size + 1 + 1; omega) _
  | true =>
    rw [hp] at htw
    obtain ⟨kx, ky, rfl⟩ := okP_parts hp
    have hn : 0 ≤ n ∧ n ≤ 4096 := by simp only [okR, decide_eq_true_eq] at kx; exact ⟨kx.1, kx.2.1⟩
    rw [opL_yes hp]
    simp only [if_true]
    have hpj := fun L => packed_meet (L := L) hbx hby kx ky
    have hla := cellsL_len n xs
    have hlb := cellsL_len n ys
    have h3a := cellsL_le n xs
    have h3b := cellsL_le n ys
    clear hp kx ky
    have htw2 : Calls Try.prog 40 #[.agg #[.int .i64 n, .slice ao xs.length ca], .agg #[.int .i64 n, .slice bo ys.length cb]] _ fun e w' => ∃ v u B1 B2, e = .returned (.tuple #[v, u, .bool true]) ∧ Oi w' B1 v (cellsL n xs) ∧ Oi w' B2 u (cellsL n ys) ∧ _ < B1 ∧ _ < B2 ∧ (∀ k, v.ownBlock = some k → k < B2) ∧ Below _ _ w' :=
      htw.mono (fun e w' ⟨v, u, B1, B2, h1, h2, h3⟩ => ⟨v, u, B1, B2, h1, (h2 rfl).1, (h2 rfl).2.1, (h2 rfl).2.2.1, (h2 rfl).2.2.2.1, (h2 rfl).2.2.2.2, h3⟩)
    clear htw
    generalize cellsL n xs = cs at *
    generalize cellsL n ys = ds at *
    generalize List.zipWith meetW xs ys = X at *
    have HPJ : Hid (∀ L, Packed (List.zipWith min cs ds) (List.zipWith min cs ds).length L → L = X) := hpj
    clear hpj
    have hcd : cs.length = ds.length := by omega
    have HCD : Hid (cs.length = ds.length) := hcd
    go_enter Try.func27, Try.ntmps27
    go_wp2_with fail
    refine htw2.mono ?_
    rintro e w1 ⟨v, u, B1, B2, rfl, hov, hou, hB1, hB2, hsep, hb⟩
    have b3 := Below.thn b2 hb
    have s4 := s3.up hb
    obtain ⟨co2, cc2, rfl, hrb⟩ := hou.form
    have hN4 : cs.length ≤ 4096 := by omega
    rw [← hcd]
    have HLA : Hid (cs.length = n.toNat) := hla
    clear htw2 hb c0 c1 d0 d1 hla hlb s3
    by_cases hz : cs.length = 0
    · obtain ⟨co, cp, rfl, hra⟩ := hov.form
      have e1 : cs = [] := List.length_eq_zero_iff.1 hz
      have e2 : ds = [] := List.length_eq_zero_iff.1 (by rw [← hcd]; exact hz)
      subst e1 e2
      have hn0 : n = 0 := by have := show ([] : List Nat).length = n.toNat from HLA; simp at this; omega
      subst hn0
      have hpc := pack_any co cp [] w1 hra (by simp) (by simp)
      clear hra hrb hov hou hsep
      go_wp2
      refine wp_loop_rounds 1 ?_
      rw [rounds_succ]
      go_wp2_with fail
      refine hpc.mono ?_
      rintro e w2 ⟨so, cap, L, rfl, hP, hrd, hb7, hnw⟩
      have hLX := (show ∀ L, _ → _ from HPJ) L hP
      subst hLX
      obtain ⟨q0, q1, q2, q3⟩ := (s4.up hb7).cells
      have b5 := Below.thn b3 hb7
      have hs5 := s4.lt
      clear hpc hP HPJ
      go_wp2
      refine bodyPost_ret (v := .tuple #[.agg #[.int .i64 0, .slice so L.length cap], .int .i64 0]) (by simp [results, Try.results27, go_sem, q0, q1]) rfl ⟨so, cap, rfl, ?_, ?_⟩
      · refine (hrd.other ?_ _).other ?_ _
        · intro h b off e; have := hnw h b off e; show b ≠ w.heap.size + 1 + 1; omega
        · intro h b off e; have := hnw h b off e; show b ≠ w.heap.size + 1 + 1; omega
      · exact (b5.setCell (by show w.heap.size ≤ w.heap.size + 1 + 1; omega) _).setCell (by show w.heap.size ≤ w.heap.size + 1 + 1; omega) _
    · obtain ⟨G, cp, rfl, hG⟩ := own_form hov (by omega)
      obtain ⟨bb, ob, rfl, hcb⟩ := hrb (by intro e; rw [e] at hcd; exact hz (by rw [hcd]; rfl))
      have hGB : G < B2 := hsep G rfl
      have hbB : B2 ≤ bb := by
        rcases hou.2 with ⟨e, _⟩ | ⟨g, c, cur, e, hB, _⟩
        · simp at e
        · simp only [Value.slice.injEq, Option.some.injEq, Addr.mk.injEq] at e; omega
      rw [← hcd] at hcb
      clear hrb hsep hou hcd
      go_wp2
      go_loopw [9] (fun i wr => ∃ k : Nat, k ≤ cs.length ∧ i = .int .i64 k ∧ Oth G w1 wr ∧ Hid (Oi wr B1 (.slice (some ⟨G, 0, none⟩) cs.length cp) (mixMin cs ds k))) (fun i _ => cs.length - (intOf i).toNat)
      case atStart => exact ⟨0, Nat.zero_le _, rfl, Oth.refl _ _, by rw [mixMin_zero]; exact hov⟩
      case round =>
        obtain ⟨k, hk, rfl, hoth, HK⟩ := hrel
        by_cases hlt : k < cs.length
        · obtain ⟨x, hxe⟩ : ∃ x, x = cs.getD k 0 := ⟨_, rfl⟩
          obtain ⟨y, hye⟩ : ∃ y, y = ds.getD k 0 := ⟨_, rfl⟩
          have hoi := show Oi wr B1 _ (mixMin cs ds k) from HK
          unfold Oi at hoi
          rw [mixMin_len HCD k hk] at hoi
          have ha := hoi.cellAt k (by omega)
          have hgd := mixMin_at HCD hlt
          have hml := mixMin_len HCD k hk
          rw [List.getElem?_map, List.getElem?_eq_getElem (by omega)] at ha
          rw [List.getD_eq_getElem?_getD, List.getElem?_eq_getElem (by omega)] at hgd
          simp only [Option.map_some] at ha
          simp only [Option.getD_some] at hgd
          rw [hgd, ← hxe] at ha
          have hb := (hoth.cell (a := ⟨bb, ob + k, none⟩) (by show bb ≠ G; omega)).trans (hcb k hlt)
          rw [← hye] at hb
          have hfr := hoi.frozenAt k
          have hst := hoi.stored k
          have HS : Hid (∀ u, _) := hst
          have HX : Hid (x = cs.getD k 0) := hxe
          have HY : Hid (y = ds.getD k 0) := hye
          clear hxe hye hgd hml hst hoi hcb
          go_wp2_with fail
          go_region
          have hmx : (if y < x then (y : Int) else (x : Int)) = ((min x y : Nat) : Int) := by split <;> omega
          rw [hmx]
          have hnx := ((show ∀ u, _ from HS) (.int .i64 (min x y : Nat))).1
          have hmp : ((mixMin cs ds k).map fun c : Nat => Value.int .i64 c).set k (.int .i64 (min x y : Nat)) = (mixMin cs ds (k + 1)).map fun c : Nat => Value.int .i64 c := by
            rw [← mixMin_set HCD hlt, List.map_set, show x = _ from HX, show y = _ from HY]
          rw [hmp] at hnx
          have hok : Oi (wr.setCell ⟨G, k, none⟩ (.int .i64 (min x y : Nat))).drew B1 (.slice (some ⟨G, 0, none⟩) cs.length cp) (mixMin cs ds (k + 1)) := by
            unfold Oi
            rw [mixMin_len HCD (k + 1) (by omega)]
            exact hnx
          have hot2 := (hoth.set k (.int .i64 (min x y : Nat))).drew
          clear HS hmx hmp hnx ha hb hfr
          go_wp2
          go_roundw
          case rel => exact ⟨k + 1, by omega, by go_num, hot2, hok⟩
          case measure => simp [intOf]; omega
        · have hke : k = cs.length := by omega
          subst hke
          have hoi := show Oi wr B1 _ (mixMin cs ds cs.length) from HK
          rw [mixMin_end HCD] at hoi
          have hl2 : (List.zipWith min cs ds).length = cs.length := by rw [List.length_zipWith, ← show cs.length = ds.length from HCD, Nat.min_self]
          obtain ⟨co, cq, e0, hri⟩ := hoi.form
          simp only [Value.slice.injEq] at e0
          obtain ⟨rfl, eL, rfl⟩ := e0
          clear eL
          have s5 := hoth.st s4 (by omega)
          have b4 := hoth.below b3 (by omega)
          have hpc := pack_any (some ⟨G, 0, none⟩) cp (List.zipWith min cs ds) wr hri (by rw [hl2]; exact hN4) (zip_le_min h3a h3b)
          rw [hl2] at hpc
          have HL2 : Hid ((List.zipWith min cs ds).length = cs.length) := hl2
          clear hri hoi HK hcb hl2
          go_wp2_with fail
          refine hpc.mono ?_
          rintro e w2 ⟨so, cap, L, rfl, hP, hrd, hb7, hnw⟩
          have hLX := (show ∀ L, _ → _ from HPJ) L hP
          subst hLX
          obtain ⟨q0, q1, q2, q3⟩ := (s5.up hb7).cells
          have b5 := Below.thn b4 hb7
          have hs5 := s5.lt
          have hnn : (((List.zipWith min cs ds).length : Nat) : Int) = n := by rw [show _ = cs.length from HL2]; have := show cs.length = n.toNat from HLA; omega
          rw [hnn]
          clear hpc hP HPJ
          go_wp2
          refine bodyPost_ret (v := .tuple #[.agg #[.int .i64 n, .slice so L.length cap], .int .i64 0]) (by simp [results, Try.results27, go_sem, q0, q1]) rfl ⟨so, cap, rfl, ?_, ?_⟩
          · refine (hrd.other ?_ _).other ?_ _
            · intro h b off e; have := hnw h b off e; show b ≠ w.heap.size + 1 + 1; omega
            · intro h b off e; have := hnw h b off e; show b ≠ w.heap.size + 1 + 1; omega
          · exact (b5.setCell (by show w.heap.size ≤ w.heap.size + 1 + 1; omega) _).setCell (by show w.heap.size ≤ w.heap.size + 1 + 1; omega) _
end Go.Proofs.Ytmckdefemdcknaa
