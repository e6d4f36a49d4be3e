/-
  The walk of the document's Parse at a text in brackets.
-/
import Derived.Test.YtbgggbkmnfppoaaGreatDoorZd
import Derived.Deep.RegionLaw
namespace Go.Proofs.YtbgggbkmnfppoaaGreatDoor
open Go.RowKit
set_option maxRecDepth 100000

/-- What lies in memory while a list is read. -/
structure RpW (w wr : World) (N P : Nat) (ao : Option Addr) (c : Nat) (zs : List Zn) (vw : Value) (ws : List (List UInt8)) : Prop where
  bel : Below w.heap.size w wr
  r : Bk wr w.heap.size 35 zV
  n : ∃ x y, Bk wr N 64 [.int .i64 x, .int .i64 y]
  p : Bk wr P 35 [.int .i64 3, .complex .f64 0 0, .bool false, .slice ao zs.length c]
  o : OwZ wr w.heap.size (.slice ao zs.length c) (zs.map wz)
  s : OwS wr w.heap.size vw ws
theorem RpW.up {w wr w' : World} {N P : Nat} {ao : Option Addr} {c : Nat} {zs : List Zn} {vw : Value} {ws : List (List UInt8)} (h : RpW w wr N P ao c zs vw ws) (hb : Below wr.heap.size wr w') : RpW w w' N P ao c zs vw ws := by
  obtain ⟨x, y, hn⟩ := h.n
  exact ⟨h.bel.trans (hb.mono h.bel.size), h.r.up hb, ⟨x, y, hn.up hb⟩, h.p.up hb, owns_up h.o hb, owns_up h.s hb⟩

theorem OwS.at {w : World} {B : Nat} {v : Value} {ws : List (List UInt8)} (h : OwS w B v ws) (hne : ws ≠ []) : ∃ g cap, v = .slice (some ⟨g, 0, none⟩) ws.length cap ∧ ∀ k, k < ws.length → w.cell? ⟨g, k, none⟩ = some (.string (bs (ws.getD k []))) := by
  rcases h.2 with ⟨_, h0⟩ | ⟨g, cap, cur, rfl, _⟩
  · exact absurd (List.length_eq_zero_iff.1 h0) hne
  · refine ⟨g, cap, rfl, fun k hk => ?_⟩
    have := h.cells (g := g) rfl k (strW (ws.getD k [])) (by rw [List.getElem?_map, List.getElem?_eq_getElem hk, List.getD_eq_getElem?_getD, List.getElem?_eq_getElem hk]; rfl)
    rw [Addr.add_mid, Nat.zero_add] at this
    exact this

theorem plE_drop {ws : List (List UInt8)} {k : Nat} (hk : k < ws.length) : plE rdG (ws.drop k) = match rdG (ws.getD k []) with
    | none => none
    | some z => (plE rdG (ws.drop (k + 1))).map (z :: ·) := by
  rw [List.drop_eq_getElem_cons hk, List.getD_eq_getElem?_getD, List.getElem?_eq_getElem hk]
  rfl

theorem words_len (l : List UInt8) : (wordsP l).length ≤ l.length + 1 := by
  have h1 : (splitB l).length ≤ l.length + 1 := by
    induction l with
    | nil => simp [splitB]
    | cons b r ih =>
      simp only [splitB]
      split
      · simp; omega
      · cases hs : splitB r with
        | nil => simp
        | cons x xs => rw [hs] at ih; simp at ih ⊢; omega
  have h2 := List.length_filter_le (fun x : List UInt8 => !x.isEmpty) (splitB l)
  unfold wordsP
  omega
theorem words_piece (l : List UInt8) : ∀ x ∈ wordsP l, x.length ≤ l.length := by
  have key : ∀ l : List UInt8, ∀ x ∈ splitB l, x.length ≤ l.length := by
    intro l
    induction l with
    | nil => intro x hx; simp [splitB] at hx; simp [hx]
    | cons b r ih =>
      intro x hx
      simp only [splitB] at hx
      split at hx
      · rcases List.mem_cons.1 hx with e | e
        · rw [e]; simp
        · have := ih x e; simp; omega
      · cases hs : splitB r with
        | nil => rw [hs] at hx; simp at hx; simp [hx]
        | cons y ys =>
          rw [hs] at hx
          rcases List.mem_cons.1 hx with e | e
          · have := ih y (by rw [hs]; simp); rw [e]; simp; omega
          · have := ih x (by rw [hs]; simp [e]); simp; omega
  intro x hx
  exact key l x (List.mem_filter.1 hx).1

set_option maxHeartbeats 4000000 in
theorem rparse_list (l : List UInt8) (hl : l.length ≤ 2000000000000) (w : World) (hz : rdG l = none) (h1 : l ≠ tTrue) (h2 : l ≠ tFalse) (hbr : brk l = true) :
    Calls Tryz.prog 17 #[.string (bs l)] w fun e w' => PA w.heap.size (pvV rdG l) e w' ∧ Below w.heap.size w w' := by
  have hR0 := Bk.new w 35 #[.int .i64 0, .complex .f64 0 0, .bool false, .slice none 0 0]
  have b0 := below_alloc w (.cells #[.int .i64 0, .complex .f64 0 0, .bool false, .slice none 0 0] 35)
  obtain ⟨A, hA⟩ : ∃ A, A = pvV rdG l := ⟨_, rfl⟩
  rw [← hA]
  have t1 : ((bs l).toList == [116, 114, 117, 101]) = false := by rw [bs_toList, beq_eq_false_iff_ne]; exact h1
  have t2 : ((bs l).toList == [102, 97, 108, 115, 101]) = false := by rw [bs_toList, beq_eq_false_iff_ne]; exact h2
  have hgp := fun W => rgp_any l (by omega) W
  rw [hz] at hgp
  simp only [Option.getD_none, Option.isSome_none, Bool.false_eq_true, if_false] at hgp
  rw [pv_brk rdG_rdr h1 h2 hz, if_pos hbr] at hA
  have hsz := bs_size l
  unfold brk at hbr
  simp only [Bool.and_eq_true, decide_eq_true_eq, beq_iff_eq] at hbr
  obtain ⟨⟨g, g2⟩, g3⟩ := hbr
  have k0 : 0 < (bs l).size := by omega
  have k1 : ¬ ((bs l).size : Int) < 2 := by omega
  have k2 : (((bs l)[0].toNat : Int) != 91) = false := by rw [bs_get l 0 k0, g2]; rfl
  have k3 : (0 : Int) < ((bs l).size : Int) := by omega
  have k4 : (bs l).size - 1 < (bs l).size := by omega
  have kw : wrap64 (((bs l).size : Int) - 1) = (((bs l).size - 1 : Nat) : Int) := by unfold wrap64; omega
  have k6 : (((bs l)[(bs l).size - 1].toNat : Int) != 93) = false := by rw [bs_get l _ k4, hsz, g3]; rfl
  have k9 : decide (((bs l).size : Int) < 2) = false := by simp; omega
  have hx : (bs l).extract 1 ((bs l).size - 1) = bs ((l.drop 1).take (l.length - 2)) := by rw [bs_extract, hsz, show l.length - 1 - 1 = l.length - 2 by omega]
  have hwd := fun W => words_any ((l.drop 1).take (l.length - 2)) (by rw [List.length_take, List.length_drop]; omega) W
  have hwl := words_len ((l.drop 1).take (l.length - 2))
  have hwp := words_piece ((l.drop 1).take (l.length - 2))
  have hil : ((l.drop 1).take (l.length - 2)).length ≤ 2000000000000 := by rw [List.length_take, List.length_drop]; omega
  have HA : Hid (A = match plE rdG (wordsP ((l.drop 1).take (l.length - 2))) with
    | none => none
    | some zs => if txV (.l zs) = l then some (.l zs) else none) := hA
  generalize (l.drop 1).take (l.length - 2) = li at *
  rw [← hx] at hwd
  have k10 : (1 : Int) ≤ (((bs l).size - 1 : Nat) : Int) := by omega
  have k11 : (((bs l).size - 1 : Nat) : Int) ≤ ((bs l).size : Int) := by omega
  have k12 : 1 ≤ (bs l).size - 1 := by omega
  have k13 : (bs l).size - 1 ≤ (bs l).size := by omega
  obtain ⟨ws, hws⟩ : ∃ ws, ws = wordsP li := ⟨_, rfl⟩
  rw [← hws] at hwd hwl hwp HA
  generalize hsl : bs l = sl at *
  have HSL : Hid (bs l = sl) := hsl
  clear hA h1 h2 hz g g2 g3 hx hsz hws hsl
  generalize hW : w.alloc (.cells #[.int .i64 0, .complex .f64 0 0, .bool false, .slice none 0 0] 35) = W at *
  go_enter Tryz.func17, Tryz.ntmps17
  go_wp2_with fail
  refine (hgp _).mono ?_
  rintro e w1 ⟨rfl, hb1⟩
  clear hW
  have hN1 := Bk.new w1 64 #[.int .i64 0, .int .i64 0]
  have hb1' := Below.thn hb1 (below_alloc w1 (.cells #[.int .i64 0, .int .i64 0] 64))
  have hP1 := Bk.new (w1.alloc (.cells #[.int .i64 0, .int .i64 0] 64)) 35 #[.int .i64 0, .complex .f64 0 0, .bool false, .slice none 0 0]
  rw [show (w1.alloc (.cells #[.int .i64 0, .int .i64 0] 64)).heap.size = w1.heap.size + 1 by simp] at hP1
  have hRr := hR0.up hb1'
  go_wp2_with (refine wpList_storeN rfl 35 (.tmp 6) (.tmp 47) rfl (w1.heap.size + 1) 0 [.int .i64 3, .complex .f64 0 0, .bool false, .slice none 0 0] rfl rfl hP1 (Nat.le_refl 4) Tryz.infoV (one4 _ _ _ _ _ _ _) ?_; intro w2 hP2 hO2)
  refine (hwd _).mono ?_
  rintro e w3 ⟨⟨vw, rfl, hS3⟩, hb3⟩
  have bA : Below w.heap.size w (w1.alloc (.cells #[.int .i64 0, .int .i64 0] 64)) := b0.trans (hb1'.mono b0.size)
  have bP := below_alloc (w1.alloc (.cells #[.int .i64 0, .int .i64 0] 64)) (.cells #[.int .i64 0, .complex .f64 0 0, .bool false, .slice none 0 0] 35)
  have hw1 : w.heap.size < w1.heap.size := Nat.lt_of_lt_of_le hR0.lt hb1.size
  have bB : Below w.heap.size w w2 := (bA.trans (bP.mono bA.size)).trans (hO2.below (by omega))
  have hr2 := (hRr.up bP).oth hO2 (by omega)
  have hn2 := (hN1.up bP).oth hO2 (by omega)
  have hRP : Hid (RpW w w3 w1.heap.size (w1.heap.size + 1) none 0 [] vw ws) := ⟨bB.trans (hb3.mono bB.size), hr2.up hb3, ⟨0, 0, hn2.up hb3⟩, hP2.up hb3, ⟨rfl, .inl ⟨rfl, rfl⟩⟩, owns_mono hS3 bB.size⟩
  obtain ⟨aw, cw, ew, _, _⟩ := owns_slice hS3
  subst ew
  obtain ⟨m, hm⟩ : ∃ m, Hid (m = ws.length) := ⟨_, rfl⟩
  have hml : m ≤ 2000000000001 := by rw [hm.out]; omega
  rw [← hm.out] at hRP ⊢
  have HWP : Hid (∀ x ∈ ws, x.length ≤ li.length) := hwp
  clear hS3 hb3 hP2 hO2 hP1 hN1 hRr hR0 bA bP bB hr2 hn2 hb1 hb1' hwd hwp hgp hwl b0
  generalize w1.heap.size = N at *
  clear k1 k2 k3 k6 k9 kw k10 k11 k12 k13
  go_wp2_with fail
  go_loopw [8] (fun i wr => ∃ (k : Nat) (ao : Option Addr) (c : Nat) (zs : List Zn), k ≤ m ∧ i = .int .i64 k ∧ zs.length = k ∧ Hid (RpW w wr N (N + 1) ao c zs (.slice aw m cw) ws) ∧ Hid (∀ z ∈ zs, okZ z) ∧ Hid (plE rdG ws = (plE rdG (ws.drop k)).map (zs ++ ·))) (fun i _ => m - (RowKit.intOf i).toNat)
  case atStart => exact ⟨0, none, 0, [], Nat.zero_le _, rfl, rfl, hRP, fun z hz => by simp at hz, by show _ = _; rw [List.drop_zero]; cases plE rdG ws <;> simp⟩
  case round =>
    obtain ⟨k, ao, c, zs, hkm, rfl, hzk0, hR, hok, hpl⟩ := hrel
    have hzk : Hid (zs.length = k) := hzk0
    have hzl : zs.length ≤ m := by omega
    clear hRP hzk0
    by_cases hlt : k < m
    · have hk : k < ws.length := by rw [← hm.out]; exact hlt
      obtain ⟨gw, cgw, eq1, hcw⟩ := hR.out.s.at (by intro e; rw [e] at hk; simp at hk)
      simp only [Value.slice.injEq] at eq1
      obtain ⟨rfl, em, rfl⟩ := eq1
      clear em
      have hck := hcw k hk
      have hpd := plE_drop hk
      have hxl : (ws.getD k []).length ≤ 2000000000000 := by
        have : ws.getD k [] ∈ ws := by rw [List.getD_eq_getElem?_getD, List.getElem?_eq_getElem hk]; exact List.getElem_mem hk
        have := HWP.out _ this
        omega
      have hgp := fun W => rgp_any (ws.getD k []) (by omega) W
      generalize ws.getD k [] = x at *
      have HPD : Hid (plE rdG ws = (match rdG x with | none => none | some z => (plE rdG (ws.drop (k + 1))).map (z :: ·)).map (zs ++ ·)) := by show _ = _; rw [hpl.out, hpd]
      clear hcw hpd hpl
      go_wp2_with fail
      refine (hgp _).mono ?_
      rintro e w5 ⟨rfl, hb5⟩
      have hR5 := hR.out.up hb5
      obtain ⟨n0, n1, hN5⟩ := hR5.n
      cases hg : rdG x with
      | none =>
        have hb := HA.out
        have HPD2 := HPD.out
        rw [hg] at HPD2
        simp only [Option.map_none] at HPD2
        rw [HPD2] at hb
        simp only at hb
        subst hb
        simp only [Option.getD_none, Option.isSome_none, Bool.false_eq_true, if_false]
        go_wp2_with (first
          | (refine wpList_storeN rfl 64 (.tmp 4) (.tmp 66) rfl N 0 [.int .i64 0, .int .i64 0] rfl rfl hN5 (Nat.le_refl 2) Tryz.infoN2 (one2 _ _) ?_; intro w6 hN6 hO6; have hr6 := hR5.r.oth hO6 (by omega))
          | (refine wpList_storeN rfl 35 (.tmp 2) (.tmp 70) rfl w.heap.size 0 [.int .i64 0, .complex .f64 0 0, .bool false, .slice none 0 0] rfl rfl hr6 (Nat.le_refl 4) Tryz.infoV (one4 _ _ _ _ _ _ _) ?_; intro w9 hB9 hO9)
          | fail)
        have z0 : w9.cell? ⟨w.heap.size, 0, none⟩ = some (.int .i64 0) := hB9.cell 0
        have z1 : w9.cell? ⟨w.heap.size, 1, none⟩ = some (.complex .f64 0 0) := hB9.cell 1
        have z2 : w9.cell? ⟨w.heap.size, 2, none⟩ = some (.bool false) := hB9.cell 2
        have z3 : w9.cell? ⟨w.heap.size, 3, none⟩ = some (.slice none 0 0) := hB9.cell 3
        go_wp2
        exact bodyPost_ret (v := .tuple #[.agg #[.int .i64 0, .complex .f64 0 0, .bool false, .slice none 0 0], .int .i64 11]) (by simp [results, Tryz.results17, go_sem, z0, z1, z2, z3]) rfl ⟨PA_none _ _, (hR5.bel.trans (hO6.below (by omega))).trans (hO9.below (Nat.le_refl _))⟩
      | some z =>
        have hzo := (rdG_rdr.of _ _ hg).1
        have HZ : Hid (okZ z) := hzo
        have HP2 : Hid (plE rdG ws = (plE rdG (ws.drop (k + 1))).map ((zs ++ [z]) ++ ·)) := by
          show _ = _
          rw [HPD.out, hg]
          cases plE rdG (ws.drop (k + 1)) <;> simp
        simp only [Option.getD_some, Option.isSome_some, if_true]
        clear HPD hg hzo
        have HR5 : Hid (RpW w w5 N (N + 1) ao c zs (.slice (some ⟨gw, 0, none⟩) m cw) ws) := hR5
        clear hR5
        go_upto_region 16 with (refine wpList_storeN rfl 64 (.tmp 4) (.tmp 66) rfl N 0 [.int .i64 z.1, .int .i64 z.2] rfl rfl hN5 (Nat.le_refl 2) Tryz.infoN2 (one2 _ _) ?_; intro w6 hN6 hO6)
        have b56 : Below w.heap.size w5 w6 := hO6.below (by omega)
        have hP6 := HR5.out.p.oth hO6 (by omega)
        have hr6 := HR5.out.r.oth hO6 (by omega)
        have o6 := owns_oth HR5.out.o hN5 (by decide) hO6
        have s6 := owns_oth HR5.out.s hN5 (by decide) hO6
        have bel6 := HR5.out.bel.trans b56
        have n0' : w6.cell? ⟨N, 0, none⟩ = some (.int .i64 z.1) := hN6.cell 0
        have n1' : w6.cell? ⟨N, 1, none⟩ = some (.int .i64 z.2) := hN6.cell 1
        have g3 : w6.cell? ⟨N + 1, 3, none⟩ = some (.slice ao zs.length c) := hP6.cell 3
        have hzc := fun X => rz_any z.1 z.2 X
        rw [show (z.1, z.2) = z from rfl] at hzc
        have HO6 : Hid (OwZ w6 w.heap.size (.slice ao zs.length c) (zs.map wz)) := o6
        have HS6 : Hid (OwS w6 w.heap.size (.slice (some ⟨gw, 0, none⟩) m cw) ws) := s6
        have HP6 : Hid (Bk w6 (N + 1) 35 [.int .i64 3, .complex .f64 0 0, .bool false, .slice ao zs.length c]) := hP6
        have HN6 : Hid (Bk w6 N 64 [.int .i64 z.1, .int .i64 z.2]) := hN6
        have Hr6 : Hid (Bk w6 w.heap.size 35 zV) := hr6
        clear o6 s6 hP6 hN6 hr6 hO6 b56 hN5 HR5 hR hck
        go_region_law (first
          | (refine step_append_runU (by rfl) (.tmp 72) (.tmp 75) 33 33 (by rfl) (by rfl) (.slice ao zs.length c) (.slice (some ⟨wy.heap.size, 0, none⟩) 1 1) (by rfl) (by rfl) (.slice ao9 _ c9) w9 (show _ = _ from R9) ?_)
          | (go_simp; go_at_call 33; (with_reducible refine Calls.mono (hzc _) ?_); rintro e wy ⟨rfl, hby⟩; have hbw : Below w6.heap.size w6 wy := ((Below.refl w6.heap.size w6).drew).trans hby; have g3z : wy.cell? ⟨N + 1, 3, none⟩ = some (.slice ao zs.length c) := (hbw.cell (cell_lt g3)).trans g3; have g3a : (wy.alloc (.cells #[.complex .f64 (wz z).1 (wz z).2] 32)).cell? ⟨N + 1, 3, none⟩ = some (.slice ao zs.length c) := ((below_alloc wy _).cell (cell_lt g3z)).trans g3z; have hO6y : OwZ wy w.heap.size (.slice ao zs.length c) (zs.map wz) := owns_up HO6.out hbw; obtain ⟨v9, w9, r9, o9, k9⟩ := own_cx wy w.heap.size (.slice ao zs.length c) (zs.map wz) (wz z) hO6y (Nat.le_trans bel6.size hbw.size) (by rw [List.length_map]; omega); have R9 : Hid (_ = _) := r9; have hG9 : Hid (Bk w9 (N + 1) 35 [.int .i64 3, .complex .f64 0 0, .bool false, .slice ao zs.length c]) := (HP6.out.up hbw).kt k9 (by decide); have g39 : w9.cell? ⟨N + 1, 3, none⟩ = some (.slice ao zs.length c) := hG9.out.cell 3; have f39 : w9.frozen? ⟨N + 1, 3, none⟩ = false := hG9.out.frz 3; have O9 : Hid (OwZ w9 w.heap.size v9 ((zs ++ [z]).map wz)) := (show OwZ _ _ _ _ by rw [List.map_append]; exact o9); obtain ⟨ao9, c9, e9, _, _⟩ := owns_slice o9; rw [List.length_append, List.length_map] at e9; subst e9; clear r9 o9 hO6y)
          | fail)
        all_goals
          have hbb : Below w.heap.size w w9 := (bel6.trans (hbw.mono bel6.size)).trans k9.low
          have hset := (Oth.refl (N + 1) w9).set 3 (.slice ao9 (zs.length + 1) c9)
          have HRn : Hid (RpW w (w9.setCell ⟨N + 1, 3, none⟩ (.slice ao9 (zs.length + 1) c9)) N (N + 1) ao9 c9 (zs ++ [z]) (.slice (some ⟨gw, 0, none⟩) m cw) ws) :=
            ⟨hbb.trans (hset.below (by omega)), ((Hr6.out.up hbw).kt k9 (by decide)).oth hset (by omega), ⟨z.1, z.2, ((HN6.out.up hbw).kt k9 (by decide)).oth hset (by omega)⟩, by rw [List.length_append]; exact hG9.out.set 3 _, by rw [List.length_append]; exact owns_set O9.out hG9.out (by decide) 3 _, owns_set (owns_kt (owns_up HS6.out hbw) k9 (by decide)) hG9.out (by decide) 3 _⟩
          have HOn : Hid (∀ y ∈ zs ++ [z], okZ y) := by
            intro y hy
            rcases List.mem_append.1 hy with h | h
            · exact hok.out y h
            · rw [List.mem_singleton.1 h]; exact HZ.out
          go_wp2_with fail
          go_roundw
          case rel => exact ⟨k + 1, ao9, c9, zs ++ [z], by omega, by go_num, by rw [List.length_append, hzk.out]; rfl, HRn, HOn, HP2⟩
          case measure => simp [RowKit.intOf]; omega
    · have hke : k = m := by omega
      have hdr : ws.drop k = [] := List.drop_of_length_le (by rw [← hm.out]; omega)
      have hb := HA.out
      have hp := hpl.out
      rw [hdr] at hp
      simp only [plE, Option.map_some, List.append_nil] at hp
      rw [hp] at hb
      simp only at hb
      have hzl2 : zs.length ≤ 5864062014806 := by omega
      have hR2 := hR.out
      have hvr : Vr wr ao (ofV (.l zs)) := by
        obtain ⟨ao2, c2, e2, _, hzr⟩ := hR2.o.zr (map_wz_lt hok.out)
        have hao : ao = ao2 := by simp only [Value.slice.injEq] at e2; exact e2.1
        subst hao
        refine ⟨⟨Nat.zero_lt_succ _, Nat.zero_lt_succ _⟩, hzr, ?_⟩
        show (zs.map wz).length ≤ _
        rw [List.length_map]
        exact hzl2
      have htx := (rtext_any (ofV (.l zs)) ao c wr hvr)
      have e0 : vV ao c (ofV (.l zs)) = .agg #[.int .i64 3, .complex .f64 0 0, .bool false, .slice ao zs.length c] := by
        show Value.agg #[.int .i64 3, .complex .f64 0 0, .bool false, .slice ao (zs.map wz).length c] = _
        rw [List.length_map]
      rw [e0] at htx
      have p0 : wr.cell? ⟨N + 1, 0, none⟩ = some (.int .i64 3) := hR2.p.cell 0
      have p1 : wr.cell? ⟨N + 1, 1, none⟩ = some (.complex .f64 0 0) := hR2.p.cell 1
      have p2 : wr.cell? ⟨N + 1, 2, none⟩ = some (.bool false) := hR2.p.cell 2
      have p3 : wr.cell? ⟨N + 1, 3, none⟩ = some (.slice ao zs.length c) := hR2.p.cell 3
      have HTX : Hid (∀ e, txR (ofV (.l zs)) e → e = .returned (.tuple #[.string (bs (txV (.l zs))), .int .i64 0])) := fun e he => txR_of (u := .l zs) hok.out he
      have hcmp : ((bs (txV (.l zs))).toList == sl.toList) = decide (txV (.l zs) = l) := by
        rw [← HSL.out, bs_toList, bs_toList, Bool.eq_iff_iff, beq_iff_eq, decide_eq_true_eq]
      clear hvr hpl hdr hp
      go_wp2_with fail
      refine htx.mono ?_
      rintro e w5 ⟨ht5, hb5⟩
      have e5 := HTX.out _ ht5
      subst e5
      have hR5 := hR2.up hb5
      clear p0 p1 p2 p3 ht5 htx HTX hR2
      have p0 : w5.cell? ⟨N + 1, 0, none⟩ = some (.int .i64 3) := hR5.p.cell 0
      have p1 : w5.cell? ⟨N + 1, 1, none⟩ = some (.complex .f64 0 0) := hR5.p.cell 1
      have p2 : w5.cell? ⟨N + 1, 2, none⟩ = some (.bool false) := hR5.p.cell 2
      have p3 : w5.cell? ⟨N + 1, 3, none⟩ = some (.slice ao zs.length c) := hR5.p.cell 3
      by_cases hq : txV (.l zs) = l
      · rw [if_pos hq] at hb
        subst hb
        rw [decide_eq_true hq] at hcmp
        generalize bs (txV (.l zs)) = st at *
        clear hq
        go_wp2_with (refine wpList_storeN rfl 35 (.tmp 2) (.tmp 87) rfl w.heap.size 0 [.int .i64 3, .complex .f64 0 0, .bool false, .slice ao zs.length c] rfl rfl hR5.r (Nat.le_refl 4) Tryz.infoV (one4 _ _ _ _ _ _ _) ?_; intro w9 hB9 hO9)
        have z0 : w9.cell? ⟨w.heap.size, 0, none⟩ = some (.int .i64 3) := hB9.cell 0
        have z1 : w9.cell? ⟨w.heap.size, 1, none⟩ = some (.complex .f64 0 0) := hB9.cell 1
        have z2 : w9.cell? ⟨w.heap.size, 2, none⟩ = some (.bool false) := hB9.cell 2
        have z3 : w9.cell? ⟨w.heap.size, 3, none⟩ = some (.slice ao zs.length c) := hB9.cell 3
        go_wp2
        have hO2 := owns_oth hR5.o hR5.r (by decide) hO9
        rw [← List.length_map (f := wz)] at hO2
        exact bodyPost_ret (v := .tuple #[.agg #[.int .i64 3, .complex .f64 0 0, .bool false, .slice ao zs.length c], .int .i64 0]) (by simp [results, Tryz.results17, go_sem, z0, z1, z2, z3]) rfl ⟨PA_list hok.out hO2 (Nat.le_refl _) hzl2, hR5.bel.trans (hO9.below (Nat.le_refl _))⟩
      · rw [if_neg hq] at hb
        subst hb
        rw [decide_eq_false hq] at hcmp
        generalize bs (txV (.l zs)) = st at *
        clear hq
        go_wp2_with (refine wpList_storeN rfl 35 (.tmp 2) (.tmp 86) rfl w.heap.size 0 [.int .i64 0, .complex .f64 0 0, .bool false, .slice none 0 0] rfl rfl hR5.r (Nat.le_refl 4) Tryz.infoV (one4 _ _ _ _ _ _ _) ?_; intro w9 hB9 hO9)
        have z0 : w9.cell? ⟨w.heap.size, 0, none⟩ = some (.int .i64 0) := hB9.cell 0
        have z1 : w9.cell? ⟨w.heap.size, 1, none⟩ = some (.complex .f64 0 0) := hB9.cell 1
        have z2 : w9.cell? ⟨w.heap.size, 2, none⟩ = some (.bool false) := hB9.cell 2
        have z3 : w9.cell? ⟨w.heap.size, 3, none⟩ = some (.slice none 0 0) := hB9.cell 3
        go_wp2
        exact bodyPost_ret (v := .tuple #[.agg #[.int .i64 0, .complex .f64 0 0, .bool false, .slice none 0 0], .int .i64 11]) (by simp [results, Tryz.results17, go_sem, z0, z1, z2, z3]) rfl ⟨PA_none _ _, hR5.bel.trans (hO9.below (Nat.le_refl _))⟩
end Go.Proofs.YtbgggbkmnfppoaaGreatDoor
