/-
  The walk of ScopeKeep.
-/
import Derived.Test.YtmfejllhlbnigaaGreatDoorUkg
import Derived.Test.YtmfejllhlbnigaaGreatDoorI9
namespace Go.Proofs.YtmfejllhlbnigaaGreatDoor
open Go.RowKit Go.Maps
set_option maxRecDepth 100000

/-- One of the call's own rows of names, which is not empty. -/
theorem OwN.place {w : World} {B : Nat} {v : Value} {xs : List (List UInt8)} (h : OwN w B v xs) (hn : 0 < xs.length) : ∃ g c, v = .slice (some ⟨g, 0, none⟩) xs.length c ∧ B ≤ g ∧ g < w.heap.size := by
  obtain ⟨g, c, e, h1, h2, _⟩ := h.set hn []
  exact ⟨g, c, e, h1, h2⟩
theorem OwN.but {S : Nat → Prop} {w w' : World} {B : Nat} {v : Value} {xs : List (List UInt8)} (h : OwN w B v xs) (hu : ButS S w w') (hn : ∀ g, v.ownBlock = some g → ¬ S g) : OwN w' B v xs :=
  owns_keep h fun b hk => hu.block b (owns_has h b hk).2 (hn b hk)
theorem OwN.ns {w : World} {B : Nat} {ao : Option Addr} {n c : Nat} {xs : List (List UInt8)} (h : OwN w B (.slice ao n c) xs) : Ns w ao xs := by
  obtain ⟨a, c', e, hN, _⟩ := h.names
  cases e
  exact hN

set_option maxHeartbeats 16000000 in
theorem scopeKeep_any (ao : Option Addr) (cap : Nat) (l : List UInt8) (hcap : l.length ≤ cap) (at_ : Option Addr) (ct : Nat) (tk : List (List UInt8)) (hn : at_ = none → ct = 0) (hl : tk.length ≤ 8796093021952) (hs : ∀ s ∈ tk, s.length ≤ maxLen) (w : World) (hT : Bd w ao l) (hK : Ns w at_ tk) (ht : Tab w) :
    Calls Tryz.prog 8 #[.slice ao l.length cap, .slice at_ tk.length ct] w fun e w' => e = .returned (.bool true) ∧ Below w.heap.size w w' := by
  obtain ⟨F, hF⟩ : ∃ F, F = 12 * (l.length + 1) + 9 := ⟨_, rfl⟩
  have hfu : ∀ ms, cut rdN l 0 = .ok ms → progL (mf ms) LW5 F [] 0 ≠ .out := fuel_ok l LW5 F (by omega)
  have HF : Hid (F = 12 * (l.length + 1) + 9) := hF
  have HN0 : Hid (at_ = none → ct = 0) := hn
  have HS : Hid (∀ s ∈ tk, s.length ≤ maxLen) := hs
  have HK : Hid (Ns w at_ tk) := hK
  clear hF hn hs hK
  go_enter Tryz.func8, Tryz.ntmps8
  go_wp2_with fail
  refine (awake6_any w ht).mono ?_
  rintro e w1 ⟨rfl, hb1⟩
  have m2 := read5_any ao cap l hcap w1 (hT.up hb1) F hfu
  go_wp2_with fail
  refine m2.mono ?_
  rintro e w2 ⟨hb2, hrd⟩
  have hB2 := Below.thn hb1 hb2
  clear m2 hb1 hb2
  rcases rd_fork hrd with ⟨ms, gs, j, a2, c2, hl2, hc, hp, rfl, hfl⟩ | rfl
  · have HOK : Hid (PrgOk gs) := prgOk hl2 (by rw [HF.out]; exact Nat.le_refl _) hc hp
    have HLN : Hid (∀ g ∈ gs, lnF g) := prgLn hl2 hc hp
    have HNE : Hid (∀ g ∈ gs, WfF (fun s => s ≠ []) (fun _ _ => True) g) := prgNe hc hp
    have HRD : Hid (l.length ≤ 32768 ∧ cut rdN l 0 = .ok ms ∧ progL (mf ms) LW5 F [] 0 = .ok gs j) := ⟨hl2, hc, hp⟩
    have hb3 := below_alloc w2 (.cells #[.slice a2 gs.length c2] 26)
    have hP3 := Bk.new w2 26 #[.slice a2 gs.length c2]
    have hB3 := Below.thn hB2 hb3
    have hf3 := hfl.up hb3
    have hgp : 0 < gs.length := List.length_pos_iff.2 HOK.out.ne
    clear hp hc hrd hfl hl2
    go_upto_region 4 with fail
    generalize hW3 : w2.alloc (.cells #[.slice a2 gs.length c2] 26) = W3 at *
    obtain ⟨bp, hbp⟩ : ∃ bp, bp = w2.heap.size := ⟨_, rfl⟩
    rw [← hbp] at hP3 ⊢
    clear hW3 hb3 hB2 hbp
    have m4 := read5_any ao cap l hcap W3 (hT.up hB3) F hfu
    go_wp2_with fail
    refine m4.mono ?_
    rintro e w4 ⟨hb4, hrd⟩
    obtain ⟨a4, c4, rfl, hfl⟩ := rd_again hrd HRD.out.1 HRD.out.2.1 HRD.out.2.2
    have hb5 := below_alloc w4 (.cells #[.slice a4 gs.length c4] 26)
    have hQ5 := Bk.new w4 26 #[.slice a4 gs.length c4]
    have hb45 := Below.thn hb4 hb5
    have hB5 := Below.thn hB3 hb45
    have hP5 := hP3.up hb45
    have hf5 := hf3.up hb45
    have hq5 := hfl.up hb5
    clear m4 hrd hfl hb4 hB3 hP3 hf3 hfu hcap hT
    go_upto_region 5 with fail
    generalize hW5 : w4.alloc (.cells #[.slice a4 gs.length c4] 26) = W5 at *
    obtain ⟨bq, hbq⟩ : ∃ bq, bq = w4.heap.size := ⟨_, rfl⟩
    rw [← hbq] at hQ5 ⊢
    clear hW5 hb5 hb45 hbq
    have ht5 := tab_keep ht hB5
    have hK5 := HK.out.up hB5
    have hb6 := below_alloc W5 (.cells #[] 9)
    have hO6 : OwN (W5.alloc (.cells #[] 9)) W5.heap.size (.slice (some ⟨W5.heap.size, 0, none⟩) 0 0) [] := ⟨rfl, .inr ⟨W5.heap.size, 0, #[], rfl, Nat.le_refl _, Bk.new W5 9 #[], Nat.le_refl _, by unfold maxLen; omega, rfl, rfl⟩⟩
    obtain ⟨v7, w7, R7, hO7, hb7⟩ := own_names (W5.alloc (.cells #[] 9)) W5.heap.size _ [] hO6 (by have := hb6.size; omega) at_ ct tk (hK5.up hb6) HN0.out (fun e => by subst e; exact hK5.none) (by simp only [List.length_nil]; omega)
    rw [List.nil_append] at hO7
    have hB7 := hb6.trans hb7
    have hb8 := below_alloc w7 (.cells #[.string (bs [116, 49]), .string (bs [116, 55])] 9)
    obtain ⟨v9, w9, R9, hO9, hb9⟩ := own_names (w7.alloc (.cells #[.string (bs [116, 49]), .string (bs [116, 55])] 9)) W5.heap.size v7 tk (hO7.upp hb8) (by have := hB7.size; have := hb8.size; omega) (some ⟨w7.heap.size, 0, none⟩) 2 [[116, 49], [116, 55]] (ns_two (Bk.new w7 9 #[.string (bs [116, 49]), .string (bs [116, 55])])) (fun e => by cases e) (fun e => by cases e) (by simp only [List.length_cons, List.length_nil]; omega)
    obtain ⟨g9, c9, e9, hg9, hg9w⟩ := hO9.place (by simp)
    have hcp9 := hO9.cap _ _ e9
    have hfl9 : (tk ++ [[116, 49], [116, 55]]).length = tk.length + 2 := by simp
    rw [hfl9] at e9 hcp9
    subst e9
    have hB9 : Below W5.heap.size W5 w9 := (hB7.trans (hb8.mono hB7.size)).trans hb9
    clear hO6 hO7 hb6 hb7 hb8 hb9 hK5
    go_upto_region 8 with (first
      | (at_builtin; refine wpList_append_run rfl (.tmp 38) (.tmp 39) 35 rfl rfl _ _ rfl rfl _ _ (show _ = _ from R7) ?_)
      | (at_builtin; refine wpList_append_run rfl (.tmp 40) (.tmp 41) 35 rfl rfl _ _ rfl rfl _ _ (show _ = _ from R9) ?_))
    have hBw9 : Hid (Below w.heap.size w w9) := Below.thn hB5 hB9
    have hP9 := hP5.up hB9
    have hQ9 := hQ5.up hB9
    have hf9 := hf5.up hB9
    have hq9 := hq5.up hB9
    have ht9 := tab_keep ht5 hB9
    have hK9 : Hid (∀ W, Below w9.heap.size w9 W → Ns W at_ tk) := fun W hW => HK.out.up (Below.thn hBw9.out hW)
    have hN9 : Ns w9 (some ⟨g9, 0, none⟩) tk := by
      have := (OwN.ns (n := tk.length + 2) (c := c9) (by simpa using hO9)).take tk.length
      rwa [List.take_left] at this
    have HB9 : Hid (Below W5.heap.size W5 w9) := hB9
    clear R7 R9 hB9 hP5 hQ5 hf5 hq5 ht5 hB5
    have hf := fresh6_any (cap := c9) tk hN9 (fun g off e => by cases e; exact hg9w) HS.out (by omega) ht9 5 (by decide)
    have hcp : (tk.length : Int) ≤ (c9 : Int) := by omega
    go_wp2_with fail
    refine hf.mono ?_
    rintro e wa ⟨⟨va, ja, rfl, hja, hOa⟩, hba⟩
    obtain ⟨ga, ca, rfl, hga, hgaw⟩ := hOa.place (by omega)
    have hf2 := fresh6_any (cap := c9) tk (hN9.up hba) (fun g off e => by cases e; have := hba.size; omega) HS.out (by omega) (tab_keep ht9 hba) 5 (by decide)
    rw [hja]
    clear hf
    go_wp2_with fail
    refine hf2.mono ?_
    rintro e wb ⟨⟨vb, jb, rfl, hjb, hOb⟩, hbb⟩
    obtain ⟨gb, cb, rfl, hgb, hgbw⟩ := hOb.place (by omega)
    have hjj : frN tk jb = frN tk ja := frN_one (hjb.trans hja.symm)
    rw [hjj] at hOb ⊢
    rw [hja] at hOb hOa ⊢
    obtain ⟨FR, hFR⟩ : ∃ FR, FR = frN tk ja := ⟨_, rfl⟩
    have HFR : Hid (FR = frN tk ja) := hFR
    rw [← hFR] at hOa hOb hja
    have hZb := Below.thn hba hbb
    have hab := hbb.size
    have hOab := hOa.upp hbb
    have hga9 : w9.heap.size ≤ ga ∧ ga < wa.heap.size ∧ wa.heap.size ≤ gb := ⟨hga, hgaw, hgb⟩
    have hfr5 : Hid (FR.length = 5) := hja
    clear hf2 hja hjb hjj hFR hba hbb hOa hga hgaw hgb
    obtain ⟨g, hg⟩ : ∃ g, g = gs.getD 0 fd := ⟨_, rfl⟩
    have hmem : g ∈ gs := by rw [hg, List.getD_eq_getElem?_getD, List.getElem?_eq_getElem hgp]; exact List.getElem_mem hgp
    have hsz : szE g.body ≤ 65536 := by have := HOK.out.sz _ hmem; omega
    have hps : g.pms.length ≤ 65536 := by have := HOK.out.pms _ hmem; omega
    have hgl : gs.length ≤ 32769 := HOK.out.num
    have HLF : Hid (lnF g) := HLN.out _ hmem
    have HNG : Hid (WfF (fun s => s ≠ []) (fun _ _ => True) g) := HNE.out _ hmem
    obtain ⟨G, vsG, rfl, _, hvG, hxG⟩ := hf9.at 0 hgp
    rw [← hg] at hxG
    obtain ⟨ap, cp, esG, hvsG, hpG, hbG⟩ := id hxG
    obtain ⟨x0, x1, x2, x3, x4, x5, x6, rfl⟩ := list7 hbG.len
    simp only [List.cons_append, List.nil_append] at hvsG
    subst hvsG
    have HCG : Hid (∀ W, Below w9.heap.size w9 W → W.cell? ⟨bp, 0, none⟩ = some (.slice (some ⟨G, 0, none⟩) gs.length c2) ∧ W.cell? ⟨G, 0, none⟩ = some (.string (bs g.name)) ∧ W.cell? ⟨G, 1, none⟩ = some (.slice ap g.pms.length cp) ∧ W.cell? ⟨G, 2, none⟩ = some (.int .i64 g.ty) ∧ W.cell? ⟨G, 3, none⟩ = some x0 ∧ W.cell? ⟨G, 4, none⟩ = some x1 ∧ W.cell? ⟨G, 5, none⟩ = some x2 ∧ W.cell? ⟨G, 6, none⟩ = some x3 ∧ W.cell? ⟨G, 7, none⟩ = some x4 ∧ W.cell? ⟨G, 8, none⟩ = some x5 ∧ W.cell? ⟨G, 9, none⟩ = some x6 ∧ W.cell? ⟨G, 10, none⟩ = some (.int .i64 g.pos)) := fun W hW => by
      have k : ∀ j v, ([.string (bs g.name), .slice ap g.pms.length cp, .int .i64 g.ty, x0, x1, x2, x3, x4, x5, x6, .int .i64 g.pos] : List Value)[j]? = some v → W.cell? ⟨G, j, none⟩ = some v := fun j v hj => by
        have h := hvG j v hj
        rw [Nat.zero_mul, Nat.zero_add] at h
        exact (hW.cell (cell_lt h)).trans h
      exact ⟨(hP9.up hW).cell 0, k 0 _ rfl, k 1 _ rfl, k 2 _ rfl, k 3 _ rfl, k 4 _ rfl, k 5 _ rfl, k 6 _ rfl, k 7 _ rfl, k 8 _ rfl, k 9 _ rfl, k 10 _ rfl⟩
    obtain ⟨AG, hAG⟩ : ∃ A, FnW w9 A g [.string (bs g.name), .slice ap g.pms.length cp, .int .i64 g.ty, x0, x1, x2, x3, x4, x5, x6, .int .i64 g.pos] := ⟨_, hxG⟩
    have HFG : Hid (∀ W, Below w9.heap.size w9 W → ∃ A, (∀ k, A k → k < W.heap.size) ∧ FnW W A g [.string (bs g.name), .slice ap g.pms.length cp, .int .i64 g.ty, x0, x1, x2, x3, x4, x5, x6, .int .i64 g.pos]) := fun W hW => ⟨fun b => AG b ∧ b < W.heap.size, fun _ h => h.2, (FnW.up hAG hW).imp fun b h hl => ⟨h, hl⟩⟩
    have HXG : Hid (∀ W, Below w9.heap.size w9 W → ExW W (fun b => b < W.heap.size) g.body [x0, x1, x2, x3, x4, x5, x6]) := fun W hW => (hbG.up hW).imp fun b _ hl => hl
    have HLG : Hid (FlW w9 _ (some ⟨G, 0, none⟩) gs) := hf9
    clear hvG hxG hpG hbG hAG
    obtain ⟨H, vsH, rfl, _, hvH, hxH⟩ := hq9.at 0 hgp
    rw [← hg] at hxH
    obtain ⟨aq, cq, esH, hvsH, hpH, hbH⟩ := id hxH
    obtain ⟨y0, y1, y2, y3, y4, y5, y6, rfl⟩ := list7 hbH.len
    simp only [List.cons_append, List.nil_append] at hvsH
    subst hvsH
    have HCH : Hid (∀ W, Below w9.heap.size w9 W → W.cell? ⟨bq, 0, none⟩ = some (.slice (some ⟨H, 0, none⟩) gs.length c4) ∧ W.cell? ⟨H, 0, none⟩ = some (.string (bs g.name)) ∧ W.cell? ⟨H, 1, none⟩ = some (.slice aq g.pms.length cq) ∧ W.cell? ⟨H, 2, none⟩ = some (.int .i64 g.ty) ∧ W.cell? ⟨H, 3, none⟩ = some y0 ∧ W.cell? ⟨H, 4, none⟩ = some y1 ∧ W.cell? ⟨H, 5, none⟩ = some y2 ∧ W.cell? ⟨H, 6, none⟩ = some y3 ∧ W.cell? ⟨H, 7, none⟩ = some y4 ∧ W.cell? ⟨H, 8, none⟩ = some y5 ∧ W.cell? ⟨H, 9, none⟩ = some y6 ∧ W.cell? ⟨H, 10, none⟩ = some (.int .i64 g.pos)) := fun W hW => by
      have k : ∀ j v, ([.string (bs g.name), .slice aq g.pms.length cq, .int .i64 g.ty, y0, y1, y2, y3, y4, y5, y6, .int .i64 g.pos] : List Value)[j]? = some v → W.cell? ⟨H, j, none⟩ = some v := fun j v hj => by
        have h := hvH j v hj
        rw [Nat.zero_mul, Nat.zero_add] at h
        exact (hW.cell (cell_lt h)).trans h
      exact ⟨(hQ9.up hW).cell 0, k 0 _ rfl, k 1 _ rfl, k 2 _ rfl, k 3 _ rfl, k 4 _ rfl, k 5 _ rfl, k 6 _ rfl, k 7 _ rfl, k 8 _ rfl, k 9 _ rfl, k 10 _ rfl⟩
    obtain ⟨AH, hAH⟩ : ∃ A, FnW w9 A g [.string (bs g.name), .slice aq g.pms.length cq, .int .i64 g.ty, y0, y1, y2, y3, y4, y5, y6, .int .i64 g.pos] := ⟨_, hxH⟩
    have HFH : Hid (∀ W, Below w9.heap.size w9 W → ∃ A, (∀ k, A k → k < W.heap.size) ∧ FnW W A g [.string (bs g.name), .slice aq g.pms.length cq, .int .i64 g.ty, y0, y1, y2, y3, y4, y5, y6, .int .i64 g.pos]) := fun W hW => ⟨fun b => AH b ∧ b < W.heap.size, fun _ h => h.2, (FnW.up hAH hW).imp fun b h hl => ⟨h, hl⟩⟩
    have HXH : Hid (∀ W, Below w9.heap.size w9 W → ExW W (fun b => b < W.heap.size) g.body [y0, y1, y2, y3, y4, y5, y6]) := fun W hW => (hbH.up hW).imp fun b _ hl => hl
    have HLH : Hid (FlW w9 _ (some ⟨H, 0, none⟩) gs) := hq9
    clear hvH hxH hpH hbH hAH
    clear hg hmem hf9 hq9 hP9 hQ9
    go_upto_region 12 with fail
    go_loopw [15] (fun v wr => ∃ (k : Nat) (xs : List (List UInt8)), k ≤ 5 ∧ v = .int .i64 k ∧ xs.length = 5 ∧ OwN wr w9.heap.size (.slice (some ⟨ga, 0, none⟩) 5 ca) xs ∧ ButS (· = ga) wb wr) (fun v _ => 5 - (intOf v).toNat)
    case atStart => exact ⟨0, FR, by omega, rfl, hfr5.out, hOab, .refl _ _⟩
    case round =>
      obtain ⟨k, xs, hk5, rfl, hxl, hOk, hUk⟩ := hrel
      by_cases hlt : k < 5
      · obtain ⟨f1, f2, f3, f4⟩ := OwN.put hOk (j := k) (by omega) [119, 114, 105, 116, 116, 101, 110, 32, 111, 118, 101, 114]
        have hUe : ButS (· = ga) wb (wr.setCell ⟨ga, k, none⟩ (.string (bs [119, 114, 105, 116, 116, 101, 110, 32, 111, 118, 101, 114]))) := hUk.trans (ButS.oth ((Oth.refl ga wr).set k _))
        have HE : Hid (OwN (wr.setCell ⟨ga, k, none⟩ (.string (bs [119, 114, 105, 116, 116, 101, 110, 32, 111, 118, 101, 114]))) w9.heap.size (.slice (some ⟨ga, 0, none⟩) 5 ca) (xs.set k [119, 114, 105, 116, 116, 101, 110, 32, 111, 118, 101, 114]) ∧ ButS (· = ga) wb (wr.setCell ⟨ga, k, none⟩ (.string (bs [119, 114, 105, 116, 116, 101, 110, 32, 111, 118, 101, 114])))) := ⟨f3, hUe⟩
        have hxl' : (xs.set k [119, 114, 105, 116, 116, 101, 110, 32, 111, 118, 101, 114]).length = 5 := by rw [List.length_set]; exact hxl
        have HXL : Hid ((xs.set k [119, 114, 105, 116, 116, 101, 110, 32, 111, 118, 101, 114]).length = 5) := hxl'
        clear f3 f4 hUe hxl hxl'
        go_wp2_with fail
        go_roundw
        case rel => exact ⟨k + 1, _, by omega, by go_num, HXL.out, HE.out.1, HE.out.2⟩
        case measure => simp [intOf]; omega
      · have hke : k = 5 := by omega
        subst hke
        have hZc : Below w9.heap.size w9 wr := ⟨hUk.os.trans hZb.os, hUk.tape.trans hZb.tape, hUk.output.trans hZb.output, Nat.le_trans hZb.size hUk.size, fun q hq => (hUk.block q (by have := hZb.size; omega) (by omega)).trans (hZb.block q hq)⟩
        have hOb2 := hOb.but hUk (fun q hq e => by cases hq; have e2 : gb = ga := e; omega)
        clear hOk hxl hUk hOb hOab hZb
        obtain ⟨wo, rfl⟩ : ∃ wo, wo = wr := ⟨_, rfl⟩
        obtain ⟨q0, q1, q2, q3, q4, q5, q6, q7, q8, q9, q10, q11⟩ := HCG.out wo hZc
        have m1 := free6_any hsz HLF.out.body wo _ _ (HXG.out wo hZc)
        go_wp2_with fail
        refine m1.mono ?_
        rintro e wd ⟨⟨vc, oc, rfl, hIc, hOc⟩, hbd⟩
        have hZd := Below.thn hZc hbd
        have m2 := free6_any hsz HLF.out.body wd _ _ (HXG.out wd hZd)
        clear m1 q0 q1 q2 q3 q4 q5 q6 q7 q8 q9 q10 q11
        obtain ⟨q0, q1, q2, q3, q4, q5, q6, q7, q8, q9, q10, q11⟩ := HCG.out wd hZd
        go_wp2_with fail
        refine m2.mono ?_
        rintro e we ⟨⟨vd, od, rfl, hId, hOd⟩, hbe⟩
        have hZe := Below.thn hZd hbe
        obtain ⟨A1, hA1, hf1⟩ := HFG.out we hZe
        have m3 := names6_any hf1 hA1 HLF.out hsz hps
        clear m2 q0 q1 q2 q3 q4 q5 q6 q7 q8 q9 q10 q11 hf1 hA1
        obtain ⟨q0, q1, q2, q3, q4, q5, q6, q7, q8, q9, q10, q11⟩ := HCG.out we hZe
        go_wp2_with fail
        refine m3.mono ?_
        rintro e wf ⟨⟨ve, oe, rfl, hIe, hOe⟩, hbf⟩
        have hZf := Below.thn hZe hbf
        obtain ⟨A1, hA1, hf1⟩ := HFG.out wf hZf
        have m4 := names6_any hf1 hA1 HLF.out hsz hps
        clear m3 q0 q1 q2 q3 q4 q5 q6 q7 q8 q9 q10 q11 hf1 hA1
        obtain ⟨q0, q1, q2, q3, q4, q5, q6, q7, q8, q9, q10, q11⟩ := HCG.out wf hZf
        go_wp2_with fail
        refine m4.mono ?_
        rintro e wg ⟨⟨vf, of_, rfl, hIf, hOf⟩, hbg⟩
        have hZg := Below.thn hZf hbg
        have hce := Below.thn (Below.thn hbe hbf) hbg
        have hOc2 := hOc.upp hce
        have hOd2 := hOd.upp (Below.thn hbf hbg)
        have hOe2 := hOe.upp hbg
        have hOb3 := hOb2.upp (Below.thn hbd hce)
        have hcl := srt_len hIc
        have hel := srt_len hIe
        have hfl0 := fsY_len (snE [] g.body)
        have hsl0 := snE_len [] g.body
        have hnl0 := adE_len g.body
        rw [frE_fsE] at hcl
        unfold fsE at hcl
        unfold nmA nmsP at hel
        rw [List.length_append, List.length_append, List.length_map, List.length_singleton] at hel
        have hocl : oc.length ≤ 65536 := by omega
        have hoel : oe.length ≤ 1000000 := by omega
        have HID : Hid (IsSrt (frE g.body) od) := hId
        have HIF : Hid (IsSrt (nmA g) of_) := hIf
        have hodl : od.length ≤ 65536 := by have := srt_len hId; rw [frE_fsE] at this; unfold fsE at this; omega
        have hofl : of_.length ≤ 1000000 := by
          have := srt_len hIf
          unfold nmA nmsP at this
          rw [List.length_append, List.length_append, List.length_map, List.length_singleton] at this
          omega
        obtain ⟨ac, cc, rfl, hNc, _, hac⟩ := hOc2.names
        obtain ⟨ad, cd, rfl, hNd, _, had⟩ := hOd2.names
        obtain ⟨ae, ce, rfl, hNe, _, hae⟩ := hOe2.names
        obtain ⟨af, cf, rfl, hNf, _, haf⟩ := hOf.names
        have hltc := fun q hq => (owns_has hOc2 q hq).2
        have hltd := fun q hq => (owns_has hOd2 q hq).2
        have hlte := fun q hq => (owns_has hOe2 q hq).2
        have hcd : wd.heap.size ≤ we.heap.size ∧ we.heap.size ≤ wf.heap.size ∧ wf.heap.size ≤ wg.heap.size ∧ wo.heap.size ≤ wd.heap.size ∧ w9.heap.size ≤ wo.heap.size := ⟨hbe.size, hbf.size, hbg.size, hbd.size, hZc.size⟩
        have hgbr : gb < wo.heap.size := (owns_has hOb2 gb rfl).2
        have hc1 : ∀ q, (Value.slice ac oc.length cc).ownBlock = some q → wo.heap.size ≤ q ∧ q < wd.heap.size := fun q hq => ⟨(owns_has hOc q hq).1, (owns_has hOc q hq).2⟩
        have hd1 : ∀ q, (Value.slice ad od.length cd).ownBlock = some q → wd.heap.size ≤ q ∧ q < we.heap.size := fun q hq => ⟨(owns_has hOd q hq).1, (owns_has hOd q hq).2⟩
        have he1 : ∀ q, (Value.slice ae oe.length ce).ownBlock = some q → we.heap.size ≤ q ∧ q < wf.heap.size := fun q hq => ⟨(owns_has hOe q hq).1, (owns_has hOe q hq).2⟩
        have hf1 : ∀ q, (Value.slice af of_.length cf).ownBlock = some q → wf.heap.size ≤ q ∧ q < wg.heap.size := fun q hq => ⟨(owns_has hOf q hq).1, (owns_has hOf q hq).2⟩
        clear m4 q0 q1 q2 q3 q4 q5 q6 q7 q8 q9 q10 q11 hIc hId hIe hIf hOc hOd hOe hbd hbe hbf hbg hce hcl hel hNc hNd hNe hNf hac had hae haf hltc hltd hlte hOb2 hZd hZe hZf
        go_upto_region 20 with fail
        go_loopw [20] (fun v wr => ∃ (k : Nat) (xs : List (List UInt8)), k ≤ oc.length ∧ v = .int .i64 k ∧ xs.length = oc.length ∧ OwN wr wo.heap.size (.slice ac oc.length cc) xs ∧ ButS (fun q => (Value.slice ac oc.length cc).ownBlock = some q) wg wr) (fun v _ => oc.length - (intOf v).toNat)
        case atStart => exact ⟨0, oc, Nat.zero_le _, rfl, rfl, hOc2, .refl _ _⟩
        case round =>
          obtain ⟨k, xs, hk5, rfl, hxl, hOk, hUk⟩ := hrel
          by_cases hlt : k < oc.length
          · obtain ⟨gx, rfl⟩ : ∃ gx, ac = some ⟨gx, 0, none⟩ := by
              obtain ⟨gx, cx, ex, _⟩ := OwN.set hOk (j := k) (by omega) []
              injection ex with e1
              exact ⟨gx, e1⟩
            obtain ⟨f1, f2, f3, f4⟩ := OwN.put hOk (j := k) (by omega) [119, 114, 105, 116, 116, 101, 110, 32, 111, 118, 101, 114]
            have hUe := hUk.trans ((ButS.oth ((Oth.refl gx wr).set k (.string (bs [119, 114, 105, 116, 116, 101, 110, 32, 111, 118, 101, 114])))).mono fun q hq => (by show (Value.slice (some ⟨gx, 0, none⟩) oc.length cc).ownBlock = some q; rw [hq]; rfl : (Value.slice (some ⟨gx, 0, none⟩) oc.length cc).ownBlock = some q))
            have HE : Hid (OwN (wr.setCell ⟨gx, k, none⟩ (.string (bs [119, 114, 105, 116, 116, 101, 110, 32, 111, 118, 101, 114]))) wo.heap.size (.slice (some ⟨gx, 0, none⟩) oc.length cc) (xs.set k [119, 114, 105, 116, 116, 101, 110, 32, 111, 118, 101, 114]) ∧ ButS (fun q => (Value.slice (some ⟨gx, 0, none⟩) oc.length cc).ownBlock = some q) wg (wr.setCell ⟨gx, k, none⟩ (.string (bs [119, 114, 105, 116, 116, 101, 110, 32, 111, 118, 101, 114])))) := ⟨f3, hUe⟩
            have HXL : Hid ((xs.set k [119, 114, 105, 116, 116, 101, 110, 32, 111, 118, 101, 114]).length = oc.length) := by show _ = _; rw [List.length_set]; exact hxl
            clear f3 f4 hUe hxl
            go_wp2_with fail
            go_roundw
            case rel => exact ⟨k + 1, _, by omega, by go_num, HXL.out, HE.out.1, HE.out.2⟩
            case measure => simp [intOf]; omega
          · have hke : k = oc.length := by omega
            subst hke
            obtain ⟨wh, rfl⟩ : ∃ wh, wh = wr := ⟨_, rfl⟩
            have hZh : Below w9.heap.size w9 wh := hZg.trans (hUk.toBelow (by have := hZg.size; omega) (fun q hq => by have := hc1 q hq; omega))
            have hOb4 := hOb3.but hUk (fun q hq e => by have e2 : gb = q := Option.some.inj hq; have h1 := hc1 q e; omega)
            have hOd3 := hOd2.but hUk (fun q hq e => by have h1 := hc1 q e; have h2 := hd1 q hq; omega)
            have hOe3 := hOe2.but hUk (fun q hq e => by have h1 := hc1 q e; have h2 := he1 q hq; omega)
            have hOf3 := hOf.but hUk (fun q hq e => by have h1 := hc1 q e; have h2 := hf1 q hq; omega)
            clear hOk hxl hUk hOb3 hOd2 hOe2 hOf hZg hOc2
            go_upto_region 24 with fail
            go_loopw [21] (fun v wr => ∃ (k : Nat) (xs : List (List UInt8)), k ≤ oe.length ∧ v = .int .i64 k ∧ xs.length = oe.length ∧ OwN wr we.heap.size (.slice ae oe.length ce) xs ∧ ButS (fun q => (Value.slice ae oe.length ce).ownBlock = some q) wh wr) (fun v _ => oe.length - (intOf v).toNat)
            case atStart => exact ⟨0, oe, Nat.zero_le _, rfl, rfl, hOe3, .refl _ _⟩
            case round =>
              obtain ⟨k, xs, hk5, rfl, hxl, hOk, hUk⟩ := hrel
              by_cases hlt : k < oe.length
              · obtain ⟨gx, rfl⟩ : ∃ gx, ae = some ⟨gx, 0, none⟩ := by
                  obtain ⟨gx, cx, ex, _⟩ := OwN.set hOk (j := k) (by omega) []
                  injection ex with e1
                  exact ⟨gx, e1⟩
                obtain ⟨f1, f2, f3, f4⟩ := OwN.put hOk (j := k) (by omega) [119, 114, 105, 116, 116, 101, 110, 32, 111, 118, 101, 114]
                have hUe := hUk.trans ((ButS.oth ((Oth.refl gx wr).set k (.string (bs [119, 114, 105, 116, 116, 101, 110, 32, 111, 118, 101, 114])))).mono fun q hq => (by show (Value.slice (some ⟨gx, 0, none⟩) oe.length ce).ownBlock = some q; rw [hq]; rfl : (Value.slice (some ⟨gx, 0, none⟩) oe.length ce).ownBlock = some q))
                have HE : Hid (OwN (wr.setCell ⟨gx, k, none⟩ (.string (bs [119, 114, 105, 116, 116, 101, 110, 32, 111, 118, 101, 114]))) we.heap.size (.slice (some ⟨gx, 0, none⟩) oe.length ce) (xs.set k [119, 114, 105, 116, 116, 101, 110, 32, 111, 118, 101, 114]) ∧ ButS (fun q => (Value.slice (some ⟨gx, 0, none⟩) oe.length ce).ownBlock = some q) wh (wr.setCell ⟨gx, k, none⟩ (.string (bs [119, 114, 105, 116, 116, 101, 110, 32, 111, 118, 101, 114])))) := ⟨f3, hUe⟩
                have HXL : Hid ((xs.set k [119, 114, 105, 116, 116, 101, 110, 32, 111, 118, 101, 114]).length = oe.length) := by show _ = _; rw [List.length_set]; exact hxl
                clear f3 f4 hUe hxl
                go_wp2_with fail
                go_roundw
                case rel => exact ⟨k + 1, _, by omega, by go_num, HXL.out, HE.out.1, HE.out.2⟩
                case measure => simp [intOf]; omega
              · have hke : k = oe.length := by omega
                subst hke
                obtain ⟨wi, rfl⟩ : ∃ wi, wi = wr := ⟨_, rfl⟩
                have hZi : Below w9.heap.size w9 wi := hZh.trans (hUk.toBelow (by have := hZh.size; omega) (fun q hq => by have := he1 q hq; omega))
                have hOb5 := hOb4.but hUk (fun q hq e => by have e2 : gb = q := Option.some.inj hq; have h1 := he1 q e; omega)
                have hOd4 := hOd3.but hUk (fun q hq e => by have h1 := he1 q e; have h2 := hd1 q hq; omega)
                have hOf4 := hOf3.but hUk (fun q hq e => by have h1 := he1 q e; have h2 := hf1 q hq; omega)
                clear hOk hxl hUk hOb4 hOd3 hOf3 hZh
                have HOB : Hid (OwN wi wa.heap.size (.slice (some ⟨gb, 0, none⟩) 5 cb) FR) := hOb5
                have HOD : Hid (OwN wi wd.heap.size (.slice ad od.length cd) od) := hOd4
                have HOF : Hid (OwN wi wf.heap.size (.slice af of_.length cf) of_) := hOf4
                have HO9 : Hid (OwN w9 W5.heap.size (.slice (some ⟨g9, 0, none⟩) (tk.length + 2) c9) (tk ++ [[116, 49], [116, 55]])) := hO9
                have HN9 : Hid (Ns w9 (some ⟨g9, 0, none⟩) tk) := hN9
                have hr := rfresh_any (cap := ct) tk (hK9.out wi hZi) (by omega) 5 (by decide)
                clear hOb5 hOd4 hOf4 hO9 hN9 hc1 hd1 he1 hf1
                go_wp2_with fail
                refine hr.mono ?_
                rintro e wj ⟨⟨vj, jj, rfl, hjj, hOj⟩, hbj⟩
                rw [frN_one (hjj.trans (by rw [← HFR.out]; exact hfr5.out.symm) : (frN tk jj).length = (frN tk ja).length), ← HFR.out] at hOj
                obtain ⟨aj, cj, rfl, hNj, _, _⟩ := hOj.names
                rw [hfr5.out]
                have hZj := Below.thn hZi hbj
                have m1 := check6_ok (c := c2) HOK.out HLN.out (HLG.out.up hZj)
                obtain ⟨q0, q1, q2, q3, q4, q5, q6, q7, q8, q9, q10, q11⟩ := HCG.out wj hZj
                clear hr hjj hOj
                go_wp2_with fail
                refine m1.mono ?_
                rintro e wk ⟨rfl, hbk⟩
                have hZk := Below.thn hZj hbk
                have m2 := same6_any (c1 := c9) (c2 := ct) (HN9.out.up hZk) (hK9.out wk hZk) (by omega)
                rw [decide_eq_true rfl] at m2
                clear m1 q0 q1 q2 q3 q4 q5 q6 q7 q8 q9 q10 q11
                go_wp2_with fail
                refine m2.mono ?_
                rintro e wl ⟨rfl, hbl⟩
                have hZl := Below.thn hZk hbl
                have hYl := Below.thn (Below.thn hbj hbk) hbl
                have hNl := hNj.up (Below.thn hbk hbl)
                have hc1 : wl.cell? ⟨g9, tk.length, none⟩ = some (.string ⟨#[116, 49]⟩) := by
                  obtain ⟨gx, ox, ex, hx⟩ := (HO9.out.ns.up hZl) tk.length [116, 49] (by simp)
                  cases ex
                  rw [Nat.zero_add] at hx
                  exact hx
                have hc2 : wl.cell? ⟨g9, tk.length + 1, none⟩ = some (.string ⟨#[116, 55]⟩) := by
                  obtain ⟨gx, ox, ex, hx⟩ := (HO9.out.ns.up hZl) (tk.length + 1) [116, 55] (by simp)
                  cases ex
                  rw [Nat.zero_add] at hx
                  exact hx
                have m3 := same6_any (c1 := cb) (c2 := cj) (HOB.out.upp hYl).ns hNl (by rw [hfr5.out]; decide)
                rw [decide_eq_true rfl, hfr5.out] at m3
                clear m2 hNj hbj hbk hbl
                go_wp2_with fail
                refine m3.mono ?_
                rintro e wm ⟨rfl, hbm⟩
                have hZm := Below.thn hZl hbm
                have hYm := Below.thn hYl hbm
                have m4 := rfree_any hsz wm _ _ (HXH.out wm hZm) (fun _ h => h)
                obtain ⟨r0, r1, r2, r3, r4, r5, r6, r7, r8, r9, r10, r11⟩ := HCH.out wm hZm
                clear m3 hc1 hc2 hNl hbm
                go_wp2_with fail
                refine m4.mono ?_
                rintro e wn ⟨⟨vn, on_, rfl, hIn, hOn⟩, hbn⟩
                rw [← frE_fsE] at hIn
                obtain rfl := hIn.one HID.out (fun _ => Iff.rfl)
                obtain ⟨an, cn, rfl, hNn, _, _⟩ := hOn.names
                have hZn := Below.thn hZm hbn
                have hYn := Below.thn hYm hbn
                have m5 := same6_any (c1 := cd) (c2 := cn) (HOD.out.upp hYn).ns hNn (by omega)
                rw [decide_eq_true rfl] at m5
                clear m4 r0 r1 r2 r3 r4 r5 r6 r7 r8 r9 r10 r11 hIn hOn hbn
                go_wp2_with fail
                refine m5.mono ?_
                rintro e wp_ ⟨rfl, hbp_⟩
                have hZp := Below.thn hZn hbp_
                have hYp := Below.thn hYn hbp_
                obtain ⟨A1, hA1, hfq⟩ := HFH.out wp_ hZp
                have m6 := rnames_any hfq hA1 hsz hps
                obtain ⟨r0, r1, r2, r3, r4, r5, r6, r7, r8, r9, r10, r11⟩ := HCH.out wp_ hZp
                clear m5 hNn hbp_ hfq hA1
                go_wp2_with fail
                refine m6.mono ?_
                rintro e wq ⟨⟨vq, oq, rfl, hIq, hOq⟩, hbq_⟩
                rw [← nmA_rnF HNG.out] at hIq
                obtain rfl := hIq.one HIF.out (fun _ => Iff.rfl)
                obtain ⟨aq_, cq_, rfl, hNq, _, _⟩ := hOq.names
                have hZq := Below.thn hZp hbq_
                have hYq := Below.thn hYp hbq_
                have m7 := same6_any (c1 := cf) (c2 := cq_) (HOF.out.upp hYq).ns hNq (by omega)
                rw [decide_eq_true rfl] at m7
                clear m6 r0 r1 r2 r3 r4 r5 r6 r7 r8 r9 r10 r11 hIq hOq hbq_
                go_wp2_with fail
                refine m7.mono ?_
                rintro e wr_ ⟨rfl, hbr_⟩
                have hZr := Below.thn hZq hbr_
                have m8 := same4_any true gs gs (fun g hg => by have := HOK.out.sz g hg; omega) (fun g hg => by have := HOK.out.pms g hg; omega) (by omega) (LiR.refl (fun g => FnR.refl (fun _ _ => rfl) g) gs) wr_ _ _ (some ⟨G, 0, none⟩) (some ⟨H, 0, none⟩) c2 c4 (HLG.out.up hZr) (HLH.out.up hZr)
                obtain ⟨q0, q1, q2, q3, q4, q5, q6, q7, q8, q9, q10, q11⟩ := HCG.out wr_ hZr
                obtain ⟨r0, r1, r2, r3, r4, r5, r6, r7, r8, r9, r10, r11⟩ := HCH.out wr_ hZr
                clear m7 hNq hbr_
                go_wp2_with fail
                refine m8.mono ?_
                rintro e ws ⟨rfl, hbs⟩
                have HE : Hid (Below w.heap.size w ws) := Below.thn (Below.thn hBw9.out hZr) hbs
                clear m8 q0 q1 q2 q3 q4 q5 q6 q7 q8 q9 q10 q11 r0 r1 r2 r3 r4 r5 r6 r7 r8 r9 r10 r11 hbs
                go_wp2_with fail
                go_ret
                exact ⟨rfl, HE.out⟩
  · have hb3 := below_alloc w2 (.cells #[.slice none 0 0] 26)
    have hB3 := Below.thn hB2 hb3
    clear hB2
    go_upto_region 4 with fail
    generalize hW3 : w2.alloc (.cells #[.slice none 0 0] 26) = W3 at *
    clear hW3 hb3
    have m4 := read5_any ao cap l hcap W3 (hT.up hB3) F hfu
    go_wp2_with fail
    refine m4.mono ?_
    rintro e w4 ⟨hb4, hrd4⟩
    have hB4 := Below.thn hB3 hb4
    rcases rd_fork hrd4 with ⟨ms, gs, j, a4, c4, _, _, _, rfl, _⟩ | rfl
    · have hb5 := below_alloc w4 (.cells #[.slice a4 gs.length c4] 26)
      have HE : Hid (Below w.heap.size w _) := Below.thn hB4 hb5
      clear m4 hb4 hrd4 hrd hb5 hB4 hB3
      go_wp2_with fail
      go_ret
      exact ⟨rfl, HE.out⟩
    · have hb5 := below_alloc w4 (.cells #[.slice none 0 0] 26)
      have HE : Hid (Below w.heap.size w _) := Below.thn hB4 hb5
      clear m4 hb4 hrd4 hrd hb5 hB4 hB3
      go_wp2_with fail
      go_ret
      exact ⟨rfl, HE.out⟩
end Go.Proofs.YtmfejllhlbnigaaGreatDoor
