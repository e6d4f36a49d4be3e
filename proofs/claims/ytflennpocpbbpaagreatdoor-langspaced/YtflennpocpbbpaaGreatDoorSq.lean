/-
  The walk of LangSpaced.
-/
import Derived.Test.YtflennpocpbbpaaGreatDoorSp
import Derived.Test.YtflennpocpbbpaaGreatDoorUA
import Derived.Test.YtflennpocpbbpaaGreatDoorUM
import Derived.Test.YtflennpocpbbpaaGreatDoorUV
import Derived.Deep.RegionHeld3
namespace Go.Proofs.YtflennpocpbbpaaGreatDoor
open Go.RowKit
set_option maxRecDepth 100000

theorem bd_oth {w w' : World} {ao : Option Addr} {l : List UInt8} {g : Nat} (h : Bd w ao l) (ho : Oth g w w') (hn : ∀ b o, ao = some ⟨b, o, none⟩ → b ≠ g) : Bd w' ao l := by
  refine ⟨fun hl => ?_⟩
  obtain ⟨b, o, e, hc⟩ := h.pl hl
  exact ⟨b, o, e, fun t ht => (ho.cell (a := ⟨b, o + t, none⟩) (hn b o e)).trans (hc t ht)⟩

set_option maxHeartbeats 16000000 in
theorem langSpaced_any (a1 a2 : Option Addr) (c1 c2 : Nat) (l1 l2 : List UInt8) (hlen : l1.length ≤ 16000000) (hc1 : l1.length ≤ c1) (lt lf la ln : Int) (hla : la ≤ 9223372036854775807) (hln : ln ≤ 9223372036854775807) (w : World) (hG : Gl w) (hE : Env w) (h1 : Bd w a1 l1) (h2 : Bd w a2 l2) :
    Calls Tryz.prog 4 #[.slice a1 l1.length c1, .agg #[.int .i64 lt, .int .i64 lf, .int .i64 la, .int .i64 ln], .slice a2 l2.length c2] w fun e w' => e = .returned (.bool true) ∧ Below w.heap.size w w' := by
  have hb0 := below_alloc w (.cells #[.int .i64 lt, .int .i64 lf, .int .i64 la, .int .i64 ln] 24)
  have hL0 : Bk (w.alloc (.cells #[.int .i64 lt, .int .i64 lf, .int .i64 la, .int .i64 ln] 24)) w.heap.size 24 [.int .i64 lt, .int .i64 lf, .int .i64 la, .int .i64 ln] := Bk.new w 24 #[.int .i64 lt, .int .i64 lf, .int .i64 la, .int .i64 ln]
  go_enter Tryz.func4, Tryz.ntmps4
  go_wp2_with fail
  refine (awake4_any _ (hG.up hb0) (env_keep hE hb0)).mono ?_
  rintro e w1 ⟨rfl, hb1⟩
  have hB1 := Below.thn hb0 hb1
  have hL1 := hL0.up hb1
  have k0 := hL1.four.1
  have z0 := hL1.frz 0
  have hL2 : Bk (w1.setCell ⟨w.heap.size, 0, none⟩ (.int .i64 32768)) w.heap.size 24 [.int .i64 32768, .int .i64 lf, .int .i64 la, .int .i64 ln] := hL1.set 0 _
  have hB2 : Below w.heap.size w (w1.setCell ⟨w.heap.size, 0, none⟩ (.int .i64 32768)) := bst hB1 (Nat.le_refl _)
  clear hb0 hL0 hb1 hB1 hL1
  go_wp2_with fail
  obtain ⟨W2, hW2⟩ : ∃ W2, W2 = w1.setCell ⟨w.heap.size, 0, none⟩ (.int .i64 32768) := ⟨_, rfl⟩
  rw [← hW2] at hL2 hB2 ⊢
  clear hW2 k0 z0
  refine (marks_val a1 c1 l1 (by omega) hc1 W2 (hG.up hB2) (env_keep hE hB2) (h1.up hB2)).mono ?_
  rintro e w3 ⟨gx, px, rfl, hox, hrx, hb3⟩
  have hB3 := Below.thn hB2 hb3
  have hL3 := hL2.up hb3
  obtain ⟨cA, hcA⟩ : ∃ c, c = cut rdN l1 0 := ⟨_, rfl⟩
  rw [← hcA] at hox hrx ⊢
  have hB4 := bal (o := .cells #[.int .i64 (fwC cA), .int .i64 (faC cA)] 31) hB3
  have hL4 := hL3.up (below_alloc w3 (.cells #[.int .i64 (fwC cA), .int .i64 (faC cA)] 31))
  have hF4 : Bk (w3.alloc (.cells #[.int .i64 (fwC cA), .int .i64 (faC cA)] 31)) w3.heap.size 31 [.int .i64 (fwC cA), .int .i64 (faC cA)] := Bk.new w3 31 #[.int .i64 (fwC cA), .int .i64 (faC cA)]
  have lw3 := hL3.lt
  clear hL2 hB2 hL3
  cases cA with
  | bad k =>
    simp only [msC, fwC, faC] at hF4 hB4 ⊢
    obtain ⟨f0, f1⟩ := Bk.two hF4
    go_wp2
    go_ret
    exact ⟨rfl, hB4⟩
  | ok ms =>
    simp only [msC, fwC, faC] at hF4 hB4 hL4 hox hrx ⊢
    obtain ⟨f0, f1⟩ := Bk.two hF4
    by_cases hbig : 4096 < l1.length
    · have bb : decide ((32768 : Int) < 8 * (l1.length : Int)) = true := by rw [decide_eq_true_eq]; omega
      clear hox hrx hcA
      go_wp2
      go_ret
      exact ⟨rfl, hB4⟩
    have bb : decide ((32768 : Int) < 8 * (l1.length : Int)) = false := by rw [decide_eq_false_iff_not]; omega
    have hl4 : l1.length ≤ 4096 := by omega
    have hms := mks_of rdN _ _ _ hcA.symm
    have hmne := cut_ne rdN _ _ _ hcA.symm
    have hfew := cut_few _ _ _ hcA.symm
    have htx := cut_txs4 _ _ _ hcA.symm
    have hrow := cut_row rdN _ _ _ hcA.symm
    have HA : Hid (Cu.ok ms = cut rdN l1 0) := hcA
    have HRW : Hid (Row1 0 (0 + l1.length) ms) := hrow
    have HM : Hid (Mks rdN ms) := hms
    clear hcA hox hms hrow
    obtain ⟨bx, ox, rfl, right⟩ := hrx.pl hmne
    have hb5 := below_two w3 (.cells #[.int .i64 0, .int .i64 0] 31) kindsS
    have hrx3 := hrx.up hb5
    have hkc : ∀ t, t < 5 → ((w3.alloc (.cells #[.int .i64 0, .int .i64 0] 31)).alloc kindsS).cell? ⟨w3.heap.size + 1, t, none⟩ = some (.string (bs (gapS.getD t [32]))) := by
      intro t ht
      have := kindsS_cell (w3.alloc (.cells #[.int .i64 0, .int .i64 0] 31)) t ht
      rw [show (w3.alloc (.cells #[.int .i64 0, .int .i64 0] 31)).heap.size = w3.heap.size + 1 by simp] at this
      exact this
    have hB5 := bal (o := kindsS) hB4
    have hL5 := hL4.up (below_alloc _ kindsS)
    have hF5 := hF4.up (below_alloc _ kindsS)
    have hls := spaced_len4 (gapG l2) (gapG_len l2) ms 0
    obtain ⟨n, hn⟩ : ∃ n, n = ms.length := ⟨_, rfl⟩
    obtain ⟨W, hW⟩ : ∃ W, W = (w3.alloc (.cells #[.int .i64 0, .int .i64 0] 31)).alloc kindsS := ⟨_, rfl⟩
    have hkl : w3.heap.size + 1 < W.heap.size := by rw [hW]; simp
    rw [← hW] at hrx3 hkc hB5 hL5 hF5
    rw [← hn] at hfew hls ⊢
    have hh2 := h2.up hB5
    have hbx : bx < W.heap.size := (hrx3.at 0 (List.length_pos_iff.2 hmne)).lt
    have lL := hL5.lt
    have HN : Hid (n = ms.length) := hn
    have hnl1 : n ≤ ms.length := by omega
    have hnl2 : ms.length ≤ n := by omega
    clear hrx f1 hB4 hB3 hL4 hF4 hb3 hb5 hbig hn
    go_wp2
    rw [← hW]
    clear hW f0 bb
    go_loopw [10, 11, 12] (fun v u i wr => ∃ (k : Nat) (out : List UInt8) (ys : List Nat), k ≤ n ∧ i = .int .i64 k ∧ Hid (Own wr W.heap.size v out) ∧ Hid (OwnI wr W.heap.size u ys) ∧ Below W.heap.size W wr ∧ Hid (spaced (gapG l2) 0 ms = out ++ spaced (gapG l2) k (ms.drop k)) ∧ Hid (Plc l2 ms ys k)) (fun _ _ i _ => n - (intOf i).toNat)
    case atStart => exact ⟨0, [], [], Nat.zero_le _, rfl, Own.nil4 _ _, OwnI.nil _ _, Below.refl _ _, rfl, ⟨rfl, fun t ht => by omega⟩⟩
    case round =>
      obtain ⟨k, out, ys, hk, rfl, hO, hI, hBr, hS, hPl⟩ := hrel
      by_cases hlt : k < n
      · have hsz := hBr.size
        have hol : out.length ≤ 16000000 := by
          have := congrArg List.length (show _ = _ from hS)
          rw [List.length_append] at this
          omega
        have htl := text_le4 ms k
        obtain ⟨m, hm⟩ : ∃ m, m = ms.getD k md := ⟨_, rfl⟩
        have hS2 := show _ = _ from hS
        rw [spaced_at4 (gapG l2) (by omega), ← List.append_assoc, ← List.append_assoc, ← hm] at hS2
        have HS2 : Hid (_ = _) := hS2
        have HPL : Hid (Plc l2 ms (ys ++ [(out ++ gapG l2 k).length]) (k + 1)) := Plc.step (show Plc _ _ _ _ from hPl) (by omega) (show _ = _ from hS)
        have hyl : ys.length = k := (show Plc _ _ _ _ from hPl).1
        rw [← hm] at htl
        obtain ⟨gp, hgp⟩ : ∃ gp, gp = gapG l2 k := ⟨_, rfl⟩
        have hgl := gapG_len l2 k
        rw [← hgp] at hgl HS2 HPL
        obtain ⟨v1, w5, r5, o5, i5, b5⟩ := own_str4 wr W.heap.size _ _ out gp ys (show Own _ _ _ _ from hO) (show OwnI _ _ _ _ from hI) hsz (by omega) (by omega)
        obtain ⟨ao5, cp5, rfl, -⟩ := Own.bd o5
        obtain ⟨n5, hn5⟩ : ∃ n5, n5 = (out ++ gp).length := ⟨_, rfl⟩
        have hsz5 := Nat.le_trans hsz b5.size
        obtain ⟨u1, w6, r6, o6, i6, b6⟩ := own_int4 w5 W.heap.size _ _ (out ++ gp) ys (out ++ gp).length o5 i5 hsz5 (by omega)
        obtain ⟨v2, w7, r7, o7, i7, b7⟩ := own_str4 w6 W.heap.size _ _ (out ++ gp) m.text _ o6 i6 (Nat.le_trans hsz5 b6.size) (by rw [List.length_append]; omega) (by omega)
        have hB5' : Below W.heap.size W w5 := hBr.trans b5
        have hB6 := hB5'.trans b6
        have hB7 := hB6.trans b7
        have hM := hrx3.at k (by omega)
        rw [← hm] at hM
        have t6 := (hM.to hbx hB6).2.1
        rw [← hn5] at r5 r6 r7 HPL i7
        have R5 : Hid (_ = _) := r5
        have R6 : Hid (_ = _) := r6
        have R7 : Hid (_ = _) := r7
        have O7 : Hid (Own w7 _ v2 _) := o7
        have I7 : Hid (OwnI w7 _ u1 _) := i7
        have hxl : n5 ≤ 16000020 := by rw [hn5, List.length_append]; omega
        clear hn5 r5 r6 r7 o5 o6 o7 i5 i6 i7 b5 b6 b7 hM hS hS2 hO hI hm hPl hyl
        by_cases hg : k < l2.length
        · obtain ⟨b2, o2, rfl, hc2⟩ := hh2.pl (by intro e; rw [e] at hg; simp at hg)
          obtain ⟨c, hc⟩ : ∃ c, c = l2.getD k 0 := ⟨_, rfl⟩
          obtain ⟨q, hq, hqc⟩ : ∃ q, q < 5 ∧ c.toNat % 5 = q := ⟨_, Nat.mod_lt _ (by decide), rfl⟩
          have d1 := hc2 k hg
          rw [← hc] at d1
          have d2 := (hBr.cell (cell_lt d1)).trans d1
          have d3 := (hBr.cell (p := ⟨w3.heap.size + 1, q, none⟩) hkl).trans (hkc _ hq)
          have egp : gapS.getD q [32] = gp := by rw [hgp, ← hqc]; unfold gapG; rw [if_pos hg, hc]
          rw [egp] at d3
          have hmd : Int.tmod (wrap64 (c.toNat : Int)) 5 = (q : Int) := by
            have hcl := c.toNat_lt
            rw [show wrap64 (c.toNat : Int) = (c.toNat : Int) by simp only [wrap64]; omega, tmod5, hqc]
          clear hc2 d1 hc egp hgp hqc
          obtain ⟨z, hz⟩ : ∃ z, wrap64 (c.toNat : Int) = z := ⟨_, rfl⟩
          rw [hz] at hmd
          go_wp2_with (first
            | (at_builtin; refine wpList_append_runS rfl (.tmp 57) (.tmp 58) 22 9 rfl rfl _ _ rfl rfl _ _ (show _ = _ from R5) ?_)
            | (at_builtin; refine wpList_append_run rfl (.tmp 60) (.tmp 63) 35 rfl rfl _ _ rfl rfl _ _ (show _ = _ from R6) ?_)
            | (at_builtin; refine wpList_append_runS rfl (.tmp 65) (.tmp 70) 22 9 rfl rfl _ _ rfl rfl _ _ (show _ = _ from R7) ?_)
            | fail)
          go_roundw
          case rel => exact ⟨k + 1, _, _, by omega, by go_num, O7, I7, hB7, HS2, HPL⟩
          case measure => simp [intOf]; omega
        · have egp : gp = [32] := by rw [hgp]; unfold gapG; rw [if_neg hg]
          subst egp
          have r5 := show _ = _ from R5
          rw [show bs [32] = ⟨#[32]⟩ from rfl] at r5
          have R5 : Hid (_ = _) := r5
          clear r5
          clear hgp
          go_wp2_with (first
            | (at_builtin; refine wpList_append_runS rfl (.tmp 57) (.tmp 58) 22 9 rfl rfl _ _ rfl rfl _ _ (show _ = _ from R5) ?_)
            | (at_builtin; refine wpList_append_run rfl (.tmp 60) (.tmp 63) 35 rfl rfl _ _ rfl rfl _ _ (show _ = _ from R6) ?_)
            | (at_builtin; refine wpList_append_runS rfl (.tmp 65) (.tmp 70) 22 9 rfl rfl _ _ rfl rfl _ _ (show _ = _ from R7) ?_)
            | fail)
          go_roundw
          case rel => exact ⟨k + 1, _, _, by omega, by go_num, O7, I7, hB7, HS2, HPL⟩
          case measure => simp [intOf]; omega
      · have hke : k = n := by omega
        subst hke
        have hS2 := show _ = _ from hS
        rw [show k = ms.length from HN, List.drop_length, spaced, List.append_nil] at hS2
        obtain ⟨ao, cp, rfl, hbd, hcp, hnc, hnb⟩ := Own.bd (show Own _ _ _ _ from hO)
        obtain ⟨ai, ci, rfl, hci, hyc⟩ := OwnI.read (show OwnI _ _ _ _ from hI)
        have hol : out.length ≤ 32768 := by rw [← hS2]; omega
        have hcut := cut_respace rdN (gapG l2) (gapG_gap rdN l2) ms 0 0 (show Mks _ _ from HM)
        rw [hS2] at hcut
        obtain ⟨F, hFd⟩ : ∃ F, F = 12 * (l1.length + out.length + 20) + 9 := ⟨_, rfl⟩
        have hfu1 := fuel_ok l1 ⟨max lf 0, max la 0, max ln 0⟩ F (by omega)
        have hfu2 := fuel_ok out ⟨max lf 0, max la 0, max ln 0⟩ F (by omega)
        have hsp := spaced_prog (ρ := pq false) (fun a b h => by cases h) (gapG l2) ms ⟨max lf 0, max la 0, max ln 0⟩ F
        have hcT : cT 32768 = 32768 := by decide
        have hB6 := Below.thn hB5 hBr
        have hLr := hL5.up hBr
        have hFr := hF5.up hBr
        have hrxr := hrx3.up hBr
        have hzr := hBr.size
        have HSP : Hid _ := hsp
        have HCU : Hid (cut rdN out 0 = _) := hcut
        have HPL : Hid (Plc l2 ms ys k) := hPl
        have hyl : ys.length ≤ k := Nat.le_of_eq (show Plc _ _ _ _ from hPl).1
        have hyl2 : k ≤ ys.length := Nat.le_of_eq (show Plc _ _ _ _ from hPl).1.symm
        clear hsp hcut hS hS2 hO hI hPl hlt
        go_wp2_with (first
          | refine wpList_loadN rfl 24 (.tmp 4) rfl w.heap.size 0 rfl [.int .i64 32768, .int .i64 lf, .int .i64 la, .int .i64 ln] _ (hLr.range 0 4) Tryz.underL Tryz.infoL ?_
          | fail)
        refine (langParse_all a1 c1 l1 hc1 32768 lf la ln hln wr (hG.up hB6) (env_keep hE hB6) (h1.up hB6) F hfu1).mono ?_
        rintro e w8 ⟨hb8, hpa⟩
        have hB8 := Below.thn hB6 hb8
        have hL8 := hLr.up hb8
        have hF8 := hFr.up hb8
        have hz8 := hb8.size
        have hc1' : cut rdN l1 0 = .ok ms := (show Cu.ok ms = _ from HA).symm
        have hrow := show Row1 0 _ ms from HRW
        have hgd := gd_prog (mf ms) ⟨max lf 0, max la 0, max ln 0⟩ hrow.ends F [] 0 hrow.pos (by omega)
        cases hr : progL (mf ms) ⟨max lf 0, max la 0, max ln 0⟩ F [] 0 with
        | out => exact absurd hr (hfu1 ms hc1')
        | ok gs j =>
          have hr' : ∃ gs', progL (mf (respace (gapG l2) 0 0 ms)) ⟨max lf 0, max la 0, max ln 0⟩ F [] 0 = .ok gs' j ∧ LiR (FnR (pq false)) gs gs' := by
            have := show SR _ _ _ _ _ from HSP
            rw [hr] at this
            exact this trivial
          obtain ⟨gs', hr', hli⟩ := hr'
          rw [hr] at hgd
          have hgj : 0 + 1 ≤ j ∧ j < ms.length := hgd
          obtain ⟨ao8, c8, rfl, hfl⟩ := paV_ok hpa (by rw [hcT]; omega) hc1' hr
          have hgs := prog_some _ _ _ _ _ _ _ hr
          have hszs : ∀ g ∈ gs, szE g.body ≤ 1073741824 := by
            have := sz_prog (mf ms) ⟨max lf 0, max la 0, max ln 0⟩ _ _ _ _ _ hr (by simp)
            intro g hg
            have := this g hg
            omega
          obtain ⟨wf1, wf2, wf3, -⟩ := wider (mf ms) ⟨max lf 0, max la 0, max ln 0⟩ (by dsimp only; omega) (by dsimp only; omega) hr
          have hpms : ∀ g ∈ gs, g.pms.length ≤ 9223372036854775807 := by
            have := (mxA_fit ⟨max lf 0, max la 0, max ln 0⟩ (by dsimp only; omega) gs).2 wf2
            intro g hg
            have := this g hg
            unfold FitA at this
            dsimp only at this
            omega
          have hgl : gs.length ≤ j := by
            obtain ⟨new, new', e, hnj, _⟩ := prog_b (ρ := fun a b => b = a) (s := 0) (mf ms) (mf ms) ⟨max lf 0, max la 0, max ln 0⟩ _ [] [] _ _ _ hr (fun _ _ => ⟨rfl, rfl, rfl, rfl, rfl⟩) (by simpa using wf1)
            rw [List.nil_append] at e
            subst e
            omega
          clear hpa hgd wf1 wf2 wf3
          have HR2 : Hid (progL (mf (respace (gapG l2) 0 0 ms)) ⟨max lf 0, max la 0, max ln 0⟩ F [] 0 = .ok gs' j) := hr'
          clear hr'
          go_wp2_with (first
            | (refine wpList_storeN rfl 42 (.tmp 14) (.tmp 76) rfl w8.heap.size 0 [.slice ao8 gs.length c8] rfl rfl (Bk.new w8 42 #[.slice none 0 0]) (Nat.le_refl 1) Tryz.infoPr (onc1 _ rfl) ?_; intro w9 hP9 ho9; have hb9 : Below w8.heap.size w8 w9 := (below_alloc w8 (.cells #[.slice none 0 0] 42)).trans (ho9.below (Nat.le_refl _)); have hF9 := hF8.up hb9; have hL9 := hL8.up hb9)
            | (refine wpList_storeN rfl 31 (.tmp 8) (.tmp 77) rfl w3.heap.size 0 [.int .i64 0, .int .i64 0] rfl rfl hF9 (Nat.le_refl 2) Tryz.infoF (onc2 _ _ rfl rfl) ?_; intro w10 hF10 ho10; have hL10 := hL9.oth ho10 (by omega))
            | refine wpList_loadN rfl 24 (.tmp 4) rfl w.heap.size 0 rfl [.int .i64 32768, .int .i64 lf, .int .i64 la, .int .i64 ln] _ (hL10.range 0 4) Tryz.underL Tryz.infoL ?_
            | fail)
          have hz9 := hb9.size
          have hB10 : Below w.heap.size w w10 := (Below.thn hB8 hb9).trans (ho10.below (by omega))
          have hP10 : Bk w10 w8.heap.size 42 [.slice ao8 gs.length c8] := (show Bk w9 w8.heap.size 42 [.slice ao8 gs.length c8] from hP9).oth ho10 (by omega)
          have hF10 : Bk w10 w3.heap.size 31 [.int .i64 0, .int .i64 0] := hF10
          have hW10 : Below W.heap.size W w10 ∨ True := .inr trivial
          have hbd10 : Bd w10 ao out := bd_oth (hbd.up (Below.thn hb8 hb9)) ho10 (by
            intro b o e
            have := hnb b o e
            omega)
          have hfl10 : FlW w10 (fun b => wr.heap.size ≤ b) ao8 gs := (hfl.up hb9).keep (Nat.le_of_eq ho10.size.symm) fun b hb _ => ho10.block b (by omega)
          refine (langParse_all ao cp out hcp 32768 lf la ln hln w10 (hG.up hB10) (env_keep hE hB10) hbd10 F hfu2).mono ?_
          rintro e w11 ⟨hb11, hpb⟩
          obtain ⟨ao11, c11, rfl, hflb⟩ := paV_ok hpb (by rw [hcT]; omega) (show cut rdN out 0 = _ from HCU) (show progL _ _ _ _ _ = _ from HR2)
          have hgl' : gs'.length = gs.length := hli.length.symm
          have q11 := below_two w11 (prg (.slice ao11 gs'.length c11)) (flt 0 0)
          have hP11 := (hP10.up hb11).up q11
          have hF11 := (hF10.up hb11).up q11
          have hQ11 := (Bk.new w11 42 #[.slice ao11 gs'.length c11]).up (below_alloc _ (flt 0 0))
          have hH11 := Bk.newAt (w := w11.alloc (prg (.slice ao11 gs'.length c11))) (n := w11.heap.size + 1) 31 #[.int .i64 0, .int .i64 0] (by simp)
          have e0 := hP11.cell 0
          have e1 := hQ11.cell 0
          obtain ⟨f0, f1⟩ := Bk.two hF11
          obtain ⟨g0, g1⟩ := Bk.two (show Bk _ (w11.heap.size + 1) _ [_, _] from hH11)
          have hfa := (hfl10.up hb11).up q11
          have hfb := hflb.up q11
          have hB11 := Below.thn (Below.thn hB10 hb11) q11
          clear hpb hgl'
          go_wp2_with fail
          refine (same4_any false gs gs' hszs hpms (by omega) hli _ _ _ ao8 ao11 c8 c11 hfa hfb).mono ?_
          rintro e w12 ⟨rfl, hb12⟩
          have e2 := (hP11.up hb12).cell 0
          obtain ⟨f2, f3⟩ := Bk.two (hF11.up hb12)
          have bb : decide (0 < (gs.length : Int)) = true := by rw [decide_eq_true_eq]; omega
          go_wp2
          go_ret
          exact ⟨rfl, Below.thn hB11 hb12⟩
        | bad y j =>
          have hr' : progL (mf (respace (gapG l2) 0 0 ms)) ⟨max lf 0, max la 0, max ln 0⟩ F [] 0 = .bad y j := by
            have := show SR _ _ _ _ _ from HSP
            rw [hr] at this
            exact this trivial
          rw [hr] at hgd
          have hgj : j < ms.length := hgd
          have he := paV_bad hpa (by rw [hcT]; omega) hc1' hr
          have hy : y ≠ 0 := by
            have := fk_prog (mf ms) ⟨max lf 0, max la 0, max ln 0⟩ hrow.four F [] 0
            rw [hr] at this
            rcases (show y = 21 ∨ ((y = 22 ∨ y = 23) ∧ _) from this) with h | ⟨h | h, _⟩ <;> omega
          subst he
          unfold noneV
          obtain ⟨p1, hp1⟩ : ∃ p1, p1 = (mf ms j).at_ := ⟨_, rfl⟩
          obtain ⟨p2, hp2⟩ : ∃ p2, p2 = (mf (respace (gapG l2) 0 0 ms) j).at_ := ⟨_, rfl⟩
          rw [← hp1]
          have HP1 : Hid (p1 = _) := hp1
          have HP2 : Hid (p2 = _) := hp2
          have HR2 : Hid (progL (mf (respace (gapG l2) 0 0 ms)) ⟨max lf 0, max la 0, max ln 0⟩ F [] 0 = .bad y j) := hr'
          clear hpa hgd hr' hp1 hp2
          go_wp2_with (first
            | (refine wpList_storeN rfl 42 (.tmp 14) (.tmp 76) rfl w8.heap.size 0 [.slice none 0 0] rfl rfl (Bk.new w8 42 #[.slice none 0 0]) (Nat.le_refl 1) Tryz.infoPr (onc1 _ rfl) ?_; intro w9 hP9 ho9; have hb9 : Below w8.heap.size w8 w9 := (below_alloc w8 (.cells #[.slice none 0 0] 42)).trans (ho9.below (Nat.le_refl _)); have hF9 := hF8.up hb9; have hL9 := hL8.up hb9)
            | (refine wpList_storeN rfl 31 (.tmp 8) (.tmp 77) rfl w3.heap.size 0 [.int .i64 y, .int .i64 p1] rfl rfl hF9 (Nat.le_refl 2) Tryz.infoF (onc2 _ _ rfl rfl) ?_; intro w10 hF10 ho10; have hL10 := hL9.oth ho10 (by omega))
            | refine wpList_loadN rfl 24 (.tmp 4) rfl w.heap.size 0 rfl [.int .i64 32768, .int .i64 lf, .int .i64 la, .int .i64 ln] _ (hL10.range 0 4) Tryz.underL Tryz.infoL ?_
            | fail)
          have hz9 := hb9.size
          have hB10 : Below w.heap.size w w10 := (Below.thn hB8 hb9).trans (ho10.below (by omega))
          have hP10 : Bk w10 w8.heap.size 42 [.slice none 0 0] := (show Bk w9 w8.heap.size 42 [.slice none 0 0] from hP9).oth ho10 (by omega)
          have hF10 : Bk w10 w3.heap.size 31 [.int .i64 y, .int .i64 p1] := hF10
          have hW10 : Below W.heap.size W w10 ∨ True := .inr trivial
          have hbd10 : Bd w10 ao out := bd_oth (hbd.up (Below.thn hb8 hb9)) ho10 (by
            intro b o e
            have := hnb b o e
            omega)
          refine (langParse_all ao cp out hcp 32768 lf la ln hln w10 (hG.up hB10) (env_keep hE hB10) hbd10 F hfu2).mono ?_
          rintro e w11 ⟨hb11, hpb⟩
          have he := paV_bad hpb (by rw [hcT]; omega) (show cut rdN out 0 = _ from HCU) (show progL _ _ _ _ _ = _ from HR2)
          subst he
          unfold noneV
          rw [← show p2 = _ from HP2]
          have q11 := below_two w11 (prg (.slice none 0 0)) (flt y p2)
          have hP11 := (hP10.up hb11).up q11
          have hF11 := (hF10.up hb11).up q11
          have hQ11 := (Bk.new w11 42 #[.slice none 0 0]).up (below_alloc _ (flt y p2))
          have hH11 := Bk.newAt (w := w11.alloc (prg (.slice none 0 0))) (n := w11.heap.size + 1) 31 #[.int .i64 y, .int .i64 p2] (by simp)
          have e0 := hP11.cell 0
          have e1 := hQ11.cell 0
          obtain ⟨f0, f1⟩ := Bk.two hF11
          obtain ⟨g0, g1⟩ := Bk.two (show Bk _ (w11.heap.size + 1) _ [_, _] from hH11)
          have hB11 := Below.thn (Below.thn hB10 hb11) q11
          clear hpb
          go_wp2_with fail
          refine (same4_any false [] [] (by simp) (by simp) (by simp) .nil _ (fun _ => True) (fun _ => True) none none 0 0 (.inl rfl) (.inl rfl)).mono ?_
          rintro e w12 ⟨rfl, hb12⟩
          have hF12 := hF11.up hb12
          have hH12 := hH11.up hb12
          have hB12 := Below.thn hB11 hb12
          obtain ⟨f2, f3⟩ := Bk.two hF12
          have by0 : (y == 0) = false := by rw [beq_eq_false_iff_ne]; exact hy
          have hM12 : ∀ t, t < ms.length → M4 w12 bx (ox + t * 4) (mf ms t) := by
            intro t ht
            have h1 := (hrxr.up hb8).at t ht
            have e : mf ms t = ms.getD t md := by unfold mf; simp [List.getD_eq_getElem?_getD, ht]
            rw [e]
            have hl1 := h1.lt
            have h2 := h1.to (w' := w9) h1.lt hb9
            obtain ⟨m1, m2, m3, m4⟩ := h2
            have hne : bx ≠ w3.heap.size := by
              intro eb
              have hx := right t ht
              have := hx.lt
              omega
            have h3 : M4 w10 bx (ox + t * 4) (ms.getD t md) := ⟨(ho10.cell (a := ⟨bx, _, none⟩) hne).trans m1, (ho10.cell (a := ⟨bx, _, none⟩) hne).trans m2, (ho10.cell (a := ⟨bx, _, none⟩) hne).trans m3, (ho10.cell (a := ⟨bx, _, none⟩) hne).trans m4⟩
            have h4 := h3.to h3.lt hb11
            have h5 := h4.to h4.lt q11
            exact h5.to h5.lt hb12
          have HM12 : Hid (∀ t, t < ms.length → M4 w12 bx (ox + t * 4) (mf ms t)) := hM12
          have HY12 : Hid (∃ gA, ai = some ⟨gA, 0, none⟩ ∧ w12.cell? ⟨gA, j, none⟩ = some (.int .i64 p2)) := by
            obtain ⟨gA, e1', hgA, hc⟩ := hyc j (by omega)
            refine ⟨gA, e1', ?_⟩
            have hv : ys.getD j 0 = p2 := by
              rw [(show Plc _ _ _ _ from HPL).2 j (by omega), show p2 = _ from HP2, respace_place _ _ _ _ _ hgj]
            rw [hv] at hc
            have l0 := cell_lt hc
            have c8 := (hb8.cell (p := ⟨gA, j, none⟩) l0).trans hc
            have c9 := (hb9.cell (p := ⟨gA, j, none⟩) (cell_lt c8)).trans c8
            have c10 := (ho10.cell (a := ⟨gA, j, none⟩) (by show gA ≠ _; omega)).trans c9
            have c11 := (hb11.cell (p := ⟨gA, j, none⟩) (cell_lt c10)).trans c10
            have c12 := (q11.cell (p := ⟨gA, j, none⟩) (cell_lt c11)).trans c11
            exact (hb12.cell (p := ⟨gA, j, none⟩) (cell_lt c12)).trans c12
          obtain ⟨gA, rfl, hgA⟩ := (show ∃ gA, _ from HY12)
          obtain ⟨g2, g3⟩ := Bk.two (show Bk _ (w11.heap.size + 1) _ [_, _] from hH12)
          clear hM12 hF11 hH11 hP11 hQ11 e0 e1 f0 f1 g0 g1 hfu1 hfu2 hc1' HY12
          go_wp2_with fail
          go_loopw [17] (fun i wq => ∃ t : Nat, i = .int .i64 t ∧ t ≤ j ∧ Below w12.heap.size w12 wq) (fun i _ => ms.length - (intOf i).toNat)
          case atStart => exact ⟨0, rfl, Nat.zero_le _, Below.refl _ _⟩
          case round =>
            obtain ⟨t, rfl, htj, hBq⟩ := hrel
            have htn : t < ms.length := by omega
            have hM := (show ∀ t, t < ms.length → M4 w12 bx (ox + t * 4) (mf ms t) from HM12) t htn
            have m3 := (hM.to hM.lt hBq).2.2.2
            have fq : wr.cell? ⟨w3.heap.size, 1, none⟩ = some (.int .i64 p1) := (Bk.two (hF12.up hBq)).2
            have i0 : (0 : Int) ≤ (t : Int) := by omega
            have i1 : (t : Int) < (k : Int) := by omega
            have i2 : t < k := by omega
            clear hM
            by_cases hte : t = j
            · have e3 : (mf ms t).at_ = p1 := by rw [hte]; exact (show p1 = _ from HP1).symm
              rw [e3] at m3
              have gq := (hBq.cell (p := ⟨gA, j, none⟩) (cell_lt hgA)).trans hgA
              have hq2 : wr.cell? ⟨w11.heap.size + 1, 1, none⟩ = some (.int .i64 p2) := (Bk.two (show Bk wr (w11.heap.size + 1) _ [_, _] from hH12.up hBq)).2
              rw [← hte] at gq
              have i3 : t < ys.length := by omega
              have i4 : (t : Int) < (ys.length : Int) := by omega
              clear e3 hte
              go_wp2_with fail
              go_region_held3 (fun W => W.cell? ⟨bx, ox + t * 4 + 3, none⟩ = some (.int .i64 p1) ∧ W.cell? ⟨w3.heap.size, 1, none⟩ = some (.int .i64 p1)) (exact ⟨m3, fq⟩) (fail)
              go_wp2_with fail
              go_region_held3 (fun W => W.cell? ⟨gA, t, none⟩ = some (.int .i64 p2) ∧ W.cell? ⟨w11.heap.size + 1, 1, none⟩ = some (.int .i64 p2)) (exact ⟨gq, hq2⟩) (fail)
              go_wp2
              go_ret
              exact ⟨rfl, Below.thn hB12 hBq.drew.drew⟩
            · obtain ⟨p3, hp3⟩ : ∃ p3, p3 = (mf ms t).at_ := ⟨_, rfl⟩
              rw [← hp3] at m3
              have hne : ¬ p3 = p1 := by
                intro e
                rw [hp3, show p1 = _ from HP1] at e
                exact hte ((show Row1 0 _ ms from HRW).one htn hgj e)
              have b3 : ((p3 : Int) == (p1 : Int)) = false := by rw [beq_eq_false_iff_ne]; omega
              clear hp3
              go_wp2_with fail
              go_region_held3 (fun W => W.cell? ⟨bx, ox + t * 4 + 3, none⟩ = some (.int .i64 p3) ∧ W.cell? ⟨w3.heap.size, 1, none⟩ = some (.int .i64 p1)) (exact ⟨m3, fq⟩) (fail)
              go_wp2_with fail
              go_roundw
              case rel => exact ⟨t + 1, by go_num, by omega, hBq.drew⟩
              case measure => simp [intOf]; omega
end Go.Proofs.YtflennpocpbbpaaGreatDoor
