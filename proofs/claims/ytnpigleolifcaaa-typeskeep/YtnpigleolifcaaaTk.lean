/-
  The walk of TypesKeep.
-/
import Derived.Test.YtnpigleolifcaaaTy
import Derived.Test.YtnpigleolifcaaaUz
namespace Go.Proofs.Ytnpigleolifcaaa
open Go.RowKit
set_option maxRecDepth 100000

def roomB : List UInt8 := [114, 111, 111, 109]
def room : Pa := ⟨roomB, 0, 0⟩

set_option maxHeartbeats 16000000 in
theorem typesKeep_any (ao : Option Addr) (cap : Nat) (l : List UInt8) (hcap : l.length ≤ cap) (am : Option Addr) (cm : Nat) (qs : List Pa) (hcm : am = none → cm = 0) (hnm : am = none → qs = []) (hlen : qs.length * 32 ≤ reachBytes) (hln : ∀ q ∈ qs, q.name.length ≤ reachBytes) (w : World) (hT : Bd w ao l) (hq : PaW w am qs) :
    Calls Try.prog 6 #[.slice ao l.length cap, .slice am qs.length cm] w fun e w' => e = .returned (.bool true) ∧ Below w.heap.size w w' := by
  obtain ⟨F, hF⟩ : ∃ F, F = 12 * (l.length + 1) + 9 := ⟨_, rfl⟩
  have hfu : ∀ ms, cut rdN l 0 = .ok ms → progL (mf ms) LW5 F [] 0 ≠ .out := fuel_ok l LW5 F (by omega)
  have HF : Hid (F = 12 * (l.length + 1) + 9) := hF
  have HQ : Hid (PaW w am qs ∧ (am = none → cm = 0) ∧ (am = none → qs = []) ∧ ∀ q ∈ qs, q.name.length ≤ reachBytes) := ⟨hq, hcm, hnm, hln⟩
  have hl40 : qs.length ≤ 4398046510976 := by unfold reachBytes at hlen; omega
  clear hF hq hcm hnm hln hlen
  go_enter Try.func6, Try.ntmps6
  go_wp2_with fail
  refine (awake7_any w).mono ?_
  rintro e w1 ⟨rfl, hb1⟩
  have m2 := read5_any ao cap l hcap w1 (hT.up hb1) F hfu
  go_wp2_with fail
  refine m2.mono ?_
  rintro e w2 ⟨hb2, hrd⟩
  have hB2 := Below.thn hb1 hb2
  clear m2 hb1 hb2
  rcases rd_fork hrd with ⟨ms, gs, j, a2, c2, hl, hc, hp, rfl, hfl⟩ | rfl
  · have HOK : Hid (PrgOk gs) := prgOk hl (by rw [HF.out]; exact Nat.le_refl _) hc hp
    have HLN : Hid (∀ g ∈ gs, lnF g) := prgLn hl hc hp
    have hb3 := below_alloc w2 (.cells #[.slice a2 gs.length c2] 26)
    have hP3 := Bk.new w2 26 #[.slice a2 gs.length c2]
    have HB3 : Hid (Below w.heap.size w _) := Below.thn hB2 hb3
    have hf3 := hfl.up hb3
    have HPR : Hid (progL (mf ms) LW5 F [] 0 = .ok gs j) := hp
    have HCU : Hid (cut rdN l 0 = .ok ms) := hc
    go_upto_region 6 with fail
    generalize hW3 : w2.alloc (.cells #[.slice a2 gs.length c2] 26) = W3 at *
    clear hW3 hfl hb3 hp hc hrd hB2
    have m4 := read5_any ao cap l hcap W3 (hT.up HB3.out) F hfu
    go_wp2_with fail
    refine m4.mono ?_
    rintro e w4 ⟨hb4, hrd4⟩
    obtain ⟨a4, c4, rfl, hfl4⟩ := rd_again hrd4 hl HCU.out HPR.out
    have hb5 := below_alloc w4 (.cells #[.slice a4 gs.length c4] 26)
    have hQ5 := Bk.new w4 26 #[.slice a4 gs.length c4]
    have hY5 := hfl4.up hb5
    have hb35 := Below.thn hb4 hb5
    go_upto_region 7 with fail
    generalize hW5 : w4.alloc (.cells #[.slice a4 gs.length c4] 26) = W5 at *
    have hP5 := hP3.up hb35
    have hX5 := hf3.up hb35
    have HB5 : Hid (Below w.heap.size w W5) := Below.thn HB3.out hb35
    clear hW5 m4 hfl4 hb4 hrd4 hb5 hP3 hf3 hb35 HPR HCU HF
    obtain ⟨b5, hb5e⟩ : ∃ b, b = w2.heap.size := ⟨_, rfl⟩
    obtain ⟨b7, hb7e⟩ : ∃ b, b = w4.heap.size := ⟨_, rfl⟩
    rw [← hb5e] at hP5 ⊢
    rw [← hb7e] at hQ5 ⊢
    clear hb5e hb7e
    have hB6 := Bk.new W5 47 #[]
    have hb6 := below_alloc W5 (.cells #[] 47)
    have hO6 : PaO (W5.alloc (.cells #[] 47)) W5.heap.size (.slice (some ⟨W5.heap.size, 0, none⟩) 0 0) [] := ⟨rfl, .inr ⟨W5.heap.size, 0, #[], rfl, Nat.le_refl _, hB6, Nat.le_refl _, by unfold maxLen; omega, rfl, rfl⟩⟩
    obtain ⟨v7, w7, R7, hO7, hb7⟩ := pa_app hO6 hb6.size ((HQ.out.1.up HB5.out).up hb6) HQ.out.2.2.1 (cap := cm) HQ.out.2.1 (by simp only [List.length_nil]; omega)
    rw [List.nil_append] at hO7
    have hb8 := below_alloc w7 (.cells #[.string ⟨#[114, 111, 111, 109]⟩, .int .i64 0, .int .i64 0, .string ⟨#[114, 111, 111, 109]⟩, .int .i64 0, .int .i64 0] 47)
    have hB8 := Bk.new w7 47 #[.string ⟨#[114, 111, 111, 109]⟩, .int .i64 0, .int .i64 0, .string ⟨#[114, 111, 111, 109]⟩, .int .i64 0, .int .i64 0]
    have hW8 : PaW (w7.alloc (.cells #[.string ⟨#[114, 111, 111, 109]⟩, .int .i64 0, .int .i64 0, .string ⟨#[114, 111, 111, 109]⟩, .int .i64 0, .int .i64 0] 47)) (some ⟨w7.heap.size, 0, none⟩) [room, room] := fun _ => ⟨w7.heap.size, 0, rfl, fun i hi => by
      have h2 : i = 0 ∨ i = 1 := by simp at hi; omega
      rcases h2 with rfl | rfl
      · intro j v hj
        have hj3 := (List.getElem?_eq_some_iff.1 hj).1
        have h3 : j = 0 ∨ j = 1 ∨ j = 2 := by simp [paC] at hj3; omega
        rcases h3 with rfl | rfl | rfl <;> (cases hj; exact hB8.cell _)
      · intro j v hj
        have hj3 := (List.getElem?_eq_some_iff.1 hj).1
        have h3 : j = 0 ∨ j = 1 ∨ j = 2 := by simp [paC] at hj3; omega
        rcases h3 with rfl | rfl | rfl <;> (cases hj; exact hB8.cell _)⟩
    obtain ⟨v9, w9, R9, hO9, hb9⟩ := pa_app (B := W5.heap.size) (show PaO (w7.alloc _) W5.heap.size v7 qs from owns_keep hO7 fun b hk => hb8.block b (owns_has hO7 b hk).2) (Nat.le_trans (Nat.le_trans hb6.size hb7.size) hb8.size) hW8 (fun e => by cases e) (cap := 2) (fun e => by cases e) (by simp only [List.length_cons, List.length_nil]; omega)
    have hB59 : Below W5.heap.size W5 w9 := ((hb6.trans hb7).trans (hb8.mono (Nat.le_trans hb6.size hb7.size))).trans hb9
    have hql : (qs ++ [room, room]).length = qs.length + 2 := by rw [List.length_append]; rfl
    obtain ⟨g, cf, rfl, hcf, hcm2, hrow⟩ := hO9.row (by omega)
    rw [hql] at R9 hcf
    clear hO9 hb9 hb8 hB8 hW8 hO7 hb7 hO6 hb6 hB6
    go_upto_region 8 with (first
      | (at_builtin; refine wpList_append_run rfl (.tmp 27) (.tmp 28) 34 rfl rfl _ _ rfl rfl _ _ (show _ = _ from R7) ?_)
      | (at_builtin; refine wpList_append_run rfl (.tmp 29) (.tmp 32) 34 rfl rfl _ _ rfl rfl _ _ (show _ = _ from R9) ?_))
    clear R7 R9
    have hP9 := hP5.up hB59
    have hQ9 := hQ5.up hB59
    have hX9 := hX5.up hB59
    have hY9 := hY5.up hB59
    have HB9 : Hid (Below w.heap.size w w9) := Below.thn HB5.out hB59
    have HROW : Hid (∀ k, k < qs.length + 2 → w9.rangeAt g (k * 3) (paC ((qs ++ [room, room]).getD k pa0))) := fun k hk => hrow k (by omega)
    clear hP5 hQ5 hX5 hY5 hB59 hrow hql
    have p9 : w9.cell? ⟨b5, 0, none⟩ = some (.slice a2 gs.length c2) := hP9.cell 0
    have m10 := check_ok (c := c2) HOK.out HLN.out hX9
    obtain ⟨⟨zy, za⟩, hz⟩ : ∃ z, z = tyP gs := ⟨_, rfl⟩
    have HZ : Hid (tyP gs = (zy, za)) := hz.symm
    rw [← hz] at m10
    dsimp only at m10
    clear hz
    have hmx : cf ≤ 9223372036854775807 := by unfold maxLen at hcm2; omega
    clear hcm2
    go_wp2_with fail
    refine m10.mono ?_
    rintro e w10 ⟨rfl, hb10⟩
    have hb11 := below_alloc w10 (.cells #[.int .i64 zy, .int .i64 za] 31)
    have hT11 := Bk.new w10 31 #[.int .i64 zy, .int .i64 za]
    have hb911 := Below.thn hb10 hb11
    go_upto_region 10 with fail
    generalize hW11 : w10.alloc (.cells #[.int .i64 zy, .int .i64 za] 31) = W11 at *
    have hP11 := hP9.up hb911
    have hQ11 := hQ9.up hb911
    have hX11 := hX9.up hb911
    have hY11 := hY9.up hb911
    have HB11 : Hid (Below w9.heap.size w9 W11) := hb911
    obtain ⟨b11, hb11e⟩ : ∃ b, b = w10.heap.size := ⟨_, rfl⟩
    rw [← hb11e] at hT11 ⊢
    clear hW11 hb11e hb911 hb11 hb10 m10 p9 hP9 hQ9 hX9 hY9
    have p11 : W11.cell? ⟨b5, 0, none⟩ = some (.slice a2 gs.length c2) := hP11.cell 0
    have m12 := check06_ok (c := c2) HOK.out hX11
    obtain ⟨⟨qy, qa⟩, hq⟩ : ∃ q, q = lsP (ftP gs) := ⟨_, rfl⟩
    rw [← hq] at m12
    dsimp only at m12
    clear hq
    go_wp2_with fail
    refine m12.mono ?_
    rintro e w12 ⟨rfl, hb12⟩
    have fl12 := fld0 qy qa w12
    have hP12 := hP11.up hb12
    have hQ12 := hQ11.up hb12
    have hX12 := hX11.up hb12
    have hY12 := hY11.up hb12
    have hT12 := hT11.up hb12
    have HB12 : Hid (Below w9.heap.size w9 w12) := Below.thn HB11.out hb12
    clear m12 p11 hb12 hP11 hQ11 hX11 hY11 hT11 HB11
    go_upto_if 43 with fail
    have HPS : Hid (∀ W, Below w12.heap.size w12 W → PqW W (fun _ => True) (some ⟨g, 0, none⟩) (qs.map paP)) := fun W hW => by
      have h := paP_q (w := W) (g := g) (qs := qs ++ [room, room]) (n := qs.length) (by rw [List.length_append]; omega) (fun k hk => by
        have h0 := HROW.out k (by rw [List.length_append] at hk; exact hk)
        have hb := Below.thn HB12.out hW
        have hg := cell_lt (h0 0 _ rfl)
        exact fun j v hj => (World.cell?_of_block (hb.block g hg)).trans (h0 j v hj))
      rwa [List.take_left'] at h
      rfl
    have HNL : Hid (∀ p ∈ qs.map paP, p.name.length ≤ 140737488355328) := fun p hp => by
      rw [List.mem_map] at hp
      obtain ⟨q, hq, rfl⟩ := hp
      have := HQ.out.2.2.2 q hq
      unfold reachBytes at this
      show q.name.length ≤ _
      omega
    have hml : (qs.map paP).length = qs.length := List.length_map ..
    have HML : Hid ((qs.map paP).length = qs.length) := hml
    have hgs : 0 < gs.length := List.length_pos_iff.2 HOK.out.ne
    clear hml
    go_cut [] (fun wx => Below w12.heap.size w12 wx)
    case first =>
      by_cases hy : qy = 0
      · subst hy
        obtain ⟨G, vs, rfl, _, hv, hxv⟩ := hX12.at 0 hgs
        have hmem : gs.getD 0 fd ∈ gs := by rw [List.getD_eq_getElem?_getD, List.getElem?_eq_getElem hgs]; exact List.getElem_mem hgs
        have hs0 := HOK.out.sz _ hmem
        have HL0 : Hid (lnF (gs.getD 0 fd)) := HLN.out _ hmem
        obtain ⟨q, hq⟩ : ∃ q, q = gs.getD 0 fd := ⟨_, rfl⟩
        rw [← hq] at hxv hs0 HL0
        clear hq hmem
        obtain ⟨ap, cp, es, rfl, _, hx0⟩ := hxv
        obtain ⟨x0, x1, x2, x3, x4, x5, x6, rfl⟩ := list7 hx0.len
        have d3 : w12.cell? ⟨G, 3, none⟩ = some x0 := hv 3 _ rfl
        have d4 : w12.cell? ⟨G, 4, none⟩ = some x1 := hv 4 _ rfl
        have d5 : w12.cell? ⟨G, 5, none⟩ = some x2 := hv 5 _ rfl
        have d6 : w12.cell? ⟨G, 6, none⟩ = some x3 := hv 6 _ rfl
        have d7 : w12.cell? ⟨G, 7, none⟩ = some x4 := hv 7 _ rfl
        have d8 : w12.cell? ⟨G, 8, none⟩ = some x5 := hv 8 _ rfl
        have d9 : w12.cell? ⟨G, 9, none⟩ = some x6 := hv 9 _ rfl
        have hG := cell_lt d3
        clear hv
        go_upto_region 11 with fail
        refine wp_region_any (by kernel_rfl) ?_
        refine keep11 (X0 := w12) (b5 := b5) (G := G) (g := g) (ng := gs.length) (c2 := c2) (n := qs.length) (cf := cf) (x0 := x0) (x1 := x1) (x2 := x2) (x3 := x3) (x4 := x4) (x5 := x5) (x6 := x6) (r1 := .int .i64 (ofP (funF gs) (qs.map paP) q.body).1) (r2 := .int .i64 (ofP (funF gs) (qs.map paP) q.body).2) hgs (fun W hW => ?_) (fun W hW => ?_) (by show 95 ≤ 95; decide) rfl rfl (Below.refl _ _).drew ?_
        · have hk : ∀ o, W.cell? ⟨G, o, none⟩ = w12.cell? ⟨G, o, none⟩ := fun o => World.cell?_of_block (hW.block G hG)
          exact ⟨(hP12.up hW).cell 0, (hk 3).trans d3, (hk 4).trans d4, (hk 5).trans d5, (hk 6).trans d6, (hk 7).trans d7, (hk 8).trans d8, (hk 9).trans d9⟩
        · have m := of_ok (c := c2) (cap := cf) HOK.out HLN.out (hX12.up hW) (HPS.out W hW) HNL.out (by rw [HML.out]; omega) (hx0.up hW) HL0.out.body (by omega)
          rw [HML.out] at m
          exact m
        · intro a W hO hW hv
          obtain ⟨y44, y45, y46, y47, y48, y49, y50, y51, _, rfl⟩ := offH hO
          clear hO hv
          go_wp2_with fail
          go_meet
          case rel => exact hW
      · have g0 : (qy == 0) = false := by simpa using hy
        go_wp2_with fail
        go_meet
        case rel => exact Below.refl _ _
    case rest =>
      have hP13 := hP12.up hcut
      have hQ13 := hQ12.up hcut
      have hX13 := hX12.up hcut
      have hY13 := hY12.up hcut
      have hT13 := hT12.up hcut
      have HB13 : Hid (Below w9.heap.size w9 wc) := Below.thn HB12.out hcut
      clear hcut hP12 hQ12 hX12 hY12 hT12 HB12 HPS HNL HML fl12
      rename World => Y
      go_wp2_with fail
      go_loopw [12] (fun v wr => ∃ k : Nat, k ≤ qs.length ∧ v = .int .i64 k ∧ Below Y.heap.size Y wr) (fun v _ => qs.length - (intOf v).toNat)
      case atStart => exact ⟨0, Nat.zero_le _, rfl, Below.refl _ _⟩
      case round =>
        obtain ⟨k, hkn, rfl, hBk⟩ := hrel
        have HBk : Hid (Below w9.heap.size w9 wr) := Below.thn HB13.out hBk
        by_cases hlt : k < qs.length
        · obtain ⟨bm, om, e, hr⟩ := HQ.out.1 (by intro e; rw [e] at hlt; simp at hlt)
          subst e
          have hr0 := hr k hlt
          have hrow := HROW.out k (by omega)
          have eg : (qs ++ [room, room]).getD k pa0 = qs.getD k pa0 := by rw [List.getD_eq_getElem?_getD, List.getElem?_append_left hlt, List.getD_eq_getElem?_getD]
          rw [eg] at hrow
          obtain ⟨q, hq⟩ : ∃ q, q = qs.getD k pa0 := ⟨_, rfl⟩
          rw [← hq] at hrow hr0
          clear hq eg
          obtain ⟨s, t, z⟩ := q
          have hgl := cell_lt (hrow 0 _ rfl)
          have hml := cell_lt (hr0 0 _ rfl)
          have hw := Below.thn HB9.out HBk.out
          have c0 : wr.cell? ⟨g, k * 3, none⟩ = some (.string (bs s)) := (World.cell?_of_block (HBk.out.block g hgl)).trans (hrow 0 _ rfl)
          have c1 : wr.cell? ⟨g, k * 3 + 1, none⟩ = some (.int .i64 t) := (World.cell?_of_block (HBk.out.block g hgl)).trans (hrow 1 _ rfl)
          have c2' : wr.cell? ⟨g, k * 3 + 2, none⟩ = some (.int .i64 z) := (World.cell?_of_block (HBk.out.block g hgl)).trans (hrow 2 _ rfl)
          have c3 : wr.cell? ⟨bm, om + k * 3, none⟩ = some (.string (bs s)) := (World.cell?_of_block (hw.block bm hml)).trans (hr0 0 _ rfl)
          have c4' : wr.cell? ⟨bm, om + k * 3 + 1, none⟩ = some (.int .i64 t) := (World.cell?_of_block (hw.block bm hml)).trans (hr0 1 _ rfl)
          have c5 : wr.cell? ⟨bm, om + k * 3 + 2, none⟩ = some (.int .i64 z) := (World.cell?_of_block (hw.block bm hml)).trans (hr0 2 _ rfl)
          have hg2 := cell_lt c0
          have hm2 := cell_lt c3
          clear hrow hr0 hr hw
          go_upto_region 15 with fail
          refine wp_region_any (by kernel_rfl) ?_
          refine keep15 (X0 := wr) (g := g) (n := qs.length) (cf := cf) (k := k) (bm := bm) (om := om) (cm := cm) (s := s) (t := t) (z := z) hlt (fun W hW => ⟨(World.cell?_of_block (hW.block g hg2)).trans c0, (World.cell?_of_block (hW.block g hg2)).trans c1, (World.cell?_of_block (hW.block g hg2)).trans c2', (World.cell?_of_block (hW.block bm hm2)).trans c3, (World.cell?_of_block (hW.block bm hm2)).trans c4', (World.cell?_of_block (hW.block bm hm2)).trans c5⟩) (by show 95 ≤ 95; decide) rfl rfl rfl (Below.refl _ _).drew ?_
          intro a W hO hW hv
          obtain ⟨y58, y59, y60, y61, y62, y63, y64, y65, y66, ⟨_, _, _, _, _, _, _, _, e66⟩, rfl⟩ := offI hO
          have f66 : y66 = .bool false := e66.symm.trans (hv 8 (by decide))
          subst f66
          have HBW : Hid (Below Y.heap.size Y W) := Below.thn hBk hW
          clear hO hv e66 c0 c1 c2' c3 c4' c5 hBk hW
          go_wp2_with fail
          go_roundw
          case rel => exact ⟨k + 1, by omega, by go_num, HBW.out⟩
          case measure => simp [intOf]; omega
        · have hke : k = qs.length := by omega
          subst hke
          have hP14 := hP13.up hBk
          have hQ14 := hQ13.up hBk
          have hX14 := hX13.up hBk
          have hY14 := hY13.up hBk
          have hT14 := hT13.up hBk
          have hgn := HOK.out.num
          have r0 : wr.cell? ⟨g, qs.length * 3, none⟩ = some (.string ⟨#[114, 111, 111, 109]⟩) := by
            have h0 := HROW.out qs.length (by omega)
            rw [List.getD_eq_getElem?_getD, List.getElem?_append_right (Nat.le_refl _), Nat.sub_self] at h0
            exact (World.cell?_of_block (HBk.out.block g (cell_lt (h0 0 _ rfl)))).trans (h0 0 _ rfl)
          have r1 : wr.cell? ⟨g, (qs.length + 1) * 3, none⟩ = some (.string ⟨#[114, 111, 111, 109]⟩) := by
            have h0 := HROW.out (qs.length + 1) (by omega)
            rw [List.getD_eq_getElem?_getD, List.getElem?_append_right (Nat.le_succ _), show qs.length + 1 - qs.length = 1 by omega] at h0
            exact (World.cell?_of_block (HBk.out.block g (cell_lt (h0 0 _ rfl)))).trans (h0 0 _ rfl)
          have hg2 := cell_lt r0
          go_upto_region 17 with fail
          refine wp_region_any (by kernel_rfl) ?_
          refine keep17 (X0 := wr) (g := g) (N := qs.length + 2) (cf := cf) (n := qs.length) (cm := cm) (m := qs.length + 1) (b5 := b5) (b7 := b7) (b11 := b11) (ng := gs.length) (c2 := c2) (c4 := c4) (am := am) (a2 := a2) (a4 := a4) (zy := zy) (za := za) (by omega) (by omega) (by omega) (by omega) (fun W hW => ⟨(World.cell?_of_block (hW.block g hg2)).trans r0, (World.cell?_of_block (hW.block g hg2)).trans r1, (hP14.up hW).cell 0, (hQ14.up hW).cell 0, (hT14.up hW).cell 0, (hT14.up hW).cell 1⟩) (fun W hW => ?_) (fun W hW => ?_) (by show 95 ≤ 95; decide) rfl rfl rfl rfl rfl (Below.refl _ _).drew ?_
          · exact same4_any true gs gs (fun g hg => by have := HOK.out.sz g hg; omega) (fun g hg => by have := HOK.out.pms g hg; omega) (by omega) (LiR.refl (fun g => FnR.refl (fun _ _ => rfl) g) gs) W _ _ a2 a4 c2 c4 (hX14.up hW) (hY14.up hW)
          · have m := check_ok (c := c2) HOK.out HLN.out (hX14.up hW)
            rw [HZ.out] at m
            exact m
          · intro a W hO hW hv
            have e4 : Rv.ev a 4 = .bool true := hv 28 (by decide)
            have e4' : a.tmps[4]?.getD undef = .bool true := by rw [← e4]; simp [Rv.ev, Act.eval]
            have hdf' : a.defers = [] := hO.def_
            have HE : Hid (Below w.heap.size w W) := Below.thn (Below.thn HB9.out HBk.out) hW
            clear hO hv e4 hW r0 r1 hP14 hQ14 hX14 hY14 hT14 hBk
            go_wp2_with fail
            exact bodyPost_ret (v := .bool true) (by simp only [results, Try.results6]; simp [go_sem, e4']) hdf' ⟨rfl, HE.out⟩
  · have hb3 := below_alloc w2 (.cells #[.slice none 0 0] 26)
    have HB3 : Hid _ := Below.thn hB2 hb3
    clear hb3 hB2
    go_wp2_with fail
    go_ret
    exact ⟨rfl, HB3.out⟩
end Go.Proofs.Ytnpigleolifcaaa
