/-
  The walk of ShowPrints.
-/
import Derived.Test.YtflennpocpbbpaaGreatDoorUZ
import Derived.Test.YtflennpocpbbpaaGreatDoorXm
namespace Go.Proofs.YtflennpocpbbpaaGreatDoor
open Go.RowKit
set_option maxRecDepth 100000

theorem ln_wf {l : List UInt8} {ms : List Mk} {f : Nat} {gs : List Fn1} {j : Nat} (hl : l.length ≤ 32768) (hc : cut rdN l 0 = .ok ms) (hp : progL (mf ms) LW5 f [] 0 = .ok gs j) : ∀ g ∈ gs, wfE LnN LnU g.body := fun g hg =>
  (al_prog (Nm := LnN) (Nu := LnU) (mf ms) LW5 (fun k _ => Nat.le_trans (mf_len hc k) hl) (fun k h => by show (txt _ _).length ≤ _; rw [mf_txt rd_back hc k h]; exact Nat.le_trans (mf_len hc k) hl) f [] 0 (by simp) gs j hp g hg).body

set_option maxHeartbeats 8000000 in
theorem showPrints_any (ao : Option Addr) (cap : Nat) (l : List UInt8) (hcap : l.length ≤ cap) (w : World) (hTab : Tab w) (hT : Bd w ao l) :
    Calls Tryz.prog 8 #[.slice ao l.length cap] w fun e w' => e = .returned (.bool true) ∧ Below w.heap.size w w' := by
  obtain ⟨F, hF⟩ : ∃ F, F = 12 * (l.length + 1) + 9 := ⟨_, rfl⟩
  have hfu : ∀ ms, cut rdN l 0 = .ok ms → progL (mf ms) LW5 F [] 0 ≠ .out := fuel_ok l LW5 F (by omega)
  have HF : Hid (F = 12 * (l.length + 1) + 9) := hF
  clear hF
  go_enter Tryz.func8, Tryz.ntmps8
  go_wp2_with fail
  refine (awake5_any w hTab).mono ?_
  rintro e w1 ⟨rfl, hb1⟩
  have m2 := read5_any ao cap l hcap w1 (hT.up hb1) F hfu
  go_wp2_with fail
  refine m2.mono ?_
  rintro e w2 ⟨hb2, hrd⟩
  have hB2 := Below.thn hb1 hb2
  clear m2 hb1 hb2
  rcases rd_fork hrd with ⟨ms, gs, j, a2, c2, hl, hc, hp, rfl, hfl⟩ | rfl
  · have hok : PrgOk gs := prgOk hl (by rw [HF.out]; exact Nat.le_refl _) hc hp
    have hv := ln_wf hl hc hp
    have hb3 := below_alloc w2 (.cells #[.slice a2 gs.length c2] 42)
    have hP3 := Bk.new w2 42 #[.slice a2 gs.length c2]
    generalize hW3 : w2.alloc (.cells #[.slice a2 gs.length c2] 42) = W3 at *
    have HB3 : Hid (Below w.heap.size w W3) := Below.thn hB2 hb3
    have HP3 : Hid (Bk W3 w2.heap.size 42 [.slice a2 gs.length c2]) := hP3
    have HX3 : Hid (FlW W3 (fun b => w1.heap.size ≤ b) a2 gs) := hfl.up hb3
    have HOK : Hid (PrgOk gs) := hok
    have HV : Hid (∀ g ∈ gs, wfE LnN LnU g.body) := hv
    have hgl := hok.num
    clear hfl hb3 hP3 hok hp hc hrd hB2 hv hfu
    go_wp2_with fail
    first | rw [hW3] | skip
    clear hW3
    go_loopw [5] (fun i wr => ∃ k : Nat, k ≤ gs.length ∧ i = .int .i64 k ∧ Below W3.heap.size W3 wr) (fun i _ => gs.length - (intOf i).toNat)
    case atStart => exact ⟨0, Nat.zero_le _, rfl, Below.refl _ _⟩
    case round =>
      obtain ⟨k, hkn, rfl, hBr⟩ := hrel
      have pr : wr.cell? ⟨w2.heap.size, 0, none⟩ = some (.slice a2 gs.length c2) := (HP3.out.up hBr).cell 0
      by_cases hlt : k < gs.length
      · obtain ⟨G, es, rfl, _, hr, hx⟩ := (HX3.out.up hBr).body k hlt
        have hgm := getD_mem fd gs k hlt
        obtain ⟨x0, x1, x2, x3, x4, x5, x6, rfl⟩ := list7 hx.len
        have HBR : Hid (Below W3.heap.size W3 wr) := hBr
        have HX : Hid (ExW wr (fun b => w1.heap.size ≤ b) (gs.getD k fd).body [x0, x1, x2, x3, x4, x5, x6]) := hx
        have HR : Hid (wr.rangeAt G (k * 11 + 3) [x0, x1, x2, x3, x4, x5, x6]) := hr
        have m8 : ∀ W, Below wr.heap.size wr W → Calls Tryz.prog 22 #[.agg #[x0, x1, x2, x3, x4, x5, x6]] W fun r w' => r = .returned (.string (bs (shE (gs.getD k fd).body))) ∧ Below W.heap.size W w' := fun W hW => showExpr_ok (tab_keep hTab (Below.thn HB3.out (Below.thn HBR.out hW))) HOK.out hgm _ (HX.out.up hW)
        have m9 : ∀ W, Below wr.heap.size wr W → Calls Tryz.prog 23 #[.agg #[x0, x1, x2, x3, x4, x5, x6]] W fun r w' => r = .returned (.string (bs (shE (gs.getD k fd).body))) ∧ Below W.heap.size W w' := fun W hW => rexpr_w _ (gs.getD k fd).body (Nat.le_refl _) (HOK.out.sz _ hgm) (HOK.out.wf _ hgm).body (HV.out _ hgm) W _ _ (HX.out.up hW)
        generalize shE (gs.getD k fd).body = T at *
        have hkI : (k : Int) < gs.length := by omega
        have hk0 : (0 : Int) ≤ k := by omega
        have hqq : ((bs T).toList == (bs T).toList) = true := by simp
        have hqn : ((bs T).toList != (bs T).toList) = false := by simp
        have sB : ∀ W, Below wr.heap.size wr W → W.cell? ⟨w2.heap.size, 0, none⟩ = some (.slice (some ⟨G, 0, none⟩) gs.length c2) ∧ W.cell? ⟨G, k * 11 + 3, none⟩ = some x0 ∧ W.cell? ⟨G, k * 11 + 4, none⟩ = some x1 ∧ W.cell? ⟨G, k * 11 + 5, none⟩ = some x2 ∧ W.cell? ⟨G, k * 11 + 6, none⟩ = some x3 ∧ W.cell? ⟨G, k * 11 + 7, none⟩ = some x4 ∧ W.cell? ⟨G, k * 11 + 8, none⟩ = some x5 ∧ W.cell? ⟨G, k * 11 + 9, none⟩ = some x6 := fun W hW =>
          have q := range_keep HR.out (by simp) (fun hl => hW.block _ hl)
          ⟨(HP3.out.up (Below.thn HBR.out hW)).cell 0, q 0 _ rfl, q 1 _ rfl, q 2 _ rfl, q 3 _ rfl, q 4 _ rfl, q 5 _ rfl, q 6 _ rfl⟩
        have hB1 := Below.refl wr.heap.size wr
        have hBD := (Below.refl wr.heap.size wr).drew
        have s1 := sB wr hB1
        have sD := sB wr.drew hBD
        clear hx hBr hr hgm
        go_upto_region 9 with fail
        clear pr
        go_region_held3 (fun W => W.cell? ⟨w2.heap.size, 0, none⟩ = some (.slice (some ⟨G, 0, none⟩) gs.length c2) ∧ W.cell? ⟨G, k * 11 + 3, none⟩ = some x0 ∧ W.cell? ⟨G, k * 11 + 4, none⟩ = some x1 ∧ W.cell? ⟨G, k * 11 + 5, none⟩ = some x2 ∧ W.cell? ⟨G, k * 11 + 6, none⟩ = some x3 ∧ W.cell? ⟨G, k * 11 + 7, none⟩ = some x4 ∧ W.cell? ⟨G, k * 11 + 8, none⟩ = some x5 ∧ W.cell? ⟨G, k * 11 + 9, none⟩ = some x6) (first | (with_reducible exact s1) | (with_reducible exact sD) | (with_reducible assumption)) (first
          | (go_at_call 22; with_reducible refine Calls.mono (m8 _ (by assumption)) ?_; rintro r wy ⟨rfl, hby⟩; have hBy := Below.thn (show Below wr.heap.size wr _ by assumption) hby; have sy := sB wy hBy; clear hby)
          | (go_at_call 23; with_reducible refine Calls.mono (m9 _ (by assumption)) ?_; rintro r wz ⟨rfl, hbz⟩; have hBz := Below.thn (show Below wr.heap.size wr _ by assumption) hbz; have sz := sB wz hBz; clear hbz)
          | fail)
        all_goals
          have HBZ : Hid (Below W3.heap.size W3 wz) := Below.thn HBR.out hBz
          clear s1 sD hBz sB m8 m9
          go_wp2_with fail
          go_roundw
          case rel => exact ⟨k + 1, by omega, by go_num, HBZ.out⟩
          case measure => simp [intOf]; omega
      · have hke : k = gs.length := by omega
        subst hke
        have HBR : Hid (Below W3.heap.size W3 wr) := hBr
        have m8 : ∀ W, Below wr.heap.size wr W → Calls Tryz.prog 24 #[.agg #[.slice a2 gs.length c2]] W fun r w' => r = .returned (.string (bs (prT gs))) ∧ Below W.heap.size W w' := fun W hW => showProgram_ok (tab_keep hTab (Below.thn HB3.out (Below.thn HBR.out hW))) HOK.out (HX3.out.up (Below.thn HBR.out hW))
        have m9 : ∀ W, Below wr.heap.size wr W → Calls Tryz.prog 25 #[.agg #[.slice a2 gs.length c2]] W fun r w' => r = .returned (.string (bs (prT gs))) ∧ Below W.heap.size W w' := fun W hW => rprogram_w HOK.out HV.out (HX3.out.up (Below.thn HBR.out hW))
        generalize prT gs = T at *
        have hqq : ((bs T).toList == (bs T).toList) = true := by simp
        have sB : ∀ W, Below wr.heap.size wr W → W.cell? ⟨w2.heap.size, 0, none⟩ = some (.slice a2 gs.length c2) := fun W hW => (HP3.out.up (Below.thn HBR.out hW)).cell 0
        have hB1 := Below.refl wr.heap.size wr
        have hBD := (Below.refl wr.heap.size wr).drew
        have s1 := sB wr hB1
        have sD := sB wr.drew hBD
        clear hBr
        go_upto_region 11 with fail
        clear pr
        go_region_held3 (fun W => W.cell? ⟨w2.heap.size, 0, none⟩ = some (.slice a2 gs.length c2)) (first | (with_reducible exact s1) | (with_reducible exact sD) | (with_reducible assumption)) (first
          | (go_at_call 24; with_reducible refine Calls.mono (m8 _ (by assumption)) ?_; rintro r wy ⟨rfl, hby⟩; have hBy := Below.thn (show Below wr.heap.size wr _ by assumption) hby; have sy := sB wy hBy; clear hby)
          | (go_at_call 25; with_reducible refine Calls.mono (m9 _ (by assumption)) ?_; rintro r wz ⟨rfl, hbz⟩; have hBz := Below.thn (show Below wr.heap.size wr _ by assumption) hbz; have sz := sB wz hBz; clear hbz)
          | fail)
        all_goals
          have HBZ : Hid (Below w.heap.size w wz) := Below.thn HB3.out (Below.thn HBR.out hBz)
          clear s1 sD hBz sB m8 m9
          go_wp2_with fail
          go_ret
          exact ⟨rfl, HBZ.out⟩
  · have hb3 := below_alloc w2 (.cells #[.slice none 0 0] 42)
    have HB3 : Hid _ := Below.thn hB2 hb3
    clear hb3 hB2
    go_wp2_with fail
    go_ret
    exact ⟨rfl, HB3.out⟩
end Go.Proofs.YtflennpocpbbpaaGreatDoor
