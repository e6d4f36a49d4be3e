/-
  The walk of LangFaults.
-/
import Derived.Test.YtkonkplalgoekaaGreatDoorUM
import Derived.Deep.DeepCutAuto
import Derived.Deep.RegionHeld3
namespace Go.Proofs.YtkonkplalgoekaaGreatDoor
open Go.RowKit
set_option maxRecDepth 100000

abbrev flt (x y : Int) : Obj := .cells #[.int .i64 x, .int .i64 y] 33
abbrev prg (v : Value) : Obj := .cells #[v] 30

/-- What Parse told: the definitions' slice, the fault. -/
theorem paV_cases {l : List UInt8} {lt lf la ln : Int} {f B : Nat} {e : Ending} {w' : World} (h : paV l lt lf la ln f B e w') (hf : ∀ ms, cut rdN l 0 = .ok ms → progL (mf ms) ⟨max lf 0, max la 0, max ln 0⟩ f [] 0 ≠ .out) :
    (cT lt < l.length ∧ e = .returned (noneV 22 (cT lt))) ∨ (l.length ≤ cT lt ∧ ∃ k, cut rdN l 0 = .bad k ∧ e = .returned (noneV 20 k)) ∨
    (l.length ≤ cT lt ∧ ∃ ms gs j, cut rdN l 0 = .ok ms ∧ progL (mf ms) ⟨max lf 0, max la 0, max ln 0⟩ f [] 0 = .ok gs j ∧ ∃ ao c, e = .returned (.tuple #[.agg #[.slice ao gs.length c], .agg #[.int .i64 0, .int .i64 0]]) ∧ FlW w' (fun b => B ≤ b) ao gs) ∨
    (l.length ≤ cT lt ∧ ∃ ms y k, cut rdN l 0 = .ok ms ∧ progL (mf ms) ⟨max lf 0, max la 0, max ln 0⟩ f [] 0 = .bad y k ∧ e = .returned (noneV y (mf ms k).at_)) := by
  unfold paV at h
  by_cases hb : cT lt < l.length
  · rw [if_pos hb] at h
    exact .inl ⟨hb, h⟩
  · rw [if_neg hb] at h
    refine .inr ?_
    have hle : (l.length : Int) ≤ cT lt := by omega
    cases hc : cut rdN l 0 with
    | bad k =>
      rw [hc] at h
      exact .inl ⟨hle, k, rfl, h⟩
    | ok ms =>
      rw [hc] at h
      dsimp only at h
      cases hq : progL (mf ms) ⟨max lf 0, max la 0, max ln 0⟩ f [] 0 with
      | out => exact absurd hq (hf ms hc)
      | ok gs j =>
        rw [hq] at h
        exact .inr (.inl ⟨hle, ms, gs, j, rfl, hq, h⟩)
      | bad y k =>
        rw [hq] at h
        exact .inr (.inr ⟨hle, ms, y, k, rfl, hq, h⟩)

theorem cT_max : cT 32768 = 32768 := by decide
theorem Bd.oth {g : Nat} {w w' : World} {ao : Option Addr} {l : List UInt8} (h : Bd w ao l) (ho : Oth g w w') (hn : ∀ b off, ao = some ⟨b, off, none⟩ → b ≠ g) : Bd w' ao l := by
  refine ⟨fun hne => ?_⟩
  obtain ⟨b, off, e, hc⟩ := h.pl hne
  exact ⟨b, off, e, fun t ht => (ho.cell (a := ⟨b, off + t, none⟩) (hn b off e)).trans (hc t ht)⟩

theorem Row1.le {k e : Nat} {ms : List Mk} (h : Row1 k e ms) {t : Nat} (ht : t < ms.length) : (mf ms t).at_ ≤ e := by
  have hpos := h.pos
  have hlast := h.last (t := ms.length - 1) (by omega)
  rcases Nat.lt_or_ge t (ms.length - 1) with hlt | hge
  · have hp := List.pairwise_iff_getElem.1 h.inc t (ms.length - 1) ht (by omega) hlt
    have e1 := mf_mem ht
    have e2 := mf_mem (ms := ms) (k := ms.length - 1) (by omega)
    rw [List.getElem?_eq_getElem ht, Option.some.injEq] at e1
    rw [List.getElem?_eq_getElem (by omega), Option.some.injEq] at e2
    rw [e1, e2, hlast] at hp
    simp only [endM] at hp
    omega
  · rw [show t = ms.length - 1 by omega, hlast]
    exact Nat.le_refl _

set_option maxHeartbeats 8000000 in
theorem langFaults_any (a1 a2 : Option Addr) (c1 c2 : Nat) (l1 l2 : List UInt8) (lt lf la ln : Int) (hln : ln ≤ 9223372036854775807) (hlen : l1.length + l2.length + 2 ≤ 1048576) (hc1 : l1.length ≤ c1) (hc2 : l2.length ≤ c2) (hn1 : a1 = none → c1 = 0) (hn2 : a2 = none → c2 = 0) (w : World) (hG : Gl w) (hE : Env w) (h1 : Bd w a1 l1) (h2 : Bd w a2 l2) :
    Calls Tryz.prog 4 #[.slice a1 l1.length c1, .agg #[.int .i64 lt, .int .i64 lf, .int .i64 la, .int .i64 ln], .slice a2 l2.length c2] w fun e w' => e = .returned (.bool true) ∧ Below w.heap.size w w' := by
  obtain ⟨F, hF⟩ : ∃ F, F = 12 * (l1.length + l2.length + 10) + 9 := ⟨_, rfl⟩
  have hfu1 := fuel_ok l1 ⟨max lf 0, max la 0, max ln 0⟩ F (by omega)
  have hb0 := below_alloc w (.cells #[.int .i64 lt, .int .i64 lf, .int .i64 la, .int .i64 ln] 24)
  have hL0 := Bk.new w 24 #[.int .i64 lt, .int .i64 lf, .int .i64 la, .int .i64 ln]
  go_enter Tryz.func4, Tryz.ntmps4
  go_wp2_with fail
  refine (awake4_any _ (hG.up hb0) (env_keep hE hb0)).mono ?_
  rintro e w1 ⟨rfl, hb1⟩
  have hB1 := Below.thn hb0 hb1
  have hL1 : Bk w1 w.heap.size 24 [.int .i64 lt, .int .i64 lf, .int .i64 la, .int .i64 ln] := hL0.up hb1
  obtain ⟨l0, l1', l2', l3'⟩ := hL1.four
  clear hb0 hb1 hL0
  go_wp2_with fail
  refine (langParse_any a1 c1 l1 (by omega) hc1 lt lf la ln hln w1 (hG.up hB1) (env_keep hE hB1) (h1.up hB1) F hfu1).mono ?_
  rintro e w2 ⟨hb2, hpa⟩
  have hB2 := Below.thn hB1 hb2
  have hL2 := hL1.up hb2
  have hcs := paV_cases hpa hfu1
  clear hpa l0 l1' l2' l3' hL1 hB1 hb2 hfu1
  rcases hcs with ⟨hbig, rfl⟩ | ⟨hle, k, hcut, rfl⟩ | ⟨hle, ms, gs, j, hcut, hpr, ao, c, rfl, _⟩ | ⟨hle, ms, y, k, hcut, hpr, rfl⟩
  · unfold noneV
    have q3 := below_two w2 (prg (.slice none 0 0)) (flt 22 (cT lt))
    have hB3 := Below.thn hB2 q3
    have hL3 := hL2.up q3
    have l0 := hL3.four.1
    have hP3 := (Bk.new w2 30 #[(.slice none 0 0)]).up (below_alloc _ (flt 22 (cT lt)))
    have hF3 := Bk.newAt (w := w2.alloc (prg (.slice none 0 0))) (n := w2.heap.size + 1) 33 #[.int .i64 22, .int .i64 (cT lt)] (by simp)
    have p0 : ((w2.alloc (prg (.slice none 0 0))).alloc (flt 22 (cT lt))).cell? ⟨w2.heap.size, 0, none⟩ = some (.slice none 0 0) := hP3.cell 0
    have f0 : ((w2.alloc (prg (.slice none 0 0))).alloc (flt 22 (cT lt))).cell? ⟨w2.heap.size + 1, 0, none⟩ = some (.int .i64 22) := hF3.cell 0
    have f1 : ((w2.alloc (prg (.slice none 0 0))).alloc (flt 22 (cT lt))).cell? ⟨w2.heap.size + 1, 1, none⟩ = some (.int .i64 (cT lt)) := hF3.cell 1
    have g0 : 0 ≤ cT lt := by unfold cT; omega
    have b1 : decide (cT lt < 0) = false := by rw [decide_eq_false_iff_not]; omega
    have b2 : decide ((l1.length : Int) < cT lt) = false := by rw [decide_eq_false_iff_not]; omega
    have b3 : decide (min (max lt 0) 32768 < (l1.length : Int)) = true := by rw [decide_eq_true_eq]; exact hbig
    have b4 : (cT lt == min (max lt 0) 32768) = true := by unfold cT; simp
    clear hP3 hF3 hL3 hL2 hB2 hG hE h1 h2 hbig q3
    go_wp2
    go_ret
    exact ⟨rfl, hB3⟩
  · unfold noneV
    have q3 := below_two w2 (prg (.slice none 0 0)) (flt 20 k)
    have hB3 := Below.thn hB2 q3
    have hL3 := hL2.up q3
    have l0 := hL3.four.1
    have hP3 := (Bk.new w2 30 #[(.slice none 0 0)]).up (below_alloc _ (flt 20 k))
    have hF3 := Bk.newAt (w := w2.alloc (prg (.slice none 0 0))) (n := w2.heap.size + 1) 33 #[.int .i64 20, .int .i64 k] (by simp)
    have p0 : ((w2.alloc (prg (.slice none 0 0))).alloc (flt 20 k)).cell? ⟨w2.heap.size, 0, none⟩ = some (.slice none 0 0) := hP3.cell 0
    have f0 : ((w2.alloc (prg (.slice none 0 0))).alloc (flt 20 k)).cell? ⟨w2.heap.size + 1, 0, none⟩ = some (.int .i64 20) := hF3.cell 0
    have f1 : ((w2.alloc (prg (.slice none 0 0))).alloc (flt 20 k)).cell? ⟨w2.heap.size + 1, 1, none⟩ = some (.int .i64 k) := hF3.cell 1
    have hkl := (cut_bad_at rdN _ _ _ hcut).2.1
    rw [Nat.zero_add] at hkl
    have b1 : decide ((k : Int) < 0) = false := by rw [decide_eq_false_iff_not]; omega
    have b2 : decide ((l1.length : Int) < (k : Int)) = false := by rw [decide_eq_false_iff_not]; omega
    have b3 : decide (min (max lt 0) 32768 < (l1.length : Int)) = false := by rw [decide_eq_false_iff_not]; unfold cT at hle; omega
    have m4 := marks_val a1 c1 l1 (by omega) hc1 _ (hG.up hB3) (env_keep hE hB3) (h1.up hB3)
    rw [hcut] at m4
    simp only [msC, fwC, faC] at m4
    clear hL3 hL2 hB2 hG hE h2 hle q3 hcut
    go_wp2_with fail
    refine m4.mono ?_
    rintro e w4 ⟨gx, px, rfl, _, _, hb4⟩
    have q5 := Below.thn hb4 (below_alloc w4 (flt 20 k))
    have hB5 := Below.thn hB3 q5
    have hF5 := hF3.up q5
    have f0 : (w4.alloc (flt 20 k)).cell? ⟨w2.heap.size + 1, 0, none⟩ = some (.int .i64 20) := hF5.cell 0
    have f1 : (w4.alloc (flt 20 k)).cell? ⟨w2.heap.size + 1, 1, none⟩ = some (.int .i64 k) := hF5.cell 1
    have hg5 := Bk.new w4 33 #[.int .i64 20, .int .i64 k]
    have g0 : (w4.alloc (flt 20 k)).cell? ⟨w4.heap.size, 0, none⟩ = some (.int .i64 20) := hg5.cell 0
    have g1 : (w4.alloc (flt 20 k)).cell? ⟨w4.heap.size, 1, none⟩ = some (.int .i64 k) := hg5.cell 1
    clear m4 hP3 hF3 hF5 hg5 q5 hb4 hB3
    go_wp2
    go_ret
    exact ⟨rfl, hB5⟩
  · have hgs := prog_some _ _ _ _ _ _ _ hpr
    have q3 := below_two w2 (prg (.slice ao gs.length c)) (flt 0 0)
    have hB3 := Below.thn hB2 q3
    have hL3 := hL2.up q3
    have l0 := hL3.four.1
    have hP3 := (Bk.new w2 30 #[(.slice ao gs.length c)]).up (below_alloc _ (flt 0 0))
    have hF3 := Bk.newAt (w := w2.alloc (prg (.slice ao gs.length c))) (n := w2.heap.size + 1) 33 #[.int .i64 0, .int .i64 0] (by simp)
    have p0 : ((w2.alloc (prg (.slice ao gs.length c))).alloc (flt 0 0)).cell? ⟨w2.heap.size, 0, none⟩ = some (.slice ao gs.length c) := hP3.cell 0
    have f0 : ((w2.alloc (prg (.slice ao gs.length c))).alloc (flt 0 0)).cell? ⟨w2.heap.size + 1, 0, none⟩ = some (.int .i64 0) := hF3.cell 0
    have f1 : ((w2.alloc (prg (.slice ao gs.length c))).alloc (flt 0 0)).cell? ⟨w2.heap.size + 1, 1, none⟩ = some (.int .i64 0) := hF3.cell 1
    have b1 : decide (0 < (gs.length : Int)) = true := by rw [decide_eq_true_eq]; omega
    clear hP3 hF3 hL3 hL2 hB2 hG hE h1 h2 hle q3 hpr hcut
    go_wp2
    go_ret
    exact ⟨rfl, hB3⟩
  · have hrow := cut_row rdN _ _ _ hcut
    have hfew := cut_few _ _ _ hcut
    have hkn : k < ms.length := by
      have := gd_prog (mf ms) ⟨max lf 0, max la 0, max ln 0⟩ hrow.ends F [] 0 hrow.pos (by omega)
      rw [hpr] at this
      exact this
    have hfk : y = 21 ∨ ((y = 22 ∨ y = 23) ∧ (mf ms k).kind ≠ 4) := by
      have := fk_prog (mf ms) ⟨max lf 0, max la 0, max ln 0⟩ hrow.four F [] 0
      rw [hpr] at this
      exact this
    have hal := hrow.le hkn
    rw [Nat.zero_add] at hal
    have hww := hB2.size
    obtain ⟨at1, hat⟩ : ∃ a, a = (mf ms k).at_ := ⟨_, rfl⟩
    rw [← hat] at hal
    unfold noneV
    rw [← hat]
    have q3 := below_two w2 (prg (.slice none 0 0)) (flt y at1)
    have hB3 := Below.thn hB2 q3
    have hL3 := hL2.up q3
    have l0 := hL3.four.1
    have hP3 := (Bk.new w2 30 #[(.slice none 0 0)]).up (below_alloc _ (flt y at1))
    have hF3 := Bk.newAt (w := w2.alloc (prg (.slice none 0 0))) (n := w2.heap.size + 1) 33 #[.int .i64 y, .int .i64 at1] (by simp)
    have p0 : ((w2.alloc (prg (.slice none 0 0))).alloc (flt y at1)).cell? ⟨w2.heap.size, 0, none⟩ = some (.slice none 0 0) := hP3.cell 0
    have f0 : ((w2.alloc (prg (.slice none 0 0))).alloc (flt y at1)).cell? ⟨w2.heap.size + 1, 0, none⟩ = some (.int .i64 y) := hF3.cell 0
    have f1 : ((w2.alloc (prg (.slice none 0 0))).alloc (flt y at1)).cell? ⟨w2.heap.size + 1, 1, none⟩ = some (.int .i64 at1) := hF3.cell 1
    have b1 : decide ((at1 : Int) < 0) = false := by rw [decide_eq_false_iff_not]; omega
    have b2 : decide ((l1.length : Int) < (at1 : Int)) = false := by rw [decide_eq_false_iff_not]; omega
    have b3 : decide (min (max lt 0) 32768 < (l1.length : Int)) = false := by rw [decide_eq_false_iff_not]; unfold cT at hle; omega
    have b0 : (y == 0) = false := by rw [beq_eq_false_iff_ne]; omega
    have m4 := marks_val a1 c1 l1 (by omega) hc1 _ (hG.up hB3) (env_keep hE hB3) (h1.up hB3)
    rw [hcut] at m4
    simp only [msC, fwC, faC] at m4
    have HC : Hid (cut rdN l1 0 = .ok ms) := hcut
    have HP : Hid (progL (mf ms) ⟨max lf 0, max la 0, max ln 0⟩ F [] 0 = .bad y k) := hpr
    have HAT : Hid (at1 = (mf ms k).at_) := hat
    clear hcut hpr hat q3
    go_wp2_with fail
    refine m4.mono ?_
    rintro e w4 ⟨gx, px, rfl, _, hrx, hb4⟩
    have q5 := Below.thn hb4 (below_alloc w4 (flt 0 0))
    have hB5 := Below.thn hB3 q5
    have hF5 := hF3.up q5
    have hP5 := hP3.up q5
    have hL5 := hL3.up q5
    have hrx5 := hrx.up (below_alloc w4 (flt 0 0))
    have f0 : (w4.alloc (flt 0 0)).cell? ⟨w2.heap.size + 1, 0, none⟩ = some (.int .i64 y) := hF5.cell 0
    have f1 : (w4.alloc (flt 0 0)).cell? ⟨w2.heap.size + 1, 1, none⟩ = some (.int .i64 at1) := hF5.cell 1
    have hg5 := Bk.new w4 33 #[.int .i64 0, .int .i64 0]
    have g0 : (w4.alloc (flt 0 0)).cell? ⟨w4.heap.size, 0, none⟩ = some (.int .i64 0) := hg5.cell 0
    clear m4 hP3 hF3 hL3 hL2 hB2 hrx hb4 p0 l0 hB3
    go_upto_region 13 with fail
    go_cut [90] (fun v wx => v = .bool false ∧ wx = w4.alloc (flt 0 0))
    case first =>
      rcases hfk with rfl | ⟨rfl | rfl, _⟩
      all_goals
        go_wp2
        go_meet
        case rel => exact ⟨rfl, rfl⟩
    case rest =>
      obtain ⟨rfl, rfl⟩ := hcut
      have hpos := hrow.pos
      obtain ⟨bx, ox, rfl, _⟩ := hrx5.pl (by intro e; rw [e] at hpos; simp at hpos)
      have hM5 : ∀ t, t < ms.length → M4 (w4.alloc (flt 0 0)) bx (ox + t * 4) (mf ms t) := by
        intro t ht
        have h1 := hrx5.at t ht
        have e : mf ms t = ms.getD t md := by unfold mf; simp [List.getD_eq_getElem?_getD, ht]
        rw [e]
        exact h1
      have HM : Hid (∀ t, t < ms.length → M4 (w4.alloc (flt 0 0)) bx (ox + t * 4) (mf ms t)) := hM5
      have HRW : Hid (Row1 0 (0 + l1.length) ms) := hrow
      have HFK : Hid (y = 21 ∨ ((y = 22 ∨ y = 23) ∧ (mf ms k).kind ≠ 4)) := hfk
      have HF5 : Hid (Bk (w4.alloc (flt 0 0)) (w2.heap.size + 1) 33 [.int .i64 y, .int .i64 at1]) := hF5
      have HL5 : Hid (Bk (w4.alloc (flt 0 0)) w.heap.size 24 [.int .i64 lt, .int .i64 lf, .int .i64 la, .int .i64 ln]) := hL5
      have hw5 : w2.heap.size + 1 < (w4.alloc (flt 0 0)).heap.size := hF5.lt
      obtain ⟨n, hn⟩ : ∃ n, n = ms.length := ⟨_, rfl⟩
      rw [← hn] at hkn hfew ⊢
      have HN : Hid (n = ms.length) := hn
      clear hrx5 hM5 hrow hfk hF5 hP5 hL5 hg5 g0 f0 f1 q5 hn hpos
      go_wp2
      generalize hW5 : w4.alloc (flt 0 0) = w5 at *
      clear hW5
      go_loopw [11] (fun i wr => ∃ j : Nat, j ≤ n ∧ (j ≤ k ∨ (mf ms k).kind = 4) ∧ i = .int .i64 j ∧ Below w5.heap.size w5 wr) (fun i _ => n - (intOf i).toNat)
      case atStart => exact ⟨0, Nat.zero_le _, .inl (Nat.zero_le _), rfl, Below.refl _ _⟩
      case round =>
        obtain ⟨j, hjn, hjk, rfl, hBr⟩ := hrel
        have hFr := Bk.up (show Bk w5 (w2.heap.size + 1) 33 _ from HF5) hBr
        have f0 := hFr.cell 0
        have f1 := hFr.cell 1
        dsimp only [List.getElem?_cons_zero, List.getElem?_cons_succ] at f0 f1
        by_cases hlt : j < n
        · have hMj := (show ∀ t, t < ms.length → _ from HM) j (by rw [← show n = _ from HN]; exact hlt)
          obtain ⟨m, hm⟩ : ∃ m, m = mf ms j := ⟨_, rfl⟩
          rw [← hm] at hMj
          have hMr := hMj.to hMj.lt hBr
          have k0 := hMr.1
          have k1 := hMr.2.1
          have k3 := hMr.2.2.2
          by_cases hjk2 : j = k
          · subst hjk2
            have hma : m.at_ = at1 := by rw [show at1 = _ from HAT, hm]
            rw [hma] at k3
            by_cases hk4 : m.kind = 4
            · have hkb : (m.kind == 4) = true := by rw [beq_iff_eq]; exact hk4
              have hk4' : (mf ms j).kind = 4 := by rw [← hm]; exact hk4
              clear hk4 hm hma hMj hMr hFr
              go_wp2
              go_region
              all_goals
                go_wp2
                go_roundw
                case rel => exact ⟨j + 1, by omega, .inr hk4', by go_num, hBr.drew⟩
                case measure => simp [intOf]; omega
            · have hkb : (m.kind == 4) = false := by rw [beq_eq_false_iff_ne]; exact hk4
              have hk4' : (mf ms j).kind ≠ 4 := by rw [← hm]; exact hk4
              have hBd := hBr.drew
              have hBw6 := Below.thn hB5 hBd
              have m6 := marks_val a2 c2 l2 (by omega) hc2 (World.drew wr) (hG.up hBw6) (env_keep hE hBw6) (h2.up hBw6)
              obtain ⟨cB, hcB⟩ : ∃ c, c = cut rdN l2 0 := ⟨_, rfl⟩
              rw [← hcB] at m6
              have HCB : Hid (cB = cut rdN l2 0) := hcB
              have HMM : Hid (m = mf ms j) := hm
              have HMA : Hid (m.at_ = at1) := hma
              have HMR : Hid (M4 wr bx (ox + j * 4) m) := hMr
              have HFR : Hid (Bk wr (w2.heap.size + 1) 33 [.int .i64 y, .int .i64 at1]) := hFr
              clear hcB hk4 hm hma hMj hMr hFr
              go_wp2
              go_region
              go_wp2_with fail
              refine m6.mono ?_
              rintro e w7 ⟨gy, py, rfl, _, _, hb7⟩
              cases cB with
              | bad kb =>
                have hBz := bal (o := flt 20 kb) (Below.thn hBw6 hb7)
                have z0 := (Bk.new w7 33 #[.int .i64 20, .int .i64 kb]).cell 0
                have z0' : (w7.alloc (flt 20 kb)).cell? ⟨w7.heap.size, 0, none⟩ = some (.int .i64 20) := z0
                simp only [msC, fwC, faC]
                clear m6 z0
                go_wp2
                go_ret
                exact ⟨rfl, hBz⟩
              | ok mb =>
                have hmbn := cut_ne rdN _ _ _ (show Cu.ok mb = _ from HCB).symm
                simp only [msC, fwC, faC]
                have hml : ((mb.length : Int) == 0) = false := by rw [beq_eq_false_iff_ne]; have := List.length_pos_iff.2 hmbn; omega
                have q8 := Below.thn hb7 (below_alloc w7 (flt 0 0))
                have q8w := Below.thn (Below.refl _ wr).drew q8
                have hB8 := Below.thn hBw6 q8
                have z0 : (w7.alloc (flt 0 0)).cell? ⟨w7.heap.size, 0, none⟩ = some (.int .i64 0) := (Bk.new w7 33 #[.int .i64 0, .int .i64 0]).cell 0
                have hF8 := Bk.up (show Bk wr _ _ _ from HFR) q8w
                have hM8 := M4.to (show M4 wr bx (ox + j * 4) m from HMR) (show M4 wr bx (ox + j * 4) m from HMR).lt q8w
                have hnn := show n = ms.length from HN
                have hmj : ms[j]? = some m := by rw [show m = _ from HMM]; exact mf_mem (by omega)
                have hk4m : m.kind ≠ 4 := by rw [show m = _ from HMM]; exact hk4'
                obtain ⟨_, i2, _⟩ := cut_upto rdN l1 0 ms (show cut rdN l1 0 = _ from HC) j m hmj hk4m
                have hj1 : j + 1 < ms.length := by
                  rcases Nat.lt_or_ge (j + 1) ms.length with h | h
                  · exact h
                  · have := (show Row1 0 _ ms from HRW).last (t := j) (by omega)
                    exact absurd (by rw [this]; rfl) hk4'
                have htx := ((show Row1 0 _ ms from HRW).inner hj1).2
                rw [← show m = _ from HMM] at htx
                have htl := List.length_pos_iff.2 htx
                rw [show m.at_ = _ from HMA, Nat.zero_add] at i2
                obtain ⟨b1, o1, rfl, _⟩ := h1.pl (by intro e; have e' := congrArg List.length e; rw [List.length_nil] at e'; omega)
                obtain ⟨Tn, hTn⟩ : ∃ Tn, Tn = at1 + m.text.length := ⟨_, rfl⟩
                rw [← hTn] at i2
                have hTl : (l1.take Tn).length = Tn := by rw [List.length_take]; omega
                have f1z : (w7.alloc (flt 0 0)).cell? ⟨w2.heap.size + 1, 1, none⟩ = some (.int .i64 at1) := hF8.cell 1
                have k1z : (w7.alloc (flt 0 0)).cell? ⟨bx, ox + j * 4 + 1, none⟩ = some (.string (bs m.text)) := hM8.2.1
                have hsz : (bs m.text).size = m.text.length := bs_size _
                have hwt : IntKind.i64.wrap ((at1 : Int) + (m.text.length : Int)) = (Tn : Int) := by rw [IntKind.wrap_i64]; omega
                have sl := fun W => run_slice_hiB b1 o1 l1.length c1 Tn (by omega) W
                have HTN : Hid (Tn = at1 + m.text.length) := hTn
                have HTL : Hid ((l1.take Tn).length = Tn) := hTl
                have hL8 := Bk.up (Bk.up (show Bk w5 w.heap.size 24 _ from HL5) hBr) q8w
                clear m6 f0 f1 k0 k1 k3 hTn hnn hmj hk4m hj1 htx q8w hTl
                have bA := below_alloc (w7.alloc (flt 0 0)) (.cells #[.int .u8 10] 5)
                have hT8 := Bd.take (h1.up hB8) Tn
                have hTl2 := show (l1.take Tn).length = Tn from HTL
                have cp1 := copied4_any (some ⟨b1, o1, none⟩) c1 (l1.take Tn) (fun e => by cases e) (by omega) (World.drew (w7.alloc (flt 0 0))) (hT8.up (Below.refl _ _).drew)
                have cp2 := copied4_any (some ⟨b1, o1, none⟩) c1 (l1.take Tn) (fun e => by cases e) (by omega) (World.drew ((w7.alloc (flt 0 0)).alloc (.cells #[.int .u8 10] 5))) (hT8.up bA.drew)
                rw [hTl2] at cp1 cp2
                have hS : ∀ W, Below (w7.alloc (flt 0 0)).heap.size (w7.alloc (flt 0 0)) W → W.cell? ⟨w2.heap.size + 1, 1, none⟩ = some (.int .i64 at1) ∧ W.cell? ⟨bx, ox + j * 4 + 1, none⟩ = some (.string (bs m.text)) := fun W hW => ⟨(hW.cell (cell_lt f1z)).trans f1z, (hW.cell (cell_lt k1z)).trans k1z⟩
                have hbd10 : Bd ((w7.alloc (flt 0 0)).alloc (.cells #[.int .u8 10] 5)) (some ⟨(w7.alloc (flt 0 0)).heap.size, 0, none⟩) [10] := Bd.new (w7.alloc (flt 0 0)) [10] 5 (0, 0)
                have es8 : (w7.alloc (flt 0 0)).heap.size = w7.heap.size + 1 := by simp
                rw [es8] at hbd10
                have bD := (Below.refl (w7.alloc (flt 0 0)).heap.size (w7.alloc (flt 0 0))).drew
                have bAD := bA.drew
                go_upto_region 22 with fail
                go_cut [14] (fun v wx => ∃ B, Hid (Own wx B v (l1.take Tn ++ [10])) ∧ (w7.alloc (flt 0 0)).heap.size ≤ B ∧ B ≤ wx.heap.size ∧ Below (w7.alloc (flt 0 0)).heap.size (w7.alloc (flt 0 0)) wx)
                case first =>
                  have HS : Hid (∀ W, Below (w7.alloc (flt 0 0)).heap.size (w7.alloc (flt 0 0)) W → W.cell? ⟨w2.heap.size + 1, 1, none⟩ = some (.int .i64 at1) ∧ W.cell? ⟨bx, ox + j * 4 + 1, none⟩ = some (.string (bs m.text))) := hS
                  have s8 := hS (w7.alloc (flt 0 0)) (Below.refl _ _)
                  have sD := hS (World.drew (w7.alloc (flt 0 0))) bD
                  have sA := hS ((w7.alloc (flt 0 0)).alloc (.cells #[.int .u8 10] 5)) bA
                  have sAD := hS (World.drew ((w7.alloc (flt 0 0)).alloc (.cells #[.int .u8 10] 5))) bAD
                  go_region_held3 (fun W => W.cell? ⟨w2.heap.size + 1, 1, none⟩ = some (.int .i64 at1) ∧ W.cell? ⟨bx, ox + j * 4 + 1, none⟩ = some (.string (bs m.text))) (first | (with_reducible exact sD) | (with_reducible exact sAD) | (with_reducible exact s9) | (with_reducible exact s9a) | (with_reducible exact s10) | (with_reducible exact s8) | (with_reducible exact sA)) (first
                    | (go_at_call 14; (with_reducible refine Calls.mono cp1 ?_); rintro e w9 ⟨v9, rfl, ho9, hb9⟩; have b9 := Below.thn bD hb9; have s9 := (show ∀ W, _ from HS) w9 b9; have s9a := (show ∀ W, _ from HS) (w9.alloc (.cells #[.int .u8 10] 5)) (Below.thn b9 (below_alloc _ _)); obtain ⟨v10, w10, r10, o10, b10⟩ := own_one w9 _ v9 (l1.take Tn) 10 ho9 hb9.size (by omega); rw [show ((10 : UInt8).toNat : Int) = 10 from rfl] at r10; have b10w := b9.trans (b10.mono bD.size); have s10 := (show ∀ W, _ from HS) w10 b10w; have R10a : Hid (_ = _) := r10; have O10 : Hid (Own w10 _ v10 _) := o10; clear r10 o10)
                    | (go_at_call 14; (with_reducible refine Calls.mono cp2 ?_); rintro e w9 ⟨v9, rfl, ho9, hb9⟩; have b9 := Below.thn bAD hb9; have s9 := (show ∀ W, _ from HS) w9 b9; obtain ⟨v10, w10, r10, o10, b10⟩ := own_app w9 _ v9 (l1.take Tn) ho9 hb9.size (some ⟨w7.heap.size + 1, 0, none⟩) 1 [10] ((hbd10.up (Below.refl _ _).drew).up hb9) (fun e => by cases e) (by omega) (by simp); rw [show [(10 : UInt8)].length = 1 from rfl] at r10; have b10w := b9.trans (b10.mono bAD.size); have s10 := (show ∀ W, _ from HS) w10 b10w; have R10b : Hid (_ = _) := r10; have O10 : Hid (Own w10 _ v10 _) := o10; clear r10 o10)
                    | (refine step_append_runU (by rfl) (.tmp 137) (.tmp 138) 22 22 (by rfl) (by rfl) v9 (.slice (some ⟨w9.heap.size, 0, none⟩) 1 1) (by rfl) (by rfl) v10 w10 (show _ = _ from R10a) ?_)
                    | (refine step_append_runU (by rfl) (.tmp 137) (.tmp 138) 22 22 (by rfl) (by rfl) v9 (.slice (some ⟨w7.heap.size + 1, 0, none⟩) 1 1) (by rfl) (by rfl) v10 w10 (show _ = _ from R10b) ?_)
                    | fail)
                  all_goals
                    go_wp2_with fail
                    go_meet
                    case rel => exact ⟨_, O10, by first | exact Nat.le_refl _ | exact bAD.size, Nat.le_trans hb9.size b10.size, b10w⟩
                case rest =>
                  obtain ⟨B, hO, hBB, hBs, hb10⟩ := hcut
                  generalize wc = w10 at *
                  clear cp1 cp2 hbd10 bD bAD bA hS
                  have hB10 := Below.thn hB8 hb10
                  have hln2 : (l1.take Tn ++ [(10 : UInt8)]).length = Tn + 1 := by rw [List.length_append, hTl2]; rfl
                  obtain ⟨v11, w11, r11, o11, b11⟩ := own_app w10 B _ (l1.take Tn ++ [10]) (show Own w10 B _ _ from hO) hBs a2 c2 l2 (h2.up hB10) hn2 (by omega) (by omega)
                  have hb11 := hb10.trans (b11.mono hBB)
                  have hB11 := Below.thn hB8 hb11
                  obtain ⟨T2, hT2⟩ : ∃ T2, T2 = l1.take Tn ++ [10] ++ l2 := ⟨_, rfl⟩
                  have hT2l : T2.length = Tn + 1 + l2.length := by rw [hT2, List.length_append, hln2]
                  rw [← hT2] at o11
                  obtain ⟨ao, cp, hv11, hbd, hcp, _, hlo⟩ := o11.bd
                  subst hv11
                  have hL11 : Bk w11 w.heap.size 24 [.int .i64 lt, .int .i64 lf, .int .i64 la, .int .i64 ln] := hL8.up hb11
                  have c0 := hL11.four.1
                  have c0z := hL11.frz 0
                  have O12 := (Oth.refl w.heap.size w11).set 0 (.int .i64 32768)
                  have hL12 : Bk (w11.setCell ⟨w.heap.size, 0, none⟩ (.int .i64 32768)) w.heap.size 24 [.int .i64 32768, .int .i64 lf, .int .i64 la, .int .i64 ln] := hL11.set 0 _
                  obtain ⟨e0, e1, e2, e3⟩ := hL12.four
                  have hB12 : Below w.heap.size w (w11.setCell ⟨w.heap.size, 0, none⟩ (.int .i64 32768)) := hB11.trans (O12.below (Nat.le_refl _))
                  have hw8s := hL8.lt
                  have hT2m : T2.length ≤ 16777216 := by omega
                  have hbd12 := hbd.oth O12 (fun b off e => by have := hlo b off e; omega)
                  have hF12 := (hF8.up hb11).oth O12 (by omega)
                  have hfu2 := fuel_ok T2 ⟨max lf 0, max la 0, max ln 0⟩ F (by omega)
                  have R11 : Hid (_ = _) := r11
                  obtain ⟨ms', hc', hp', hm'⟩ := fault_stays rdN ⟨max lf 0, max la 0, max ln 0⟩ l1 l2 ms mb (show cut rdN l1 0 = _ from HC) (show Cu.ok mb = _ from HCB).symm F y j (by have := show n = ms.length from HN; omega) (show _ = _ from HP) hk4'
                  have hT3 : l1.take ((mf ms j).at_ + (mf ms j).text.length) ++ 10 :: l2 = T2 := by
                    rw [hT2, ← show m = _ from HMM, show m.at_ = _ from HMA, ← show Tn = _ from HTN]
                    simp
                  rw [hT3] at hc'
                  have hm2 : (mf ms' j).at_ = at1 := by rw [hm', ← show m = _ from HMM]; exact HMA
                  have HC' : Hid (cut rdN T2 0 = .ok ms') := hc'
                  have HP' : Hid (progL (mf ms') ⟨max lf 0, max la 0, max ln 0⟩ F [] 0 = .bad y j) := hp'
                  have HM2 : Hid ((mf ms' j).at_ = at1) := hm2
                  clear r11 o11 b11 hO hc' hp' hm' hT3 hT2 hb10 hB10 hL11 hbd hlo hln2 hm2 hT2l hTl2
                  go_wp2_with (at_builtin; refine wpList_append_run rfl (.tmp 140) (.tmp 141) 22 rfl rfl _ _ rfl rfl _ _ (show _ = _ from R11) ?_)
                  refine (langParse_any ao cp T2 hT2m hcp 32768 lf la ln hln _ (hG.up hB12) (env_keep hE hB12) hbd12 F hfu2).mono ?_
                  rintro e w13 ⟨hb13, hpa⟩
                  have hB13 := Below.thn hB12 hb13
                  have hF13 := hF12.up hb13
                  rcases paV_cases hpa hfu2 with ⟨hbig, rfl⟩ | ⟨_, kk, hx, _⟩ | ⟨_, msx, gs, jj, hx, hy, _⟩ | ⟨hle2, msx, yy, kk, hx, hy, rfl⟩
                  · unfold noneV
                    have hBz := Below.thn hB13 (below_two w13 (prg (.slice none 0 0)) (flt 22 (cT 32768)))
                    have bz : decide (32768 < (T2.length : Int)) = true := by rw [decide_eq_true_eq]; rw [cT_max] at hbig; exact hbig
                    clear hpa
                    go_wp2
                    go_ret
                    exact ⟨rfl, hBz⟩
                  · rw [show cut rdN T2 0 = _ from HC'] at hx; cases hx
                  · rw [show cut rdN T2 0 = _ from HC'] at hx
                    cases hx
                    rw [show progL _ _ _ _ _ = _ from HP'] at hy
                    cases hy
                  · rw [show cut rdN T2 0 = _ from HC'] at hx
                    cases hx
                    rw [show progL _ _ _ _ _ = _ from HP'] at hy
                    cases hy
                    unfold noneV
                    rw [show (mf ms' j).at_ = _ from HM2]
                    have qz := below_two w13 (prg (.slice none 0 0)) (flt y at1)
                    have hBz := Below.thn hB13 qz
                    have hFz := hF13.up qz
                    have bz : decide (32768 < (T2.length : Int)) = false := by rw [decide_eq_false_iff_not]; rw [cT_max] at hle2; omega
                    have hPz := (Bk.new w13 30 #[.slice none 0 0]).up (below_alloc _ (flt y at1))
                    have hGz := Bk.newAt (w := w13.alloc (prg (.slice none 0 0))) (n := w13.heap.size + 1) 33 #[.int .i64 y, .int .i64 at1] (by simp)
                    have y0 : ((w13.alloc (prg (.slice none 0 0))).alloc (flt y at1)).cell? ⟨w13.heap.size, 0, none⟩ = some (.slice none 0 0) := hPz.cell 0
                    have y1 : ((w13.alloc (prg (.slice none 0 0))).alloc (flt y at1)).cell? ⟨w13.heap.size + 1, 0, none⟩ = some (.int .i64 y) := hGz.cell 0
                    have y2 : ((w13.alloc (prg (.slice none 0 0))).alloc (flt y at1)).cell? ⟨w13.heap.size + 1, 1, none⟩ = some (.int .i64 at1) := hGz.cell 1
                    have y3 : ((w13.alloc (prg (.slice none 0 0))).alloc (flt y at1)).cell? ⟨w2.heap.size + 1, 0, none⟩ = some (.int .i64 y) := hFz.cell 0
                    have y4 : ((w13.alloc (prg (.slice none 0 0))).alloc (flt y at1)).cell? ⟨w2.heap.size + 1, 1, none⟩ = some (.int .i64 at1) := hFz.cell 1
                    clear hpa hPz hGz hFz hF13
                    go_wp2
                    go_ret
                    exact ⟨rfl, hBz⟩
          · have hne : m.at_ ≠ at1 := by
              rw [show at1 = _ from HAT, hm]
              intro e
              have hnn := show n = ms.length from HN
              exact hjk2 ((show Row1 0 _ ms from HRW).one (by omega) (by omega) e)
            have hnb : ((m.at_ : Int) != (at1 : Int)) = true := by rw [bne_iff_ne]; omega
            have hjk3 : j + 1 ≤ k ∨ (mf ms k).kind = 4 := by
              rcases hjk with h | h
              · exact .inl (by omega)
              · exact .inr h
            clear hm hMj hMr hFr hne
            go_wp2
            go_region
            all_goals
              go_wp2
              go_roundw
              case rel => exact ⟨j + 1, by omega, hjk3, by go_num, hBr.drew⟩
              case measure => simp [intOf]; omega
        · have hje : j = n := by omega
          subst hje
          have hk4 : (mf ms k).kind = 4 := by
            rcases hjk with h | h
            · omega
            · exact h
          have hy : y = 21 := by
            rcases (show y = 21 ∨ _ from HFK) with h | ⟨_, h⟩
            · exact h
            · exact absurd hk4 h
          have hnn := show j = ms.length from HN
          have hke := (show Row1 0 _ ms from HRW).four_at (by omega) hk4
          have hMk := (show ∀ t, t < ms.length → _ from HM) k (by omega)
          have hMr := hMk.to hMk.lt hBr
          have k3 := hMr.2.2.2
          rw [← show at1 = _ from HAT] at k3
          have hBw := Below.thn hB5 hBr
          obtain ⟨j', rfl⟩ : ∃ j', j = j' + 1 := ⟨j - 1, by omega⟩
          obtain rfl : k = j' := by omega
          subst hy
          have hwj : IntKind.i64.wrap (((k + 1 : Nat) : Int) - 1) = (k : Int) := by rw [IntKind.wrap_i64]; omega
          have hwj2 : IntKind.i64.wrap ((k : Int) + 1 - 1) = (k : Int) := by rw [IntKind.wrap_i64]; omega
          clear hMk hMr hFr hjk hk4 hnn hke HM HRW HFK HF5 HL5 HC HP HAT HN
          go_wp2
          go_region
          all_goals
            go_wp2
            go_ret
            exact ⟨rfl, hBw.drew⟩
end Go.Proofs.YtkonkplalgoekaaGreatDoor
