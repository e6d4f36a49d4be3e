/-
  The walk of Parse.
-/
import Derived.Test.YtkonkplalgoekaaGreatDoorOf
import Derived.Test.YtkonkplalgoekaaGreatDoorOg
namespace Go.Proofs.YtkonkplalgoekaaGreatDoor
open Go.RowKit
set_option maxRecDepth 100000

/-- A program without definitions, and a fault. -/
def noneV (y a : Int) : Value := .tuple #[.agg #[.slice none 0 0], .agg #[.int .i64 y, .int .i64 a]]

theorem FlW.keep {w w' : World} {A : Nat → Prop} {ao : Option Addr} {gs : List Fn1} (h : FlW w A ao gs) (hs : w.heap.size ≤ w'.heap.size) (hk : ∀ b, A b → b < w.heap.size → w'.heap[b]? = w.heap[b]?) : FlW w' A ao gs := by
  rcases h with h | ⟨g, cs, e, ha, hl, hr, hf⟩
  · exact .inl h
  · refine .inr ⟨g, cs, e, ha, by omega, fun j v hv => ?_, hf.keep hs hk⟩
    rw [show w'.cell? ⟨g, 0 + j, none⟩ = w.cell? ⟨g, 0 + j, none⟩ from World.cell?_of_block (w := w) (hk g ha hl)]
    exact hr j v hv
theorem Two.below {p q B : Nat} {a b : World} (h : Two p q a b) (hp : B ≤ p) (hq : B ≤ q) : Below B a b := ⟨h.os, h.tape, h.output, Nat.le_of_eq h.size.symm, fun k hk => h.block k (by omega) (by omega)⟩

/-- What Parse answers. -/
def paV (l : List UInt8) (lt lf la ln : Int) (f : Nat) (B : Nat) (e : Ending) (w' : World) : Prop :=
  if cT lt < l.length then e = .returned (noneV 22 (cT lt)) else
  match cut rdN l 0 with
  | .bad k => e = .returned (noneV 20 k)
  | .ok ms => match progL (mf ms) ⟨max lf 0, max la 0, max ln 0⟩ f [] 0 with
    | .ok gs _ => ∃ ao c, e = .returned (.tuple #[.agg #[.slice ao gs.length c], .agg #[.int .i64 0, .int .i64 0]]) ∧ FlW w' (fun b => B ≤ b) ao gs
    | .bad y k => e = .returned (noneV y (mf ms k).at_)
    | .out => True

theorem Tryz.underL : Tryz.prog.underlying 24 = some (.struct (Tryz.prog.underlying 24 |>.map (fun | .struct f => f | _ => #[]) |>.getD #[])) := by kernel_rfl
theorem Tryz.infoL : (Tryz.prog.info? 24).map (·.size) = some 4 := by kernel_rfl

set_option maxHeartbeats 8000000 in
theorem langParse_all (ao : Option Addr) (cap : Nat) (l : List UInt8) (hcap : l.length ≤ cap) (lt lf la ln : Int) (hln : ln ≤ 9223372036854775807) (w : World) (hG : Gl w) (hE : Env w) (hT : Bd w ao l) (f : Nat)
    (hf : ∀ ms, cut rdN l 0 = .ok ms → progL (mf ms) ⟨max lf 0, max la 0, max ln 0⟩ f [] 0 ≠ .out) :
    Calls Tryz.prog 12 #[.slice ao l.length cap, .agg #[.int .i64 lt, .int .i64 lf, .int .i64 la, .int .i64 ln]] w fun e w' => Below w.heap.size w w' ∧ paV l lt lf la ln f w.heap.size e w' := by
  have hmf : ∀ (fn : Fn) (first cap : Array Value) (w : World), (Instr.makeFunc fn first cap).run Tryz.prog w = .ok (.func fn first cap) w := fun _ _ _ _ => rfl
  go_enter_defers Tryz.func12, Tryz.ntmps12
  go_wp2_with fail
  have hL0 := ((Bk.new w 24 #[.int .i64 lt, .int .i64 lf, .int .i64 la, .int .i64 ln]).up (below_alloc _ (.cells #[.slice none 0 0] 30))).up (below_alloc _ (.cells #[.int .i64 0, .int .i64 0] 33))
  have hP0 := (Bk.newAt (w := w.alloc (.cells #[.int .i64 lt, .int .i64 lf, .int .i64 la, .int .i64 ln] 24)) (n := w.heap.size + 1) 30 #[.slice none 0 0] (by simp)).up (below_alloc _ (.cells #[.int .i64 0, .int .i64 0] 33))
  have hF0 := Bk.newAt (w := (w.alloc (.cells #[.int .i64 lt, .int .i64 lf, .int .i64 la, .int .i64 ln] 24)).alloc (.cells #[.slice none 0 0] 30)) (n := w.heap.size + 1 + 1) 33 #[.int .i64 0, .int .i64 0] (by simp)
  have hB0 := Below.thn (below_two w (.cells #[.int .i64 lt, .int .i64 lf, .int .i64 la, .int .i64 ln] 24) (.cells #[.slice none 0 0] 30)) (below_alloc _ (.cells #[.int .i64 0, .int .i64 0] 33))
  refine (counted_any lt lf la ln _).mono ?_
  rintro e w1 ⟨rfl, hb1⟩
  have hL1 : Bk w1 w.heap.size 24 [.int .i64 lt, .int .i64 lf, .int .i64 la, .int .i64 ln] := hL0.up hb1
  have hP1 : Bk w1 (w.heap.size + 1) 30 [.slice none 0 0] := hP0.up hb1
  have hF1 : Bk w1 (w.heap.size + 1 + 1) 33 [.int .i64 0, .int .i64 0] := hF0.up hb1
  have hB1 := Below.thn hB0 hb1
  clear hL0 hP0 hF0 hB0 hb1
  by_cases hbig : cT lt < l.length
  · have hbd : decide (cT lt < (l.length : Int)) = true := by rw [decide_eq_true_eq]; exact hbig
    go_wp2_with (refine wpList_storeN rfl 24 (.tmp 3) (.tmp 9) rfl w.heap.size 0 [.int .i64 (cT lt), .int .i64 (max lf 0), .int .i64 (max la 0), .int .i64 (max ln 0)] rfl rfl hL1 (Nat.le_refl 4) Tryz.infoL (by intro u hu; simp only [List.mem_cons, List.not_mem_nil, or_false] at hu; rcases hu with rfl | rfl | rfl | rfl <;> rfl) ?_; intro w2 hL2 ho2; have c0 := (show Bk w2 w.heap.size 24 [.int .i64 (cT lt), .int .i64 (max lf 0), .int .i64 (max la 0), .int .i64 (max ln 0)] from hL2).four.1)
    have hP2 := hP1.oth ho2 (by omega)
    have hF2 := hF1.oth ho2 (by omega)
    have hB2 : Below w.heap.size w w2 := hB1.trans (ho2.below (Nat.le_refl _))
    have e0 := hP2.cell 0
    have e1 := hP2.frz 0
    have d0 := hF2.cell 0
    have d1 := hF2.cell 1
    have d2 := hF2.frz 0
    have d3 := hF2.frz 1
    go_region
    all_goals
      go_wp2
      have e1 : Bk ((((w2.setCell ⟨w.heap.size + 1, 0, none⟩ (.slice none 0 0)).setCell ⟨w.heap.size + 1 + 1, 0, none⟩ (.int .i64 22)).setCell ⟨w.heap.size + 1 + 1, 1, none⟩ (.int .i64 (cT lt))).drew) (w.heap.size + 1) 30 [.slice none 0 0] := ((hP2.set 0 _).out (by omega)).out (by omega)
      have e2 : Bk ((((w2.setCell ⟨w.heap.size + 1, 0, none⟩ (.slice none 0 0)).setCell ⟨w.heap.size + 1 + 1, 0, none⟩ (.int .i64 22)).setCell ⟨w.heap.size + 1 + 1, 1, none⟩ (.int .i64 (cT lt))).drew) (w.heap.size + 1 + 1) 33 [.int .i64 22, .int .i64 (cT lt)] := ((hF2.out (by omega)).set 0 _).set 1 _
      have e3 := ((((Two.refl (w.heap.size + 1) (w.heap.size + 1 + 1) w2).setP 0 (.slice none 0 0)).setQ 0 (.int .i64 22)).setQ 1 (.int .i64 (cT lt))).drew
      have p0 : ((((w2.setCell ⟨w.heap.size + 1, 0, none⟩ (.slice none 0 0)).setCell ⟨w.heap.size + 1 + 1, 0, none⟩ (.int .i64 22)).setCell ⟨w.heap.size + 1 + 1, 1, none⟩ (.int .i64 (cT lt))).drew).cell? ⟨w.heap.size + 1, 0, none⟩ = some (.slice none 0 0) := e1.cell 0
      have f0 : ((((w2.setCell ⟨w.heap.size + 1, 0, none⟩ (.slice none 0 0)).setCell ⟨w.heap.size + 1 + 1, 0, none⟩ (.int .i64 22)).setCell ⟨w.heap.size + 1 + 1, 1, none⟩ (.int .i64 (cT lt))).drew).cell? ⟨w.heap.size + 1 + 1, 0, none⟩ = some (.int .i64 22) := e2.cell 0
      have f1 : ((((w2.setCell ⟨w.heap.size + 1, 0, none⟩ (.slice none 0 0)).setCell ⟨w.heap.size + 1 + 1, 0, none⟩ (.int .i64 22)).setCell ⟨w.heap.size + 1 + 1, 1, none⟩ (.int .i64 (cT lt))).drew).cell? ⟨w.heap.size + 1 + 1, 1, none⟩ = some (.int .i64 (cT lt)) := e2.cell 1
      have hfin : Below w.heap.size w ((((w2.setCell ⟨w.heap.size + 1, 0, none⟩ (.slice none 0 0)).setCell ⟨w.heap.size + 1 + 1, 0, none⟩ (.int .i64 22)).setCell ⟨w.heap.size + 1 + 1, 1, none⟩ (.int .i64 (cT lt))).drew) ∧ paV l lt lf la ln f w.heap.size (.returned (noneV 22 (cT lt))) ((((w2.setCell ⟨w.heap.size + 1, 0, none⟩ (.slice none 0 0)).setCell ⟨w.heap.size + 1 + 1, 0, none⟩ (.int .i64 22)).setCell ⟨w.heap.size + 1 + 1, 1, none⟩ (.int .i64 (cT lt))).drew) := by
        refine ⟨hB2.trans (e3.below (by omega) (by omega)), ?_⟩
        unfold paV
        rw [if_pos (by omega)]
      generalize hW : (((w2.setCell ⟨w.heap.size + 1, 0, none⟩ (.slice none 0 0)).setCell ⟨w.heap.size + 1 + 1, 0, none⟩ (.int .i64 22)).setCell ⟨w.heap.size + 1 + 1, 1, none⟩ (.int .i64 (cT lt))).drew = W at *
      simp [bodyPostD, Leaves, results, Tryz.results12, go_sem, p0, f0, f1]
      exact hfin
  · have hbd : decide (cT lt < (l.length : Int)) = false := by rw [decide_eq_false_iff_not]; exact hbig
    go_wp2_with (refine wpList_storeN rfl 24 (.tmp 3) (.tmp 9) rfl w.heap.size 0 [.int .i64 (cT lt), .int .i64 (max lf 0), .int .i64 (max la 0), .int .i64 (max ln 0)] rfl rfl hL1 (Nat.le_refl 4) Tryz.infoL (by intro u hu; simp only [List.mem_cons, List.not_mem_nil, or_false] at hu; rcases hu with rfl | rfl | rfl | rfl <;> rfl) ?_; intro w2 hL2 ho2; have c0 := (show Bk w2 w.heap.size 24 [.int .i64 (cT lt), .int .i64 (max lf 0), .int .i64 (max la 0), .int .i64 (max ln 0)] from hL2).four.1)
    have hL2 : Bk w2 w.heap.size 24 [.int .i64 (cT lt), .int .i64 (max lf 0), .int .i64 (max la 0), .int .i64 (max ln 0)] := hL2
    have hB2 : Below w.heap.size w w2 := hB1.trans (ho2.below (Nat.le_refl _))
    have hP2 := hP1.oth ho2 (by omega)
    have hF2 := hF1.oth ho2 (by omega)
    refine (marks_val ao cap l (by unfold cT at hbig; omega) hcap w2 (hG.up hB2) (env_keep hE hB2) (hT.up hB2)).mono ?_
    rintro e w3 ⟨gx, px, rfl, hox, hrx, hb3⟩
    obtain ⟨cA, hcA⟩ : ∃ c, c = cut rdN l 0 := ⟨_, rfl⟩
    rw [← hcA] at hrx hox ⊢
    have hw2 := hF2.lt
    have hL3 := hL2.up hb3
    have hP3 := hP2.up hb3
    have hF3 := hF2.up hb3
    have hB3 := Below.thn hB2 hb3
    have c0 := hL3.four.1
    have hcT : (l.length : Int) ≤ 32768 := by unfold cT at hbig; omega
    clear hL1 hP1 hF1 hB1 hL2 hP2 hF2 hB2 ho2 hb3
    cases cA with
    | bad k =>
      have HA : Hid (Cu.bad k = cut rdN l 0) := hcA
      simp only [msC, fwC, faC] at hrx ⊢
      clear hcA hf hrx hox
      go_wp2_with (refine wpList_storeN rfl 33 (.tmp 5) (.tmp 23) rfl (w.heap.size + 1 + 1) 0 [.int .i64 20, .int .i64 k] rfl rfl hF3 (Nat.le_refl 2) Tryz.infoF (by intro u hu; simp only [List.mem_cons, List.not_mem_nil, or_false] at hu; rcases hu with rfl | rfl <;> rfl) ?_; intro w4 hF4 ho4; have hF4 : Bk w4 (w.heap.size + 1 + 1) 33 [.int .i64 20, .int .i64 k] := hF4; have d0 := hF4.cell 0; have d1 := hF4.cell 1; have d2 := hF4.frz 0; have d3 := hF4.frz 1; have hP4 := hP3.oth ho4 (by omega); have e0 := hP4.cell 0; have e1 := hP4.frz 0)
      go_region
      all_goals
        go_wp2
        have e1 : Bk ((((w4.setCell ⟨w.heap.size + 1, 0, none⟩ (.slice none 0 0)).setCell ⟨w.heap.size + 1 + 1, 0, none⟩ (.int .i64 20)).setCell ⟨w.heap.size + 1 + 1, 1, none⟩ (.int .i64 k)).drew) (w.heap.size + 1) 30 [.slice none 0 0] := ((hP4.set 0 _).out (by omega)).out (by omega)
        have e2 : Bk ((((w4.setCell ⟨w.heap.size + 1, 0, none⟩ (.slice none 0 0)).setCell ⟨w.heap.size + 1 + 1, 0, none⟩ (.int .i64 20)).setCell ⟨w.heap.size + 1 + 1, 1, none⟩ (.int .i64 k)).drew) (w.heap.size + 1 + 1) 33 [.int .i64 20, .int .i64 k] := ((hF4.out (by omega)).set 0 _).set 1 _
        have e3 := ((((Two.refl (w.heap.size + 1) (w.heap.size + 1 + 1) w4).setP 0 (.slice none 0 0)).setQ 0 (.int .i64 20)).setQ 1 (.int .i64 k)).drew
        have p0 : ((((w4.setCell ⟨w.heap.size + 1, 0, none⟩ (.slice none 0 0)).setCell ⟨w.heap.size + 1 + 1, 0, none⟩ (.int .i64 20)).setCell ⟨w.heap.size + 1 + 1, 1, none⟩ (.int .i64 k)).drew).cell? ⟨w.heap.size + 1, 0, none⟩ = some (.slice none 0 0) := e1.cell 0
        have f0 : ((((w4.setCell ⟨w.heap.size + 1, 0, none⟩ (.slice none 0 0)).setCell ⟨w.heap.size + 1 + 1, 0, none⟩ (.int .i64 20)).setCell ⟨w.heap.size + 1 + 1, 1, none⟩ (.int .i64 k)).drew).cell? ⟨w.heap.size + 1 + 1, 0, none⟩ = some (.int .i64 20) := e2.cell 0
        have f1 : ((((w4.setCell ⟨w.heap.size + 1, 0, none⟩ (.slice none 0 0)).setCell ⟨w.heap.size + 1 + 1, 0, none⟩ (.int .i64 20)).setCell ⟨w.heap.size + 1 + 1, 1, none⟩ (.int .i64 k)).drew).cell? ⟨w.heap.size + 1 + 1, 1, none⟩ = some (.int .i64 k) := e2.cell 1
        have hfin : Below w.heap.size w ((((w4.setCell ⟨w.heap.size + 1, 0, none⟩ (.slice none 0 0)).setCell ⟨w.heap.size + 1 + 1, 0, none⟩ (.int .i64 20)).setCell ⟨w.heap.size + 1 + 1, 1, none⟩ (.int .i64 k)).drew) ∧ paV l lt lf la ln f w.heap.size (.returned (noneV 20 k)) ((((w4.setCell ⟨w.heap.size + 1, 0, none⟩ (.slice none 0 0)).setCell ⟨w.heap.size + 1 + 1, 0, none⟩ (.int .i64 20)).setCell ⟨w.heap.size + 1 + 1, 1, none⟩ (.int .i64 k)).drew) := by
          refine ⟨(hB3.trans (ho4.below (by omega))).trans (e3.below (by omega) (by omega)), ?_⟩
          unfold paV
          rw [if_neg (by omega), ← show Cu.bad k = _ from HA]
        generalize hW : (((w4.setCell ⟨w.heap.size + 1, 0, none⟩ (.slice none 0 0)).setCell ⟨w.heap.size + 1 + 1, 0, none⟩ (.int .i64 20)).setCell ⟨w.heap.size + 1 + 1, 1, none⟩ (.int .i64 k)).drew = W at *
        simp [bodyPostD, Leaves, results, Tryz.results12, go_sem, p0, f0, f1]
        exact hfin
    | ok ms =>
      have hrow := cut_row rdN _ _ _ hcA.symm
      have hfew := cut_few _ _ _ hcA.symm
      have hne := hf ms hcA.symm
      have HA : Hid (Cu.ok ms = cut rdN l 0) := hcA
      have HR : Hid (Row1 0 (0 + l.length) ms) := hrow
      simp only [msC, fwC, faC] at hrx ⊢
      clear hcA hf
      have hpos := hrow.pos
      obtain ⟨bx, ox, rfl, _⟩ := hrx.pl (by intro e; rw [e] at hpos; simp at hpos)
      go_wp2_with (first
        | (refine wpList_storeN rfl 33 (.tmp 5) (.tmp 23) rfl (w.heap.size + 1 + 1) 0 [.int .i64 0, .int .i64 0] rfl rfl hF3 (Nat.le_refl 2) Tryz.infoF (by intro u hu; simp only [List.mem_cons, List.not_mem_nil, or_false] at hu; rcases hu with rfl | rfl <;> rfl) ?_; intro w4 hF4 ho4; have d0 := (show Bk w4 (w.heap.size + 1 + 1) 33 [.int .i64 0, .int .i64 0] from hF4).cell 0; have hL4 := hL3.oth ho4 (by omega); have hP4 := hP3.oth ho4 (by omega))
        | refine wpList_loadN rfl 24 (.tmp 3) rfl w.heap.size 0 rfl [.int .i64 (cT lt), .int .i64 (max lf 0), .int .i64 (max la 0), .int .i64 (max ln 0)] _ (hL4.range 0 4) Tryz.underL Tryz.infoL ?_)
      have hF4 : Bk w4 (w.heap.size + 1 + 1) 33 [.int .i64 0, .int .i64 0] := hF4
      have hB4 : Below w.heap.size w w4 := hB3.trans (ho4.below (by omega))
      have hbx : w2.heap.size ≤ bx := by
        rcases hox.2 with ⟨h', _⟩ | ⟨g', cap', cur', h', hb, _⟩
        · simp at h'
        · simp only [msC, Value.slice.injEq, Option.some.injEq, Addr.mk.injEq, and_true, true_and] at h'
          omega
      obtain ⟨I, hI⟩ : ∃ I : Rdi, I = ⟨bx, ox, px, ms.length, mf ms, cT lt, max lf 0, max la 0, max ln 0⟩ := ⟨_, rfl⟩
      have hrx4 : ∀ t, t < ms.length → M4 w4 bx (ox + t * 4) (mf ms t) := by
        intro t ht
        have h1 := hrx.at t ht
        have e : mf ms t = ms.getD t md := by unfold mf; simp [List.getD_eq_getElem?_getD, ht]
        rw [e]
        obtain ⟨m1, m2, m3, m4⟩ := h1
        exact ⟨(ho4.cell (a := ⟨bx, _, none⟩) (by show bx ≠ _; omega)).trans m1, (ho4.cell (a := ⟨bx, _, none⟩) (by show bx ≠ _; omega)).trans m2, (ho4.cell (a := ⟨bx, _, none⟩) (by show bx ≠ _; omega)).trans m3, (ho4.cell (a := ⟨bx, _, none⟩) (by show bx ≠ _; omega)).trans m4⟩
      have hb5 := below_alloc w4 (.cells #[.slice (some ⟨bx, ox, none⟩) ms.length px, .int .i64 0, .int .i64 (cT lt), .int .i64 (max lf 0), .int .i64 (max la 0), .int .i64 (max ln 0), .int .i64 0] 63)
      have hrd : Rdr I (w4.alloc (.cells #[.slice (some ⟨bx, ox, none⟩) ms.length px, .int .i64 0, .int .i64 (cT lt), .int .i64 (max lf 0), .int .i64 (max la 0), .int .i64 (max ln 0), .int .i64 0] 63)) w4.heap.size 0 0 := by
        subst hI
        exact ⟨Bk.new w4 63 #[.slice (some ⟨bx, ox, none⟩) ms.length px, .int .i64 0, .int .i64 (cT lt), .int .i64 (max lf 0), .int .i64 (max la 0), .int .i64 (max ln 0), .int .i64 0], fun t ht => (hrx4 t ht).to (hrx4 t ht).lt hb5, Nat.ne_of_lt (hrx4 0 hpos).lt, hpos, by decide, by show max ln 0 ≤ _; omega, by show ms.length ≤ _; omega⟩
      have hIn : I.n = ms.length := by rw [hI]
      have hIM : I.M = mf ms := by rw [hI]
      have hIL : lmOf I = ⟨max lf 0, max la 0, max ln 0⟩ := by rw [hI]; rfl
      have hEn : Ends I.M I.n := by rw [hIn, hIM]; exact (show Row1 0 _ ms from HR).ends
      have hpr := program_any I hEn f _ w4.heap.size 0 hrd (by rw [hIM, hIL]; exact hne)
      rw [hIM, hIL] at hpr
      have hP5 := hP4.up hb5
      have hF5 := hF4.up hb5
      have hB5 := Below.thn hB4 hb5
      have hw4 := hF4.lt
      have es5 : (w4.alloc (.cells #[.slice (some ⟨bx, ox, none⟩) ms.length px, .int .i64 0, .int .i64 (cT lt), .int .i64 (max lf 0), .int .i64 (max la 0), .int .i64 (max ln 0), .int .i64 0] 63)).heap.size = w4.heap.size + 1 := by simp
      have HIM : Hid (I.M = mf ms) := hIM
      clear hI hrd hL3 hP3 hF3 hL4 hP4 hF4 hrx hrx4 hox d0 c0 hIM hIL hIn hEn hrow
      refine hpr.mono ?_
      rintro e w6 ⟨hV6, ha⟩
      have hP6 := hP5.but hV6 (by omega)
      have hF6 := hF5.but hV6 (by omega)
      have hB6 : Below w.heap.size w w6 := hB5.trans (hV6.below (by omega) hB5.size)
      cases hq : progL (mf ms) ⟨max lf 0, max la 0, max ln 0⟩ f [] 0 with
      | out => exact absurd hq hne
      | bad y j =>
        rw [hq] at ha
        rw [show e = _ from ha]
        unfold gaveUp
        rw [show I.M = mf ms from HIM]
        clear ha hpr
        go_wp2
        refine leaves_cons (f := 20) (args := #[.pointer (some ⟨w.heap.size + 1, 0, none⟩), .pointer (some ⟨w.heap.size + 1 + 1, 0, none⟩)]) (by simp) (by simp [go_sem]) ?_
        refine (catch_panicking (w.heap.size + 1) (w.heap.size + 1 + 1) _ _ _ y _ [] _ hP6 hF6 (by omega)).mono ?_
        rintro e u' w7 ⟨rfl, rfl, hP7, hF7, hT7⟩
        have p0 : w7.cell? ⟨w.heap.size + 1, 0, none⟩ = some (.slice none 0 0) := hP7.cell 0
        have f0 : w7.cell? ⟨w.heap.size + 1 + 1, 0, none⟩ = some (.int .i64 y) := hF7.cell 0
        have f1 : w7.cell? ⟨w.heap.size + 1 + 1, 1, none⟩ = some (.int .i64 (mf ms j).at_) := hF7.cell 1
        have hfin : Below w.heap.size w w7 ∧ paV l lt lf la ln f w.heap.size (.returned (noneV y (mf ms j).at_)) w7 := by
          refine ⟨hB6.trans (hT7.below (by omega) (by omega)), ?_⟩
          unfold paV
          rw [if_neg (by omega), ← show Cu.ok ms = _ from HA]
          dsimp only
          rw [hq]
        simp [Leaves, settle, results, Tryz.results12, go_sem, p0, f0, f1]
        exact hfin
      | ok gs j =>
        rw [hq] at ha
        obtain ⟨⟨v, rfl, ao', c', rfl, hfl⟩, h6⟩ := ha
        clear hpr
        go_wp2_with (first
          | (refine wpList_storeN rfl 30 (.tmp 4) (.tmp 33) rfl (w.heap.size + 1) 0 [.slice ao' gs.length c'] rfl rfl hP6 (Nat.le_refl 1) Tryz.infoPr (by intro u hu; simp only [List.mem_cons, List.not_mem_nil, or_false] at hu; subst hu; rfl) ?_; intro w7 hP7 ho7; have hF7 := hF6.oth ho7 (by omega))
          | (refine wpList_storeN rfl 33 (.tmp 5) (.tmp 34) rfl (w.heap.size + 1 + 1) 0 [.int .i64 0, .int .i64 0] rfl rfl hF7 (Nat.le_refl 2) Tryz.infoF (by intro u hu; simp only [List.mem_cons, List.not_mem_nil, or_false] at hu; rcases hu with rfl | rfl <;> rfl) ?_; intro w8 hF8 ho8))
        dsimp only [Act.put]
        have hP8 : Bk w8 (w.heap.size + 1) 30 [.slice ao' gs.length c'] := Bk.oth (show Bk w7 (w.heap.size + 1) 30 [.slice ao' gs.length c'] from hP7) ho8 (by omega)
        have hF8 : Bk w8 (w.heap.size + 1 + 1) 33 [.int .i64 0, .int .i64 0] := hF8
        have p0 : w8.cell? ⟨w.heap.size + 1, 0, none⟩ = some (.slice ao' gs.length c') := hP8.cell 0
        have f0 : w8.cell? ⟨w.heap.size + 1 + 1, 0, none⟩ = some (.int .i64 0) := hF8.cell 0
        have f1 : w8.cell? ⟨w.heap.size + 1 + 1, 1, none⟩ = some (.int .i64 0) := hF8.cell 1
        have hfin : Below w.heap.size w w8 ∧ paV l lt lf la ln f w.heap.size (.returned (.tuple #[.agg #[.slice ao' gs.length c'], .agg #[.int .i64 0, .int .i64 0]])) w8 := by
          refine ⟨(hB6.trans (ho7.below (by omega))).trans (ho8.below (by omega)), ?_⟩
          unfold paV
          rw [if_neg (by omega), ← show Cu.ok ms = _ from HA]
          dsimp only
          rw [hq]
          refine ⟨ao', c', rfl, FlW.imp (A := fun b => w4.heap.size + 1 ≤ b) ?_ fun b hb _ => by omega⟩
          rw [es5] at hfl
          exact (hfl.keep (Nat.le_of_eq ho7.size.symm) fun b hb _ => ho7.block b (by omega)).keep (Nat.le_of_eq ho8.size.symm) fun b hb _ => ho8.block b (by omega)
        refine leaves_cons (f := 20) (args := #[.pointer (some ⟨w.heap.size + 1, 0, none⟩), .pointer (some ⟨w.heap.size + 1 + 1, 0, none⟩)]) (by simp) (by simp [go_sem]) ?_
        refine (catch_idle _ _ _).mono ?_
        rintro e u' w9 ⟨rfl, rfl, rfl⟩
        simp [Leaves, settle, results, Tryz.results12, go_sem, p0, f0, f1]
        exact hfin
theorem langParse_any (ao : Option Addr) (cap : Nat) (l : List UInt8) (_ : l.length ≤ 16777216) (hcap : l.length ≤ cap) (lt lf la ln : Int) (hln : ln ≤ 9223372036854775807) (w : World) (hG : Gl w) (hE : Env w) (hT : Bd w ao l) (f : Nat)
    (hf : ∀ ms, cut rdN l 0 = .ok ms → progL (mf ms) ⟨max lf 0, max la 0, max ln 0⟩ f [] 0 ≠ .out) :
    Calls Tryz.prog 12 #[.slice ao l.length cap, .agg #[.int .i64 lt, .int .i64 lf, .int .i64 la, .int .i64 ln]] w fun e w' => Below w.heap.size w w' ∧ paV l lt lf la ln f w.heap.size e w' := langParse_all ao cap l hcap lt lf la ln hln w hG hE hT f hf
end Go.Proofs.YtkonkplalgoekaaGreatDoor
