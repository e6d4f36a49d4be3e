/-
  The walk of LangWider.
-/
import Derived.Test.YtkonkplalgoekaaGreatDoorOk
import Derived.Test.YtkonkplalgoekaaGreatDoorSc
namespace Go.Proofs.YtkonkplalgoekaaGreatDoor
open Go.RowKit
set_option maxRecDepth 100000

/-- What Parse told, in two. -/
theorem paV_two {l : List UInt8} {lt lf la ln : Int} {f B : Nat} {e : Ending} {w' : World} (h : paV l lt lf la ln f B e w') (hf : ∀ ms, cut rdN l 0 = .ok ms → progL (mf ms) ⟨max lf 0, max la 0, max ln 0⟩ f [] 0 ≠ .out) :
    (∃ y a : Int, y ≠ 0 ∧ e = .returned (noneV y a)) ∨
    ((l.length : Int) ≤ cT lt ∧ ∃ ms gs j, cut rdN l 0 = .ok ms ∧ progL (mf ms) ⟨max lf 0, max la 0, max ln 0⟩ f [] 0 = .ok gs j ∧ ∃ ao c, e = .returned (.tuple #[.agg #[.slice ao gs.length c], .agg #[.int .i64 0, .int .i64 0]]) ∧ FlW w' (fun b => B ≤ b) ao gs) := by
  rcases paV_cases h hf with ⟨_, h⟩ | ⟨_, k, _, h⟩ | h | ⟨_, ms, y, k, hc, hq, h⟩
  · exact .inl ⟨22, _, by omega, h⟩
  · exact .inl ⟨20, _, by omega, h⟩
  · exact .inr h
  · refine .inl ⟨y, _, ?_, h⟩
    have := fk_prog (mf ms) ⟨max lf 0, max la 0, max ln 0⟩ (cut_row rdN _ _ _ hc).four f [] 0
    rw [hq] at this
    rcases (show y = 21 ∨ ((y = 22 ∨ y = 23) ∧ _) from this) with h | ⟨h | h, _⟩ <;> omega
theorem paV_ok {l : List UInt8} {lt lf la ln : Int} {f B : Nat} {e : Ending} {w' : World} (h : paV l lt lf la ln f B e w') {ms : List Mk} {gs : List Fn1} {j : Nat} (hle : (l.length : Int) ≤ cT lt) (hc : cut rdN l 0 = .ok ms) (hq : progL (mf ms) ⟨max lf 0, max la 0, max ln 0⟩ f [] 0 = .ok gs j) :
    ∃ ao c, e = .returned (.tuple #[.agg #[.slice ao gs.length c], .agg #[.int .i64 0, .int .i64 0]]) ∧ FlW w' (fun b => B ≤ b) ao gs := by
  unfold paV at h
  rw [if_neg (by omega), hc] at h
  dsimp only at h
  rw [hq] at h
  exact h
theorem paV_bad {l : List UInt8} {lt lf la ln : Int} {f B : Nat} {e : Ending} {w' : World} (h : paV l lt lf la ln f B e w') {ms : List Mk} {y : Int} {k : Nat} (hle : (l.length : Int) ≤ cT lt) (hc : cut rdN l 0 = .ok ms) (hq : progL (mf ms) ⟨max lf 0, max la 0, max ln 0⟩ f [] 0 = .bad y k) :
    e = .returned (noneV y (mf ms k).at_) := by
  unfold paV at h
  rw [if_neg (by omega), hc] at h
  dsimp only at h
  rw [hq] at h
  exact h
theorem paV_big {l : List UInt8} {lt lf la ln : Int} {f B : Nat} {e : Ending} {w' : World} (h : paV l lt lf la ln f B e w') (hb : cT lt < l.length) : e = .returned (noneV 22 (cT lt)) := by
  unfold paV at h
  rw [if_pos hb] at h
  exact h

theorem FlW.but {w w' : World} {N R : Nat} {ao : Option Addr} {gs : List Fn1} (h : FlW w (fun b => b < N) ao gs) (hU : But R w w') (hR : N ≤ R) : FlW w' (fun b => b < N) ao gs := h.keep hU.size fun b hb hl => hU.block b hl (by omega)
theorem Bd.but {R : Nat} {w w' : World} {ao : Option Addr} {l : List UInt8} (h : Bd w ao l) (hU : But R w w') (hN : ∀ b off, ao = some ⟨b, off, none⟩ → b ≠ R) : Bd w' ao l := by
  refine ⟨fun hne => ?_⟩
  obtain ⟨b, off, e, hc⟩ := h.pl hne
  have h0 := cell_lt (hc 0 (by cases l with | nil => exact absurd rfl hne | cons => simp))
  exact ⟨b, off, e, fun t ht => (World.cell?_of_block (w := w) (a := ⟨b, off + t, none⟩) (hU.block b h0 (hN b off e))).trans (hc t ht)⟩

theorem Tryz.infoFt : (Tryz.prog.info? 33).map (·.size) = some 2 := by kernel_rfl
theorem one2 (x y : Int) : ∀ v ∈ [Value.int .i64 x, .int .i64 y], v.oneCell' = true := by
  intro v hv
  simp only [List.mem_cons, List.not_mem_nil, or_false] at hv
  rcases hv with rfl | rfl <;> rfl

/-- What lies in memory while own limits are tried: they, and two faults. -/
structure Wv (w0 w : World) (O G H : Nat) (t f a n g h : Int) : Prop where
  o : Bk w O 24 [.int .i64 t, .int .i64 f, .int .i64 a, .int .i64 n]
  g : ∃ x : Int, Bk w G 33 [.int .i64 g, .int .i64 x]
  h : ∃ x : Int, Bk w H 33 [.int .i64 h, .int .i64 x]
  b : Below w0.heap.size w0 w

section
variable {w0 w w' : World} {O G H : Nat} {t f a n g h : Int}
theorem Wv.up (k : Wv w0 w O G H t f a n g h) (hb : Below w.heap.size w w') : Wv w0 w' O G H t f a n g h := by
  obtain ⟨x, hx⟩ := k.g
  obtain ⟨y, hy⟩ := k.h
  exact ⟨k.o.up hb, ⟨x, hx.up hb⟩, ⟨y, hy.up hb⟩, Below.thn k.b hb⟩
theorem Wv.set {j : Nat} {v : Value} (k : Wv w0 w O G H t f a n g h) (hG : G ≠ O) (hH : H ≠ O) (hO : w0.heap.size ≤ O) {t' f' a' n' : Int}
    (e : [Value.int .i64 t, .int .i64 f, .int .i64 a, .int .i64 n].set j v = [.int .i64 t', .int .i64 f', .int .i64 a', .int .i64 n']) : Wv w0 (w.setCell ⟨O, j, none⟩ v) O G H t' f' a' n' g h := by
  obtain ⟨x, hx⟩ := k.g
  obtain ⟨y, hy⟩ := k.h
  have ho := (Oth.refl O w).set j v
  refine ⟨?_, ⟨x, hx.oth ho hG⟩, ⟨y, hy.oth ho hH⟩, k.b.trans (ho.below hO)⟩
  have := k.o.set j v
  rwa [e] at this
theorem Wv.sett (k : Wv w0 w O G H t f a n g h) (v : Int) (hG : G < O) (hH : O < H) (hO : w0.heap.size ≤ O) : Wv w0 (w.setCell ⟨O, 0, none⟩ (.int .i64 v)) O G H v f a n g h := k.set (by omega) (by omega) hO rfl
theorem Wv.setf (k : Wv w0 w O G H t f a n g h) (v : Int) (hG : G < O) (hH : O < H) (hO : w0.heap.size ≤ O) : Wv w0 (w.setCell ⟨O, 1, none⟩ (.int .i64 v)) O G H t v a n g h := k.set (by omega) (by omega) hO rfl
theorem Wv.seta (k : Wv w0 w O G H t f a n g h) (v : Int) (hG : G < O) (hH : O < H) (hO : w0.heap.size ≤ O) : Wv w0 (w.setCell ⟨O, 2, none⟩ (.int .i64 v)) O G H t f v n g h := k.set (by omega) (by omega) hO rfl
theorem Wv.setn (k : Wv w0 w O G H t f a n g h) (v : Int) (hG : G < O) (hH : O < H) (hO : w0.heap.size ≤ O) : Wv w0 (w.setCell ⟨O, 3, none⟩ (.int .i64 v)) O G H t f a v g h := k.set (by omega) (by omega) hO rfl
theorem Wv.putg (k : Wv w0 w O G H t f a n g h) (v x : Int) (hB : Bk w' G 33 [.int .i64 v, .int .i64 x]) (ho : Oth G w w') (hG : G < O) (hH : O < H) (hO : w0.heap.size ≤ G) : Wv w0 w' O G H t f a n v h := by
  obtain ⟨y, hy⟩ := k.h
  exact ⟨k.o.oth ho (by omega), ⟨x, hB⟩, ⟨y, hy.oth ho (by omega)⟩, k.b.trans (ho.below hO)⟩
theorem Wv.puth (k : Wv w0 w O G H t f a n g h) (v x : Int) (hB : Bk w' H 33 [.int .i64 v, .int .i64 x]) (ho : Oth H w w') (hG : G < O) (hH : O < H) (hO : w0.heap.size ≤ G) : Wv w0 w' O G H t f a n g v := by
  obtain ⟨y, hy⟩ := k.g
  exact ⟨k.o.oth ho (by omega), ⟨y, hy.oth ho (by omega)⟩, ⟨x, hB⟩, k.b.trans (ho.below (by omega))⟩
end

set_option maxHeartbeats 8000000 in
theorem langWider_any (a1 : Option Addr) (c1 : Nat) (l1 : List UInt8) (lt lf la ln mt m1 m2 m3 : Int) (hlf : lf ≤ 9223372036854775807) (hla : la ≤ 9223372036854775807) (hln : ln ≤ 9223372036854775807) (hm3 : m3 ≤ 9223372036854775807) (hc1 : l1.length ≤ c1) (w : World) (hG : Gl w) (hE : Env w) (h1 : Bd w a1 l1) :
    Calls Tryz.prog 5 #[.slice a1 l1.length c1, .agg #[.int .i64 lt, .int .i64 lf, .int .i64 la, .int .i64 ln], .agg #[.int .i64 mt, .int .i64 m1, .int .i64 m2, .int .i64 m3]] w fun e w' => e = .returned (.bool true) ∧ Below w.heap.size w w' := by
  obtain ⟨F, hF⟩ : ∃ F, F = 12 * (l1.length + 10) + 9 := ⟨_, rfl⟩
  have hfu : ∀ L : Lm, ∀ ms, cut rdN l1 0 = .ok ms → progL (mf ms) L F [] 0 ≠ .out := fun L => fuel_ok l1 L F (by omega)
  have hb0 := below_two w (.cells #[.int .i64 lt, .int .i64 lf, .int .i64 la, .int .i64 ln] 24) (.cells #[.int .i64 mt, .int .i64 m1, .int .i64 m2, .int .i64 m3] 24)
  have hL0 := (Bk.new w 24 #[.int .i64 lt, .int .i64 lf, .int .i64 la, .int .i64 ln]).up (below_alloc _ (.cells #[.int .i64 mt, .int .i64 m1, .int .i64 m2, .int .i64 m3] 24))
  have hM0 := Bk.newAt (w := w.alloc (.cells #[.int .i64 lt, .int .i64 lf, .int .i64 la, .int .i64 ln] 24)) (n := w.heap.size + 1) 24 #[.int .i64 mt, .int .i64 m1, .int .i64 m2, .int .i64 m3] (by simp)
  go_enter Tryz.func5, Tryz.ntmps5
  go_wp2_with fail
  refine (awake4_any _ (hG.up hb0) (env_keep hE hb0)).mono ?_
  rintro e w1 ⟨rfl, hb1⟩
  have hB1 := Below.thn hb0 hb1
  have hL1 : Bk w1 w.heap.size 24 [.int .i64 lt, .int .i64 lf, .int .i64 la, .int .i64 ln] := hL0.up hb1
  have hM1 : Bk w1 (w.heap.size + 1) 24 [.int .i64 mt, .int .i64 m1, .int .i64 m2, .int .i64 m3] := hM0.up hb1
  obtain ⟨l0, l1', l2', l3'⟩ := hL1.four
  clear hb0 hb1 hL0 hM0
  go_wp2_with fail
  refine (langParse_all a1 c1 l1 hc1 lt lf la ln hln w1 (hG.up hB1) (env_keep hE hB1) (h1.up hB1) F (hfu _)).mono ?_
  rintro e w2 ⟨hb2, hpa⟩
  have hB2 := Below.thn hB1 hb2
  have hL2 := hL1.up hb2
  have hM2 := hM1.up hb2
  have hcs := paV_two hpa (hfu _)
  have hsz1 := hB1.size
  have hsz2 := hb2.size
  clear hpa l0 l1' l2' l3' hL1 hM1 hB1 hb2
  rcases hcs with ⟨y, a, hy, rfl⟩ | ⟨hle, ms, gs, j, hcut, hpr, ao, c, rfl, hfl⟩
  · unfold noneV
    have hB3 := Below.thn hB2 (below_two w2 (prg (.slice none 0 0)) (flt y a))
    have hP3 := (Bk.new w2 30 #[(.slice none 0 0)]).up (below_alloc _ (flt y a))
    have hF3 := Bk.newAt (w := w2.alloc (prg (.slice none 0 0))) (n := w2.heap.size + 1) 33 #[.int .i64 y, .int .i64 a] (by simp)
    have p0 : ((w2.alloc (prg (.slice none 0 0))).alloc (flt y a)).cell? ⟨w2.heap.size, 0, none⟩ = some (.slice none 0 0) := hP3.cell 0
    have f0 : ((w2.alloc (prg (.slice none 0 0))).alloc (flt y a)).cell? ⟨w2.heap.size + 1, 0, none⟩ = some (.int .i64 y) := hF3.cell 0
    have b0 : (y == 0) = false := by rw [beq_eq_false_iff_ne]; exact hy
    clear hP3 hF3 hL2 hM2 hB2 hG hE h1 hfu
    go_wp2
    go_ret
    exact ⟨rfl, hB3⟩
  · have hgs := prog_some _ _ _ _ _ _ _ hpr
    have hl1m : l1.length ≤ 32768 := by unfold cT at hle; omega
    obtain ⟨wf1, wf2, wf3, wid⟩ := wider (mf ms) ⟨max lf 0, max la 0, max ln 0⟩ (by dsimp only; omega) (by dsimp only; omega) hpr
    dsimp only at wf1 wf2 wf3
    have hrow := cut_row rdN _ _ _ hcut
    have hfew := cut_few _ _ _ hcut
    have hjn : 0 + 1 ≤ j ∧ j < ms.length := by
      have := gd_prog (mf ms) ⟨max lf 0, max la 0, max ln 0⟩ hrow.ends F [] 0 hrow.pos (by omega)
      rw [hpr] at this
      exact this
    have hszs : ∀ g ∈ gs, szE g.body ≤ 1073741824 := by
      have := sz_prog (mf ms) ⟨max lf 0, max la 0, max ln 0⟩ _ _ _ _ _ hpr (by simp)
      intro g hg
      have := this g hg
      unfold cT at hle
      omega
    have hpms : ∀ g ∈ gs, g.pms.length ≤ 9223372036854775807 := by
      have := (mxA_fit ⟨max lf 0, max la 0, max ln 0⟩ (by dsimp only; omega) gs).2 wf2
      intro g hg
      have := this g hg
      unfold FitA at this
      dsimp only at this
      omega
    have hfl2 : FlW w2 (fun b => b < w2.heap.size) ao gs := by
      rcases hfl with h | ⟨g, cs, e, _, hl, hr, hf⟩
      · exact .inl h
      · exact .inr ⟨g, cs, e, hl, hl, hr, hf.imp fun b _ hb => hb⟩
    have HW : Hid (∀ L' : Lm, 0 ≤ L'.f → 0 ≤ L'.a → 0 ≤ L'.n → _) := wid
    have HC : Hid (cut rdN l1 0 = .ok ms) := hcut
    have hB3 := Below.thn hB2 (below_two w2 (prg (.slice ao gs.length c)) (flt 0 0))
    have hb3 := below_two w2 (prg (.slice ao gs.length c)) (flt 0 0)
    have hP3 := (Bk.new w2 30 #[(.slice ao gs.length c)]).up (below_alloc _ (flt 0 0))
    have hF3 := Bk.newAt (w := w2.alloc (prg (.slice ao gs.length c))) (n := w2.heap.size + 1) 33 #[.int .i64 0, .int .i64 0] (by simp)
    have p0 : ((w2.alloc (prg (.slice ao gs.length c))).alloc (flt 0 0)).cell? ⟨w2.heap.size, 0, none⟩ = some (.slice ao gs.length c) := hP3.cell 0
    have f0 : ((w2.alloc (prg (.slice ao gs.length c))).alloc (flt 0 0)).cell? ⟨w2.heap.size + 1, 0, none⟩ = some (.int .i64 0) := hF3.cell 0
    obtain ⟨l0, l1', l2', l3'⟩ := (hL2.up hb3).four
    obtain ⟨m0', m1', m2', m3'⟩ := (hM2.up hb3).four
    have hfl3 := hfl2.up hb3
    clear hpr hcut wid hfl hfl2 hrow hL2 hM2
    go_upto_region 7 with fail
    have hb4 := below_alloc ((w2.alloc (prg (.slice ao gs.length c))).alloc (flt 0 0)) (.cells #[.int .i64 (max lt mt), .int .i64 (max lf m1), .int .i64 (max la m2), .int .i64 (max ln m3)] 24)
    have hw4 := Bk.newAt (w := (w2.alloc (prg (.slice ao gs.length c))).alloc (flt 0 0)) (n := w2.heap.size + 1 + 1) 24 #[.int .i64 (max lt mt), .int .i64 (max lf m1), .int .i64 (max la m2), .int .i64 (max ln m3)] (by simp)
    have hB4 := Below.thn hB3 hb4
    have hP4 := hP3.up hb4
    have hfl4 := hfl3.up hb4
    have hsz4 : (((w2.alloc (prg (.slice ao gs.length c))).alloc (flt 0 0)).alloc (.cells #[.int .i64 (max lt mt), .int .i64 (max lf m1), .int .i64 (max la m2), .int .i64 (max ln m3)] 24)).heap.size = w2.heap.size + 3 := by simp
    clear l0 l1' l2' l3' m0' m1' m2' m3' f0 p0 hF3 hP3 hB3 hb3 hfl3 hB2 hb4
    obtain ⟨W4, hW4⟩ : ∃ W4, W4 = ((w2.alloc (prg (.slice ao gs.length c))).alloc (flt 0 0)).alloc (.cells #[.int .i64 (max lt mt), .int .i64 (max lf m1), .int .i64 (max la m2), .int .i64 (max ln m3)] 24) := ⟨_, rfl⟩
    rw [← hW4] at hw4 hB4 hP4 hfl4 hsz4 ⊢
    clear hW4
    obtain ⟨k0, k1, k2, k3⟩ := Bk.four (show Bk W4 (w2.heap.size + 1 + 1) 24 [_, _, _, _] from hw4)
    have hq5 := ((show ∀ L' : Lm, 0 ≤ L'.f → 0 ≤ L'.a → 0 ≤ L'.n → _ from HW) ⟨max (max lf m1) 0, max (max la m2) 0, max (max ln m3) 0⟩ (by dsimp only; omega) (by dsimp only; omega) (by dsimp only; omega)).1 (by dsimp only; omega) (by dsimp only; omega) (by dsimp only; omega)
    have HQ5 : Hid (progL (mf ms) _ F [] 0 = .ok gs j) := hq5
    clear hq5
    go_wp2_with fail
    refine (langParse_all a1 c1 l1 hc1 (max lt mt) (max lf m1) (max la m2) (max ln m3) (by omega) W4 (hG.up hB4) (env_keep hE hB4) (h1.up hB4) F (hfu _)).mono ?_
    rintro e w5 ⟨hb5, hpa⟩
    obtain ⟨ao5, c5, rfl, hfl5⟩ := paV_ok hpa (by unfold cT at hle ⊢; omega) HC HQ5
    have hB5 := Below.thn hB4 hb5
    have hP5 := hP4.up hb5
    have hflp5 := hfl4.up hb5
    have hflq5 : FlW w5 (fun b => b < w5.heap.size) ao5 gs := by
      rcases hfl5 with h | ⟨g, cs, e, _, hl, hr, hf⟩
      · exact .inl h
      · exact .inr ⟨g, cs, e, hl, hl, hr, hf.imp fun b _ hb => hb⟩
    have hsz5 := hb5.size
    rw [hsz4] at hsz5
    clear hpa hfl5 hb5 hfl4 hP4 hB4 hw4 k0 k1 k2 k3 HQ5 hsz4
    have hb6 := below_two w5 (prg (.slice ao5 gs.length c5)) (flt 0 0)
    have hb7 := below_alloc ((w5.alloc (prg (.slice ao5 gs.length c5))).alloc (flt 0 0)) (.cells #[.int .i64 l1.length, .int .i64 gs.length, .int .i64 0, .int .i64 0] 24)
    have p0 : ((w5.alloc (prg (.slice ao5 gs.length c5))).alloc (flt 0 0)).cell? ⟨w2.heap.size, 0, none⟩ = some (.slice ao gs.length c) := (hP5.up hb6).cell 0
    have hQ7 := ((Bk.new w5 30 #[(.slice ao5 gs.length c5)]).up (below_alloc _ (flt 0 0))).up hb7
    have hF7 := (Bk.newAt (w := w5.alloc (prg (.slice ao5 gs.length c5))) (n := w5.heap.size + 1) 33 #[.int .i64 0, .int .i64 0] (by simp)).up hb7
    have hO7 := Bk.newAt (w := (w5.alloc (prg (.slice ao5 gs.length c5))).alloc (flt 0 0)) (n := w5.heap.size + 1 + 1) 24 #[.int .i64 l1.length, .int .i64 gs.length, .int .i64 0, .int .i64 0] (by simp)
    have hb57 := Below.thn hb6 hb7
    have hP7 := hP5.up hb57
    have hB7 := Below.thn hB5 hb57
    have hflp7 := hflp5.up hb57
    have hflq7 := hflq5.up hb57
    clear hb6 hb7 hb57 hB5 hP5 hflp5 hflq5
    go_upto_region 9 with fail
    obtain ⟨W7, hW7⟩ : ∃ W7, W7 = ((w5.alloc (prg (.slice ao5 gs.length c5))).alloc (flt 0 0)).alloc (.cells #[.int .i64 l1.length, .int .i64 gs.length, .int .i64 0, .int .i64 0] 24) := ⟨_, rfl⟩
    rw [← hW7] at hQ7 hF7 hO7 hP7 hB7 hflp7 hflq7 ⊢
    clear hW7 p0
    obtain ⟨O, hO⟩ : ∃ O, O = w5.heap.size + 1 + 1 := ⟨_, rfl⟩
    rw [← hO] at hO7 ⊢
    have hO1 : w5.heap.size + 1 < O := by omega
    clear hO
    go_wp2
    go_loopw [13] (fun v wr => ∃ k : Nat, k ≤ gs.length ∧ v = .int .i64 k ∧ Bk wr O 24 [.int .i64 l1.length, .int .i64 gs.length, .int .i64 (mxA (gs.take k) : Nat), .int .i64 (mxN (gs.take k) : Nat)] ∧ But O W7 wr) (fun v _ => gs.length - (intOf v).toNat)
    case atStart => exact ⟨0, Nat.zero_le _, rfl, hO7, But.refl _ _⟩
    case round =>
      obtain ⟨k, hkn, rfl, hOr, hU⟩ := hrel
      have hPr := hP7.but hU (by omega)
      have p0 : wr.cell? ⟨w2.heap.size, 0, none⟩ = some (.slice ao gs.length c) := hPr.cell 0
      by_cases hlt : k < gs.length
      · obtain ⟨b, us, rfl, hbl, hu, hxu⟩ := (hflp7.but hU (by omega : w2.heap.size ≤ O)).at k hlt
        have hm : gs.getD k fd ∈ gs := by rw [List.getD_eq_getElem?_getD, List.getElem?_eq_getElem hlt]; exact List.getElem_mem hlt
        have hta := mxA_take gs k hlt
        have htn := mxN_take gs k hlt
        have hsg := hszs _ hm
        have hpg := hpms _ hm
        obtain ⟨g, hg⟩ : ∃ g, g = gs.getD k fd := ⟨_, rfl⟩
        rw [← hg] at hta htn hxu hsg hpg
        clear hg hm
        obtain ⟨aop, cp, es, rfl, hpl, hex⟩ := hxu
        have hcall : ∀ W, But O wr W → Calls Tryz.prog 15 #[.agg es.toArray] W fun e w' => e = .returned (.int .i64 (nE g.body : Nat)) ∧ Below W.heap.size W w' :=
          fun W hW => nest_any _ g.body (Nat.le_refl _) hsg W _ es (hex.keep fun b hb hl => hW.block b hl (by omega))
        obtain ⟨e0, e1, e2, e3, e4, e5, e6, rfl⟩ := list7 hex.len
        obtain ⟨-, u1, -⟩ := range11 hu
        obtain ⟨o0, o1, o2, o3⟩ := hOr.four
        have z2 := hOr.frz 2
        clear hpl hex
        go_wp2
        go_region
        have hO8 : Bk (wr.setCell ⟨O, 2, none⟩ (.int .i64 (max (mxA (gs.take k) : Int) (g.pms.length : Int)))).drew O 24 [.int .i64 l1.length, .int .i64 gs.length, .int .i64 (mxA (gs.take (k + 1)) : Nat), .int .i64 (mxN (gs.take k) : Nat)] := by
          have := hOr.set 2 (.int .i64 (max (mxA (gs.take k) : Int) (g.pms.length : Int)))
          rw [hta]
          rw [show ((max (mxA (gs.take k)) g.pms.length : Nat) : Int) = max (mxA (gs.take k) : Int) (g.pms.length : Int) by omega]
          exact this
        have hV8 : But O wr (wr.setCell ⟨O, 2, none⟩ (.int .i64 (max (mxA (gs.take k) : Int) (g.pms.length : Int)))).drew := ((But.refl O wr).setR _).drew
        obtain ⟨W8, hW8⟩ : ∃ W8, W8 = (wr.setCell ⟨O, 2, none⟩ (.int .i64 (max (mxA (gs.take k) : Int) (g.pms.length : Int)))).drew := ⟨_, rfl⟩
        rw [← hW8] at hO8 hV8 ⊢
        clear hW8 o0 o1 o2 o3 z2 p0 u1 hta
        have p0 : W8.cell? ⟨w2.heap.size, 0, none⟩ = some (.slice (some ⟨b, 0, none⟩) gs.length c) := (hPr.but hV8 (by omega)).cell 0
        obtain ⟨-, -, -, u3, u4, u5, u6, u7, u8, u9, -⟩ := range11 (range_keep hu (by simp) fun hl => hV8.block b hl (by omega))
        obtain ⟨o0, o1, o2, o3⟩ := hO8.four
        have z3 := hO8.frz 3
        clear hu
        go_wp2
        go_region_with (go_at_call 15; refine (hcall _ hV8.drew).mono ?_; rintro e w9 ⟨rfl, hb9⟩; have hO9 := Bk.up (w := World.drew W8) hO8 hb9; have y3 := hO9.four.2.2.2; have x3 := hO9.frz 3; have hV9 := But.then hV8.drew hb9)
        all_goals
          go_wp2
          go_roundw
          case rel =>
            refine ⟨k + 1, by omega, by go_num, ?_, (hU.trans hV9).setR _⟩
            have := hO9.set 3 (.int .i64 (max (mxN (gs.take k) : Int) (nE g.body : Int)))
            rw [htn, show ((max (mxN (gs.take k)) (nE g.body) : Nat) : Int) = max (mxN (gs.take k) : Int) (nE g.body : Int) by omega]
            exact this
          case measure => simp [intOf]; omega
      · have hke : k = gs.length := by omega
        subst hke
        rw [List.take_length] at hOr
        have hPr' := hPr
        have hQr := hQ7.but hU (by omega)
        have hFr := hF7.but hU (by omega)
        have hBr : Below w.heap.size w wr := hB7.trans (hU.below (by omega) hB7.size)
        have hflp := hflp7.but hU (by omega : w2.heap.size ≤ O)
        have hflq := hflq7.but hU (by omega : w5.heap.size ≤ O)
        obtain ⟨o0, o1, o2, o3⟩ := hOr.four
        have hOl := hOr.lt
        have hq8 := ((show ∀ L' : Lm, 0 ≤ L'.f → 0 ≤ L'.a → 0 ≤ L'.n → _ from HW) ⟨max (gs.length : Int) 0, max (mxA gs : Int) 0, max (mxN gs : Int) 0⟩ (by dsimp only; omega) (by dsimp only; omega) (by dsimp only; omega)).1 (by dsimp only; omega) (by dsimp only; omega) (by dsimp only; omega)
        have HQ8 : Hid (progL (mf ms) _ F [] 0 = .ok gs j) := hq8
        clear hq8 hP7 hQ7 hF7 hB7 hU hO7 hflp7 hflq7 hPr
        go_wp2_with fail
        refine (langParse_all a1 c1 l1 hc1 (l1.length : Int) (gs.length : Int) (mxA gs : Int) (mxN gs : Int) (by omega) wr (hG.up hBr) (env_keep hE hBr) (h1.up hBr) F (hfu _)).mono ?_
        rintro e w8 ⟨hb8, hpa⟩
        obtain ⟨ao8, c8, rfl, hfl8⟩ := paV_ok hpa (by unfold cT at hle ⊢; omega) HC HQ8
        have hb9 := Below.thn hb8 (below_two w8 (prg (.slice ao8 gs.length c8)) (flt 0 0))
        have hP9 := hPr'.up hb9
        have hQ9 := hQr.up hb9
        have hF9 := hFr.up hb9
        have hO9 := hOr.up hb9
        have hflp9 := hflp.up hb9
        have hflq9 := hflq.up hb9
        have hflr9 := hfl8.up (below_two w8 (prg (.slice ao8 gs.length c8)) (flt 0 0))
        have hB9 := Below.thn hBr hb9
        have hsz8 := hb8.size
        have hR9 := (Bk.new w8 30 #[(.slice ao8 gs.length c8)]).up (below_alloc _ (flt 0 0))
        have hH9 := Bk.newAt (w := w8.alloc (prg (.slice ao8 gs.length c8))) (n := w8.heap.size + 1) 33 #[.int .i64 0, .int .i64 0] (by simp)
        clear hpa hfl8 hb8 hb9 hflp hflq hPr' hQr hFr hBr hOr o0 o1 o2 o3 HQ8
        go_upto_region 15 with fail
        obtain ⟨W9, hW9⟩ : ∃ W9, W9 = (w8.alloc (prg (.slice ao8 gs.length c8))).alloc (flt 0 0) := ⟨_, rfl⟩
        rw [← hW9] at hP9 hQ9 hF9 hO9 hflp9 hflq9 hflr9 hB9 hR9 hH9 ⊢
        clear hW9
        have hrf : LiR (FnR (pq true)) gs gs := LiR.refl (FnR.refl fun _ _ => rfl) gs
        have f0 : W9.cell? ⟨w5.heap.size + 1, 0, none⟩ = some (.int .i64 0) := hF9.cell 0
        have h0 : W9.cell? ⟨w8.heap.size + 1, 0, none⟩ = some (.int .i64 0) := hH9.cell 0
        have p0 : W9.cell? ⟨w2.heap.size, 0, none⟩ = some (.slice ao gs.length c) := hP9.cell 0
        have q0 : W9.cell? ⟨w5.heap.size, 0, none⟩ = some (.slice ao5 gs.length c5) := hQ9.cell 0
        go_wp2_with fail
        refine (same4_any true gs gs hszs hpms (by omega) hrf W9 _ _ ao ao5 c c5 hflp9 hflq9).mono ?_
        rintro e w10 ⟨rfl, hb10⟩
        clear f0 h0 p0 q0
        have p0 : w10.cell? ⟨w2.heap.size, 0, none⟩ = some (.slice ao gs.length c) := (hP9.up hb10).cell 0
        have r0 : w10.cell? ⟨w8.heap.size, 0, none⟩ = some (.slice ao8 gs.length c8) := (hR9.up hb10).cell 0
        go_wp2_with fail
        refine (same4_any true gs gs hszs hpms (by omega) hrf w10 _ _ ao ao8 c c8 (hflp9.up hb10) (hflr9.up hb10)).mono ?_
        rintro e w11 ⟨rfl, hb11⟩
        clear p0 r0
        have hb911 := Below.thn hb10 hb11
        obtain ⟨G, hGd⟩ : ∃ G, G = w5.heap.size + 1 := ⟨_, rfl⟩
        obtain ⟨H, hHd⟩ : ∃ H, H = w8.heap.size + 1 := ⟨_, rfl⟩
        rw [← hGd] at hF9
        rw [← hHd] at hH9
        have hV : Wv w w11 O G H (l1.length : Int) (gs.length : Int) (mxA gs : Int) (mxN gs : Int) 0 0 := ⟨hO9.up hb911, ⟨0, hF9.up hb911⟩, ⟨0, hH9.up hb911⟩, Below.thn hB9 hb911⟩
        have hGO : G < O := by omega
        have hOH : O < H := by omega
        have hwG : w.heap.size ≤ G := by omega
        rw [← hGd, ← hHd]
        clear hGd hHd hF9 hH9 hO9 hb911 hb10 hb11 hP9 hQ9 hR9 hflp9 hflq9 hflr9 hrf hB9 hszs hpms
        -- TAIL
        obtain ⟨o0, o1, o2, o3⟩ := hV.o.four
        have z := hV.o.frz 1
        go_upto_region 18 with fail
        have hV' := hV.setf ((gs.length : Int) - 1) (by omega) (by omega) (by omega)
        clear hV o0 o1 o2 o3 z
        obtain ⟨w12, hw12⟩ : ∃ W, W = w11.setCell ⟨O, 1, none⟩ (.int .i64 ((gs.length : Int) - 1)) := ⟨_, rfl⟩
        rw [← hw12] at hV' ⊢
        clear hw12
        have hV := hV'
        clear hV'
        obtain ⟨o0, o1, o2, o3⟩ := hV.o.four
        go_wp2_with fail
        refine (langParse_all a1 c1 l1 hc1 ((l1.length : Int)) ((gs.length : Int) - 1) ((mxA gs : Int)) ((mxN gs : Int)) (by omega) w12 (hG.up hV.b) (env_keep hE hV.b) (h1.up hV.b) F (hfu _)).mono ?_
        rintro e w13 ⟨hbp, hpa⟩
        obtain ⟨ix, hq⟩ := ((show ∀ L' : Lm, 0 ≤ L'.f → 0 ≤ L'.a → 0 ≤ L'.n → _ from HW) ⟨max ((gs.length : Int) - 1) 0, max ((mxA gs : Int)) 0, max ((mxN gs : Int)) 0⟩ (by dsimp only; omega) (by dsimp only; omega) (by dsimp only; omega)).2.1 (by dsimp only; omega) (by dsimp only; omega)
        have hbad := paV_bad hpa (by unfold cT at hle ⊢; omega) HC hq
        obtain ⟨ax, hax⟩ : ∃ ax : Int, ax = ((mf ms ix).at_ : Nat) := ⟨_, rfl⟩
        rw [← hax] at hbad
        clear hax hq
        subst hbad
        unfold noneV
        have hV2 := hV.up hbp
        clear hV hpa hbp o0 o1 o2 o3
        obtain ⟨gx, hgx⟩ := hV2.g
        have g0 : w13.cell? ⟨G, 0, none⟩ = some _ := hgx.cell 0
        have g1 : w13.cell? ⟨G, 1, none⟩ = some _ := hgx.cell 1
        have z0 := hgx.frz 0
        have z1 := hgx.frz 1
        go_upto_region 19 with (refine wpList_storeN rfl 33 (.tmp 11) (.tmp 128) rfl G 0 [.int .i64 22, .int .i64 ax] rfl rfl hgx (Nat.le_refl 2) Tryz.infoFt (one2 _ _) ?_; intro w14 hBz hoz)
        have hV := hV2.putg 22 ax hBz hoz (by omega) (by omega) (by omega)
        clear hV2 hgx g0 g1 z0 z1 hBz hoz gx
        obtain ⟨o0, o1, o2, o3⟩ := hV.o.four
        have z := hV.o.frz 1
        go_upto_region 20 with fail
        have hV' := hV.setf ((gs.length : Int)) (by omega) (by omega) (by omega)
        clear hV o0 o1 o2 o3 z
        obtain ⟨w15, hw15⟩ : ∃ W, W = w14.setCell ⟨O, 1, none⟩ (.int .i64 ((gs.length : Int))) := ⟨_, rfl⟩
        rw [← hw15] at hV' ⊢
        clear hw15
        have hV := hV'
        clear hV'
        obtain ⟨o0, o1, o2, o3⟩ := hV.o.four
        have z := hV.o.frz 0
        go_upto_region 21 with fail
        have hV' := hV.sett ((l1.length : Int) - 1) (by omega) (by omega) (by omega)
        clear hV o0 o1 o2 o3 z
        obtain ⟨w16, hw16⟩ : ∃ W, W = w15.setCell ⟨O, 0, none⟩ (.int .i64 ((l1.length : Int) - 1)) := ⟨_, rfl⟩
        rw [← hw16] at hV' ⊢
        clear hw16
        have hV := hV'
        clear hV'
        obtain ⟨o0, o1, o2, o3⟩ := hV.o.four
        go_wp2_with fail
        refine (langParse_all a1 c1 l1 hc1 ((l1.length : Int) - 1) ((gs.length : Int)) ((mxA gs : Int)) ((mxN gs : Int)) (by omega) w16 (hG.up hV.b) (env_keep hE hV.b) (h1.up hV.b) F (hfu _)).mono ?_
        rintro e w17 ⟨hbp, hpa⟩
        have hbad := paV_big hpa (by unfold cT at hle ⊢; omega)
        obtain ⟨ax, hax⟩ : ∃ ax : Int, ax = cT ((l1.length : Int) - 1) := ⟨_, rfl⟩
        rw [← hax] at hbad
        clear hax
        subst hbad
        unfold noneV
        have hV2 := hV.up hbp
        clear hV hpa hbp o0 o1 o2 o3
        obtain ⟨gx, hgx⟩ := hV2.h
        have g0 : w17.cell? ⟨H, 0, none⟩ = some _ := hgx.cell 0
        have g1 : w17.cell? ⟨H, 1, none⟩ = some _ := hgx.cell 1
        have z0 := hgx.frz 0
        have z1 := hgx.frz 1
        go_upto_region 22 with (refine wpList_storeN rfl 33 (.tmp 15) (.tmp 142) rfl H 0 [.int .i64 22, .int .i64 ax] rfl rfl hgx (Nat.le_refl 2) Tryz.infoFt (one2 _ _) ?_; intro w18 hBz hoz)
        have hV := hV2.puth 22 ax hBz hoz (by omega) (by omega) (by omega)
        clear hV2 hgx g0 g1 z0 z1 hBz hoz gx
        obtain ⟨o0, o1, o2, o3⟩ := hV.o.four
        have z := hV.o.frz 0
        go_upto_region 23 with fail
        have hV' := hV.sett ((l1.length : Int)) (by omega) (by omega) (by omega)
        clear hV o0 o1 o2 o3 z
        obtain ⟨w19, hw19⟩ : ∃ W, W = w18.setCell ⟨O, 0, none⟩ (.int .i64 ((l1.length : Int))) := ⟨_, rfl⟩
        rw [← hw19] at hV' ⊢
        clear hw19
        have hV := hV'
        clear hV'
        by_cases hA : 0 < mxA gs
        · have ba : decide (0 < (mxA gs : Int)) = true := by rw [decide_eq_true_eq]; omega
          obtain ⟨gx, hgx⟩ := hV.g
          obtain ⟨hx, hhx⟩ := hV.h
          have g0 : w19.cell? ⟨G, 0, none⟩ = some _ := hgx.cell 0
          have h0 : w19.cell? ⟨H, 0, none⟩ = some _ := hhx.cell 0
          obtain ⟨o0, o1, o2, o3⟩ := hV.o.four
          go_upto_region 26 with fail
          clear ba
          clear g0 h0 hgx hhx gx hx o0 o1 o2 o3
          obtain ⟨o0, o1, o2, o3⟩ := hV.o.four
          have z := hV.o.frz 2
          go_upto_region 27 with fail
          have hV' := hV.seta ((mxA gs : Int) - 1) (by omega) (by omega) (by omega)
          clear hV o0 o1 o2 o3 z
          obtain ⟨w20, hw20⟩ : ∃ W, W = w19.setCell ⟨O, 2, none⟩ (.int .i64 ((mxA gs : Int) - 1)) := ⟨_, rfl⟩
          rw [← hw20] at hV' ⊢
          clear hw20
          have hV := hV'
          clear hV'
          obtain ⟨o0, o1, o2, o3⟩ := hV.o.four
          go_wp2_with fail
          refine (langParse_all a1 c1 l1 hc1 ((l1.length : Int)) ((gs.length : Int)) ((mxA gs : Int) - 1) ((mxN gs : Int)) (by omega) w20 (hG.up hV.b) (env_keep hE hV.b) (h1.up hV.b) F (hfu _)).mono ?_
          rintro e w21 ⟨hbp, hpa⟩
          obtain ⟨ix, hq⟩ := ((show ∀ L' : Lm, 0 ≤ L'.f → 0 ≤ L'.a → 0 ≤ L'.n → _ from HW) ⟨max ((gs.length : Int)) 0, max ((mxA gs : Int) - 1) 0, max ((mxN gs : Int)) 0⟩ (by dsimp only; omega) (by dsimp only; omega) (by dsimp only; omega)).2.1 (by dsimp only; omega) (by dsimp only; omega)
          have hbad := paV_bad hpa (by unfold cT at hle ⊢; omega) HC hq
          obtain ⟨ax, hax⟩ : ∃ ax : Int, ax = ((mf ms ix).at_ : Nat) := ⟨_, rfl⟩
          rw [← hax] at hbad
          clear hax hq
          subst hbad
          unfold noneV
          have hV2 := hV.up hbp
          clear hV hpa hbp o0 o1 o2 o3
          obtain ⟨gx, hgx⟩ := hV2.g
          have g0 : w21.cell? ⟨G, 0, none⟩ = some _ := hgx.cell 0
          have g1 : w21.cell? ⟨G, 1, none⟩ = some _ := hgx.cell 1
          have z0 := hgx.frz 0
          have z1 := hgx.frz 1
          go_upto_region 28 with (refine wpList_storeN rfl 33 (.tmp 11) (.tmp 167) rfl G 0 [.int .i64 22, .int .i64 ax] rfl rfl hgx (Nat.le_refl 2) Tryz.infoFt (one2 _ _) ?_; intro w22 hBz hoz)
          have hV := hV2.putg 22 ax hBz hoz (by omega) (by omega) (by omega)
          clear hV2 hgx g0 g1 z0 z1 hBz hoz gx
          obtain ⟨o0, o1, o2, o3⟩ := hV.o.four
          have z := hV.o.frz 2
          go_upto_region 29 with fail
          have hV' := hV.seta ((mxA gs : Int)) (by omega) (by omega) (by omega)
          clear hV o0 o1 o2 o3 z
          obtain ⟨w23, hw23⟩ : ∃ W, W = w22.setCell ⟨O, 2, none⟩ (.int .i64 ((mxA gs : Int))) := ⟨_, rfl⟩
          rw [← hw23] at hV' ⊢
          clear hw23
          have hV := hV'
          clear hV'
          by_cases hN : 0 < mxN gs
          · have bn : decide (0 < (mxN gs : Int)) = true := by rw [decide_eq_true_eq]; omega
            obtain ⟨o0, o1, o2, o3⟩ := hV.o.four
            go_upto_region 30 with fail
            clear o0 o1 o2 o3 bn
            obtain ⟨o0, o1, o2, o3⟩ := hV.o.four
            have z := hV.o.frz 3
            go_upto_region 31 with fail
            have hV' := hV.setn ((mxN gs : Int) - 1) (by omega) (by omega) (by omega)
            clear hV o0 o1 o2 o3 z
            obtain ⟨w24, hw24⟩ : ∃ W, W = w23.setCell ⟨O, 3, none⟩ (.int .i64 ((mxN gs : Int) - 1)) := ⟨_, rfl⟩
            rw [← hw24] at hV' ⊢
            clear hw24
            have hV := hV'
            clear hV'
            obtain ⟨o0, o1, o2, o3⟩ := hV.o.four
            go_wp2_with fail
            refine (langParse_all a1 c1 l1 hc1 ((l1.length : Int)) ((gs.length : Int)) ((mxA gs : Int)) ((mxN gs : Int) - 1) (by omega) w24 (hG.up hV.b) (env_keep hE hV.b) (h1.up hV.b) F (hfu _)).mono ?_
            rintro e w25 ⟨hbp, hpa⟩
            obtain ⟨ix, hq⟩ := ((show ∀ L' : Lm, 0 ≤ L'.f → 0 ≤ L'.a → 0 ≤ L'.n → _ from HW) ⟨max ((gs.length : Int)) 0, max ((mxA gs : Int)) 0, max ((mxN gs : Int) - 1) 0⟩ (by dsimp only; omega) (by dsimp only; omega) (by dsimp only; omega)).2.2 (by dsimp only; omega) (by dsimp only; omega) (by dsimp only; omega)
            have hbad := paV_bad hpa (by unfold cT at hle ⊢; omega) HC hq
            obtain ⟨ax, hax⟩ : ∃ ax : Int, ax = ((mf ms ix).at_ : Nat) := ⟨_, rfl⟩
            rw [← hax] at hbad
            clear hax hq
            subst hbad
            unfold noneV
            have hV2 := hV.up hbp
            clear hV hpa hbp o0 o1 o2 o3
            obtain ⟨gx, hgx⟩ := hV2.h
            have g0 : w25.cell? ⟨H, 0, none⟩ = some _ := hgx.cell 0
            have g1 : w25.cell? ⟨H, 1, none⟩ = some _ := hgx.cell 1
            have z0 := hgx.frz 0
            have z1 := hgx.frz 1
            go_upto_region 32 with (refine wpList_storeN rfl 33 (.tmp 15) (.tmp 184) rfl H 0 [.int .i64 23, .int .i64 ax] rfl rfl hgx (Nat.le_refl 2) Tryz.infoFt (one2 _ _) ?_; intro w26 hBz hoz)
            have hV := hV2.puth 23 ax hBz hoz (by omega) (by omega) (by omega)
            clear hV2 hgx g0 g1 z0 z1 hBz hoz gx
            obtain ⟨gx, hgx⟩ := hV.g
            obtain ⟨hx, hhx⟩ := hV.h
            have g0 : w26.cell? ⟨G, 0, none⟩ = some _ := hgx.cell 0
            have h0 : w26.cell? ⟨H, 0, none⟩ = some _ := hhx.cell 0
            have hBz := hV.b
            clear hV hgx hhx
            go_wp2
            go_ret
            exact ⟨rfl, hBz⟩
          · have bn : decide (0 < (mxN gs : Int)) = false := by rw [decide_eq_false_iff_not]; omega
            obtain ⟨o0, o1, o2, o3⟩ := hV.o.four
            go_upto_region 33 with fail
            clear o0 o1 o2 o3 bn
            obtain ⟨gx, hgx⟩ := hV.g
            have g0 : w23.cell? ⟨G, 0, none⟩ = some _ := hgx.cell 0
            have hBz := hV.b
            clear hV hgx
            go_wp2
            go_ret
            exact ⟨rfl, hBz⟩
        · have ba : decide (0 < (mxA gs : Int)) = false := by rw [decide_eq_false_iff_not]; omega
          obtain ⟨gx, hgx⟩ := hV.g
          obtain ⟨hx, hhx⟩ := hV.h
          have g0 : w19.cell? ⟨G, 0, none⟩ = some _ := hgx.cell 0
          have h0 : w19.cell? ⟨H, 0, none⟩ = some _ := hhx.cell 0
          obtain ⟨o0, o1, o2, o3⟩ := hV.o.four
          go_upto_region 29 with fail
          clear ba
          clear g0 h0 hgx hhx gx hx o0 o1 o2 o3
          by_cases hN : 0 < mxN gs
          · have bn : decide (0 < (mxN gs : Int)) = true := by rw [decide_eq_true_eq]; omega
            obtain ⟨o0, o1, o2, o3⟩ := hV.o.four
            go_upto_region 30 with fail
            clear o0 o1 o2 o3 bn
            obtain ⟨o0, o1, o2, o3⟩ := hV.o.four
            have z := hV.o.frz 3
            go_upto_region 31 with fail
            have hV' := hV.setn ((mxN gs : Int) - 1) (by omega) (by omega) (by omega)
            clear hV o0 o1 o2 o3 z
            obtain ⟨w27, hw27⟩ : ∃ W, W = w19.setCell ⟨O, 3, none⟩ (.int .i64 ((mxN gs : Int) - 1)) := ⟨_, rfl⟩
            rw [← hw27] at hV' ⊢
            clear hw27
            have hV := hV'
            clear hV'
            obtain ⟨o0, o1, o2, o3⟩ := hV.o.four
            go_wp2_with fail
            refine (langParse_all a1 c1 l1 hc1 ((l1.length : Int)) ((gs.length : Int)) ((mxA gs : Int)) ((mxN gs : Int) - 1) (by omega) w27 (hG.up hV.b) (env_keep hE hV.b) (h1.up hV.b) F (hfu _)).mono ?_
            rintro e w28 ⟨hbp, hpa⟩
            obtain ⟨ix, hq⟩ := ((show ∀ L' : Lm, 0 ≤ L'.f → 0 ≤ L'.a → 0 ≤ L'.n → _ from HW) ⟨max ((gs.length : Int)) 0, max ((mxA gs : Int)) 0, max ((mxN gs : Int) - 1) 0⟩ (by dsimp only; omega) (by dsimp only; omega) (by dsimp only; omega)).2.2 (by dsimp only; omega) (by dsimp only; omega) (by dsimp only; omega)
            have hbad := paV_bad hpa (by unfold cT at hle ⊢; omega) HC hq
            obtain ⟨ax, hax⟩ : ∃ ax : Int, ax = ((mf ms ix).at_ : Nat) := ⟨_, rfl⟩
            rw [← hax] at hbad
            clear hax hq
            subst hbad
            unfold noneV
            have hV2 := hV.up hbp
            clear hV hpa hbp o0 o1 o2 o3
            obtain ⟨gx, hgx⟩ := hV2.h
            have g0 : w28.cell? ⟨H, 0, none⟩ = some _ := hgx.cell 0
            have g1 : w28.cell? ⟨H, 1, none⟩ = some _ := hgx.cell 1
            have z0 := hgx.frz 0
            have z1 := hgx.frz 1
            go_upto_region 32 with (refine wpList_storeN rfl 33 (.tmp 15) (.tmp 184) rfl H 0 [.int .i64 23, .int .i64 ax] rfl rfl hgx (Nat.le_refl 2) Tryz.infoFt (one2 _ _) ?_; intro w29 hBz hoz)
            have hV := hV2.puth 23 ax hBz hoz (by omega) (by omega) (by omega)
            clear hV2 hgx g0 g1 z0 z1 hBz hoz gx
            obtain ⟨gx, hgx⟩ := hV.g
            obtain ⟨hx, hhx⟩ := hV.h
            have g0 : w29.cell? ⟨G, 0, none⟩ = some _ := hgx.cell 0
            have h0 : w29.cell? ⟨H, 0, none⟩ = some _ := hhx.cell 0
            have hBz := hV.b
            clear hV hgx hhx
            go_wp2
            go_ret
            exact ⟨rfl, hBz⟩
          · have bn : decide (0 < (mxN gs : Int)) = false := by rw [decide_eq_false_iff_not]; omega
            obtain ⟨o0, o1, o2, o3⟩ := hV.o.four
            go_upto_region 33 with fail
            clear o0 o1 o2 o3 bn
            obtain ⟨gx, hgx⟩ := hV.g
            have g0 : w19.cell? ⟨G, 0, none⟩ = some _ := hgx.cell 0
            have hBz := hV.b
            clear hV hgx
            go_wp2
            go_ret
            exact ⟨rfl, hBz⟩
end Go.Proofs.YtkonkplalgoekaaGreatDoor
