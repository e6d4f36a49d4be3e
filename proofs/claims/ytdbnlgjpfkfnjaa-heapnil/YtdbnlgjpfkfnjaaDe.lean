/-
  A heap's calls: pairs made, counts, parts, nodes entered and updated.
-/
import Derived.Test.YtdbnlgjpfkfnjaaDd
namespace Go.Proofs.Ytdbnlgjpfkfnjaa
open Go.RowKit
open Go.Lib
set_option maxRecDepth 100000

/-- Pair, plainly. -/
def pairP (H : Hm) (c d : Cl) : (Int × Int) × Hm := if isC H.ns.length H.ps.length c && isC H.ns.length H.ps.length d then ((H.ps.length, 0), { H with ps := H.ps ++ [(c, d)] }) else ((0, 3), H)

set_option maxHeartbeats 2000000 in
theorem pair_any {S : Nat → Prop} {w : World} {b : Nat} {H : Hm} (h : HpW 73 87 S w b H) (c d : Cl) (hc : ltZ c.z) (hd : ltZ d.z) {k : Nat} (hk : Sz k H) (hl : k < 1260000000000) :
    Calls Try.prog 14 #[.pointer (some ⟨b, 0, none⟩), clV c, clV d] w fun e w' => e = .returned (.tuple #[.int .i64 (pairP H c d).1.1, .int .i64 (pairP H c d).1.2]) ∧ HpN 73 87 S w w' b (pairP H c d).2 := by
  have hC := fun (W : World) (hb : Below w.heap.size w W) => isCell_any (h.up hb) c hc
  have hD := fun (W : World) (hb : Below w.heap.size w W) => isCell_any (h.up hb) d hd
  have hb0 : Below w.heap.size w ((w.alloc (.cells (clC c).toArray 55)).alloc (.cells (clC d).toArray 55)) := Below.thn (below_alloc _ _) (below_alloc _ _)
  have hX : Bk ((w.alloc (.cells (clC c).toArray 55)).alloc (.cells (clC d).toArray 55)) w.heap.size 55 (clC c) := (Bk.new w 55 (clC c).toArray).up (below_alloc _ _)
  have hY : Bk ((w.alloc (.cells (clC c).toArray 55)).alloc (.cells (clC d).toArray 55)) (w.heap.size + 1) 55 (clC d) := by
    have := Bk.new (w.alloc (.cells (clC c).toArray 55)) 55 (clC d).toArray
    simpa using this
  cases h1 : isC H.ns.length H.ps.length c with
  | false =>
    rw [h1] at hC
    rw [show pairP H c d = ((0, 3), H) by unfold pairP; rw [h1]; rfl]
    have hf := h.toN (w' := w) (Below.refl _ _)
    unfold clV at hC hD ⊢
    unfold clC at hX hY hb0
    obtain ⟨ck, ⟨x, y⟩, r, a⟩ := c
    obtain ⟨dk, ⟨u, v⟩, q, e⟩ := d
    go_enter Try.func14, Try.ntmps14
    go_wp2_with (go_at_call 31; refine (hC _ hb0).mono ?_; rintro e w' ⟨rfl, hb⟩)
    exact bodyPost_ret (v := .tuple #[.int .i64 0, .int .i64 3]) (by simp [results, Try.results14, go_sem]) rfl ⟨rfl, h.toN (Below.thn hb0 hb)⟩
  | true =>
    cases h2 : isC H.ns.length H.ps.length d with
    | false =>
      rw [h1] at hC
      rw [h2] at hD
      rw [show pairP H c d = ((0, 3), H) by unfold pairP; rw [h1, h2]; rfl]
      unfold clV at hC hD ⊢
      unfold clC at hX hY hb0
      obtain ⟨ck, ⟨x, y⟩, r, a⟩ := c
      obtain ⟨dk, ⟨u, v⟩, q, e⟩ := d
      dsimp only at hX hY hb0 hC hD ⊢
      go_enter Try.func14, Try.ntmps14
      go_wp2_with (first
        | (go_at_call 31; refine (hC _ hb0).mono ?_; rintro e w' ⟨rfl, hb⟩; have hY2 := hY.up hb; have y0 := hY2.cell 0; have y1 := hY2.cell 1; have y2 := hY2.cell 2; have y3 := hY2.cell 3; simp only [List.getElem?_cons_zero, List.getElem?_cons_succ] at y0 y1 y2 y3; clear hX hY hY2 hC)
        | (go_at_call 31; refine (hD _ (Below.thn hb0 hb)).mono ?_; rintro e w'' ⟨rfl, hb2⟩))
      exact bodyPost_ret (v := .tuple #[.int .i64 0, .int .i64 3]) (by simp [results, Try.results14, go_sem]) rfl ⟨rfl, h.toN (Below.thn (Below.thn hb0 hb) hb2)⟩
    | true =>
      rw [h1] at hC
      rw [h2] at hD
      rw [show pairP H c d = (((H.ps.length : Int), 0), { H with ps := H.ps ++ [(c, d)] }) by unfold pairP; rw [h1, h2]; rfl]
      unfold clV at hC hD ⊢
      unfold clC at hX hY hb0
      obtain ⟨ck, ⟨x, y⟩, r, a⟩ := c
      obtain ⟨dk, ⟨u, v⟩, q, e⟩ := d
      dsimp only at hX hY hb0 hC hD ⊢
      go_enter Try.func14, Try.ntmps14
      go_upto_region 5 with (first
        | (go_at_call 31; refine (hC _ hb0).mono ?_; rintro e w1 ⟨rfl, hb⟩; have hY2 := hY.up hb; have hX2 := hX.up hb; have y0 := hY2.cell 0; have y1 := hY2.cell 1; have y2 := hY2.cell 2; have y3 := hY2.cell 3; simp only [List.getElem?_cons_zero, List.getElem?_cons_succ] at y0 y1 y2 y3; clear hX hY hC)
        | (go_at_call 31; refine (hD _ (Below.thn hb0 hb)).mono ?_; rintro e W ⟨rfl, hb2⟩; have hb3 := Below.thn (Below.thn hb0 hb) hb2; have hY3 := hY2.up hb2; have hX3 := hX2.up hb2; clear hX2 hY2 y0 y1 y2 y3 hD))
      clear hb hb2 hb0 w1
      obtain ⟨g1, g2, vn, vp, hB, hN, hP, g3, g4⟩ := h
      have hBW := hB.up hb3
      have d0 : W.cell? ⟨w.heap.size, 0, none⟩ = some (.int .i64 ck) := hX3.cell 0
      have d1 : W.cell? ⟨w.heap.size, 1, none⟩ = some (.complex .f64 x y) := hX3.cell 1
      have d2 : W.cell? ⟨w.heap.size, 2, none⟩ = some (.bool r) := hX3.cell 2
      have d3 : W.cell? ⟨w.heap.size, 3, none⟩ = some (.int .i64 a) := hX3.cell 3
      have e0 : W.cell? ⟨w.heap.size + 1, 0, none⟩ = some (.int .i64 dk) := hY3.cell 0
      have e1 : W.cell? ⟨w.heap.size + 1, 1, none⟩ = some (.complex .f64 u v) := hY3.cell 1
      have e2 : W.cell? ⟨w.heap.size + 1, 2, none⟩ = some (.bool q) := hY3.cell 2
      have e3 : W.cell? ⟨w.heap.size + 1, 3, none⟩ = some (.int .i64 e) := hY3.cell 3
      have c0 : W.cell? ⟨b, 1, none⟩ = some vp := hBW.cell 1
      have hbW := below_alloc W.drew (.cells #[.int .i64 ck, .complex .f64 x y, .bool r, .int .i64 a, .int .i64 dk, .complex .f64 u v, .bool q, .int .i64 e] 87)
      have hXW : Bk (W.drew.alloc (.cells #[.int .i64 ck, .complex .f64 x y, .bool r, .int .i64 a, .int .i64 dk, .complex .f64 u v, .bool q, .int .i64 e] 87)) W.heap.size 87 (prC (⟨ck, (x, y), r, a⟩, ⟨dk, (u, v), q, e⟩)) := Bk.new W.drew 87 #[.int .i64 ck, .complex .f64 x y, .bool r, .int .i64 a, .int .i64 dk, .complex .f64 u v, .bool q, .int .i64 e]
      obtain ⟨v', w', R, ⟨ao, cap, rfl⟩, hB2, hH⟩ := pair_app tysP Try.underPrs Try.infoPr3 g1 g2 hB hN hP g3 g4 (⟨ck, (x, y), r, a⟩, ⟨dk, (u, v), q, e⟩) (Below.thn hb3 (Below.thn (Below.refl W.heap.size W).drew hbW)) (hXW.range 0 8) hk (by omega)
      have c0' : w'.cell? ⟨b, 1, none⟩ = some vp := hB2.cell 1
      have c0x : (W.alloc (.cells #[.int .i64 ck, .complex .f64 x y, .bool r, .int .i64 a, .int .i64 dk, .complex .f64 u v, .bool q, .int .i64 e] 87)).cell? ⟨b, 1, none⟩ = some vp := (hBW.up (below_alloc W _)).cell 1
      have f0' : w'.frozen? ⟨b, 1, none⟩ = false := hB2.frz 1
      have HR : Hid (_ = _) := R
      have HH : Hid (HpN _ _ _ _ _ _ _) := hH
      have hs2 : (w'.setCell ⟨b, 1, none⟩ (.slice ao (H.ps.length + 1) cap)).cell? ⟨b, 1, none⟩ = some (.slice ao (H.ps.length + 1) cap) := (hB2.set 1 (.slice ao (H.ps.length + 1) cap)).cell 1
      have hwr : wrap64 (H.ps.length : Int) = H.ps.length := by
        have := hk.2.1
        unfold wrap64
        omega
      clear R hH hB2 hXW hbW hBW hX3 hY3 hB hN hP h1 h2 hc hd
      go_region_law (refine step_append_runU rfl (.tmp 24) (.tmp 28) 71 71 rfl rfl _ _ (by simp [Act.eval]) (by simp [Act.eval]) _ _ (show _ = _ from HR.out) ?_)
      all_goals
        go_wp2
        exact bodyPost_ret (v := .tuple #[.int .i64 H.ps.length, .int .i64 0]) (by simp [results, Try.results14, go_sem, hwr]) rfl ⟨rfl, HH.out⟩
end Go.Proofs.Ytdbnlgjpfkfnjaa
