/-
  The document's heap: pairs made, nodes entered and updated.
-/
import Derived.Test.YtdbnlgjpfkfnjaaDl
namespace Go.Proofs.Ytdbnlgjpfkfnjaa
open Go.RowKit
open Go.Lib
set_option maxRecDepth 100000

theorem Try.infoPrR : (Try.prog.info? 80).map (fun i => (i.zero, i.size, i.bytes)) = some (some (.agg #[.int .i64 0, .complex .f64 0 0, .bool false, .int .i64 0, .int .i64 0, .complex .f64 0 0, .bool false, .int .i64 0]), 8, 80) := by kernel_rfl
theorem Try.underPrR : Try.prog.underlying 28 = some (.slice 80) := by kernel_rfl
set_option maxHeartbeats 2000000 in
theorem rpair_any {S : Nat → Prop} {w : World} {b : Nat} {H : Hm} (h : HpW 30 80 S w b H) (c d : Cl) (hc : ltZ c.z) (hd : ltZ d.z) {k : Nat} (hk : Sz k H) (hl : k < 1260000000000) :
    Calls Try.prog 25 #[.pointer (some ⟨b, 0, none⟩), clV c, clV d] w fun e w' => e = .returned (.tuple #[.int .i64 (pairP H c d).1.1, .int .i64 (pairP H c d).1.2]) ∧ HpN 30 80 S w w' b (pairP H c d).2 := by
  have hC := fun (W : World) (hb : Below w.heap.size w W) => rcell_any (h.up hb) c hc
  have hD := fun (W : World) (hb : Below w.heap.size w W) => rcell_any (h.up hb) d hd
  have hb0 : Below w.heap.size w ((w.alloc (.cells (clC c).toArray 55)).alloc (.cells (clC d).toArray 55)) := Below.thn (below_alloc _ _) (below_alloc _ _)
  have hX : Bk ((w.alloc (.cells (clC c).toArray 55)).alloc (.cells (clC d).toArray 55)) w.heap.size 55 (clC c) := (Bk.new w 55 (clC c).toArray).up (below_alloc _ _)
  have hY : Bk ((w.alloc (.cells (clC c).toArray 55)).alloc (.cells (clC d).toArray 55)) (w.heap.size + 1) 55 (clC d) := by
    have := Bk.new (w.alloc (.cells (clC c).toArray 55)) 55 (clC d).toArray
    simpa using this
  cases h1 : isC H.ns.length H.ps.length c with
  | false =>
    rw [h1] at hC
    rw [show pairP H c d = ((0, 3), H) by unfold pairP; rw [h1]; rfl]
    have hf := h.toN (w' := w) (Below.refl _ _)
    unfold clV at hC hD ⊢
    unfold clC at hX hY hb0
    obtain ⟨ck, ⟨x, y⟩, r, a⟩ := c
    obtain ⟨dk, ⟨u, v⟩, q, e⟩ := d
    go_enter Try.func25, Try.ntmps25
    go_wp2_with (go_at_call 36; refine (hC _ hb0).mono ?_; rintro e w' ⟨rfl, hb⟩)
    exact bodyPost_ret (v := .tuple #[.int .i64 0, .int .i64 3]) (by simp [results, Try.results25, go_sem]) rfl ⟨rfl, h.toN (Below.thn hb0 hb)⟩
  | true =>
    cases h2 : isC H.ns.length H.ps.length d with
    | false =>
      rw [h1] at hC
      rw [h2] at hD
      rw [show pairP H c d = ((0, 3), H) by unfold pairP; rw [h1, h2]; rfl]
      unfold clV at hC hD ⊢
      unfold clC at hX hY hb0
      obtain ⟨ck, ⟨x, y⟩, r, a⟩ := c
      obtain ⟨dk, ⟨u, v⟩, q, e⟩ := d
      dsimp only at hX hY hb0 hC hD ⊢
      go_enter Try.func25, Try.ntmps25
      go_wp2_with (first
        | (go_at_call 36; refine (hC _ hb0).mono ?_; rintro e w' ⟨rfl, hb⟩; have hY2 := hY.up hb; have y0 := hY2.cell 0; have y1 := hY2.cell 1; have y2 := hY2.cell 2; have y3 := hY2.cell 3; simp only [List.getElem?_cons_zero, List.getElem?_cons_succ] at y0 y1 y2 y3; clear hX hY hY2 hC)
        | (go_at_call 36; refine (hD _ (Below.thn hb0 hb)).mono ?_; rintro e w'' ⟨rfl, hb2⟩))
      exact bodyPost_ret (v := .tuple #[.int .i64 0, .int .i64 3]) (by simp [results, Try.results25, go_sem]) rfl ⟨rfl, h.toN (Below.thn (Below.thn hb0 hb) hb2)⟩
    | true =>
      rw [h1] at hC
      rw [h2] at hD
      rw [show pairP H c d = (((H.ps.length : Int), 0), { H with ps := H.ps ++ [(c, d)] }) by unfold pairP; rw [h1, h2]; rfl]
      unfold clV at hC hD ⊢
      unfold clC at hX hY hb0
      obtain ⟨ck, ⟨x, y⟩, r, a⟩ := c
      obtain ⟨dk, ⟨u, v⟩, q, e⟩ := d
      dsimp only at hX hY hb0 hC hD ⊢
      go_enter Try.func25, Try.ntmps25
      go_upto_region 3 with (first
        | (go_at_call 36; refine (hC _ hb0).mono ?_; rintro e w1 ⟨rfl, hb⟩; have hY2 := hY.up hb; have hX2 := hX.up hb; have y0 := hY2.cell 0; have y1 := hY2.cell 1; have y2 := hY2.cell 2; have y3 := hY2.cell 3; simp only [List.getElem?_cons_zero, List.getElem?_cons_succ] at y0 y1 y2 y3; clear hX hY hC)
        | (go_at_call 36; refine (hD _ (Below.thn hb0 hb)).mono ?_; rintro e W ⟨rfl, hb2⟩; have hb3 := Below.thn (Below.thn hb0 hb) hb2; have hY3 := hY2.up hb2; have hX3 := hX2.up hb2; clear hX2 hY2 y0 y1 y2 y3 hD))
      clear hb hb2 hb0 w1
      obtain ⟨g1, g2, vn, vp, hB, hN, hP, g3, g4⟩ := h
      have hBW := hB.up hb3
      have d0 : W.cell? ⟨w.heap.size, 0, none⟩ = some (.int .i64 ck) := hX3.cell 0
      have d1 : W.cell? ⟨w.heap.size, 1, none⟩ = some (.complex .f64 x y) := hX3.cell 1
      have d2 : W.cell? ⟨w.heap.size, 2, none⟩ = some (.bool r) := hX3.cell 2
      have d3 : W.cell? ⟨w.heap.size, 3, none⟩ = some (.int .i64 a) := hX3.cell 3
      have e0 : W.cell? ⟨w.heap.size + 1, 0, none⟩ = some (.int .i64 dk) := hY3.cell 0
      have e1 : W.cell? ⟨w.heap.size + 1, 1, none⟩ = some (.complex .f64 u v) := hY3.cell 1
      have e2 : W.cell? ⟨w.heap.size + 1, 2, none⟩ = some (.bool q) := hY3.cell 2
      have e3 : W.cell? ⟨w.heap.size + 1, 3, none⟩ = some (.int .i64 e) := hY3.cell 3
      have c0 : W.cell? ⟨b, 1, none⟩ = some vp := hBW.cell 1
      have hbW := below_alloc W.drew (.cells #[.int .i64 ck, .complex .f64 x y, .bool r, .int .i64 a, .int .i64 dk, .complex .f64 u v, .bool q, .int .i64 e] 80)
      have hXW : Bk (W.drew.alloc (.cells #[.int .i64 ck, .complex .f64 x y, .bool r, .int .i64 a, .int .i64 dk, .complex .f64 u v, .bool q, .int .i64 e] 80)) W.heap.size 80 (prC (⟨ck, (x, y), r, a⟩, ⟨dk, (u, v), q, e⟩)) := Bk.new W.drew 80 #[.int .i64 ck, .complex .f64 x y, .bool r, .int .i64 a, .int .i64 dk, .complex .f64 u v, .bool q, .int .i64 e]
      obtain ⟨v', w', R, ⟨ao, cap, rfl⟩, hB2, hH⟩ := pair_app tysR Try.underPrR Try.infoPrR g1 g2 hB hN hP g3 g4 (⟨ck, (x, y), r, a⟩, ⟨dk, (u, v), q, e⟩) (Below.thn hb3 (Below.thn (Below.refl W.heap.size W).drew hbW)) (hXW.range 0 8) hk (by omega)
      have c0' : w'.cell? ⟨b, 1, none⟩ = some vp := hB2.cell 1
      have c0x : (W.alloc (.cells #[.int .i64 ck, .complex .f64 x y, .bool r, .int .i64 a, .int .i64 dk, .complex .f64 u v, .bool q, .int .i64 e] 80)).cell? ⟨b, 1, none⟩ = some vp := (hBW.up (below_alloc W _)).cell 1
      have f0' : w'.frozen? ⟨b, 1, none⟩ = false := hB2.frz 1
      have HR : Hid (_ = _) := R
      have HH : Hid (HpN _ _ _ _ _ _ _) := hH
      have hs2 : (w'.setCell ⟨b, 1, none⟩ (.slice ao (H.ps.length + 1) cap)).cell? ⟨b, 1, none⟩ = some (.slice ao (H.ps.length + 1) cap) := (hB2.set 1 (.slice ao (H.ps.length + 1) cap)).cell 1
      have hwr : wrap64 (H.ps.length : Int) = H.ps.length := by
        have := hk.2.1
        unfold wrap64
        omega
      clear R hH hB2 hXW hbW hBW hX3 hY3 hB hN hP h1 h2 hc hd
      go_region_law (refine step_append_runU rfl (.tmp 22) (.tmp 26) 28 28 rfl rfl _ _ (by simp [Act.eval]) (by simp [Act.eval]) _ _ (show _ = _ from HR.out) ?_)
      all_goals
        go_wp2
        exact bodyPost_ret (v := .tuple #[.int .i64 H.ps.length, .int .i64 0]) (by simp [results, Try.results25, go_sem, hwr]) rfl ⟨rfl, HH.out⟩
set_option maxHeartbeats 2000000 in
theorem renter_no {S : Nat → Prop} {w : World} {b : Nat} {H : Hm} (h : HpW 30 80 S w b H) (a : Int) (hl : lookP H a = (nd0, 2)) :
    Calls Try.prog 28 #[.pointer (some ⟨b, 0, none⟩), .int .i64 a] w fun e w' => e = .returned (.tuple #[ndV nd0, .int .i64 2]) ∧ HpN 30 80 S w w' b H := by
  have hL := fun (W : World) (hb : Below w.heap.size w W) => rlook_any (h.up hb) a
  rw [hl] at hL
  dsimp only at hL
  clear hl
  have hb1 := below_alloc w (.cells #[.int .i64 0, .int .i64 0, .int .i64 0, .complex .f64 0 0, .bool false, .int .i64 0] 60)
  have hR0 : Bk (w.alloc (.cells #[.int .i64 0, .int .i64 0, .int .i64 0, .complex .f64 0 0, .bool false, .int .i64 0] 60)) w.heap.size 60 (ndC nd0) := Bk.new w 60 #[.int .i64 0, .int .i64 0, .int .i64 0, .complex .f64 0 0, .bool false, .int .i64 0]
  go_enter Try.func28, Try.ntmps28
  go_wp2_with fail
  refine (hL _ hb1).mono ?_
  rintro e w2 ⟨rfl, hb2⟩
  have hR2 := hR0.up hb2
  have hb3 := Below.thn hb1 hb2
  clear hL hb1 hR0 hb2
  generalize w.alloc (.cells #[.int .i64 0, .int .i64 0, .int .i64 0, .complex .f64 0 0, .bool false, .int .i64 0] 60) = w1 at *
  have hN0 : Bk (w2.alloc (.cells #[.int .i64 0, .int .i64 0, .int .i64 0, .complex .f64 0 0, .bool false, .int .i64 0] 60)) w2.heap.size 60 (ndC nd0) := Bk.new w2 60 #[.int .i64 0, .int .i64 0, .int .i64 0, .complex .f64 0 0, .bool false, .int .i64 0]
  have hb4 := Below.thn hb3 (below_alloc w2 (.cells #[.int .i64 0, .int .i64 0, .int .i64 0, .complex .f64 0 0, .bool false, .int .i64 0] 60))
  have hR4 := hR2.up (below_alloc w2 (.cells #[.int .i64 0, .int .i64 0, .int .i64 0, .complex .f64 0 0, .bool false, .int .i64 0] 60))
  have hlt := hR2.lt
  go_wp2_with (first
    | (refine wpList_storeN rfl 60 (.tmp 6) (.tmp 12) rfl w2.heap.size 0 (ndC nd0) rfl rfl hN0 (Nat.le_refl 6) Try.infoNd (ndC_one _) ?_; intro w3 hN3 hO3; have hR3 := hR4.oth hO3 (by omega); have n0 : w3.cell? ⟨w2.heap.size, 0, none⟩ = some (.int .i64 (nd0).s) := hN3.cell 0)
    | (refine wpList_loadN rfl 60 (.tmp 6) rfl w2.heap.size 0 rfl (ndC nd0) _ (hN3.range 0 6) Try.underlying60 Try.infoNd ?_)
    | (refine wpList_storeN rfl 60 (.tmp 4) (.tmp 16) rfl w.heap.size 0 (ndC nd0) rfl rfl hR3 (Nat.le_refl 6) Try.infoNd (ndC_one _) ?_; intro w5 hR5 hO5))
  obtain ⟨z0, z1, z2, z3, z4, z5⟩ := bk_nd hR5
  go_wp2
  exact bodyPost_ret (v := .tuple #[ndV nd0, .int .i64 2]) (by simp [results, Try.results28, go_sem, z0, z1, z2, z3, z4, z5, ndV]) rfl ⟨rfl, h.toN ((hb4.trans (hO3.below (by omega))).trans (hO5.below (Nat.le_refl _)))⟩
set_option maxHeartbeats 2000000 in
theorem renter_black {S : Nat → Prop} {w : World} {b : Nat} {H : Hm} (h : HpW 30 80 S w b H) (a : Int) {n : Nd} (hs : n.s = 2) (hl : lookP H a = (n, 0)) :
    Calls Try.prog 28 #[.pointer (some ⟨b, 0, none⟩), .int .i64 a] w fun e w' => e = .returned (.tuple #[ndV nd0, .int .i64 53]) ∧ HpN 30 80 S w w' b H := by
  have hL := fun (W : World) (hb : Below w.heap.size w W) => rlook_any (h.up hb) a
  rw [hl] at hL
  dsimp only at hL
  clear hl
  have hb1 := below_alloc w (.cells #[.int .i64 0, .int .i64 0, .int .i64 0, .complex .f64 0 0, .bool false, .int .i64 0] 60)
  have hR0 : Bk (w.alloc (.cells #[.int .i64 0, .int .i64 0, .int .i64 0, .complex .f64 0 0, .bool false, .int .i64 0] 60)) w.heap.size 60 (ndC nd0) := Bk.new w 60 #[.int .i64 0, .int .i64 0, .int .i64 0, .complex .f64 0 0, .bool false, .int .i64 0]
  go_enter Try.func28, Try.ntmps28
  go_wp2_with fail
  refine (hL _ hb1).mono ?_
  rintro e w2 ⟨rfl, hb2⟩
  have hR2 := hR0.up hb2
  have hb3 := Below.thn hb1 hb2
  clear hL hb1 hR0 hb2
  generalize w.alloc (.cells #[.int .i64 0, .int .i64 0, .int .i64 0, .complex .f64 0 0, .bool false, .int .i64 0] 60) = w1 at *
  have hN0 : Bk (w2.alloc (.cells #[.int .i64 0, .int .i64 0, .int .i64 0, .complex .f64 0 0, .bool false, .int .i64 0] 60)) w2.heap.size 60 (ndC nd0) := Bk.new w2 60 #[.int .i64 0, .int .i64 0, .int .i64 0, .complex .f64 0 0, .bool false, .int .i64 0]
  have hb4 := Below.thn hb3 (below_alloc w2 (.cells #[.int .i64 0, .int .i64 0, .int .i64 0, .complex .f64 0 0, .bool false, .int .i64 0] 60))
  have hR4 := hR2.up (below_alloc w2 (.cells #[.int .i64 0, .int .i64 0, .int .i64 0, .complex .f64 0 0, .bool false, .int .i64 0] 60))
  have hlt := hR2.lt
  go_wp2_with (first
    | (refine wpList_storeN rfl 60 (.tmp 6) (.tmp 12) rfl w2.heap.size 0 (ndC n) rfl rfl hN0 (Nat.le_refl 6) Try.infoNd (ndC_one _) ?_; intro w3 hN3 hO3; have hR3 := hR4.oth hO3 (by omega); have n0 : w3.cell? ⟨w2.heap.size, 0, none⟩ = some (.int .i64 (n).s) := hN3.cell 0; rw [hs] at n0)
    | (refine wpList_storeN rfl 60 (.tmp 4) (.tmp 22) rfl w.heap.size 0 (ndC nd0) rfl rfl hR3 (Nat.le_refl 6) Try.infoNd (ndC_one _) ?_; intro w5 hR5 hO5))
  obtain ⟨z0, z1, z2, z3, z4, z5⟩ := bk_nd hR5
  go_wp2
  exact bodyPost_ret (v := .tuple #[ndV nd0, .int .i64 53]) (by simp [results, Try.results28, go_sem, z0, z1, z2, z3, z4, z5, ndV]) rfl ⟨rfl, h.toN ((hb4.trans (hO3.below (by omega))).trans (hO5.below (Nat.le_refl _)))⟩
set_option maxHeartbeats 2000000 in
theorem renter_poison {S : Nat → Prop} {w : World} {b : Nat} {H : Hm} (h : HpW 30 80 S w b H) (a : Int) {n : Nd} (hs : n.s = 4) (hl : lookP H a = (n, 0)) :
    Calls Try.prog 28 #[.pointer (some ⟨b, 0, none⟩), .int .i64 a] w fun e w' => e = .returned (.tuple #[ndV nd0, .int .i64 54]) ∧ HpN 30 80 S w w' b H := by
  have hL := fun (W : World) (hb : Below w.heap.size w W) => rlook_any (h.up hb) a
  rw [hl] at hL
  dsimp only at hL
  clear hl
  have hb1 := below_alloc w (.cells #[.int .i64 0, .int .i64 0, .int .i64 0, .complex .f64 0 0, .bool false, .int .i64 0] 60)
  have hR0 : Bk (w.alloc (.cells #[.int .i64 0, .int .i64 0, .int .i64 0, .complex .f64 0 0, .bool false, .int .i64 0] 60)) w.heap.size 60 (ndC nd0) := Bk.new w 60 #[.int .i64 0, .int .i64 0, .int .i64 0, .complex .f64 0 0, .bool false, .int .i64 0]
  go_enter Try.func28, Try.ntmps28
  go_wp2_with fail
  refine (hL _ hb1).mono ?_
  rintro e w2 ⟨rfl, hb2⟩
  have hR2 := hR0.up hb2
  have hb3 := Below.thn hb1 hb2
  clear hL hb1 hR0 hb2
  generalize w.alloc (.cells #[.int .i64 0, .int .i64 0, .int .i64 0, .complex .f64 0 0, .bool false, .int .i64 0] 60) = w1 at *
  have hN0 : Bk (w2.alloc (.cells #[.int .i64 0, .int .i64 0, .int .i64 0, .complex .f64 0 0, .bool false, .int .i64 0] 60)) w2.heap.size 60 (ndC nd0) := Bk.new w2 60 #[.int .i64 0, .int .i64 0, .int .i64 0, .complex .f64 0 0, .bool false, .int .i64 0]
  have hb4 := Below.thn hb3 (below_alloc w2 (.cells #[.int .i64 0, .int .i64 0, .int .i64 0, .complex .f64 0 0, .bool false, .int .i64 0] 60))
  have hR4 := hR2.up (below_alloc w2 (.cells #[.int .i64 0, .int .i64 0, .int .i64 0, .complex .f64 0 0, .bool false, .int .i64 0] 60))
  have hlt := hR2.lt
  go_wp2_with (first
    | (refine wpList_storeN rfl 60 (.tmp 6) (.tmp 12) rfl w2.heap.size 0 (ndC n) rfl rfl hN0 (Nat.le_refl 6) Try.infoNd (ndC_one _) ?_; intro w3 hN3 hO3; have hR3 := hR4.oth hO3 (by omega); have n0 : w3.cell? ⟨w2.heap.size, 0, none⟩ = some (.int .i64 (n).s) := hN3.cell 0; rw [hs] at n0)
    | (refine wpList_storeN rfl 60 (.tmp 4) (.tmp 25) rfl w.heap.size 0 (ndC nd0) rfl rfl hR3 (Nat.le_refl 6) Try.infoNd (ndC_one _) ?_; intro w5 hR5 hO5))
  obtain ⟨z0, z1, z2, z3, z4, z5⟩ := bk_nd hR5
  go_wp2
  exact bodyPost_ret (v := .tuple #[ndV nd0, .int .i64 54]) (by simp [results, Try.results28, go_sem, z0, z1, z2, z3, z4, z5, ndV]) rfl ⟨rfl, h.toN ((hb4.trans (hO3.below (by omega))).trans (hO5.below (Nat.le_refl _)))⟩
set_option maxHeartbeats 2000000 in
theorem renter_done {S : Nat → Prop} {w : World} {b : Nat} {H : Hm} (h : HpW 30 80 S w b H) (a : Int) {n : Nd} (h2 : n.s ≠ 2) (h4 : n.s ≠ 4) (h1 : n.s ≠ 1) (hl : lookP H a = (n, 0)) :
    Calls Try.prog 28 #[.pointer (some ⟨b, 0, none⟩), .int .i64 a] w fun e w' => e = .returned (.tuple #[ndV n, .int .i64 0]) ∧ HpN 30 80 S w w' b H := by
  have hL := fun (W : World) (hb : Below w.heap.size w W) => rlook_any (h.up hb) a
  rw [hl] at hL
  dsimp only at hL
  clear hl
  have hb1 := below_alloc w (.cells #[.int .i64 0, .int .i64 0, .int .i64 0, .complex .f64 0 0, .bool false, .int .i64 0] 60)
  have hR0 : Bk (w.alloc (.cells #[.int .i64 0, .int .i64 0, .int .i64 0, .complex .f64 0 0, .bool false, .int .i64 0] 60)) w.heap.size 60 (ndC nd0) := Bk.new w 60 #[.int .i64 0, .int .i64 0, .int .i64 0, .complex .f64 0 0, .bool false, .int .i64 0]
  go_enter Try.func28, Try.ntmps28
  go_wp2_with fail
  refine (hL _ hb1).mono ?_
  rintro e w2 ⟨rfl, hb2⟩
  have hR2 := hR0.up hb2
  have hb3 := Below.thn hb1 hb2
  clear hL hb1 hR0 hb2
  generalize w.alloc (.cells #[.int .i64 0, .int .i64 0, .int .i64 0, .complex .f64 0 0, .bool false, .int .i64 0] 60) = w1 at *
  have hN0 : Bk (w2.alloc (.cells #[.int .i64 0, .int .i64 0, .int .i64 0, .complex .f64 0 0, .bool false, .int .i64 0] 60)) w2.heap.size 60 (ndC nd0) := Bk.new w2 60 #[.int .i64 0, .int .i64 0, .int .i64 0, .complex .f64 0 0, .bool false, .int .i64 0]
  have hb4 := Below.thn hb3 (below_alloc w2 (.cells #[.int .i64 0, .int .i64 0, .int .i64 0, .complex .f64 0 0, .bool false, .int .i64 0] 60))
  have hR4 := hR2.up (below_alloc w2 (.cells #[.int .i64 0, .int .i64 0, .int .i64 0, .complex .f64 0 0, .bool false, .int .i64 0] 60))
  have hlt := hR2.lt
  go_wp2_with (first
    | (refine wpList_storeN rfl 60 (.tmp 6) (.tmp 12) rfl w2.heap.size 0 (ndC n) rfl rfl hN0 (Nat.le_refl 6) Try.infoNd (ndC_one _) ?_; intro w3 hN3 hO3; have hR3 := hR4.oth hO3 (by omega); have n0 : w3.cell? ⟨w2.heap.size, 0, none⟩ = some (.int .i64 n.s) := hN3.cell 0; rw [over_nd] at hN3)
    | (refine wpList_loadN rfl 60 (.tmp 6) rfl w2.heap.size 0 rfl (ndC n) _ (hN3.range 0 6) Try.underlying60 Try.infoNd ?_)
    | (refine wpList_storeN rfl 60 (.tmp 4) (.tmp 35) rfl w.heap.size 0 (ndC n) rfl rfl hR3 (Nat.le_refl 6) Try.infoNd (ndC_one _) ?_; intro w6 hR6 hO6))
  obtain ⟨z0, z1, z2, z3, z4, z5⟩ := bk_nd hR6
  go_wp2
  exact bodyPost_ret (v := .tuple #[ndV n, .int .i64 0]) (by simp [results, Try.results28, go_sem, z0, z1, z2, z3, z4, z5, ndV]) rfl ⟨rfl, h.toN ((hb4.trans (hO3.below (by omega))).trans (hO6.below (Nat.le_refl _)))⟩
set_option maxHeartbeats 2000000 in
theorem renter_delayed {S : Nat → Prop} {w : World} {b : Nat} {H : Hm} (h : HpW 30 80 S w b H) (a : Int) {i : Nat} {n : Nd} (ha : a = i) (hi : i < H.ns.length) (h1 : n.s = 1) (hl : lookP H a = (n, 0)) :
    Calls Try.prog 28 #[.pointer (some ⟨b, 0, none⟩), .int .i64 a] w fun e w' => e = .returned (.tuple #[ndV n, .int .i64 0]) ∧ HpN 30 80 S w w' b { H with ns := H.ns.set i ⟨2, 0, cl0⟩ } := by
  have hL := fun (W : World) (hb : Below w.heap.size w W) => rlook_any (h.up hb) a
  rw [hl] at hL
  dsimp only at hL
  clear hl
  subst ha
  have hb1 := below_alloc w (.cells #[.int .i64 0, .int .i64 0, .int .i64 0, .complex .f64 0 0, .bool false, .int .i64 0] 60)
  have hR0 : Bk (w.alloc (.cells #[.int .i64 0, .int .i64 0, .int .i64 0, .complex .f64 0 0, .bool false, .int .i64 0] 60)) w.heap.size 60 (ndC nd0) := Bk.new w 60 #[.int .i64 0, .int .i64 0, .int .i64 0, .complex .f64 0 0, .bool false, .int .i64 0]
  go_enter Try.func28, Try.ntmps28
  go_wp2_with fail
  refine (hL _ hb1).mono ?_
  rintro e w2 ⟨rfl, hb2⟩
  have hR2 := hR0.up hb2
  have hb3 := Below.thn hb1 hb2
  clear hL hb1 hR0 hb2
  generalize w.alloc (.cells #[.int .i64 0, .int .i64 0, .int .i64 0, .complex .f64 0 0, .bool false, .int .i64 0] 60) = w1 at *
  have hN0 : Bk (w2.alloc (.cells #[.int .i64 0, .int .i64 0, .int .i64 0, .complex .f64 0 0, .bool false, .int .i64 0] 60)) w2.heap.size 60 (ndC nd0) := Bk.new w2 60 #[.int .i64 0, .int .i64 0, .int .i64 0, .complex .f64 0 0, .bool false, .int .i64 0]
  have hb4 := Below.thn hb3 (below_alloc w2 (.cells #[.int .i64 0, .int .i64 0, .int .i64 0, .complex .f64 0 0, .bool false, .int .i64 0] 60))
  have hR4 := hR2.up (below_alloc w2 (.cells #[.int .i64 0, .int .i64 0, .int .i64 0, .complex .f64 0 0, .bool false, .int .i64 0] 60))
  have hlt := hR2.lt
  obtain ⟨g1, g2, vn, vp, hB, hN, hP, g3, g4⟩ := h
  obtain ⟨g, cap, rfl, hc1, hc2, _⟩ := hN.at ndC_len nd0 hi
  have HS : Hid (∀ W, Below w.heap.size w W → W.there g (i * 6) 6 ∧ ButS S w (W.setCells g (i * 6) (ndC ⟨2, 0, cl0⟩)) ∧ HpW 30 80 S (W.setCells g (i * 6) (ndC ⟨2, 0, cl0⟩)) b { H with ns := H.ns.set i ⟨2, 0, cl0⟩ } ∧ Oth g W (W.setCells g (i * 6) (ndC ⟨2, 0, cl0⟩)) ∧ g < w.heap.size) := fun W hW => node_set tysR g1 g2 hB hN hP g3 g4 hi ⟨2, 0, cl0⟩ hW
  have G1 : Hid (∀ k, S k → k < w.heap.size) := g1
  clear g1 g2 g3 g4 hN hP
  go_upto_region 2 with (refine wpList_storeN rfl 60 (.tmp 6) (.tmp 12) rfl w2.heap.size 0 (ndC n) rfl rfl hN0 (Nat.le_refl 6) Try.infoNd (ndC_one _) ?_; intro w3 hN3 hO3)
  rw [over_nd] at hN3
  have hR3 := hR4.oth hO3 (by omega)
  have n0 : w3.cell? ⟨w2.heap.size, 0, none⟩ = some (.int .i64 n.s) := hN3.cell 0
  rw [h1] at n0
  have hb5 := hb4.trans (hO3.below (by omega : w.heap.size ≤ w2.heap.size))
  obtain ⟨hth, hU4, hH, hO4, hgl⟩ := HS.out _ hb5
  have HU4 : Hid (ButS _ _ _) := hU4
  have HH : Hid (HpW _ _ _ _ _ _) := hH
  have c0 : w3.cell? ⟨b, 0, none⟩ = some (.slice (some ⟨g, 0, none⟩) H.ns.length cap) := (hB.up hb5).cell 0
  have hR4' := hR3.oth hO4 (by omega)
  have hN4 := hN3.oth hO4 (by omega)
  clear hN0 hR4 hR2 hB hU4 hH HS hO3 hO4 hb5 hb4 hb3 hR3 hN3
  obtain ⟨w4, hw4⟩ : ∃ w4, w4 = w3.setCells g (i * 6) (ndC ⟨2, 0, cl0⟩) := ⟨_, rfl⟩
  rw [← hw4] at HU4 HH hR4' hN4
  have HW4 : Hid (w4 = w3.setCells g (i * 6) (ndC ⟨2, 0, cl0⟩)) := hw4
  clear hw4
  go_upto_region 10 with fail
  go_wp2_with (first
    | (refine wpList_store_mid rfl 60 (.tmp 34) (.tmp 33) rfl g (i * 6) (ndC ⟨2, 0, cl0⟩).toArray rfl rfl hth Try.infoNd (all_oneCell_toArray (ndC_one _)) ?_; rw [show w3.setCells g (i * 6) (Array.toList (ndC ⟨2, 0, cl0⟩).toArray) = w4 from HW4.out.symm])
    | (refine wpList_loadN rfl 60 (.tmp 6) rfl w2.heap.size 0 rfl (ndC n) _ (hN4.range 0 6) Try.underlying60 Try.infoNd ?_)
    | (refine wpList_storeN rfl 60 (.tmp 4) (.tmp 35) rfl w.heap.size 0 (ndC n) rfl rfl hR4' (Nat.le_refl 6) Try.infoNd (ndC_one _) ?_; intro w6 hR6 hO6))
  obtain ⟨z0, z1, z2, z3, z4, z5⟩ := bk_nd hR6
  go_wp2
  exact bodyPost_ret (v := .tuple #[ndV n, .int .i64 0]) (by simp [results, Try.results28, go_sem, z0, z1, z2, z3, z4, z5, ndV]) rfl ⟨rfl, hpN_of (HU4.out.thenOth hO6 (Nat.le_refl _)) (HH.out.oth hO6 fun e => by have := G1.out _ e; omega)⟩
theorem renter_any {S : Nat → Prop} {w : World} {b : Nat} {H : Hm} (h : HpW 30 80 S w b H) (a : Int) :
    Calls Try.prog 28 #[.pointer (some ⟨b, 0, none⟩), .int .i64 a] w fun e w' => e = .returned (.tuple #[ndV (enterP H a).1.1, .int .i64 (enterP H a).1.2]) ∧ HpN 30 80 S w w' b (enterP H a).2 := by
  unfold enterP
  rcases look_cases H a with e | ⟨i, rfl, hi, e⟩
  · rw [e]
    exact renter_no h a e
  · by_cases h2 : (H.ns.getD i nd0).s = 2
    · rw [e, if_neg (by simp), if_pos h2]
      exact renter_black h i h2 e
    · by_cases h4 : (H.ns.getD i nd0).s = 4
      · rw [e, if_neg (by simp), if_neg h2, if_pos h4]
        exact renter_poison h i h4 e
      · by_cases h1 : (H.ns.getD i nd0).s = 1
        · rw [e, if_neg (by simp), if_neg h2, if_neg h4, if_pos h1]
          exact renter_delayed h i rfl hi h1 e
        · rw [e, if_neg (by simp), if_neg h2, if_neg h4, if_neg h1]
          exact renter_done h i h2 h4 h1 e
set_option maxHeartbeats 300000 in
theorem rupd_yes {S : Nat → Prop} {w : World} {b : Nat} {H : Hm} (h : HpW 30 80 S w b H) {i : Nat} (hi : i < H.ns.length) (c : Cl) (hz : ltZ c.z) {n : Nd} (hl : lookP H i = (n, 0)) (hs : n.s = 2) (hc : (decide (c.k ≠ 5) && isC H.ns.length H.ps.length c) = true) (hu : H.up < 1300000000000) :
    Calls Try.prog 29 #[.pointer (some ⟨b, 0, none⟩), .int .i64 (i : Int), clV c] w fun e w' => e = .returned (.int .i64 0) ∧ HpN 30 80 S w w' b { H with ns := H.ns.set i ⟨3, 0, c⟩, up := H.up + 1 } := by
  have hL := fun (W : World) (hb : Below w.heap.size w W) => rlook_any (h.up hb) i
  rw [hl] at hL
  dsimp only at hL
  have hE := fun (W : World) (hb : Below w.heap.size w W) => rcell_any (h.up hb) c hz
  have hc5 : c.k ≠ 5 := by
    intro e
    rw [decide_eq_false (fun h => h e)] at hc
    cases hc
  rw [decide_eq_true hc5, Bool.true_and] at hc
  rw [hc] at hE
  clear hl hc
  obtain ⟨g1, g2, vn, vp, hB, hN, hP, g3, g4⟩ := h
  obtain ⟨g, cap, rfl, hc1, hc2, _⟩ := hN.at ndC_len nd0 hi
  have HS : Hid (∀ W, Below w.heap.size w W → W.there g (i * 6) 6 ∧ ButS S w (W.setCells g (i * 6) (ndC ⟨3, 0, c⟩)) ∧ HpW 30 80 S (W.setCells g (i * 6) (ndC ⟨3, 0, c⟩)) b { H with ns := H.ns.set i ⟨3, 0, c⟩ } ∧ Oth g W (W.setCells g (i * 6) (ndC ⟨3, 0, c⟩)) ∧ g < w.heap.size) := fun W hW => node_set tysR g1 g2 hB hN hP g3 g4 hi ⟨3, 0, c⟩ hW
  have G1 : Hid (∀ k, S k → k < w.heap.size) := g1
  clear g1 g2 g3 g4 hN hP
  have hb1 := below_alloc w (.cells (clC c).toArray 55)
  have hX0 := Bk.new w 55 (clC c).toArray
  obtain ⟨ck, ⟨x, y⟩, r, a⟩ := c
  unfold clV at hE ⊢
  unfold clC at hb1 hX0
  dsimp only at hE hb1 hX0 ⊢
  go_enter Try.func29, Try.ntmps29
  go_wp2_with fail
  refine (hL _ hb1).mono ?_
  rintro e w2 ⟨rfl, hb2⟩
  have hX2 := hX0.up hb2
  have hb3 := Below.thn hb1 hb2
  clear hL hb1 hX0 hb2
  generalize w.alloc (.cells [.int .i64 ck, .complex .f64 x y, .bool r, .int .i64 a].toArray 55) = w1 at *
  have hN0 : Bk (w2.alloc (.cells #[.int .i64 0, .int .i64 0, .int .i64 0, .complex .f64 0 0, .bool false, .int .i64 0] 60)) w2.heap.size 60 (ndC nd0) := Bk.new w2 60 #[.int .i64 0, .int .i64 0, .int .i64 0, .complex .f64 0 0, .bool false, .int .i64 0]
  have hb4 := Below.thn hb3 (below_alloc w2 (.cells #[.int .i64 0, .int .i64 0, .int .i64 0, .complex .f64 0 0, .bool false, .int .i64 0] 60))
  have hX4 := hX2.up (below_alloc w2 (.cells #[.int .i64 0, .int .i64 0, .int .i64 0, .complex .f64 0 0, .bool false, .int .i64 0] 60))
  have hlt := hX2.lt
  go_upto_region 2 with (refine wpList_storeN rfl 60 (.tmp 7) (.tmp 13) rfl w2.heap.size 0 (ndC n) rfl rfl hN0 (Nat.le_refl 6) Try.infoNd (ndC_one _) ?_; intro w3 hN3 hO3)
  rw [over_nd] at hN3
  have hX3 := hX4.oth hO3 (by omega)
  have n0 : w3.cell? ⟨w2.heap.size, 0, none⟩ = some (.int .i64 n.s) := hN3.cell 0
  rw [hs] at n0
  have hb5 := hb4.trans (hO3.below (by omega : w.heap.size ≤ w2.heap.size))
  clear hN0 hX4 hX2 hO3 hb4 hb3 hN3
  have x0 : w3.cell? ⟨w.heap.size, 0, none⟩ = some (.int .i64 ck) := hX3.cell 0
  have x1 : w3.cell? ⟨w.heap.size, 1, none⟩ = some (.complex .f64 x y) := hX3.cell 1
  have x2 : w3.cell? ⟨w.heap.size, 2, none⟩ = some (.bool r) := hX3.cell 2
  have x3 : w3.cell? ⟨w.heap.size, 3, none⟩ = some (.int .i64 a) := hX3.cell 3
  go_upto_region 6 with (go_at_call 36; refine (hE _ hb5).mono ?_; rintro e W ⟨rfl, hb6⟩; have x0 : W.cell? ⟨w.heap.size, 0, none⟩ = some (.int .i64 ck) := (hX3.up hb6).cell 0)
  have hb7 := Below.thn hb5 hb6
  have hX7 := hX3.up hb6
  have hB7 := hB.up hb7
  clear hE x1 x2 x3 n0 hX3 hb5
  obtain ⟨hth, hU4, hH, hO4, hgl⟩ := HS.out W.drew hb7.drew
  have x1 : W.cell? ⟨w.heap.size, 1, none⟩ = some (.complex .f64 x y) := hX7.cell 1
  have x2 : W.cell? ⟨w.heap.size, 2, none⟩ = some (.bool r) := hX7.cell 2
  have x3 : W.cell? ⟨w.heap.size, 3, none⟩ = some (.int .i64 a) := hX7.cell 3
  have c0 : W.cell? ⟨b, 0, none⟩ = some (.slice (some ⟨g, 0, none⟩) H.ns.length cap) := hB7.cell 0
  obtain ⟨o0, p0⟩ := Option.isSome_iff_exists.1 (show (W.cell? ⟨g, i * 6, none⟩).isSome = true from (hth 0 (by decide)).1)
  obtain ⟨o1, p1⟩ := Option.isSome_iff_exists.1 (show (W.cell? ⟨g, i * 6 + 1, none⟩).isSome = true from (hth 1 (by decide)).1)
  obtain ⟨o2, p2⟩ := Option.isSome_iff_exists.1 (show (W.cell? ⟨g, i * 6 + 2, none⟩).isSome = true from (hth 2 (by decide)).1)
  obtain ⟨o3, p3⟩ := Option.isSome_iff_exists.1 (show (W.cell? ⟨g, i * 6 + 3, none⟩).isSome = true from (hth 3 (by decide)).1)
  obtain ⟨o4, p4⟩ := Option.isSome_iff_exists.1 (show (W.cell? ⟨g, i * 6 + 4, none⟩).isSome = true from (hth 4 (by decide)).1)
  obtain ⟨o5, p5⟩ := Option.isSome_iff_exists.1 (show (W.cell? ⟨g, i * 6 + 5, none⟩).isSome = true from (hth 5 (by decide)).1)
  have f0 : W.frozen? ⟨g, i * 6, none⟩ = false := (hth 0 (by decide)).2
  have f1 : W.frozen? ⟨g, i * 6 + 1, none⟩ = false := (hth 1 (by decide)).2
  have f2 : W.frozen? ⟨g, i * 6 + 2, none⟩ = false := (hth 2 (by decide)).2
  have f3 : W.frozen? ⟨g, i * 6 + 3, none⟩ = false := (hth 3 (by decide)).2
  have f4 : W.frozen? ⟨g, i * 6 + 4, none⟩ = false := (hth 4 (by decide)).2
  have f5 : W.frozen? ⟨g, i * 6 + 5, none⟩ = false := (hth 5 (by decide)).2
  clear hth HS hb6 hB hX7 hB7 hs
  have HU4 : Hid (ButS _ _ _) := hU4
  have HH : Hid (HpW _ _ _ _ _ _) := hH
  clear hU4 hH hO4
  have hcx := fun W a => store_cx W a x y
  go_region
  all_goals
    rw [set6 W g (i * 6) (.int .i64 3) (.int .i64 0) (.int .i64 ck) (.complex .f64 x y) (.bool r) (.int .i64 a)]
    clear x0 x1 x2 x3 c0 p0 p1 p2 p3 p4 p5 f0 f1 f2 f3 f4 f5 hcx
    unfold ndC at HH HU4
    dsimp only at HH HU4
    generalize W.drew.setCells g (i * 6) [.int .i64 3, .int .i64 0, .int .i64 ck, .complex .f64 x y, .bool r, .int .i64 a] = w4 at *
    obtain ⟨h8, hU8⟩ := set_up tysR HH.out (H.up + 1)
    obtain ⟨_, _, vn', vp', hB4, _, _, _, _⟩ := HH.out
    have c3 : w4.cell? ⟨b, 3, none⟩ = some (.int .i64 H.up) := hB4.cell 3
    have f3 : w4.frozen? ⟨b, 3, none⟩ = false := hB4.frz 3
    have HZ : Hid (HpN 30 80 S w _ b _) := hpN_of (HU4.out.trans hU8) h8
    clear hB4 h8 hU8 HH HU4
    go_wp2
    go_ret
    exact ⟨rfl, HZ.out⟩

set_option maxHeartbeats 1000000 in
theorem rupd_no {S : Nat → Prop} {w : World} {b : Nat} {H : Hm} (h : HpW 30 80 S w b H) (a : Int) (c : Cl) (hl : lookP H a = (nd0, 2)) :
    Calls Try.prog 29 #[.pointer (some ⟨b, 0, none⟩), .int .i64 a, clV c] w fun e w' => e = .returned (.int .i64 2) ∧ HpN 30 80 S w w' b H := by
  have hL := fun (W : World) (hb : Below w.heap.size w W) => rlook_any (h.up hb) a
  rw [hl] at hL
  dsimp only at hL
  clear hl
  have hb1 := below_alloc w (.cells (clC c).toArray 55)
  obtain ⟨ck, ⟨x, y⟩, r, a'⟩ := c
  unfold clV
  unfold clC at hb1
  dsimp only at hb1 ⊢
  go_enter Try.func29, Try.ntmps29
  go_wp2_with fail
  refine (hL _ hb1).mono ?_
  rintro e w2 ⟨rfl, hb2⟩
  have hb3 := Below.thn hb1 hb2
  clear hL hb1 hb2
  generalize w.alloc (.cells [.int .i64 ck, .complex .f64 x y, .bool r, .int .i64 a'].toArray 55) = w1 at *
  have hN0 : Bk (w2.alloc (.cells #[.int .i64 0, .int .i64 0, .int .i64 0, .complex .f64 0 0, .bool false, .int .i64 0] 60)) w2.heap.size 60 (ndC nd0) := Bk.new w2 60 #[.int .i64 0, .int .i64 0, .int .i64 0, .complex .f64 0 0, .bool false, .int .i64 0]
  have hb4 := Below.thn hb3 (below_alloc w2 (.cells #[.int .i64 0, .int .i64 0, .int .i64 0, .complex .f64 0 0, .bool false, .int .i64 0] 60))
  go_wp2_with (refine wpList_storeN rfl 60 (.tmp 7) (.tmp 13) rfl w2.heap.size 0 (ndC nd0) rfl rfl hN0 (Nat.le_refl 6) Try.infoNd (ndC_one _) ?_; intro w3 hN3 hO3)
  go_ret
  exact ⟨rfl, h.toN (hb4.trans (hO3.below hb3.size))⟩

set_option maxHeartbeats 1000000 in
theorem rupd_bad {S : Nat → Prop} {w : World} {b : Nat} {H : Hm} (h : HpW 30 80 S w b H) (i : Int) (c : Cl) (hz : ltZ c.z) {n : Nd} (hl : lookP H i = (n, 0)) (hc : ¬ (n.s = 2 ∧ (decide (c.k ≠ 5) && isC H.ns.length H.ps.length c) = true)) :
    Calls Try.prog 29 #[.pointer (some ⟨b, 0, none⟩), .int .i64 i, clV c] w fun e w' => e = .returned (.int .i64 3) ∧ HpN 30 80 S w w' b H := by
  have hL := fun (W : World) (hb : Below w.heap.size w W) => rlook_any (h.up hb) i
  rw [hl] at hL
  dsimp only at hL
  have hE := fun (W : World) (hb : Below w.heap.size w W) => rcell_any (h.up hb) c hz
  generalize isC H.ns.length H.ps.length c = E at hE hc
  clear hl
  have hb1 := below_alloc w (.cells (clC c).toArray 55)
  have hX0 := Bk.new w 55 (clC c).toArray
  obtain ⟨ck, ⟨x, y⟩, r, a⟩ := c
  unfold clV at hE ⊢
  unfold clC at hb1 hX0
  dsimp only at hE hb1 hX0 ⊢
  go_enter Try.func29, Try.ntmps29
  go_wp2_with fail
  refine (hL _ hb1).mono ?_
  rintro e w2 ⟨rfl, hb2⟩
  have hX2 := hX0.up hb2
  have hb3 := Below.thn hb1 hb2
  clear hL hb1 hX0 hb2
  generalize w.alloc (.cells [.int .i64 ck, .complex .f64 x y, .bool r, .int .i64 a].toArray 55) = w1 at *
  have hN0 : Bk (w2.alloc (.cells #[.int .i64 0, .int .i64 0, .int .i64 0, .complex .f64 0 0, .bool false, .int .i64 0] 60)) w2.heap.size 60 (ndC nd0) := Bk.new w2 60 #[.int .i64 0, .int .i64 0, .int .i64 0, .complex .f64 0 0, .bool false, .int .i64 0]
  have hb4 := Below.thn hb3 (below_alloc w2 (.cells #[.int .i64 0, .int .i64 0, .int .i64 0, .complex .f64 0 0, .bool false, .int .i64 0] 60))
  have hX4 := hX2.up (below_alloc w2 (.cells #[.int .i64 0, .int .i64 0, .int .i64 0, .complex .f64 0 0, .bool false, .int .i64 0] 60))
  have hlt := hX2.lt
  go_upto_region 2 with (refine wpList_storeN rfl 60 (.tmp 7) (.tmp 13) rfl w2.heap.size 0 (ndC n) rfl rfl hN0 (Nat.le_refl 6) Try.infoNd (ndC_one _) ?_; intro w3 hN3 hO3)
  rw [over_nd] at hN3
  have hX3 := hX4.oth hO3 (by omega)
  have n0 : w3.cell? ⟨w2.heap.size, 0, none⟩ = some (.int .i64 n.s) := hN3.cell 0
  have hb5 := hb4.trans (hO3.below (by omega : w.heap.size ≤ w2.heap.size))
  clear hN0 hX4 hX2 hO3 hb4 hb3 hN3
  have x0 : w3.cell? ⟨w.heap.size, 0, none⟩ = some (.int .i64 ck) := hX3.cell 0
  have x1 : w3.cell? ⟨w.heap.size, 1, none⟩ = some (.complex .f64 x y) := hX3.cell 1
  have x2 : w3.cell? ⟨w.heap.size, 2, none⟩ = some (.bool r) := hX3.cell 2
  have x3 : w3.cell? ⟨w.heap.size, 3, none⟩ = some (.int .i64 a) := hX3.cell 3
  by_cases hs : n.s = 2
  · rw [hs] at n0
    by_cases k5 : ck = 5
    · subst k5
      cases E with
      | false =>
        clear hs hc
        go_wp2_with (go_at_call 36; refine (hE _ hb5).mono ?_; rintro e W ⟨rfl, hb6⟩)
        go_ret
        exact ⟨rfl, h.toN (Below.thn hb5 hb6)⟩
      | true =>
        clear hs hc
        go_wp2_with (go_at_call 36; refine (hE _ hb5).mono ?_; rintro e W ⟨rfl, hb6⟩; have x0' : W.cell? ⟨w.heap.size, 0, none⟩ = some (.int .i64 5) := (hX3.up hb6).cell 0)
        go_ret
        exact ⟨rfl, h.toN (Below.thn hb5 hb6)⟩
    · have hE' : E = false := by
        cases E with
        | false => rfl
        | true => exact absurd ⟨hs, by rw [decide_eq_true k5]; rfl⟩ hc
      subst hE'
      clear hs hc
      go_wp2_with (go_at_call 36; refine (hE _ hb5).mono ?_; rintro e W ⟨rfl, hb6⟩)
      go_ret
      exact ⟨rfl, h.toN (Below.thn hb5 hb6)⟩
  · clear hc hE
    go_wp2
    go_ret
    exact ⟨rfl, h.toN hb5⟩
theorem rupdate_any {S : Nat → Prop} {w : World} {b : Nat} {H : Hm} (h : HpW 30 80 S w b H) (a : Int) (c : Cl) (hz : ltZ c.z) {k : Nat} (hk : Sz k H) (hl : k < 1260000000000) :
    Calls Try.prog 29 #[.pointer (some ⟨b, 0, none⟩), .int .i64 a, clV c] w fun e w' => e = .returned (.int .i64 (updP H a c).1) ∧ HpN 30 80 S w w' b (updP H a c).2 := by
  unfold updP
  rcases look_cases H a with e | ⟨i, rfl, hi, e⟩
  · rw [e]
    exact rupd_no h a c e
  · by_cases hc : (H.ns.getD i nd0).s = 2 ∧ (decide (c.k ≠ 5) && isC H.ns.length H.ps.length c) = true
    · rw [e, if_neg (by simp), if_pos hc]
      exact rupd_yes h hi c hz e hc.1 hc.2 (by have := hk.2.2.2; omega)
    · rw [e, if_neg (by simp), if_neg hc]
      exact rupd_bad h i c hz e hc
end Go.Proofs.Ytdbnlgjpfkfnjaa
