/-
  A heap's calls: updates, counts, parts.
-/
import Derived.Test.YtdbnlgjpfkfnjaaDf
namespace Go.Proofs.Ytdbnlgjpfkfnjaa
open Go.RowKit
open Go.Lib
set_option maxRecDepth 100000

theorem counts_any {tP : TypeId} {S : Nat → Prop} {w : World} {b : Nat} {H : Hm} (h : HpW 73 tP S w b H) :
    Calls Try.prog 20 #[.pointer (some ⟨b, 0, none⟩)] w fun e w' => e = .returned (.tuple #[.int .i64 H.th, .int .i64 H.up]) ∧ Below w.heap.size w w' := by
  obtain ⟨_, _, vn, vp, hB, _, _, _, _⟩ := h
  have c2 : w.cell? ⟨b, 2, none⟩ = some (.int .i64 H.th) := hB.cell 2
  have c3 : w.cell? ⟨b, 3, none⟩ = some (.int .i64 H.up) := hB.cell 3
  clear hB
  go_enter Try.func20, Try.ntmps20
  go_upto_region 3 with fail
  go_region
  all_goals
    go_wp2
    exact bodyPost_ret (v := .tuple #[.int .i64 H.th, .int .i64 H.up]) (by simp [results, Try.results20, go_sem]) rfl ⟨rfl, (Below.refl _ _).drew⟩

theorem store_cx (W : World) (a : Addr) (x y : Nat) : (store a (.complex .f64 x y)).run Try.prog W = match W.cell? a with
      | some _ => if W.frozen? a then .halt (.unsupported (.unsafePointer "a write to bytes that a string shares")) W else .ok () (W.setCell a (.complex .f64 x y))
      | none => match W.farStore Try.prog a (.complex .f64 x y) (Mode.plain == .atomic) with
        | .ok (w', _) => .ok () w'
        | .error h => .halt h W := run_store Try.prog W a (.complex .f64 x y) .plain rfl

theorem set_drew (W : World) (a : Addr) (v : Value) : (W.setCell a v).drew = W.drew.setCell a v := rfl
theorem set6 (W : World) (g o : Nat) (a0 a1 a2 a3 a4 a5 : Value) : ((((((W.setCell ⟨g, o, none⟩ a0).setCell ⟨g, o + 1, none⟩ a1).setCell ⟨g, o + 2, none⟩ a2).setCell ⟨g, o + 3, none⟩ a3).setCell ⟨g, o + 4, none⟩ a4).setCell ⟨g, o + 5, none⟩ a5).drew = W.drew.setCells g o [a0, a1, a2, a3, a4, a5] := by
  simp only [World.setCells, set_drew, Nat.add_assoc, Nat.reduceAdd]

/-- Update, plainly. -/
def updP (H : Hm) (a : Int) (c : Cl) : Int × Hm :=
  if (lookP H a).2 ≠ 0 then ((lookP H a).2, H) else if (lookP H a).1.s = 2 ∧ (decide (c.k ≠ 5) && isC H.ns.length H.ps.length c) = true then (0, { H with ns := H.ns.set a.toNat ⟨3, 0, c⟩, up := H.up + 1 }) else (3, H)

set_option maxHeartbeats 300000 in
theorem upd_yes {S : Nat → Prop} {w : World} {b : Nat} {H : Hm} (h : HpW 73 87 S w b H) {i : Nat} (hi : i < H.ns.length) (c : Cl) (hz : ltZ c.z) {n : Nd} (hl : lookP H i = (n, 0)) (hs : n.s = 2) (hc : (decide (c.k ≠ 5) && isC H.ns.length H.ps.length c) = true) (hu : H.up < 1300000000000) :
    Calls Try.prog 16 #[.pointer (some ⟨b, 0, none⟩), .int .i64 (i : Int), clV c] w fun e w' => e = .returned (.int .i64 0) ∧ HpN 73 87 S w w' b { H with ns := H.ns.set i ⟨3, 0, c⟩, up := H.up + 1 } := by
  have hL := fun (W : World) (hb : Below w.heap.size w W) => look_any (h.up hb) i
  rw [hl] at hL
  dsimp only at hL
  have hE := fun (W : World) (hb : Below w.heap.size w W) => isEnd_any (h.up hb) c hz
  rw [hc] at hE
  clear hl hc
  obtain ⟨g1, g2, vn, vp, hB, hN, hP, g3, g4⟩ := h
  obtain ⟨g, cap, rfl, hc1, hc2, _⟩ := hN.at ndC_len nd0 hi
  have HS : Hid (∀ W, Below w.heap.size w W → W.there g (i * 6) 6 ∧ ButS S w (W.setCells g (i * 6) (ndC ⟨3, 0, c⟩)) ∧ HpW 73 87 S (W.setCells g (i * 6) (ndC ⟨3, 0, c⟩)) b { H with ns := H.ns.set i ⟨3, 0, c⟩ } ∧ Oth g W (W.setCells g (i * 6) (ndC ⟨3, 0, c⟩)) ∧ g < w.heap.size) := fun W hW => node_set tysP g1 g2 hB hN hP g3 g4 hi ⟨3, 0, c⟩ hW
  have G1 : Hid (∀ k, S k → k < w.heap.size) := g1
  clear g1 g2 g3 g4 hN hP
  have hb1 := below_alloc w (.cells (clC c).toArray 55)
  have hX0 := Bk.new w 55 (clC c).toArray
  obtain ⟨ck, ⟨x, y⟩, r, a⟩ := c
  unfold clV at hE ⊢
  unfold clC at hb1 hX0
  dsimp only at hE hb1 hX0 ⊢
  go_enter Try.func16, Try.ntmps16
  go_wp2_with fail
  refine (hL _ hb1).mono ?_
  rintro e w2 ⟨rfl, hb2⟩
  have hX2 := hX0.up hb2
  have hb3 := Below.thn hb1 hb2
  clear hL hb1 hX0 hb2
  generalize w.alloc (.cells [.int .i64 ck, .complex .f64 x y, .bool r, .int .i64 a].toArray 55) = w1 at *
  have hN0 : Bk (w2.alloc (.cells #[.int .i64 0, .int .i64 0, .int .i64 0, .complex .f64 0 0, .bool false, .int .i64 0] 60)) w2.heap.size 60 (ndC nd0) := Bk.new w2 60 #[.int .i64 0, .int .i64 0, .int .i64 0, .complex .f64 0 0, .bool false, .int .i64 0]
  have hb4 := Below.thn hb3 (below_alloc w2 (.cells #[.int .i64 0, .int .i64 0, .int .i64 0, .complex .f64 0 0, .bool false, .int .i64 0] 60))
  have hX4 := hX2.up (below_alloc w2 (.cells #[.int .i64 0, .int .i64 0, .int .i64 0, .complex .f64 0 0, .bool false, .int .i64 0] 60))
  have hlt := hX2.lt
  go_upto_region 2 with (refine wpList_storeN rfl 60 (.tmp 7) (.tmp 13) rfl w2.heap.size 0 (ndC n) rfl rfl hN0 (Nat.le_refl 6) Try.infoNd (ndC_one _) ?_; intro w3 hN3 hO3)
  rw [over_nd] at hN3
  have hX3 := hX4.oth hO3 (by omega)
  have n0 : w3.cell? ⟨w2.heap.size, 0, none⟩ = some (.int .i64 n.s) := hN3.cell 0
  rw [hs] at n0
  have hb5 := hb4.trans (hO3.below (by omega : w.heap.size ≤ w2.heap.size))
  clear hN0 hX4 hX2 hO3 hb4 hb3 hN3
  have x0 : w3.cell? ⟨w.heap.size, 0, none⟩ = some (.int .i64 ck) := hX3.cell 0
  have x1 : w3.cell? ⟨w.heap.size, 1, none⟩ = some (.complex .f64 x y) := hX3.cell 1
  have x2 : w3.cell? ⟨w.heap.size, 2, none⟩ = some (.bool r) := hX3.cell 2
  have x3 : w3.cell? ⟨w.heap.size, 3, none⟩ = some (.int .i64 a) := hX3.cell 3
  go_upto_region 6 with (go_at_call 33; refine (hE _ hb5).mono ?_; rintro e W ⟨rfl, hb6⟩)
  have hb7 := Below.thn hb5 hb6
  have hX7 := hX3.up hb6
  have hB7 := hB.up hb7
  clear hE x0 x1 x2 x3 n0 hX3 hb5
  obtain ⟨hth, hU4, hH, hO4, hgl⟩ := HS.out W.drew hb7.drew
  have x0 : W.cell? ⟨w.heap.size, 0, none⟩ = some (.int .i64 ck) := hX7.cell 0
  have x1 : W.cell? ⟨w.heap.size, 1, none⟩ = some (.complex .f64 x y) := hX7.cell 1
  have x2 : W.cell? ⟨w.heap.size, 2, none⟩ = some (.bool r) := hX7.cell 2
  have x3 : W.cell? ⟨w.heap.size, 3, none⟩ = some (.int .i64 a) := hX7.cell 3
  have c0 : W.cell? ⟨b, 0, none⟩ = some (.slice (some ⟨g, 0, none⟩) H.ns.length cap) := hB7.cell 0
  obtain ⟨o0, p0⟩ := Option.isSome_iff_exists.1 (show (W.cell? ⟨g, i * 6, none⟩).isSome = true from (hth 0 (by decide)).1)
  obtain ⟨o1, p1⟩ := Option.isSome_iff_exists.1 (show (W.cell? ⟨g, i * 6 + 1, none⟩).isSome = true from (hth 1 (by decide)).1)
  obtain ⟨o2, p2⟩ := Option.isSome_iff_exists.1 (show (W.cell? ⟨g, i * 6 + 2, none⟩).isSome = true from (hth 2 (by decide)).1)
  obtain ⟨o3, p3⟩ := Option.isSome_iff_exists.1 (show (W.cell? ⟨g, i * 6 + 3, none⟩).isSome = true from (hth 3 (by decide)).1)
  obtain ⟨o4, p4⟩ := Option.isSome_iff_exists.1 (show (W.cell? ⟨g, i * 6 + 4, none⟩).isSome = true from (hth 4 (by decide)).1)
  obtain ⟨o5, p5⟩ := Option.isSome_iff_exists.1 (show (W.cell? ⟨g, i * 6 + 5, none⟩).isSome = true from (hth 5 (by decide)).1)
  have f0 : W.frozen? ⟨g, i * 6, none⟩ = false := (hth 0 (by decide)).2
  have f1 : W.frozen? ⟨g, i * 6 + 1, none⟩ = false := (hth 1 (by decide)).2
  have f2 : W.frozen? ⟨g, i * 6 + 2, none⟩ = false := (hth 2 (by decide)).2
  have f3 : W.frozen? ⟨g, i * 6 + 3, none⟩ = false := (hth 3 (by decide)).2
  have f4 : W.frozen? ⟨g, i * 6 + 4, none⟩ = false := (hth 4 (by decide)).2
  have f5 : W.frozen? ⟨g, i * 6 + 5, none⟩ = false := (hth 5 (by decide)).2
  clear hth HS hb6 hB hX7 hB7 hs
  have HU4 : Hid (ButS _ _ _) := hU4
  have HH : Hid (HpW _ _ _ _ _ _) := hH
  clear hU4 hH hO4
  have hcx := fun W a => store_cx W a x y
  go_region
  all_goals
    rw [set6 W g (i * 6) (.int .i64 3) (.int .i64 0) (.int .i64 ck) (.complex .f64 x y) (.bool r) (.int .i64 a)]
    clear x0 x1 x2 x3 c0 p0 p1 p2 p3 p4 p5 f0 f1 f2 f3 f4 f5 hcx
    unfold ndC at HH HU4
    dsimp only at HH HU4
    generalize W.drew.setCells g (i * 6) [.int .i64 3, .int .i64 0, .int .i64 ck, .complex .f64 x y, .bool r, .int .i64 a] = w4 at *
    obtain ⟨h8, hU8⟩ := set_up tysP HH.out (H.up + 1)
    obtain ⟨_, _, vn', vp', hB4, _, _, _, _⟩ := HH.out
    have c3 : w4.cell? ⟨b, 3, none⟩ = some (.int .i64 H.up) := hB4.cell 3
    have f3 : w4.frozen? ⟨b, 3, none⟩ = false := hB4.frz 3
    have HZ : Hid (HpN 73 87 S w _ b _) := hpN_of (HU4.out.trans hU8) h8
    clear hB4 h8 hU8 HH HU4
    go_wp2
    go_ret
    exact ⟨rfl, HZ.out⟩

set_option maxHeartbeats 1000000 in
theorem upd_no {S : Nat → Prop} {w : World} {b : Nat} {H : Hm} (h : HpW 73 87 S w b H) (a : Int) (c : Cl) (hl : lookP H a = (nd0, 2)) :
    Calls Try.prog 16 #[.pointer (some ⟨b, 0, none⟩), .int .i64 a, clV c] w fun e w' => e = .returned (.int .i64 2) ∧ HpN 73 87 S w w' b H := by
  have hL := fun (W : World) (hb : Below w.heap.size w W) => look_any (h.up hb) a
  rw [hl] at hL
  dsimp only at hL
  clear hl
  have hb1 := below_alloc w (.cells (clC c).toArray 55)
  obtain ⟨ck, ⟨x, y⟩, r, a'⟩ := c
  unfold clV
  unfold clC at hb1
  dsimp only at hb1 ⊢
  go_enter Try.func16, Try.ntmps16
  go_wp2_with fail
  refine (hL _ hb1).mono ?_
  rintro e w2 ⟨rfl, hb2⟩
  have hb3 := Below.thn hb1 hb2
  clear hL hb1 hb2
  generalize w.alloc (.cells [.int .i64 ck, .complex .f64 x y, .bool r, .int .i64 a'].toArray 55) = w1 at *
  have hN0 : Bk (w2.alloc (.cells #[.int .i64 0, .int .i64 0, .int .i64 0, .complex .f64 0 0, .bool false, .int .i64 0] 60)) w2.heap.size 60 (ndC nd0) := Bk.new w2 60 #[.int .i64 0, .int .i64 0, .int .i64 0, .complex .f64 0 0, .bool false, .int .i64 0]
  have hb4 := Below.thn hb3 (below_alloc w2 (.cells #[.int .i64 0, .int .i64 0, .int .i64 0, .complex .f64 0 0, .bool false, .int .i64 0] 60))
  go_wp2_with (refine wpList_storeN rfl 60 (.tmp 7) (.tmp 13) rfl w2.heap.size 0 (ndC nd0) rfl rfl hN0 (Nat.le_refl 6) Try.infoNd (ndC_one _) ?_; intro w3 hN3 hO3)
  go_ret
  exact ⟨rfl, h.toN (hb4.trans (hO3.below hb3.size))⟩

set_option maxHeartbeats 1000000 in
theorem upd_bad {S : Nat → Prop} {w : World} {b : Nat} {H : Hm} (h : HpW 73 87 S w b H) (i : Int) (c : Cl) (hz : ltZ c.z) {n : Nd} (hl : lookP H i = (n, 0)) (hc : ¬ (n.s = 2 ∧ (decide (c.k ≠ 5) && isC H.ns.length H.ps.length c) = true)) :
    Calls Try.prog 16 #[.pointer (some ⟨b, 0, none⟩), .int .i64 i, clV c] w fun e w' => e = .returned (.int .i64 3) ∧ HpN 73 87 S w w' b H := by
  have hL := fun (W : World) (hb : Below w.heap.size w W) => look_any (h.up hb) i
  rw [hl] at hL
  dsimp only at hL
  have hE := fun (W : World) (hb : Below w.heap.size w W) => isEnd_any (h.up hb) c hz
  generalize (decide (c.k ≠ 5) && isC H.ns.length H.ps.length c) = E at hE hc
  clear hl
  have hb1 := below_alloc w (.cells (clC c).toArray 55)
  have hX0 := Bk.new w 55 (clC c).toArray
  obtain ⟨ck, ⟨x, y⟩, r, a⟩ := c
  unfold clV at hE ⊢
  unfold clC at hb1 hX0
  dsimp only at hE hb1 hX0 ⊢
  go_enter Try.func16, Try.ntmps16
  go_wp2_with fail
  refine (hL _ hb1).mono ?_
  rintro e w2 ⟨rfl, hb2⟩
  have hX2 := hX0.up hb2
  have hb3 := Below.thn hb1 hb2
  clear hL hb1 hX0 hb2
  generalize w.alloc (.cells [.int .i64 ck, .complex .f64 x y, .bool r, .int .i64 a].toArray 55) = w1 at *
  have hN0 : Bk (w2.alloc (.cells #[.int .i64 0, .int .i64 0, .int .i64 0, .complex .f64 0 0, .bool false, .int .i64 0] 60)) w2.heap.size 60 (ndC nd0) := Bk.new w2 60 #[.int .i64 0, .int .i64 0, .int .i64 0, .complex .f64 0 0, .bool false, .int .i64 0]
  have hb4 := Below.thn hb3 (below_alloc w2 (.cells #[.int .i64 0, .int .i64 0, .int .i64 0, .complex .f64 0 0, .bool false, .int .i64 0] 60))
  have hX4 := hX2.up (below_alloc w2 (.cells #[.int .i64 0, .int .i64 0, .int .i64 0, .complex .f64 0 0, .bool false, .int .i64 0] 60))
  have hlt := hX2.lt
  go_upto_region 2 with (refine wpList_storeN rfl 60 (.tmp 7) (.tmp 13) rfl w2.heap.size 0 (ndC n) rfl rfl hN0 (Nat.le_refl 6) Try.infoNd (ndC_one _) ?_; intro w3 hN3 hO3)
  rw [over_nd] at hN3
  have hX3 := hX4.oth hO3 (by omega)
  have n0 : w3.cell? ⟨w2.heap.size, 0, none⟩ = some (.int .i64 n.s) := hN3.cell 0
  have hb5 := hb4.trans (hO3.below (by omega : w.heap.size ≤ w2.heap.size))
  clear hN0 hX4 hX2 hO3 hb4 hb3 hN3
  have x0 : w3.cell? ⟨w.heap.size, 0, none⟩ = some (.int .i64 ck) := hX3.cell 0
  have x1 : w3.cell? ⟨w.heap.size, 1, none⟩ = some (.complex .f64 x y) := hX3.cell 1
  have x2 : w3.cell? ⟨w.heap.size, 2, none⟩ = some (.bool r) := hX3.cell 2
  have x3 : w3.cell? ⟨w.heap.size, 3, none⟩ = some (.int .i64 a) := hX3.cell 3
  by_cases hs : n.s = 2
  · have hE' : E = false := by cases E with | false => rfl | true => exact absurd ⟨hs, rfl⟩ hc
    subst hE'
    rw [hs] at n0
    clear hs hc
    go_wp2_with (go_at_call 33; refine (hE _ hb5).mono ?_; rintro e W ⟨rfl, hb6⟩)
    go_ret
    exact ⟨rfl, h.toN (Below.thn hb5 hb6)⟩
  · clear hc hE
    go_wp2
    go_ret
    exact ⟨rfl, h.toN hb5⟩
theorem update_any {S : Nat → Prop} {w : World} {b : Nat} {H : Hm} (h : HpW 73 87 S w b H) (a : Int) (c : Cl) (hz : ltZ c.z) {k : Nat} (hk : Sz k H) (hl : k < 1260000000000) :
    Calls Try.prog 16 #[.pointer (some ⟨b, 0, none⟩), .int .i64 a, clV c] w fun e w' => e = .returned (.int .i64 (updP H a c).1) ∧ HpN 73 87 S w w' b (updP H a c).2 := by
  unfold updP
  rcases look_cases H a with e | ⟨i, rfl, hi, e⟩
  · rw [e]
    exact upd_no h a c e
  · by_cases hc : (H.ns.getD i nd0).s = 2 ∧ (decide (c.k ≠ 5) && isC H.ns.length H.ps.length c) = true
    · rw [e, if_neg (by simp), if_pos hc]
      exact upd_yes h hi c hz e hc.1 hc.2 (by have := hk.2.2.2; omega)
    · rw [e, if_neg (by simp), if_neg hc]
      exact upd_bad h i c hz e hc
end Go.Proofs.Ytdbnlgjpfkfnjaa
