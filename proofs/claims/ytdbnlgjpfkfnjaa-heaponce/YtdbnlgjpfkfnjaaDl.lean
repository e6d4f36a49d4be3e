/-
  The document's heap: nodes and pairs, told and made.
-/
import Derived.Test.YtdbnlgjpfkfnjaaDk
namespace Go.Proofs.Ytdbnlgjpfkfnjaa
open Go.RowKit
open Go.Lib
set_option maxRecDepth 100000

theorem has_not {n : Nat} {a : Int} (h : hasI n a = false) : a < 0 ∨ (¬ a < 0 ∧ (n : Int) ≤ a) := by
  unfold hasI at h
  have := of_decide_eq_false h
  omega
theorem Try.infoPr8 : (Try.prog.info? 80).map (·.size) = some 8 := by kernel_rfl
theorem bk_pr {w : World} {g : Nat} {p : Cl × Cl} (h : Bk w g 80 (prC p)) : w.cell? ⟨g, 0, none⟩ = some (.int .i64 p.1.k) ∧ w.cell? ⟨g, 1, none⟩ = some (.complex .f64 p.1.z.1 p.1.z.2) ∧ w.cell? ⟨g, 2, none⟩ = some (.bool p.1.b) ∧ w.cell? ⟨g, 3, none⟩ = some (.int .i64 p.1.a) ∧ w.cell? ⟨g, 4, none⟩ = some (.int .i64 p.2.k) ∧ w.cell? ⟨g, 5, none⟩ = some (.complex .f64 p.2.z.1 p.2.z.2) ∧ w.cell? ⟨g, 6, none⟩ = some (.bool p.2.b) ∧ w.cell? ⟨g, 7, none⟩ = some (.int .i64 p.2.a) :=
  ⟨h.cell 0, h.cell 1, h.cell 2, h.cell 3, h.cell 4, h.cell 5, h.cell 6, h.cell 7⟩
def prV (p : Cl × Cl) : Value := .agg #[.int .i64 p.1.k, .complex .f64 p.1.z.1 p.1.z.2, .bool p.1.b, .int .i64 p.1.a, .int .i64 p.2.k, .complex .f64 p.2.z.1 p.2.z.2, .bool p.2.b, .int .i64 p.2.a]

set_option maxHeartbeats 1000000 in
theorem rlook_any {S : Nat → Prop} {w : World} {b : Nat} {H : Hm} (h : HpW 30 80 S w b H) (a : Int) :
    Calls Try.prog 26 #[.pointer (some ⟨b, 0, none⟩), .int .i64 a] w fun e w' => e = .returned (.tuple #[ndV (lookP H a).1, .int .i64 (lookP H a).2]) ∧ Below w.heap.size w w' := by
  have hb0 := below_alloc w (.cells #[.int .i64 0, .int .i64 0, .int .i64 0, .complex .f64 0 0, .bool false, .int .i64 0] 60)
  have hR0 : Bk (w.alloc (.cells #[.int .i64 0, .int .i64 0, .int .i64 0, .complex .f64 0 0, .bool false, .int .i64 0] 60)) w.heap.size 60 (ndC nd0) := Bk.new w 60 #[.int .i64 0, .int .i64 0, .int .i64 0, .complex .f64 0 0, .bool false, .int .i64 0]
  obtain ⟨hlt, hbS, vn, vp, hB, hR, hP, hS1, hS2⟩ := h
  unfold lookP
  cases hN : hasI H.ns.length a with
  | false =>
    obtain ⟨ao, cap, rfl, hc1, hc2⟩ := hR.slice
    have c0 : (w.alloc (.cells #[.int .i64 0, .int .i64 0, .int .i64 0, .complex .f64 0 0, .bool false, .int .i64 0] 60)).cell? ⟨b, 0, none⟩ = some (.slice ao H.ns.length cap) := (hB.up hb0).cell 0
    clear hB hR hP hS1 hS2 hlt hbS
    rcases has_not hN with hn | ⟨hn, hn2⟩ <;>
    · clear hN
      go_enter Try.func26, Try.ntmps26
      go_upto_region 1 with fail
      generalize w.alloc (.cells #[.int .i64 0, .int .i64 0, .int .i64 0, .complex .f64 0 0, .bool false, .int .i64 0] 60) = W at *
      go_wp2_with (refine wpList_storeN rfl 60 (.tmp 4) (.tmp 17) rfl w.heap.size 0 (ndC nd0) rfl rfl hR0 (Nat.le_refl 6) Try.infoNd (ndC_one _) ?_; intro w9 hB9 hO9)
      obtain ⟨z0, z1, z2, z3, z4, z5⟩ := bk_nd hB9
      go_wp2
      exact bodyPost_ret (v := .tuple #[ndV nd0, .int .i64 2]) (by simp [results, Try.results26, go_sem, z0, z1, z2, z3, z4, z5, ndV]) rfl ⟨rfl, hb0.trans (hO9.below (Nat.le_refl _))⟩
  | true =>
    obtain ⟨i, rfl, hi⟩ := hasI_lt hN
    obtain ⟨g, cap, rfl, hc1, hc2, hr⟩ := hR.at ndC_len nd0 hi
    rw [show ((i : Int)).toNat = i from rfl]
    generalize H.ns.getD i nd0 = n at hr ⊢
    have hgl := hlt g (hS1 g rfl)
    have c0 : (w.alloc (.cells #[.int .i64 0, .int .i64 0, .int .i64 0, .complex .f64 0 0, .bool false, .int .i64 0] 60)).cell? ⟨b, 0, none⟩ = some (.slice (some ⟨g, 0, none⟩) H.ns.length cap) := (hB.up hb0).cell 0
    have hr1 : (w.alloc (.cells #[.int .i64 0, .int .i64 0, .int .i64 0, .complex .f64 0 0, .bool false, .int .i64 0] 60)).rangeAt g (i * 6) (ndC n) := fun j u hj => by
      rw [← hr j u hj]
      exact World.cell?_of_block (hb0.block g hgl)
    clear hB hR hP hS1 hS2 hlt hbS hr hN
    go_enter Try.func26, Try.ntmps26
    go_upto_region 1 with fail
    generalize w.alloc (.cells #[.int .i64 0, .int .i64 0, .int .i64 0, .complex .f64 0 0, .bool false, .int .i64 0] 60) = W at *
    go_wp2_with (first
      | (refine wpList_loadN rfl 60 (.tmp 23) rfl g (i * 6) rfl (ndC n) _ hr1 Try.underlying60 Try.infoNd ?_)
      | (refine wpList_storeN rfl 60 (.tmp 4) (.tmp 24) rfl w.heap.size 0 (ndC n) rfl rfl hR0 (Nat.le_refl 6) Try.infoNd (ndC_one _) ?_; intro w9 hB9 hO9))
    obtain ⟨z0, z1, z2, z3, z4, z5⟩ := bk_nd hB9
    go_wp2
    exact bodyPost_ret (v := .tuple #[ndV n, .int .i64 0]) (by simp [results, Try.results26, go_sem, z0, z1, z2, z3, z4, z5, ndV]) rfl ⟨rfl, hb0.trans (hO9.below (Nat.le_refl _))⟩

set_option maxHeartbeats 1000000 in
theorem rparts_any {S : Nat → Prop} {w : World} {b : Nat} {H : Hm} (h : HpW 30 80 S w b H) (a : Int) :
    Calls Try.prog 27 #[.pointer (some ⟨b, 0, none⟩), .int .i64 a] w fun e w' => e = .returned (.tuple #[prV (partsP H a).1, .int .i64 (partsP H a).2]) ∧ Below w.heap.size w w' := by
  have hb0 := below_alloc w (.cells #[.int .i64 0, .complex .f64 0 0, .bool false, .int .i64 0, .int .i64 0, .complex .f64 0 0, .bool false, .int .i64 0] 80)
  have hR0 : Bk (w.alloc (.cells #[.int .i64 0, .complex .f64 0 0, .bool false, .int .i64 0, .int .i64 0, .complex .f64 0 0, .bool false, .int .i64 0] 80)) w.heap.size 80 (prC (cl0, cl0)) := Bk.new w 80 #[.int .i64 0, .complex .f64 0 0, .bool false, .int .i64 0, .int .i64 0, .complex .f64 0 0, .bool false, .int .i64 0]
  obtain ⟨hlt, hbS, vn, vp, hB, hR, hP, hS1, hS2⟩ := h
  unfold partsP
  cases hN : hasI H.ps.length a with
  | false =>
    obtain ⟨ao, cap, rfl, hc1, hc2⟩ := hP.slice
    have c0 : (w.alloc (.cells #[.int .i64 0, .complex .f64 0 0, .bool false, .int .i64 0, .int .i64 0, .complex .f64 0 0, .bool false, .int .i64 0] 80)).cell? ⟨b, 1, none⟩ = some (.slice ao H.ps.length cap) := (hB.up hb0).cell 1
    clear hB hR hP hS1 hS2 hlt hbS
    rcases has_not hN with hn | ⟨hn, hn2⟩ <;>
    · clear hN
      go_enter Try.func27, Try.ntmps27
      go_upto_region 1 with fail
      generalize w.alloc (.cells #[.int .i64 0, .complex .f64 0 0, .bool false, .int .i64 0, .int .i64 0, .complex .f64 0 0, .bool false, .int .i64 0] 80) = W at *
      go_wp2_with (refine wpList_storeN rfl 80 (.tmp 4) (.tmp 17) rfl w.heap.size 0 (prC (cl0, cl0)) rfl rfl hR0 (Nat.le_refl 8) Try.infoPr8 (prC_one _) ?_; intro w9 hB9 hO9)
      obtain ⟨z0, z1, z2, z3, z4, z5, z6, z7⟩ := bk_pr hB9
      go_wp2
      exact bodyPost_ret (v := .tuple #[prV (cl0, cl0), .int .i64 2]) (by simp [results, Try.results27, go_sem, z0, z1, z2, z3, z4, z5, z6, z7, prV]) rfl ⟨rfl, hb0.trans (hO9.below (Nat.le_refl _))⟩
  | true =>
    obtain ⟨i, rfl, hi⟩ := hasI_lt hN
    obtain ⟨g, cap, rfl, hc1, hc2, hr⟩ := hP.at prC_len (cl0, cl0) hi
    rw [show ((i : Int)).toNat = i from rfl]
    generalize H.ps.getD i (cl0, cl0) = n at hr ⊢
    have hgl := hlt g (hS2 g rfl)
    have c0 : (w.alloc (.cells #[.int .i64 0, .complex .f64 0 0, .bool false, .int .i64 0, .int .i64 0, .complex .f64 0 0, .bool false, .int .i64 0] 80)).cell? ⟨b, 1, none⟩ = some (.slice (some ⟨g, 0, none⟩) H.ps.length cap) := (hB.up hb0).cell 1
    have hr1 : (w.alloc (.cells #[.int .i64 0, .complex .f64 0 0, .bool false, .int .i64 0, .int .i64 0, .complex .f64 0 0, .bool false, .int .i64 0] 80)).rangeAt g (i * 8) (prC n) := fun j u hj => by
      rw [← hr j u hj]
      exact World.cell?_of_block (hb0.block g hgl)
    clear hB hR hP hS1 hS2 hlt hbS hr hN
    go_enter Try.func27, Try.ntmps27
    go_upto_region 1 with fail
    generalize w.alloc (.cells #[.int .i64 0, .complex .f64 0 0, .bool false, .int .i64 0, .int .i64 0, .complex .f64 0 0, .bool false, .int .i64 0] 80) = W at *
    go_wp2_with (first
      | (refine wpList_loadN rfl 80 (.tmp 23) rfl g (i * 8) rfl (prC n) _ hr1 Try.underlying80 Try.infoPr8 ?_)
      | (refine wpList_storeN rfl 80 (.tmp 4) (.tmp 24) rfl w.heap.size 0 (prC n) rfl rfl hR0 (Nat.le_refl 8) Try.infoPr8 (prC_one _) ?_; intro w9 hB9 hO9))
    obtain ⟨z0, z1, z2, z3, z4, z5, z6, z7⟩ := bk_pr hB9
    go_wp2
    exact bodyPost_ret (v := .tuple #[prV n, .int .i64 0]) (by simp [results, Try.results27, go_sem, z0, z1, z2, z3, z4, z5, z6, z7, prV]) rfl ⟨rfl, hb0.trans (hO9.below (Nat.le_refl _))⟩

set_option maxHeartbeats 1000000 in
theorem rdelay_any {S : Nat → Prop} {w : World} {b : Nat} {H : Hm} (h : HpW 30 80 S w b H) (t : Int) {k : Nat} (hk : Sz k H) (hl : k < 1260000000000) :
    Calls Try.prog 23 #[.pointer (some ⟨b, 0, none⟩), .int .i64 t] w fun e w' => e = .returned (.int .i64 H.ns.length) ∧ HpN 30 80 S w w' b { H with ns := H.ns ++ [⟨1, t, cl0⟩], th := H.th + 1 } := by
  obtain ⟨h1, h2, vn, vp, hB, hN, hP, h3, h4⟩ := h
  have hb0 := below_alloc w (.cells #[.int .i64 1, .int .i64 t, .int .i64 0, .complex .f64 0 0, .bool false, .int .i64 0] 60)
  have hX : Bk (w.alloc (.cells #[.int .i64 1, .int .i64 t, .int .i64 0, .complex .f64 0 0, .bool false, .int .i64 0] 60)) w.heap.size 60 (ndC ⟨1, t, cl0⟩) := Bk.new w 60 #[.int .i64 1, .int .i64 t, .int .i64 0, .complex .f64 0 0, .bool false, .int .i64 0]
  obtain ⟨v', w', R, ⟨ao, cap, rfl⟩, hB2, hH⟩ := node_app tysR h1 h2 hB hN hP h3 h4 ⟨1, t, cl0⟩ hb0 (hX.range 0 6) hk (by omega)
  have c0 : w.cell? ⟨b, 0, none⟩ = some vn := hB.cell 0
  have c0' : w'.cell? ⟨b, 0, none⟩ = some vn := hB2.cell 0
  have f0' : w'.frozen? ⟨b, 0, none⟩ = false := hB2.frz 0
  have hB3 := hB2.set 0 (.slice ao (H.ns.length + 1) cap)
  have HR : Hid (_ = _) := R
  have hwr : wrap64 (H.ns.length : Int) = H.ns.length := by
    have := hk.1
    unfold wrap64
    omega
  obtain ⟨hH1, hH2⟩ := hH
  obtain ⟨hH3, hU3⟩ := set_th tysR hH2 (H.th + 1)
  have HH : Hid (HpN 30 80 S w _ b _) := HpN.two (H := { H with ns := H.ns ++ [⟨1, t, cl0⟩] }) ⟨hH1, hH2⟩ (hpN_of hU3 hH3)
  have e2 : (w'.setCell ⟨b, 0, none⟩ (.slice ao (H.ns.length + 1) cap)).cell? ⟨b, 2, none⟩ = some (.int .i64 H.th) := hB3.cell 2
  have g2 : (w'.setCell ⟨b, 0, none⟩ (.slice ao (H.ns.length + 1) cap)).frozen? ⟨b, 2, none⟩ = false := hB3.frz 2
  have ht : H.th < 1300000000000 := by have := hk.2.2.1; omega
  have hB4 := hB3.set 2 (.int .i64 (H.th + 1 : Nat))
  have e0 : ((w'.setCell ⟨b, 0, none⟩ (.slice ao (H.ns.length + 1) cap)).setCell ⟨b, 2, none⟩ (.int .i64 (H.th + 1 : Nat))).cell? ⟨b, 0, none⟩ = some (.slice ao (H.ns.length + 1) cap) := hB4.cell 0
  clear R hH1 hH2 hH3 hU3 hB2 hB3 hB4 hX hB hN hP h1 h3 h4
  go_enter Try.func23, Try.ntmps23
  go_wp2_with (at_builtin; refine wpList_append_run rfl (.tmp 9) (.tmp 12) 27 rfl rfl _ _ rfl rfl _ _ (show _ = _ from HR.out) ?_)
  go_ret
  exact ⟨by simp, HH.out⟩

set_option maxHeartbeats 1000000 in
theorem rpoison_any {S : Nat → Prop} {w : World} {b : Nat} {H : Hm} (h : HpW 30 80 S w b H) {k : Nat} (hk : Sz k H) (hl : k < 1260000000000) :
    Calls Try.prog 24 #[.pointer (some ⟨b, 0, none⟩)] w fun e w' => e = .returned (.int .i64 H.ns.length) ∧ HpN 30 80 S w w' b { H with ns := H.ns ++ [⟨4, 0, cl0⟩] } := by
  obtain ⟨h1, h2, vn, vp, hB, hN, hP, h3, h4⟩ := h
  have hb0 := below_alloc w (.cells #[.int .i64 4, .int .i64 0, .int .i64 0, .complex .f64 0 0, .bool false, .int .i64 0] 60)
  have hX : Bk (w.alloc (.cells #[.int .i64 4, .int .i64 0, .int .i64 0, .complex .f64 0 0, .bool false, .int .i64 0] 60)) w.heap.size 60 (ndC ⟨4, 0, cl0⟩) := Bk.new w 60 #[.int .i64 4, .int .i64 0, .int .i64 0, .complex .f64 0 0, .bool false, .int .i64 0]
  obtain ⟨v', w', R, ⟨ao, cap, rfl⟩, hB2, hH⟩ := node_app tysR h1 h2 hB hN hP h3 h4 ⟨4, 0, cl0⟩ hb0 (hX.range 0 6) hk (by omega)
  have c0 : w.cell? ⟨b, 0, none⟩ = some vn := hB.cell 0
  have c0' : w'.cell? ⟨b, 0, none⟩ = some vn := hB2.cell 0
  have f0' : w'.frozen? ⟨b, 0, none⟩ = false := hB2.frz 0
  have hB3 := hB2.set 0 (.slice ao (H.ns.length + 1) cap)
  have HR : Hid (_ = _) := R
  have hwr : wrap64 (H.ns.length : Int) = H.ns.length := by
    have := hk.1
    unfold wrap64
    omega
  have HH : Hid (HpN 30 80 S w _ b _) := hH
  have e0 : (w'.setCell ⟨b, 0, none⟩ (.slice ao (H.ns.length + 1) cap)).cell? ⟨b, 0, none⟩ = some (.slice ao (H.ns.length + 1) cap) := hB3.cell 0
  clear R hH hB2 hB3 hX hB hN hP h1 h3 h4
  go_enter Try.func24, Try.ntmps24
  go_wp2_with (at_builtin; refine wpList_append_run rfl (.tmp 7) (.tmp 9) 27 rfl rfl _ _ rfl rfl _ _ (show _ = _ from HR.out) ?_)
  go_ret
  exact ⟨by simp [hwr], HH.out⟩
end Go.Proofs.Ytdbnlgjpfkfnjaa
