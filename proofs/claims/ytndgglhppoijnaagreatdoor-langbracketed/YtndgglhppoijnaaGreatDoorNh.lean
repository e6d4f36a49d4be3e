/-
  The walk of comp.
-/
import Derived.Test.YtndgglhppoijnaaGreatDoorUI
import Derived.Deep.RegionHeld2
namespace Go.Proofs.YtndgglhppoijnaaGreatDoor
open Go.RowKit
set_option maxRecDepth 100000

/-- A call that gives up, where the walk bears a call that returns alone: the way that is never gone is handed on with 'False'. -/
theorem calls_two {P : Program} {f : FuncId} {xs : Array Value} {w : World} {R G : Ending → World → Prop} (h : Calls P f xs w R) (v : Value) (w0 : World) (hp : ∀ e w', R e w' → G e w') (_ : False → G (.returned v) w0) : Calls P f xs w G := h.mono hp

set_option maxHeartbeats 4000000 in
theorem comp_step (I : Rdi) (hE : Ends I.M I.n) (f : Nat) (ih : AllN I f) (w : World) (R k d : Nat) (h : Rdr I w R k d) (hne : compP I.M (lmOf I) (f + 1) d k ≠ .out) :
    Calls Tryz.prog 107 #[.pointer (some ⟨R, 0, none⟩)] w fun e w' => Ans I R d w (exV w.heap.size) (compP I.M (lmOf I) (f + 1) d k) e w' := by
  obtain ⟨r, hr⟩ : ∃ r, r = compP I.M (lmOf I) (f + 1) d k := ⟨_, rfl⟩
  rw [← hr] at hne ⊢
  rw [compP] at hr
  have HR : Hid (r = _) := hr
  clear hr
  have hB0 := Bk.new w 41 ez
  have hlt := h.lt
  have hcx := store_cx
  go_enter Tryz.func107, Tryz.ntmps107
  have hb0 := below_alloc w (.cells ez 41)
  have h1 := h.up hb0
  have hU1 := bel_but hb0 R
  have hw0 : (w.alloc (.cells ez 41)).heap.size = w.heap.size + 1 := by simp
  go_wp2_with fail
  have hn2 : sumP I.M (lmOf I) f d k ≠ .out := bind_ne HR hne
  refine (ih.sum _ R k d h1 hn2).mono ?_
  rintro e w2 ⟨hV2, ha⟩
  cases hq2 : sumP I.M (lmOf I) f d k with
  | out => exact absurd hq2 hn2
  | bad y j =>
    rw [hq2] at ha
    rw [show e = _ from ha]
    have HR := bind_bad HR hq2
    clear ha hq2
    unfold gaveUp
    go_wp2
    exact ⟨rfl, ans_bad HR (hU1.trans hV2) rfl⟩
  | ok a k1 =>
    rw [hq2] at ha
    obtain ⟨⟨v, rfl, vs, rfl, hxa⟩, h2⟩ := ha
    obtain ⟨a0, a1, a2, a3, a4, a5, a6, rfl⟩ := list7 hxa.len
    have HR := bind_ok HR hq2
    clear hq2 hn2
    have hU2 := hU1.trans hV2
    have hB2 := hB0.but hV2 (by omega)
    have hL := Bk.new w2 41 ez
    go_wp2_with (refine wpList_storeN rfl 41 (.tmp 3) (.tmp 5) rfl w2.heap.size 0 [a0, a1, a2, a3, a4, a5, a6] rfl rfl hL (Nat.le_refl 7) Tryz.infoE hxa.one ?_; intro w3 hM3 ho3)
    have hb3 := (below_alloc w2 (.cells ez 41)).trans (ho3.below (Nat.le_refl _))
    have hL3 : Bk w3 w2.heap.size 41 [a0, a1, a2, a3, a4, a5, a6] := hM3
    have hlr := hB2.lt
    have h3 := h2.up hb3
    have hU3 := hU2.then hb3
    have hB3 := hB2.up hb3
    have hxa3 := hxa.up hb3
    clear hM3 hL ho3 hb3 hxa
    refine (next_any I w3 R k1 d h3).mono ?_
    rintro e w4 ⟨rfl, hb4⟩
    unfold mkV
    have h4 := h3.up hb4
    have hU4 := hU3.then hb4
    have hB4 := hB3.up hb4
    have hL4 := hL3.up hb4
    have hxa4 := hxa3.up hb4
    have hf := fun W => (fldM (I.M k1) W).2.1
    have hl4 := hL4.lt
    have hrl : w2.heap.size ≠ w.heap.size := by omega
    clear hb4 h3 hB3 hL3 hxa3 h2 hB2
    cases t1 : tk I.M [61, 61] k1 with
    | true =>
      have hkn := hE.tk I.M t1 (by decide) h4.kn
      have e1 := tk_eq2 I [61, 61] k1 t1
      have HR : Hid (r = (sumP I.M (lmOf I) f d (k1 + 1)).bind fun b k2 => .ok (two 12 a b (I.M k1)) k2) := by
        show r = _
        rw [show r = _ from HR, if_pos t1]
      clear t1
      have hn5 := bind_ne HR hne
      cases hq5 : sumP I.M (lmOf I) f d (k1 + 1) with
      | out => exact absurd hq5 hn5
      | bad y j =>
        have HR := bind_bad HR hq5
        go_wp2
        go_region_held2 (fun W => W.cell? ⟨w2.heap.size, 0, none⟩ = some a0 ∧ W.cell? ⟨w2.heap.size, 1, none⟩ = some a1 ∧ W.cell? ⟨w2.heap.size, 2, none⟩ = some a2 ∧ W.cell? ⟨w2.heap.size, 3, none⟩ = some a3 ∧ W.cell? ⟨w2.heap.size, 4, none⟩ = some a4 ∧ W.cell? ⟨w2.heap.size, 5, none⟩ = some a5 ∧ W.cell? ⟨w2.heap.size, 6, none⟩ = some a6)
          (first | exact (show False from HF).elim | exact hL8.seven | exact hL7.seven | exact hL6.seven | exact hL5.seven | exact Bk.seven (w := World.drew w4) hL4) (first
          | (go_at_call 103; refine (take_any I _ R k1 d (h4.up (Below.refl _ w4).drew) hkn).mono ?_; rintro e w5 ⟨rfl, h5, hV5⟩; have hU5 := hU4.drew.trans hV5; have hB5 := Bk.but (w := World.drew w4) hB4 hV5 (by omega); have hl5 := hB5.lt; have hL5 := Bk.but (w := World.drew w4) hL4 hV5 (by omega); have hxa5 := ExW.but (w := World.drew w4) (hxa4.up (Below.refl _ w4).drew) hV5 (by simp; omega))
          | (go_at_call 128; refine calls_two (ih.sum w5 R (k1 + 1) d h5 hn5) (.agg #[]) w5 (by rintro e w6 ⟨hV6, ha⟩; rw [hq5] at ha; rw [show e = _ from ha]; unfold gaveUp; exact ⟨rfl, ans_bad HR (hU5.trans hV6) rfl⟩) ?_; intro hF; have HF : Hid False := hF; clear hF; dsimp only)
          | (go_at_call 108; obtain ⟨A, hA, w8, hst⟩ : ∃ A : Array Value, A.size = 7 ∧ ∃ w8, (storeCells ⟨w.heap.size, 0, none⟩ A.toList).run Tryz.prog w5 = .ok () w8 := (show False from HF).elim; refine Calls.mono (R := fun e w' => e = .returned (.agg A) ∧ w' = w5) (show False from HF).elim ?_; rintro e w7 ⟨rfl, hw7⟩; rw [hw7]; clear hw7))
        all_goals exact (show False from HF).elim
      | ok b k2 =>
        have HR := bind_ok HR hq5
        go_wp2
        go_region_held2 (fun W => W.cell? ⟨w2.heap.size, 0, none⟩ = some a0 ∧ W.cell? ⟨w2.heap.size, 1, none⟩ = some a1 ∧ W.cell? ⟨w2.heap.size, 2, none⟩ = some a2 ∧ W.cell? ⟨w2.heap.size, 3, none⟩ = some a3 ∧ W.cell? ⟨w2.heap.size, 4, none⟩ = some a4 ∧ W.cell? ⟨w2.heap.size, 5, none⟩ = some a5 ∧ W.cell? ⟨w2.heap.size, 6, none⟩ = some a6)
          (first | exact (show False from HF).elim | exact hL8.seven | exact hL7.seven | exact hL6.seven | exact hL5.seven | exact Bk.seven (w := World.drew w4) hL4) (first
          | (go_at_call 103; refine (take_any I _ R k1 d (h4.up (Below.refl _ w4).drew) hkn).mono ?_; rintro e w5 ⟨rfl, h5, hV5⟩; have hU5 := hU4.drew.trans hV5; have hB5 := Bk.but (w := World.drew w4) hB4 hV5 (by omega); have hl5 := hB5.lt; have hL5 := Bk.but (w := World.drew w4) hL4 hV5 (by omega); have hxa5 := ExW.but (w := World.drew w4) (hxa4.up (Below.refl _ w4).drew) hV5 (by simp; omega))
          | (go_at_call 128; refine (ih.sum w5 R (k1 + 1) d h5 hn5).mono ?_; rintro e w6 ⟨hV6, ha⟩; rw [hq5] at ha; obtain ⟨⟨v, rfl, vs, rfl, hxb⟩, h6⟩ := ha; have hU6 := hU5.trans hV6; have hB6 := hB5.but hV6 (by omega); have hl6 := hB6.lt; have hL6 := hL5.but hV6 (by omega); have hxa6 := hxa5.but hV6 (by simp; omega))
          | (go_at_call 108; refine (both_any 12 (I.M k1) a b _ _ (fun b => w.heap.size + 1 ≤ b) w6 (hxa6.mono (by simp)) (hxb.mono (by omega)) (fun b hb => by omega)).mono ?_; rintro e w7 ⟨A, rfl, hA, hxt, hb7⟩; have h7 := h6.up hb7; have hU7 := hU6.then hb7; have hB7 := hB6.up hb7; have hL7 := hL6.up hb7; obtain ⟨w8, hst, hB8, ho8⟩ := store_run hB7 A hA hxt.one; have hL8 := hL7.oth ho8 hrl))
        all_goals
          have hxz := (hxt.oth ho8 (by omega)).mono (B' := w.heap.size) (by omega)
          have hrz := h7.oth ho8 (by omega) (by omega)
          have hUz := ho8.but hU7 (Nat.le_refl _)
          obtain ⟨x0, x1, x2, x3, x4, x5, x6, hAx⟩ := list7 hxt.len
          rw [hAx] at hxz hB8
          have hAe : A = #[x0, x1, x2, x3, x4, x5, x6] := by cases A; simpa using hAx
          obtain ⟨q0, q1, q2, q3, q4, q5, q6⟩ := hB8.seven
          go_wp2
          refine bodyPost_ret (v := .agg #[x0, x1, x2, x3, x4, x5, x6]) (by simp [results, Tryz.results107, go_sem, q0, q1, q2, q3, q4, q5, q6]) rfl (ans_ok HR hUz ⟨_, rfl, hxz⟩ hrz)
    | false =>
      have e0 := tk_eq2 I [61, 61] k1 t1
      have HR : Hid (r = _) := HR
      have HR : Hid (r = if tk I.M [60] k1 = true then (sumP I.M (lmOf I) f d (k1 + 1)).bind fun b k2 => .ok (two 13 a b (I.M k1)) k2 else .ok a k1) := by
        show r = _
        rw [show r = _ from HR, if_neg (by rw [t1]; simp)]
      clear t1
      cases t1 : tk I.M [60] k1 with
      | true =>
        have hkn := hE.tk I.M t1 (by decide) h4.kn
        have e1 := tk_eq2 I [60] k1 t1
        have HR : Hid (r = (sumP I.M (lmOf I) f d (k1 + 1)).bind fun b k2 => .ok (two 13 a b (I.M k1)) k2) := by
          show r = _
          rw [show r = _ from HR, if_pos t1]
        clear t1
        have hn5 := bind_ne HR hne
        cases hq5 : sumP I.M (lmOf I) f d (k1 + 1) with
        | out => exact absurd hq5 hn5
        | bad y j =>
          have HR := bind_bad HR hq5
          go_wp2
          go_region_held2 (fun W => W.cell? ⟨w2.heap.size, 0, none⟩ = some a0 ∧ W.cell? ⟨w2.heap.size, 1, none⟩ = some a1 ∧ W.cell? ⟨w2.heap.size, 2, none⟩ = some a2 ∧ W.cell? ⟨w2.heap.size, 3, none⟩ = some a3 ∧ W.cell? ⟨w2.heap.size, 4, none⟩ = some a4 ∧ W.cell? ⟨w2.heap.size, 5, none⟩ = some a5 ∧ W.cell? ⟨w2.heap.size, 6, none⟩ = some a6)
            (first | exact (show False from HF).elim | exact hL8.seven | exact hL7.seven | exact hL6.seven | exact hL5.seven | exact Bk.seven (w := World.drew w4) hL4) (first
            | (go_at_call 103; refine (take_any I _ R k1 d (h4.up (Below.refl _ w4).drew) hkn).mono ?_; rintro e w5 ⟨rfl, h5, hV5⟩; have hU5 := hU4.drew.trans hV5; have hB5 := Bk.but (w := World.drew w4) hB4 hV5 (by omega); have hl5 := hB5.lt; have hL5 := Bk.but (w := World.drew w4) hL4 hV5 (by omega); have hxa5 := ExW.but (w := World.drew w4) (hxa4.up (Below.refl _ w4).drew) hV5 (by simp; omega))
            | (go_at_call 128; refine calls_two (ih.sum w5 R (k1 + 1) d h5 hn5) (.agg #[]) w5 (by rintro e w6 ⟨hV6, ha⟩; rw [hq5] at ha; rw [show e = _ from ha]; unfold gaveUp; exact ⟨rfl, ans_bad HR (hU5.trans hV6) rfl⟩) ?_; intro hF; have HF : Hid False := hF; clear hF; dsimp only)
            | (go_at_call 108; obtain ⟨A, hA, w8, hst⟩ : ∃ A : Array Value, A.size = 7 ∧ ∃ w8, (storeCells ⟨w.heap.size, 0, none⟩ A.toList).run Tryz.prog w5 = .ok () w8 := (show False from HF).elim; refine Calls.mono (R := fun e w' => e = .returned (.agg A) ∧ w' = w5) (show False from HF).elim ?_; rintro e w7 ⟨rfl, hw7⟩; rw [hw7]; clear hw7))
          all_goals exact (show False from HF).elim
        | ok b k2 =>
          have HR := bind_ok HR hq5
          go_wp2
          go_region_held2 (fun W => W.cell? ⟨w2.heap.size, 0, none⟩ = some a0 ∧ W.cell? ⟨w2.heap.size, 1, none⟩ = some a1 ∧ W.cell? ⟨w2.heap.size, 2, none⟩ = some a2 ∧ W.cell? ⟨w2.heap.size, 3, none⟩ = some a3 ∧ W.cell? ⟨w2.heap.size, 4, none⟩ = some a4 ∧ W.cell? ⟨w2.heap.size, 5, none⟩ = some a5 ∧ W.cell? ⟨w2.heap.size, 6, none⟩ = some a6)
            (first | exact (show False from HF).elim | exact hL8.seven | exact hL7.seven | exact hL6.seven | exact hL5.seven | exact Bk.seven (w := World.drew w4) hL4) (first
            | (go_at_call 103; refine (take_any I _ R k1 d (h4.up (Below.refl _ w4).drew) hkn).mono ?_; rintro e w5 ⟨rfl, h5, hV5⟩; have hU5 := hU4.drew.trans hV5; have hB5 := Bk.but (w := World.drew w4) hB4 hV5 (by omega); have hl5 := hB5.lt; have hL5 := Bk.but (w := World.drew w4) hL4 hV5 (by omega); have hxa5 := ExW.but (w := World.drew w4) (hxa4.up (Below.refl _ w4).drew) hV5 (by simp; omega))
            | (go_at_call 128; refine (ih.sum w5 R (k1 + 1) d h5 hn5).mono ?_; rintro e w6 ⟨hV6, ha⟩; rw [hq5] at ha; obtain ⟨⟨v, rfl, vs, rfl, hxb⟩, h6⟩ := ha; have hU6 := hU5.trans hV6; have hB6 := hB5.but hV6 (by omega); have hl6 := hB6.lt; have hL6 := hL5.but hV6 (by omega); have hxa6 := hxa5.but hV6 (by simp; omega))
            | (go_at_call 108; refine (both_any 13 (I.M k1) a b _ _ (fun b => w.heap.size + 1 ≤ b) w6 (hxa6.mono (by simp)) (hxb.mono (by omega)) (fun b hb => by omega)).mono ?_; rintro e w7 ⟨A, rfl, hA, hxt, hb7⟩; have h7 := h6.up hb7; have hU7 := hU6.then hb7; have hB7 := hB6.up hb7; have hL7 := hL6.up hb7; obtain ⟨w8, hst, hB8, ho8⟩ := store_run hB7 A hA hxt.one; have hL8 := hL7.oth ho8 hrl))
          all_goals
            have hxz := (hxt.oth ho8 (by omega)).mono (B' := w.heap.size) (by omega)
            have hrz := h7.oth ho8 (by omega) (by omega)
            have hUz := ho8.but hU7 (Nat.le_refl _)
            obtain ⟨x0, x1, x2, x3, x4, x5, x6, hAx⟩ := list7 hxt.len
            rw [hAx] at hxz hB8
            have hAe : A = #[x0, x1, x2, x3, x4, x5, x6] := by cases A; simpa using hAx
            obtain ⟨q0, q1, q2, q3, q4, q5, q6⟩ := hB8.seven
            go_wp2
            refine bodyPost_ret (v := .agg #[x0, x1, x2, x3, x4, x5, x6]) (by simp [results, Tryz.results107, go_sem, q0, q1, q2, q3, q4, q5, q6]) rfl (ans_ok HR hUz ⟨_, rfl, hxz⟩ hrz)
      | false =>
        have e1 := tk_eq2 I [60] k1 t1
        have HR : Hid (r = .ok a k1) := by
          show r = _
          rw [show r = _ from HR, if_neg (by rw [t1]; simp)]
        clear t1
        go_wp2_with (first
          | refine wpList_loadN rfl 41 (.tmp 3) rfl w2.heap.size 0 rfl [a0, a1, a2, a3, a4, a5, a6] _ (hL4.range 0 7) Tryz.underE Tryz.infoE ?_
          | (refine wpList_storeN rfl 41 (.tmp 2) (.tmp 25) rfl w.heap.size 0 [a0, a1, a2, a3, a4, a5, a6] rfl rfl hB4 (Nat.le_refl 7) Tryz.infoE hxa4.one ?_; intro wz hBz hoz))
        have hvz := (hxa4.oth hoz (by simp)).mono (B' := w.heap.size) (by simp)
        have hrz := h4.oth hoz (by omega) (by omega)
        have hUz := hoz.but hU4 (Nat.le_refl _)
        obtain ⟨q0, q1, q2, q3, q4, q5, q6⟩ := Bk.seven (show Bk wz w.heap.size _ [_, _, _, _, _, _, _] from hBz)
        refine bodyPost_ret (v := .agg #[a0, a1, a2, a3, a4, a5, a6]) (by simp [results, Tryz.results107, go_sem, q0, q1, q2, q3, q4, q5, q6]) rfl (ans_ok HR hUz ⟨_, rfl, hvz⟩ hrz)
end Go.Proofs.YtndgglhppoijnaaGreatDoor
