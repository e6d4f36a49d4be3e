/-
  The walk of term.
-/
import Derived.Test.YtndgglhppoijnaaGreatDoorNi
import Derived.ScopeJumps
import Derived.Deep.RegionWith
namespace Go.Proofs.YtndgglhppoijnaaGreatDoor
open Go.RowKit
set_option maxRecDepth 100000

set_option maxHeartbeats 8000000 in
theorem term_step (I : Rdi) (hE : Ends I.M I.n) (f : Nat) (ihs : ∀ g, g ≤ f → AllN I g) (w : World) (R k d : Nat) (h : Rdr I w R k d) (hne : termP I.M (lmOf I) (f + 1) d k ≠ .out) :
    Calls Tryz.prog 142 #[.pointer (some ⟨R, 0, none⟩)] w fun e w' => Ans I R d w (exV w.heap.size) (termP I.M (lmOf I) (f + 1) d k) e w' := by
  obtain ⟨r, hr⟩ : ∃ r, r = termP I.M (lmOf I) (f + 1) d k := ⟨_, rfl⟩
  rw [← hr] at hne ⊢
  rw [termP] at hr
  have HR0 : Hid (r = _) := hr
  clear hr
  have hB0 := Bk.new w 41 ez
  have hlt := h.lt
  have hb0 := below_alloc w (.cells ez 41)
  have h1 := h.up hb0
  have hU1 := bel_but hb0 R
  go_enter Tryz.func142, Tryz.ntmps142
  go_wp2
  refine wp_scope_key 0 (SJ I f w R d (fun g x j => Hid (r = termL I.M (lmOf I) g d x j))) (fun _ w' => I.n - posOf R w') rfl (fun hkey => ?_) ?_
  · go_wp2_with fail
    have hn2 : unitP I.M (lmOf I) f d k ≠ .out := bind_ne HR0 hne
    refine ((ihs f (Nat.le_refl _)).unit _ R k d h1 hn2).mono ?_
    rintro e w2 ⟨hV2, ha⟩
    cases hq2 : unitP I.M (lmOf I) f d k with
    | out => exact absurd hq2 hn2
    | bad y j =>
      rw [hq2] at ha
      rw [show e = _ from ha]
      have HR := bind_bad HR0 hq2
      clear ha hq2
      unfold gaveUp
      go_wp2
      exact ⟨rfl, ans_bad HR (hU1.trans hV2) rfl⟩
    | ok a k1 =>
      rw [hq2] at ha
      obtain ⟨⟨v, rfl, vs, rfl, hxa⟩, h2⟩ := ha
      obtain ⟨a0, a1, a2, a3, a4, a5, a6, rfl⟩ := list7 hxa.len
      have HR := bind_ok HR0 hq2
      clear hq2 hn2
      have hU2 := hU1.trans hV2
      have hB2 := hB0.but hV2 (by omega)
      have hL := Bk.new w2 41 ez
      go_wp2_with (refine wpList_storeN rfl 41 (.tmp 3) (.tmp 5) rfl w2.heap.size 0 [a0, a1, a2, a3, a4, a5, a6] rfl rfl hL (Nat.le_refl 7) Tryz.infoE hxa.one ?_; intro w3 hM3 ho3)
      have hb3 := (below_alloc w2 (.cells ez 41)).trans (ho3.below (Nat.le_refl _))
      have hL3 : Bk w3 w2.heap.size 41 [a0, a1, a2, a3, a4, a5, a6] := hM3
      have hlr := hB2.lt
      have hxa2 : ExW w2 (fun b => w.heap.size + 1 ≤ b ∧ b ≠ w2.heap.size) a _ := hxa.imp fun b hb hl => ⟨by simpa using hb, by omega⟩
      refine wp_label ?_
      rename_i K hK
      exact hK _ _ (hkey _ _ (SJ.mk w2.heap.size k1 f a _ (h2.up hb3) (hU2.then hb3) (hB2.up hb3) hL3 (hxa2.up hb3) hlr (Nat.le_refl _) HR))
  · rintro _ w3 ⟨U, gL, k1, g, a, vs, rfl, h3, hU3, hB3, hL3, hxa3, hgl, hg0, HR⟩
    obtain ⟨a0, a1, a2, a3, a4, a5, a6, rfl⟩ := list7 hxa3.len
    have hcx := store_cx
    clear hB0 h1 hU1 hb0 HR0
    go_wp2_with fail
    refine (next_any I w3 R k1 d h3).mono ?_
    rintro e w4 ⟨rfl, hb4⟩
    unfold mkV
    have h4 := h3.up hb4
    have hU4 := hU3.then hb4
    have hB4 := hB3.up hb4
    have hL4 := hL3.up hb4
    have hxa4 := hxa3.up hb4
    have hf := fun W => (fldM (I.M k1) W).2.1
    have hl4 := hL4.lt
    have hp3 := h3.pos
    clear hb4 h3 hB3 hL3 hxa3
    cases g with
    | zero => exact absurd ((show r = _ from HR).trans (by rw [termL])) hne
    | succ g =>
      have hg : g ≤ f := by omega
      have HR : Hid (r = _) := HR
      have hr := show r = _ from HR
      rw [termL] at hr
      have HR : Hid (r = _) := hr
      clear hr
      cases t1 : tk I.M [42] k1 with
      | true =>
        have hkn := hE.tk I.M t1 (by decide) h4.kn
        have e1 := tk_eq2 I [42] k1 t1
        have HR : Hid (r = (unitP I.M (lmOf I) g d (k1 + 1)).bind fun b k2 => termL I.M (lmOf I) g d (two 10 a b (I.M k1)) k2) := by
          show r = _
          rw [show r = _ from HR, if_pos t1]
        clear t1
        have hn5 := bind_ne HR hne
        obtain ⟨b0, b1, b2, b3, b4, b5, b6⟩ := hL4.seven
        cases hq5 : unitP I.M (lmOf I) g d (k1 + 1) with
        | out => exact absurd hq5 hn5
        | bad y j =>
          have HR := bind_bad HR hq5
          go_wp2
          go_region_with (first
            | (go_at_call 103; refine (take_any I _ R k1 d (h4.up (Below.refl _ w4).drew) hkn).mono ?_; rintro e w5 ⟨rfl, h5, hV5⟩; have hU5 := hU4.drew.trans hV5; have hB5 := Bk.but (w := World.drew w4) hB4 hV5 (by omega); have hl5 := hB5.lt; have hL5 := Bk.but (w := World.drew w4) hL4 hV5 (by omega); have hgl5 := hL5.lt; have hxa5 := ExW.but2 (w := World.drew w4) (hxa4.up (Below.refl _ w4).drew) hV5 (fun b hb => by omega); obtain ⟨c0, c1, c2, c3, c4, c5, c6⟩ := hL5.seven)
            | (go_at_call 155; refine calls_two ((ihs g hg).unit w5 R (k1 + 1) d h5 hn5) (.agg #[]) w5 (by rintro e w6 ⟨hV6, ha⟩; rw [hq5] at ha; rw [show e = _ from ha]; unfold gaveUp; exact ⟨rfl, ans_bad HR (hU5.trans hV6) rfl⟩) ?_; intro hF; have HF : Hid False := hF; clear hF; dsimp only)
            | (go_at_call 108; obtain ⟨A, hA, w8, hst⟩ : ∃ A : Array Value, A.size = 7 ∧ ∃ w8, (storeCells ⟨gL, 0, none⟩ A.toList).run Tryz.prog w5 = .ok () w8 := (show False from HF).elim; refine Calls.mono (R := fun e w' => e = .returned (.agg A) ∧ w' = w5) (show False from HF).elim ?_; rintro e w7 ⟨rfl, hw7⟩; rw [hw7]; clear hw7))
          all_goals exact (show False from HF).elim
        | ok b k2 =>
          have HR := bind_ok HR hq5
          have hk2 : k1 + 1 ≤ k2 := by have := (allGe I.M (lmOf I) g).unitP d (k1 + 1); rw [hq5] at this; exact this
          go_wp2
          go_region_with (first
            | (go_at_call 103; refine (take_any I _ R k1 d (h4.up (Below.refl _ w4).drew) hkn).mono ?_; rintro e w5 ⟨rfl, h5, hV5⟩; have hU5 := hU4.drew.trans hV5; have hB5 := Bk.but (w := World.drew w4) hB4 hV5 (by omega); have hl5 := hB5.lt; have hL5 := Bk.but (w := World.drew w4) hL4 hV5 (by omega); have hgl5 := hL5.lt; have hxa5 := ExW.but2 (w := World.drew w4) (hxa4.up (Below.refl _ w4).drew) hV5 (fun b hb => by omega); obtain ⟨c0, c1, c2, c3, c4, c5, c6⟩ := hL5.seven)
            | (go_at_call 155; refine ((ihs g hg).unit w5 R (k1 + 1) d h5 hn5).mono ?_; rintro e w6 ⟨hV6, ha⟩; rw [hq5] at ha; obtain ⟨⟨v, rfl, us, rfl, hxb⟩, h6⟩ := ha; have hU6 := hU5.trans hV6; have hB6 := hB5.but hV6 (by omega); have hl6 := hB6.lt; have hL6 := hL5.but hV6 (by omega); have hgl6 := hL6.lt; have hxa6 := hxa5.but2 hV6 (fun b hb => by omega); obtain ⟨d0, d1, d2, d3, d4, d5, d6⟩ := hL6.seven)
            | (go_at_call 108; refine (both_any 10 (I.M k1) a b _ _ (fun b => w.heap.size + 1 ≤ b ∧ b ≠ gL) w6 hxa6 (hxb.imp fun b hb _ => by omega) (fun b hb => by omega)).mono ?_; rintro e w7 ⟨A, rfl, hA, hxt, hb7⟩; have h7 := h6.up hb7; have hU7 := hU6.then hb7; have hB7 := hB6.up hb7; have hL7 := hL6.up hb7; obtain ⟨w8, hst, hL8, ho8⟩ := store_run hL7 A hA hxt.one))
          all_goals
            go_wp2
            go_step3
            have hpz := (h7.oth ho8 (by omega) (by omega)).pos
            exact ⟨rfl, SJ.mk gL k2 g (two 10 a b (I.M k1)) A.toList (h7.oth ho8 (by omega) (by omega)) (ho8.but hU7 (by omega)) (hB7.oth ho8 (by omega)) hL8 (hxt.oth2 ho8 fun b hb => hb.2) hgl hg HR, by rw [hpz, hp3]; omega⟩
      | false =>
        have e0 := tk_eq2 I [42] k1 t1
        have HR : Hid (r = if tk I.M [47] k1 = true then (unitP I.M (lmOf I) g d (k1 + 1)).bind fun b k2 => termL I.M (lmOf I) g d (two 11 a b (I.M k1)) k2 else .ok a k1) := by
          show r = _
          rw [show r = _ from HR, if_neg (by rw [t1]; simp)]
        clear t1
        cases t1 : tk I.M [47] k1 with
        | true =>
          have hkn := hE.tk I.M t1 (by decide) h4.kn
          have e1 := tk_eq2 I [47] k1 t1
          have HR : Hid (r = (unitP I.M (lmOf I) g d (k1 + 1)).bind fun b k2 => termL I.M (lmOf I) g d (two 11 a b (I.M k1)) k2) := by
            show r = _
            rw [show r = _ from HR, if_pos t1]
          clear t1
          have hn5 := bind_ne HR hne
          obtain ⟨b0, b1, b2, b3, b4, b5, b6⟩ := hL4.seven
          cases hq5 : unitP I.M (lmOf I) g d (k1 + 1) with
          | out => exact absurd hq5 hn5
          | bad y j =>
            have HR := bind_bad HR hq5
            go_wp2
            go_region_with (first
              | (go_at_call 103; refine (take_any I _ R k1 d (h4.up (Below.refl _ w4).drew) hkn).mono ?_; rintro e w5 ⟨rfl, h5, hV5⟩; have hU5 := hU4.drew.trans hV5; have hB5 := Bk.but (w := World.drew w4) hB4 hV5 (by omega); have hl5 := hB5.lt; have hL5 := Bk.but (w := World.drew w4) hL4 hV5 (by omega); have hgl5 := hL5.lt; have hxa5 := ExW.but2 (w := World.drew w4) (hxa4.up (Below.refl _ w4).drew) hV5 (fun b hb => by omega); obtain ⟨c0, c1, c2, c3, c4, c5, c6⟩ := hL5.seven)
              | (go_at_call 155; refine calls_two ((ihs g hg).unit w5 R (k1 + 1) d h5 hn5) (.agg #[]) w5 (by rintro e w6 ⟨hV6, ha⟩; rw [hq5] at ha; rw [show e = _ from ha]; unfold gaveUp; exact ⟨rfl, ans_bad HR (hU5.trans hV6) rfl⟩) ?_; intro hF; have HF : Hid False := hF; clear hF; dsimp only)
              | (go_at_call 108; obtain ⟨A, hA, w8, hst⟩ : ∃ A : Array Value, A.size = 7 ∧ ∃ w8, (storeCells ⟨gL, 0, none⟩ A.toList).run Tryz.prog w5 = .ok () w8 := (show False from HF).elim; refine Calls.mono (R := fun e w' => e = .returned (.agg A) ∧ w' = w5) (show False from HF).elim ?_; rintro e w7 ⟨rfl, hw7⟩; rw [hw7]; clear hw7))
            all_goals exact (show False from HF).elim
          | ok b k2 =>
            have HR := bind_ok HR hq5
            have hk2 : k1 + 1 ≤ k2 := by have := (allGe I.M (lmOf I) g).unitP d (k1 + 1); rw [hq5] at this; exact this
            go_wp2
            go_region_with (first
              | (go_at_call 103; refine (take_any I _ R k1 d (h4.up (Below.refl _ w4).drew) hkn).mono ?_; rintro e w5 ⟨rfl, h5, hV5⟩; have hU5 := hU4.drew.trans hV5; have hB5 := Bk.but (w := World.drew w4) hB4 hV5 (by omega); have hl5 := hB5.lt; have hL5 := Bk.but (w := World.drew w4) hL4 hV5 (by omega); have hgl5 := hL5.lt; have hxa5 := ExW.but2 (w := World.drew w4) (hxa4.up (Below.refl _ w4).drew) hV5 (fun b hb => by omega); obtain ⟨c0, c1, c2, c3, c4, c5, c6⟩ := hL5.seven)
              | (go_at_call 155; refine ((ihs g hg).unit w5 R (k1 + 1) d h5 hn5).mono ?_; rintro e w6 ⟨hV6, ha⟩; rw [hq5] at ha; obtain ⟨⟨v, rfl, us, rfl, hxb⟩, h6⟩ := ha; have hU6 := hU5.trans hV6; have hB6 := hB5.but hV6 (by omega); have hl6 := hB6.lt; have hL6 := hL5.but hV6 (by omega); have hgl6 := hL6.lt; have hxa6 := hxa5.but2 hV6 (fun b hb => by omega); obtain ⟨d0, d1, d2, d3, d4, d5, d6⟩ := hL6.seven)
              | (go_at_call 108; refine (both_any 11 (I.M k1) a b _ _ (fun b => w.heap.size + 1 ≤ b ∧ b ≠ gL) w6 hxa6 (hxb.imp fun b hb _ => by omega) (fun b hb => by omega)).mono ?_; rintro e w7 ⟨A, rfl, hA, hxt, hb7⟩; have h7 := h6.up hb7; have hU7 := hU6.then hb7; have hB7 := hB6.up hb7; have hL7 := hL6.up hb7; obtain ⟨w8, hst, hL8, ho8⟩ := store_run hL7 A hA hxt.one))
            all_goals
              go_wp2
              go_step3
              have hpz := (h7.oth ho8 (by omega) (by omega)).pos
              exact ⟨rfl, SJ.mk gL k2 g (two 11 a b (I.M k1)) A.toList (h7.oth ho8 (by omega) (by omega)) (ho8.but hU7 (by omega)) (hB7.oth ho8 (by omega)) hL8 (hxt.oth2 ho8 fun b hb => hb.2) hgl hg HR, by rw [hpz, hp3]; omega⟩
        | false =>
          have e1 := tk_eq2 I [47] k1 t1
          have HR : Hid (r = .ok a k1) := by
            show r = _
            rw [show r = _ from HR, if_neg (by rw [t1]; simp)]
          clear t1
          go_wp2_with (first
            | refine wpList_loadN rfl 41 (.tmp 3) rfl gL 0 rfl [a0, a1, a2, a3, a4, a5, a6] _ (hL4.range 0 7) Tryz.underE Tryz.infoE ?_
            | (refine wpList_storeN rfl 41 (.tmp 2) (.tmp 25) rfl w.heap.size 0 [a0, a1, a2, a3, a4, a5, a6] rfl rfl hB4 (Nat.le_refl 7) Tryz.infoE hxa4.one ?_; intro wz hBz hoz))
          have hvz : ExV wz w.heap.size a _ := (hxa4.oth2 hoz fun b hb => by omega).imp fun b hb _ => by omega
          have hrz := h4.oth hoz (by omega) (by omega)
          have hUz := hoz.but hU4 (Nat.le_refl _)
          obtain ⟨q0, q1, q2, q3, q4, q5, q6⟩ := Bk.seven (show Bk wz w.heap.size _ [_, _, _, _, _, _, _] from hBz)
          refine bodyPost_ret (v := .agg #[a0, a1, a2, a3, a4, a5, a6]) (by simp [results, Tryz.results142, go_sem, q0, q1, q2, q3, q4, q5, q6]) rfl (ans_ok HR hUz ⟨_, rfl, hvz⟩ hrz)
end Go.Proofs.YtndgglhppoijnaaGreatDoor
