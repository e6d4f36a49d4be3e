/-
  3 texts in one: what each proves stands at its head.
-/
import Derived.Test.YtndgglhppoijnaaGreatDoorUI
import Derived.Deep.RegionHeld2
import Derived.Test.YtndgglhppoijnaaGreatDoorNg
/-
  The walk of unit.
-/
namespace Go.Proofs.YtndgglhppoijnaaGreatDoor
open Go.RowKit
set_option maxRecDepth 100000

set_option maxHeartbeats 4000000 in
theorem unit_step (I : Rdi) (hE : Ends I.M I.n) (f : Nat) (ih : AllN I f) (w : World) (R k d : Nat) (h : Rdr I w R k d) (hne : unitP I.M (lmOf I) (f + 1) d k ≠ .out) :
    Calls Tryz.prog 155 #[.pointer (some ⟨R, 0, none⟩)] w fun e w' => Ans I R d w (exV w.heap.size) (unitP I.M (lmOf I) (f + 1) d k) e w' := by
  have hB0 := Bk.new w 41 ez
  have h1 := h.up (below_alloc w (.cells ez 41))
  have hlt := h.lt
  obtain ⟨r, hr⟩ : ∃ r, r = unitP I.M (lmOf I) (f + 1) d k := ⟨_, rfl⟩
  rw [← hr] at hne ⊢
  rw [unitP] at hr
  by_cases t2 : (I.M k).kind = 2
  · rw [if_pos t2] at hr
    have hkn := hE.kd I.M t2 (by decide) h.kn
    have HR : Hid (r = _) := hr
    have e2 : ((I.M k).kind == 2) = true := by simp [t2]
    clear hr t2
    go_enter Tryz.func155, Tryz.ntmps155
    go_wp2_with fail
    refine (next_any I _ R k d h1).mono ?_
    rintro e w1 ⟨rfl, hb1⟩
    have h2 := h1.up hb1
    have hB1 := hB0.up hb1
    have hl1 := hB1.lt
    have hU1 := bel_but (Below.thn (below_alloc w (.cells ez 41)) hb1) R
    have hL := Bk.new w1 85 mz
    have hcx := store_cx
    have hf := fun W => (fldM (I.M k) W).2.2.2
    go_wp2_with (refine wpList_storeN rfl 85 (.tmp 3) (.tmp 5) rfl w1.heap.size 0 (mkC (I.M k)) rfl rfl hL (Nat.le_refl 4) Tryz.infoM (mkC_one _) ?_; intro w3 hM3 ho3; have hb3 := (below_alloc w1 (.cells mz 85)).trans (ho3.below (Nat.le_refl _)); have hL3 : Bk w3 w1.heap.size 85 (mkC (I.M k)) := hM3; have hck : w3.cell? ⟨w1.heap.size, 0, none⟩ = some (.int .i64 (I.M k).kind) := hL3.cell 0)
    have h3 := h2.up hb3
    have hU3 := hU1.then hb3
    have hB3 := hB1.up hb3
    have hl3 := hL3.lt
    clear hM3 ho3 hb3
    obtain ⟨_, _, hc2, _⟩ := Bk.four (show Bk w3 w1.heap.size _ [.int .i64 (I.M k).kind, .string (bs (I.M k).text), .complex .f64 (fl (I.M k).p) (fl (I.M k).q), .int .i64 (I.M k).at_] from hL3)
    have hcd : w3.drew.cell? ⟨w1.heap.size, 2, none⟩ = some (.complex .f64 (fl (I.M k).p) (fl (I.M k).q)) := by rw [← hc2]; rfl
    go_region_held2 (fun W => W.cell? ⟨w1.heap.size, 2, none⟩ = some (.complex .f64 (fl (I.M k).p) (fl (I.M k).q)))
      (first | with_reducible exact hc5 | with_reducible exact hcd | exact (Oth.cell ((((((((Oth.refl w.heap.size w5).set 0 _).set 1 _).set 2 _).set 3 _).set 4 _).set 5 _).set 6 _) (by show w1.heap.size ≠ w.heap.size; omega)).trans hc5)
      (first | (go_at_call 103; refine (take_any I _ R k d (h3.up (Below.refl _ w3).drew) hkn).mono ?_; rintro e w5 ⟨rfl, h5, hV5⟩; unfold mkV; have hU5 := hU3.drew.trans hV5; have hB5 := Bk.but (w := World.drew w3) hB3 hV5 (by omega); have hL5 := Bk.but (w := World.drew w3) hL3 hV5 (by omega); obtain ⟨_, _, hc5, _⟩ := Bk.four (show Bk w5 w1.heap.size _ [.int .i64 (I.M k).kind, .string (bs (I.M k).text), .complex .f64 (fl (I.M k).p) (fl (I.M k).q), .int .i64 (I.M k).at_] from hL5); obtain ⟨p0, p1, p2, p3, p4, p5, p6⟩ := Bk.seven (show Bk w5 w.heap.size _ [_, _, _, _, _, _, _] from hB5); have z0 := hB5.frz 0; have z1 := hB5.frz 1; have z2 := hB5.frz 2; have z3 := hB5.frz 3; have z4 := hB5.frz 4; have z5 := hB5.frz 5; have z6 := hB5.frz 6))
    all_goals
      obtain ⟨hBz, hoz⟩ := hB5.sets [.int .i64 1, .string ⟨#[]⟩, .string ⟨#[]⟩, .int .i64 0, .complex .f64 (fl (I.M k).p) (fl (I.M k).q), .slice none 0 0, .int .i64 (I.M k).at_] 0
      have hrz := h5.oth hoz (by omega) (by omega)
      have hUz := hoz.but hU5 (Nat.le_refl _)
      have hvz : ExV _ w.heap.size (.mk 1 [] [] 0 (I.M k).p (I.M k).q [] (I.M k).at_) [.int .i64 1, .string ⟨#[]⟩, .string ⟨#[]⟩, .int .i64 0, .complex .f64 (fl (I.M k).p) (fl (I.M k).q), .slice none 0 0, .int .i64 (I.M k).at_] := ExW.mk (w := w5.setCells w.heap.size 0 [.int .i64 1, .string ⟨#[]⟩, .string ⟨#[]⟩, .int .i64 0, .complex .f64 (fl (I.M k).p) (fl (I.M k).q), .slice none 0 0, .int .i64 (I.M k).at_]) (c := 0) (ao := none) .nil
      go_wp2
      refine bodyPost_ret (v := .agg #[.int .i64 1, .string ⟨#[]⟩, .string ⟨#[]⟩, .int .i64 0, .complex .f64 (fl (I.M k).p) (fl (I.M k).q), .slice none 0 0, .int .i64 (I.M k).at_]) (by simp [results, Tryz.results155, go_sem, p0, p1, p2, p3, p4, p5, p6]) rfl (ans_ok HR hUz ⟨_, rfl, hvz⟩ hrz)
  · rw [if_neg t2] at hr
    have e2 : ((I.M k).kind == 2) = false := by simp [t2]
    clear t2
    by_cases t0 : (I.M k).kind = 0
    · rw [if_pos t0] at hr
      have hkn := hE.kd I.M t0 (by decide) h.kn
      have HR : Hid (r = _) := hr
      have e0 : ((I.M k).kind == 0) = true := by simp [t0]
      clear hr t0
      go_enter Tryz.func155, Tryz.ntmps155
      go_wp2_with fail
      refine (next_any I _ R k d h1).mono ?_
      rintro e w1 ⟨rfl, hb1⟩
      have h2 := h1.up hb1
      have hB1 := hB0.up hb1
      have hl1 := hB1.lt
      have hU1 := bel_but (Below.thn (below_alloc w (.cells ez 41)) hb1) R
      have hL := Bk.new w1 85 mz
      go_wp2_with (refine wpList_storeN rfl 85 (.tmp 3) (.tmp 5) rfl w1.heap.size 0 (mkC (I.M k)) rfl rfl hL (Nat.le_refl 4) Tryz.infoM (mkC_one _) ?_; intro w3 hM3 ho3; have hb3 := (below_alloc w1 (.cells mz 85)).trans (ho3.below (Nat.le_refl _)); have hL3 : Bk w3 w1.heap.size 85 (mkC (I.M k)) := hM3; have hck : w3.cell? ⟨w1.heap.size, 0, none⟩ = some (.int .i64 (I.M k).kind) := hL3.cell 0)
      have h3 := h2.up hb3
      have hU3 := hU1.then hb3
      have hB3 := hB1.up hb3
      have hl3 := hL3.lt
      clear hM3 ho3 hb3
      refine (ih.named w3 R k d h3 hkn (by rw [← show r = _ from HR]; exact hne)).mono ?_
      rintro e w4 ⟨hV4, ha⟩
      rw [← show r = _ from HR] at ha
      cases r with
      | out => exact absurd rfl hne
      | bad y j =>
        rw [show e = _ from ha]
        clear ha
        unfold gaveUp
        go_wp2
        exact ⟨rfl, ans_bad rfl (hU3.trans hV4) rfl⟩
      | ok x j =>
        obtain ⟨⟨v, rfl, vs, rfl, hv⟩, h4⟩ := ha
        have hB4 := hB3.but hV4 (by omega)
        have hU4 := hU3.trans hV4
        obtain ⟨x0, x1, x2, x3, x4, x5, x6, rfl⟩ := list7 hv.len
        go_wp2_with (refine wpList_storeN rfl 41 (.tmp 2) (.tmp 19) rfl w.heap.size 0 [x0, x1, x2, x3, x4, x5, x6] rfl rfl hB4 (Nat.le_refl 7) Tryz.infoE hv.one ?_; intro wz hBz hoz)
        have hvz := (hv.oth hoz (by omega)).mono (B' := w.heap.size) (by omega)
        have hrz := h4.oth hoz (by omega) (by omega)
        have hUz := hoz.but hU4 (Nat.le_refl _)
        obtain ⟨q0, q1, q2, q3, q4, q5, q6⟩ := Bk.seven (show Bk wz w.heap.size _ [_, _, _, _, _, _, _] from hBz)
        refine bodyPost_ret (v := .agg #[x0, x1, x2, x3, x4, x5, x6]) (by simp [results, Tryz.results155, go_sem, q0, q1, q2, q3, q4, q5, q6]) rfl (ans_ok rfl hUz ⟨_, rfl, hvz⟩ hrz)
    · rw [if_neg t0] at hr
      have e0 : ((I.M k).kind == 0) = false := by simp [t0]
      clear t0
      by_cases t1 : (I.M k).kind = 1
      · rw [if_pos t1] at hr
        have hkn := hE.kd I.M t1 (by decide) h.kn
        have HR : Hid (r = _) := hr
        have e1 : ((I.M k).kind == 1) = true := by simp [t1]
        clear hr t1
        go_enter Tryz.func155, Tryz.ntmps155
        go_wp2_with fail
        refine (next_any I _ R k d h1).mono ?_
        rintro e w1 ⟨rfl, hb1⟩
        have h2 := h1.up hb1
        have hB1 := hB0.up hb1
        have hl1 := hB1.lt
        have hU1 := bel_but (Below.thn (below_alloc w (.cells ez 41)) hb1) R
        have hL := Bk.new w1 85 mz
        go_wp2_with (refine wpList_storeN rfl 85 (.tmp 3) (.tmp 5) rfl w1.heap.size 0 (mkC (I.M k)) rfl rfl hL (Nat.le_refl 4) Tryz.infoM (mkC_one _) ?_; intro w3 hM3 ho3; have hb3 := (below_alloc w1 (.cells mz 85)).trans (ho3.below (Nat.le_refl _)); have hL3 : Bk w3 w1.heap.size 85 (mkC (I.M k)) := hM3; have hck : w3.cell? ⟨w1.heap.size, 0, none⟩ = some (.int .i64 (I.M k).kind) := hL3.cell 0)
        have h3 := h2.up hb3
        have hU3 := hU1.then hb3
        have hB3 := hB1.up hb3
        have hl3 := hL3.lt
        clear hM3 ho3 hb3
        refine (ih.worded w3 R k d h3 hkn (by rw [← show r = _ from HR]; exact hne)).mono ?_
        rintro e w4 ⟨hV4, ha⟩
        rw [← show r = _ from HR] at ha
        cases r with
        | out => exact absurd rfl hne
        | bad y j =>
          rw [show e = _ from ha]
          clear ha
          unfold gaveUp
          go_wp2
          exact ⟨rfl, ans_bad rfl (hU3.trans hV4) rfl⟩
        | ok x j =>
          obtain ⟨⟨v, rfl, vs, rfl, hv⟩, h4⟩ := ha
          have hB4 := hB3.but hV4 (by omega)
          have hU4 := hU3.trans hV4
          obtain ⟨x0, x1, x2, x3, x4, x5, x6, rfl⟩ := list7 hv.len
          go_wp2_with (refine wpList_storeN rfl 41 (.tmp 2) (.tmp 23) rfl w.heap.size 0 [x0, x1, x2, x3, x4, x5, x6] rfl rfl hB4 (Nat.le_refl 7) Tryz.infoE hv.one ?_; intro wz hBz hoz)
          have hvz := (hv.oth hoz (by omega)).mono (B' := w.heap.size) (by omega)
          have hrz := h4.oth hoz (by omega) (by omega)
          have hUz := hoz.but hU4 (Nat.le_refl _)
          obtain ⟨q0, q1, q2, q3, q4, q5, q6⟩ := Bk.seven (show Bk wz w.heap.size _ [_, _, _, _, _, _, _] from hBz)
          refine bodyPost_ret (v := .agg #[x0, x1, x2, x3, x4, x5, x6]) (by simp [results, Tryz.results155, go_sem, q0, q1, q2, q3, q4, q5, q6]) rfl (ans_ok rfl hUz ⟨_, rfl, hvz⟩ hrz)
      · rw [if_neg t1] at hr
        have e1 : ((I.M k).kind == 1) = false := by simp [t1]
        have HR : Hid (r = _) := hr
        clear hr t1
        go_enter Tryz.func155, Tryz.ntmps155
        go_wp2_with fail
        refine (next_any I _ R k d h1).mono ?_
        rintro e w1 ⟨rfl, hb1⟩
        have h2 := h1.up hb1
        have hB1 := hB0.up hb1
        have hl1 := hB1.lt
        have hU1 := bel_but (Below.thn (below_alloc w (.cells ez 41)) hb1) R
        have hL := Bk.new w1 85 mz
        go_wp2_with (refine wpList_storeN rfl 85 (.tmp 3) (.tmp 5) rfl w1.heap.size 0 (mkC (I.M k)) rfl rfl hL (Nat.le_refl 4) Tryz.infoM (mkC_one _) ?_; intro w3 hM3 ho3; have hb3 := (below_alloc w1 (.cells mz 85)).trans (ho3.below (Nat.le_refl _)); have hL3 : Bk w3 w1.heap.size 85 (mkC (I.M k)) := hM3; have hck : w3.cell? ⟨w1.heap.size, 0, none⟩ = some (.int .i64 (I.M k).kind) := hL3.cell 0)
        have h3 := h2.up hb3
        have hU3 := hU1.then hb3
        have hB3 := hB1.up hb3
        have hl3 := hL3.lt
        clear hM3 ho3 hb3
        refine (ih.brack w3 R k d h3 (by rw [← show r = _ from HR]; exact hne)).mono ?_
        rintro e w4 ⟨hV4, ha⟩
        rw [← show r = _ from HR] at ha
        cases r with
        | out => exact absurd rfl hne
        | bad y j =>
          rw [show e = _ from ha]
          clear ha
          unfold gaveUp
          go_wp2
          exact ⟨rfl, ans_bad rfl (hU3.trans hV4) rfl⟩
        | ok x j =>
          obtain ⟨⟨v, rfl, vs, rfl, hv⟩, h4⟩ := ha
          have hB4 := hB3.but hV4 (by omega)
          have hU4 := hU3.trans hV4
          obtain ⟨x0, x1, x2, x3, x4, x5, x6, rfl⟩ := list7 hv.len
          go_wp2_with (refine wpList_storeN rfl 41 (.tmp 2) (.tmp 25) rfl w.heap.size 0 [x0, x1, x2, x3, x4, x5, x6] rfl rfl hB4 (Nat.le_refl 7) Tryz.infoE hv.one ?_; intro wz hBz hoz)
          have hvz := (hv.oth hoz (by omega)).mono (B' := w.heap.size) (by omega)
          have hrz := h4.oth hoz (by omega) (by omega)
          have hUz := hoz.but hU4 (Nat.le_refl _)
          obtain ⟨q0, q1, q2, q3, q4, q5, q6⟩ := Bk.seven (show Bk wz w.heap.size _ [_, _, _, _, _, _, _] from hBz)
          refine bodyPost_ret (v := .agg #[x0, x1, x2, x3, x4, x5, x6]) (by simp [results, Tryz.results155, go_sem, q0, q1, q2, q3, q4, q5, q6]) rfl (ans_ok rfl hUz ⟨_, rfl, hvz⟩ hrz)
end Go.Proofs.YtndgglhppoijnaaGreatDoor
/-
  The walk of named.
-/
namespace Go.Proofs.YtndgglhppoijnaaGreatDoor
open Go.RowKit
set_option maxRecDepth 100000

theorem ElW.oth2 {w w' : World} {A : Nat → Prop} {g : Nat} {ao : Option Addr} {xs : List Ex} (h : ElW w A ao xs) (hU : Oth g w w') (hA : ∀ b, A b → b ≠ g) : ElW w' A ao xs := h.keep fun b hb _ => hU.block b (hA b hb)

set_option maxHeartbeats 4000000 in
theorem named_step (I : Rdi) (_hE : Ends I.M I.n) (f : Nat) (ih : AllN I f) (w : World) (R k d : Nat) (h : Rdr I w R k d) (hkn : k + 1 < I.n) (hne : namedP I.M (lmOf I) (f + 1) d k ≠ .out) :
    Calls Tryz.prog 166 #[.pointer (some ⟨R, 0, none⟩)] w fun e w' => Ans I R d w (exV w.heap.size) (namedP I.M (lmOf I) (f + 1) d k) e w' := by
  have hB0 := Bk.new w 41 ez
  have h1 := h.up (below_alloc w (.cells ez 41))
  have hlt := h.lt
  have hcx := store_cx
  obtain ⟨r, hr⟩ : ∃ r, r = namedP I.M (lmOf I) (f + 1) d k := ⟨_, rfl⟩
  rw [← hr] at hne ⊢
  rw [namedP] at hr
  have HR : Hid (r = _) := hr
  clear hr
  go_enter Tryz.func166, Tryz.ntmps166
  go_wp2_with fail
  refine (take_any I _ R k d h1 hkn).mono ?_
  rintro e w2 ⟨rfl, h2, hV2⟩
  have hU2 := (bel_but (below_alloc w (.cells ez 41)) R).trans hV2
  have hB2 := hB0.but hV2 (by omega)
  have hlr := hB2.lt
  have hL := Bk.new w2 85 mz
  go_wp2_with (refine wpList_storeN rfl 85 (.tmp 3) (.tmp 6) rfl w2.heap.size 0 (mkC (I.M k)) rfl rfl hL (Nat.le_refl 4) Tryz.infoM (mkC_one _) ?_; intro w3 hM3 ho3; obtain ⟨_, c1, _, c3⟩ := Bk.four (show Bk w3 w2.heap.size _ [.int .i64 (I.M k).kind, .string (bs (I.M k).text), .complex .f64 (fl (I.M k).p) (fl (I.M k).q), .int .i64 (I.M k).at_] from hM3))
  have hb3 := (below_alloc w2 (.cells mz 85)).trans (ho3.below (Nat.le_refl _))
  have hb4 := hb3.alloc hb3.size (.cells #[.int .i64 6, .string (bs (I.M k).text), .string ⟨#[]⟩, .int .i64 0, .complex .f64 0 0, .slice none 0 0, .int .i64 (I.M k).at_] 41)
  have hlm : w2.heap.size < w3.heap.size := by have := ho3.size; simp at this; omega
  have hBe := Bk.new w3 41 #[.int .i64 6, .string (bs (I.M k).text), .string ⟨#[]⟩, .int .i64 0, .complex .f64 0 0, .slice none 0 0, .int .i64 (I.M k).at_]
  have h4 := h2.up hb4
  have hU4 := hU2.then hb4
  have hB4 := hB2.up hb4
  clear hL hM3 ho3 c1 c3
  cases t1 : tk I.M [40] (k + 1) with
  | true =>
    have HR : Hid (r = (argsP I.M (lmOf I) f d (k + 1 + 1)).bind fun l k1 => .ok (.mk 7 (I.M k).text [] 0 0 0 l (I.M k).at_) k1) := by
      show r = _
      rw [show r = _ from HR, if_pos t1]
    have HT : Hid (tk I.M [40] (k + 1) = true) := t1
    have hst := stands_any I [40] _ R (k + 1) d h4
    rw [t1] at hst
    clear t1
    refine hst.mono ?_
    rintro e w5 ⟨rfl, hb5⟩
    have h5 := h4.up hb5
    have hU5 := hU4.then hb5
    have hB5 := hB4.up hb5
    have hBe5 := hBe.up hb5
    have hl5 := hBe5.lt
    clear hst
    go_wp2_with fail
    have hn6 := bind_ne HR hne
    refine (ih.args w5 R (k + 1) d h5 HT hn6).mono ?_
    rintro e w6 ⟨hV6, ha⟩
    cases hq : argsP I.M (lmOf I) f d (k + 1 + 1) with
    | out => exact absurd hq hn6
    | bad y j =>
      rw [hq] at ha
      rw [show e = _ from ha]
      have HR := bind_bad HR hq
      clear ha hq
      unfold gaveUp
      go_wp2
      exact ⟨rfl, ans_bad HR (hU5.trans hV6) rfl⟩
    | ok l k1 =>
      rw [hq] at ha
      obtain ⟨⟨v, rfl, ao, c, rfl, hel⟩, h6⟩ := ha
      have HR := bind_ok HR hq
      clear hq
      have hU6 := hU5.trans hV6
      have hB6 := hB5.but hV6 (by omega)
      have hBe6 : Bk w6 w3.heap.size 41 [.int .i64 6, .string (bs (I.M k).text), .string ⟨#[]⟩, .int .i64 0, .complex .f64 0 0, .slice none 0 0, .int .i64 (I.M k).at_] := hBe5.but hV6 (by omega)
      obtain ⟨p0, _, _, _, _, p5, _⟩ := hBe6.seven
      have z0 := hBe6.frz 0
      have z5 := hBe6.frz 5
      have O2 := ((Oth.refl w3.heap.size w6).set 0 (.int .i64 7)).set 5 (.slice ao l.length c)
      have hBe7 := (hBe6.set 0 (.int .i64 7)).set 5 (.slice ao l.length c)
      have hB7 := hB6.oth O2 (by omega)
      have h7 := h6.oth O2 (by omega) (by omega)
      have hU7 := O2.but hU6 (by omega)
      have hel7 := hel.oth2 O2 (fun b hb => by omega)
      go_wp2_with (first
        | refine wpList_loadN rfl 41 (.tmp 4) rfl w3.heap.size 0 rfl [.int .i64 7, .string (bs (I.M k).text), .string ⟨#[]⟩, .int .i64 0, .complex .f64 0 0, .slice ao l.length c, .int .i64 (I.M k).at_] _ (hBe7.range 0 7) Tryz.underE Tryz.infoE ?_
        | (refine wpList_storeN rfl 41 (.tmp 2) (.tmp 18) rfl w.heap.size 0 [.int .i64 7, .string (bs (I.M k).text), .string ⟨#[]⟩, .int .i64 0, .complex .f64 0 0, .slice ao l.length c, .int .i64 (I.M k).at_] rfl rfl hB7 (Nat.le_refl 7) Tryz.infoE (one7 _ _ _ _ _ _ _ _ _ _) ?_; intro wz hBz hoz))
      have hrz := h7.oth hoz (by omega) (by omega)
      have hUz := hoz.but hU7 (Nat.le_refl _)
      have helz := (hel7.oth2 hoz fun b hb => by omega).imp (A' := fun b => w.heap.size ≤ b) fun b hb _ => by omega
      obtain ⟨q0, q1, q2, q3, q4, q5, q6⟩ := Bk.seven (show Bk wz w.heap.size _ [_, _, _, _, _, _, _] from hBz)
      refine bodyPost_ret (v := .agg #[.int .i64 7, .string (bs (I.M k).text), .string ⟨#[]⟩, .int .i64 0, .complex .f64 0 0, .slice ao l.length c, .int .i64 (I.M k).at_]) (by simp [results, Tryz.results166, go_sem, q0, q1, q2, q3, q4, q5, q6]) rfl (ans_ok HR hUz ⟨_, rfl, exv_mk helz rfl⟩ hrz)
  | false =>
    have HR : Hid (r = .ok (.mk 6 (I.M k).text [] 0 0 0 [] (I.M k).at_) (k + 1)) := by
      show r = _
      rw [show r = _ from HR, if_neg (by rw [t1]; simp)]
    have hst := stands_any I [40] _ R (k + 1) d h4
    rw [t1] at hst
    clear t1
    refine hst.mono ?_
    rintro e w5 ⟨rfl, hb5⟩
    have h5 := h4.up hb5
    have hU5 := hU4.then hb5
    have hB5 := hB4.up hb5
    have hBe5 := hBe.up hb5
    have hl5 := hBe5.lt
    clear hst
    go_wp2_with (first
      | refine wpList_loadN rfl 41 (.tmp 4) rfl w3.heap.size 0 rfl [.int .i64 6, .string (bs (I.M k).text), .string ⟨#[]⟩, .int .i64 0, .complex .f64 0 0, .slice none 0 0, .int .i64 (I.M k).at_] _ (hBe5.range 0 7) Tryz.underE Tryz.infoE ?_
      | (refine wpList_storeN rfl 41 (.tmp 2) (.tmp 18) rfl w.heap.size 0 [.int .i64 6, .string (bs (I.M k).text), .string ⟨#[]⟩, .int .i64 0, .complex .f64 0 0, .slice none 0 0, .int .i64 (I.M k).at_] rfl rfl hB5 (Nat.le_refl 7) Tryz.infoE (one7 _ _ _ _ _ _ _ _ _ _) ?_; intro wz hBz hoz))
    have hrz := h5.oth hoz (by omega) (by omega)
    have hUz := hoz.but hU5 (Nat.le_refl _)
    obtain ⟨q0, q1, q2, q3, q4, q5, q6⟩ := Bk.seven (show Bk wz w.heap.size _ [_, _, _, _, _, _, _] from hBz)
    refine bodyPost_ret (v := .agg #[.int .i64 6, .string (bs (I.M k).text), .string ⟨#[]⟩, .int .i64 0, .complex .f64 0 0, .slice none 0 0, .int .i64 (I.M k).at_]) (by simp [results, Tryz.results166, go_sem, q0, q1, q2, q3, q4, q5, q6]) rfl (ans_ok HR hUz ⟨_, rfl, exv_mk (xs := []) .nil rfl⟩ hrz)
end Go.Proofs.YtndgglhppoijnaaGreatDoor
/-
  The walks of wordOp, unit, named.
-/
namespace Go.Proofs.YtndgglhppoijnaaGreatDoor
open Go.RowKit
set_option maxRecDepth 100000

set_option maxHeartbeats 2000000 in
theorem wordOp_any (s : List UInt8) (w : World) :
    Calls Tryz.prog 177 #[.string (bs s)] w fun e w' => e = .returned (.int .i64 (wordOp s)) ∧ w' = w := by
  obtain ⟨r, hr⟩ : ∃ r, r = wordOp s := ⟨_, rfl⟩
  rw [← hr]
  unfold wordOp tNil at hr
  have HR : Hid (r = _) := hr
  clear hr
  have hb : (bs s).toList = s := bs_toList s
  generalize e1 : (s == [116, 114, 117, 101]) = t1 at HR
  generalize e2 : (s == [102, 97, 108, 115, 101]) = t2 at HR
  generalize e3 : (s == [110, 105, 108]) = t3 at HR
  generalize e4 : (s == [102, 97, 105, 108]) = t4 at HR
  generalize e5 : (s == [110, 111, 116]) = t5 at HR
  generalize e6 : (s == [114, 101]) = t6 at HR
  generalize e7 : (s == [105, 109]) = t7 at HR
  generalize e8 : (s == [99, 111, 110, 106]) = t8 at HR
  cases t1
  case true =>
    go_enter Tryz.func177, Tryz.ntmps177
    go_wp2
    go_ret
    exact ⟨by rw [show r = _ from HR]; rfl, rfl⟩
  cases t2
  case true =>
    go_enter Tryz.func177, Tryz.ntmps177
    go_wp2
    go_ret
    exact ⟨by rw [show r = _ from HR]; rfl, rfl⟩
  cases t3
  case true =>
    go_enter Tryz.func177, Tryz.ntmps177
    go_wp2
    go_ret
    exact ⟨by rw [show r = _ from HR]; rfl, rfl⟩
  cases t4
  case true =>
    go_enter Tryz.func177, Tryz.ntmps177
    go_wp2
    go_ret
    exact ⟨by rw [show r = _ from HR]; rfl, rfl⟩
  cases t5
  case true =>
    go_enter Tryz.func177, Tryz.ntmps177
    go_wp2
    go_ret
    exact ⟨by rw [show r = _ from HR]; rfl, rfl⟩
  cases t6
  case true =>
    go_enter Tryz.func177, Tryz.ntmps177
    go_wp2
    go_ret
    exact ⟨by rw [show r = _ from HR]; rfl, rfl⟩
  cases t7
  case true =>
    go_enter Tryz.func177, Tryz.ntmps177
    go_wp2
    go_ret
    exact ⟨by rw [show r = _ from HR]; rfl, rfl⟩
  cases t8
  case true =>
    go_enter Tryz.func177, Tryz.ntmps177
    go_wp2
    go_ret
    exact ⟨by rw [show r = _ from HR]; rfl, rfl⟩
  go_enter Tryz.func177, Tryz.ntmps177
  go_wp2
  go_ret
  exact ⟨by rw [show r = _ from HR]; rfl, rfl⟩
end Go.Proofs.YtndgglhppoijnaaGreatDoor
