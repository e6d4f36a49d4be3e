/-
  The walk of unit.
-/
import Derived.Test.YtkonkplalgoekaaGreatDoorNf
import Derived.Deep.RegionHeld2
namespace Go.Proofs.YtkonkplalgoekaaGreatDoor
open Go.RowKit
set_option maxRecDepth 100000

set_option maxHeartbeats 4000000 in
theorem unit_step (I : Rdi) (hE : Ends I.M I.n) (f : Nat) (ih : AllN I f) (w : World) (R k d : Nat) (h : Rdr I w R k d) (hne : unitP I.M (lmOf I) (f + 1) d k ≠ .out) :
    Calls Tryz.prog 132 #[.pointer (some ⟨R, 0, none⟩)] w fun e w' => Ans I R d w (exV w.heap.size) (unitP I.M (lmOf I) (f + 1) d k) e w' := by
  have hB0 := Bk.new w 50 ez
  have h1 := h.up (below_alloc w (.cells ez 50))
  have hlt := h.lt
  obtain ⟨r, hr⟩ : ∃ r, r = unitP I.M (lmOf I) (f + 1) d k := ⟨_, rfl⟩
  rw [← hr] at hne ⊢
  rw [unitP] at hr
  by_cases t2 : (I.M k).kind = 2
  · rw [if_pos t2] at hr
    have hkn := hE.kd I.M t2 (by decide) h.kn
    have HR : Hid (r = _) := hr
    have e2 : ((I.M k).kind == 2) = true := by simp [t2]
    clear hr t2
    go_enter Tryz.func132, Tryz.ntmps132
    go_wp2_with fail
    refine (next_any I _ R k d h1).mono ?_
    rintro e w1 ⟨rfl, hb1⟩
    have h2 := h1.up hb1
    have hB1 := hB0.up hb1
    have hl1 := hB1.lt
    have hU1 := bel_but (Below.thn (below_alloc w (.cells ez 50)) hb1) R
    have hL := Bk.new w1 42 mz
    have hcx := store_cx
    have hf := fun W => (fldM (I.M k) W).2.2.2
    go_wp2_with (refine wpList_storeN rfl 42 (.tmp 3) (.tmp 5) rfl w1.heap.size 0 (mkC (I.M k)) rfl rfl hL (Nat.le_refl 4) Tryz.infoM (mkC_one _) ?_; intro w3 hM3 ho3; have hb3 := (below_alloc w1 (.cells mz 42)).trans (ho3.below (Nat.le_refl _)); have hL3 : Bk w3 w1.heap.size 42 (mkC (I.M k)) := hM3; have hck : w3.cell? ⟨w1.heap.size, 0, none⟩ = some (.int .i64 (I.M k).kind) := hL3.cell 0)
    have h3 := h2.up hb3
    have hU3 := hU1.then hb3
    have hB3 := hB1.up hb3
    have hl3 := hL3.lt
    clear hM3 ho3 hb3
    obtain ⟨_, _, hc2, _⟩ := Bk.four (show Bk w3 w1.heap.size _ [.int .i64 (I.M k).kind, .string (bs (I.M k).text), .complex .f64 (fl (I.M k).p) (fl (I.M k).q), .int .i64 (I.M k).at_] from hL3)
    have hcd : w3.drew.cell? ⟨w1.heap.size, 2, none⟩ = some (.complex .f64 (fl (I.M k).p) (fl (I.M k).q)) := by rw [← hc2]; rfl
    go_region_held2 (fun W => W.cell? ⟨w1.heap.size, 2, none⟩ = some (.complex .f64 (fl (I.M k).p) (fl (I.M k).q)))
      (first | with_reducible exact hc5 | with_reducible exact hcd | exact (Oth.cell ((((((((Oth.refl w.heap.size w5).set 0 _).set 1 _).set 2 _).set 3 _).set 4 _).set 5 _).set 6 _) (by show w1.heap.size ≠ w.heap.size; omega)).trans hc5)
      (first | (go_at_call 83; refine (take_any I _ R k d (h3.up (Below.refl _ w3).drew) hkn).mono ?_; rintro e w5 ⟨rfl, h5, hV5⟩; unfold mkV; have hU5 := hU3.drew.trans hV5; have hB5 := Bk.but (w := World.drew w3) hB3 hV5 (by omega); have hL5 := Bk.but (w := World.drew w3) hL3 hV5 (by omega); obtain ⟨_, _, hc5, _⟩ := Bk.four (show Bk w5 w1.heap.size _ [.int .i64 (I.M k).kind, .string (bs (I.M k).text), .complex .f64 (fl (I.M k).p) (fl (I.M k).q), .int .i64 (I.M k).at_] from hL5); obtain ⟨p0, p1, p2, p3, p4, p5, p6⟩ := Bk.seven (show Bk w5 w.heap.size _ [_, _, _, _, _, _, _] from hB5); have z0 := hB5.frz 0; have z1 := hB5.frz 1; have z2 := hB5.frz 2; have z3 := hB5.frz 3; have z4 := hB5.frz 4; have z5 := hB5.frz 5; have z6 := hB5.frz 6))
    all_goals
      obtain ⟨hBz, hoz⟩ := hB5.sets [.int .i64 1, .string ⟨#[]⟩, .string ⟨#[]⟩, .int .i64 0, .complex .f64 (fl (I.M k).p) (fl (I.M k).q), .slice none 0 0, .int .i64 (I.M k).at_] 0
      have hrz := h5.oth hoz (by omega) (by omega)
      have hUz := hoz.but hU5 (Nat.le_refl _)
      have hvz : ExV _ w.heap.size (.mk 1 [] [] 0 (I.M k).p (I.M k).q [] (I.M k).at_) [.int .i64 1, .string ⟨#[]⟩, .string ⟨#[]⟩, .int .i64 0, .complex .f64 (fl (I.M k).p) (fl (I.M k).q), .slice none 0 0, .int .i64 (I.M k).at_] := ExW.mk (w := w5.setCells w.heap.size 0 [.int .i64 1, .string ⟨#[]⟩, .string ⟨#[]⟩, .int .i64 0, .complex .f64 (fl (I.M k).p) (fl (I.M k).q), .slice none 0 0, .int .i64 (I.M k).at_]) (c := 0) (ao := none) .nil
      go_wp2
      refine bodyPost_ret (v := .agg #[.int .i64 1, .string ⟨#[]⟩, .string ⟨#[]⟩, .int .i64 0, .complex .f64 (fl (I.M k).p) (fl (I.M k).q), .slice none 0 0, .int .i64 (I.M k).at_]) (by simp [results, Tryz.results132, go_sem, p0, p1, p2, p3, p4, p5, p6]) rfl (ans_ok HR hUz ⟨_, rfl, hvz⟩ hrz)
  · rw [if_neg t2] at hr
    have e2 : ((I.M k).kind == 2) = false := by simp [t2]
    clear t2
    by_cases t0 : (I.M k).kind = 0
    · rw [if_pos t0] at hr
      have hkn := hE.kd I.M t0 (by decide) h.kn
      have HR : Hid (r = _) := hr
      have e0 : ((I.M k).kind == 0) = true := by simp [t0]
      clear hr t0
      go_enter Tryz.func132, Tryz.ntmps132
      go_wp2_with fail
      refine (next_any I _ R k d h1).mono ?_
      rintro e w1 ⟨rfl, hb1⟩
      have h2 := h1.up hb1
      have hB1 := hB0.up hb1
      have hl1 := hB1.lt
      have hU1 := bel_but (Below.thn (below_alloc w (.cells ez 50)) hb1) R
      have hL := Bk.new w1 42 mz
      go_wp2_with (refine wpList_storeN rfl 42 (.tmp 3) (.tmp 5) rfl w1.heap.size 0 (mkC (I.M k)) rfl rfl hL (Nat.le_refl 4) Tryz.infoM (mkC_one _) ?_; intro w3 hM3 ho3; have hb3 := (below_alloc w1 (.cells mz 42)).trans (ho3.below (Nat.le_refl _)); have hL3 : Bk w3 w1.heap.size 42 (mkC (I.M k)) := hM3; have hck : w3.cell? ⟨w1.heap.size, 0, none⟩ = some (.int .i64 (I.M k).kind) := hL3.cell 0)
      have h3 := h2.up hb3
      have hU3 := hU1.then hb3
      have hB3 := hB1.up hb3
      have hl3 := hL3.lt
      clear hM3 ho3 hb3
      refine (ih.named w3 R k d h3 hkn (by rw [← show r = _ from HR]; exact hne)).mono ?_
      rintro e w4 ⟨hV4, ha⟩
      rw [← show r = _ from HR] at ha
      cases r with
      | out => exact absurd rfl hne
      | bad y j =>
        rw [show e = _ from ha]
        clear ha
        unfold gaveUp
        go_wp2
        exact ⟨rfl, ans_bad rfl (hU3.trans hV4) rfl⟩
      | ok x j =>
        obtain ⟨⟨v, rfl, vs, rfl, hv⟩, h4⟩ := ha
        have hB4 := hB3.but hV4 (by omega)
        have hU4 := hU3.trans hV4
        obtain ⟨x0, x1, x2, x3, x4, x5, x6, rfl⟩ := list7 hv.len
        go_wp2_with (refine wpList_storeN rfl 50 (.tmp 2) (.tmp 19) rfl w.heap.size 0 [x0, x1, x2, x3, x4, x5, x6] rfl rfl hB4 (Nat.le_refl 7) Tryz.infoE hv.one ?_; intro wz hBz hoz)
        have hvz := (hv.oth hoz (by omega)).mono (B' := w.heap.size) (by omega)
        have hrz := h4.oth hoz (by omega) (by omega)
        have hUz := hoz.but hU4 (Nat.le_refl _)
        obtain ⟨q0, q1, q2, q3, q4, q5, q6⟩ := Bk.seven (show Bk wz w.heap.size _ [_, _, _, _, _, _, _] from hBz)
        refine bodyPost_ret (v := .agg #[x0, x1, x2, x3, x4, x5, x6]) (by simp [results, Tryz.results132, go_sem, q0, q1, q2, q3, q4, q5, q6]) rfl (ans_ok rfl hUz ⟨_, rfl, hvz⟩ hrz)
    · rw [if_neg t0] at hr
      have e0 : ((I.M k).kind == 0) = false := by simp [t0]
      clear t0
      by_cases t1 : (I.M k).kind = 1
      · rw [if_pos t1] at hr
        have hkn := hE.kd I.M t1 (by decide) h.kn
        have HR : Hid (r = _) := hr
        have e1 : ((I.M k).kind == 1) = true := by simp [t1]
        clear hr t1
        go_enter Tryz.func132, Tryz.ntmps132
        go_wp2_with fail
        refine (next_any I _ R k d h1).mono ?_
        rintro e w1 ⟨rfl, hb1⟩
        have h2 := h1.up hb1
        have hB1 := hB0.up hb1
        have hl1 := hB1.lt
        have hU1 := bel_but (Below.thn (below_alloc w (.cells ez 50)) hb1) R
        have hL := Bk.new w1 42 mz
        go_wp2_with (refine wpList_storeN rfl 42 (.tmp 3) (.tmp 5) rfl w1.heap.size 0 (mkC (I.M k)) rfl rfl hL (Nat.le_refl 4) Tryz.infoM (mkC_one _) ?_; intro w3 hM3 ho3; have hb3 := (below_alloc w1 (.cells mz 42)).trans (ho3.below (Nat.le_refl _)); have hL3 : Bk w3 w1.heap.size 42 (mkC (I.M k)) := hM3; have hck : w3.cell? ⟨w1.heap.size, 0, none⟩ = some (.int .i64 (I.M k).kind) := hL3.cell 0)
        have h3 := h2.up hb3
        have hU3 := hU1.then hb3
        have hB3 := hB1.up hb3
        have hl3 := hL3.lt
        clear hM3 ho3 hb3
        refine (ih.worded w3 R k d h3 hkn (by rw [← show r = _ from HR]; exact hne)).mono ?_
        rintro e w4 ⟨hV4, ha⟩
        rw [← show r = _ from HR] at ha
        cases r with
        | out => exact absurd rfl hne
        | bad y j =>
          rw [show e = _ from ha]
          clear ha
          unfold gaveUp
          go_wp2
          exact ⟨rfl, ans_bad rfl (hU3.trans hV4) rfl⟩
        | ok x j =>
          obtain ⟨⟨v, rfl, vs, rfl, hv⟩, h4⟩ := ha
          have hB4 := hB3.but hV4 (by omega)
          have hU4 := hU3.trans hV4
          obtain ⟨x0, x1, x2, x3, x4, x5, x6, rfl⟩ := list7 hv.len
          go_wp2_with (refine wpList_storeN rfl 50 (.tmp 2) (.tmp 23) rfl w.heap.size 0 [x0, x1, x2, x3, x4, x5, x6] rfl rfl hB4 (Nat.le_refl 7) Tryz.infoE hv.one ?_; intro wz hBz hoz)
          have hvz := (hv.oth hoz (by omega)).mono (B' := w.heap.size) (by omega)
          have hrz := h4.oth hoz (by omega) (by omega)
          have hUz := hoz.but hU4 (Nat.le_refl _)
          obtain ⟨q0, q1, q2, q3, q4, q5, q6⟩ := Bk.seven (show Bk wz w.heap.size _ [_, _, _, _, _, _, _] from hBz)
          refine bodyPost_ret (v := .agg #[x0, x1, x2, x3, x4, x5, x6]) (by simp [results, Tryz.results132, go_sem, q0, q1, q2, q3, q4, q5, q6]) rfl (ans_ok rfl hUz ⟨_, rfl, hvz⟩ hrz)
      · rw [if_neg t1] at hr
        have e1 : ((I.M k).kind == 1) = false := by simp [t1]
        have HR : Hid (r = _) := hr
        clear hr t1
        go_enter Tryz.func132, Tryz.ntmps132
        go_wp2_with fail
        refine (next_any I _ R k d h1).mono ?_
        rintro e w1 ⟨rfl, hb1⟩
        have h2 := h1.up hb1
        have hB1 := hB0.up hb1
        have hl1 := hB1.lt
        have hU1 := bel_but (Below.thn (below_alloc w (.cells ez 50)) hb1) R
        have hL := Bk.new w1 42 mz
        go_wp2_with (refine wpList_storeN rfl 42 (.tmp 3) (.tmp 5) rfl w1.heap.size 0 (mkC (I.M k)) rfl rfl hL (Nat.le_refl 4) Tryz.infoM (mkC_one _) ?_; intro w3 hM3 ho3; have hb3 := (below_alloc w1 (.cells mz 42)).trans (ho3.below (Nat.le_refl _)); have hL3 : Bk w3 w1.heap.size 42 (mkC (I.M k)) := hM3; have hck : w3.cell? ⟨w1.heap.size, 0, none⟩ = some (.int .i64 (I.M k).kind) := hL3.cell 0)
        have h3 := h2.up hb3
        have hU3 := hU1.then hb3
        have hB3 := hB1.up hb3
        have hl3 := hL3.lt
        clear hM3 ho3 hb3
        refine (ih.brack w3 R k d h3 (by rw [← show r = _ from HR]; exact hne)).mono ?_
        rintro e w4 ⟨hV4, ha⟩
        rw [← show r = _ from HR] at ha
        cases r with
        | out => exact absurd rfl hne
        | bad y j =>
          rw [show e = _ from ha]
          clear ha
          unfold gaveUp
          go_wp2
          exact ⟨rfl, ans_bad rfl (hU3.trans hV4) rfl⟩
        | ok x j =>
          obtain ⟨⟨v, rfl, vs, rfl, hv⟩, h4⟩ := ha
          have hB4 := hB3.but hV4 (by omega)
          have hU4 := hU3.trans hV4
          obtain ⟨x0, x1, x2, x3, x4, x5, x6, rfl⟩ := list7 hv.len
          go_wp2_with (refine wpList_storeN rfl 50 (.tmp 2) (.tmp 25) rfl w.heap.size 0 [x0, x1, x2, x3, x4, x5, x6] rfl rfl hB4 (Nat.le_refl 7) Tryz.infoE hv.one ?_; intro wz hBz hoz)
          have hvz := (hv.oth hoz (by omega)).mono (B' := w.heap.size) (by omega)
          have hrz := h4.oth hoz (by omega) (by omega)
          have hUz := hoz.but hU4 (Nat.le_refl _)
          obtain ⟨q0, q1, q2, q3, q4, q5, q6⟩ := Bk.seven (show Bk wz w.heap.size _ [_, _, _, _, _, _, _] from hBz)
          refine bodyPost_ret (v := .agg #[x0, x1, x2, x3, x4, x5, x6]) (by simp [results, Tryz.results132, go_sem, q0, q1, q2, q3, q4, q5, q6]) rfl (ans_ok rfl hUz ⟨_, rfl, hvz⟩ hrz)
end Go.Proofs.YtkonkplalgoekaaGreatDoor
