/-
  The walk of worded.
-/
import Derived.Test.YtndgglhppoijnaaGreatDoorNg
import Derived.Test.YtndgglhppoijnaaGreatDoorUJ
namespace Go.Proofs.YtndgglhppoijnaaGreatDoor
open Go.RowKit
set_option maxRecDepth 100000

theorem wordOp_of (s : List UInt8) : wordOp s = 0 ∨ wordOp s = 5 ∨ wordOp s = 14 ∨ wordOp s = 15 ∨ wordOp s = 16 ∨ wordOp s = 17 ∨ (wordOp s = 2 ∨ wordOp s = 3 ∨ wordOp s = 4) := by
  unfold wordOp
  repeat' split
  all_goals simp

set_option maxHeartbeats 8000000 in
theorem worded_step (I : Rdi) (hE : Ends I.M I.n) (f : Nat) (ih : AllN I f) (w : World) (R k d : Nat) (h : Rdr I w R k d) (hkn : k + 1 < I.n) (hne : wordedP I.M (lmOf I) (f + 1) d k ≠ .out) :
    Calls Tryz.prog 167 #[.pointer (some ⟨R, 0, none⟩)] w fun e w' => Ans I R d w (exV w.heap.size) (wordedP I.M (lmOf I) (f + 1) d k) e w' := by
  have hB0 := Bk.new w 41 ez
  have h1 := h.up (below_alloc w (.cells ez 41))
  have hlt := h.lt
  have hcx := store_cx
  have hf1 := fun W => (fldM (I.M k) W).2.1
  have hf3 := fun W => (fldM (I.M k) W).2.2.2
  have hwo := fun W => wordOp_any (I.M k).text W
  obtain ⟨r, hr⟩ : ∃ r, r = wordedP I.M (lmOf I) (f + 1) d k := ⟨_, rfl⟩
  rw [← hr] at hne ⊢
  rw [wordedP] at hr
  have hcs := wordOp_of (I.M k).text
  generalize wordOp (I.M k).text = o at *
  rcases hcs with ho | ho | ho | ho | ho | ho | ho
  · subst ho
    have HR : Hid (r = .bad 21 k) := hr
    clear hr
    go_enter Tryz.func167, Tryz.ntmps167
    go_wp2_with fail
    refine (next_any I _ R k d h1).mono ?_
    rintro e w1 ⟨rfl, hb1⟩
    unfold mkV
    have h2 := h1.up hb1
    have hU2 := bel_but (Below.thn (below_alloc w (.cells ez 41)) hb1) R
    have hB2 := hB0.up hb1
    go_wp2_with fail
    refine (hwo w1).mono ?_
    rintro e w1' ⟨rfl, hw1⟩
    rw [hw1]
    clear hw1
    go_wp2_with fail
    refine (giveUp_any I 21 _ R k d h2).mono ?_
    rintro e w2 ⟨rfl, hb2⟩
    unfold gaveUp
    go_wp2
    exact ⟨rfl, ans_bad HR (hU2.then hb2) rfl⟩
  · have HR : Hid (r = (typeP I.M (k + 1)).bind fun t k1 => .ok (.mk o [] [] t 0 0 [] (I.M k).at_) k1) := by subst ho; exact hr
    have o1 : (o == 0) = false := by rw [ho]; rfl
    have o2 : (o == 5) = true := by rw [ho]; rfl
    clear hr ho
    go_enter Tryz.func167, Tryz.ntmps167
    go_wp2_with fail
    refine (next_any I _ R k d h1).mono ?_
    rintro e w1 ⟨rfl, hb1⟩
    unfold mkV
    have h2 := h1.up hb1
    have hU2 := bel_but (Below.thn (below_alloc w (.cells ez 41)) hb1) R
    have hB2 := hB0.up hb1
    go_wp2_with fail
    refine (hwo w1).mono ?_
    rintro e w1' ⟨rfl, hw1⟩
    rw [hw1]
    clear hw1
    go_wp2_with fail
    refine (take_any I _ R k d h2 hkn).mono ?_
    rintro e w3 ⟨rfl, h3, hV3⟩
    unfold mkV
    have hU3 := hU2.trans hV3
    have hB3 := hB2.but hV3 (by omega)
    have hlr := hB3.lt
    have hBe := Bk.new w3 41 #[.int .i64 o, .string ⟨#[]⟩, .string ⟨#[]⟩, .int .i64 0, .complex .f64 0 0, .slice none 0 0, .int .i64 (I.M k).at_]
    have hb4 := below_alloc w3 (.cells #[.int .i64 o, .string ⟨#[]⟩, .string ⟨#[]⟩, .int .i64 0, .complex .f64 0 0, .slice none 0 0, .int .i64 (I.M k).at_] 41)
    have h4 := h3.up hb4
    have hU4 := hU3.then hb4
    have hB4 := hB3.up hb4
    go_wp2_with fail
    refine (type_any I hE _ R (k + 1) d h4).mono ?_
    rintro e w6 ⟨hV6, ha⟩
    cases hq : typeP I.M (k + 1) with
    | out => exact absurd hq (type_ne _ _)
    | bad y j =>
      rw [hq] at ha
      rw [show e = _ from ha]
      have HR := bind_bad HR hq
      clear ha hq
      unfold gaveUp
      go_wp2
      exact ⟨rfl, ans_bad HR (hU4.trans hV6) rfl⟩
    | ok t k1 =>
      rw [hq] at ha
      obtain ⟨⟨v, rfl, hv⟩, h6⟩ := ha
      obtain rfl : v = .int .i64 t := hv
      have HR := bind_ok HR hq
      clear hq
      have hl4 := hBe.lt
      have hU6 := hU4.trans hV6
      have hB6 := hB4.but hV6 (by omega)
      have hBe6 : Bk w6 w3.heap.size 41 [.int .i64 o, .string ⟨#[]⟩, .string ⟨#[]⟩, .int .i64 0, .complex .f64 0 0, .slice none 0 0, .int .i64 (I.M k).at_] := hBe.but hV6 (by omega)
      obtain ⟨_, _, _, p3, _, _, _⟩ := hBe6.seven
      have z3 := hBe6.frz 3
      have O2 := (Oth.refl w3.heap.size w6).set 3 (.int .i64 t)
      have hBe7 := hBe6.set 3 (.int .i64 t)
      have hB7 := hB6.oth O2 (by omega)
      have h7 := h6.oth O2 (by omega) (by omega)
      have hU7 := O2.but hU6 (by omega)
      go_wp2_with (first
        | refine wpList_loadN rfl 41 (.tmp 4) rfl w3.heap.size 0 rfl [.int .i64 o, .string ⟨#[]⟩, .string ⟨#[]⟩, .int .i64 t, .complex .f64 0 0, .slice none 0 0, .int .i64 (I.M k).at_] _ (hBe7.range 0 7) Tryz.underE Tryz.infoE ?_
        | (refine wpList_storeN rfl 41 (.tmp 2) (.tmp 33) rfl w.heap.size 0 [.int .i64 o, .string ⟨#[]⟩, .string ⟨#[]⟩, .int .i64 t, .complex .f64 0 0, .slice none 0 0, .int .i64 (I.M k).at_] rfl rfl hB7 (Nat.le_refl 7) Tryz.infoE (one7 _ _ _ _ _ _ _ _ _ _) ?_; intro wz hBz hoz))
      have hrz := h7.oth hoz (by omega) (by omega)
      have hUz := hoz.but hU7 (Nat.le_refl _)
      obtain ⟨q0, q1, q2, q3, q4, q5, q6⟩ := Bk.seven (show Bk wz w.heap.size _ [_, _, _, _, _, _, _] from hBz)
      refine bodyPost_ret (v := .agg #[.int .i64 o, .string ⟨#[]⟩, .string ⟨#[]⟩, .int .i64 t, .complex .f64 0 0, .slice none 0 0, .int .i64 (I.M k).at_]) (by simp [results, Tryz.results167, go_sem, q0, q1, q2, q3, q4, q5, q6]) rfl (ans_ok HR hUz ⟨_, rfl, exv_mk (xs := []) .nil rfl⟩ hrz)
  · have HR : Hid (r = (brackP I.M (lmOf I) f d (k + 1)).bind fun e k1 => .ok (.mk o [] [] 0 0 0 [e] (I.M k).at_) k1) := by subst ho; exact hr
    have o1 : (o == 0) = false := by rw [ho]; rfl
    have o2 : (o == 5) = false := by rw [ho]; rfl
    have o14 : (o == 14) = true := by rw [ho]; rfl
    clear hr ho
    go_enter Tryz.func167, Tryz.ntmps167
    go_wp2_with fail
    refine (next_any I _ R k d h1).mono ?_
    rintro e w1 ⟨rfl, hb1⟩
    unfold mkV
    have h2 := h1.up hb1
    have hU2 := bel_but (Below.thn (below_alloc w (.cells ez 41)) hb1) R
    have hB2 := hB0.up hb1
    go_wp2_with fail
    refine (hwo w1).mono ?_
    rintro e w1' ⟨rfl, hw1⟩
    rw [hw1]
    clear hw1
    go_wp2_with fail
    refine (take_any I _ R k d h2 hkn).mono ?_
    rintro e w3 ⟨rfl, h3, hV3⟩
    unfold mkV
    have hU3 := hU2.trans hV3
    have hB3 := hB2.but hV3 (by omega)
    have hlr := hB3.lt
    have hBe := Bk.new w3 41 #[.int .i64 o, .string ⟨#[]⟩, .string ⟨#[]⟩, .int .i64 0, .complex .f64 0 0, .slice none 0 0, .int .i64 (I.M k).at_]
    have hb4 := below_alloc w3 (.cells #[.int .i64 o, .string ⟨#[]⟩, .string ⟨#[]⟩, .int .i64 0, .complex .f64 0 0, .slice none 0 0, .int .i64 (I.M k).at_] 41)
    have h4 := h3.up hb4
    have hU4 := hU3.then hb4
    have hB4 := hB3.up hb4
    go_wp2_with fail
    have hn6 := bind_ne HR hne
    refine (ih.brack _ R (k + 1) d h4 hn6).mono ?_
    rintro e w6 ⟨hV6, ha⟩
    cases hq : brackP I.M (lmOf I) f d (k + 1) with
    | out => exact absurd hq hn6
    | bad y j =>
      rw [hq] at ha
      rw [show e = _ from ha]
      have HR := bind_bad HR hq
      clear ha hq
      unfold gaveUp
      go_wp2
      exact ⟨rfl, ans_bad HR (hU4.trans hV6) rfl⟩
    | ok x k1 =>
      rw [hq] at ha
      obtain ⟨⟨v, rfl, vs, rfl, hxx⟩, h6⟩ := ha
      obtain ⟨x0, x1, x2, x3, x4, x5, x6, rfl⟩ := list7 hxx.len
      have HR := bind_ok HR hq
      clear hq
      have hl4 := hBe.lt
      have hs4 : (w3.alloc (.cells #[.int .i64 o, .string ⟨#[]⟩, .string ⟨#[]⟩, .int .i64 0, .complex .f64 0 0, .slice none 0 0, .int .i64 (I.M k).at_] 41)).heap.size = w3.heap.size + 1 := by simp
      have HS4 : Hid ((w3.alloc (.cells #[.int .i64 o, .string ⟨#[]⟩, .string ⟨#[]⟩, .int .i64 0, .complex .f64 0 0, .slice none 0 0, .int .i64 (I.M k).at_] 41)).heap.size = w3.heap.size + 1) := hs4
      have hU6 := hU4.trans hV6
      have hB6 := hB4.but hV6 (by omega)
      have hBe6 : Bk w6 w3.heap.size 41 [.int .i64 o, .string ⟨#[]⟩, .string ⟨#[]⟩, .int .i64 0, .complex .f64 0 0, .slice none 0 0, .int .i64 (I.M k).at_] := hBe.but hV6 (by omega)
      have hl6 := hBe6.lt
      have hb7 := below_alloc w6 (.cells #[x0, x1, x2, x3, x4, x5, x6] 41)
      have hBe7 := hBe6.up hb7
      obtain ⟨_, _, _, _, _, p5, _⟩ := hBe7.seven
      have z5 := hBe7.frz 5
      have O1 := (Oth.refl w3.heap.size w6).set 5 (.slice (some ⟨w6.heap.size, 0, none⟩) 1 1)
      have hb8 := below_alloc (w6.setCell ⟨w3.heap.size, 5, none⟩ (.slice (some ⟨w6.heap.size, 0, none⟩) 1 1)) (.cells #[x0, x1, x2, x3, x4, x5, x6] 41)
      have hBe8 := (hBe6.set 5 (.slice (some ⟨w6.heap.size, 0, none⟩) 1 1)).up hb8
      have hB8 := (hB6.oth O1 (by omega)).up hb8
      have h8 := (h6.oth O1 (by omega) (by omega)).up hb8
      have hU8 := (O1.but hU6 (by omega)).then hb8
      have hx8 := (hxx.oth O1 (by have := show _ = _ from HS4; omega)).up hb8
      have hA8 := Bk.newAt (w := w6.setCell ⟨w3.heap.size, 5, none⟩ (.slice (some ⟨w6.heap.size, 0, none⟩) 1 1)) 41 #[x0, x1, x2, x3, x4, x5, x6] O1.size
      go_wp2_with (first
        | refine wpList_loadN rfl 41 (.tmp 4) rfl w3.heap.size 0 rfl [.int .i64 o, .string ⟨#[]⟩, .string ⟨#[]⟩, .int .i64 0, .complex .f64 0 0, .slice (some ⟨w6.heap.size, 0, none⟩) 1 1, .int .i64 (I.M k).at_] _ (hBe8.range 0 7) Tryz.underE Tryz.infoE ?_
        | (refine wpList_storeN rfl 41 (.tmp 2) (.tmp 33) rfl w.heap.size 0 [.int .i64 o, .string ⟨#[]⟩, .string ⟨#[]⟩, .int .i64 0, .complex .f64 0 0, .slice (some ⟨w6.heap.size, 0, none⟩) 1 1, .int .i64 (I.M k).at_] rfl rfl hB8 (Nat.le_refl 7) Tryz.infoE (one7 _ _ _ _ _ _ _ _ _ _) ?_; intro wz hBz hoz))
      have hrz := h8.oth hoz (by omega) (by omega)
      have hUz := hoz.but hU8 (Nat.le_refl _)
      have hxz := (hx8.oth hoz (by have := show _ = _ from HS4; omega)).mono (B' := w.heap.size) (by have := show _ = _ from HS4; omega)
      have hAz := hA8.oth hoz (by omega)
      obtain ⟨q0, q1, q2, q3, q4, q5, q6⟩ := Bk.seven (show Bk wz w.heap.size _ [_, _, _, _, _, _, _] from hBz)
      refine bodyPost_ret (v := .agg #[.int .i64 o, .string ⟨#[]⟩, .string ⟨#[]⟩, .int .i64 0, .complex .f64 0 0, .slice (some ⟨w6.heap.size, 0, none⟩) 1 1, .int .i64 (I.M k).at_]) (by simp [results, Tryz.results167, go_sem, q0, q1, q2, q3, q4, q5, q6]) rfl (ans_ok HR hUz ⟨_, rfl, exv_mk (xs := [x]) (elv1 (by omega) hAz hxz) rfl⟩ hrz)
  · have HR : Hid (r = (brackP I.M (lmOf I) f d (k + 1)).bind fun e k1 => .ok (.mk o [] [] 0 0 0 [e] (I.M k).at_) k1) := by subst ho; exact hr
    have o1 : (o == 0) = false := by rw [ho]; rfl
    have o2 : (o == 5) = false := by rw [ho]; rfl
    have o14 : (o == 14) = false := by rw [ho]; rfl
    have o15 : (o == 15) = true := by rw [ho]; rfl
    clear hr ho
    go_enter Tryz.func167, Tryz.ntmps167
    go_wp2_with fail
    refine (next_any I _ R k d h1).mono ?_
    rintro e w1 ⟨rfl, hb1⟩
    unfold mkV
    have h2 := h1.up hb1
    have hU2 := bel_but (Below.thn (below_alloc w (.cells ez 41)) hb1) R
    have hB2 := hB0.up hb1
    go_wp2_with fail
    refine (hwo w1).mono ?_
    rintro e w1' ⟨rfl, hw1⟩
    rw [hw1]
    clear hw1
    go_wp2_with fail
    refine (take_any I _ R k d h2 hkn).mono ?_
    rintro e w3 ⟨rfl, h3, hV3⟩
    unfold mkV
    have hU3 := hU2.trans hV3
    have hB3 := hB2.but hV3 (by omega)
    have hlr := hB3.lt
    have hBe := Bk.new w3 41 #[.int .i64 o, .string ⟨#[]⟩, .string ⟨#[]⟩, .int .i64 0, .complex .f64 0 0, .slice none 0 0, .int .i64 (I.M k).at_]
    have hb4 := below_alloc w3 (.cells #[.int .i64 o, .string ⟨#[]⟩, .string ⟨#[]⟩, .int .i64 0, .complex .f64 0 0, .slice none 0 0, .int .i64 (I.M k).at_] 41)
    have h4 := h3.up hb4
    have hU4 := hU3.then hb4
    have hB4 := hB3.up hb4
    go_wp2_with fail
    have hn6 := bind_ne HR hne
    refine (ih.brack _ R (k + 1) d h4 hn6).mono ?_
    rintro e w6 ⟨hV6, ha⟩
    cases hq : brackP I.M (lmOf I) f d (k + 1) with
    | out => exact absurd hq hn6
    | bad y j =>
      rw [hq] at ha
      rw [show e = _ from ha]
      have HR := bind_bad HR hq
      clear ha hq
      unfold gaveUp
      go_wp2
      exact ⟨rfl, ans_bad HR (hU4.trans hV6) rfl⟩
    | ok x k1 =>
      rw [hq] at ha
      obtain ⟨⟨v, rfl, vs, rfl, hxx⟩, h6⟩ := ha
      obtain ⟨x0, x1, x2, x3, x4, x5, x6, rfl⟩ := list7 hxx.len
      have HR := bind_ok HR hq
      clear hq
      have hl4 := hBe.lt
      have hs4 : (w3.alloc (.cells #[.int .i64 o, .string ⟨#[]⟩, .string ⟨#[]⟩, .int .i64 0, .complex .f64 0 0, .slice none 0 0, .int .i64 (I.M k).at_] 41)).heap.size = w3.heap.size + 1 := by simp
      have HS4 : Hid ((w3.alloc (.cells #[.int .i64 o, .string ⟨#[]⟩, .string ⟨#[]⟩, .int .i64 0, .complex .f64 0 0, .slice none 0 0, .int .i64 (I.M k).at_] 41)).heap.size = w3.heap.size + 1) := hs4
      have hU6 := hU4.trans hV6
      have hB6 := hB4.but hV6 (by omega)
      have hBe6 : Bk w6 w3.heap.size 41 [.int .i64 o, .string ⟨#[]⟩, .string ⟨#[]⟩, .int .i64 0, .complex .f64 0 0, .slice none 0 0, .int .i64 (I.M k).at_] := hBe.but hV6 (by omega)
      have hl6 := hBe6.lt
      have hb7 := below_alloc w6 (.cells #[x0, x1, x2, x3, x4, x5, x6] 41)
      have hBe7 := hBe6.up hb7
      obtain ⟨_, _, _, _, _, p5, _⟩ := hBe7.seven
      have z5 := hBe7.frz 5
      have O1 := (Oth.refl w3.heap.size w6).set 5 (.slice (some ⟨w6.heap.size, 0, none⟩) 1 1)
      have hb8 := below_alloc (w6.setCell ⟨w3.heap.size, 5, none⟩ (.slice (some ⟨w6.heap.size, 0, none⟩) 1 1)) (.cells #[x0, x1, x2, x3, x4, x5, x6] 41)
      have hBe8 := (hBe6.set 5 (.slice (some ⟨w6.heap.size, 0, none⟩) 1 1)).up hb8
      have hB8 := (hB6.oth O1 (by omega)).up hb8
      have h8 := (h6.oth O1 (by omega) (by omega)).up hb8
      have hU8 := (O1.but hU6 (by omega)).then hb8
      have hx8 := (hxx.oth O1 (by have := show _ = _ from HS4; omega)).up hb8
      have hA8 := Bk.newAt (w := w6.setCell ⟨w3.heap.size, 5, none⟩ (.slice (some ⟨w6.heap.size, 0, none⟩) 1 1)) 41 #[x0, x1, x2, x3, x4, x5, x6] O1.size
      go_wp2_with (first
        | refine wpList_loadN rfl 41 (.tmp 4) rfl w3.heap.size 0 rfl [.int .i64 o, .string ⟨#[]⟩, .string ⟨#[]⟩, .int .i64 0, .complex .f64 0 0, .slice (some ⟨w6.heap.size, 0, none⟩) 1 1, .int .i64 (I.M k).at_] _ (hBe8.range 0 7) Tryz.underE Tryz.infoE ?_
        | (refine wpList_storeN rfl 41 (.tmp 2) (.tmp 33) rfl w.heap.size 0 [.int .i64 o, .string ⟨#[]⟩, .string ⟨#[]⟩, .int .i64 0, .complex .f64 0 0, .slice (some ⟨w6.heap.size, 0, none⟩) 1 1, .int .i64 (I.M k).at_] rfl rfl hB8 (Nat.le_refl 7) Tryz.infoE (one7 _ _ _ _ _ _ _ _ _ _) ?_; intro wz hBz hoz))
      have hrz := h8.oth hoz (by omega) (by omega)
      have hUz := hoz.but hU8 (Nat.le_refl _)
      have hxz := (hx8.oth hoz (by have := show _ = _ from HS4; omega)).mono (B' := w.heap.size) (by have := show _ = _ from HS4; omega)
      have hAz := hA8.oth hoz (by omega)
      obtain ⟨q0, q1, q2, q3, q4, q5, q6⟩ := Bk.seven (show Bk wz w.heap.size _ [_, _, _, _, _, _, _] from hBz)
      refine bodyPost_ret (v := .agg #[.int .i64 o, .string ⟨#[]⟩, .string ⟨#[]⟩, .int .i64 0, .complex .f64 0 0, .slice (some ⟨w6.heap.size, 0, none⟩) 1 1, .int .i64 (I.M k).at_]) (by simp [results, Tryz.results167, go_sem, q0, q1, q2, q3, q4, q5, q6]) rfl (ans_ok HR hUz ⟨_, rfl, exv_mk (xs := [x]) (elv1 (by omega) hAz hxz) rfl⟩ hrz)
  · have HR : Hid (r = (brackP I.M (lmOf I) f d (k + 1)).bind fun e k1 => .ok (.mk o [] [] 0 0 0 [e] (I.M k).at_) k1) := by subst ho; exact hr
    have o1 : (o == 0) = false := by rw [ho]; rfl
    have o2 : (o == 5) = false := by rw [ho]; rfl
    have o14 : (o == 14) = false := by rw [ho]; rfl
    have o15 : (o == 15) = false := by rw [ho]; rfl
    have o16 : (o == 16) = true := by rw [ho]; rfl
    clear hr ho
    go_enter Tryz.func167, Tryz.ntmps167
    go_wp2_with fail
    refine (next_any I _ R k d h1).mono ?_
    rintro e w1 ⟨rfl, hb1⟩
    unfold mkV
    have h2 := h1.up hb1
    have hU2 := bel_but (Below.thn (below_alloc w (.cells ez 41)) hb1) R
    have hB2 := hB0.up hb1
    go_wp2_with fail
    refine (hwo w1).mono ?_
    rintro e w1' ⟨rfl, hw1⟩
    rw [hw1]
    clear hw1
    go_wp2_with fail
    refine (take_any I _ R k d h2 hkn).mono ?_
    rintro e w3 ⟨rfl, h3, hV3⟩
    unfold mkV
    have hU3 := hU2.trans hV3
    have hB3 := hB2.but hV3 (by omega)
    have hlr := hB3.lt
    have hBe := Bk.new w3 41 #[.int .i64 o, .string ⟨#[]⟩, .string ⟨#[]⟩, .int .i64 0, .complex .f64 0 0, .slice none 0 0, .int .i64 (I.M k).at_]
    have hb4 := below_alloc w3 (.cells #[.int .i64 o, .string ⟨#[]⟩, .string ⟨#[]⟩, .int .i64 0, .complex .f64 0 0, .slice none 0 0, .int .i64 (I.M k).at_] 41)
    have h4 := h3.up hb4
    have hU4 := hU3.then hb4
    have hB4 := hB3.up hb4
    go_wp2_with fail
    have hn6 := bind_ne HR hne
    refine (ih.brack _ R (k + 1) d h4 hn6).mono ?_
    rintro e w6 ⟨hV6, ha⟩
    cases hq : brackP I.M (lmOf I) f d (k + 1) with
    | out => exact absurd hq hn6
    | bad y j =>
      rw [hq] at ha
      rw [show e = _ from ha]
      have HR := bind_bad HR hq
      clear ha hq
      unfold gaveUp
      go_wp2
      exact ⟨rfl, ans_bad HR (hU4.trans hV6) rfl⟩
    | ok x k1 =>
      rw [hq] at ha
      obtain ⟨⟨v, rfl, vs, rfl, hxx⟩, h6⟩ := ha
      obtain ⟨x0, x1, x2, x3, x4, x5, x6, rfl⟩ := list7 hxx.len
      have HR := bind_ok HR hq
      clear hq
      have hl4 := hBe.lt
      have hs4 : (w3.alloc (.cells #[.int .i64 o, .string ⟨#[]⟩, .string ⟨#[]⟩, .int .i64 0, .complex .f64 0 0, .slice none 0 0, .int .i64 (I.M k).at_] 41)).heap.size = w3.heap.size + 1 := by simp
      have HS4 : Hid ((w3.alloc (.cells #[.int .i64 o, .string ⟨#[]⟩, .string ⟨#[]⟩, .int .i64 0, .complex .f64 0 0, .slice none 0 0, .int .i64 (I.M k).at_] 41)).heap.size = w3.heap.size + 1) := hs4
      have hU6 := hU4.trans hV6
      have hB6 := hB4.but hV6 (by omega)
      have hBe6 : Bk w6 w3.heap.size 41 [.int .i64 o, .string ⟨#[]⟩, .string ⟨#[]⟩, .int .i64 0, .complex .f64 0 0, .slice none 0 0, .int .i64 (I.M k).at_] := hBe.but hV6 (by omega)
      have hl6 := hBe6.lt
      have hb7 := below_alloc w6 (.cells #[x0, x1, x2, x3, x4, x5, x6] 41)
      have hBe7 := hBe6.up hb7
      obtain ⟨_, _, _, _, _, p5, _⟩ := hBe7.seven
      have z5 := hBe7.frz 5
      have O1 := (Oth.refl w3.heap.size w6).set 5 (.slice (some ⟨w6.heap.size, 0, none⟩) 1 1)
      have hb8 := below_alloc (w6.setCell ⟨w3.heap.size, 5, none⟩ (.slice (some ⟨w6.heap.size, 0, none⟩) 1 1)) (.cells #[x0, x1, x2, x3, x4, x5, x6] 41)
      have hBe8 := (hBe6.set 5 (.slice (some ⟨w6.heap.size, 0, none⟩) 1 1)).up hb8
      have hB8 := (hB6.oth O1 (by omega)).up hb8
      have h8 := (h6.oth O1 (by omega) (by omega)).up hb8
      have hU8 := (O1.but hU6 (by omega)).then hb8
      have hx8 := (hxx.oth O1 (by have := show _ = _ from HS4; omega)).up hb8
      have hA8 := Bk.newAt (w := w6.setCell ⟨w3.heap.size, 5, none⟩ (.slice (some ⟨w6.heap.size, 0, none⟩) 1 1)) 41 #[x0, x1, x2, x3, x4, x5, x6] O1.size
      go_wp2_with (first
        | refine wpList_loadN rfl 41 (.tmp 4) rfl w3.heap.size 0 rfl [.int .i64 o, .string ⟨#[]⟩, .string ⟨#[]⟩, .int .i64 0, .complex .f64 0 0, .slice (some ⟨w6.heap.size, 0, none⟩) 1 1, .int .i64 (I.M k).at_] _ (hBe8.range 0 7) Tryz.underE Tryz.infoE ?_
        | (refine wpList_storeN rfl 41 (.tmp 2) (.tmp 33) rfl w.heap.size 0 [.int .i64 o, .string ⟨#[]⟩, .string ⟨#[]⟩, .int .i64 0, .complex .f64 0 0, .slice (some ⟨w6.heap.size, 0, none⟩) 1 1, .int .i64 (I.M k).at_] rfl rfl hB8 (Nat.le_refl 7) Tryz.infoE (one7 _ _ _ _ _ _ _ _ _ _) ?_; intro wz hBz hoz))
      have hrz := h8.oth hoz (by omega) (by omega)
      have hUz := hoz.but hU8 (Nat.le_refl _)
      have hxz := (hx8.oth hoz (by have := show _ = _ from HS4; omega)).mono (B' := w.heap.size) (by have := show _ = _ from HS4; omega)
      have hAz := hA8.oth hoz (by omega)
      obtain ⟨q0, q1, q2, q3, q4, q5, q6⟩ := Bk.seven (show Bk wz w.heap.size _ [_, _, _, _, _, _, _] from hBz)
      refine bodyPost_ret (v := .agg #[.int .i64 o, .string ⟨#[]⟩, .string ⟨#[]⟩, .int .i64 0, .complex .f64 0 0, .slice (some ⟨w6.heap.size, 0, none⟩) 1 1, .int .i64 (I.M k).at_]) (by simp [results, Tryz.results167, go_sem, q0, q1, q2, q3, q4, q5, q6]) rfl (ans_ok HR hUz ⟨_, rfl, exv_mk (xs := [x]) (elv1 (by omega) hAz hxz) rfl⟩ hrz)
  · have HR : Hid (r = (brackP I.M (lmOf I) f d (k + 1)).bind fun e k1 => .ok (.mk o [] [] 0 0 0 [e] (I.M k).at_) k1) := by subst ho; exact hr
    have o1 : (o == 0) = false := by rw [ho]; rfl
    have o2 : (o == 5) = false := by rw [ho]; rfl
    have o14 : (o == 14) = false := by rw [ho]; rfl
    have o15 : (o == 15) = false := by rw [ho]; rfl
    have o16 : (o == 16) = false := by rw [ho]; rfl
    have o17 : (o == 17) = true := by rw [ho]; rfl
    clear hr ho
    go_enter Tryz.func167, Tryz.ntmps167
    go_wp2_with fail
    refine (next_any I _ R k d h1).mono ?_
    rintro e w1 ⟨rfl, hb1⟩
    unfold mkV
    have h2 := h1.up hb1
    have hU2 := bel_but (Below.thn (below_alloc w (.cells ez 41)) hb1) R
    have hB2 := hB0.up hb1
    go_wp2_with fail
    refine (hwo w1).mono ?_
    rintro e w1' ⟨rfl, hw1⟩
    rw [hw1]
    clear hw1
    go_wp2_with fail
    refine (take_any I _ R k d h2 hkn).mono ?_
    rintro e w3 ⟨rfl, h3, hV3⟩
    unfold mkV
    have hU3 := hU2.trans hV3
    have hB3 := hB2.but hV3 (by omega)
    have hlr := hB3.lt
    have hBe := Bk.new w3 41 #[.int .i64 o, .string ⟨#[]⟩, .string ⟨#[]⟩, .int .i64 0, .complex .f64 0 0, .slice none 0 0, .int .i64 (I.M k).at_]
    have hb4 := below_alloc w3 (.cells #[.int .i64 o, .string ⟨#[]⟩, .string ⟨#[]⟩, .int .i64 0, .complex .f64 0 0, .slice none 0 0, .int .i64 (I.M k).at_] 41)
    have h4 := h3.up hb4
    have hU4 := hU3.then hb4
    have hB4 := hB3.up hb4
    go_wp2_with fail
    have hn6 := bind_ne HR hne
    refine (ih.brack _ R (k + 1) d h4 hn6).mono ?_
    rintro e w6 ⟨hV6, ha⟩
    cases hq : brackP I.M (lmOf I) f d (k + 1) with
    | out => exact absurd hq hn6
    | bad y j =>
      rw [hq] at ha
      rw [show e = _ from ha]
      have HR := bind_bad HR hq
      clear ha hq
      unfold gaveUp
      go_wp2
      exact ⟨rfl, ans_bad HR (hU4.trans hV6) rfl⟩
    | ok x k1 =>
      rw [hq] at ha
      obtain ⟨⟨v, rfl, vs, rfl, hxx⟩, h6⟩ := ha
      obtain ⟨x0, x1, x2, x3, x4, x5, x6, rfl⟩ := list7 hxx.len
      have HR := bind_ok HR hq
      clear hq
      have hl4 := hBe.lt
      have hs4 : (w3.alloc (.cells #[.int .i64 o, .string ⟨#[]⟩, .string ⟨#[]⟩, .int .i64 0, .complex .f64 0 0, .slice none 0 0, .int .i64 (I.M k).at_] 41)).heap.size = w3.heap.size + 1 := by simp
      have HS4 : Hid ((w3.alloc (.cells #[.int .i64 o, .string ⟨#[]⟩, .string ⟨#[]⟩, .int .i64 0, .complex .f64 0 0, .slice none 0 0, .int .i64 (I.M k).at_] 41)).heap.size = w3.heap.size + 1) := hs4
      have hU6 := hU4.trans hV6
      have hB6 := hB4.but hV6 (by omega)
      have hBe6 : Bk w6 w3.heap.size 41 [.int .i64 o, .string ⟨#[]⟩, .string ⟨#[]⟩, .int .i64 0, .complex .f64 0 0, .slice none 0 0, .int .i64 (I.M k).at_] := hBe.but hV6 (by omega)
      have hl6 := hBe6.lt
      have hb7 := below_alloc w6 (.cells #[x0, x1, x2, x3, x4, x5, x6] 41)
      have hBe7 := hBe6.up hb7
      obtain ⟨_, _, _, _, _, p5, _⟩ := hBe7.seven
      have z5 := hBe7.frz 5
      have O1 := (Oth.refl w3.heap.size w6).set 5 (.slice (some ⟨w6.heap.size, 0, none⟩) 1 1)
      have hb8 := below_alloc (w6.setCell ⟨w3.heap.size, 5, none⟩ (.slice (some ⟨w6.heap.size, 0, none⟩) 1 1)) (.cells #[x0, x1, x2, x3, x4, x5, x6] 41)
      have hBe8 := (hBe6.set 5 (.slice (some ⟨w6.heap.size, 0, none⟩) 1 1)).up hb8
      have hB8 := (hB6.oth O1 (by omega)).up hb8
      have h8 := (h6.oth O1 (by omega) (by omega)).up hb8
      have hU8 := (O1.but hU6 (by omega)).then hb8
      have hx8 := (hxx.oth O1 (by have := show _ = _ from HS4; omega)).up hb8
      have hA8 := Bk.newAt (w := w6.setCell ⟨w3.heap.size, 5, none⟩ (.slice (some ⟨w6.heap.size, 0, none⟩) 1 1)) 41 #[x0, x1, x2, x3, x4, x5, x6] O1.size
      go_wp2_with (first
        | refine wpList_loadN rfl 41 (.tmp 4) rfl w3.heap.size 0 rfl [.int .i64 o, .string ⟨#[]⟩, .string ⟨#[]⟩, .int .i64 0, .complex .f64 0 0, .slice (some ⟨w6.heap.size, 0, none⟩) 1 1, .int .i64 (I.M k).at_] _ (hBe8.range 0 7) Tryz.underE Tryz.infoE ?_
        | (refine wpList_storeN rfl 41 (.tmp 2) (.tmp 33) rfl w.heap.size 0 [.int .i64 o, .string ⟨#[]⟩, .string ⟨#[]⟩, .int .i64 0, .complex .f64 0 0, .slice (some ⟨w6.heap.size, 0, none⟩) 1 1, .int .i64 (I.M k).at_] rfl rfl hB8 (Nat.le_refl 7) Tryz.infoE (one7 _ _ _ _ _ _ _ _ _ _) ?_; intro wz hBz hoz))
      have hrz := h8.oth hoz (by omega) (by omega)
      have hUz := hoz.but hU8 (Nat.le_refl _)
      have hxz := (hx8.oth hoz (by have := show _ = _ from HS4; omega)).mono (B' := w.heap.size) (by have := show _ = _ from HS4; omega)
      have hAz := hA8.oth hoz (by omega)
      obtain ⟨q0, q1, q2, q3, q4, q5, q6⟩ := Bk.seven (show Bk wz w.heap.size _ [_, _, _, _, _, _, _] from hBz)
      refine bodyPost_ret (v := .agg #[.int .i64 o, .string ⟨#[]⟩, .string ⟨#[]⟩, .int .i64 0, .complex .f64 0 0, .slice (some ⟨w6.heap.size, 0, none⟩) 1 1, .int .i64 (I.M k).at_]) (by simp [results, Tryz.results167, go_sem, q0, q1, q2, q3, q4, q5, q6]) rfl (ans_ok HR hUz ⟨_, rfl, exv_mk (xs := [x]) (elv1 (by omega) hAz hxz) rfl⟩ hrz)
  · have HR : Hid (r = .ok (.mk o [] [] 0 0 0 [] (I.M k).at_) (k + 1)) := by rcases ho with ho | ho | ho <;> (subst ho; exact hr)
    have o1 : (o == 0) = false := by rcases ho with ho | ho | ho <;> rw [ho] <;> rfl
    have o2 : (o == 5) = false := by rcases ho with ho | ho | ho <;> rw [ho] <;> rfl
    have o14 : (o == 14) = false := by rcases ho with ho | ho | ho <;> rw [ho] <;> rfl
    have o15 : (o == 15) = false := by rcases ho with ho | ho | ho <;> rw [ho] <;> rfl
    have o16 : (o == 16) = false := by rcases ho with ho | ho | ho <;> rw [ho] <;> rfl
    have o17 : (o == 17) = false := by rcases ho with ho | ho | ho <;> rw [ho] <;> rfl
    clear hr ho
    go_enter Tryz.func167, Tryz.ntmps167
    go_wp2_with fail
    refine (next_any I _ R k d h1).mono ?_
    rintro e w1 ⟨rfl, hb1⟩
    unfold mkV
    have h2 := h1.up hb1
    have hU2 := bel_but (Below.thn (below_alloc w (.cells ez 41)) hb1) R
    have hB2 := hB0.up hb1
    go_wp2_with fail
    refine (hwo w1).mono ?_
    rintro e w1' ⟨rfl, hw1⟩
    rw [hw1]
    clear hw1
    go_wp2_with fail
    refine (take_any I _ R k d h2 hkn).mono ?_
    rintro e w3 ⟨rfl, h3, hV3⟩
    unfold mkV
    have hU3 := hU2.trans hV3
    have hB3 := hB2.but hV3 (by omega)
    have hlr := hB3.lt
    have hBe := Bk.new w3 41 #[.int .i64 o, .string ⟨#[]⟩, .string ⟨#[]⟩, .int .i64 0, .complex .f64 0 0, .slice none 0 0, .int .i64 (I.M k).at_]
    have hb4 := below_alloc w3 (.cells #[.int .i64 o, .string ⟨#[]⟩, .string ⟨#[]⟩, .int .i64 0, .complex .f64 0 0, .slice none 0 0, .int .i64 (I.M k).at_] 41)
    have h4 := h3.up hb4
    have hU4 := hU3.then hb4
    have hB4 := hB3.up hb4
    go_wp2_with (first
      | refine wpList_loadN rfl 41 (.tmp 4) rfl w3.heap.size 0 rfl [.int .i64 o, .string ⟨#[]⟩, .string ⟨#[]⟩, .int .i64 0, .complex .f64 0 0, .slice none 0 0, .int .i64 (I.M k).at_] _ (hBe.range 0 7) Tryz.underE Tryz.infoE ?_
      | (refine wpList_storeN rfl 41 (.tmp 2) (.tmp 33) rfl w.heap.size 0 [.int .i64 o, .string ⟨#[]⟩, .string ⟨#[]⟩, .int .i64 0, .complex .f64 0 0, .slice none 0 0, .int .i64 (I.M k).at_] rfl rfl hB4 (Nat.le_refl 7) Tryz.infoE (one7 _ _ _ _ _ _ _ _ _ _) ?_; intro wz hBz hoz))
    have hrz := h4.oth hoz (by omega) (by omega)
    have hUz := hoz.but hU4 (Nat.le_refl _)
    obtain ⟨q0, q1, q2, q3, q4, q5, q6⟩ := Bk.seven (show Bk wz w.heap.size _ [_, _, _, _, _, _, _] from hBz)
    refine bodyPost_ret (v := .agg #[.int .i64 o, .string ⟨#[]⟩, .string ⟨#[]⟩, .int .i64 0, .complex .f64 0 0, .slice none 0 0, .int .i64 (I.M k).at_]) (by simp [results, Tryz.results167, go_sem, q0, q1, q2, q3, q4, q5, q6]) rfl (ans_ok HR hUz ⟨_, rfl, exv_mk (xs := []) .nil rfl⟩ hrz)
end Go.Proofs.YtndgglhppoijnaaGreatDoor
