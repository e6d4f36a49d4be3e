/-
  The walks of bracketed, binding, choice, look.
-/
import Derived.Test.YtndgglhppoijnaaGreatDoorUI
namespace Go.Proofs.YtndgglhppoijnaaGreatDoor
open Go.RowKit
set_option maxRecDepth 100000

theorem must_ne (M : Nat → Mk) (s : List UInt8) (k : Nat) : mustP M s k ≠ .out := by unfold mustP; split <;> simp
theorem name_ne (M : Nat → Mk) (k : Nat) : nameP M k ≠ .out := by unfold nameP; split <;> simp
theorem type_ne (M : Nat → Mk) (k : Nat) : typeP M k ≠ .out := by
  unfold typeP
  repeat' split
  all_goals simp
theorem one7 (a : Int) (b c : ByteArray) (d : Int) (p q : Nat) (e : Option Addr) (n m : Nat) (f : Int) : ∀ v ∈ [Value.int .i64 a, .string b, .string c, .int .i64 d, .complex .f64 p q, .slice e n m, .int .i64 f], v.oneCell' = true := by
  intro v hv
  simp only [List.mem_cons, List.not_mem_nil, or_false] at hv
  rcases hv with rfl | rfl | rfl | rfl | rfl | rfl | rfl <;> rfl

set_option maxHeartbeats 4000000 in
theorem brack_step (I : Rdi) (hE : Ends I.M I.n) (f : Nat) (ih : AllN I f) (w : World) (R k d : Nat) (h : Rdr I w R k d) (hne : brackP I.M (lmOf I) (f + 1) d k ≠ .out) :
    Calls Tryz.prog 168 #[.pointer (some ⟨R, 0, none⟩)] w fun e w' => Ans I R d w (exV w.heap.size) (brackP I.M (lmOf I) (f + 1) d k) e w' := by
  obtain ⟨r, hr⟩ : ∃ r, r = brackP I.M (lmOf I) (f + 1) d k := ⟨_, rfl⟩
  rw [← hr] at hne ⊢
  rw [brackP] at hr
  have HR : Hid (r = _) := hr
  clear hr
  have hB0 := Bk.new w 41 ez
  have hlt := h.lt
  go_enter Tryz.func168, Tryz.ntmps168
  have hb0 := below_alloc w (.cells ez 41)
  have h1 := h.up hb0
  have hU1 := bel_but hb0 R
  have hw0 : (w.alloc (.cells ez 41)).heap.size = w.heap.size + 1 := by simp
  go_wp2_with fail
  have hn2 : mustP I.M [40] k ≠ .out := must_ne _ _ _
  have hc2 := hU1.size
  have hcr2 := hB0.lt
  refine (must_any I hE [40] (by decide) (w.alloc (.cells ez 41)) R k d h1).mono ?_
  rintro e w2 ⟨hV2, ha⟩
  cases hq2 : mustP I.M [40] k with
  | out => exact absurd hq2 hn2
  | bad y j =>
    rw [hq2] at ha
    rw [show e = _ from ha]
    have HR := bind_bad HR hq2
    clear ha hq2
    unfold gaveUp
    go_wp2
    exact ⟨rfl, ans_bad HR (hU1.trans hV2) rfl⟩
  | ok _ k2 =>
    rw [hq2] at ha
    obtain ⟨⟨v, rfl, hv⟩, h2⟩ := ha
    have HR := bind_ok HR hq2
    clear hq2 hn2
    subst hv
    have hU3 := hU1.trans hV2
    have hBr3 := hB0.but hV2 (by omega)
    go_wp2_with fail
    have hn4 : exprP I.M (lmOf I) f d k2 ≠ .out := bind_ne HR hne
    have hc4 := hU3.size
    have hcr4 := hBr3.lt
    refine (ih.expr w2 R k2 d h2 (bind_ne HR hne)).mono ?_
    rintro e w4 ⟨hV4, ha⟩
    cases hq4 : exprP I.M (lmOf I) f d k2 with
    | out => exact absurd hq4 hn4
    | bad y j =>
      rw [hq4] at ha
      rw [show e = _ from ha]
      have HR := bind_bad HR hq4
      clear ha hq4
      unfold gaveUp
      go_wp2
      exact ⟨rfl, ans_bad HR (hU3.trans hV4) rfl⟩
    | ok x k4 =>
      rw [hq4] at ha
      obtain ⟨⟨v, rfl, vs, rfl, hxx⟩, h4⟩ := ha
      obtain ⟨x0, x1, x2, x3, x4, x5, x6, rfl⟩ := list7 hxx.len
      have HR := bind_ok HR hq4
      clear hq4 hn4
      have hU5 := hU3.trans hV4
      have hBr5 := hBr3.but hV4 (by omega)
      have hL6 := Bk.new w4 41 ez
      go_wp2_with (refine wpList_storeN rfl 41 (.tmp 3) (.tmp 7) rfl w4.heap.size 0 [x0, x1, x2, x3, x4, x5, x6] rfl rfl hL6 (Nat.le_refl 7) Tryz.infoE hxx.one ?_; intro w6 hM6 ho6)
      have hb6 := (below_alloc w4 (.cells ez 41)).trans (ho6.below (Nat.le_refl _))
      have hm6 : Bk w6 w4.heap.size 41 [x0, x1, x2, x3, x4, x5, x6] := hM6
      have hltr6 := hBr5.lt
      have hsz6 := hU5.size
      have h7 := h4.up hb6
      have hU7 := hU5.then hb6
      have hBr7 := hBr5.up hb6
      have hxx7 := hxx.up hb6
      clear hM6 hL6 ho6 hb6
      go_wp2_with fail
      have hn8 : mustP I.M [41] k4 ≠ .out := must_ne _ _ _
      have hc8 := hU7.size
      have hcr8 := hBr7.lt
      refine (must_any I hE [41] (by decide) w6 R k4 d h7).mono ?_
      rintro e w8 ⟨hV8, ha⟩
      cases hq8 : mustP I.M [41] k4 with
      | out => exact absurd hq8 hn8
      | bad y j =>
        rw [hq8] at ha
        rw [show e = _ from ha]
        have HR := bind_bad HR hq8
        clear ha hq8
        unfold gaveUp
        go_wp2
        exact ⟨rfl, ans_bad HR (hU7.trans hV8) rfl⟩
      | ok _ k8 =>
        rw [hq8] at ha
        obtain ⟨⟨v, rfl, hv⟩, h8⟩ := ha
        have HR := bind_ok HR hq8
        clear hq8 hn8
        subst hv
        have hU9 := hU7.trans hV8
        have hBr9 := hBr7.but hV8 (by omega)
        have hBx9 := hm6.but hV8 (by omega)
        have hxx9 := hxx7.but hV8 (by omega)
        go_wp2_with (first
          | refine wpList_loadN rfl 41 (.tmp 3) rfl w4.heap.size 0 rfl [x0, x1, x2, x3, x4, x5, x6] _ (hBx9.range 0 7) Tryz.underE Tryz.infoE ?_
          | (refine wpList_storeN rfl 41 (.tmp 2) (.tmp 10) rfl w.heap.size 0 [x0, x1, x2, x3, x4, x5, x6] rfl rfl hBr9 (Nat.le_refl 7) Tryz.infoE hxx9.one ?_; intro wz hBz hoz))
        have hvz := (hxx9.oth hoz (by omega)).mono (B' := w.heap.size) (by omega)
        have hrz := h8.oth hoz (by omega) (by omega)
        have hUz := hoz.but hU9 (Nat.le_refl _)
        obtain ⟨q0, q1, q2, q3, q4, q5, q6⟩ := Bk.seven (show Bk wz w.heap.size _ [_, _, _, _, _, _, _] from hBz)
        refine bodyPost_ret (v := .agg #[x0, x1, x2, x3, x4, x5, x6]) (by simp [results, Tryz.results168, go_sem, q0, q1, q2, q3, q4, q5, q6]) rfl (ans_ok HR hUz ⟨_, rfl, hvz⟩ hrz)

set_option maxHeartbeats 4000000 in
theorem bind_step (I : Rdi) (hE : Ends I.M I.n) (f : Nat) (ih : AllN I f) (w : World) (R k d : Nat) (op : Int) (h : Rdr I w R k d) (hkn : k + 1 < I.n) (hne : bindP I.M (lmOf I) (f + 1) op d k ≠ .out) :
    Calls Tryz.prog 75 #[.pointer (some ⟨R, 0, none⟩), .int .i64 op] w fun e w' => Ans I R d w (exV w.heap.size) (bindP I.M (lmOf I) (f + 1) op d k) e w' := by
  obtain ⟨r, hr⟩ : ∃ r, r = bindP I.M (lmOf I) (f + 1) op d k := ⟨_, rfl⟩
  rw [← hr] at hne ⊢
  rw [bindP] at hr
  change r = if I.ln ≤ (d : Int) then _ else _ at hr
  by_cases hln : I.ln ≤ (d : Int)
  · rw [if_pos hln] at hr
    have HR : Hid (r = _) := hr
    clear hr
    have h1 := h.up (below_alloc w (.cells ez 41))
    go_enter Tryz.func75, Tryz.ntmps75
    go_wp2_with fail
    refine (enter_no I _ R k d h1 hln).mono ?_
    rintro e w1 ⟨rfl, hV⟩
    unfold gaveUp
    go_wp2
    exact ⟨rfl, ans_bad HR ((bel_but (below_alloc w (.cells ez 41)) R).trans hV) rfl⟩
  · rw [if_neg hln] at hr
    have HR : Hid (r = _) := hr
    clear hr
    have hB0 := Bk.new w 41 ez
    have hlt := h.lt
    go_enter Tryz.func75, Tryz.ntmps75
    have hb0 := below_alloc w (.cells ez 41)
    have h1 := h.up hb0
    have hU1 := bel_but hb0 R
    have hw0 : (w.alloc (.cells ez 41)).heap.size = w.heap.size + 1 := by simp
    go_wp2_with fail
    have hc2 := hU1.size
    refine (enter_yes I _ R k d h1 (by omega) hkn).mono ?_
    rintro e w2 ⟨rfl, h2, hV2⟩
    have hU3 := hU1.trans hV2
    have hBr3 := hB0.but hV2 (by omega)
    have hL4 := Bk.new w2 85 mz
    go_wp2_with (refine wpList_storeN rfl 85 (.tmp 5) (.tmp 11) rfl w2.heap.size 0 (mkC (I.M k)) rfl rfl hL4 (Nat.le_refl 4) Tryz.infoM (mkC_one _) ?_; intro w4 hM4 ho4)
    have hb4 := (below_alloc w2 (.cells mz 85)).trans (ho4.below (Nat.le_refl _))
    have hm4 : Bk w4 w2.heap.size 85 (mkC (I.M k)) := hM4
    have hltr4 := hBr3.lt
    have hsz4 := hU3.size
    have h5 := h2.up hb4
    have hU5 := hU3.then hb4
    have hBr5 := hBr3.up hb4
    clear hM4 hL4 ho4 hb4
    go_wp2_with fail
    have hn6 : nameP I.M (k + 1) ≠ .out := name_ne _ _
    have hc6 := hU5.size
    have hcr6 := hBr5.lt
    refine (name_any I hE w4 R (k + 1) (d + 1) h5).mono ?_
    rintro e w6 ⟨hV6, ha⟩
    cases hq6 : nameP I.M (k + 1) with
    | out => exact absurd hq6 hn6
    | bad y j =>
      rw [hq6] at ha
      rw [show e = _ from ha]
      have HR := bind_bad HR hq6
      clear ha hq6
      unfold gaveUp
      go_wp2
      exact ⟨rfl, ans_bad HR (hU5.trans hV6) rfl⟩
    | ok x k6 =>
      rw [hq6] at ha
      obtain ⟨⟨v, rfl, hv⟩, h6⟩ := ha
      have HR := bind_ok HR hq6
      clear hq6 hn6
      obtain rfl : v = mkV x := hv
      unfold mkV
      have hfx := fun W => (fldM x W).2.1
      have hU7 := hU5.trans hV6
      have hBr7 := hBr5.but hV6 (by omega)
      have hBm7 := hm4.but hV6 (by omega)
      go_wp2_with fail
      have hn8 : typeP I.M k6 ≠ .out := type_ne _ _
      have hc8 := hU7.size
      have hcr8 := hBr7.lt
      refine (type_any I hE w6 R k6 (d + 1) h6).mono ?_
      rintro e w8 ⟨hV8, ha⟩
      cases hq8 : typeP I.M k6 with
      | out => exact absurd hq8 hn8
      | bad y j =>
        rw [hq8] at ha
        rw [show e = _ from ha]
        have HR := bind_bad HR hq8
        clear ha hq8
        unfold gaveUp
        go_wp2
        exact ⟨rfl, ans_bad HR (hU7.trans hV8) rfl⟩
      | ok t k8 =>
        rw [hq8] at ha
        obtain ⟨⟨v, rfl, hv⟩, h8⟩ := ha
        have HR := bind_ok HR hq8
        clear hq8 hn8
        obtain rfl : v = .int .i64 t := hv
        have hU9 := hU7.trans hV8
        have hBr9 := hBr7.but hV8 (by omega)
        have hBm9 := hBm7.but hV8 (by omega)
        go_wp2_with fail
        have hn10 : mustP I.M [61] k8 ≠ .out := must_ne _ _ _
        have hc10 := hU9.size
        have hcr10 := hBr9.lt
        refine (must_any I hE [61] (by decide) w8 R k8 (d + 1) h8).mono ?_
        rintro e w10 ⟨hV10, ha⟩
        cases hq10 : mustP I.M [61] k8 with
        | out => exact absurd hq10 hn10
        | bad y j =>
          rw [hq10] at ha
          rw [show e = _ from ha]
          have HR := bind_bad HR hq10
          clear ha hq10
          unfold gaveUp
          go_wp2
          exact ⟨rfl, ans_bad HR (hU9.trans hV10) rfl⟩
        | ok _ k10 =>
          rw [hq10] at ha
          obtain ⟨⟨v, rfl, hv⟩, h10⟩ := ha
          have HR := bind_ok HR hq10
          clear hq10 hn10
          subst hv
          have hU11 := hU9.trans hV10
          have hBr11 := hBr9.but hV10 (by omega)
          have hBm11 := hBm9.but hV10 (by omega)
          go_wp2_with fail
          have hn12 : exprP I.M (lmOf I) f (d + 1) k10 ≠ .out := bind_ne HR hne
          have hc12 := hU11.size
          have hcr12 := hBr11.lt
          refine (ih.expr w10 R k10 (d + 1) h10 (bind_ne HR hne)).mono ?_
          rintro e w12 ⟨hV12, ha⟩
          cases hq12 : exprP I.M (lmOf I) f (d + 1) k10 with
          | out => exact absurd hq12 hn12
          | bad y j =>
            rw [hq12] at ha
            rw [show e = _ from ha]
            have HR := bind_bad HR hq12
            clear ha hq12
            unfold gaveUp
            go_wp2
            exact ⟨rfl, ans_bad HR (hU11.trans hV12) rfl⟩
          | ok a k12 =>
            rw [hq12] at ha
            obtain ⟨⟨v, rfl, vs, rfl, hxa⟩, h12⟩ := ha
            obtain ⟨a0, a1, a2, a3, a4, a5, a6, rfl⟩ := list7 hxa.len
            have HR := bind_ok HR hq12
            clear hq12 hn12
            have hU13 := hU11.trans hV12
            have hBr13 := hBr11.but hV12 (by omega)
            have hBm13 := hBm11.but hV12 (by omega)
            have hL14 := Bk.new w12 41 ez
            go_wp2_with (refine wpList_storeN rfl 41 (.tmp 8) (.tmp 20) rfl w12.heap.size 0 [a0, a1, a2, a3, a4, a5, a6] rfl rfl hL14 (Nat.le_refl 7) Tryz.infoE hxa.one ?_; intro w14 hM14 ho14)
            have hb14 := (below_alloc w12 (.cells ez 41)).trans (ho14.below (Nat.le_refl _))
            have hm14 : Bk w14 w12.heap.size 41 [a0, a1, a2, a3, a4, a5, a6] := hM14
            have hltr14 := hBr13.lt
            have hltm14 := hBm13.lt
            have hsz14 := hU13.size
            have h15 := h12.up hb14
            have hU15 := hU13.then hb14
            have hBr15 := hBr13.up hb14
            have hBm15 := hBm13.up hb14
            have hxa15 := hxa.up hb14
            clear hM14 hL14 ho14 hb14
            go_wp2_with fail
            have hn16 : mustP I.M tIn k12 ≠ .out := must_ne _ _ _
            have hc16 := hU15.size
            have hcr16 := hBr15.lt
            refine (must_any I hE tIn (by decide) w14 R k12 (d + 1) h15).mono ?_
            rintro e w16 ⟨hV16, ha⟩
            cases hq16 : mustP I.M tIn k12 with
            | out => exact absurd hq16 hn16
            | bad y j =>
              rw [hq16] at ha
              rw [show e = _ from ha]
              have HR := bind_bad HR hq16
              clear ha hq16
              unfold gaveUp
              go_wp2
              exact ⟨rfl, ans_bad HR (hU15.trans hV16) rfl⟩
            | ok _ k16 =>
              rw [hq16] at ha
              obtain ⟨⟨v, rfl, hv⟩, h16⟩ := ha
              have HR := bind_ok HR hq16
              clear hq16 hn16
              subst hv
              have hU17 := hU15.trans hV16
              have hBr17 := hBr15.but hV16 (by omega)
              have hBm17 := hBm15.but hV16 (by omega)
              have hBa17 := hm14.but hV16 (by omega)
              have hxa17 := hxa15.but hV16 (by omega)
              go_wp2_with fail
              have hn18 : exprP I.M (lmOf I) f (d + 1) k16 ≠ .out := bind_ne HR hne
              have hc18 := hU17.size
              have hcr18 := hBr17.lt
              refine (ih.expr w16 R k16 (d + 1) h16 (bind_ne HR hne)).mono ?_
              rintro e w18 ⟨hV18, ha⟩
              cases hq18 : exprP I.M (lmOf I) f (d + 1) k16 with
              | out => exact absurd hq18 hn18
              | bad y j =>
                rw [hq18] at ha
                rw [show e = _ from ha]
                have HR := bind_bad HR hq18
                clear ha hq18
                unfold gaveUp
                go_wp2
                exact ⟨rfl, ans_bad HR (hU17.trans hV18) rfl⟩
              | ok b k18 =>
                rw [hq18] at ha
                obtain ⟨⟨v, rfl, vs, rfl, hxb⟩, h18⟩ := ha
                obtain ⟨b0, b1, b2, b3, b4, b5, b6, rfl⟩ := list7 hxb.len
                have HR := bind_ok HR hq18
                clear hq18 hn18
                have hU19 := hU17.trans hV18
                have hBr19 := hBr17.but hV18 (by omega)
                have hBm19 := hBm17.but hV18 (by omega)
                have hBa19 := hBa17.but hV18 (by omega)
                have hxa19 := hxa17.but hV18 (by omega)
                have hL20 := Bk.new w18 41 ez
                go_wp2_with (refine wpList_storeN rfl 41 (.tmp 9) (.tmp 24) rfl w18.heap.size 0 [b0, b1, b2, b3, b4, b5, b6] rfl rfl hL20 (Nat.le_refl 7) Tryz.infoE hxb.one ?_; intro w20 hM20 ho20)
                have hb20 := (below_alloc w18 (.cells ez 41)).trans (ho20.below (Nat.le_refl _))
                have hm20 : Bk w20 w18.heap.size 41 [b0, b1, b2, b3, b4, b5, b6] := hM20
                have hltr20 := hBr19.lt
                have hltm20 := hBm19.lt
                have hlta20 := hBa19.lt
                have hsz20 := hU19.size
                have h21 := h18.up hb20
                have hU21 := hU19.then hb20
                have hBr21 := hBr19.up hb20
                have hBm21 := hBm19.up hb20
                have hBa21 := hBa19.up hb20
                have hxa21 := hxa19.up hb20
                have hxb21 := hxb.up hb20
                clear hM20 hL20 ho20 hb20
                go_wp2_with fail
                refine (leave_any I w20 R k18 d h21).mono ?_
                rintro e w22 ⟨rfl, h22, hV22⟩
                have hU23 := hU21.trans hV22
                have hBr23 := hBr21.but hV22 (by omega)
                have hBm23 := hBm21.but hV22 (by omega)
                have hBa23 := hBa21.but hV22 (by omega)
                have hBb23 := hm20.but hV22 (by omega)
                have hxa23 := hxa21.but hV22 (by omega)
                have hxb23 := hxb21.but hV22 (by omega)
                have hW3 : ∀ o, (w22.alloc o).cell? ⟨w2.heap.size, 3, none⟩ = some (.int .i64 (I.M k).at_) := fun o => (hBm23.alloc o).cell 3
                go_wp2_with (first
                  | refine wpList_loadN rfl 41 (.tmp 8) rfl w12.heap.size 0 rfl [a0, a1, a2, a3, a4, a5, a6] _ (hBa23.range 0 7) Tryz.underE Tryz.infoE ?_
                  | refine wpList_loadN rfl 41 (.tmp 9) rfl w18.heap.size 0 rfl [b0, b1, b2, b3, b4, b5, b6] _ (hBb23.range 0 7) Tryz.underE Tryz.infoE ?_
                  | (refine wpList_storeN rfl 41 (.tmp 4) (.tmp 35) rfl w.heap.size 0 [.int .i64 op, .string (bs x.text), .string ⟨#[]⟩, .int .i64 t, .complex .f64 0 0, .slice (some ⟨w22.heap.size, 0, none⟩) 2 2, .int .i64 (I.M k).at_] rfl rfl (hBr23.alloc _) (Nat.le_refl 7) Tryz.infoE (one7 _ _ _ _ _ _ _ _ _ _) ?_; intro wz hBz hoz))
                have hltzr := hBr23.lt
                have hltzm := hBm23.lt
                have hltza := hBa23.lt
                have hltzb := hBb23.lt
                have hUz := hoz.but (hU23.then (below_alloc w22 _)) (Nat.le_refl _)
                have hrz := (h22.up (below_alloc w22 _)).oth hoz (by omega) (by omega)
                have hza := ((hxa23.up (below_alloc w22 _)).oth hoz (by omega)).mono (B' := w.heap.size) (by omega)
                have hzb := ((hxb23.up (below_alloc w22 _)).oth hoz (by omega)).mono (B' := w.heap.size) (by omega)
                have hkz := (Bk.new w22 41 #[a0, a1, a2, a3, a4, a5, a6, b0, b1, b2, b3, b4, b5, b6]).oth hoz (by omega)
                obtain ⟨q0, q1, q2, q3, q4, q5, q6⟩ := Bk.seven (show Bk wz w.heap.size _ [_, _, _, _, _, _, _] from hBz)
                refine bodyPost_ret (v := .agg #[.int .i64 op, .string (bs x.text), .string ⟨#[]⟩, .int .i64 t, .complex .f64 0 0, .slice (some ⟨w22.heap.size, 0, none⟩) 2 2, .int .i64 (I.M k).at_]) (by simp [results, Tryz.results75, go_sem, q0, q1, q2, q3, q4, q5, q6]) rfl (ans_ok HR hUz ⟨_, rfl, exv_mk (elv2 (hU23.size) hkz hza hzb) rfl⟩ hrz)

set_option maxHeartbeats 4000000 in
theorem choice_step (I : Rdi) (hE : Ends I.M I.n) (f : Nat) (ih : AllN I f) (w : World) (R k d : Nat) (h : Rdr I w R k d) (hkn : k + 1 < I.n) (hne : ifP I.M (lmOf I) (f + 1) d k ≠ .out) :
    Calls Tryz.prog 76 #[.pointer (some ⟨R, 0, none⟩)] w fun e w' => Ans I R d w (exV w.heap.size) (ifP I.M (lmOf I) (f + 1) d k) e w' := by
  obtain ⟨r, hr⟩ : ∃ r, r = ifP I.M (lmOf I) (f + 1) d k := ⟨_, rfl⟩
  rw [← hr] at hne ⊢
  rw [ifP] at hr
  have HR : Hid (r = _) := hr
  clear hr
  have hB0 := Bk.new w 41 ez
  have hlt := h.lt
  go_enter Tryz.func76, Tryz.ntmps76
  have hb0 := below_alloc w (.cells ez 41)
  have h1 := h.up hb0
  have hU1 := bel_but hb0 R
  have hw0 : (w.alloc (.cells ez 41)).heap.size = w.heap.size + 1 := by simp
  go_wp2_with fail
  have hc2 := hU1.size
  refine (take_any I _ R k d h1 hkn).mono ?_
  rintro e w2 ⟨rfl, h2, hV2⟩
  have hU3 := hU1.trans hV2
  have hBr3 := hB0.but hV2 (by omega)
  have hL4 := Bk.new w2 85 mz
  go_wp2_with (refine wpList_storeN rfl 85 (.tmp 3) (.tmp 8) rfl w2.heap.size 0 (mkC (I.M k)) rfl rfl hL4 (Nat.le_refl 4) Tryz.infoM (mkC_one _) ?_; intro w4 hM4 ho4)
  have hb4 := (below_alloc w2 (.cells mz 85)).trans (ho4.below (Nat.le_refl _))
  have hm4 : Bk w4 w2.heap.size 85 (mkC (I.M k)) := hM4
  have hltr4 := hBr3.lt
  have hsz4 := hU3.size
  have h5 := h2.up hb4
  have hU5 := hU3.then hb4
  have hBr5 := hBr3.up hb4
  clear hM4 hL4 ho4 hb4
  go_wp2_with fail
  have hn6 : exprP I.M (lmOf I) f d (k + 1) ≠ .out := bind_ne HR hne
  have hc6 := hU5.size
  have hcr6 := hBr5.lt
  refine (ih.expr w4 R (k + 1) d h5 (bind_ne HR hne)).mono ?_
  rintro e w6 ⟨hV6, ha⟩
  cases hq6 : exprP I.M (lmOf I) f d (k + 1) with
  | out => exact absurd hq6 hn6
  | bad y j =>
    rw [hq6] at ha
    rw [show e = _ from ha]
    have HR := bind_bad HR hq6
    clear ha hq6
    unfold gaveUp
    go_wp2
    exact ⟨rfl, ans_bad HR (hU5.trans hV6) rfl⟩
  | ok a k6 =>
    rw [hq6] at ha
    obtain ⟨⟨v, rfl, vs, rfl, hxa⟩, h6⟩ := ha
    obtain ⟨a0, a1, a2, a3, a4, a5, a6, rfl⟩ := list7 hxa.len
    have HR := bind_ok HR hq6
    clear hq6 hn6
    have hU7 := hU5.trans hV6
    have hBr7 := hBr5.but hV6 (by omega)
    have hBm7 := hm4.but hV6 (by omega)
    have hL8 := Bk.new w6 41 ez
    go_wp2_with (refine wpList_storeN rfl 41 (.tmp 4) (.tmp 10) rfl w6.heap.size 0 [a0, a1, a2, a3, a4, a5, a6] rfl rfl hL8 (Nat.le_refl 7) Tryz.infoE hxa.one ?_; intro w8 hM8 ho8)
    have hb8 := (below_alloc w6 (.cells ez 41)).trans (ho8.below (Nat.le_refl _))
    have hm8 : Bk w8 w6.heap.size 41 [a0, a1, a2, a3, a4, a5, a6] := hM8
    have hltr8 := hBr7.lt
    have hltm8 := hBm7.lt
    have hsz8 := hU7.size
    have h9 := h6.up hb8
    have hU9 := hU7.then hb8
    have hBr9 := hBr7.up hb8
    have hBm9 := hBm7.up hb8
    have hxa9 := hxa.up hb8
    clear hM8 hL8 ho8 hb8
    go_wp2_with fail
    have hn10 : mustP I.M tThen k6 ≠ .out := must_ne _ _ _
    have hc10 := hU9.size
    have hcr10 := hBr9.lt
    refine (must_any I hE tThen (by decide) w8 R k6 d h9).mono ?_
    rintro e w10 ⟨hV10, ha⟩
    cases hq10 : mustP I.M tThen k6 with
    | out => exact absurd hq10 hn10
    | bad y j =>
      rw [hq10] at ha
      rw [show e = _ from ha]
      have HR := bind_bad HR hq10
      clear ha hq10
      unfold gaveUp
      go_wp2
      exact ⟨rfl, ans_bad HR (hU9.trans hV10) rfl⟩
    | ok _ k10 =>
      rw [hq10] at ha
      obtain ⟨⟨v, rfl, hv⟩, h10⟩ := ha
      have HR := bind_ok HR hq10
      clear hq10 hn10
      subst hv
      have hU11 := hU9.trans hV10
      have hBr11 := hBr9.but hV10 (by omega)
      have hBm11 := hBm9.but hV10 (by omega)
      have hBa11 := hm8.but hV10 (by omega)
      have hxa11 := hxa9.but hV10 (by omega)
      go_wp2_with fail
      have hn12 : exprP I.M (lmOf I) f d k10 ≠ .out := bind_ne HR hne
      have hc12 := hU11.size
      have hcr12 := hBr11.lt
      refine (ih.expr w10 R k10 d h10 (bind_ne HR hne)).mono ?_
      rintro e w12 ⟨hV12, ha⟩
      cases hq12 : exprP I.M (lmOf I) f d k10 with
      | out => exact absurd hq12 hn12
      | bad y j =>
        rw [hq12] at ha
        rw [show e = _ from ha]
        have HR := bind_bad HR hq12
        clear ha hq12
        unfold gaveUp
        go_wp2
        exact ⟨rfl, ans_bad HR (hU11.trans hV12) rfl⟩
      | ok b k12 =>
        rw [hq12] at ha
        obtain ⟨⟨v, rfl, vs, rfl, hxb⟩, h12⟩ := ha
        obtain ⟨b0, b1, b2, b3, b4, b5, b6, rfl⟩ := list7 hxb.len
        have HR := bind_ok HR hq12
        clear hq12 hn12
        have hU13 := hU11.trans hV12
        have hBr13 := hBr11.but hV12 (by omega)
        have hBm13 := hBm11.but hV12 (by omega)
        have hBa13 := hBa11.but hV12 (by omega)
        have hxa13 := hxa11.but hV12 (by omega)
        have hL14 := Bk.new w12 41 ez
        go_wp2_with (refine wpList_storeN rfl 41 (.tmp 5) (.tmp 14) rfl w12.heap.size 0 [b0, b1, b2, b3, b4, b5, b6] rfl rfl hL14 (Nat.le_refl 7) Tryz.infoE hxb.one ?_; intro w14 hM14 ho14)
        have hb14 := (below_alloc w12 (.cells ez 41)).trans (ho14.below (Nat.le_refl _))
        have hm14 : Bk w14 w12.heap.size 41 [b0, b1, b2, b3, b4, b5, b6] := hM14
        have hltr14 := hBr13.lt
        have hltm14 := hBm13.lt
        have hlta14 := hBa13.lt
        have hsz14 := hU13.size
        have h15 := h12.up hb14
        have hU15 := hU13.then hb14
        have hBr15 := hBr13.up hb14
        have hBm15 := hBm13.up hb14
        have hBa15 := hBa13.up hb14
        have hxa15 := hxa13.up hb14
        have hxb15 := hxb.up hb14
        clear hM14 hL14 ho14 hb14
        go_wp2_with fail
        have hn16 : mustP I.M tElse k12 ≠ .out := must_ne _ _ _
        have hc16 := hU15.size
        have hcr16 := hBr15.lt
        refine (must_any I hE tElse (by decide) w14 R k12 d h15).mono ?_
        rintro e w16 ⟨hV16, ha⟩
        cases hq16 : mustP I.M tElse k12 with
        | out => exact absurd hq16 hn16
        | bad y j =>
          rw [hq16] at ha
          rw [show e = _ from ha]
          have HR := bind_bad HR hq16
          clear ha hq16
          unfold gaveUp
          go_wp2
          exact ⟨rfl, ans_bad HR (hU15.trans hV16) rfl⟩
        | ok _ k16 =>
          rw [hq16] at ha
          obtain ⟨⟨v, rfl, hv⟩, h16⟩ := ha
          have HR := bind_ok HR hq16
          clear hq16 hn16
          subst hv
          have hU17 := hU15.trans hV16
          have hBr17 := hBr15.but hV16 (by omega)
          have hBm17 := hBm15.but hV16 (by omega)
          have hBa17 := hBa15.but hV16 (by omega)
          have hBb17 := hm14.but hV16 (by omega)
          have hxa17 := hxa15.but hV16 (by omega)
          have hxb17 := hxb15.but hV16 (by omega)
          go_wp2_with fail
          have hn18 : exprP I.M (lmOf I) f d k16 ≠ .out := bind_ne HR hne
          have hc18 := hU17.size
          have hcr18 := hBr17.lt
          refine (ih.expr w16 R k16 d h16 (bind_ne HR hne)).mono ?_
          rintro e w18 ⟨hV18, ha⟩
          cases hq18 : exprP I.M (lmOf I) f d k16 with
          | out => exact absurd hq18 hn18
          | bad y j =>
            rw [hq18] at ha
            rw [show e = _ from ha]
            have HR := bind_bad HR hq18
            clear ha hq18
            unfold gaveUp
            go_wp2
            exact ⟨rfl, ans_bad HR (hU17.trans hV18) rfl⟩
          | ok c k18 =>
            rw [hq18] at ha
            obtain ⟨⟨v, rfl, vs, rfl, hxc⟩, h18⟩ := ha
            obtain ⟨c0, c1, c2, c3, c4, c5, c6, rfl⟩ := list7 hxc.len
            have HR := bind_ok HR hq18
            clear hq18 hn18
            have hU19 := hU17.trans hV18
            have hBr19 := hBr17.but hV18 (by omega)
            have hBm19 := hBm17.but hV18 (by omega)
            have hBa19 := hBa17.but hV18 (by omega)
            have hBb19 := hBb17.but hV18 (by omega)
            have hxa19 := hxa17.but hV18 (by omega)
            have hxb19 := hxb17.but hV18 (by omega)
            have hL20 := Bk.new w18 41 ez
            go_wp2_with (first
              | (refine wpList_storeN rfl 41 (.tmp 6) (.tmp 18) rfl w18.heap.size 0 [c0, c1, c2, c3, c4, c5, c6] rfl rfl hL20 (Nat.le_refl 7) Tryz.infoE hxc.one ?_; intro w20 hM20 ho20; have hb20 := (below_alloc w18 (.cells ez 41)).trans (ho20.below (Nat.le_refl _)); have hm20 : Bk w20 w18.heap.size 41 [c0, c1, c2, c3, c4, c5, c6] := hM20; have hltr20 := hBr19.lt; have hltm20 := hBm19.lt; have hlta20 := hBa19.lt; have hltb20 := hBb19.lt; have hsz20 := hU19.size; have h21 := h18.up hb20; have hU21 := hU19.then hb20; have hBr21 := hBr19.up hb20; have hBm21 := hBm19.up hb20; have hBa21 := hBa19.up hb20; have hBb21 := hBb19.up hb20; have hxa21 := hxa19.up hb20; have hxb21 := hxb19.up hb20; have hxc21 := hxc.up hb20; have hW3 : ∀ o, (w20.alloc o).cell? ⟨w2.heap.size, 3, none⟩ = some (.int .i64 (I.M k).at_) := fun o => (hBm21.alloc o).cell 3)
              | refine wpList_loadN rfl 41 (.tmp 4) rfl w6.heap.size 0 rfl [a0, a1, a2, a3, a4, a5, a6] _ (hBa21.range 0 7) Tryz.underE Tryz.infoE ?_
              | refine wpList_loadN rfl 41 (.tmp 5) rfl w12.heap.size 0 rfl [b0, b1, b2, b3, b4, b5, b6] _ (hBb21.range 0 7) Tryz.underE Tryz.infoE ?_
              | refine wpList_loadN rfl 41 (.tmp 6) rfl w18.heap.size 0 rfl [c0, c1, c2, c3, c4, c5, c6] _ (hm20.range 0 7) Tryz.underE Tryz.infoE ?_
              | (refine wpList_storeN rfl 41 (.tmp 2) (.tmp 25) rfl w.heap.size 0 [.int .i64 19, .string ⟨#[]⟩, .string ⟨#[]⟩, .int .i64 0, .complex .f64 0 0, .slice (some ⟨w20.heap.size, 0, none⟩) 3 3, .int .i64 (I.M k).at_] rfl rfl (hBr21.alloc _) (Nat.le_refl 7) Tryz.infoE (one7 _ _ _ _ _ _ _ _ _ _) ?_; intro wz hBz hoz))
            have hltzr := hBr21.lt
            have hltzm := hBm21.lt
            have hltza := hBa21.lt
            have hltzb := hBb21.lt
            have hltzc := hm20.lt
            have hUz := hoz.but (hU21.then (below_alloc w20 _)) (Nat.le_refl _)
            have hrz := (h21.up (below_alloc w20 _)).oth hoz (by omega) (by omega)
            have hza := ((hxa21.up (below_alloc w20 _)).oth hoz (by omega)).mono (B' := w.heap.size) (by omega)
            have hzb := ((hxb21.up (below_alloc w20 _)).oth hoz (by omega)).mono (B' := w.heap.size) (by omega)
            have hzc := ((hxc21.up (below_alloc w20 _)).oth hoz (by omega)).mono (B' := w.heap.size) (by omega)
            have hkz := (Bk.new w20 41 #[a0, a1, a2, a3, a4, a5, a6, b0, b1, b2, b3, b4, b5, b6, c0, c1, c2, c3, c4, c5, c6]).oth hoz (by omega)
            obtain ⟨q0, q1, q2, q3, q4, q5, q6⟩ := Bk.seven (show Bk wz w.heap.size _ [_, _, _, _, _, _, _] from hBz)
            refine bodyPost_ret (v := .agg #[.int .i64 19, .string ⟨#[]⟩, .string ⟨#[]⟩, .int .i64 0, .complex .f64 0 0, .slice (some ⟨w20.heap.size, 0, none⟩) 3 3, .int .i64 (I.M k).at_]) (by simp [results, Tryz.results76, go_sem, q0, q1, q2, q3, q4, q5, q6]) rfl (ans_ok HR hUz ⟨_, rfl, exv_mk (elv3 (hU21.size) hkz hza hzb hzc) rfl⟩ hrz)

set_option maxHeartbeats 4000000 in
theorem look_step (I : Rdi) (hE : Ends I.M I.n) (f : Nat) (ih : AllN I f) (w : World) (R k d : Nat) (h : Rdr I w R k d) (hkn : k + 1 < I.n) (hne : caseP I.M (lmOf I) (f + 1) d k ≠ .out) :
    Calls Tryz.prog 77 #[.pointer (some ⟨R, 0, none⟩)] w fun e w' => Ans I R d w (exV w.heap.size) (caseP I.M (lmOf I) (f + 1) d k) e w' := by
  obtain ⟨r, hr⟩ : ∃ r, r = caseP I.M (lmOf I) (f + 1) d k := ⟨_, rfl⟩
  rw [← hr] at hne ⊢
  rw [caseP] at hr
  change r = if I.ln ≤ (d : Int) then _ else _ at hr
  by_cases hln : I.ln ≤ (d : Int)
  · rw [if_pos hln] at hr
    have HR : Hid (r = _) := hr
    clear hr
    have h1 := h.up (below_alloc w (.cells ez 41))
    go_enter Tryz.func77, Tryz.ntmps77
    go_wp2_with fail
    refine (enter_no I _ R k d h1 hln).mono ?_
    rintro e w1 ⟨rfl, hV⟩
    unfold gaveUp
    go_wp2
    exact ⟨rfl, ans_bad HR ((bel_but (below_alloc w (.cells ez 41)) R).trans hV) rfl⟩
  · rw [if_neg hln] at hr
    have HR : Hid (r = _) := hr
    clear hr
    have hB0 := Bk.new w 41 ez
    have hlt := h.lt
    go_enter Tryz.func77, Tryz.ntmps77
    have hb0 := below_alloc w (.cells ez 41)
    have h1 := h.up hb0
    have hU1 := bel_but hb0 R
    have hw0 : (w.alloc (.cells ez 41)).heap.size = w.heap.size + 1 := by simp
    go_wp2_with fail
    have hc2 := hU1.size
    refine (enter_yes I _ R k d h1 (by omega) hkn).mono ?_
    rintro e w2 ⟨rfl, h2, hV2⟩
    have hU3 := hU1.trans hV2
    have hBr3 := hB0.but hV2 (by omega)
    have hL4 := Bk.new w2 85 mz
    go_wp2_with (refine wpList_storeN rfl 85 (.tmp 3) (.tmp 10) rfl w2.heap.size 0 (mkC (I.M k)) rfl rfl hL4 (Nat.le_refl 4) Tryz.infoM (mkC_one _) ?_; intro w4 hM4 ho4)
    have hb4 := (below_alloc w2 (.cells mz 85)).trans (ho4.below (Nat.le_refl _))
    have hm4 : Bk w4 w2.heap.size 85 (mkC (I.M k)) := hM4
    have hltr4 := hBr3.lt
    have hsz4 := hU3.size
    have h5 := h2.up hb4
    have hU5 := hU3.then hb4
    have hBr5 := hBr3.up hb4
    clear hM4 hL4 ho4 hb4
    go_wp2_with fail
    have hn6 : exprP I.M (lmOf I) f (d + 1) (k + 1) ≠ .out := bind_ne HR hne
    have hc6 := hU5.size
    have hcr6 := hBr5.lt
    refine (ih.expr w4 R (k + 1) (d + 1) h5 (bind_ne HR hne)).mono ?_
    rintro e w6 ⟨hV6, ha⟩
    cases hq6 : exprP I.M (lmOf I) f (d + 1) (k + 1) with
    | out => exact absurd hq6 hn6
    | bad y j =>
      rw [hq6] at ha
      rw [show e = _ from ha]
      have HR := bind_bad HR hq6
      clear ha hq6
      unfold gaveUp
      go_wp2
      exact ⟨rfl, ans_bad HR (hU5.trans hV6) rfl⟩
    | ok a k6 =>
      rw [hq6] at ha
      obtain ⟨⟨v, rfl, vs, rfl, hxa⟩, h6⟩ := ha
      obtain ⟨a0, a1, a2, a3, a4, a5, a6, rfl⟩ := list7 hxa.len
      have HR := bind_ok HR hq6
      clear hq6 hn6
      have hU7 := hU5.trans hV6
      have hBr7 := hBr5.but hV6 (by omega)
      have hBm7 := hm4.but hV6 (by omega)
      have hL8 := Bk.new w6 41 ez
      go_wp2_with (refine wpList_storeN rfl 41 (.tmp 4) (.tmp 12) rfl w6.heap.size 0 [a0, a1, a2, a3, a4, a5, a6] rfl rfl hL8 (Nat.le_refl 7) Tryz.infoE hxa.one ?_; intro w8 hM8 ho8)
      have hb8 := (below_alloc w6 (.cells ez 41)).trans (ho8.below (Nat.le_refl _))
      have hm8 : Bk w8 w6.heap.size 41 [a0, a1, a2, a3, a4, a5, a6] := hM8
      have hltr8 := hBr7.lt
      have hltm8 := hBm7.lt
      have hsz8 := hU7.size
      have h9 := h6.up hb8
      have hU9 := hU7.then hb8
      have hBr9 := hBr7.up hb8
      have hBm9 := hBm7.up hb8
      have hxa9 := hxa.up hb8
      clear hM8 hL8 ho8 hb8
      go_wp2_with fail
      have hn10 : mustP I.M tOf k6 ≠ .out := must_ne _ _ _
      have hc10 := hU9.size
      have hcr10 := hBr9.lt
      refine (must_any I hE tOf (by decide) w8 R k6 (d + 1) h9).mono ?_
      rintro e w10 ⟨hV10, ha⟩
      cases hq10 : mustP I.M tOf k6 with
      | out => exact absurd hq10 hn10
      | bad y j =>
        rw [hq10] at ha
        rw [show e = _ from ha]
        have HR := bind_bad HR hq10
        clear ha hq10
        unfold gaveUp
        go_wp2
        exact ⟨rfl, ans_bad HR (hU9.trans hV10) rfl⟩
      | ok _ k10 =>
        rw [hq10] at ha
        obtain ⟨⟨v, rfl, hv⟩, h10⟩ := ha
        have HR := bind_ok HR hq10
        clear hq10 hn10
        subst hv
        have hU11 := hU9.trans hV10
        have hBr11 := hBr9.but hV10 (by omega)
        have hBm11 := hBm9.but hV10 (by omega)
        have hBa11 := hm8.but hV10 (by omega)
        have hxa11 := hxa9.but hV10 (by omega)
        go_wp2_with fail
        have hn12 : mustP I.M tNil k10 ≠ .out := must_ne _ _ _
        have hc12 := hU11.size
        have hcr12 := hBr11.lt
        refine (must_any I hE tNil (by decide) w10 R k10 (d + 1) h10).mono ?_
        rintro e w12 ⟨hV12, ha⟩
        cases hq12 : mustP I.M tNil k10 with
        | out => exact absurd hq12 hn12
        | bad y j =>
          rw [hq12] at ha
          rw [show e = _ from ha]
          have HR := bind_bad HR hq12
          clear ha hq12
          unfold gaveUp
          go_wp2
          exact ⟨rfl, ans_bad HR (hU11.trans hV12) rfl⟩
        | ok _ k12 =>
          rw [hq12] at ha
          obtain ⟨⟨v, rfl, hv⟩, h12⟩ := ha
          have HR := bind_ok HR hq12
          clear hq12 hn12
          subst hv
          have hU13 := hU11.trans hV12
          have hBr13 := hBr11.but hV12 (by omega)
          have hBm13 := hBm11.but hV12 (by omega)
          have hBa13 := hBa11.but hV12 (by omega)
          have hxa13 := hxa11.but hV12 (by omega)
          go_wp2_with fail
          have hn14 : mustP I.M tArr k12 ≠ .out := must_ne _ _ _
          have hc14 := hU13.size
          have hcr14 := hBr13.lt
          refine (must_any I hE tArr (by decide) w12 R k12 (d + 1) h12).mono ?_
          rintro e w14 ⟨hV14, ha⟩
          cases hq14 : mustP I.M tArr k12 with
          | out => exact absurd hq14 hn14
          | bad y j =>
            rw [hq14] at ha
            rw [show e = _ from ha]
            have HR := bind_bad HR hq14
            clear ha hq14
            unfold gaveUp
            go_wp2
            exact ⟨rfl, ans_bad HR (hU13.trans hV14) rfl⟩
          | ok _ k14 =>
            rw [hq14] at ha
            obtain ⟨⟨v, rfl, hv⟩, h14⟩ := ha
            have HR := bind_ok HR hq14
            clear hq14 hn14
            subst hv
            have hU15 := hU13.trans hV14
            have hBr15 := hBr13.but hV14 (by omega)
            have hBm15 := hBm13.but hV14 (by omega)
            have hBa15 := hBa13.but hV14 (by omega)
            have hxa15 := hxa13.but hV14 (by omega)
            go_wp2_with fail
            have hn16 : exprP I.M (lmOf I) f (d + 1) k14 ≠ .out := bind_ne HR hne
            have hc16 := hU15.size
            have hcr16 := hBr15.lt
            refine (ih.expr w14 R k14 (d + 1) h14 (bind_ne HR hne)).mono ?_
            rintro e w16 ⟨hV16, ha⟩
            cases hq16 : exprP I.M (lmOf I) f (d + 1) k14 with
            | out => exact absurd hq16 hn16
            | bad y j =>
              rw [hq16] at ha
              rw [show e = _ from ha]
              have HR := bind_bad HR hq16
              clear ha hq16
              unfold gaveUp
              go_wp2
              exact ⟨rfl, ans_bad HR (hU15.trans hV16) rfl⟩
            | ok b k16 =>
              rw [hq16] at ha
              obtain ⟨⟨v, rfl, vs, rfl, hxb⟩, h16⟩ := ha
              obtain ⟨b0, b1, b2, b3, b4, b5, b6, rfl⟩ := list7 hxb.len
              have HR := bind_ok HR hq16
              clear hq16 hn16
              have hU17 := hU15.trans hV16
              have hBr17 := hBr15.but hV16 (by omega)
              have hBm17 := hBm15.but hV16 (by omega)
              have hBa17 := hBa15.but hV16 (by omega)
              have hxa17 := hxa15.but hV16 (by omega)
              have hL18 := Bk.new w16 41 ez
              go_wp2_with (refine wpList_storeN rfl 41 (.tmp 5) (.tmp 20) rfl w16.heap.size 0 [b0, b1, b2, b3, b4, b5, b6] rfl rfl hL18 (Nat.le_refl 7) Tryz.infoE hxb.one ?_; intro w18 hM18 ho18)
              have hb18 := (below_alloc w16 (.cells ez 41)).trans (ho18.below (Nat.le_refl _))
              have hm18 : Bk w18 w16.heap.size 41 [b0, b1, b2, b3, b4, b5, b6] := hM18
              have hltr18 := hBr17.lt
              have hltm18 := hBm17.lt
              have hlta18 := hBa17.lt
              have hsz18 := hU17.size
              have h19 := h16.up hb18
              have hU19 := hU17.then hb18
              have hBr19 := hBr17.up hb18
              have hBm19 := hBm17.up hb18
              have hBa19 := hBa17.up hb18
              have hxa19 := hxa17.up hb18
              have hxb19 := hxb.up hb18
              clear hM18 hL18 ho18 hb18
              go_wp2_with fail
              have hn20 : mustP I.M [124] k16 ≠ .out := must_ne _ _ _
              have hc20 := hU19.size
              have hcr20 := hBr19.lt
              refine (must_any I hE [124] (by decide) w18 R k16 (d + 1) h19).mono ?_
              rintro e w20 ⟨hV20, ha⟩
              cases hq20 : mustP I.M [124] k16 with
              | out => exact absurd hq20 hn20
              | bad y j =>
                rw [hq20] at ha
                rw [show e = _ from ha]
                have HR := bind_bad HR hq20
                clear ha hq20
                unfold gaveUp
                go_wp2
                exact ⟨rfl, ans_bad HR (hU19.trans hV20) rfl⟩
              | ok _ k20 =>
                rw [hq20] at ha
                obtain ⟨⟨v, rfl, hv⟩, h20⟩ := ha
                have HR := bind_ok HR hq20
                clear hq20 hn20
                subst hv
                have hU21 := hU19.trans hV20
                have hBr21 := hBr19.but hV20 (by omega)
                have hBm21 := hBm19.but hV20 (by omega)
                have hBa21 := hBa19.but hV20 (by omega)
                have hBb21 := hm18.but hV20 (by omega)
                have hxa21 := hxa19.but hV20 (by omega)
                have hxb21 := hxb19.but hV20 (by omega)
                go_wp2_with fail
                have hn22 : nameP I.M k20 ≠ .out := name_ne _ _
                have hc22 := hU21.size
                have hcr22 := hBr21.lt
                refine (name_any I hE w20 R k20 (d + 1) h20).mono ?_
                rintro e w22 ⟨hV22, ha⟩
                cases hq22 : nameP I.M k20 with
                | out => exact absurd hq22 hn22
                | bad y j =>
                  rw [hq22] at ha
                  rw [show e = _ from ha]
                  have HR := bind_bad HR hq22
                  clear ha hq22
                  unfold gaveUp
                  go_wp2
                  exact ⟨rfl, ans_bad HR (hU21.trans hV22) rfl⟩
                | ok x k22 =>
                  rw [hq22] at ha
                  obtain ⟨⟨v, rfl, hv⟩, h22⟩ := ha
                  have HR := bind_ok HR hq22
                  clear hq22 hn22
                  obtain rfl : v = mkV x := hv
                  unfold mkV
                  have hfx := fun W => (fldM x W).2.1
                  have hU23 := hU21.trans hV22
                  have hBr23 := hBr21.but hV22 (by omega)
                  have hBm23 := hBm21.but hV22 (by omega)
                  have hBa23 := hBa21.but hV22 (by omega)
                  have hBb23 := hBb21.but hV22 (by omega)
                  have hxa23 := hxa21.but hV22 (by omega)
                  have hxb23 := hxb21.but hV22 (by omega)
                  go_wp2_with fail
                  have hn24 : mustP I.M [58] k22 ≠ .out := must_ne _ _ _
                  have hc24 := hU23.size
                  have hcr24 := hBr23.lt
                  refine (must_any I hE [58] (by decide) w22 R k22 (d + 1) h22).mono ?_
                  rintro e w24 ⟨hV24, ha⟩
                  cases hq24 : mustP I.M [58] k22 with
                  | out => exact absurd hq24 hn24
                  | bad y j =>
                    rw [hq24] at ha
                    rw [show e = _ from ha]
                    have HR := bind_bad HR hq24
                    clear ha hq24
                    unfold gaveUp
                    go_wp2
                    exact ⟨rfl, ans_bad HR (hU23.trans hV24) rfl⟩
                  | ok _ k24 =>
                    rw [hq24] at ha
                    obtain ⟨⟨v, rfl, hv⟩, h24⟩ := ha
                    have HR := bind_ok HR hq24
                    clear hq24 hn24
                    subst hv
                    have hU25 := hU23.trans hV24
                    have hBr25 := hBr23.but hV24 (by omega)
                    have hBm25 := hBm23.but hV24 (by omega)
                    have hBa25 := hBa23.but hV24 (by omega)
                    have hBb25 := hBb23.but hV24 (by omega)
                    have hxa25 := hxa23.but hV24 (by omega)
                    have hxb25 := hxb23.but hV24 (by omega)
                    go_wp2_with fail
                    have hn26 : nameP I.M k24 ≠ .out := name_ne _ _
                    have hc26 := hU25.size
                    have hcr26 := hBr25.lt
                    refine (name_any I hE w24 R k24 (d + 1) h24).mono ?_
                    rintro e w26 ⟨hV26, ha⟩
                    cases hq26 : nameP I.M k24 with
                    | out => exact absurd hq26 hn26
                    | bad y j =>
                      rw [hq26] at ha
                      rw [show e = _ from ha]
                      have HR := bind_bad HR hq26
                      clear ha hq26
                      unfold gaveUp
                      go_wp2
                      exact ⟨rfl, ans_bad HR (hU25.trans hV26) rfl⟩
                    | ok y k26 =>
                      rw [hq26] at ha
                      obtain ⟨⟨v, rfl, hv⟩, h26⟩ := ha
                      have HR := bind_ok HR hq26
                      clear hq26 hn26
                      obtain rfl : v = mkV y := hv
                      unfold mkV
                      have hfy := fun W => (fldM y W).2.1
                      have hU27 := hU25.trans hV26
                      have hBr27 := hBr25.but hV26 (by omega)
                      have hBm27 := hBm25.but hV26 (by omega)
                      have hBa27 := hBa25.but hV26 (by omega)
                      have hBb27 := hBb25.but hV26 (by omega)
                      have hxa27 := hxa25.but hV26 (by omega)
                      have hxb27 := hxb25.but hV26 (by omega)
                      go_wp2_with fail
                      have hn28 : mustP I.M tArr k26 ≠ .out := must_ne _ _ _
                      have hc28 := hU27.size
                      have hcr28 := hBr27.lt
                      refine (must_any I hE tArr (by decide) w26 R k26 (d + 1) h26).mono ?_
                      rintro e w28 ⟨hV28, ha⟩
                      cases hq28 : mustP I.M tArr k26 with
                      | out => exact absurd hq28 hn28
                      | bad y j =>
                        rw [hq28] at ha
                        rw [show e = _ from ha]
                        have HR := bind_bad HR hq28
                        clear ha hq28
                        unfold gaveUp
                        go_wp2
                        exact ⟨rfl, ans_bad HR (hU27.trans hV28) rfl⟩
                      | ok _ k28 =>
                        rw [hq28] at ha
                        obtain ⟨⟨v, rfl, hv⟩, h28⟩ := ha
                        have HR := bind_ok HR hq28
                        clear hq28 hn28
                        subst hv
                        have hU29 := hU27.trans hV28
                        have hBr29 := hBr27.but hV28 (by omega)
                        have hBm29 := hBm27.but hV28 (by omega)
                        have hBa29 := hBa27.but hV28 (by omega)
                        have hBb29 := hBb27.but hV28 (by omega)
                        have hxa29 := hxa27.but hV28 (by omega)
                        have hxb29 := hxb27.but hV28 (by omega)
                        go_wp2_with fail
                        have hn30 : exprP I.M (lmOf I) f (d + 1) k28 ≠ .out := bind_ne HR hne
                        have hc30 := hU29.size
                        have hcr30 := hBr29.lt
                        refine (ih.expr w28 R k28 (d + 1) h28 (bind_ne HR hne)).mono ?_
                        rintro e w30 ⟨hV30, ha⟩
                        cases hq30 : exprP I.M (lmOf I) f (d + 1) k28 with
                        | out => exact absurd hq30 hn30
                        | bad y j =>
                          rw [hq30] at ha
                          rw [show e = _ from ha]
                          have HR := bind_bad HR hq30
                          clear ha hq30
                          unfold gaveUp
                          go_wp2
                          exact ⟨rfl, ans_bad HR (hU29.trans hV30) rfl⟩
                        | ok c k30 =>
                          rw [hq30] at ha
                          obtain ⟨⟨v, rfl, vs, rfl, hxc⟩, h30⟩ := ha
                          obtain ⟨c0, c1, c2, c3, c4, c5, c6, rfl⟩ := list7 hxc.len
                          have HR := bind_ok HR hq30
                          clear hq30 hn30
                          have hU31 := hU29.trans hV30
                          have hBr31 := hBr29.but hV30 (by omega)
                          have hBm31 := hBm29.but hV30 (by omega)
                          have hBa31 := hBa29.but hV30 (by omega)
                          have hBb31 := hBb29.but hV30 (by omega)
                          have hxa31 := hxa29.but hV30 (by omega)
                          have hxb31 := hxb29.but hV30 (by omega)
                          have hL32 := Bk.new w30 41 ez
                          go_wp2_with (refine wpList_storeN rfl 41 (.tmp 8) (.tmp 34) rfl w30.heap.size 0 [c0, c1, c2, c3, c4, c5, c6] rfl rfl hL32 (Nat.le_refl 7) Tryz.infoE hxc.one ?_; intro w32 hM32 ho32)
                          have hb32 := (below_alloc w30 (.cells ez 41)).trans (ho32.below (Nat.le_refl _))
                          have hm32 : Bk w32 w30.heap.size 41 [c0, c1, c2, c3, c4, c5, c6] := hM32
                          have hltr32 := hBr31.lt
                          have hltm32 := hBm31.lt
                          have hlta32 := hBa31.lt
                          have hltb32 := hBb31.lt
                          have hsz32 := hU31.size
                          have h33 := h30.up hb32
                          have hU33 := hU31.then hb32
                          have hBr33 := hBr31.up hb32
                          have hBm33 := hBm31.up hb32
                          have hBa33 := hBa31.up hb32
                          have hBb33 := hBb31.up hb32
                          have hxa33 := hxa31.up hb32
                          have hxb33 := hxb31.up hb32
                          have hxc33 := hxc.up hb32
                          clear hM32 hL32 ho32 hb32
                          go_wp2_with fail
                          refine (leave_any I w32 R k30 d h33).mono ?_
                          rintro e w34 ⟨rfl, h34, hV34⟩
                          have hU35 := hU33.trans hV34
                          have hBr35 := hBr33.but hV34 (by omega)
                          have hBm35 := hBm33.but hV34 (by omega)
                          have hBa35 := hBa33.but hV34 (by omega)
                          have hBb35 := hBb33.but hV34 (by omega)
                          have hBc35 := hm32.but hV34 (by omega)
                          have hxa35 := hxa33.but hV34 (by omega)
                          have hxb35 := hxb33.but hV34 (by omega)
                          have hxc35 := hxc33.but hV34 (by omega)
                          have hW3 : ∀ o, (w34.alloc o).cell? ⟨w2.heap.size, 3, none⟩ = some (.int .i64 (I.M k).at_) := fun o => (hBm35.alloc o).cell 3
                          go_wp2_with (first
                            | refine wpList_loadN rfl 41 (.tmp 4) rfl w6.heap.size 0 rfl [a0, a1, a2, a3, a4, a5, a6] _ (hBa35.range 0 7) Tryz.underE Tryz.infoE ?_
                            | refine wpList_loadN rfl 41 (.tmp 5) rfl w16.heap.size 0 rfl [b0, b1, b2, b3, b4, b5, b6] _ (hBb35.range 0 7) Tryz.underE Tryz.infoE ?_
                            | refine wpList_loadN rfl 41 (.tmp 8) rfl w30.heap.size 0 rfl [c0, c1, c2, c3, c4, c5, c6] _ (hBc35.range 0 7) Tryz.underE Tryz.infoE ?_
                            | (refine wpList_storeN rfl 41 (.tmp 2) (.tmp 45) rfl w.heap.size 0 [.int .i64 20, .string (bs x.text), .string (bs y.text), .int .i64 0, .complex .f64 0 0, .slice (some ⟨w34.heap.size, 0, none⟩) 3 3, .int .i64 (I.M k).at_] rfl rfl (hBr35.alloc _) (Nat.le_refl 7) Tryz.infoE (one7 _ _ _ _ _ _ _ _ _ _) ?_; intro wz hBz hoz))
                          have hltzr := hBr35.lt
                          have hltzm := hBm35.lt
                          have hltza := hBa35.lt
                          have hltzb := hBb35.lt
                          have hltzc := hBc35.lt
                          have hUz := hoz.but (hU35.then (below_alloc w34 _)) (Nat.le_refl _)
                          have hrz := (h34.up (below_alloc w34 _)).oth hoz (by omega) (by omega)
                          have hza := ((hxa35.up (below_alloc w34 _)).oth hoz (by omega)).mono (B' := w.heap.size) (by omega)
                          have hzb := ((hxb35.up (below_alloc w34 _)).oth hoz (by omega)).mono (B' := w.heap.size) (by omega)
                          have hzc := ((hxc35.up (below_alloc w34 _)).oth hoz (by omega)).mono (B' := w.heap.size) (by omega)
                          have hkz := (Bk.new w34 41 #[a0, a1, a2, a3, a4, a5, a6, b0, b1, b2, b3, b4, b5, b6, c0, c1, c2, c3, c4, c5, c6]).oth hoz (by omega)
                          obtain ⟨q0, q1, q2, q3, q4, q5, q6⟩ := Bk.seven (show Bk wz w.heap.size _ [_, _, _, _, _, _, _] from hBz)
                          refine bodyPost_ret (v := .agg #[.int .i64 20, .string (bs x.text), .string (bs y.text), .int .i64 0, .complex .f64 0 0, .slice (some ⟨w34.heap.size, 0, none⟩) 3 3, .int .i64 (I.M k).at_]) (by simp [results, Tryz.results77, go_sem, q0, q1, q2, q3, q4, q5, q6]) rfl (ans_ok HR hUz ⟨_, rfl, exv_mk (elv3 (hU35.size) hkz hza hzb hzc) rfl⟩ hrz)

end Go.Proofs.YtndgglhppoijnaaGreatDoor
