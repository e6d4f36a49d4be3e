/-
  The walk of MarksFaults.
-/
import Derived.Test.YtknpdjbcemgenabDoorBp
import Derived.Deep.RegionHeld2
namespace Go.Proofs.YtknpdjbcemgenabDoor
open Go.RowKit
set_option maxRecDepth 100000

abbrev flt (x y : Int) : Obj := .cells #[.int .i64 x, .int .i64 y] 27

/-- The first marks of a slice. -/
theorem Mr.take {w : World} {ao : Option Addr} {ms : List Mk} (h : Mr w ao ms) (n : Nat) : Mr w ao (ms.take n) := by
  refine ⟨fun hn => ?_⟩
  have hne : ms ≠ [] := by intro e; subst e; simp at hn
  obtain ⟨b, off, e, hc⟩ := h.pl hne
  refine ⟨b, off, e, fun t ht => ?_⟩
  have ht2 : t < ms.length := by simp at ht; omega
  have ht3 : t < n := by simp at ht; omega
  have e2 : (ms.take n).getD t md = ms.getD t md := by simp [List.getD_eq_getElem?_getD, ht3]
  rw [e2]
  exact hc t ht2

theorem Mr.drew {w : World} {ao : Option Addr} {ms : List Mk} (h : Mr w ao ms) : Mr w.drew ao ms := h.up (Below.refl _ w).drew

theorem S2.up2 {w w' : World} {b : Nat} {x y : Value} (h : S2 w b x y) (hb : Below w.heap.size w w') : S2 w' b x y := h.to h.lt hb

theorem own_cap {w : World} {B : Nat} {ao : Option Addr} {n c : Nat} {xs : List Value} (h : w.ownsRow B 35 4 (.slice ao n c) n xs) : n ≤ c := by
  rcases h.2 with ⟨h', _⟩ | ⟨g', cap', cur, h', _, _, h4, _⟩
  · simp only [Value.slice.injEq] at h'; omega
  · simp only [Value.slice.injEq] at h'; omega

theorem run_slice_hi (b o len cap n : Nat) (h : n ≤ cap) (w : World) : (Instr.slice 24 (.slice (some ⟨b, o, none⟩) len cap) none (some (.int .i64 (n : Int))) none).run Tryd.prog w = .ok (.slice (some ⟨b, o, none⟩) n cap) w := by
  simp [Instr.slice, Instr.sliceBounds, Instr.sliceBound, asIntOf, h, run_underlying Tryd.underMs, go_sem]

theorem Bd.take {w : World} {ao : Option Addr} {l : List UInt8} (h : Bd w ao l) (n : Nat) : Bd w ao (l.take n) := by
  refine ⟨fun hn => ?_⟩
  have hne : l ≠ [] := by intro e; subst e; simp at hn
  obtain ⟨b, off, e, hc⟩ := h.pl hne
  refine ⟨b, off, e, fun t ht => ?_⟩
  have ht2 : t < l.length := by simp at ht; omega
  have ht3 : t < n := by simp at ht; omega
  have e2 : (l.take n).getD t 0 = l.getD t 0 := by simp [List.getD_eq_getElem?_getD, ht3]
  rw [e2]
  exact hc t ht2

set_option maxHeartbeats 8000000 in
theorem faults_any (a1 a2 : Option Addr) (c1 c2 : Nat) (l1 l2 : List UInt8) (hlen : l1.length + l2.length + 2 ≤ 1048576) (hc1 : l1.length ≤ c1) (_hc2 : l2.length ≤ c2) (hn1 : a1 = none → c1 = 0) (hn2 : a2 = none → c2 = 0) (w : World) (hG : Gl w) (hE : Env w) (h1 : Bd w a1 l1) (h2 : Bd w a2 l2) :
    Calls Tryd.prog 3 #[.slice a1 l1.length c1, .slice a2 l2.length c2] w fun e w' => e = .returned (.bool true) ∧ Below w.heap.size w w' := by
  go_enter Tryd.func3, Tryd.ntmps3
  go_wp2_with (go_at_call 4; refine (awake_any _ hG hE).mono ?_; rintro e w1 ⟨rfl, hB1⟩)
  refine (marks_val a1 c1 l1 (by omega) hc1 w1 (hG.up hB1) (env_keep hE hB1) (h1.up hB1)).mono ?_
  rintro e w2 ⟨go, g2, rfl, _, _, hb2⟩
  have hB2 := Below.thn hB1 hb2
  clear hb2 hB1
  cases hcut : cut rdN l1 0 with
  | ok ms =>
    have hpos : 0 < ms.length := List.length_pos_iff.2 (cut_ne rdN _ _ _ hcut)
    simp only [msC, fwC, faC]
    clear hcut h1 h2 hG hE
    go_wp2
    go_ret
    exact ⟨rfl, bal hB2⟩
  | bad k =>
    obtain ⟨_, hkl, msh, hhead⟩ := cut_bad_at rdN l1 0 k hcut
    rw [Nat.zero_add] at hkl
    rw [Nat.sub_zero] at hhead
    have hal : cut rdN (l1 ++ [10] ++ l2) 0 = .bad k := by
      have := cut_join rdN l2 l1 0
      rw [hcut] at this
      rw [List.append_assoc]
      exact this
    have ek : (l1.take k).length = k := by simp; omega
    have hhd : cut rdN (l1.take k ++ [10]) 0 = .ok (msh.dropLast ++ [endM (k + 1)]) := by
      have := cut_join rdN [] (l1.take k) 0
      rw [hhead, ek, Nat.zero_add] at this
      exact this
    have hhm : cut rdN (l1.take k ++ [10] ++ l2) 0 = (cut rdN l2 (k + 1)).pre msh.dropLast := by
      have := cut_join rdN l2 (l1.take k) 0
      rw [hhead, ek, Nat.zero_add] at this
      rw [List.append_assoc]
      exact this
    simp only [msC, fwC, faC]
    have hB3 := bal (o := flt 20 k) hB2
    have hf3 := S2.new w2 (.int .i64 20) (.int .i64 (k : Int))
    have es : (w2.alloc (flt 20 k)).heap.size = w2.heap.size + 1 := by simp
    obtain ⟨v4, w4, r4, o4, b4⟩ := own_app _ _ _ _ (Own.new (w2.alloc (flt 20 k))) (by simp) a1 c1 l1 ((h1.up hB3).up (below_alloc _ _)) hn1 (by simp) (by omega)
    rw [List.nil_append] at o4
    have q4 : Below (w2.alloc (flt 20 k)).heap.size (w2.alloc (flt 20 k)) w4 := (below_alloc _ _).trans b4
    have hB4 := Below.thn hB3 q4
    obtain ⟨v5, w5, r5, o5, b5⟩ := own_one w4 _ v4 l1 10 o4 q4.size (by omega)
    have q5 := q4.trans b5
    have hB5 := Below.thn hB3 q5
    obtain ⟨v6, w6, r6, o6, b6⟩ := own_app w5 _ v5 (l1 ++ [10]) o5 q5.size a2 c2 l2 (h2.up hB5) hn2 (by simp; omega) (by omega)
    have q6 := q5.trans b6
    have hB6 := Below.thn hB3 q6
    obtain ⟨T6, hT6⟩ : ∃ T, T = l1 ++ [10] ++ l2 := ⟨_, rfl⟩
    have hl6 : T6.length ≤ 1048576 := by rw [hT6]; simp; omega
    rw [← hT6] at o6 hal
    obtain ⟨a6, p6, hv6, hd6, hp6, _, _⟩ := o6.bd
    subst hv6
    have m6 := marks_val a6 p6 T6 hl6 hp6 w6 (hG.up hB6) (env_keep hE hB6) hd6
    rw [hal] at m6
    simp only [msC, fwC, faC] at m6
    have hf6 := hf3.to hf3.lt q6
    rw [es] at r4
    have R4 : Hid (_ = _) := r4
    have R5 : Hid (_ = _) := r5
    have R6 : Hid (_ = _) := r6
    clear r4 r5 r6 o4 o5 o6 b4 b5 b6 hd6 hcut hal q4 q5 hT6 hl6
    go_wp2_with (first
      | (at_builtin; refine wpList_append_run rfl (.tmp 43) (.tmp 44) 22 rfl rfl _ _ rfl rfl _ _ (show _ = _ from R4) ?_)
      | (at_builtin; refine wpList_append_run rfl (.tmp 45) (.tmp 46) 22 rfl rfl _ _ rfl rfl _ _ (show _ = _ from R5) ?_)
      | (at_builtin; refine wpList_append_run rfl (.tmp 47) (.tmp 48) 22 rfl rfl _ _ rfl rfl _ _ (show _ = _ from R6) ?_))
    refine m6.mono ?_
    rintro e w7 ⟨g7, p7, rfl, _, _, hb7⟩
    have hB7 := bal (o := flt 20 k) (Below.thn hB6 hb7)
    have q7 : Below w7.heap.size w7 (w7.alloc (flt 20 k)) := below_alloc _ _
    have hf7 := (hf6.to hf6.lt hb7).to (B := w7.heap.size) (by have := hb7.size; have := hf6.lt; omega) q7
    have hg7 := S2.new w7 (.int .i64 20) (.int .i64 (k : Int))
    have es7 : (w7.alloc (flt 20 k)).heap.size = w7.heap.size + 1 := by simp
    clear m6 hb7 hB6 hf6 R4 R5 R6 q6
    -- head = text up to the fault, 10
    obtain ⟨v8, w8, r8, o8, b8⟩ := own_app _ _ _ _ (Own.new (w7.alloc (flt 20 k))) (by simp) a1 c1 (l1.take k) (((h1.take k).up hB7).up (below_alloc _ _)) hn1 (by simp) (by omega)
    rw [List.nil_append] at o8
    rw [ek] at r8
    have q8 : Below (w7.alloc (flt 20 k)).heap.size (w7.alloc (flt 20 k)) w8 := (below_alloc _ _).trans b8
    obtain ⟨v9, w9, r9, o9, b9⟩ := own_one w8 _ v8 (l1.take k) 10 o8 q8.size (by omega)
    have q9 := q8.trans b9
    have hB9 := Below.thn hB7 q9
    obtain ⟨T9, hT9⟩ : ∃ T, T = l1.take k ++ [10] := ⟨_, rfl⟩
    have hl9 : T9.length + l2.length ≤ 1048576 := by rw [hT9, List.length_append, ek]; simp; omega
    rw [← hT9] at o9 hhd hhm
    obtain ⟨a9, p9, hv9, hd9, hp9, hz9, _⟩ := o9.bd
    subst hv9
    have m9 := marks_val a9 p9 T9 (by omega) hp9 w9 (hG.up hB9) (env_keep hE hB9) hd9
    rw [hhd] at m9
    simp only [msC, fwC, faC] at m9
    have hf9 := hf7.to hf7.lt q9
    have hg9 := hg7.to hg7.lt q9
    rw [es7] at r8
    have R8 : Hid (_ = _) := r8
    have R9 : Hid (_ = _) := r9
    obtain ⟨X, hX⟩ : ∃ X, X = msh.dropLast ++ [endM (k + 1)] := ⟨_, rfl⟩
    rw [← hX] at m9
    have HX : Hid (X = msh.dropLast ++ [endM (k + 1)]) := hX
    obtain ⟨f0, f1, _, _⟩ := (hf7.to hf7.lt (below_alloc _ (.cells #[] 5))).cells
    have hXne : X ≠ [] := by rw [hX]; simp
    have hXl : X.length ≤ 1048577 := by
      have := cut_few _ _ _ hhd
      rw [← hX] at this
      omega
    clear r8 r9 o8 b8 b9 hhd q8 hf7 hg7 hT9 hX
    go_wp2_with (first
      | (at_builtin; refine wpList_append_run rfl (.tmp 55) (.tmp 59) 22 rfl rfl _ _ rfl rfl _ _ (show _ = _ from R8) ?_)
      | (at_builtin; refine wpList_append_run rfl (.tmp 60) (.tmp 61) 22 rfl rfl _ _ rfl rfl _ _ (show _ = _ from R9) ?_))
    refine m9.mono ?_
    rintro e w10 ⟨g10, p10, rfl, ho10, hr10, hb10⟩
    have hB10 := bal (o := flt 0 0) (Below.thn hB9 hb10)
    have q10 : Below w10.heap.size w10 (w10.alloc (flt 0 0)) := below_alloc _ _
    have hf10 := (hf9.to hf9.lt hb10).up2 q10
    have hg10 := (hg9.to hg9.lt hb10).up2 q10
    have hh10 := S2.new w10 (.int .i64 0) (.int .i64 0)
    have hrX := hr10.up q10
    have es10 : (w10.alloc (flt 0 0)).heap.size = w10.heap.size + 1 := by simp
    have hd10 := (hd9.up hb10).up q10
    have hpX := own_cap ho10
    clear m9 hb10 hB9 hf9 hg9 R8 R9 q9 hr10 ho10 hd9
    obtain ⟨v11, w11, r11, o11, b11⟩ := own_app _ _ _ _ (Own.new (w10.alloc (flt 0 0))) (by simp) a9 p9 T9 (hd10.up (below_alloc _ _)) hz9 (by simp) (by omega)
    rw [List.nil_append] at o11
    have q11 : Below (w10.alloc (flt 0 0)).heap.size (w10.alloc (flt 0 0)) w11 := (below_alloc _ _).trans b11
    have hB11 := Below.thn hB10 q11
    obtain ⟨v12, w12, r12, o12, b12⟩ := own_app w11 _ v11 T9 o11 q11.size a2 c2 l2 (h2.up hB11) hn2 (by omega) (by omega)
    have q12 := q11.trans b12
    have hB12 := Below.thn hB10 q12
    obtain ⟨T12, hT12⟩ : ∃ T, T = T9 ++ l2 := ⟨_, rfl⟩
    have hl12 : T12.length ≤ 1048576 := by rw [hT12, List.length_append]; omega
    rw [← hT12] at o12 hhm
    obtain ⟨a12, p12, hv12, hd12, hp12, _, _⟩ := o12.bd
    subst hv12
    have m12 := marks_val a12 p12 T12 hl12 hp12 w12 (hG.up hB12) (env_keep hE hB12) hd12
    rw [hhm] at m12
    rw [es10] at r11
    have R11 : Hid (_ = _) := r11
    have R12 : Hid (_ = _) := r12
    have hf12 := hf10.up2 q12
    have hg12 := hg10.up2 q12
    have hh12 := hh10.up2 q12
    have hr12 := hrX.up q12
    clear r11 r12 o11 o12 b11 b12 hd10 hd12 q10 q11 hf10 hg10 hh10 hrX h1 h2 hT12 hl12 hp12
    go_wp2_with (first
      | (at_builtin; refine wpList_append_run rfl (.tmp 69) (.tmp 70) 22 rfl rfl _ _ rfl rfl _ _ (show _ = _ from R11) ?_)
      | (at_builtin; refine wpList_append_run rfl (.tmp 71) (.tmp 72) 22 rfl rfl _ _ rfl rfl _ _ (show _ = _ from R12) ?_))
    refine m12.mono ?_
    rintro e w13 ⟨g13, p13, rfl, ho13, hr13, hb13⟩
    have hB13 := Below.thn hB12 hb13
    have hf13 := hf12.up2 hb13
    have hg13 := hg12.up2 hb13
    have hh13 := hh12.up2 hb13
    have hr14 := hr12.up hb13
    clear m12 hb13 hB12 hf12 hg12 hh12 hr12 R11 R12 q12 hG hE
    cases h2c : cut rdN l2 (k + 1) with
    | bad j =>
      obtain ⟨hj, _, _⟩ := cut_bad_at rdN l2 (k + 1) j h2c
      have ej : (Cu.bad j).pre msh.dropLast = .bad j := rfl
      rw [h2c, ej] at hr13 ho13
      rw [ej]
      simp only [msC, fwC, faC]
      have hXp : 0 < X.length := List.length_pos_iff.2 hXne
      have q13 := below_alloc w13 (flt 20 j)
      obtain ⟨x0, x1, _, _⟩ := (hf13.up2 q13).cells
      obtain ⟨y0, y1, _, _⟩ := (hg13.up2 q13).cells
      obtain ⟨z0, z1, _, _⟩ := (hh13.up2 q13).cells
      go_wp2
      go_ret
      exact ⟨ret_bool (decide_eq_true (by omega)), bal hB13⟩
    | ok ys =>
      have ej : (Cu.ok ys).pre msh.dropLast = .ok (msh.dropLast ++ ys) := rfl
      rw [h2c, ej] at hr13 ho13
      rw [ej]
      simp only [msC, fwC, faC] at hr13 ho13 ⊢
      have hyne := cut_ne rdN _ _ _ h2c
      obtain ⟨Y, hY⟩ : ∃ Y, Y = msh.dropLast ++ ys := ⟨_, rfl⟩
      rw [← hY] at hr13 ho13 ⊢
      have hYne : Y ≠ [] := by rw [hY]; simp [hyne]
      have hYl : X.length ≤ Y.length := by
        have := List.length_pos_iff.2 hyne
        rw [hY, show X = _ from HX, List.length_append, List.length_append]
        simp; omega
      have hXp : 0 < X.length := List.length_pos_iff.2 hXne
      obtain ⟨n, hn⟩ : ∃ n, X.length = n + 1 := ⟨X.length - 1, by omega⟩
      have hXt : X.take n = msh.dropLast := by
        have e : n = msh.dropLast.length := by
          have := congrArg List.length (show X = _ from HX)
          rw [hn, List.length_append] at this
          simp at this ⊢
          omega
        rw [show X = _ from HX, e, List.take_left]
      have hYt : Y.take n = msh.dropLast := by
        have e : n = msh.dropLast.length := by
          have := congrArg List.length (show X = _ from HX)
          rw [hn, List.length_append] at this
          simp at this ⊢
          omega
        rw [hY, e, List.take_left]
      have hokD : ∀ m ∈ msh.dropLast, okN m := fun m hm => cut_okN _ _ _ hhead m (List.dropLast_subset _ hm)
      have hpY := own_cap ho13
      have q13 := below_alloc w13 (flt 0 0)
      have hrx := (hr14.up q13).take n
      have hry := (hr13.up q13).take n
      obtain ⟨gx, ox, rfl, _⟩ := hr14.pl hXne
      obtain ⟨gy, oy, rfl, _⟩ := hr13.pl hYne
      have hsm : ∀ W, Mr W (some ⟨gx, ox, none⟩) (X.take n) → Mr W (some ⟨gy, oy, none⟩) (Y.take n) → Calls Tryd.prog 6 #[.slice (some ⟨gx, ox, none⟩) n p10, .slice (some ⟨gy, oy, none⟩) n p13, .bool true] W fun e w' => e = .returned (.bool true) ∧ Below W.heap.size W w' := by
        intro W m1 m2
        have := same_any true (some ⟨gx, ox, none⟩) (some ⟨gy, oy, none⟩) p10 p13 (X.take n) (Y.take n) (by rw [hXt, hYt]) (by simp; omega) W m1 m2 (by rw [hXt, hYt]; exact fun t _ => eqM_refl _ _) (by rw [hYt]; exact okN_get hokD)
        rwa [show (X.take n).length = n by simp; omega, show (Y.take n).length = n by simp; omega] at this
      have HM1 : Hid (Mr (w13.alloc (flt 0 0)).drew (some ⟨gx, ox, none⟩) (X.take n)) := hrx.drew
      have HM2 : Hid (Mr (w13.alloc (flt 0 0)).drew (some ⟨gy, oy, none⟩) (Y.take n)) := hry.drew
      obtain ⟨x0, x1, _, _⟩ := (hf13.up2 q13).cells
      obtain ⟨y0, y1, _, _⟩ := (hg13.up2 q13).cells
      obtain ⟨z0, z1, _, _⟩ := (hh13.up2 q13).cells
      have hB14 := bal (o := flt 0 0) hB13
      have i1 : (0 : Int) ≤ (n : Int) := by omega
      have i2 : (n : Int) ≤ (p10 : Int) := by omega
      have i3 : (n : Int) ≤ (p13 : Int) := by omega
      have i4 : (n : Int) + 1 ≤ (Y.length : Int) := by omega
      have i5 : n ≤ p10 := by omega
      have i6 : n ≤ p13 := by omega
      have hw1 : IntKind.i64.wrap ((n : Int) + 1 - 1) = (n : Int) := by rw [IntKind.wrap_i64]; omega
      have hw2 : IntKind.i64.wrap (((n + 1 : Nat) : Int) - 1) = (n : Int) := by rw [IntKind.wrap_i64]; omega
      have hw3 : IntKind.i64.wrap (n : Int) = (n : Int) := by rw [IntKind.wrap_i64]; omega
      have hs1 := fun W => run_slice_hi gx ox (n + 1) p10 n i5 W
      have hs2 := fun W => run_slice_hi gy oy Y.length p13 n i6 W
      clear hrx hry hXt hYt hokD hr13 hr14 ho13 hY hhead hf13 hg13 hh13 q13 h2c hhm
      go_wp2
      go_region_held2 (fun _ => True) (trivial) (first | (go_at_call 6; refine (hsm _ (show Mr _ _ _ from HM1) (show Mr _ _ _ from HM2)).mono ?_; rintro e w15 ⟨rfl, hb15⟩))
      all_goals
        go_wp2
        go_ret
        exact ⟨rfl, Below.thn hB14.drew hb15⟩
end Go.Proofs.YtknpdjbcemgenabDoor
