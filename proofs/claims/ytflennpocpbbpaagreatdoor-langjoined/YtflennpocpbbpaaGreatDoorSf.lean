/-
  The walk of LangJoined.
-/
import Derived.Test.YtflennpocpbbpaaGreatDoorUV
import Derived.Test.YtflennpocpbbpaaGreatDoorSe
import Derived.Test.YtflennpocpbbpaaGreatDoorBm
import Derived.Test.YtflennpocpbbpaaGreatDoorBl
import Derived.Test.YtflennpocpbbpaaGreatDoorGj
import Derived.Test.YtflennpocpbbpaaGreatDoorUM
import Derived.Deep.RegionHeld3
import Derived.Deep.DeepCutAuto
namespace Go.Proofs.YtflennpocpbbpaaGreatDoor
open Go.RowKit
set_option maxRecDepth 100000

theorem paV_okc {l : List UInt8} {lt lf la ln : Int} {f B : Nat} {e : Ending} {w' : World} (h : paV l lt lf la ln f B e w') {ms : List Mk} {gs : List Fn1} {j : Nat} (hle : (l.length : Int) ≤ cT lt) (hc : cut rdN l 0 = .ok ms) (hq : progL (mf ms) ⟨max lf 0, max la 0, max ln 0⟩ f [] 0 = .ok gs j) :
    ∃ ao c, e = .returned (.tuple #[.agg #[.slice ao gs.length c], .agg #[.int .i64 0, .int .i64 0]]) ∧ FlW w' (fun b => B ≤ b) ao gs ∧ gs.length ≤ c := by
  unfold paV at h
  rw [if_neg (by omega), hc] at h
  dsimp only at h
  rw [hq] at h
  exact h

theorem i64_smallJ (x : Int) (h0 : 0 ≤ x) (h1 : x ≤ 10000000) : IntKind.i64.wrap x = x := by rw [IntKind.wrap_i64]; omega
theorem fn_pos {w : World} {A : Nat → Prop} {g : Fn1} {vs : List Value} (h : FnW w A g vs) : vs[10]? = some (.int .i64 g.pos) := by
  obtain ⟨ao, c, es, rfl, _, h2⟩ := h
  obtain ⟨e0, e1, e2, e3, e4, e5, e6, rfl⟩ := list7 h2.len
  rfl
theorem run_slice_hiF (b o len cap n : Nat) (h : n ≤ cap) (w : World) : (Instr.slice 40 (.slice (some ⟨b, o, none⟩) len cap) none (some (.int .i64 (n : Int))) none).run Tryz.prog w = .ok (.slice (some ⟨b, o, none⟩) n cap) w := by
  simp [Instr.slice, Instr.sliceBounds, Instr.sliceBound, asIntOf, h, run_underlying Tryz.underFs, go_sem]
theorem run_slice_loF (b o len cap n : Nat) (h : n ≤ len) (_h2 : len ≤ cap) (h3 : n < cap) (w : World) : (Instr.slice 40 (.slice (some ⟨b, o, none⟩) len cap) (some (.int .i64 (n : Int))) none none).run Tryz.prog w = .ok (.slice (some ⟨b, o + n * 11, none⟩) (len - n) (cap - n)) w := by
  have hs : (sizeOf 55).run Tryz.prog w = .ok 11 w := by
    have := Tryz.infoFn
    cases hq : Tryz.prog.info? 55 with
    | none => simp [hq] at this
    | some i => rw [hq] at this; simp at this; simp [sizeOf, typeInfo, hq, this]
  have h4 : ¬ cap = n := by omega
  simp [Instr.slice, Instr.sliceBounds, Instr.sliceBound, asIntOf, h, hs, h4, run_underlying Tryz.underFs, go_sem, Addr.add_mid]

abbrev LW : Array Value := #[.int .i64 32768, .int .i64 32768, .int .i64 32768, .int .i64 32768]

set_option maxHeartbeats 8000000 in
theorem langJoined_any (a1 a2 : Option Addr) (c1 c2 : Nat) (l1 l2 : List UInt8) (hc1 : l1.length ≤ c1) (hc2 : l2.length ≤ c2) (hn1 : a1 = none → c1 = 0) (hn2 : a2 = none → c2 = 0) (w : World) (hG : Gl w) (hE : Env w) (h1 : Bd w a1 l1) (h2 : Bd w a2 l2) :
    Calls Tryz.prog 5 #[.slice a1 l1.length c1, .slice a2 l2.length c2] w fun e w' => e = .returned (.bool true) ∧ Below w.heap.size w w' := by
  obtain ⟨F, hF⟩ : ∃ F, F = 12 * (l1.length + l2.length + 20) + 9 := ⟨_, rfl⟩
  have hfu1 : ∀ L : Lm, ∀ ms, cut rdN l1 0 = .ok ms → progL (mf ms) L F [] 0 ≠ .out := fun L => fuel_ok l1 L F (by omega)
  go_enter Tryz.func5, Tryz.ntmps5
  go_wp2_with fail
  refine (awake4_any _ hG hE).mono ?_
  rintro e w1 ⟨rfl, hb1⟩
  go_wp2_with fail
  refine (wide_any w1).mono ?_
  rintro e w2 ⟨rfl, hb2⟩
  have hB2 := Below.thn hb1 hb2
  have hL3 := Bk.new w2 24 LW
  have hB3 := Below.thn hB2 (below_alloc w2 (.cells LW 24))
  obtain ⟨k0, k1, k2, k3⟩ := Bk.four (show Bk (w2.alloc (.cells LW 24)) w2.heap.size 24 [_, _, _, _] from hL3)
  have hz2 := hB2.size
  clear hb1 hb2
  go_wp2_with fail
  refine (langParse_all a1 c1 l1 hc1 32768 32768 32768 32768 (by decide) _ (hG.up hB3) (env_keep hE hB3) (h1.up hB3) F (hfu1 _)).mono ?_
  rintro e w4 ⟨hb4, hpa⟩
  have hB4 := Below.thn hB3 hb4
  have hL4 := hL3.up hb4
  have hz4 := hb4.size
  have hcs := paV_two hpa (hfu1 _)
  clear k0 k1 k2 k3 hB3 hL3 hB2 hb4
  rcases hcs with ⟨y, a, hy, rfl⟩ | ⟨hle, ms, gs, j, hcut, hpr, -⟩
  · unfold noneV
    have q5 := below_two w4 (prg (.slice none 0 0)) (flt y a)
    have hB5 := Below.thn hB4 q5
    have hL5 := hL4.up q5
    obtain ⟨k0, k1, k2, k3⟩ := Bk.four (show Bk _ w2.heap.size 24 [_, _, _, _] from hL5)
    have hP5 := (Bk.new w4 42 #[(.slice none 0 0)]).up (below_alloc _ (flt y a))
    have hF5 := Bk.newAt (w := w4.alloc (prg (.slice none 0 0))) (n := w4.heap.size + 1) 31 #[.int .i64 y, .int .i64 a] (by simp)
    clear hpa
    go_wp2_with fail
    refine (langParse_all a2 c2 l2 hc2 32768 32768 32768 32768 (by decide) _ (hG.up hB5) (env_keep hE hB5) (h2.up hB5) F (fuel_ok l2 _ F (by omega))).mono ?_
    rintro e w6 ⟨hb6, hpb⟩
    have hB6 := Below.thn hB5 hb6
    have hP6 := hP5.up hb6
    have hF6 := hF5.up hb6
    have b0 : (y == 0) = false := by rw [beq_eq_false_iff_ne]; exact hy
    have hz6 := hb6.size
    clear k0 k1 k2 k3
    rcases paV_two hpb (fuel_ok l2 _ F (by omega)) with ⟨y2, x2, hy2, rfl⟩ | ⟨_, _, gs2, _, _, _, ao2, cc2, rfl, _⟩
    · unfold noneV
      have q7 := below_two w6 (prg (.slice none 0 0)) (flt y2 x2)
      have hB7 := Below.thn hB6 q7
      have p0 : ((w6.alloc (prg (.slice none 0 0))).alloc (flt y2 x2)).cell? ⟨w4.heap.size, 0, none⟩ = some (.slice none 0 0) := (hP6.up q7).cell 0
      have f0 : ((w6.alloc (prg (.slice none 0 0))).alloc (flt y2 x2)).cell? ⟨w4.heap.size + 1, 0, none⟩ = some (.int .i64 y) := (hF6.up q7).cell 0
      go_wp2
      go_ret
      exact ⟨rfl, hB7⟩
    · have q7 := below_two w6 (prg (.slice ao2 gs2.length cc2)) (flt 0 0)
      have hB7 := Below.thn hB6 q7
      have p0 : ((w6.alloc (prg (.slice ao2 gs2.length cc2))).alloc (flt 0 0)).cell? ⟨w4.heap.size, 0, none⟩ = some (.slice none 0 0) := (hP6.up q7).cell 0
      have f0 : ((w6.alloc (prg (.slice ao2 gs2.length cc2))).alloc (flt 0 0)).cell? ⟨w4.heap.size + 1, 0, none⟩ = some (.int .i64 y) := (hF6.up q7).cell 0
      go_wp2
      go_ret
      exact ⟨rfl, hB7⟩
  · obtain ⟨ao, c, rfl, hfl, hlc⟩ := paV_okc hpa hle hcut hpr
    have hgs := prog_some _ _ _ _ _ _ _ hpr
    have hrow := cut_row rdN _ _ _ hcut
    have hfew := cut_few _ _ _ hcut
    have hl1m : l1.length ≤ 32768 := by unfold cT at hle; omega
    have hjn : 0 + 1 ≤ j ∧ j < ms.length := by
      have := gd_prog (mf ms) ⟨max 32768 0, max 32768 0, max 32768 0⟩ hrow.ends F [] 0 hrow.pos (by omega)
      rw [hpr] at this
      exact this
    obtain ⟨wf1, -, -, -⟩ := wider (mf ms) ⟨max 32768 0, max 32768 0, max 32768 0⟩ (by decide) (by decide) hpr
    have hgl : gs.length ≤ j := by
      obtain ⟨new, new', e, hnj, _⟩ := prog_b (ρ := fun a b => b = a) (s := 0) (mf ms) (mf ms) ⟨max 32768 0, max 32768 0, max 32768 0⟩ _ [] [] _ _ _ hpr (fun _ _ => ⟨rfl, rfl, rfl, rfl, rfl⟩) (by simpa using wf1)
      rw [List.nil_append] at e
      subst e
      omega
    have hfl4 : FlW w4 (fun b => b < w4.heap.size) ao gs := by
      rcases hfl with h | ⟨g, cs, e, _, hl, hr, hf⟩
      · exact .inl h
      · exact .inr ⟨g, cs, e, hl, hl, hr, hf.imp fun b _ hb => hb⟩
    obtain ⟨F2, hF2⟩ : ∃ F2, F2 = F - gs.length := ⟨_, rfl⟩
    have hF2n : 12 * (l2.length + 1) + 9 ≤ F2 := by omega
    have HC : Hid (cut rdN l1 0 = .ok ms) := hcut
    have HP : Hid (progL (mf ms) ⟨max 32768 0, max 32768 0, max 32768 0⟩ F [] 0 = .ok gs j) := hpr
    have HF2 : Hid (F2 = F - gs.length) := hF2
    have q5 := below_two w4 (prg (.slice ao gs.length c)) (flt 0 0)
    have hB5 := Below.thn hB4 q5
    have hL5 := hL4.up q5
    obtain ⟨k0, k1, k2, k3⟩ := Bk.four (show Bk _ w2.heap.size 24 [_, _, _, _] from hL5)
    have hP5 := (Bk.new w4 42 #[(.slice ao gs.length c)]).up (below_alloc _ (flt 0 0))
    have hF5 := Bk.newAt (w := w4.alloc (prg (.slice ao gs.length c))) (n := w4.heap.size + 1) 31 #[.int .i64 0, .int .i64 0] (by simp)
    have hfl5 := hfl4.up q5
    clear hpa hpr hcut hF2 hfl hfl4
    go_wp2_with fail
    refine (langParse_all a2 c2 l2 hc2 32768 32768 32768 32768 (by decide) _ (hG.up hB5) (env_keep hE hB5) (h2.up hB5) F2 (fuel_ok l2 _ F2 hF2n)).mono ?_
    rintro e w6 ⟨hb6, hpb⟩
    have hB6 := Below.thn hB5 hb6
    have hP6 := hP5.up hb6
    have hF6 := hF5.up hb6
    have hL6 := hL5.up hb6
    have hfl6 := hfl5.up hb6
    have hz6 := hb6.size
    clear k0 k1 k2 k3 hB5 hP5 hF5 hL5 hfl5 hL4 hB4
    rcases paV_two hpb (fuel_ok l2 _ F2 hF2n) with ⟨y2, x2, hy2, rfl⟩ | ⟨hle2, ms2, hs, j2, hcut2, hpr2, -⟩
    · unfold noneV
      have q7 := below_two w6 (prg (.slice none 0 0)) (flt y2 x2)
      have hB7 := Below.thn hB6 q7
      have f0 : ((w6.alloc (prg (.slice none 0 0))).alloc (flt y2 x2)).cell? ⟨w4.heap.size + 1, 0, none⟩ = some (.int .i64 0) := (hF6.up q7).cell 0
      have hg7 := Bk.newAt (w := w6.alloc (prg (.slice none 0 0))) (n := w6.heap.size + 1) 31 #[.int .i64 y2, .int .i64 x2] (by simp)
      have g0 : ((w6.alloc (prg (.slice none 0 0))).alloc (flt y2 x2)).cell? ⟨w6.heap.size + 1, 0, none⟩ = some (.int .i64 y2) := hg7.cell 0
      have b0 : (y2 == 0) = false := by rw [beq_eq_false_iff_ne]; exact hy2
      go_wp2
      go_ret
      exact ⟨rfl, hB7⟩
    · obtain ⟨ao2, cc2, rfl, hflb, hlc2⟩ := paV_okc hpb hle2 hcut2 hpr2
      have hl2m : l2.length ≤ 32768 := by unfold cT at hle2; omega
      have q7 := below_two w6 (prg (.slice ao2 hs.length cc2)) (flt 0 0)
      have hB7 := Below.thn hB6 q7
      have f0 : ((w6.alloc (prg (.slice ao2 hs.length cc2))).alloc (flt 0 0)).cell? ⟨w4.heap.size + 1, 0, none⟩ = some (.int .i64 0) := (hF6.up q7).cell 0
      have hg7 := Bk.newAt (w := w6.alloc (prg (.slice ao2 hs.length cc2))) (n := w6.heap.size + 1) 31 #[.int .i64 0, .int .i64 0] (by simp)
      have g0 : ((w6.alloc (prg (.slice ao2 hs.length cc2))).alloc (flt 0 0)).cell? ⟨w6.heap.size + 1, 0, none⟩ = some (.int .i64 0) := hg7.cell 0
      by_cases hbig : 32768 ≤ l1.length + l2.length
      · have bb : decide ((32768 : Int) ≤ (l1.length : Int) + (l2.length : Int)) = true := by rw [decide_eq_true_eq]; omega
        clear hpb
        go_wp2
        go_ret
        exact ⟨rfl, hB7⟩
      · have bb : decide ((32768 : Int) ≤ (l1.length : Int) + (l2.length : Int)) = false := by rw [decide_eq_false_iff_not]; omega
        have hG0 := hG.up hB7
        have hE0 := env_keep hE hB7
        have h10 := h1.up hB7
        have h20 := h2.up hB7
        have hL7 := hL6.up q7
        have hP7 := hP6.up q7
        have hQ7 := (Bk.new w6 42 #[.slice ao2 hs.length cc2]).up (below_alloc _ (flt 0 0))
        have hfl7 := hfl6.up q7
        have hflb7 := hflb.up q7
        clear hpb
        go_wp2_with fail
        obtain ⟨X0, hX0⟩ : ∃ X0, X0 = (w6.alloc (prg (.slice ao2 hs.length cc2))).alloc (flt 0 0) := ⟨_, rfl⟩
        rw [← hX0] at hG0 hE0 h10 h20 hL7 hP7 hQ7 hfl7 hflb7 hB7 hg7 ⊢
        clear hX0 f0 g0
        refine (copied4_any a1 c1 l1 hn1 (by omega) X0 h10).mono ?_
        rintro e w9 ⟨v9, rfl, ho9, hb9⟩
        obtain ⟨v10, w10, r10, ho10, hb10⟩ := own_one w9 X0.heap.size v9 l1 10 ho9 hb9.size (by omega)
        rw [show ((10 : UInt8).toNat : Int) = 10 from rfl] at r10
        have HR : Hid (_ = _) := r10
        have hX10 : Below X0.heap.size X0 w10 := hb9.trans hb10
        clear r10
        go_wp2_with (at_builtin; refine wpList_append_run rfl (.tmp 56) (.tmp 57) 22 rfl rfl _ _ rfl rfl _ _ (show _ = _ from HR) ?_)
        clear HR ho9 hb9 hb10
        obtain ⟨T1, hT1⟩ : ∃ T1, T1 = l1 ++ [10] := ⟨_, rfl⟩
        rw [← hT1] at ho10
        have hT1l : T1.length ≤ 32770 := by rw [hT1, List.length_append]; simp; omega
        obtain ⟨T2, hT2⟩ : ∃ T2, T2 = T1 ++ l2 := ⟨_, rfl⟩
        have hT2e : T2 = l1 ++ 10 :: l2 := by rw [hT2, hT1]; simp
        have hT2l : T2.length ≤ l1.length + l2.length + 1 := by rw [hT2e]; simp; omega
        have hfu := fuel_ok T2 ⟨max 32768 0, max 32768 0, max 32768 0⟩ F (by omega)
        have HT2 : Hid (T2 = l1 ++ 10 :: l2) := hT2e
        have lL7 := hL7.lt
        have HS : Hid (∀ W, Below X0.heap.size X0 W → W.cell? ⟨w2.heap.size, 0, none⟩ = some (.int .i64 32768) ∧ W.cell? ⟨w2.heap.size, 1, none⟩ = some (.int .i64 32768) ∧ W.cell? ⟨w2.heap.size, 2, none⟩ = some (.int .i64 32768) ∧ W.cell? ⟨w2.heap.size, 3, none⟩ = some (.int .i64 32768)) := fun W hb => (hL7.up hb).four
        have b_n : Below X0.heap.size X0 (World.drew w10) := (hX10).drew
        have i_n : Below w10.heap.size w10 (World.drew w10) := (Below.refl _ w10).drew
        obtain ⟨v_n, w_n, r_n, o_n, e_n, g_n⟩ := own_appG (World.drew w10) X0.heap.size v10 T1 (ho10.up i_n) b_n.size a2 c2 l2 (h20.up b_n) hn2 (by omega)
        rw [← hT2] at o_n
        obtain ⟨ao_n, c_n, rfl, hbd_n, hcc_n, -, -⟩ := Own.bd o_n
        have B_n : Below X0.heap.size X0 w_n := b_n.trans e_n
        have c_n_n : Below X0.heap.size X0 w_n := B_n
        have q_n_n := langParse_all ao_n c_n T2 hcc_n 32768 32768 32768 32768 (by decide) w_n (hG0.up c_n_n) (env_keep hE0 c_n_n) (hbd_n.up (Below.refl _ w_n)) F hfu
        have c_n_P : Below X0.heap.size X0 (w_n.alloc (.cells #[.slice none 0 0] 42)) := bal (o := (.cells #[.slice none 0 0] 42)) (B_n)
        have q_n_P := langParse_all ao_n c_n T2 hcc_n 32768 32768 32768 32768 (by decide) (w_n.alloc (.cells #[.slice none 0 0] 42)) (hG0.up c_n_P) (env_keep hE0 c_n_P) (hbd_n.up (bal (o := (.cells #[.slice none 0 0] 42)) (Below.refl _ w_n))) F hfu
        have c_n_F : Below X0.heap.size X0 (w_n.alloc (.cells #[.int .i64 0, .int .i64 0] 31)) := bal (o := (.cells #[.int .i64 0, .int .i64 0] 31)) (B_n)
        have q_n_F := langParse_all ao_n c_n T2 hcc_n 32768 32768 32768 32768 (by decide) (w_n.alloc (.cells #[.int .i64 0, .int .i64 0] 31)) (hG0.up c_n_F) (env_keep hE0 c_n_F) (hbd_n.up (bal (o := (.cells #[.int .i64 0, .int .i64 0] 31)) (Below.refl _ w_n))) F hfu
        have c_n_PF : Below X0.heap.size X0 ((w_n.alloc (.cells #[.slice none 0 0] 42)).alloc (.cells #[.int .i64 0, .int .i64 0] 31)) := bal (o := (.cells #[.int .i64 0, .int .i64 0] 31)) (bal (o := (.cells #[.slice none 0 0] 42)) (B_n))
        have q_n_PF := langParse_all ao_n c_n T2 hcc_n 32768 32768 32768 32768 (by decide) ((w_n.alloc (.cells #[.slice none 0 0] 42)).alloc (.cells #[.int .i64 0, .int .i64 0] 31)) (hG0.up c_n_PF) (env_keep hE0 c_n_PF) (hbd_n.up (bal (o := (.cells #[.int .i64 0, .int .i64 0] 31)) (bal (o := (.cells #[.slice none 0 0] 42)) (Below.refl _ w_n)))) F hfu
        have c_n_FP : Below X0.heap.size X0 ((w_n.alloc (.cells #[.int .i64 0, .int .i64 0] 31)).alloc (.cells #[.slice none 0 0] 42)) := bal (o := (.cells #[.slice none 0 0] 42)) (bal (o := (.cells #[.int .i64 0, .int .i64 0] 31)) (B_n))
        have q_n_FP := langParse_all ao_n c_n T2 hcc_n 32768 32768 32768 32768 (by decide) ((w_n.alloc (.cells #[.int .i64 0, .int .i64 0] 31)).alloc (.cells #[.slice none 0 0] 42)) (hG0.up c_n_FP) (env_keep hE0 c_n_FP) (hbd_n.up (bal (o := (.cells #[.slice none 0 0] 42)) (bal (o := (.cells #[.int .i64 0, .int .i64 0] 31)) (Below.refl _ w_n)))) F hfu
        have R_n : Hid (_ = _) := r_n
        clear r_n o_n e_n g_n hbd_n hcc_n i_n
        have b_P : Below X0.heap.size X0 (World.drew (w10.alloc (.cells #[.slice none 0 0] 42))) := (bal (o := (.cells #[.slice none 0 0] 42)) (hX10)).drew
        have i_P : Below w10.heap.size w10 (World.drew (w10.alloc (.cells #[.slice none 0 0] 42))) := (bal (o := (.cells #[.slice none 0 0] 42)) (Below.refl _ w10)).drew
        obtain ⟨v_P, w_P, r_P, o_P, e_P, g_P⟩ := own_appG (World.drew (w10.alloc (.cells #[.slice none 0 0] 42))) X0.heap.size v10 T1 (ho10.up i_P) b_P.size a2 c2 l2 (h20.up b_P) hn2 (by omega)
        rw [← hT2] at o_P
        obtain ⟨ao_P, c_P, rfl, hbd_P, hcc_P, -, -⟩ := Own.bd o_P
        have B_P : Below X0.heap.size X0 w_P := b_P.trans e_P
        have kP_P : Bk (World.drew (w10.alloc (.cells #[.slice none 0 0] 42))) w10.heap.size 42 [.slice none 0 0] := (show Bk (w10.alloc (.cells #[.slice none 0 0] 42)) w10.heap.size 42 [.slice none 0 0] from Bk.new w10 42 #[.slice none 0 0])
        have P9_P : Bk w_P w10.heap.size 42 [.slice none 0 0] := bk_grown kP_P g_P (own_low ho10 (by first | exact Nat.le_refl _ | exact Nat.le_succ _))
        have c_P_n : Below X0.heap.size X0 w_P := B_P
        have q_P_n := langParse_all ao_P c_P T2 hcc_P 32768 32768 32768 32768 (by decide) w_P (hG0.up c_P_n) (env_keep hE0 c_P_n) (hbd_P.up (Below.refl _ w_P)) F hfu
        have c_P_F : Below X0.heap.size X0 (w_P.alloc (.cells #[.int .i64 0, .int .i64 0] 31)) := bal (o := (.cells #[.int .i64 0, .int .i64 0] 31)) (B_P)
        have q_P_F := langParse_all ao_P c_P T2 hcc_P 32768 32768 32768 32768 (by decide) (w_P.alloc (.cells #[.int .i64 0, .int .i64 0] 31)) (hG0.up c_P_F) (env_keep hE0 c_P_F) (hbd_P.up (bal (o := (.cells #[.int .i64 0, .int .i64 0] 31)) (Below.refl _ w_P))) F hfu
        have R_P : Hid (_ = _) := r_P
        clear r_P o_P e_P g_P hbd_P hcc_P i_P
        have b_F : Below X0.heap.size X0 (World.drew (w10.alloc (.cells #[.int .i64 0, .int .i64 0] 31))) := (bal (o := (.cells #[.int .i64 0, .int .i64 0] 31)) (hX10)).drew
        have i_F : Below w10.heap.size w10 (World.drew (w10.alloc (.cells #[.int .i64 0, .int .i64 0] 31))) := (bal (o := (.cells #[.int .i64 0, .int .i64 0] 31)) (Below.refl _ w10)).drew
        obtain ⟨v_F, w_F, r_F, o_F, e_F, g_F⟩ := own_appG (World.drew (w10.alloc (.cells #[.int .i64 0, .int .i64 0] 31))) X0.heap.size v10 T1 (ho10.up i_F) b_F.size a2 c2 l2 (h20.up b_F) hn2 (by omega)
        rw [← hT2] at o_F
        obtain ⟨ao_F, c_F, rfl, hbd_F, hcc_F, -, -⟩ := Own.bd o_F
        have B_F : Below X0.heap.size X0 w_F := b_F.trans e_F
        have kF_F : Bk (World.drew (w10.alloc (.cells #[.int .i64 0, .int .i64 0] 31))) w10.heap.size 31 [.int .i64 0, .int .i64 0] := (show Bk (w10.alloc (.cells #[.int .i64 0, .int .i64 0] 31)) w10.heap.size 31 [.int .i64 0, .int .i64 0] from Bk.new w10 31 #[.int .i64 0, .int .i64 0])
        have F9_F : Bk w_F w10.heap.size 31 [.int .i64 0, .int .i64 0] := bk_grown kF_F g_F (own_low ho10 (by first | exact Nat.le_refl _ | exact Nat.le_succ _))
        have c_F_n : Below X0.heap.size X0 w_F := B_F
        have q_F_n := langParse_all ao_F c_F T2 hcc_F 32768 32768 32768 32768 (by decide) w_F (hG0.up c_F_n) (env_keep hE0 c_F_n) (hbd_F.up (Below.refl _ w_F)) F hfu
        have c_F_P : Below X0.heap.size X0 (w_F.alloc (.cells #[.slice none 0 0] 42)) := bal (o := (.cells #[.slice none 0 0] 42)) (B_F)
        have q_F_P := langParse_all ao_F c_F T2 hcc_F 32768 32768 32768 32768 (by decide) (w_F.alloc (.cells #[.slice none 0 0] 42)) (hG0.up c_F_P) (env_keep hE0 c_F_P) (hbd_F.up (bal (o := (.cells #[.slice none 0 0] 42)) (Below.refl _ w_F))) F hfu
        have R_F : Hid (_ = _) := r_F
        clear r_F o_F e_F g_F hbd_F hcc_F i_F
        have b_PF : Below X0.heap.size X0 (World.drew ((w10.alloc (.cells #[.slice none 0 0] 42)).alloc (.cells #[.int .i64 0, .int .i64 0] 31))) := (bal (o := (.cells #[.int .i64 0, .int .i64 0] 31)) (bal (o := (.cells #[.slice none 0 0] 42)) (hX10))).drew
        have i_PF : Below w10.heap.size w10 (World.drew ((w10.alloc (.cells #[.slice none 0 0] 42)).alloc (.cells #[.int .i64 0, .int .i64 0] 31))) := (bal (o := (.cells #[.int .i64 0, .int .i64 0] 31)) (bal (o := (.cells #[.slice none 0 0] 42)) (Below.refl _ w10))).drew
        obtain ⟨v_PF, w_PF, r_PF, o_PF, e_PF, g_PF⟩ := own_appG (World.drew ((w10.alloc (.cells #[.slice none 0 0] 42)).alloc (.cells #[.int .i64 0, .int .i64 0] 31))) X0.heap.size v10 T1 (ho10.up i_PF) b_PF.size a2 c2 l2 (h20.up b_PF) hn2 (by omega)
        rw [← hT2] at o_PF
        obtain ⟨ao_PF, c_PF, rfl, hbd_PF, hcc_PF, -, -⟩ := Own.bd o_PF
        have B_PF : Below X0.heap.size X0 w_PF := b_PF.trans e_PF
        have kP_PF : Bk (World.drew ((w10.alloc (.cells #[.slice none 0 0] 42)).alloc (.cells #[.int .i64 0, .int .i64 0] 31))) w10.heap.size 42 [.slice none 0 0] := (show Bk ((w10.alloc (.cells #[.slice none 0 0] 42)).alloc (.cells #[.int .i64 0, .int .i64 0] 31)) w10.heap.size 42 [.slice none 0 0] from (Bk.new w10 42 #[.slice none 0 0]).up (below_alloc _ (.cells #[.int .i64 0, .int .i64 0] 31)))
        have P9_PF : Bk w_PF w10.heap.size 42 [.slice none 0 0] := bk_grown kP_PF g_PF (own_low ho10 (by first | exact Nat.le_refl _ | exact Nat.le_succ _))
        have kF_PF : Bk (World.drew ((w10.alloc (.cells #[.slice none 0 0] 42)).alloc (.cells #[.int .i64 0, .int .i64 0] 31))) (w10.heap.size + 1) 31 [.int .i64 0, .int .i64 0] := (show Bk ((w10.alloc (.cells #[.slice none 0 0] 42)).alloc (.cells #[.int .i64 0, .int .i64 0] 31)) (w10.heap.size + 1) 31 [.int .i64 0, .int .i64 0] from Bk.newAt (w := (w10.alloc (.cells #[.slice none 0 0] 42))) (n := w10.heap.size + 1) 31 #[.int .i64 0, .int .i64 0] (by simp))
        have F9_PF : Bk w_PF (w10.heap.size + 1) 31 [.int .i64 0, .int .i64 0] := bk_grown kF_PF g_PF (own_low ho10 (by first | exact Nat.le_refl _ | exact Nat.le_succ _))
        have c_PF_n : Below X0.heap.size X0 w_PF := B_PF
        have q_PF_n := langParse_all ao_PF c_PF T2 hcc_PF 32768 32768 32768 32768 (by decide) w_PF (hG0.up c_PF_n) (env_keep hE0 c_PF_n) (hbd_PF.up (Below.refl _ w_PF)) F hfu
        have R_PF : Hid (_ = _) := r_PF
        clear r_PF o_PF e_PF g_PF hbd_PF hcc_PF i_PF
        have b_FP : Below X0.heap.size X0 (World.drew ((w10.alloc (.cells #[.int .i64 0, .int .i64 0] 31)).alloc (.cells #[.slice none 0 0] 42))) := (bal (o := (.cells #[.slice none 0 0] 42)) (bal (o := (.cells #[.int .i64 0, .int .i64 0] 31)) (hX10))).drew
        have i_FP : Below w10.heap.size w10 (World.drew ((w10.alloc (.cells #[.int .i64 0, .int .i64 0] 31)).alloc (.cells #[.slice none 0 0] 42))) := (bal (o := (.cells #[.slice none 0 0] 42)) (bal (o := (.cells #[.int .i64 0, .int .i64 0] 31)) (Below.refl _ w10))).drew
        obtain ⟨v_FP, w_FP, r_FP, o_FP, e_FP, g_FP⟩ := own_appG (World.drew ((w10.alloc (.cells #[.int .i64 0, .int .i64 0] 31)).alloc (.cells #[.slice none 0 0] 42))) X0.heap.size v10 T1 (ho10.up i_FP) b_FP.size a2 c2 l2 (h20.up b_FP) hn2 (by omega)
        rw [← hT2] at o_FP
        obtain ⟨ao_FP, c_FP, rfl, hbd_FP, hcc_FP, -, -⟩ := Own.bd o_FP
        have B_FP : Below X0.heap.size X0 w_FP := b_FP.trans e_FP
        have kF_FP : Bk (World.drew ((w10.alloc (.cells #[.int .i64 0, .int .i64 0] 31)).alloc (.cells #[.slice none 0 0] 42))) w10.heap.size 31 [.int .i64 0, .int .i64 0] := (show Bk ((w10.alloc (.cells #[.int .i64 0, .int .i64 0] 31)).alloc (.cells #[.slice none 0 0] 42)) w10.heap.size 31 [.int .i64 0, .int .i64 0] from (Bk.new w10 31 #[.int .i64 0, .int .i64 0]).up (below_alloc _ (.cells #[.slice none 0 0] 42)))
        have F9_FP : Bk w_FP w10.heap.size 31 [.int .i64 0, .int .i64 0] := bk_grown kF_FP g_FP (own_low ho10 (by first | exact Nat.le_refl _ | exact Nat.le_succ _))
        have kP_FP : Bk (World.drew ((w10.alloc (.cells #[.int .i64 0, .int .i64 0] 31)).alloc (.cells #[.slice none 0 0] 42))) (w10.heap.size + 1) 42 [.slice none 0 0] := (show Bk ((w10.alloc (.cells #[.int .i64 0, .int .i64 0] 31)).alloc (.cells #[.slice none 0 0] 42)) (w10.heap.size + 1) 42 [.slice none 0 0] from Bk.newAt (w := (w10.alloc (.cells #[.int .i64 0, .int .i64 0] 31))) (n := w10.heap.size + 1) 42 #[.slice none 0 0] (by simp))
        have P9_FP : Bk w_FP (w10.heap.size + 1) 42 [.slice none 0 0] := bk_grown kP_FP g_FP (own_low ho10 (by first | exact Nat.le_refl _ | exact Nat.le_succ _))
        have c_FP_n : Below X0.heap.size X0 w_FP := B_FP
        have q_FP_n := langParse_all ao_FP c_FP T2 hcc_FP 32768 32768 32768 32768 (by decide) w_FP (hG0.up c_FP_n) (env_keep hE0 c_FP_n) (hbd_FP.up (Below.refl _ w_FP)) F hfu
        have R_FP : Hid (_ = _) := r_FP
        clear r_FP o_FP e_FP g_FP hbd_FP hcc_FP i_FP
        clear hT1 hT2 hT2e ho10
        go_cut [11, 12] (fun p q wx => PF2 X0 T2 32768 32768 32768 32768 F p q wx)
        case first =>
          go_region_held3 (fun W => W.cell? ⟨w2.heap.size, 0, none⟩ = some (.int .i64 32768) ∧ W.cell? ⟨w2.heap.size, 1, none⟩ = some (.int .i64 32768) ∧ W.cell? ⟨w2.heap.size, 2, none⟩ = some (.int .i64 32768) ∧ W.cell? ⟨w2.heap.size, 3, none⟩ = some (.int .i64 32768)) ((refine HS _ ?_; repeat' (first | (with_reducible assumption) | refine bal ?_ | refine bst ?_ (by first | (with_reducible assumption) | omega) | refine Below.drew ?_))) (first
            | (refine step_append_runU (by rfl) (.tmp 60) (.tmp 61) 22 22 (by rfl) (by rfl) v10 (.slice a2 l2.length c2) (by rfl) (by rfl) (.slice ao_n T2.length c_n) w_n (show _ = _ from R_n) ?_)
            | (go_at_call 14; (with_reducible refine Calls.mono q_n_n ?_); rintro e wp ⟨hbp, hpp⟩; obtain ⟨ao1, n1, cc1, y1, a1, rfl⟩ := paV_shape hpp hfu; have Bp := Below.thn c_n_n hbp; have hWp := Bp.size; have hBW := c_n_n.size)
            | (go_at_call 14; (with_reducible refine Calls.mono q_n_P ?_); rintro e wp ⟨hbp, hpp⟩; obtain ⟨ao1, n1, cc1, y1, a1, rfl⟩ := paV_shape hpp hfu; have Bp := Below.thn c_n_P hbp; have hWp := Bp.size; have hBW := c_n_P.size; have P2 := Bk.new w_n 42 #[.slice none 0 0]; have Pp := P2.up hbp; have gPW : X0.heap.size ≤ w_n.heap.size := B_n.size; have pcp : wp.cell? ⟨w_n.heap.size, 0, none⟩ = some (.slice none 0 0) := Pp.cell 0; have pzp := Pp.frz 0; have pan1 := Nat.ne_of_lt Pp.lt; have pan2 := Ne.symm pan1; have pa0 := fun o => (Pp.up (below_alloc wp o)).cell 0; have paz0 := fun o => (Pp.up (below_alloc wp o)).frz 0)
            | (go_at_call 14; (with_reducible refine Calls.mono q_n_F ?_); rintro e wp ⟨hbp, hpp⟩; obtain ⟨ao1, n1, cc1, y1, a1, rfl⟩ := paV_shape hpp hfu; have Bp := Below.thn c_n_F hbp; have hWp := Bp.size; have hBW := c_n_F.size; have F2 := Bk.new w_n 31 #[.int .i64 0, .int .i64 0]; have Fp := F2.up hbp; have gFW : X0.heap.size ≤ w_n.heap.size := B_n.size; have fcp : wp.cell? ⟨w_n.heap.size, 0, none⟩ = some (.int .i64 0) := Fp.cell 0; have fdp : wp.cell? ⟨w_n.heap.size, 1, none⟩ = some (.int .i64 0) := Fp.cell 1; have fzp := Fp.frz 0; have fyp := Fp.frz 1; have fan1 := Nat.ne_of_lt Fp.lt; have fan2 := Ne.symm fan1; have fa0 := fun o => (Fp.up (below_alloc wp o)).cell 0; have faz0 := fun o => (Fp.up (below_alloc wp o)).frz 0; have fa1 := fun o => (Fp.up (below_alloc wp o)).cell 1; have faz1 := fun o => (Fp.up (below_alloc wp o)).frz 1)
            | (go_at_call 14; (with_reducible refine Calls.mono q_n_PF ?_); rintro e wp ⟨hbp, hpp⟩; obtain ⟨ao1, n1, cc1, y1, a1, rfl⟩ := paV_shape hpp hfu; have Bp := Below.thn c_n_PF hbp; have hWp := Bp.size; have hBW := c_n_PF.size; have P2 := (Bk.new w_n 42 #[.slice none 0 0]).up (below_alloc _ (.cells #[.int .i64 0, .int .i64 0] 31)); have Pp := P2.up hbp; have gPW : X0.heap.size ≤ w_n.heap.size := B_n.size; have pcp : wp.cell? ⟨w_n.heap.size, 0, none⟩ = some (.slice none 0 0) := Pp.cell 0; have pzp := Pp.frz 0; have pan1 := Nat.ne_of_lt Pp.lt; have pan2 := Ne.symm pan1; have pa0 := fun o => (Pp.up (below_alloc wp o)).cell 0; have paz0 := fun o => (Pp.up (below_alloc wp o)).frz 0; have F2 := Bk.newAt (w := (w_n.alloc (.cells #[.slice none 0 0] 42))) (n := w_n.heap.size + 1) 31 #[.int .i64 0, .int .i64 0] (by simp); have Fp := F2.up hbp; have gFW : X0.heap.size ≤ (w_n.heap.size + 1) := Nat.le_succ_of_le B_n.size; have fcp : wp.cell? ⟨(w_n.heap.size + 1), 0, none⟩ = some (.int .i64 0) := Fp.cell 0; have fdp : wp.cell? ⟨(w_n.heap.size + 1), 1, none⟩ = some (.int .i64 0) := Fp.cell 1; have fzp := Fp.frz 0; have fyp := Fp.frz 1; have fan1 := Nat.ne_of_lt Fp.lt; have fan2 := Ne.symm fan1; have fa0 := fun o => (Fp.up (below_alloc wp o)).cell 0; have faz0 := fun o => (Fp.up (below_alloc wp o)).frz 0; have fa1 := fun o => (Fp.up (below_alloc wp o)).cell 1; have faz1 := fun o => (Fp.up (below_alloc wp o)).frz 1)
            | (go_at_call 14; (with_reducible refine Calls.mono q_n_FP ?_); rintro e wp ⟨hbp, hpp⟩; obtain ⟨ao1, n1, cc1, y1, a1, rfl⟩ := paV_shape hpp hfu; have Bp := Below.thn c_n_FP hbp; have hWp := Bp.size; have hBW := c_n_FP.size; have F2 := (Bk.new w_n 31 #[.int .i64 0, .int .i64 0]).up (below_alloc _ (.cells #[.slice none 0 0] 42)); have Fp := F2.up hbp; have gFW : X0.heap.size ≤ w_n.heap.size := B_n.size; have fcp : wp.cell? ⟨w_n.heap.size, 0, none⟩ = some (.int .i64 0) := Fp.cell 0; have fdp : wp.cell? ⟨w_n.heap.size, 1, none⟩ = some (.int .i64 0) := Fp.cell 1; have fzp := Fp.frz 0; have fyp := Fp.frz 1; have fan1 := Nat.ne_of_lt Fp.lt; have fan2 := Ne.symm fan1; have fa0 := fun o => (Fp.up (below_alloc wp o)).cell 0; have faz0 := fun o => (Fp.up (below_alloc wp o)).frz 0; have fa1 := fun o => (Fp.up (below_alloc wp o)).cell 1; have faz1 := fun o => (Fp.up (below_alloc wp o)).frz 1; have P2 := Bk.newAt (w := (w_n.alloc (.cells #[.int .i64 0, .int .i64 0] 31))) (n := w_n.heap.size + 1) 42 #[.slice none 0 0] (by simp); have Pp := P2.up hbp; have gPW : X0.heap.size ≤ (w_n.heap.size + 1) := Nat.le_succ_of_le B_n.size; have pcp : wp.cell? ⟨(w_n.heap.size + 1), 0, none⟩ = some (.slice none 0 0) := Pp.cell 0; have pzp := Pp.frz 0; have pan1 := Nat.ne_of_lt Pp.lt; have pan2 := Ne.symm pan1; have pa0 := fun o => (Pp.up (below_alloc wp o)).cell 0; have paz0 := fun o => (Pp.up (below_alloc wp o)).frz 0)
            | (refine step_append_runU (by rfl) (.tmp 60) (.tmp 61) 22 22 (by rfl) (by rfl) v10 (.slice a2 l2.length c2) (by rfl) (by rfl) (.slice ao_P T2.length c_P) w_P (show _ = _ from R_P) ?_)
            | (go_at_call 14; (with_reducible refine Calls.mono q_P_n ?_); rintro e wp ⟨hbp, hpp⟩; obtain ⟨ao1, n1, cc1, y1, a1, rfl⟩ := paV_shape hpp hfu; have Bp := Below.thn c_P_n hbp; have hWp := Bp.size; have hBW := c_P_n.size; have P2 := P9_P; have Pp := P2.up hbp; have gPW : X0.heap.size ≤ w10.heap.size := hX10.size; have pcp : wp.cell? ⟨w10.heap.size, 0, none⟩ = some (.slice none 0 0) := Pp.cell 0; have pzp := Pp.frz 0; have pan1 := Nat.ne_of_lt Pp.lt; have pan2 := Ne.symm pan1; have pa0 := fun o => (Pp.up (below_alloc wp o)).cell 0; have paz0 := fun o => (Pp.up (below_alloc wp o)).frz 0)
            | (go_at_call 14; (with_reducible refine Calls.mono q_P_F ?_); rintro e wp ⟨hbp, hpp⟩; obtain ⟨ao1, n1, cc1, y1, a1, rfl⟩ := paV_shape hpp hfu; have Bp := Below.thn c_P_F hbp; have hWp := Bp.size; have hBW := c_P_F.size; have P2 := (P9_P).up (below_alloc _ (.cells #[.int .i64 0, .int .i64 0] 31)); have Pp := P2.up hbp; have gPW : X0.heap.size ≤ w10.heap.size := hX10.size; have pcp : wp.cell? ⟨w10.heap.size, 0, none⟩ = some (.slice none 0 0) := Pp.cell 0; have pzp := Pp.frz 0; have pan1 := Nat.ne_of_lt Pp.lt; have pan2 := Ne.symm pan1; have pa0 := fun o => (Pp.up (below_alloc wp o)).cell 0; have paz0 := fun o => (Pp.up (below_alloc wp o)).frz 0; have F2 := Bk.new w_P 31 #[.int .i64 0, .int .i64 0]; have Fp := F2.up hbp; have gFW : X0.heap.size ≤ w_P.heap.size := B_P.size; have fcp : wp.cell? ⟨w_P.heap.size, 0, none⟩ = some (.int .i64 0) := Fp.cell 0; have fdp : wp.cell? ⟨w_P.heap.size, 1, none⟩ = some (.int .i64 0) := Fp.cell 1; have fzp := Fp.frz 0; have fyp := Fp.frz 1; have fan1 := Nat.ne_of_lt Fp.lt; have fan2 := Ne.symm fan1; have fa0 := fun o => (Fp.up (below_alloc wp o)).cell 0; have faz0 := fun o => (Fp.up (below_alloc wp o)).frz 0; have fa1 := fun o => (Fp.up (below_alloc wp o)).cell 1; have faz1 := fun o => (Fp.up (below_alloc wp o)).frz 1; have pf1 := Nat.ne_of_lt P9_P.lt; have pf2 := Ne.symm pf1)
            | (refine step_append_runU (by rfl) (.tmp 60) (.tmp 61) 22 22 (by rfl) (by rfl) v10 (.slice a2 l2.length c2) (by rfl) (by rfl) (.slice ao_F T2.length c_F) w_F (show _ = _ from R_F) ?_)
            | (go_at_call 14; (with_reducible refine Calls.mono q_F_n ?_); rintro e wp ⟨hbp, hpp⟩; obtain ⟨ao1, n1, cc1, y1, a1, rfl⟩ := paV_shape hpp hfu; have Bp := Below.thn c_F_n hbp; have hWp := Bp.size; have hBW := c_F_n.size; have F2 := F9_F; have Fp := F2.up hbp; have gFW : X0.heap.size ≤ w10.heap.size := hX10.size; have fcp : wp.cell? ⟨w10.heap.size, 0, none⟩ = some (.int .i64 0) := Fp.cell 0; have fdp : wp.cell? ⟨w10.heap.size, 1, none⟩ = some (.int .i64 0) := Fp.cell 1; have fzp := Fp.frz 0; have fyp := Fp.frz 1; have fan1 := Nat.ne_of_lt Fp.lt; have fan2 := Ne.symm fan1; have fa0 := fun o => (Fp.up (below_alloc wp o)).cell 0; have faz0 := fun o => (Fp.up (below_alloc wp o)).frz 0; have fa1 := fun o => (Fp.up (below_alloc wp o)).cell 1; have faz1 := fun o => (Fp.up (below_alloc wp o)).frz 1)
            | (go_at_call 14; (with_reducible refine Calls.mono q_F_P ?_); rintro e wp ⟨hbp, hpp⟩; obtain ⟨ao1, n1, cc1, y1, a1, rfl⟩ := paV_shape hpp hfu; have Bp := Below.thn c_F_P hbp; have hWp := Bp.size; have hBW := c_F_P.size; have F2 := (F9_F).up (below_alloc _ (.cells #[.slice none 0 0] 42)); have Fp := F2.up hbp; have gFW : X0.heap.size ≤ w10.heap.size := hX10.size; have fcp : wp.cell? ⟨w10.heap.size, 0, none⟩ = some (.int .i64 0) := Fp.cell 0; have fdp : wp.cell? ⟨w10.heap.size, 1, none⟩ = some (.int .i64 0) := Fp.cell 1; have fzp := Fp.frz 0; have fyp := Fp.frz 1; have fan1 := Nat.ne_of_lt Fp.lt; have fan2 := Ne.symm fan1; have fa0 := fun o => (Fp.up (below_alloc wp o)).cell 0; have faz0 := fun o => (Fp.up (below_alloc wp o)).frz 0; have fa1 := fun o => (Fp.up (below_alloc wp o)).cell 1; have faz1 := fun o => (Fp.up (below_alloc wp o)).frz 1; have P2 := Bk.new w_F 42 #[.slice none 0 0]; have Pp := P2.up hbp; have gPW : X0.heap.size ≤ w_F.heap.size := B_F.size; have pcp : wp.cell? ⟨w_F.heap.size, 0, none⟩ = some (.slice none 0 0) := Pp.cell 0; have pzp := Pp.frz 0; have pan1 := Nat.ne_of_lt Pp.lt; have pan2 := Ne.symm pan1; have pa0 := fun o => (Pp.up (below_alloc wp o)).cell 0; have paz0 := fun o => (Pp.up (below_alloc wp o)).frz 0; have pf1 := Nat.ne_of_lt F9_F.lt; have pf2 := Ne.symm pf1)
            | (refine step_append_runU (by rfl) (.tmp 60) (.tmp 61) 22 22 (by rfl) (by rfl) v10 (.slice a2 l2.length c2) (by rfl) (by rfl) (.slice ao_PF T2.length c_PF) w_PF (show _ = _ from R_PF) ?_)
            | (go_at_call 14; (with_reducible refine Calls.mono q_PF_n ?_); rintro e wp ⟨hbp, hpp⟩; obtain ⟨ao1, n1, cc1, y1, a1, rfl⟩ := paV_shape hpp hfu; have Bp := Below.thn c_PF_n hbp; have hWp := Bp.size; have hBW := c_PF_n.size; have P2 := P9_PF; have Pp := P2.up hbp; have gPW : X0.heap.size ≤ w10.heap.size := hX10.size; have pcp : wp.cell? ⟨w10.heap.size, 0, none⟩ = some (.slice none 0 0) := Pp.cell 0; have pzp := Pp.frz 0; have pan1 := Nat.ne_of_lt Pp.lt; have pan2 := Ne.symm pan1; have pa0 := fun o => (Pp.up (below_alloc wp o)).cell 0; have paz0 := fun o => (Pp.up (below_alloc wp o)).frz 0; have F2 := F9_PF; have Fp := F2.up hbp; have gFW : X0.heap.size ≤ (w10.heap.size + 1) := Nat.le_succ_of_le hX10.size; have fcp : wp.cell? ⟨(w10.heap.size + 1), 0, none⟩ = some (.int .i64 0) := Fp.cell 0; have fdp : wp.cell? ⟨(w10.heap.size + 1), 1, none⟩ = some (.int .i64 0) := Fp.cell 1; have fzp := Fp.frz 0; have fyp := Fp.frz 1; have fan1 := Nat.ne_of_lt Fp.lt; have fan2 := Ne.symm fan1; have fa0 := fun o => (Fp.up (below_alloc wp o)).cell 0; have faz0 := fun o => (Fp.up (below_alloc wp o)).frz 0; have fa1 := fun o => (Fp.up (below_alloc wp o)).cell 1; have faz1 := fun o => (Fp.up (below_alloc wp o)).frz 1)
            | (refine step_append_runU (by rfl) (.tmp 60) (.tmp 61) 22 22 (by rfl) (by rfl) v10 (.slice a2 l2.length c2) (by rfl) (by rfl) (.slice ao_FP T2.length c_FP) w_FP (show _ = _ from R_FP) ?_)
            | (go_at_call 14; (with_reducible refine Calls.mono q_FP_n ?_); rintro e wp ⟨hbp, hpp⟩; obtain ⟨ao1, n1, cc1, y1, a1, rfl⟩ := paV_shape hpp hfu; have Bp := Below.thn c_FP_n hbp; have hWp := Bp.size; have hBW := c_FP_n.size; have F2 := F9_FP; have Fp := F2.up hbp; have gFW : X0.heap.size ≤ w10.heap.size := hX10.size; have fcp : wp.cell? ⟨w10.heap.size, 0, none⟩ = some (.int .i64 0) := Fp.cell 0; have fdp : wp.cell? ⟨w10.heap.size, 1, none⟩ = some (.int .i64 0) := Fp.cell 1; have fzp := Fp.frz 0; have fyp := Fp.frz 1; have fan1 := Nat.ne_of_lt Fp.lt; have fan2 := Ne.symm fan1; have fa0 := fun o => (Fp.up (below_alloc wp o)).cell 0; have faz0 := fun o => (Fp.up (below_alloc wp o)).frz 0; have fa1 := fun o => (Fp.up (below_alloc wp o)).cell 1; have faz1 := fun o => (Fp.up (below_alloc wp o)).frz 1; have P2 := P9_FP; have Pp := P2.up hbp; have gPW : X0.heap.size ≤ (w10.heap.size + 1) := Nat.le_succ_of_le hX10.size; have pcp : wp.cell? ⟨(w10.heap.size + 1), 0, none⟩ = some (.slice none 0 0) := Pp.cell 0; have pzp := Pp.frz 0; have pan1 := Nat.ne_of_lt Pp.lt; have pan2 := Ne.symm pan1; have pa0 := fun o => (Pp.up (below_alloc wp o)).cell 0; have paz0 := fun o => (Pp.up (below_alloc wp o)).frz 0)
            | fail)
          all_goals
            go_wp2_with fail
            go_meet
            case rel => first | (with_reducible exact rel5 hpp Bp hBW P2.lt F2.lt gPW gFW Pp Fp (by first | exact pf1 | exact pf2 | omega)) | (with_reducible exact rel3 hpp Bp hBW P2.lt gPW Pp) | (with_reducible exact rel4 hpp Bp hBW F2.lt gFW Fp) | (with_reducible exact rel1 hpp Bp hBW) | (with_reducible exact rel2 hpp Bp hBW)
        case rest =>
          obtain ⟨gp, gf, ao1, n1, cc1, y1, a1x, rfl, rfl, hgp, hgf, hR11, hH11, hB11, hpj⟩ := hcut
          generalize wc = w11 at *
          clear b_n B_n R_n c_n_n q_n_n c_n_P q_n_P c_n_F q_n_F c_n_PF q_n_PF c_n_FP q_n_FP b_P B_P R_P kP_P P9_P c_P_n q_P_n c_P_F q_P_F b_F B_F R_F kF_F F9_F c_F_n q_F_n c_F_P q_F_P b_PF B_PF R_PF kP_PF kF_PF P9_PF F9_PF c_PF_n q_PF_n b_FP B_FP R_FP kF_FP kP_FP F9_FP P9_FP c_FP_n q_FP_n HS
          have hrow2 := cut_row rdN _ _ _ hcut2
          have hfew2 := cut_few _ _ _ hcut2
          have hjn2 : 0 + 1 ≤ j2 ∧ j2 < ms2.length := by
            have := gd_prog (mf ms2) ⟨max 32768 0, max 32768 0, max 32768 0⟩ hrow2.ends F2 [] 0 hrow2.pos (by omega)
            rw [hpr2] at this
            exact this
          obtain ⟨wg1, wg2, -, -⟩ := wider (mf ms2) ⟨max 32768 0, max 32768 0, max 32768 0⟩ (by decide) (by decide) hpr2
          have hgl2 : hs.length ≤ j2 := by
            obtain ⟨new, new', e, hnj, _⟩ := prog_b (ρ := fun a b => b = a) (s := 0) (mf ms2) (mf ms2) ⟨max 32768 0, max 32768 0, max 32768 0⟩ _ [] [] _ _ _ hpr2 (fun _ _ => ⟨rfl, rfl, rfl, rfl, rfl⟩) (by simpa using wg1)
            rw [List.nil_append] at e
            subst e
            omega
          obtain ⟨mj, hs', kj, hcj, hqj, hli⟩ := joined rdN ⟨max 32768 0, max 32768 0, max 32768 0⟩ l1 l2 ms ms2 (show _ = _ from HC) hcut2 F (show _ = _ from HP) (by rw [← show F2 = _ from HF2]; exact hpr2) hjn.2 hjn2.2 (by show ((gs.length + hs.length : Nat) : Int) ≤ max 32768 0; omega)
          rw [← show T2 = _ from HT2] at hcj
          have hrowj := cut_row rdN _ _ _ hcj
          have hfewj := cut_few _ _ _ hcj
          have hgd := gd_prog (mf mj) ⟨max 32768 0, max 32768 0, max 32768 0⟩ hrowj.ends F [] 0 hrowj.pos (by omega)
          rw [hqj] at hgd
          have hkj : 0 + 1 ≤ kj ∧ kj < mj.length := hgd
          obtain ⟨ao', c', e', hflj, hlcj⟩ := paV_okc hpj (by unfold cT; omega) hcj hqj
          cases e'
          have hll : hs.length = hs'.length := hli.length
          obtain ⟨wj1, wj2, -, -⟩ := wider (mf mj) ⟨max 32768 0, max 32768 0, max 32768 0⟩ (by decide) (by decide) hqj
          have hszj : ∀ g ∈ gs ++ hs', szE g.body ≤ 1073741824 := by
            have := sz_prog (mf mj) ⟨max 32768 0, max 32768 0, max 32768 0⟩ _ _ _ _ _ hqj (by simp)
            intro g hg
            have := this g hg
            omega
          have hpmj : ∀ g ∈ gs ++ hs', g.pms.length ≤ 9223372036854775807 := by
            have := (mxA_fit ⟨max 32768 0, max 32768 0, max 32768 0⟩ (by decide) (gs ++ hs')).2 wj2
            intro g hg
            have := this g hg
            unfold FitA at this
            have h32 : (max 32768 0 : Int) = 32768 := by decide
            simp only [h32] at this
            omega
          obtain ⟨q0, qn, eq0, hq0⟩ := prog_first hpr2
          have hq0l : q0.pos ≤ 32768 := by
            rw [hq0]
            have := hrow2.le (t := 0) hrow2.pos
            omega
          have hgs' := prog_some _ _ _ _ _ _ _ hpr2
          have hne : gs ++ hs' ≠ [] := by
            intro e
            have := congrArg List.length e
            rw [List.length_append, List.length_nil] at this
            omega
          obtain ⟨g, cs, rfl, hgA, hgl9, hrg, hfs⟩ := hflj.resolve_left hne
          obtain ⟨n, hn⟩ : ∃ n, n = (gs ++ hs').length := ⟨_, rfl⟩
          have hn2 : n = gs.length + hs'.length := by rw [hn, List.length_append]
          rw [← hn] at hR11 hlcj
          have hP11 := hP7.up hB11
          have hQ11 := hQ7.up hB11
          have hflg := hflj.take
          have hflh := hflj.drop
          have hflp := (hfl7.up hB11).fr
          have hflq := (hflb7.up hB11).fr
          obtain ⟨y0, yn, ey, hyp⟩ : ∃ y0 yn, hs' = y0 :: yn ∧ y0.pos = q0.pos + (l1.length + 1) := by
            rw [eq0] at hli
            cases hli with
            | cons h1 h2 => exact ⟨_, _, rfl, h1.pos⟩
          have hyc : w11.cell? ⟨g, gs.length * 11 + 10, none⟩ = some (.int .i64 y0.pos) := by
            obtain ⟨g', off, vs, e, _, hr, hf⟩ := hflh.row 0 (by omega)
            cases e
            have := hr 10 _ (fn_pos hf)
            rw [ey] at this
            rw [Nat.zero_mul, Nat.add_zero] at this
            exact this
          obtain ⟨g2, o2, hao2, hqc⟩ : ∃ g2 o2, ao2 = some ⟨g2, o2, none⟩ ∧ w11.cell? ⟨g2, o2 + 10, none⟩ = some (.int .i64 q0.pos) := by
            obtain ⟨g', off, vs, e, _, hr, hf⟩ := hflq.row 0 (by omega)
            have := hr 10 _ (fn_pos hf)
            rw [eq0, Nat.zero_mul, Nat.add_zero] at this
            exact ⟨g', off, e, this⟩
          subst hao2
          obtain ⟨yp, hyp'⟩ : ∃ yp, yp = y0.pos := ⟨_, rfl⟩
          obtain ⟨qp, hqp'⟩ : ∃ qp, qp = q0.pos := ⟨_, rfl⟩
          rw [← hyp'] at hyc hyp
          rw [← hqp'] at hqc hyp hq0l
          have b5 : ((yp : Int) == (qp : Int) + (l1.length : Int) + 1) = true := by rw [beq_iff_eq]; omega
          have u1 : IntKind.i64.wrap ((qp : Int) + (l1.length : Int)) = (qp : Int) + (l1.length : Int) := i64_smallJ _ (by omega) (by omega)
          have u2 : IntKind.i64.wrap ((qp : Int) + (l1.length : Int) + 1) = (qp : Int) + (l1.length : Int) + 1 := i64_smallJ _ (by omega) (by omega)
          have hn3 : n - gs.length = hs'.length := by omega
          have j1 := fun W => run_slice_hiF g 0 n cc1 gs.length (by omega) W
          have j2 : ∀ W, (Instr.slice 40 (.slice (some ⟨g, 0, none⟩) n cc1) (some (.int .i64 (gs.length : Int))) none none).run Tryz.prog W = .ok (.slice (some ⟨g, gs.length * 11, none⟩) hs'.length (cc1 - gs.length)) W := fun W => by
            have := run_slice_loF g 0 n cc1 gs.length (by omega) hlcj (by omega) W
            rw [hn3, Nat.zero_add] at this
            exact this
          have hszg : ∀ x ∈ gs, szE x.body ≤ 1073741824 := fun x hx => hszj x (List.mem_append.2 (.inl hx))
          have hpmg : ∀ x ∈ gs, x.pms.length ≤ 9223372036854775807 := fun x hx => hpmj x (List.mem_append.2 (.inl hx))
          have hszh : ∀ x ∈ hs', szE x.body ≤ 1073741824 := fun x hx => hszj x (List.mem_append.2 (.inr hx))
          have hpmh : ∀ x ∈ hs', x.pms.length ≤ 9223372036854775807 := fun x hx => hpmj x (List.mem_append.2 (.inr hx))
          have hrf : LiR (FnR (pq true)) gs gs := LiR.refl (FnR.refl fun _ _ => rfl) gs
          have hrh : LiR (FnR (pq false)) hs' hs := LiR.flip (fun _ _ h => FnR.flip (fun _ _ _ e => by cases e) h) hli
          have p0 := hP11.cell 0
          have q0c := hQ11.cell 0
          have r0 := hR11.cell 0
          have s0 := hH11.cell 0
          have r0a := fun o => (hR11.up (below_alloc w11 o)).cell 0
          have p0a := fun o => (hP11.up (below_alloc w11 o)).cell 0
          have b1 : ((gs.length : Int) == 0) = false := by rw [beq_eq_false_iff_ne]; omega
          have b2 : ((hs.length : Int) == 0) = false := by rw [beq_eq_false_iff_ne]; omega
          have b3 : ((n : Int) != (gs.length : Int) + (hs.length : Int)) = false := by simp; omega
          have q14 := below_two w11 (prg (.slice (some ⟨g, 0, none⟩) gs.length cc1)) (prg (.slice (some ⟨g, gs.length * 11, none⟩) hs'.length (cc1 - gs.length)))
          have hX14 := (Bk.new w11 42 #[.slice (some ⟨g, 0, none⟩) gs.length cc1]).up (below_alloc _ (prg (.slice (some ⟨g, gs.length * 11, none⟩) hs'.length (cc1 - gs.length))))
          have hY14 := Bk.newAt (w := w11.alloc (prg (.slice (some ⟨g, 0, none⟩) gs.length cc1))) (n := w11.heap.size + 1) 42 #[.slice (some ⟨g, gs.length * 11, none⟩) hs'.length (cc1 - gs.length)] (by simp)
          have hP14 := hP11.up q14
          have hQ14 := hQ11.up q14
          have y14 := (q14.cell (p := ⟨g, gs.length * 11 + 10, none⟩) (cell_lt hyc)).trans hyc
          have z14 := (q14.cell (p := ⟨g2, o2 + 10, none⟩) (cell_lt hqc)).trans hqc
          have hflg14 := hflg.up q14
          have hflh14 := hflh.up q14
          have hflp14 := hflp.up q14
          have hflq14 := hflq.up q14
          have hB14 := Below.thn hB7 (Below.thn hB11 q14)
          have i1 : (0 : Int) < (hs'.length : Int) := by omega
          have i2 : (0 : Int) < (hs.length : Int) := by omega
          have i3 : 0 < hs'.length := by omega
          have i4 : 0 < hs.length := by omega
          have hlh : hs'.length ≤ 9223372036854775807 := by omega
          clear hn hn2 hyp hyp' hqp' hq0 eq0 ey hli hszj hpmj hflj hfs hrg hgA hpj hqj hcj hll hX10
          go_upto_region 14 with fail
          obtain ⟨X14, hXe⟩ : ∃ X14, X14 = (w11.alloc (prg (.slice (some ⟨g, 0, none⟩) gs.length cc1))).alloc (prg (.slice (some ⟨g, gs.length * 11, none⟩) hs'.length (cc1 - gs.length))) := ⟨_, rfl⟩
          rw [← hXe] at hX14 hY14 hP14 hQ14 y14 z14 hflg14 hflh14 hflp14 hflq14 hB14 ⊢
          clear hXe
          have HS14 : Hid (∀ W, Below X14.heap.size X14 W → W.cell? ⟨w11.heap.size, 0, none⟩ = some (.slice (some ⟨g, 0, none⟩) gs.length cc1) ∧ W.cell? ⟨w4.heap.size, 0, none⟩ = some (.slice ao gs.length c) ∧ W.cell? ⟨w11.heap.size + 1, 0, none⟩ = some (.slice (some ⟨g, gs.length * 11, none⟩) hs'.length (cc1 - gs.length)) ∧ W.cell? ⟨w6.heap.size, 0, none⟩ = some (.slice (some ⟨g2, o2, none⟩) hs.length cc2) ∧ W.cell? ⟨g, gs.length * 11 + 10, none⟩ = some (.int .i64 yp) ∧ W.cell? ⟨g2, o2 + 10, none⟩ = some (.int .i64 qp)) :=
            fun W hb => ⟨(hX14.up hb).cell 0, (hP14.up hb).cell 0, (hY14.up hb).cell 0, (hQ14.up hb).cell 0, (hb.cell (p := ⟨g, gs.length * 11 + 10, none⟩) (cell_lt y14)).trans y14, (hb.cell (p := ⟨g2, o2 + 10, none⟩) (cell_lt z14)).trans z14⟩
          have bD : Below X14.heap.size X14 (World.drew X14) := (Below.refl _ X14).drew
          have sm1 := same4_fr true gs gs hszg hpmg (by omega) hrf (World.drew X14) _ _ (some ⟨g, 0, none⟩) ao cc1 c (hflg14.up bD) (hflp14.up bD)
          have sD := (show ∀ W, _ from HS14) (World.drew X14) bD
          go_region_held3 (fun W => W.cell? ⟨w11.heap.size, 0, none⟩ = some (.slice (some ⟨g, 0, none⟩) gs.length cc1) ∧ W.cell? ⟨w4.heap.size, 0, none⟩ = some (.slice ao gs.length c) ∧ W.cell? ⟨w11.heap.size + 1, 0, none⟩ = some (.slice (some ⟨g, gs.length * 11, none⟩) hs'.length (cc1 - gs.length)) ∧ W.cell? ⟨w6.heap.size, 0, none⟩ = some (.slice (some ⟨g2, o2, none⟩) hs.length cc2) ∧ W.cell? ⟨g, gs.length * 11 + 10, none⟩ = some (.int .i64 yp) ∧ W.cell? ⟨g2, o2 + 10, none⟩ = some (.int .i64 qp)) (first | (with_reducible exact sD) | (with_reducible exact s15) | (with_reducible exact s16) | fail) (first
            | (go_at_call 15; (with_reducible refine Calls.mono sm1 ?_); rintro e w15 ⟨rfl, hb15⟩; have b15 := Below.thn bD hb15; have s15 := (show ∀ W, _ from HS14) w15 b15; have sm2 := same4_fr false hs' hs hszh hpmh hlh hrh w15 _ _ (some ⟨g, gs.length * 11, none⟩) (some ⟨g2, o2, none⟩) (cc1 - gs.length) cc2 (hflh14.up b15) (hflq14.up b15))
            | (go_at_call 15; (with_reducible refine Calls.mono sm2 ?_); rintro e w16 ⟨rfl, hb16⟩; have b16 := Below.thn b15 hb16; have s16 := (show ∀ W, _ from HS14) w16 b16)
            | fail)
          go_wp2
          go_ret
          exact ⟨rfl, Below.thn hB14 b16⟩
end Go.Proofs.YtflennpocpbbpaaGreatDoor
