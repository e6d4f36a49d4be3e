/-
  The walk of LangBracketed.
-/
import Derived.Test.YtndgglhppoijnaaGreatDoorUd
import Derived.Test.YtndgglhppoijnaaGreatDoorUb
import Derived.Test.YtndgglhppoijnaaGreatDoorBb
import Derived.Test.YtndgglhppoijnaaGreatDoorGj
namespace Go.Proofs.YtndgglhppoijnaaGreatDoor
open Go.RowKit
set_option maxRecDepth 100000

set_option maxHeartbeats 2000000 in
theorem langBracketed_any (a1 : Option Addr) (c1 : Nat) (l : List UInt8) (n : Int) (_hc1 : l.length ≤ c1) (hn1 : a1 = none → c1 = 0) (hl : l.length ≤ 140737488351232) (w : World) (hG : Gl w) (hE : Env w) (h1 : Bd w a1 l) :
    Calls Tryz.prog 3 #[.slice a1 l.length c1, .int .i64 n] w fun e w' => e = .returned (.bool true) ∧ Below w.heap.size w w' := by
  obtain ⟨F, hF⟩ : ∃ F, F = 12 * (l.length + 200) + 9 := ⟨_, rfl⟩
  go_enter Tryz.func3, Tryz.ntmps3
  go_wp2_with fail
  refine (awake4_any _ hG hE).mono ?_
  rintro e w1 ⟨rfl, hb1⟩
  go_wp2_with fail
  refine (wide_any w1).mono ?_
  rintro e w2 ⟨rfl, hb2⟩
  have hB2 := Below.thn hb1 hb2
  have hL3 := Bk.new w2 25 LW
  have hB3 := Below.thn hB2 (below_alloc w2 (.cells LW 25))
  go_upto_region 4 with fail
  generalize w2.alloc (.cells #[.int .i64 32768, .int .i64 32768, .int .i64 32768, .int .i64 32768] 25) = X0 at *
  go_cut [6, 7] (fun p q wx => PF2 X0 (b6 ++ l ++ e2) 32768 32768 32768 32768 F p q wx)
  case first =>
    refine wp_region_any (by kernel_rfl) ?_
    refine region4 (hG.up hB3) (env_keep hE hB3) (h1.up hB3) hn1 hl hL3 (fuel_ok _ _ F (by simp; omega)) (Below.refl _ _).drew ?_
    intro v6 v7 v20 v21 v22 v23 v24 v25 v26 v27 v28 v29 v30 wx hpf
    unfold fr4
    go_wp2_with fail
    go_meet
    case rel => exact hpf
  case rest =>
    obtain ⟨w4, hw4⟩ : ∃ w4, w4 = wc := ⟨_, rfl⟩
    subst hw4
    obtain ⟨gp, gf, ao1, n1, k1, y1, x1, rfl, rfl, hgp, hgf, hP, hF1, hB4, hpa⟩ := hcut
    have hL4 := hL3.up hB4
    have hz4 := hB4.size
    have hB4w := Below.thn hB3 hB4
    have hfu : ∀ ms, cut rdN (b6 ++ l ++ e2) 0 = .ok ms → progL (mf ms) ⟨max 32768 0, max 32768 0, max 32768 0⟩ F [] 0 ≠ .out := fuel_ok _ _ F (by simp; omega)
    have p0 : w4.cell? ⟨gp, 0, none⟩ = some (.slice ao1 n1 k1) := hP.cell 0
    have f0 : w4.cell? ⟨gf, 0, none⟩ = some (.int .i64 y1) := hF1.cell 0
    rcases paV_two hpa hfu with ⟨y, x, hy, he⟩ | ⟨hle, ms, gs, j, hct, hpr, ao', c', he, hfl⟩
    · unfold noneV at he
      simp only [Ending.returned.injEq, Value.tuple.injEq, Array.mk.injEq, List.cons.injEq, Value.agg.injEq, Value.slice.injEq, Value.int.injEq, true_and, and_true] at he
      obtain ⟨⟨rfl, rfl, rfl⟩, rfl, rfl⟩ := he
      have b0 : (y1 == 0) = false := by rw [beq_eq_false_iff_ne]; exact hy
      go_wp2
      go_ret
      exact ⟨rfl, hB4w⟩
    · have e1 : ao1 = ao' ∧ n1 = gs.length ∧ k1 = c' ∧ y1 = 0 := by
        simp only [Ending.returned.injEq, Value.tuple.injEq, Array.mk.injEq, List.cons.injEq, Value.agg.injEq, Value.slice.injEq, Value.int.injEq, true_and, and_true] at he
        exact ⟨he.1.1, he.1.2.1, he.1.2.2, he.2.1⟩
      clear he
      obtain ⟨rfl, rfl, rfl, rfl⟩ := e1
      by_cases hg1 : gs.length = 1
      · by_cases hl3 : l.length ≤ 30000
        · obtain ⟨b, es, rfl, hbl, hrg, hex⟩ := FlW.body hfl 0 (by omega)
          obtain ⟨g, rfl⟩ : ∃ g, gs = [g] := List.length_eq_one_iff.1 hg1
          have hex : ExW w4 (fun b => X0.heap.size ≤ b) g.body es := hex
          obtain ⟨z0, z1, z2, z3, z4, z5, z6, rfl⟩ := list7 hex.len
          have r0 : w4.cell? ⟨b, 3, none⟩ = some z0 := hrg 0 _ rfl
          have r1 : w4.cell? ⟨b, 4, none⟩ = some z1 := hrg 1 _ rfl
          have r2 : w4.cell? ⟨b, 5, none⟩ = some z2 := hrg 2 _ rfl
          have r3 : w4.cell? ⟨b, 6, none⟩ = some z3 := hrg 3 _ rfl
          have r4 : w4.cell? ⟨b, 7, none⟩ = some z4 := hrg 4 _ rfl
          have r5 : w4.cell? ⟨b, 8, none⟩ = some z5 := hrg 5 _ rfl
          have r6 : w4.cell? ⟨b, 9, none⟩ = some z6 := hrg 6 _ rfl
          have hA0 := Bk.new w4 41 #[.int .i64 0, .string ⟨#[]⟩, .string ⟨#[]⟩, .int .i64 0, .complex .f64 0 0, .slice none 0 0, .int .i64 0]
          have b3 : decide ((30000 : Int) < (l.length : Int)) = false := by simp; omega
          go_upto_region 8 with (refine wpList_storeN rfl 41 (.tmp 8) (.tmp 58) rfl w4.heap.size 0 [z0, z1, z2, z3, z4, z5, z6] rfl rfl hA0 (Nat.le_refl 7) Tryz.infoE hex.one ?_; intro w5 hA5 ho5)
          clear r0 r1 r2 r3 r4 r5 r6
          have hA5' : Bk w5 w4.heap.size 41 [z0, z1, z2, z3, z4, z5, z6] := hA5
          have hB5 : Below w4.heap.size w4 w5 := (below_alloc w4 _).trans (ho5.below (Nat.le_refl _))
          have hB5w := Below.thn hB4w hB5
          have hL5 := hL4.up hB5
          have hx5 := hex.up hB5
          clear p0 f0 hfl hrg hpa hA0 hA5 hL3 hb1 hb2
          obtain ⟨i, hi8, m1, m2, m3⟩ := mod8 n
          go_upto_region 11 with fail
          have hB6 := below_two w5 (.cells #[.string ⟨#[40]⟩, .string ⟨#[40, 40]⟩, .string ⟨#[49, 43, 40]⟩, .string ⟨#[103, 40, 49, 44, 40]⟩, .string ⟨#[110, 111, 116, 40, 40]⟩, .string ⟨#[108, 101, 116, 32, 120, 32, 78, 61, 40]⟩, .string ⟨#[99, 97, 115, 101, 32, 40]⟩, .string ⟨#[105, 102, 32, 116, 114, 117, 101, 32, 116, 104, 101, 110, 32, 40]⟩] 9) (.cells #[.string ⟨#[41]⟩, .string ⟨#[41, 41]⟩, .string ⟨#[41]⟩, .string ⟨#[41, 41]⟩, .string ⟨#[41, 41]⟩, .string ⟨#[41, 32, 105, 110, 32, 49]⟩, .string ⟨#[41, 32, 111, 102, 32, 110, 105, 108, 45, 62, 49, 124, 104, 58, 116, 45, 62, 50]⟩, .string ⟨#[41, 32, 101, 108, 115, 101, 32, 49]⟩] 9)
          have hT1 := (Bk.new w5 9 #[.string ⟨#[40]⟩, .string ⟨#[40, 40]⟩, .string ⟨#[49, 43, 40]⟩, .string ⟨#[103, 40, 49, 44, 40]⟩, .string ⟨#[110, 111, 116, 40, 40]⟩, .string ⟨#[108, 101, 116, 32, 120, 32, 78, 61, 40]⟩, .string ⟨#[99, 97, 115, 101, 32, 40]⟩, .string ⟨#[105, 102, 32, 116, 114, 117, 101, 32, 116, 104, 101, 110, 32, 40]⟩]).up (below_alloc _ (.cells #[.string ⟨#[41]⟩, .string ⟨#[41, 41]⟩, .string ⟨#[41]⟩, .string ⟨#[41, 41]⟩, .string ⟨#[41, 41]⟩, .string ⟨#[41, 32, 105, 110, 32, 49]⟩, .string ⟨#[41, 32, 111, 102, 32, 110, 105, 108, 45, 62, 49, 124, 104, 58, 116, 45, 62, 50]⟩, .string ⟨#[41, 32, 101, 108, 115, 101, 32, 49]⟩] 9))
          have hT2 := Bk.newAt (w := w5.alloc (.cells #[.string ⟨#[40]⟩, .string ⟨#[40, 40]⟩, .string ⟨#[49, 43, 40]⟩, .string ⟨#[103, 40, 49, 44, 40]⟩, .string ⟨#[110, 111, 116, 40, 40]⟩, .string ⟨#[108, 101, 116, 32, 120, 32, 78, 61, 40]⟩, .string ⟨#[99, 97, 115, 101, 32, 40]⟩, .string ⟨#[105, 102, 32, 116, 114, 117, 101, 32, 116, 104, 101, 110, 32, 40]⟩] 9)) (n := w5.heap.size + 1) 9 #[.string ⟨#[41]⟩, .string ⟨#[41, 41]⟩, .string ⟨#[41]⟩, .string ⟨#[41, 41]⟩, .string ⟨#[41, 41]⟩, .string ⟨#[41, 32, 105, 110, 32, 49]⟩, .string ⟨#[41, 32, 111, 102, 32, 110, 105, 108, 45, 62, 49, 124, 104, 58, 116, 45, 62, 50]⟩, .string ⟨#[41, 32, 101, 108, 115, 101, 32, 49]⟩] (by simp)
          obtain ⟨X1, hX1⟩ : ∃ X1, X1 = (w5.alloc (.cells #[.string ⟨#[40]⟩, .string ⟨#[40, 40]⟩, .string ⟨#[49, 43, 40]⟩, .string ⟨#[103, 40, 49, 44, 40]⟩, .string ⟨#[110, 111, 116, 40, 40]⟩, .string ⟨#[108, 101, 116, 32, 120, 32, 78, 61, 40]⟩, .string ⟨#[99, 97, 115, 101, 32, 40]⟩, .string ⟨#[105, 102, 32, 116, 114, 117, 101, 32, 116, 104, 101, 110, 32, 40]⟩] 9)).alloc (.cells #[.string ⟨#[41]⟩, .string ⟨#[41, 41]⟩, .string ⟨#[41]⟩, .string ⟨#[41, 41]⟩, .string ⟨#[41, 41]⟩, .string ⟨#[41, 32, 105, 110, 32, 49]⟩, .string ⟨#[41, 32, 111, 102, 32, 110, 105, 108, 45, 62, 49, 124, 104, 58, 116, 45, 62, 50]⟩, .string ⟨#[41, 32, 101, 108, 115, 101, 32, 49]⟩] 9) := ⟨_, rfl⟩
          rw [← hX1] at hB6 hT1 hT2 ⊢
          clear hX1
          have hB6w := Below.thn hB5w hB6
          go_cut [12] (fun v wx => OwnM wx X1.heap.size v (bx1 i ++ l ++ bx2 i) ∧ Below X1.heap.size X1 wx)
          case first =>
            refine wp_region_any (by kernel_rfl) ?_
            refine region11 (X0 := X1) (i := i) (t1 := w5.heap.size) (t2 := w5.heap.size + 1) (t := l) (a1 := a1) (c1 := c1) hi8 (h1.up hB6w) hn1 hl3 (by show 86 ≤ 129; decide) rfl rfl rfl rfl ?_ ?_ (Below.refl _ _).drew ?_
            · intro W hW
              have h8 : i = 0 ∨ i = 1 ∨ i = 2 ∨ i = 3 ∨ i = 4 ∨ i = 5 ∨ i = 6 ∨ i = 7 := by omega
              rcases h8 with rfl | rfl | rfl | rfl | rfl | rfl | rfl | rfl <;> exact (hT1.up hW).cell _
            · intro W hW
              have h8 : i = 0 ∨ i = 1 ∨ i = 2 ∨ i = 3 ∨ i = 4 ∨ i = 5 ∨ i = 6 ∨ i = 7 := by omega
              rcases h8 with rfl | rfl | rfl | rfl | rfl | rfl | rfl | rfl <;> exact (hT2.up hW).cell _
            · intro a W hO hW hM
              obtain ⟨y12, y71, y72, y73, y74, y75, y76, y77, y78, y79, y80, y81, y82, y83, y84, y85, e12, rfl⟩ := off_lit hO
              rw [e12] at hM
              go_wp2_with fail
              go_meet
              case rel => exact ⟨hM, hW⟩
          case rest =>
            obtain ⟨hM, hB7⟩ := hcut
            obtain ⟨T, hT⟩ : ∃ T, T = bx1 i ++ l ++ bx2 i := ⟨_, rfl⟩
            rw [← hT] at hM
            obtain ⟨ao2, cap2, rfl, hbd2, hc2⟩ := hM.bd
            have hB7w := Below.thn hB6w hB7
            have hL7 := (hL5.up hB6).up hB7
            have hx7 := (hx5.up hB6).up hB7
            have hA7 := (hA5'.up hB6).up hB7
            have hz7 := hB7.size
            obtain ⟨k0, k1, k2, k3⟩ := Bk.four (show Bk wc w2.heap.size 25 [_, _, _, _] from hL7)
            have hfew := cut_few _ _ _ hct
            simp only [List.length_append, List.length_cons, List.length_nil] at hfew
            have hms : (ms.length : Int) ≤ max 32768 0 := by omega
            have e1 : b6 ++ l ++ e2 = 102 :: 40 :: 41 :: 58 :: 78 :: 61 :: (l ++ 10 :: [59]) := rfl
            rw [e1] at hct
            obtain ⟨ms2, x, e', j', hct2, hxr, hprt, f0, hev⟩ := bracketed_rd (E := l) (ms1 := ms) (L := ⟨max 32768 0, max 32768 0, max 32768 0⟩) (f := F) (g := g) (j := j) hct hpr hms (show (0 : Int) < max 32768 0 by decide) i hi8
            have hTe : T = 102 :: 40 :: 41 :: 58 :: 78 :: 61 :: ahB i ++ (l ++ 10 :: (bkB i ++ [59])) := by rw [hT]; simp [List.append_assoc]
            rw [← hTe] at hct2
            have hlT : T.length ≤ 32000 := by
              rw [hT]
              have h8 : i = 0 ∨ i = 1 ∨ i = 2 ∨ i = 3 ∨ i = 4 ∨ i = 5 ∨ i = 6 ∨ i = 7 := by omega
              rw [List.length_append, List.length_append]
              rcases h8 with rfl | rfl | rfl | rfl | rfl | rfl | rfl | rfl <;> simp [ahB, bkB] <;> omega
            obtain ⟨F2, hF2⟩ : ∃ F2, F2 = f0 + (12 * T.length + 100) := ⟨_, rfl⟩
            have hpr2 := hev F2 (by omega)
            clear hev hTe hfew hT1 hT2 hpr hct hfu hle hM e1 hms hT
            go_wp2_with fail
            refine (langParse_all ao2 cap2 T hc2 32768 32768 32768 32768 (by decide) _ (hG.up hB7w) (env_keep hE hB7w) hbd2 F2 (fuel_ok _ _ F2 (by omega))).mono ?_
            rintro e w8 ⟨hb8, hpa8⟩
            obtain ⟨ao8, c8, rfl, hfl8, hlc8⟩ := paV_okc hpa8 (by unfold cT; omega) hct2 hpr2
            obtain ⟨b8, es8, rfl, hbl8, hrg8, hex8⟩ := FlW.body hfl8 0 (Nat.zero_lt_one)
            have hex8 : ExW w8 (fun b => wc.heap.size ≤ b) x es8 := hex8
            obtain ⟨y0, y1, y2, y3, y4, y5, y6, rfl⟩ := list7 hex8.len
            have hszx : szE x ≤ 1073741824 := by
              have h1 := sz_prog _ _ F2 [] 0 _ j' hpr2 (by simp) ⟨[102], [], 1, x, (mf ms2 0).at_⟩ (by simp)
              have hrow2 := cut_row rdN _ _ _ hct2
              have h3 := cut_few _ _ _ hct2
              have h2 := gd_prog (mf ms2) ⟨max 32768 0, max 32768 0, max 32768 0⟩ hrow2.ends F2 [] 0 hrow2.pos (by omega)
              rw [hpr2] at h2
              have h4 : 0 + 1 ≤ j' ∧ j' < ms2.length := h2
              have h5 : szE x ≤ j' := h1
              omega
            clear hpa8 hpr2 hct2 hfl8
            have hx8 := hx7.up hb8
            have hA8 := hA7.up hb8
            have hB8w := Below.thn hB7w hb8
            go_upto_region 13 with fail
            have q9 := below_two w8 (prg (.slice (some ⟨b8, 0, none⟩) 1 c8)) (flt 0 0)
            have hP9 := (Bk.new w8 29 #[.slice (some ⟨b8, 0, none⟩) 1 c8]).up (below_alloc _ (flt 0 0))
            have hF9 := Bk.newAt (w := w8.alloc (prg (.slice (some ⟨b8, 0, none⟩) 1 c8))) (n := w8.heap.size + 1) 32 #[.int .i64 0, .int .i64 0] (by simp)
            obtain ⟨W9, hW9⟩ : ∃ W9, W9 = (w8.alloc (prg (.slice (some ⟨b8, 0, none⟩) 1 c8))).alloc (flt 0 0) := ⟨_, rfl⟩
            rw [← hW9] at q9 hP9 hF9 ⊢
            clear hW9
            have p9 : W9.cell? ⟨w8.heap.size, 0, none⟩ = some (.slice (some ⟨b8, 0, none⟩) 1 c8) := hP9.cell 0
            have f9 : W9.cell? ⟨w8.heap.size + 1, 0, none⟩ = some (.int .i64 0) := hF9.cell 0
            have r0 : W9.cell? ⟨b8, 3, none⟩ = some y0 := (q9.cell hbl8).trans (hrg8 0 _ rfl)
            have r1 : W9.cell? ⟨b8, 4, none⟩ = some y1 := (q9.cell hbl8).trans (hrg8 1 _ rfl)
            have r2 : W9.cell? ⟨b8, 5, none⟩ = some y2 := (q9.cell hbl8).trans (hrg8 2 _ rfl)
            have r3 : W9.cell? ⟨b8, 6, none⟩ = some y3 := (q9.cell hbl8).trans (hrg8 3 _ rfl)
            have r4 : W9.cell? ⟨b8, 7, none⟩ = some y4 := (q9.cell hbl8).trans (hrg8 4 _ rfl)
            have r5 : W9.cell? ⟨b8, 8, none⟩ = some y5 := (q9.cell hbl8).trans (hrg8 5 _ rfl)
            have r6 : W9.cell? ⟨b8, 9, none⟩ = some y6 := (q9.cell hbl8).trans (hrg8 6 _ rfl)
            have hZ9 := Bk.new W9 41 #[.int .i64 0, .string ⟨#[]⟩, .string ⟨#[]⟩, .int .i64 0, .complex .f64 0 0, .slice none 0 0, .int .i64 0]
            have hex9 := hex8.up q9
            have hx9 := hx8.up q9
            have hA9 := hA8.up q9
            have hB9w := Below.thn hB8w q9
            go_upto_region 16 with (refine wpList_storeN rfl 41 (.tmp 15) (.tmp 105) rfl W9.heap.size 0 [y0, y1, y2, y3, y4, y5, y6] rfl rfl hZ9 (Nat.le_refl 7) Tryz.infoE hex9.one ?_; intro wx hAx hox)
            clear r0 r1 r2 r3 r4 r5 r6 p9 f9 hZ9 hP9 hF9
            have hAx' : Bk wx W9.heap.size 41 [y0, y1, y2, y3, y4, y5, y6] := hAx
            have hBx : Below W9.heap.size W9 wx := (below_alloc W9 _).trans (hox.below (Nat.le_refl _))
            have hBxw := Below.thn hB9w hBx
            have hexx := hex9.up hBx
            have hxx := hx9.up hBx
            have hAe := hA9.up hBx
            have hB16 := below_alloc wx (.cells #[.int .i64 (-1), .int .i64 (-1), .int .i64 1, .int .i64 1, .int .i64 0, .int .i64 0, .int .i64 0, .int .i64 1] 3)
            have hBw := Below.thn hBxw hB16
            obtain ⟨c0, c1', c2, c3, c4, c5, c6⟩ := Bk.seven (show Bk (wx.alloc (.cells #[.int .i64 (-1), .int .i64 (-1), .int .i64 1, .int .i64 1, .int .i64 0, .int .i64 0, .int .i64 0, .int .i64 1] 3)) W9.heap.size 41 [_, _, _, _, _, _, _] from hAx'.up hB16)
            obtain ⟨d0, d1, d2, d3, d4, d5, d6⟩ := Bk.seven (show Bk (wx.alloc (.cells #[.int .i64 (-1), .int .i64 (-1), .int .i64 1, .int .i64 1, .int .i64 0, .int .i64 0, .int .i64 0, .int .i64 1] 3)) w4.heap.size 41 [_, _, _, _, _, _, _] from hAe.up hB16)
            have hexy := hexx.up hB16
            have hxy := hxx.up hB16
            by_cases hi2 : i < 2
            · have hxe : ExR (pq false) x g.body := by
                have hp2 : x = e' := by unfold Part at hprt; rw [if_pos hi2] at hprt; exact hprt
                rw [hp2]
                exact hxr.flip fun _ _ _ h => by cases h
              have hcall := sameExpr_any false _ x g.body (Nat.le_refl _) hszx hxe (wx.alloc (.cells #[.int .i64 (-1), .int .i64 (-1), .int .i64 1, .int .i64 1, .int .i64 0, .int .i64 0, .int .i64 0, .int .i64 1] 3)) _ _ _ _ hexy hxy
              have h01 : i = 0 ∨ i = 1 := by omega
              rcases h01 with rfl | rfl
              · go_wp2_with (go_at_call 9; refine hcall.mono ?_; rintro e wy ⟨rfl, hby⟩)
                go_ret
                exact ⟨rfl, Below.thn hBw hby⟩
              · go_wp2_with (go_at_call 9; refine hcall.mono ?_; rintro e wy ⟨rfl, hby⟩)
                go_ret
                exact ⟨rfl, Below.thn hBw hby⟩
            · obtain ⟨op, na, nb, ty, p, q, xs, kp, rfl, hxs⟩ : ∃ op a b t p q xs k, x = .mk op a b t p q xs k ∧ xs[ptN i]? = some e' := by
                unfold Part at hprt
                rw [if_neg hi2] at hprt
                exact hprt
              obtain ⟨hlt, _⟩ := List.getElem?_eq_some_iff.1 hxs
              have hgd : xs.getD (ptN i) ed = e' := by simp [List.getD_eq_getElem?_getD, hxs]
              have hsz3 : szE e' ≤ 1073741824 := by
                have := szE_at xs (ptN i) hlt
                rw [hgd] at this
                rw [szE_mk] at hszx
                omega
              clear hexx hex9 hex8 hAx' hAx hrg8
              cases hexy
              rename_i ao3 cc3 hel
              obtain ⟨b3, off3, rfl⟩ := hel.place (by intro e; rw [e] at hlt; simp at hlt)
              obtain ⟨vs3, hr3, he3⟩ := hel.at (ptN i) hlt
              rw [hgd] at he3
              obtain ⟨t0, t1, t2, t3, t4, t5, t6, rfl⟩ := list7 he3.len
              have hxe : ExR (pq false) e' g.body := hxr.flip fun _ _ _ h => by cases h
              obtain ⟨WY, hWY⟩ : ∃ WY, WY = (wx.alloc (.cells #[.int .i64 (-1), .int .i64 (-1), .int .i64 1, .int .i64 1, .int .i64 0, .int .i64 0, .int .i64 0, .int .i64 1] 3)) := ⟨_, rfl⟩
              have HA : Hid (Bk WY w4.heap.size 41 [z0, z1, z2, z3, z4, z5, z6]) := by rw [hWY]; exact hAe.up hB16
              obtain ⟨kk, hkk⟩ : ∃ kk, kk = ptN i := ⟨_, rfl⟩
              rw [← hkk] at hlt hr3
              rw [← hWY] at hr3 he3 hxy hBw c5 d0 d1 d2 d3 d4 d5 d6
              have hn3 : xs.length ≤ 1073741824 := by
                have := length_szL xs
                rw [szE_mk] at hszx
                omega
              have HC : Hid (∀ W, Below WY.heap.size WY W → Calls Tryz.prog 9 #[.agg #[t0, t1, t2, t3, t4, t5, t6], .agg #[z0, z1, z2, z3, z4, z5, z6], .bool false] W fun e w' => e = .returned (.bool true) ∧ Below W.heap.size W w') :=
                fun W hW => sameExpr_any false _ e' g.body (Nat.le_refl _) hsz3 hxe W _ _ _ _ (he3.up hW) (hxy.up hW)
              have H5 : Hid (∀ W, Below WY.heap.size WY W → W.cell? ⟨W9.heap.size, 5, none⟩ = some (.slice (some ⟨b3, off3, none⟩) xs.length cc3)) := fun W hW => (hW.cell (cell_lt c5)).trans c5
              have H3 : Hid (∀ W, Below WY.heap.size WY W → W.rangeAt b3 (off3 + kk * 7) [t0, t1, t2, t3, t4, t5, t6]) := fun W hW => range_keep hr3 (by simp) fun hl => hW.block _ hl
              have HD : Hid (∀ W, Below WY.heap.size WY W → W.rangeAt w4.heap.size 0 [z0, z1, z2, z3, z4, z5, z6]) := fun W hW => (HA.out.up hW).range 0 7
              have HB : Hid (Below w.heap.size w WY) := hBw
              have h8 : i = 2 ∨ i = 3 ∨ i = 7 ∨ i = 4 ∨ i = 5 ∨ i = 6 := by omega
              clear hr3 he3 hxy hBw hel hxs
              clear c0 c1' c2 c3 c4 c5 c6 d0 d1 d2 d3 d4 d5 d6
              rcases h8 with rfl | rfl | rfl | rfl | rfl | rfl
              all_goals
                go_upto_region 19 with fail
                rw [← hWY]
                clear hWY
                refine wp_region_any (by kernel_rfl) ?_
                refine region19 (X0 := WY) (k := kk) (by rw [hkk]; exact hlt) (by show 129 ≤ 129; decide) rfl rfl (by rw [hkk]; rfl) H5.out H3.out HD.out HC.out (Below.refl _ _).drew ?_
                intro a W hO hW e4
                have HE : Hid (Below w.heap.size w W) := Below.thn HB.out hW
                have hdf : a.defers = [] := hO.def_
                have e4' : a.tmps[4]?.getD undef = .bool true := by rw [← e4]; simp [ev, Act.eval]
                clear hO
                go_wp2_with fail
                exact bodyPost_ret (v := .bool true) (by simp only [results, Tryz.results3]; simp [go_sem, e4']) hdf ⟨rfl, HE.out⟩
        · have b3 : decide ((30000 : Int) < (l.length : Int)) = true := by simp; omega
          go_wp2
          go_ret
          exact ⟨rfl, hB4w⟩
      · have b1 : ((gs.length : Int) != 1) = true := by rw [bne_iff_ne]; omega
        clear hpa hct hpr hfl hfu hle hF
        clear hg1
        go_wp2
        go_ret
        exact ⟨rfl, hB4w⟩
end Go.Proofs.YtndgglhppoijnaaGreatDoor
