/-
  Joins and meets of rising tables rise: the walk of TuplesJoin.
-/
import Derived.Test.YtiikkbofcccjfaaT20
namespace Go.Proofs.Ytiikkbofcccjfaa
open Go.RowKit
open Go.Lib
open RowsM
set_option maxRecDepth 100000

theorem cellAt_zip (f : Nat → Nat → Nat) (g : Nat → Nat → Nat) (hf : ∀ {x y : Nat}, x < 18446744073709551616 → y < 18446744073709551616 → ∀ {j : Nat}, j < 32 → cell (f x y) j = g (cell x j) (cell y j)) {n : Int} {xs ys : List Nat} (hx : Bd xs) (hy : Bd ys) (hxr : okR n xs = true) (hyr : okR n ys = true) {i : Nat} (hi : (i : Int) < n) : cellAt (List.zipWith f xs ys) i = g (cellAt xs i) (cellAt ys i) := by
  have hl := okR_len hxr hyr
  have hln : (xs.length : Int) = (n + 31) / 32 := by unfold okR at hxr; simp only [decide_eq_true_eq] at hxr; exact hxr.2.2.1
  unfold cellAt
  rw [zip_getD f hl (by omega)]
  exact hf (hx.get _) (hy.get _) (by omega)
theorem zip_tab (f : Nat → Nat → Nat) (g : Nat → Nat → Nat) (hf : ∀ {x y : Nat}, x < 18446744073709551616 → y < 18446744073709551616 → ∀ {j : Nat}, j < 32 → cell (f x y) j = g (cell x j) (cell y j)) (hg : ∀ a b c d : Nat, a ≤ c → b ≤ d → g a b ≤ g c d) (hg2 : ∀ a b c : Nat, a ≤ c → b ≤ c → g a b ≤ c)
    {ks : List Int} {t n : Int} {xs ys : List Nat} (hx : Bd xs) (hy : Bd ys) (hxo : okTab ks t n xs = true) (hyo : okTab ks t n ys = true) (hro : okR n (List.zipWith f xs ys) = true) :
    okTab ks t n (List.zipWith f xs ys) = true ∧ (rsV ks t n xs = true → rsV ks t n ys = true → rsV ks t n (List.zipWith f xs ys) = true) := by
  obtain ⟨hE, ht, hn, hxr, hxa⟩ := okTab_iff.1 hxo
  obtain ⟨_, _, _, hyr, hya⟩ := okTab_iff.1 hyo
  obtain ⟨hk, _⟩ := cntE_zero hE
  have hc := fun (i : Nat) (hi : (i : Int) < n) => cellAt_zip f g hf hx hy hxr hyr hi
  have hok : okTab ks t n (List.zipWith f xs ys) = true := okTab_iff.2 ⟨hE, ht, hn, hro, fun c hcm => by
    obtain ⟨i, hi, rfl⟩ := mem_cells.1 hcm
    rw [hc i (by omega)]
    have h1 := hxa _ (mem_cells.2 ⟨i, hi, rfl⟩)
    have h2 := hya _ (mem_cells.2 ⟨i, hi, rfl⟩)
    have := hg2 (cellAt xs i) (cellAt ys i) (topP t).toNat (by omega) (by omega)
    omega⟩
  refine ⟨hok, fun h1 h2 => ?_⟩
  unfold rsV at h1 h2 ⊢
  rw [hxo, Bool.true_and, risS_iff] at h1
  rw [hyo, Bool.true_and, risS_iff] at h2
  rw [hok, Bool.true_and, risS_iff]
  intro j hj m hm hst
  have hs := step_in hk hj (n := m) (by omega) hst
  have hS := prodT_pos (okTs_split hk (j + 1)).2
  rw [hc m (by omega), hc (m + (prodT (ks.drop (j + 1))).toNat) (by omega)]
  exact hg _ _ _ _ (h1 j hj m hm hst) (h2 j hj m hm hst)
/-- The join and the meet of two tables of one kind. -/
theorem join_tab {ks : List Int} {t n : Int} {xs ys : List Nat} (hx : Bd xs) (hy : Bd ys) (hxo : okTab ks t n xs = true) (hyo : okTab ks t n ys = true) : ∃ J M, opL joinW n n xs ys = J ∧ opL meetW n n xs ys = M ∧ okP n n xs ys = true ∧ J.length ≤ xs.length ∧ M.length ≤ xs.length ∧
    okTab ks t n J = true ∧ (rsV ks t n xs = true → rsV ks t n ys = true → rsV ks t n J = true) ∧ okTab ks t n M = true ∧ (rsV ks t n xs = true → rsV ks t n ys = true → rsV ks t n M = true) := by
  obtain ⟨_, _, _, hxr, _⟩ := okTab_iff.1 hxo
  obtain ⟨_, _, _, hyr, _⟩ := okTab_iff.1 hyo
  have hl := okR_len hxr hyr
  have hP := okP_of hxr hyr
  obtain ⟨a1, a2⟩ := zip_tab joinW max join_cell (fun a b c d h1 h2 => by omega) (fun a b c h1 h2 => by omega) hx hy hxo hyo (okR_join hx hy hxr hyr)
  obtain ⟨b1, b2⟩ := zip_tab meetW min meet_cell (fun a b c d h1 h2 => by omega) (fun a b c h1 h2 => by omega) hx hy hxo hyo (okR_meet hx hy hxr hyr)
  exact ⟨_, _, by unfold opL; rw [hP]; rfl, by unfold opL; rw [hP]; rfl, hP, by rw [zip_len _ hl]; exact Nat.le_refl _, by rw [zip_len _ hl]; exact Nat.le_refl _, a1, a2, b1, b2⟩
theorem rsE_yes {ks : List Int} {t n : Int} {xs : List Nat} (h : okTab ks t n xs = true) : rsE ks t n xs = 0 := by unfold rsE; rw [if_pos h]
theorem rsE_no {ks : List Int} {t n : Int} {xs : List Nat} (h : okTab ks t n xs = false) : rsE ks t n xs = 3 := by unfold rsE; rw [h]; rfl

set_option maxHeartbeats 8000000 in
theorem tuplesJoin_any (ks : List Int) (t n : Int) (xs : List Nat) (ao bo : Option Addr) (ca cb : Nat) (js : List Int) (r m : Int) (ys : List Nat) (jo eo : Option Addr) (jc ec : Nat) (w : World) (h : TbW w ks xs ao bo ca cb) (g : TbW w js ys jo eo jc ec) :
    Calls Try.prog 8 #[.agg #[.slice ao ks.length ca, .int .i64 t, .int .i64 n, .slice bo xs.length cb], .agg #[.slice jo js.length jc, .int .i64 r, .int .i64 m, .slice eo ys.length ec]] w fun e w' => e = .returned (.bool true) ∧ Below w.heap.size w w' := by
  have s3 := (S4.new w (.slice ao ks.length ca) (.int .i64 t) (.int .i64 n) (.slice bo xs.length cb)).alloc (.cells #[.slice jo js.length jc, .int .i64 r, .int .i64 m, .slice eo ys.length ec] 43)
  have s4 := S4.new (w.alloc (.cells #[.slice ao ks.length ca, .int .i64 t, .int .i64 n, .slice bo xs.length cb] 43)) (.slice jo js.length jc) (.int .i64 r) (.int .i64 m) (.slice eo ys.length ec)
  have B := (below_alloc w (.cells #[.slice ao ks.length ca, .int .i64 t, .int .i64 n, .slice bo xs.length cb] 43)).trans ((below_alloc (w.alloc (.cells #[.slice ao ks.length ca, .int .i64 t, .int .i64 n, .slice bo xs.length cb] 43)) (.cells #[.slice jo js.length jc, .int .i64 r, .int .i64 m, .slice eo ys.length ec] 43)).mono (by simp))
  have hz1 : (w.alloc (.cells #[.slice ao ks.length ca, .int .i64 t, .int .i64 n, .slice bo xs.length cb] 43)).heap.size = w.heap.size + 1 := by simp
  rw [hz1] at s4
  replace h := h.up B
  replace g := g.up B
  have u := (⟨h.iz, g.rd, h.l1, g.l2, h.c1, g.c2⟩ : TbW _ ks ys ao eo ca ec)
  clear hz1 g
  have c1 := fun w h => rises_any ks t n xs ao bo ca cb w h
  have c2 := fun w h => rises_any ks t m ys ao eo ca ec w h
  obtain ⟨p0, p1, p2, p3⟩ := s3.cells
  obtain ⟨q0, q1, q2, q3⟩ := s4.cells
  go_enter Try.func8, Try.ntmps8
  cases hxo : okTab ks t n xs with
  | false =>
    rw [rsE_no hxo] at c1
    cases hyo : okTab ks t m ys with
    | false =>
      rw [rsE_no hyo] at c2
      generalize rsV ks t n xs = V1 at *
      generalize rsV ks t m ys = V2 at *
      clear hxo hyo
      go_wp2_with fail
      refine (awake16_any _).mono ?_
      rintro e w1 ⟨rfl, hb⟩
      clear p0 p1 p2 p3
      clear q0 q1 q2 q3
      replace h := h.up hb
      replace u := u.up hb
      replace s3 := s3.up hb
      replace s4 := s4.up hb
      replace B := Below.thn B hb
      clear hb
      obtain ⟨p0, p1, p2, p3⟩ := s3.cells
      obtain ⟨q0, q1, q2, q3⟩ := s4.cells
      go_wp2_with fail
      refine (c1 _ h).mono ?_
      rintro e w2 ⟨rfl, hb⟩
      clear p0 p1 p2 p3
      clear q0 q1 q2 q3
      replace h := h.up hb
      replace u := u.up hb
      replace s3 := s3.up hb
      replace s4 := s4.up hb
      replace B := Below.thn B hb
      clear hb
      obtain ⟨p0, p1, p2, p3⟩ := s3.cells
      obtain ⟨q0, q1, q2, q3⟩ := s4.cells
      clear c1
      obtain ⟨x0, x1, x2, x3⟩ := (s4.up (below_alloc w2 (.cells #[.slice ao ks.length ca, .int .i64 t, .int .i64 n, .slice bo xs.length cb] 43))).cells
      go_wp2_with fail
      clear x0 x1 x2 x3
      clear s4 q0 q1 q2 q3
      clear p0 p1 p2 p3
      have hb := below_alloc w2 (.cells #[.slice ao ks.length ca, .int .i64 t, .int .i64 m, .slice eo ys.length ec] 43)
      replace h := h.up hb
      replace u := u.up hb
      replace s3 := s3.up hb
      replace B := Below.thn B hb
      clear hb
      have s5 := S4.new w2 (.slice ao ks.length ca) (.int .i64 t) (.int .i64 m) (.slice eo ys.length ec)
      obtain ⟨p0, p1, p2, p3⟩ := s3.cells
      obtain ⟨q0, q1, q2, q3⟩ := s5.cells
      refine (c2 _ u).mono ?_
      rintro e w3 ⟨rfl, hb⟩
      clear p0 p1 p2 p3
      clear q0 q1 q2 q3
      replace h := h.up hb
      replace u := u.up hb
      replace s3 := s3.up hb
      replace s5 := s5.up hb
      replace B := Below.thn B hb
      clear hb
      obtain ⟨p0, p1, p2, p3⟩ := s3.cells
      obtain ⟨q0, q1, q2, q3⟩ := s5.cells
      clear c2
      go_wp2
      go_ret
      exact ⟨rfl, B⟩
    | true =>
      rw [rsE_yes hyo] at c2
      generalize rsV ks t n xs = V1 at *
      generalize rsV ks t m ys = V2 at *
      clear hxo hyo
      go_wp2_with fail
      refine (awake16_any _).mono ?_
      rintro e w1 ⟨rfl, hb⟩
      clear p0 p1 p2 p3
      clear q0 q1 q2 q3
      replace h := h.up hb
      replace u := u.up hb
      replace s3 := s3.up hb
      replace s4 := s4.up hb
      replace B := Below.thn B hb
      clear hb
      obtain ⟨p0, p1, p2, p3⟩ := s3.cells
      obtain ⟨q0, q1, q2, q3⟩ := s4.cells
      go_wp2_with fail
      refine (c1 _ h).mono ?_
      rintro e w2 ⟨rfl, hb⟩
      clear p0 p1 p2 p3
      clear q0 q1 q2 q3
      replace h := h.up hb
      replace u := u.up hb
      replace s3 := s3.up hb
      replace s4 := s4.up hb
      replace B := Below.thn B hb
      clear hb
      obtain ⟨p0, p1, p2, p3⟩ := s3.cells
      obtain ⟨q0, q1, q2, q3⟩ := s4.cells
      clear c1
      obtain ⟨x0, x1, x2, x3⟩ := (s4.up (below_alloc w2 (.cells #[.slice ao ks.length ca, .int .i64 t, .int .i64 n, .slice bo xs.length cb] 43))).cells
      go_wp2_with fail
      clear x0 x1 x2 x3
      clear s4 q0 q1 q2 q3
      clear p0 p1 p2 p3
      have hb := below_alloc w2 (.cells #[.slice ao ks.length ca, .int .i64 t, .int .i64 m, .slice eo ys.length ec] 43)
      replace h := h.up hb
      replace u := u.up hb
      replace s3 := s3.up hb
      replace B := Below.thn B hb
      clear hb
      have s5 := S4.new w2 (.slice ao ks.length ca) (.int .i64 t) (.int .i64 m) (.slice eo ys.length ec)
      obtain ⟨p0, p1, p2, p3⟩ := s3.cells
      obtain ⟨q0, q1, q2, q3⟩ := s5.cells
      refine (c2 _ u).mono ?_
      rintro e w3 ⟨rfl, hb⟩
      clear p0 p1 p2 p3
      clear q0 q1 q2 q3
      replace h := h.up hb
      replace u := u.up hb
      replace s3 := s3.up hb
      replace s5 := s5.up hb
      replace B := Below.thn B hb
      clear hb
      obtain ⟨p0, p1, p2, p3⟩ := s3.cells
      obtain ⟨q0, q1, q2, q3⟩ := s5.cells
      clear c2
      go_wp2
      go_ret
      exact ⟨rfl, B⟩
  | true =>
    rw [rsE_yes hxo] at c1
    cases hyo : okTab ks t m ys with
    | false =>
      rw [rsE_no hyo] at c2
      generalize rsV ks t n xs = V1 at *
      generalize rsV ks t m ys = V2 at *
      clear hxo hyo
      go_wp2_with fail
      refine (awake16_any _).mono ?_
      rintro e w1 ⟨rfl, hb⟩
      clear p0 p1 p2 p3
      clear q0 q1 q2 q3
      replace h := h.up hb
      replace u := u.up hb
      replace s3 := s3.up hb
      replace s4 := s4.up hb
      replace B := Below.thn B hb
      clear hb
      obtain ⟨p0, p1, p2, p3⟩ := s3.cells
      obtain ⟨q0, q1, q2, q3⟩ := s4.cells
      go_wp2_with fail
      refine (c1 _ h).mono ?_
      rintro e w2 ⟨rfl, hb⟩
      clear p0 p1 p2 p3
      clear q0 q1 q2 q3
      replace h := h.up hb
      replace u := u.up hb
      replace s3 := s3.up hb
      replace s4 := s4.up hb
      replace B := Below.thn B hb
      clear hb
      obtain ⟨p0, p1, p2, p3⟩ := s3.cells
      obtain ⟨q0, q1, q2, q3⟩ := s4.cells
      clear c1
      obtain ⟨x0, x1, x2, x3⟩ := (s4.up (below_alloc w2 (.cells #[.slice ao ks.length ca, .int .i64 t, .int .i64 n, .slice bo xs.length cb] 43))).cells
      go_wp2_with fail
      clear x0 x1 x2 x3
      clear s4 q0 q1 q2 q3
      clear p0 p1 p2 p3
      have hb := below_alloc w2 (.cells #[.slice ao ks.length ca, .int .i64 t, .int .i64 m, .slice eo ys.length ec] 43)
      replace h := h.up hb
      replace u := u.up hb
      replace s3 := s3.up hb
      replace B := Below.thn B hb
      clear hb
      have s5 := S4.new w2 (.slice ao ks.length ca) (.int .i64 t) (.int .i64 m) (.slice eo ys.length ec)
      obtain ⟨p0, p1, p2, p3⟩ := s3.cells
      obtain ⟨q0, q1, q2, q3⟩ := s5.cells
      refine (c2 _ u).mono ?_
      rintro e w3 ⟨rfl, hb⟩
      clear p0 p1 p2 p3
      clear q0 q1 q2 q3
      replace h := h.up hb
      replace u := u.up hb
      replace s3 := s3.up hb
      replace s5 := s5.up hb
      replace B := Below.thn B hb
      clear hb
      obtain ⟨p0, p1, p2, p3⟩ := s3.cells
      obtain ⟨q0, q1, q2, q3⟩ := s5.cells
      clear c2
      go_wp2
      go_ret
      exact ⟨rfl, B⟩
    | true =>
      rw [rsE_yes hyo] at c2
      obtain rfl : m = n := by rw [(okTab_iff.1 hxo).2.2.1, (okTab_iff.1 hyo).2.2.1]
      obtain ⟨J, M, hJ, hM, hP, hJl, hMl, jo1, jr, mo1, mr⟩ := join_tab h.rd.lt u.rd.lt hxo hyo
      replace hJl := Nat.le_trans hJl h.l2
      replace hMl := Nat.le_trans hMl h.l2
      have c3 := fun w h1 g1 => join_any m m bo eo cb ec xs ys w h1 g1 h.l2 u.l2
      have c4 := fun w h1 g1 => meet_any m m bo eo cb ec xs ys w h1 g1 h.l2 u.l2
      rw [hJ, hP] at c3
      rw [hM, hP] at c4
      simp only [if_true] at c3 c4
      generalize rsV ks t m xs = V1 at *
      generalize rsV ks t m ys = V2 at *
      clear hxo hyo hJ hM hP
      go_wp2_with fail
      refine (awake16_any _).mono ?_
      rintro e w1 ⟨rfl, hb⟩
      clear p0 p1 p2 p3
      clear q0 q1 q2 q3
      replace h := h.up hb
      replace u := u.up hb
      replace s3 := s3.up hb
      replace s4 := s4.up hb
      replace B := Below.thn B hb
      clear hb
      obtain ⟨p0, p1, p2, p3⟩ := s3.cells
      obtain ⟨q0, q1, q2, q3⟩ := s4.cells
      go_wp2_with fail
      refine (c1 _ h).mono ?_
      rintro e w2 ⟨rfl, hb⟩
      clear p0 p1 p2 p3
      clear q0 q1 q2 q3
      replace h := h.up hb
      replace u := u.up hb
      replace s3 := s3.up hb
      replace s4 := s4.up hb
      replace B := Below.thn B hb
      clear hb
      obtain ⟨p0, p1, p2, p3⟩ := s3.cells
      obtain ⟨q0, q1, q2, q3⟩ := s4.cells
      clear c1
      obtain ⟨x0, x1, x2, x3⟩ := (s4.up (below_alloc w2 (.cells #[.slice ao ks.length ca, .int .i64 t, .int .i64 m, .slice bo xs.length cb] 43))).cells
      go_wp2_with fail
      clear x0 x1 x2 x3
      clear s4 q0 q1 q2 q3
      clear p0 p1 p2 p3
      have hb := below_alloc w2 (.cells #[.slice ao ks.length ca, .int .i64 t, .int .i64 m, .slice eo ys.length ec] 43)
      replace h := h.up hb
      replace u := u.up hb
      replace s3 := s3.up hb
      replace B := Below.thn B hb
      clear hb
      have s5 := S4.new w2 (.slice ao ks.length ca) (.int .i64 t) (.int .i64 m) (.slice eo ys.length ec)
      obtain ⟨p0, p1, p2, p3⟩ := s3.cells
      obtain ⟨q0, q1, q2, q3⟩ := s5.cells
      refine (c2 _ u).mono ?_
      rintro e w3 ⟨rfl, hb⟩
      clear p0 p1 p2 p3
      clear q0 q1 q2 q3
      replace h := h.up hb
      replace u := u.up hb
      replace s3 := s3.up hb
      replace s5 := s5.up hb
      replace B := Below.thn B hb
      clear hb
      obtain ⟨p0, p1, p2, p3⟩ := s3.cells
      obtain ⟨q0, q1, q2, q3⟩ := s5.cells
      clear c2
      go_wp2_with fail
      refine (c3 _ h.rd u.rd).mono ?_
      rintro e w4 ⟨so, sc, rfl, hf, hb⟩
      clear p0 p1 p2 p3
      clear q0 q1 q2 q3
      have jT := (⟨h.iz.up hb, hf.rd, h.l1, hJl, h.c1, fresh_cap0 hf⟩ : TbW _ ks J ao so ca sc)
      clear hf c3
      replace h := h.up hb
      replace u := u.up hb
      replace s3 := s3.up hb
      replace s5 := s5.up hb
      replace B := Below.thn B hb
      clear hb
      obtain ⟨p0, p1, p2, p3⟩ := s3.cells
      obtain ⟨q0, q1, q2, q3⟩ := s5.cells
      clear p0 p1 p2 p3
      clear q0 q1 q2 q3
      have hb := below_alloc w4 (.cells #[.int .i64 m, .slice so J.length sc] 41)
      replace h := h.up hb
      replace u := u.up hb
      replace jT := jT.up hb
      replace s3 := s3.up hb
      replace s5 := s5.up hb
      replace B := Below.thn B hb
      clear hb
      obtain ⟨p0, p1, p2, p3⟩ := s3.cells
      obtain ⟨q0, q1, q2, q3⟩ := s5.cells
      have tJ := St.new w4 (.int .i64 m) (.slice so J.length sc)
      go_wp2_with fail
      refine (c4 _ h.rd u.rd).mono ?_
      rintro e w5 ⟨mo, mc, rfl, hf, hb⟩
      clear p0 p1 p2 p3
      clear q0 q1 q2 q3
      have mT := (⟨h.iz.up hb, hf.rd, h.l1, hMl, h.c1, fresh_cap0 hf⟩ : TbW _ ks M ao mo ca mc)
      clear hf c4
      replace h := h.up hb
      replace u := u.up hb
      replace jT := jT.up hb
      replace tJ := tJ.up hb
      replace s3 := s3.up hb
      replace s5 := s5.up hb
      replace B := Below.thn B hb
      clear hb
      obtain ⟨p0, p1, p2, p3⟩ := s3.cells
      obtain ⟨q0, q1, q2, q3⟩ := s5.cells
      clear p0 p1 p2 p3
      clear q0 q1 q2 q3
      have hb := below_alloc w5 (.cells #[.int .i64 m, .slice mo M.length mc] 41)
      replace h := h.up hb
      replace u := u.up hb
      replace jT := jT.up hb
      replace tJ := tJ.up hb
      replace mT := mT.up hb
      replace s3 := s3.up hb
      replace s5 := s5.up hb
      replace B := Below.thn B hb
      clear hb
      obtain ⟨p0, p1, p2, p3⟩ := s3.cells
      obtain ⟨q0, q1, q2, q3⟩ := s5.cells
      have tM := St.new w5 (.int .i64 m) (.slice mo M.length mc)
      clear u
      clear s5 q0 q1 q2 q3
      obtain ⟨x0, x1, x2, x3⟩ := (s3.alloc (.cells #[.slice ao ks.length ca, .int .i64 t, .int .i64 m, .slice so J.length sc] 43)).cells
      obtain ⟨y0, y1, _, _⟩ := tJ.cells
      obtain ⟨z0, z1, _, _⟩ := (tM.alloc (.cells #[.slice ao ks.length ca, .int .i64 t, .int .i64 m, .slice so J.length sc] 43)).cells
      have sJ := (S4.new (w5.alloc (.cells #[.int .i64 m, .slice mo M.length mc] 41)) (.slice ao ks.length ca) (.int .i64 t) (.int .i64 m) (.slice so J.length sc)).alloc (.cells #[.slice ao ks.length ca, .int .i64 t, .int .i64 m, .slice mo M.length mc] 43)
      have sM := S4.new ((w5.alloc (.cells #[.int .i64 m, .slice mo M.length mc] 41)).alloc (.cells #[.slice ao ks.length ca, .int .i64 t, .int .i64 m, .slice so J.length sc] 43)) (.slice ao ks.length ca) (.int .i64 t) (.int .i64 m) (.slice mo M.length mc)
      have hz2 : ((w5.alloc (.cells #[.int .i64 m, .slice mo M.length mc] 41)).alloc (.cells #[.slice ao ks.length ca, .int .i64 t, .int .i64 m, .slice so J.length sc] 43)).heap.size = w5.heap.size + 1 + 1 := by simp
      have hz1 : (w5.alloc (.cells #[.int .i64 m, .slice mo M.length mc] 41)).heap.size = w5.heap.size + 1 := by simp
      rw [hz1] at sJ
      rw [hz2] at sM
      clear hz1 hz2
      have hb : Below (w5.alloc (.cells #[.int .i64 m, .slice mo M.length mc] 41)).heap.size (w5.alloc (.cells #[.int .i64 m, .slice mo M.length mc] 41)) (((w5.alloc (.cells #[.int .i64 m, .slice mo M.length mc] 41)).alloc (.cells #[.slice ao ks.length ca, .int .i64 t, .int .i64 m, .slice so J.length sc] 43)).alloc (.cells #[.slice ao ks.length ca, .int .i64 t, .int .i64 m, .slice mo M.length mc] 43)) := (below_alloc (w5.alloc (.cells #[.int .i64 m, .slice mo M.length mc] 41)) (.cells #[.slice ao ks.length ca, .int .i64 t, .int .i64 m, .slice so J.length sc] 43)).trans ((below_alloc ((w5.alloc (.cells #[.int .i64 m, .slice mo M.length mc] 41)).alloc (.cells #[.slice ao ks.length ca, .int .i64 t, .int .i64 m, .slice so J.length sc] 43)) (.cells #[.slice ao ks.length ca, .int .i64 t, .int .i64 m, .slice mo M.length mc] 43)).mono (by simp))
      replace jT := jT.up hb
      replace mT := mT.up hb
      replace B := Below.thn B hb
      clear hb
      obtain ⟨v0, v1, v2, v3⟩ := sJ.cells
      have c5 := fun w h => rises_any ks t m J ao so ca sc w h
      have c6 := fun w h => rises_any ks t m M ao mo ca mc w h
      have c7 := fun w h => tcheck_any ks t m J ao so ca sc w h
      have c8 := fun w h => tcheck_any ks t m M ao mo ca mc w h
      rw [rsE_yes jo1] at c5
      rw [rsE_yes mo1] at c6
      rw [jo1] at c7
      rw [mo1] at c8
      simp only [if_true] at c7 c8
      have hfin : (V1 = false ∨ V2 = false) ∨ (rsV ks t m J = true ∧ rsV ks t m M = true) := by
        cases V1 with
        | false => exact .inl (.inl rfl)
        | true =>
          cases V2 with
          | false => exact .inl (.inr rfl)
          | true => exact .inr ⟨jr rfl rfl, mr rfl rfl⟩
      generalize rsV ks t m J = V3 at *
      generalize rsV ks t m M = V4 at *
      have HF : Hid ((V1 = false ∨ V2 = false) ∨ (V3 = true ∧ V4 = true)) := hfin
      clear jr mr jo1 mo1 hfin hJl hMl
      go_wp2_with fail
      refine (c5 _ jT).mono ?_
      rintro e w6 ⟨rfl, hb⟩
      clear x0 x1 x2 x3 y0 y1 z0 z1 v0 v1 v2 v3
      clear p0 p1 p2 p3
      clear s3 h tJ tM c5
      replace jT := jT.up hb
      replace mT := mT.up hb
      replace sJ := sJ.up hb
      replace sM := sM.up hb
      replace B := Below.thn B hb
      clear hb
      obtain ⟨p0, p1, p2, p3⟩ := sJ.cells
      obtain ⟨q0, q1, q2, q3⟩ := sM.cells
      go_wp2_with fail
      refine (c6 _ mT).mono ?_
      rintro e w7 ⟨rfl, hb⟩
      clear p0 p1 p2 p3
      clear q0 q1 q2 q3
      replace jT := jT.up hb
      replace mT := mT.up hb
      replace sJ := sJ.up hb
      replace sM := sM.up hb
      replace B := Below.thn B hb
      clear hb
      obtain ⟨p0, p1, p2, p3⟩ := sJ.cells
      obtain ⟨q0, q1, q2, q3⟩ := sM.cells
      clear c6
      go_wp2_with fail
      refine (c7 _ jT).mono ?_
      rintro e w8 ⟨rfl, hb⟩
      clear p0 p1 p2 p3
      clear q0 q1 q2 q3
      replace jT := jT.up hb
      replace mT := mT.up hb
      replace sJ := sJ.up hb
      replace sM := sM.up hb
      replace B := Below.thn B hb
      clear hb
      obtain ⟨p0, p1, p2, p3⟩ := sJ.cells
      obtain ⟨q0, q1, q2, q3⟩ := sM.cells
      clear c7
      go_wp2_with fail
      refine (c8 _ mT).mono ?_
      rintro e w9 ⟨rfl, hb⟩
      clear p0 p1 p2 p3
      clear q0 q1 q2 q3
      replace jT := jT.up hb
      replace mT := mT.up hb
      replace sJ := sJ.up hb
      replace sM := sM.up hb
      replace B := Below.thn B hb
      clear hb
      obtain ⟨p0, p1, p2, p3⟩ := sJ.cells
      obtain ⟨q0, q1, q2, q3⟩ := sM.cells
      clear c8
      clear jT
      clear mT
      clear sJ p0 p1 p2 p3
      clear sM q0 q1 q2 q3
      rcases HF.out with (rfl | rfl) | ⟨rfl, rfl⟩
      · clear HF
        go_wp2
        go_ret
        exact ⟨rfl, B⟩
      · clear HF
        cases V1
        all_goals
          go_wp2
          go_ret
          exact ⟨rfl, B⟩
      · clear HF
        cases V1
        · go_wp2
          go_ret
          exact ⟨rfl, B⟩
        · cases V2
          all_goals
            go_wp2
            go_ret
            exact ⟨rfl, B⟩
end Go.Proofs.Ytiikkbofcccjfaa
