/-
  Tuples and their numbers are one to one: the walk of TuplesOne.
-/
import Derived.Test.YtiikkbofcccjfaaT13
namespace Go.Proofs.Ytiikkbofcccjfaa
open Go.RowKit
open Go.Lib
open RowsM
set_option maxRecDepth 100000

theorem tup_any (ks : List Int) (n : Int) (X : List Int) (E : Int) (hX : tupV ks n = X) (hE : tupE ks n = E) (ao : Option Addr) (ca : Nat) (hl : ks.length ≤ 17592186043904) (w : World) (h : Iz w ao ks) : Calls Try.prog 14 #[.slice ao ks.length ca, .int .i64 n] w fun e w' => ∃ xo c, e = .returned (.tuple #[.slice xo X.length c, .int .i64 E]) ∧ Iz w' xo X ∧ Below w.heap.size w w' := by
  subst hX hE
  exact (tuple_any ks n ao ca w h hl).mono fun _ _ h => tupEnd_iz h
theorem num_any (ks ps : List Int) (V E : Int) (hV : numV ks ps = V) (hE : numE ks ps = E) (ao bo : Option Addr) (ca cb : Nat) (hl : ks.length ≤ 17592186043904) (gl : ps.length ≤ 17592186043904) (w : World) (h : Iz w ao ks) (g : Iz w bo ps) :
    Calls Try.prog 12 #[.slice ao ks.length ca, .slice bo ps.length cb] w fun e w' => e = .returned (.tuple #[.int .i64 V, .int .i64 E]) ∧ Below w.heap.size w w' := by
  subst hV hE
  exact number16_any ks ps ao bo ca cb w h g hl gl
theorem cnt_any (ks : List Int) (V E : Int) (hV : cntV ks = V) (hE : cntE ks = E) (ao : Option Addr) (ca : Nat) (hl : ks.length ≤ 17592186043904) (w : World) (h : Iz w ao ks) :
    Calls Try.prog 10 #[.slice ao ks.length ca] w fun e w' => e = .returned (.tuple #[.int .i64 V, .int .i64 E]) ∧ Below w.heap.size w w' := by
  subst hV hE
  exact count16_any ks ao ca w h hl
/-- What is known of tuple number n. -/
theorem tup_at {ks : List Int} (hE : cntE ks = 0) {n : Int} (h0 : 0 ≤ n) (h1 : n < prodT ks) : tupV ks n = tupL ks n ∧ tupE ks n = 0 ∧ numV ks (tupL ks n) = n ∧ numE ks (tupL ks n) = 0 := by
  obtain ⟨hk, _⟩ := cntE_zero hE
  have e : tupE ks n = 0 := by unfold tupE; rw [if_pos hE, if_pos ⟨h0, h1⟩]
  have e2 : numE ks (tupL ks n) = 0 := by unfold numE; rw [if_pos hE, if_pos (tupL_len ks n).symm, if_pos (tupL_ok hk n)]
  exact ⟨by unfold tupV; rw [if_pos e], e, by unfold numV; rw [if_pos e2, num_tup_at hk h0 h1], e2⟩
theorem tup_one {ks : List Int} (hk : okTs ks = true) {n m : Int} (h0 : 0 ≤ n) (h1 : n < prodT ks) (g0 : 0 ≤ m) (g1 : m < prodT ks) : decide (tupL ks n = tupL ks m) = decide (n = m) := by
  rw [Bool.eq_iff_iff, decide_eq_true_iff, decide_eq_true_iff]
  constructor
  · intro e
    rw [← num_tup_at hk h0 h1, e, num_tup_at hk g0 g1]
  · rintro rfl; rfl
theorem tup_mono {ks : List Int} (hk : okTs ks = true) {n m : Int} (h0 : 0 ≤ n) (h1 : n < prodT ks) (g0 : 0 ≤ m) (g1 : m < prodT ks) (h : belowT (tupL ks n) (tupL ks m) = true) : n ≤ m := by
  have := num_mono hk (tupL_len ks n).symm h (Int.le_refl 0)
  rwa [num_tup_at hk h0 h1, num_tup_at hk g0 g1] at this

/-- A number brought into the range of the tuples' numbers. -/
theorem ring_rng (i : Int) {P : Int} (h1 : 1 ≤ P) (h4 : P ≤ 4096) : 0 ≤ (wrap64 (i.tmod P + P)).tmod P ∧ (wrap64 (i.tmod P + P)).tmod P < P := by
  have ha := Int.tmod_lt_of_pos i (show 0 < P by omega)
  have hb : -P < i.tmod P := by
    have := Int.tmod_lt_of_pos (-i) (show 0 < P by omega)
    rw [Int.neg_tmod] at this
    omega
  have hw : wrap64 (i.tmod P + P) = i.tmod P + P := by unfold wrap64; omega
  rw [hw]
  exact ⟨Int.tmod_nonneg _ (by omega), Int.tmod_lt_of_pos _ (by omega)⟩

set_option maxHeartbeats 4000000 in
theorem tuplesOne_any (ks : List Int) (i j : Int) (ao : Option Addr) (ca : Nat) (w : World) (h : Iz w ao ks) (hl : ks.length ≤ 17592186043904) :
    Calls Try.prog 5 #[.slice ao ks.length ca, .int .i64 i, .int .i64 j] w fun e w' => e = .returned (.bool true) ∧ Below w.heap.size w w' := by
  have B := Below.refl w.heap.size w
  by_cases hE : cntE ks = 0
  · obtain ⟨hk, hk4⟩ := cntE_zero hE
    have hk1 := prodT_pos hk
    have c1 := cnt_any ks _ _ (cntV_zero hE) hE ao ca hl
    have hTA := fun (n : Int) h0 h1 => tup_at (n := n) hE h0 h1
    have hX := fun n => by have := tupL_len ks n; exact (show (tupL ks n).length ≤ 17592186043904 by omega)
    have hone := fun (n m : Int) h0 h1 g0 g1 => tup_one hk (n := n) (m := m) h0 h1 g0 g1
    have hmono := fun (n m : Int) h0 h1 g0 g1 => tup_mono hk (n := n) (m := m) h0 h1 g0 g1
    have hto : tupV ks (prodT ks) = [] ∧ tupE ks (prodT ks) = 2 := by
      have e : tupE ks (prodT ks) = 2 := by unfold tupE; rw [if_pos hE, if_neg (by omega)]
      exact ⟨by unfold tupV; rw [if_neg (by omega)], e⟩
    have htm : tupV ks (-1) = [] ∧ tupE ks (-1) = 2 := by
      have e : tupE ks (-1) = 2 := by unfold tupE; rw [if_pos hE, if_neg (by omega)]
      exact ⟨by unfold tupV; rw [if_neg (by omega)], e⟩
    have c2 := tup_any ks _ _ _ hto.1 hto.2 ao ca hl
    have c3 := tup_any ks _ _ _ htm.1 htm.2 ao ca hl
    generalize prodT ks = P at *
    clear hto htm hE hk
    go_enter Try.func5, Try.ntmps5
    go_wp2_with fail
    refine (awake16_any _).mono ?_
    rintro e w1 ⟨rfl, hb⟩
    replace h := h.up hb
    replace B := Below.thn B hb
    clear hb 
    go_wp2_with fail
    refine (c1 _ h).mono ?_
    rintro e w2 ⟨rfl, hb⟩
    replace h := h.up hb
    replace B := Below.thn B hb
    clear hb c1
    have hn := ring_rng i hk1 hk4
    have hm := ring_rng j hk1 hk4
    go_wp2_with fail
    generalize (wrap64 (i.tmod P + P)).tmod P = n at *
    generalize (wrap64 (j.tmod P + P)).tmod P = m at *
    obtain ⟨n0, n1⟩ := hn
    obtain ⟨m0, m1⟩ := hm
    obtain ⟨x1, x2, x3, x4⟩ := hTA n n0 n1
    obtain ⟨y1, y2, y3, y4⟩ := hTA m m0 m1
    have c4 := tup_any ks _ _ _ x1 x2 ao ca hl
    have c5 := tup_any ks _ _ _ y1 y2 ao ca hl
    have hxl := hX n
    have hyl := hX m
    have c6 := fun bo cb w h g => num_any ks _ _ _ x3 x4 ao bo ca cb hl hxl w h g
    have c7 := fun bo cb w h g => num_any ks _ _ _ y3 y4 ao bo ca cb hl hyl w h g
    have hon := hone n m n0 n1 m0 m1
    have hmo := hmono n m n0 n1 m0 m1
    have c8 := fun xo yo c d w h g => same16_any (tupL ks n) (tupL ks m) xo yo c d w h g hxl hyl
    have c9 := fun xo yo c d w h g => rBelow_any (tupL ks n) (tupL ks m) xo yo c d w h g hxl hyl
    rw [hon] at c8
    generalize tupL ks n = X at *
    generalize tupL ks m = Y at *
    have hor : belowT X Y = false ∨ n ≤ m := by
      cases hbt : belowT X Y with
      | false => exact .inl rfl
      | true => exact .inr (hmo hbt)
    generalize belowT X Y = bt at *
    clear x1 x2 x3 x4 y1 y2 y3 y4 hon hmo hone hmono hTA hX n0 n1 m0 m1
    refine (c4 _ h).mono ?_
    rintro e w3 ⟨xo, cx, rfl, hx, hb⟩
    replace h := h.up hb
    replace B := Below.thn B hb
    clear hb c4
    go_wp2_with fail
    refine (c5 _ h).mono ?_
    rintro e w4 ⟨yo, cy, rfl, hy, hb⟩
    replace h := h.up hb
    replace hx := hx.up hb
    replace B := Below.thn B hb
    clear hb c5
    go_wp2_with fail
    refine (c6 _ _ _ h hx).mono ?_
    rintro e w5 ⟨rfl, hb⟩
    replace h := h.up hb
    replace hx := hx.up hb
    replace hy := hy.up hb
    replace B := Below.thn B hb
    clear hb c6
    go_wp2_with fail
    refine (c7 _ _ _ h hy).mono ?_
    rintro e w6 ⟨rfl, hb⟩
    replace h := h.up hb
    replace hx := hx.up hb
    replace hy := hy.up hb
    replace B := Below.thn B hb
    clear hb c7
    go_wp2_with fail
    refine (c2 _ h).mono ?_
    rintro e w7 ⟨zo, cz, rfl, _, hb⟩
    replace h := h.up hb
    replace hx := hx.up hb
    replace hy := hy.up hb
    replace B := Below.thn B hb
    clear hb c2
    go_wp2_with fail
    refine (c3 _ h).mono ?_
    rintro e w8 ⟨uo, cu, rfl, _, hb⟩
    replace h := h.up hb
    replace hx := hx.up hb
    replace hy := hy.up hb
    replace B := Below.thn B hb
    clear hb c3
    go_wp2_with fail
    refine (c8 _ _ _ _ _ hx hy).mono ?_
    rintro e w9 ⟨rfl, hb⟩
    replace hx := hx.up hb
    replace hy := hy.up hb
    replace B := Below.thn B hb
    clear hb c8
    go_wp2_with fail
    refine (c9 _ _ _ _ _ hx hy).mono ?_
    rintro e wa ⟨rfl, hb⟩
    replace B := Below.thn B hb
    clear hb c9 hx hy
    rcases hor with rfl | hnm
    · go_wp2
      go_ret
      exact ⟨rfl, B⟩
    · have hd : decide (n ≤ m) = true := decide_eq_true hnm
      cases bt
      · go_wp2
        go_ret
        exact ⟨rfl, B⟩
      · go_wp2
        go_ret
        exact ⟨rfl, B⟩
  · have hV : cntV ks = 0 := cntV_no hE
    have ht : tupE ks i = cntE ks := by unfold tupE; rw [if_neg hE]
    have htv : tupV ks i = [] := by unfold tupV; rw [ht, if_neg hE]
    have c1 := cnt_any ks _ _ hV rfl ao ca hl
    have c2 := tup_any ks _ _ _ htv ht ao ca hl
    generalize cntE ks = E at *
    have hne : (E != 0) = true := by simpa using hE
    clear hV ht htv hE
    go_enter Try.func5, Try.ntmps5
    go_wp2_with fail
    refine (awake16_any _).mono ?_
    rintro e w1 ⟨rfl, hb⟩
    replace h := h.up hb
    replace B := Below.thn B hb
    clear hb 
    go_wp2_with fail
    refine (c1 _ h).mono ?_
    rintro e w2 ⟨rfl, hb⟩
    replace h := h.up hb
    replace B := Below.thn B hb
    clear hb c1
    go_wp2_with fail
    refine (c2 _ h).mono ?_
    rintro e w3 ⟨xo, cx, rfl, _, hb⟩
    replace B := Below.thn B hb
    clear hb c2 h
    go_wp2
    go_ret
    exact ⟨rfl, B⟩
end Go.Proofs.Ytiikkbofcccjfaa
