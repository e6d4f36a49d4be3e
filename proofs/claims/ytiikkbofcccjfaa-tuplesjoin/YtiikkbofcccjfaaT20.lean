/-
  What was set in a table is read from it: the walk of TuplesSet.
-/
import Derived.Test.YtiikkbofcccjfaaT19
namespace Go.Proofs.Ytiikkbofcccjfaa
open Go.RowKit
open Go.Lib
open RowsM
set_option maxRecDepth 100000

theorem mem_cells {n : Int} {xs : List Nat} {c : Nat} : c ∈ cellsL n xs ↔ ∃ i, i < n.toNat ∧ cellAt xs i = c := by
  unfold cellsL
  simp [List.mem_map, List.mem_range]
/-- A point written at tuple number a. -/
theorem set_tab {ks : List Int} {t n : Int} {xs : List Nat} (hb : Bd xs) (hok : okTab ks t n xs = true) {a q : Int} (a0 : 0 ≤ a) (a1 : a < prodT ks) (hq : isP t q = true) :
    okPut n xs a q = true ∧ okTab ks t n (putL n xs a q) = true ∧ (∀ b : Int, 0 ≤ b → b < prodT ks → cellAt (putL n xs a q) b.toNat = if b = a then q.toNat else cellAt xs b.toNat) := by
  obtain ⟨hE, ht, hn, hr, hall⟩ := okTab_iff.1 hok
  have hq' : 0 ≤ q ∧ q ≤ topP t := by simpa [isP] using hq
  have h3 := top_le3 t
  have hp : okPut n xs a q = true := by
    unfold okPut inR okV
    rw [hr]
    simp
    omega
  have hr2 := okR_put hb hp
  have hat : ∀ b : Int, 0 ≤ b → b < prodT ks → cellAt (putL n xs a q) b.toNat = if b = a then q.toNat else cellAt xs b.toNat := by
    intro b b0 b1
    have hi : inR n b = true := by unfold inR; simp; omega
    have := get_put hb hp hi
    rw [getV_at hr2 hi, getV_at hr hi] at this
    exact this
  refine ⟨hp, okTab_iff.2 ⟨hE, ht, hn, hr2, fun c hc => ?_⟩, hat⟩
  obtain ⟨i, hi, rfl⟩ := mem_cells.1 hc
  have h1 := hat (i : Int) (by omega) (by omega)
  rw [Int.toNat_natCast] at h1
  rw [h1]
  split
  · omega
  · exact hall _ (mem_cells.2 ⟨i, hi, rfl⟩)
/-- What is read at tuple number b. -/
theorem at_tab {ks : List Int} {t n : Int} {xs : List Nat} (hok : okTab ks t n xs = true) {b : Int} (b0 : 0 ≤ b) (b1 : b < prodT ks) : fndE ks t n xs (tupL ks b) = 0 ∧ atV ks t n xs (tupL ks b) = (cellAt xs b.toNat : Nat) := by
  obtain ⟨hE, _, _, _, _⟩ := okTab_iff.1 hok
  obtain ⟨_, _, h3, h4⟩ := tup_at hE b0 b1
  have e : fndE ks t n xs (tupL ks b) = 0 := by unfold fndE; rw [if_pos hok, h4]
  exact ⟨e, by unfold atV; rw [if_pos e, h3]⟩
theorem rises_at {ks : List Int} {t n : Int} {xs : List Nat} (hok : okTab ks t n xs = true) (h : rsV ks t n xs = true) {a b : Int} (a0 : 0 ≤ a) (a1 : a < prodT ks) (b0 : 0 ≤ b) (b1 : b < prodT ks) (hb : belowT (tupL ks a) (tupL ks b) = true) : cellAt xs a.toNat ≤ cellAt xs b.toNat := by
  obtain ⟨hE, _, hn, _, _⟩ := okTab_iff.1 hok
  obtain ⟨hk, _⟩ := cntE_zero hE
  unfold rsV at h
  rw [hok, Bool.true_and, hn] at h
  have := ris_below hk h (tupL_ok hk a) (tupL_ok hk b) hb
  rwa [num_tup_at hk a0 a1, num_tup_at hk b0 b1] at this
/-- A number brought into the range of the points of a type. -/
theorem ring_two (p : Int) : 0 ≤ (wrap64 (p.tmod 2 + 2)).tmod 2 ∧ (wrap64 (p.tmod 2 + 2)).tmod 2 < 2 := ring_rng p (by decide) (by decide)
theorem ring_four (p : Int) : 0 ≤ (wrap64 (p.tmod 4 + 4)).tmod 4 ∧ (wrap64 (p.tmod 4 + 4)).tmod 4 < 4 := ring_rng p (by decide) (by decide)

/-- What TuplesSet's calls tell. -/
theorem set_told {ks : List Int} {t n : Int} {xs : List Nat} (hb : Bd xs) (hok : okTab ks t n xs = true) {a b q : Int} (a0 : 0 ≤ a) (a1 : a < prodT ks) (b0 : 0 ≤ b) (b1 : b < prodT ks) (q0 : 0 ≤ q) (q1 : q ≤ topP t) :
    ∃ X, setK ks t n xs (tupL ks a) q = ks ∧ setT ks t n xs (tupL ks a) q = t ∧ setN ks t n xs (tupL ks a) q = n ∧ setE ks t n xs (tupL ks a) q = 0 ∧ setX ks t n xs (tupL ks a) q = X ∧ X.length ≤ xs.length ∧
      fndE ks t n X (tupL ks a) = 0 ∧ atV ks t n X (tupL ks a) = q ∧ fndE ks t n X (tupL ks b) = 0 ∧ (∃ v, atV ks t n X (tupL ks b) = v ∧ (a ≠ b → v = (cellAt xs b.toNat : Nat)) ∧ (rsV ks t n X = true → belowT (tupL ks a) (tupL ks b) = true → q ≤ v) ∧ (rsV ks t n X = true → belowT (tupL ks b) (tupL ks a) = true → v ≤ q)) ∧
      okTab ks t n X = true ∧ rsE ks t n X = 0 := by
  have hq : isP t q = true := by unfold isP; simp; omega
  obtain ⟨hp, hok2, hat⟩ := set_tab hb hok a0 a1 hq
  obtain ⟨hE, ht, _, _, _⟩ := okTab_iff.1 hok
  obtain ⟨f1, _⟩ := at_tab hok a0 a1
  obtain ⟨_, _, hv, _⟩ := tup_at hE a0 a1
  have hc : chkP t q = 0 := by unfold chkP; rw [if_neg (by omega), if_pos hq]
  obtain ⟨k1, k2, k3, k4, k5⟩ := set_yes f1 hc
  rw [hv] at k4
  obtain ⟨g1, g2⟩ := at_tab hok2 a0 a1
  obtain ⟨g3, g4⟩ := at_tab hok2 b0 b1
  have ha := hat a a0 a1
  rw [if_pos rfl] at ha
  have hbb := hat b b0 b1
  refine ⟨_, k1, k2, k3, k5, k4, by rw [put_len hp]; exact Nat.le_refl _, g1, by rw [g2, ha]; omega, g3, ⟨_, g4, fun hne => by rw [hbb, if_neg (fun e => hne e.symm)], fun hr hbl => ?_, fun hr hbl => ?_⟩, hok2, by unfold rsE; rw [if_pos hok2]⟩
  · have := rises_at hok2 hr a0 a1 b0 b1 hbl
    omega
  · have := rises_at hok2 hr b0 b1 a0 a1 hbl
    omega

set_option maxHeartbeats 16000000 in
theorem tuplesSet_any (ks : List Int) (t n : Int) (xs : List Nat) (ao bo : Option Addr) (ca cb : Nat) (i j p : Int) (w : World) (h : TbW w ks xs ao bo ca cb) :
    Calls Try.prog 6 #[.agg #[.slice ao ks.length ca, .int .i64 t, .int .i64 n, .slice bo xs.length cb], .int .i64 i, .int .i64 j, .int .i64 p] w fun e w' => e = .returned (.bool true) ∧ Below w.heap.size w w' := by
  have s3 := S4.new w (.slice ao ks.length ca) (.int .i64 t) (.int .i64 n) (.slice bo xs.length cb)
  have B := below_alloc w (.cells #[.slice ao ks.length ca, .int .i64 t, .int .i64 n, .slice bo xs.length cb] 43)
  replace h := h.up B
  have hl := h.l1
  have k0 := h.c1
  have c1 := fun w h => tcheck_any ks t n xs ao bo ca cb w h
  by_cases hok : okTab ks t n xs = true
  · rw [hok] at c1
    simp only [if_true] at c1
    obtain ⟨hE, ht, hn, _, _⟩ := okTab_iff.1 hok
    obtain ⟨hk, hk4⟩ := cntE_zero hE
    have hk1 := prodT_pos hk
    have c2 := fun w h => cnt_any ks _ _ (cntV_zero hE) hE ao ca hl w h
    have HTA : Hid (∀ m : Int, 0 ≤ m → m < prodT ks → _) := fun (m : Int) h0 h1 => tup_at (n := m) hE h0 h1
    have HAT : Hid (∀ m : Int, 0 ≤ m → m < prodT ks → _) := fun (m : Int) h0 h1 => at_tab (b := m) hok h0 h1
    have HTO : Hid (∀ a b q : Int, 0 ≤ a → a < prodT ks → 0 ≤ b → b < prodT ks → 0 ≤ q → q ≤ topP t → _) := fun (a b q : Int) a0 a1 b0 b1 q0 q1 => set_told (a := a) (b := b) (q := q) h.rd.lt hok a0 a1 b0 b1 q0 q1
    have hX := fun m => by have := tupL_len ks m; exact (show (tupL ks m).length ≤ 17592186043904 by omega)
    generalize prodT ks = P at *
    have htc := top_cases t
    clear hE hk hok hn
    by_cases ht3 : t = 3
    · subst ht3
      have htop : topP 3 = 3 := by decide
      clear htc
      obtain ⟨p0, p1, p2, p3⟩ := s3.cells
      go_enter Try.func6, Try.ntmps6
      go_wp2_with fail
      refine (awake16_any _).mono ?_
      rintro e w1 ⟨rfl, hb⟩
      clear p0 p1 p2 p3
      replace h := h.up hb
      replace s3 := s3.up hb
      replace B := Below.thn B hb
      clear hb
      obtain ⟨p0, p1, p2, p3⟩ := s3.cells
      go_wp2_with fail
      refine (c1 _ h).mono ?_
      rintro e w2 ⟨rfl, hb⟩
      clear p0 p1 p2 p3
      replace h := h.up hb
      replace s3 := s3.up hb
      replace B := Below.thn B hb
      clear hb
      obtain ⟨p0, p1, p2, p3⟩ := s3.cells
      clear c1
      go_wp2_with fail
      refine (c2 _ h.iz).mono ?_
      rintro e w3 ⟨rfl, hb⟩
      clear p0 p1 p2 p3
      replace h := h.up hb
      replace s3 := s3.up hb
      replace B := Below.thn B hb
      clear hb
      obtain ⟨p0, p1, p2, p3⟩ := s3.cells
      clear c2
      have ha := ring_rng i hk1 hk4
      have hb' := ring_rng j hk1 hk4
      have hq := ring_four p
      go_wp2_with fail
      generalize (wrap64 (i.tmod P + P)).tmod P = a at *
      generalize (wrap64 (j.tmod P + P)).tmod P = b at *
      obtain ⟨a0, a1⟩ := ha
      obtain ⟨b0, b1⟩ := hb'
      obtain ⟨q, hqe⟩ : ∃ q, q = (wrap64 (p.tmod 4 + 4)).tmod 4 := ⟨_, rfl⟩
      rw [← hqe] at hq
      obtain ⟨q0, q1⟩ := hq
      obtain ⟨x1, x2, _, _⟩ := HTA.out a a0 a1
      obtain ⟨y1, y2, _, _⟩ := HTA.out b b0 b1
      obtain ⟨f1, f2⟩ := HAT.out b b0 b1
      obtain ⟨X, k1, k2, k3, k4, k5, kl, g1, g2, g3, ⟨v, g4, g5, g6, g7⟩, g8, g9⟩ := HTO.out a b q a0 a1 b0 b1 q0 (by omega)
      have hxl := hX a
      have hyl := hX b
      have hXl := Nat.le_trans kl h.l2
      have c4 := fun w h => tup_any ks _ _ _ x1 x2 ao ca hl w h
      have c5 := fun w h => tup_any ks _ _ _ y1 y2 ao ca hl w h
      have c6 := fun yo cy w h g => at_any ks 3 n xs ao bo ca cb w h (tupL ks b) yo cy g hyl
      have c7 := fun xo cx w h g => tset_any ks 3 n xs ao bo ca cb w h (tupL ks a) xo cx g hxl q k0
      have c8 := fun po so pc sc xo cx w h g => at_any ks 3 n X po so pc sc w h (tupL ks a) xo cx g hxl
      have c9 := fun po so pc sc xo cx w h g => at_any ks 3 n X po so pc sc w h (tupL ks b) xo cx g hyl
      have c10 := fun po so pc sc w h => tcheck_any ks 3 n X po so pc sc w h
      have c11 := fun po so pc sc w h => rises_any ks 3 n X po so pc sc w h
      have c12 := fun xo yo c d w h g => rBelow_any (tupL ks a) (tupL ks b) xo yo c d w h g hxl hyl
      have c13 := fun xo yo c d w h g => rBelow_any (tupL ks b) (tupL ks a) xo yo c d w h g hyl hxl
      rw [f1, f2] at c6
      rw [k1, k2, k3, k4, k5] at c7
      rw [g1, g2] at c8
      rw [g3, g4] at c9
      rw [g8] at c10
      rw [g9] at c11
      simp only [if_true] at c10
      generalize tupL ks a = XA at *
      generalize tupL ks b = YB at *
      generalize rsV ks 3 n X = RV at *
      generalize belowT XA YB = T1 at *
      generalize belowT YB XA = T2 at *
      generalize ((cellAt xs b.toNat : Nat) : Int) = u at *
      have G5 : Hid (a ≠ b → v = u) := g5
      have G6 : Hid (RV = true → T1 = true → q ≤ v) := g6
      have G7 : Hid (RV = true → T2 = true → v ≤ q) := g7
      have HQE : Hid (q = (wrap64 (p.tmod 4 + 4)).tmod 4) := hqe
      clear x1 x2 y1 y2 f1 f2 k1 k2 k3 k4 k5 kl g1 g2 g3 g4 g5 g6 g7 g8 g9 HTA HAT HTO hX hqe q0 q1
      refine (c4 _ h.iz).mono ?_
      rintro e w4 ⟨xo, cx, rfl, hx, hb⟩
      clear p0 p1 p2 p3
      replace h := h.up hb
      replace s3 := s3.up hb
      replace B := Below.thn B hb
      clear hb
      obtain ⟨p0, p1, p2, p3⟩ := s3.cells
      clear c4
      go_wp2_with fail
      refine (c5 _ h.iz).mono ?_
      rintro e w5 ⟨yo, cy, rfl, hy, hb⟩
      clear p0 p1 p2 p3
      replace h := h.up hb
      replace hx := hx.up hb
      replace s3 := s3.up hb
      replace B := Below.thn B hb
      clear hb
      obtain ⟨p0, p1, p2, p3⟩ := s3.cells
      clear c5
      go_wp2_with fail
      refine (c6 _ _ _ h hy).mono ?_
      rintro e w6 ⟨rfl, hb⟩
      clear p0 p1 p2 p3
      replace h := h.up hb
      replace hx := hx.up hb
      replace hy := hy.up hb
      replace s3 := s3.up hb
      replace B := Below.thn B hb
      clear hb
      obtain ⟨p0, p1, p2, p3⟩ := s3.cells
      clear c6
      go_wp2_with fail
      rw [← HQE.out]
      refine (c7 _ _ _ h hx).mono ?_
      rintro e w7 ⟨po, pc, so, sc, rfl, hO, hf, hb⟩
      have nT := tab_tb hO hf hl hXl
      clear hO hf c7
      clear p0 p1 p2 p3
      replace h := h.up hb
      replace hx := hx.up hb
      replace hy := hy.up hb
      replace s3 := s3.up hb
      replace B := Below.thn B hb
      clear hb
      clear h
      clear s3
      have hb := below_alloc w7 (.cells #[.slice po ks.length pc, .int .i64 3, .int .i64 n, .slice so X.length sc] 43)
      replace hx := hx.up hb
      replace hy := hy.up hb
      replace nT := nT.up hb
      replace B := Below.thn B hb
      clear hb
      have sn := S4.new w7 (.slice po ks.length pc) (.int .i64 3) (.int .i64 n) (.slice so X.length sc)
      obtain ⟨q0, q1, q2, q3⟩ := sn.cells
      go_wp2_with fail
      refine (c8 _ _ _ _ _ _ _ nT hx).mono ?_
      rintro e w8 ⟨rfl, hb⟩
      clear q0 q1 q2 q3
      replace hx := hx.up hb
      replace hy := hy.up hb
      replace nT := nT.up hb
      replace sn := sn.up hb
      replace B := Below.thn B hb
      clear hb
      obtain ⟨q0, q1, q2, q3⟩ := sn.cells
      clear c8
      go_wp2_with fail
      refine (c9 _ _ _ _ _ _ _ nT hy).mono ?_
      rintro e w9 ⟨rfl, hb⟩
      clear q0 q1 q2 q3
      replace hx := hx.up hb
      replace hy := hy.up hb
      replace nT := nT.up hb
      replace sn := sn.up hb
      replace B := Below.thn B hb
      clear hb
      obtain ⟨q0, q1, q2, q3⟩ := sn.cells
      clear c9
      by_cases hab : a = b
      · subst hab
        clear G5
        go_wp2_with fail
        refine (c10 _ _ _ _ _ nT).mono ?_
        rintro e w10 ⟨rfl, hb⟩
        clear q0 q1 q2 q3
        replace hx := hx.up hb
        replace hy := hy.up hb
        replace nT := nT.up hb
        replace sn := sn.up hb
        replace B := Below.thn B hb
        clear hb
        obtain ⟨q0, q1, q2, q3⟩ := sn.cells
        clear c10
        go_wp2_with fail
        refine (c11 _ _ _ _ _ nT).mono ?_
        rintro e w11 ⟨rfl, hb⟩
        clear q0 q1 q2 q3
        replace hx := hx.up hb
        replace hy := hy.up hb
        replace nT := nT.up hb
        replace sn := sn.up hb
        replace B := Below.thn B hb
        clear hb
        obtain ⟨q0, q1, q2, q3⟩ := sn.cells
        clear c11
        clear nT
        clear sn q0 q1 q2 q3
        cases hRV : RV with
        | false =>
          clear G6 G7
          go_wp2
          go_ret
          exact ⟨rfl, B⟩
        | true =>
          go_wp2_with fail
          refine (c12 _ _ _ _ _ hx hy).mono ?_
          rintro e wx ⟨rfl, hb⟩
          replace hx := hx.up hb
          replace hy := hy.up hb
          replace B := Below.thn B hb
          clear hb c12
          cases hT1 : T1 with
          | false =>
            go_wp2_with fail
            refine (c13 _ _ _ _ _ hy hx).mono ?_
            rintro e wy ⟨rfl, hb⟩
            replace B := Below.thn B hb
            clear hb c13 hx hy
            cases hT2 : T2 with
            | false =>
              clear G6 G7
              go_wp2
              go_ret
              exact ⟨rfl, B⟩
            | true =>
              have hd : decide (q < v) = false := decide_eq_false (by have := G7.out hRV hT2; omega)
              clear G6 G7
              go_wp2
              go_ret
              exact ⟨rfl, B⟩
          | true =>
            have hd : decide (v < q) = false := decide_eq_false (by have := G6.out hRV hT1; omega)
            go_wp2_with fail
            refine (c13 _ _ _ _ _ hy hx).mono ?_
            rintro e wy ⟨rfl, hb⟩
            replace B := Below.thn B hb
            clear hb c13 hx hy
            cases hT2 : T2 with
            | false =>
              clear G6 G7
              go_wp2
              go_ret
              exact ⟨rfl, B⟩
            | true =>
              have hd : decide (q < v) = false := decide_eq_false (by have := G7.out hRV hT2; omega)
              clear G6 G7
              go_wp2
              go_ret
              exact ⟨rfl, B⟩
      · have hne : (a != b) = true := by simpa using hab
        obtain rfl := G5.out hab
        clear G5
        go_wp2_with fail
        refine (c10 _ _ _ _ _ nT).mono ?_
        rintro e w10 ⟨rfl, hb⟩
        clear q0 q1 q2 q3
        replace hx := hx.up hb
        replace hy := hy.up hb
        replace nT := nT.up hb
        replace sn := sn.up hb
        replace B := Below.thn B hb
        clear hb
        obtain ⟨q0, q1, q2, q3⟩ := sn.cells
        clear c10
        go_wp2_with fail
        refine (c11 _ _ _ _ _ nT).mono ?_
        rintro e w11 ⟨rfl, hb⟩
        clear q0 q1 q2 q3
        replace hx := hx.up hb
        replace hy := hy.up hb
        replace nT := nT.up hb
        replace sn := sn.up hb
        replace B := Below.thn B hb
        clear hb
        obtain ⟨q0, q1, q2, q3⟩ := sn.cells
        clear c11
        clear nT
        clear sn q0 q1 q2 q3
        cases hRV : RV with
        | false =>
          clear G6 G7
          go_wp2
          go_ret
          exact ⟨rfl, B⟩
        | true =>
          go_wp2_with fail
          refine (c12 _ _ _ _ _ hx hy).mono ?_
          rintro e wx ⟨rfl, hb⟩
          replace hx := hx.up hb
          replace hy := hy.up hb
          replace B := Below.thn B hb
          clear hb c12
          cases hT1 : T1 with
          | false =>
            go_wp2_with fail
            refine (c13 _ _ _ _ _ hy hx).mono ?_
            rintro e wy ⟨rfl, hb⟩
            replace B := Below.thn B hb
            clear hb c13 hx hy
            cases hT2 : T2 with
            | false =>
              clear G6 G7
              go_wp2
              go_ret
              exact ⟨rfl, B⟩
            | true =>
              have hd : decide (q < v) = false := decide_eq_false (by have := G7.out hRV hT2; omega)
              clear G6 G7
              go_wp2
              go_ret
              exact ⟨rfl, B⟩
          | true =>
            have hd : decide (v < q) = false := decide_eq_false (by have := G6.out hRV hT1; omega)
            go_wp2_with fail
            refine (c13 _ _ _ _ _ hy hx).mono ?_
            rintro e wy ⟨rfl, hb⟩
            replace B := Below.thn B hb
            clear hb c13 hx hy
            cases hT2 : T2 with
            | false =>
              clear G6 G7
              go_wp2
              go_ret
              exact ⟨rfl, B⟩
            | true =>
              have hd : decide (q < v) = false := decide_eq_false (by have := G7.out hRV hT2; omega)
              clear G6 G7
              go_wp2
              go_ret
              exact ⟨rfl, B⟩
    · have ht3' : (t == 3) = false := by simpa using ht3
      have htop : topP t = 1 := by rcases htc with ⟨_, h⟩ | ⟨_, h⟩ | ⟨h, _⟩ | ⟨_, _, _, h⟩; exact h; exact h; exact absurd h ht3; omega
      clear htc ht3
      obtain ⟨p0, p1, p2, p3⟩ := s3.cells
      go_enter Try.func6, Try.ntmps6
      go_wp2_with fail
      refine (awake16_any _).mono ?_
      rintro e w1 ⟨rfl, hb⟩
      clear p0 p1 p2 p3
      replace h := h.up hb
      replace s3 := s3.up hb
      replace B := Below.thn B hb
      clear hb
      obtain ⟨p0, p1, p2, p3⟩ := s3.cells
      go_wp2_with fail
      refine (c1 _ h).mono ?_
      rintro e w2 ⟨rfl, hb⟩
      clear p0 p1 p2 p3
      replace h := h.up hb
      replace s3 := s3.up hb
      replace B := Below.thn B hb
      clear hb
      obtain ⟨p0, p1, p2, p3⟩ := s3.cells
      clear c1
      go_wp2_with fail
      refine (c2 _ h.iz).mono ?_
      rintro e w3 ⟨rfl, hb⟩
      clear p0 p1 p2 p3
      replace h := h.up hb
      replace s3 := s3.up hb
      replace B := Below.thn B hb
      clear hb
      obtain ⟨p0, p1, p2, p3⟩ := s3.cells
      clear c2
      have ha := ring_rng i hk1 hk4
      have hb' := ring_rng j hk1 hk4
      have hq := ring_two p
      go_wp2_with fail
      generalize (wrap64 (i.tmod P + P)).tmod P = a at *
      generalize (wrap64 (j.tmod P + P)).tmod P = b at *
      obtain ⟨a0, a1⟩ := ha
      obtain ⟨b0, b1⟩ := hb'
      obtain ⟨q, hqe⟩ : ∃ q, q = (wrap64 (p.tmod 2 + 2)).tmod 2 := ⟨_, rfl⟩
      rw [← hqe] at hq
      obtain ⟨q0, q1⟩ := hq
      obtain ⟨x1, x2, _, _⟩ := HTA.out a a0 a1
      obtain ⟨y1, y2, _, _⟩ := HTA.out b b0 b1
      obtain ⟨f1, f2⟩ := HAT.out b b0 b1
      obtain ⟨X, k1, k2, k3, k4, k5, kl, g1, g2, g3, ⟨v, g4, g5, g6, g7⟩, g8, g9⟩ := HTO.out a b q a0 a1 b0 b1 q0 (by omega)
      have hxl := hX a
      have hyl := hX b
      have hXl := Nat.le_trans kl h.l2
      have c4 := fun w h => tup_any ks _ _ _ x1 x2 ao ca hl w h
      have c5 := fun w h => tup_any ks _ _ _ y1 y2 ao ca hl w h
      have c6 := fun yo cy w h g => at_any ks t n xs ao bo ca cb w h (tupL ks b) yo cy g hyl
      have c7 := fun xo cx w h g => tset_any ks t n xs ao bo ca cb w h (tupL ks a) xo cx g hxl q k0
      have c8 := fun po so pc sc xo cx w h g => at_any ks t n X po so pc sc w h (tupL ks a) xo cx g hxl
      have c9 := fun po so pc sc xo cx w h g => at_any ks t n X po so pc sc w h (tupL ks b) xo cx g hyl
      have c10 := fun po so pc sc w h => tcheck_any ks t n X po so pc sc w h
      have c11 := fun po so pc sc w h => rises_any ks t n X po so pc sc w h
      have c12 := fun xo yo c d w h g => rBelow_any (tupL ks a) (tupL ks b) xo yo c d w h g hxl hyl
      have c13 := fun xo yo c d w h g => rBelow_any (tupL ks b) (tupL ks a) xo yo c d w h g hyl hxl
      rw [f1, f2] at c6
      rw [k1, k2, k3, k4, k5] at c7
      rw [g1, g2] at c8
      rw [g3, g4] at c9
      rw [g8] at c10
      rw [g9] at c11
      simp only [if_true] at c10
      generalize tupL ks a = XA at *
      generalize tupL ks b = YB at *
      generalize rsV ks t n X = RV at *
      generalize belowT XA YB = T1 at *
      generalize belowT YB XA = T2 at *
      generalize ((cellAt xs b.toNat : Nat) : Int) = u at *
      have G5 : Hid (a ≠ b → v = u) := g5
      have G6 : Hid (RV = true → T1 = true → q ≤ v) := g6
      have G7 : Hid (RV = true → T2 = true → v ≤ q) := g7
      have HQE : Hid (q = (wrap64 (p.tmod 2 + 2)).tmod 2) := hqe
      clear x1 x2 y1 y2 f1 f2 k1 k2 k3 k4 k5 kl g1 g2 g3 g4 g5 g6 g7 g8 g9 HTA HAT HTO hX hqe q0 q1
      refine (c4 _ h.iz).mono ?_
      rintro e w4 ⟨xo, cx, rfl, hx, hb⟩
      clear p0 p1 p2 p3
      replace h := h.up hb
      replace s3 := s3.up hb
      replace B := Below.thn B hb
      clear hb
      obtain ⟨p0, p1, p2, p3⟩ := s3.cells
      clear c4
      go_wp2_with fail
      refine (c5 _ h.iz).mono ?_
      rintro e w5 ⟨yo, cy, rfl, hy, hb⟩
      clear p0 p1 p2 p3
      replace h := h.up hb
      replace hx := hx.up hb
      replace s3 := s3.up hb
      replace B := Below.thn B hb
      clear hb
      obtain ⟨p0, p1, p2, p3⟩ := s3.cells
      clear c5
      go_wp2_with fail
      refine (c6 _ _ _ h hy).mono ?_
      rintro e w6 ⟨rfl, hb⟩
      clear p0 p1 p2 p3
      replace h := h.up hb
      replace hx := hx.up hb
      replace hy := hy.up hb
      replace s3 := s3.up hb
      replace B := Below.thn B hb
      clear hb
      obtain ⟨p0, p1, p2, p3⟩ := s3.cells
      clear c6
      go_wp2_with fail
      rw [← HQE.out]
      refine (c7 _ _ _ h hx).mono ?_
      rintro e w7 ⟨po, pc, so, sc, rfl, hO, hf, hb⟩
      have nT := tab_tb hO hf hl hXl
      clear hO hf c7
      clear p0 p1 p2 p3
      replace h := h.up hb
      replace hx := hx.up hb
      replace hy := hy.up hb
      replace s3 := s3.up hb
      replace B := Below.thn B hb
      clear hb
      clear h
      clear s3
      have hb := below_alloc w7 (.cells #[.slice po ks.length pc, .int .i64 t, .int .i64 n, .slice so X.length sc] 43)
      replace hx := hx.up hb
      replace hy := hy.up hb
      replace nT := nT.up hb
      replace B := Below.thn B hb
      clear hb
      have sn := S4.new w7 (.slice po ks.length pc) (.int .i64 t) (.int .i64 n) (.slice so X.length sc)
      obtain ⟨q0, q1, q2, q3⟩ := sn.cells
      go_wp2_with fail
      refine (c8 _ _ _ _ _ _ _ nT hx).mono ?_
      rintro e w8 ⟨rfl, hb⟩
      clear q0 q1 q2 q3
      replace hx := hx.up hb
      replace hy := hy.up hb
      replace nT := nT.up hb
      replace sn := sn.up hb
      replace B := Below.thn B hb
      clear hb
      obtain ⟨q0, q1, q2, q3⟩ := sn.cells
      clear c8
      go_wp2_with fail
      refine (c9 _ _ _ _ _ _ _ nT hy).mono ?_
      rintro e w9 ⟨rfl, hb⟩
      clear q0 q1 q2 q3
      replace hx := hx.up hb
      replace hy := hy.up hb
      replace nT := nT.up hb
      replace sn := sn.up hb
      replace B := Below.thn B hb
      clear hb
      obtain ⟨q0, q1, q2, q3⟩ := sn.cells
      clear c9
      by_cases hab : a = b
      · subst hab
        clear G5
        go_wp2_with fail
        refine (c10 _ _ _ _ _ nT).mono ?_
        rintro e w10 ⟨rfl, hb⟩
        clear q0 q1 q2 q3
        replace hx := hx.up hb
        replace hy := hy.up hb
        replace nT := nT.up hb
        replace sn := sn.up hb
        replace B := Below.thn B hb
        clear hb
        obtain ⟨q0, q1, q2, q3⟩ := sn.cells
        clear c10
        go_wp2_with fail
        refine (c11 _ _ _ _ _ nT).mono ?_
        rintro e w11 ⟨rfl, hb⟩
        clear q0 q1 q2 q3
        replace hx := hx.up hb
        replace hy := hy.up hb
        replace nT := nT.up hb
        replace sn := sn.up hb
        replace B := Below.thn B hb
        clear hb
        obtain ⟨q0, q1, q2, q3⟩ := sn.cells
        clear c11
        clear nT
        clear sn q0 q1 q2 q3
        cases hRV : RV with
        | false =>
          clear G6 G7
          go_wp2
          go_ret
          exact ⟨rfl, B⟩
        | true =>
          go_wp2_with fail
          refine (c12 _ _ _ _ _ hx hy).mono ?_
          rintro e wx ⟨rfl, hb⟩
          replace hx := hx.up hb
          replace hy := hy.up hb
          replace B := Below.thn B hb
          clear hb c12
          cases hT1 : T1 with
          | false =>
            go_wp2_with fail
            refine (c13 _ _ _ _ _ hy hx).mono ?_
            rintro e wy ⟨rfl, hb⟩
            replace B := Below.thn B hb
            clear hb c13 hx hy
            cases hT2 : T2 with
            | false =>
              clear G6 G7
              go_wp2
              go_ret
              exact ⟨rfl, B⟩
            | true =>
              have hd : decide (q < v) = false := decide_eq_false (by have := G7.out hRV hT2; omega)
              clear G6 G7
              go_wp2
              go_ret
              exact ⟨rfl, B⟩
          | true =>
            have hd : decide (v < q) = false := decide_eq_false (by have := G6.out hRV hT1; omega)
            go_wp2_with fail
            refine (c13 _ _ _ _ _ hy hx).mono ?_
            rintro e wy ⟨rfl, hb⟩
            replace B := Below.thn B hb
            clear hb c13 hx hy
            cases hT2 : T2 with
            | false =>
              clear G6 G7
              go_wp2
              go_ret
              exact ⟨rfl, B⟩
            | true =>
              have hd : decide (q < v) = false := decide_eq_false (by have := G7.out hRV hT2; omega)
              clear G6 G7
              go_wp2
              go_ret
              exact ⟨rfl, B⟩
      · have hne : (a != b) = true := by simpa using hab
        obtain rfl := G5.out hab
        clear G5
        go_wp2_with fail
        refine (c10 _ _ _ _ _ nT).mono ?_
        rintro e w10 ⟨rfl, hb⟩
        clear q0 q1 q2 q3
        replace hx := hx.up hb
        replace hy := hy.up hb
        replace nT := nT.up hb
        replace sn := sn.up hb
        replace B := Below.thn B hb
        clear hb
        obtain ⟨q0, q1, q2, q3⟩ := sn.cells
        clear c10
        go_wp2_with fail
        refine (c11 _ _ _ _ _ nT).mono ?_
        rintro e w11 ⟨rfl, hb⟩
        clear q0 q1 q2 q3
        replace hx := hx.up hb
        replace hy := hy.up hb
        replace nT := nT.up hb
        replace sn := sn.up hb
        replace B := Below.thn B hb
        clear hb
        obtain ⟨q0, q1, q2, q3⟩ := sn.cells
        clear c11
        clear nT
        clear sn q0 q1 q2 q3
        cases hRV : RV with
        | false =>
          clear G6 G7
          go_wp2
          go_ret
          exact ⟨rfl, B⟩
        | true =>
          go_wp2_with fail
          refine (c12 _ _ _ _ _ hx hy).mono ?_
          rintro e wx ⟨rfl, hb⟩
          replace hx := hx.up hb
          replace hy := hy.up hb
          replace B := Below.thn B hb
          clear hb c12
          cases hT1 : T1 with
          | false =>
            go_wp2_with fail
            refine (c13 _ _ _ _ _ hy hx).mono ?_
            rintro e wy ⟨rfl, hb⟩
            replace B := Below.thn B hb
            clear hb c13 hx hy
            cases hT2 : T2 with
            | false =>
              clear G6 G7
              go_wp2
              go_ret
              exact ⟨rfl, B⟩
            | true =>
              have hd : decide (q < v) = false := decide_eq_false (by have := G7.out hRV hT2; omega)
              clear G6 G7
              go_wp2
              go_ret
              exact ⟨rfl, B⟩
          | true =>
            have hd : decide (v < q) = false := decide_eq_false (by have := G6.out hRV hT1; omega)
            go_wp2_with fail
            refine (c13 _ _ _ _ _ hy hx).mono ?_
            rintro e wy ⟨rfl, hb⟩
            replace B := Below.thn B hb
            clear hb c13 hx hy
            cases hT2 : T2 with
            | false =>
              clear G6 G7
              go_wp2
              go_ret
              exact ⟨rfl, B⟩
            | true =>
              have hd : decide (q < v) = false := decide_eq_false (by have := G7.out hRV hT2; omega)
              clear G6 G7
              go_wp2
              go_ret
              exact ⟨rfl, B⟩
  · have hof : okTab ks t n xs = false := by simpa using hok
    rw [hof] at c1
    simp only [Bool.false_eq_true, if_false] at c1
    have c2 := fun w h => rises_any ks t n xs ao bo ca cb w h
    have e1 : rsV ks t n xs = false := by unfold rsV; rw [hof]; rfl
    have e2 : rsE ks t n xs = 3 := by unfold rsE; rw [hof]; rfl
    rw [e1, e2] at c2
    clear hof hok e1 e2 hl k0
    obtain ⟨p0, p1, p2, p3⟩ := s3.cells
    go_enter Try.func6, Try.ntmps6
    go_wp2_with fail
    refine (awake16_any _).mono ?_
    rintro e w1 ⟨rfl, hb⟩
    clear p0 p1 p2 p3
    replace h := h.up hb
    replace s3 := s3.up hb
    replace B := Below.thn B hb
    clear hb
    obtain ⟨p0, p1, p2, p3⟩ := s3.cells
    go_wp2_with fail
    refine (c1 _ h).mono ?_
    rintro e w2 ⟨rfl, hb⟩
    clear p0 p1 p2 p3
    replace h := h.up hb
    replace s3 := s3.up hb
    replace B := Below.thn B hb
    clear hb
    obtain ⟨p0, p1, p2, p3⟩ := s3.cells
    clear c1
    go_wp2_with fail
    refine (c2 _ h).mono ?_
    rintro e w3 ⟨rfl, hb⟩
    clear p0 p1 p2 p3
    replace h := h.up hb
    replace s3 := s3.up hb
    replace B := Below.thn B hb
    clear hb
    obtain ⟨p0, p1, p2, p3⟩ := s3.cells
    clear c2
    go_wp2
    go_ret
    exact ⟨rfl, B⟩
end Go.Proofs.Ytiikkbofcccjfaa
