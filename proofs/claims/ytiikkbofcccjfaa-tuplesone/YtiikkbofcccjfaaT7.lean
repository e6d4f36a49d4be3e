/-
  Tables: is it one, its points, the point at a tuple: the program's and the document's.
-/
import Derived.Test.YtiikkbofcccjfaaT6
namespace Go.Proofs.Ytiikkbofcccjfaa
open Go.RowKit
open Go.Lib
open RowsM
set_option maxRecDepth 100000

/-- Is it a table? -/
def okTab (ks : List Int) (t n : Int) (xs : List Nat) : Bool := decide (cntE ks = 0 ∧ 0 ≤ topP t ∧ n = prodT ks ∧ okR n xs = true ∧ ∀ c, c ∈ cellsL n xs → (c : Int) ≤ topP t)

theorem tally_zero (cs : List Nat) (v : Nat) : tally cs v = 0 ↔ v ∉ cs := by
  induction cs with
  | nil => simp [tally]
  | cons c cs ih =>
    unfold tally at ih ⊢
    simp only [List.map_cons, List.sum_cons, List.mem_cons, not_or]
    by_cases e : c = v
    · subst e; simp
    · rw [if_neg e, Nat.zero_add, ih]
      exact ⟨fun h => ⟨fun e' => e e'.symm, h⟩, fun h => h.2⟩
theorem count_zero {n : Int} {xs : List Nat} (hb : Bd xs) (h : okR n xs = true) {v : Int} (h0 : 1 ≤ v) (h3 : v ≤ 3) : countV n xs v = 0 ↔ v.toNat ∉ cellsL n xs := by
  have ht := tally_row hb h v.toNat
  have hv : okV v = true := by unfold okV; simp; omega
  have e : countV n xs v = (countL xs v.toNat : Int) := by unfold countV; rw [h, hv, if_neg (show v ≠ 0 by omega)]; simp
  rw [if_neg (by omega)] at ht
  rw [e, ← tally_zero]
  omega
theorem cells_lt {n : Int} {xs : List Nat} {c : Nat} (h : c ∈ cellsL n xs) : c < 4 := by
  unfold cellsL at h
  obtain ⟨i, _, rfl⟩ := List.mem_map.1 h
  exact cellAt_lt xs i
theorem top_le3 (t : Int) : topP t ≤ 3 := by unfold topP; split <;> (try split) <;> omega
theorem top_pos {t : Int} (h : 0 ≤ topP t) : 1 ≤ topP t := by unfold topP at *; split <;> (try split) <;> simp_all

theorem okTab_no {ks : List Int} {t n : Int} {xs : List Nat} (h : ¬ (cntE ks = 0 ∧ 0 ≤ topP t ∧ n = prodT ks ∧ okR n xs = true ∧ ∀ c, c ∈ cellsL n xs → (c : Int) ≤ topP t)) : okTab ks t n xs = false := decide_eq_false h
theorem okTab_iff {ks : List Int} {t n : Int} {xs : List Nat} : okTab ks t n xs = true ↔ (cntE ks = 0 ∧ 0 ≤ topP t ∧ n = prodT ks ∧ okR n xs = true ∧ ∀ c, c ∈ cellsL n xs → (c : Int) ≤ topP t) := by unfold okTab; exact decide_eq_true_iff

/-- No cell is above the top up to v. -/
def noneTo (n : Int) (xs : List Nat) (t v : Int) : Prop := ∀ u : Int, topP t < u → u < v → u.toNat ∉ cellsL n xs
theorem none_more {n : Int} {xs : List Nat} {t v : Int} (h : noneTo n xs t v) (hv : v.toNat ∉ cellsL n xs) : noneTo n xs t (v + 1) := by
  intro u h1 h2
  rcases Int.lt_or_le u v with h3 | h3
  · exact h u h1 h3
  · obtain rfl : u = v := by omega
    exact hv
theorem none_all {n : Int} {xs : List Nat} {t : Int} (_ht : 0 ≤ topP t) (h : noneTo n xs t 4) : ∀ c, c ∈ cellsL n xs → (c : Int) ≤ topP t := by
  intro c hc
  have := cells_lt hc
  rcases Int.lt_or_le (topP t) c with h1 | h1
  · exact absurd (by simpa using hc) (h c h1 (by omega))
  · exact h1

set_option maxHeartbeats 1000000 in
theorem tcheck_any (ks : List Int) (t n : Int) (xs : List Nat) (ao bo : Option Addr) (ca cb : Nat) (w : World) (h : TbW w ks xs ao bo ca cb) :
    Calls Try.prog 20 #[.agg #[.slice ao ks.length ca, .int .i64 t, .int .i64 n, .slice bo xs.length cb]] w fun e w' => e = .returned (.int .i64 (if okTab ks t n xs then 0 else 3)) ∧ Below w.heap.size w w' := by
  have s0 := S4.new w (.slice ao ks.length ca) (.int .i64 t) (.int .i64 n) (.slice bo xs.length cb)
  have b0 := below_alloc w (.cells #[.slice ao ks.length ca, .int .i64 t, .int .i64 n, .slice bo xs.length cb] 43)
  have h0 := h.up b0
  have hcn := count16_any ks ao ca _ h0.iz h.l1
  obtain ⟨p0, p1, p2, p3⟩ := s0.cells
  have hty := fun w => isType_any t w
  by_cases hE : cntE ks = 0
  · rw [hE, cntV_zero hE] at hcn
    have hok := cntE_zero hE
    have hpp := prodT_pos hok.1
    have hok4 := hok.2
    by_cases ht : 0 ≤ topP t
    · have hd : decide (0 ≤ topP t) = true := decide_eq_true ht
      rw [hd] at hty
      clear hd
      by_cases hn : n = prodT ks
      · by_cases hr : okR n xs = true
        · obtain ⟨r, hre⟩ : ∃ r : Int, r = if okTab ks t n xs then 0 else 3 := ⟨_, rfl⟩
          have hyes : noneTo n xs t 4 → r = 0 := fun hx => by rw [hre, if_pos (okTab_iff.2 ⟨hE, ht, hn, hr, none_all ht hx⟩)]
          have hno : ∀ u : Int, topP t < u → u.toNat ∈ cellsL n xs → r = 3 := fun u h1 h2 => by
            rw [hre, okTab_no (fun hh => by have := hh.2.2.2.2 _ h2; omega)]
            rfl
          have h3 := top_le3 t
          have h1' := top_pos ht
          have hst : noneTo n xs t (topP t + 1) := fun u h1 h2 => by omega
          have hcz := fun v : Int => count_zero (v := v) h.rd.lt hr
          have hnx := fun v : Int => none_more (n := n) (xs := xs) (t := t) (v := v)
          rw [← hre]
          have HY : Hid (noneTo n xs t 4 → r = 0) := hyes
          have HN : Hid (∀ u : Int, topP t < u → u.toNat ∈ cellsL n xs → r = 3) := hno
          have HZ : Hid (∀ v : Int, 1 ≤ v → v ≤ 3 → (countV n xs v = 0 ↔ v.toNat ∉ cellsL n xs)) := hcz
          have HX : Hid (∀ v : Int, noneTo n xs t v → v.toNat ∉ cellsL n xs → noneTo n xs t (v + 1)) := hnx
          have HT : Hid (noneTo n xs t (topP t + 1)) := hst
          clear hre hyes hno hst hcz hnx hE hok
          have hsz := fun w => size_any t w ht
          obtain ⟨q, hqe⟩ : ∃ q, q = topP t := ⟨_, rfl⟩
          have HN2 : Hid (∀ u : Int, q < u → u.toNat ∈ cellsL n xs → r = 3) := by rw [hqe]; exact HN.out
          have HT2 : Hid (noneTo n xs t (q + 1)) := by rw [hqe]; exact HT.out
          rw [← hqe] at hsz ht h3 h1'
          clear hqe HN HT
          rw [← hn] at hcn hpp hok4
          clear hn
          have hnn : (n != n) = false := by simp
          go_enter Try.func20, Try.ntmps20
          go_wp2_with fail
          refine hcn.mono ?_
          rintro e w1 ⟨rfl, hb⟩
          clear p0 p1 p2 p3
          have s1 := s0.up hb
          have h1 := h0.up hb
          have b1 := Below.thn b0 hb
          obtain ⟨p0, p1, p2, p3⟩ := s1.cells
          clear s0 h0 b0 hcn hb h
          have hck := check_any n bo cb xs w1 h1.rd h1.l2
          rw [hr] at hck
          simp only [if_true] at hck
          go_wp2_with fail
          refine (hty _).mono ?_
          rintro e w2 ⟨rfl, rfl⟩
          clear hty
          go_wp2_with fail
          refine hck.mono ?_
          rintro e w3 ⟨rfl, hb⟩
          clear p0 p1 p2 p3
          have s3 := s1.up hb
          have h3' := h1.up hb
          have b3 := Below.thn b1 hb
          obtain ⟨p0, p1, p2, p3⟩ := s3.cells
          clear s1 h1 b1 hck hb
          go_wp2_with fail
          refine (hsz _).mono ?_
          rintro e w4 ⟨rfl, rfl⟩
          clear hsz
          go_wp2
          clear p0 p1 p2 p3
          go_loopw [5] (fun i wr => ∃ v : Int, i = .int .i64 v ∧ q < v ∧ v ≤ 4 ∧ Hid (noneTo n xs t v) ∧ Below w4.heap.size w4 wr) (fun i _ => (4 - intOf i).toNat)
          case atStart => exact ⟨q + 1, rfl, by omega, by omega, HT2, Below.refl _ _⟩
          case round =>
            obtain ⟨v, rfl, hv1, hv2, HV, hbz⟩ := hrel
            by_cases hlt : v ≤ 3
            · have hcz := HZ.out v (by omega) hlt
              have hvn := HX.out v HV.out
              have hno := HN2.out v hv1
              have hcnt := fun c hc => count_ok n bo cb xs v wr c hr (by unfold okV; simp; omega) hc (h3'.rd.up hbz) h3'.l2
              obtain ⟨p0, p1, p2, p3⟩ := (s3.up hbz).cells
              obtain ⟨c, hce⟩ : ∃ c, c = countV n xs v := ⟨_, rfl⟩
              have hcnt2 := hcnt c hce.symm
              rw [← hce] at hcz
              clear hcnt hce s3
              by_cases hc0 : c = 0
              · subst hc0
                have hvm := hvn (hcz.1 rfl)
                have HVM : Hid (noneTo n xs t (v + 1)) := hvm
                clear hvn hvm hcz hno
                go_wp2_with fail
                refine hcnt2.mono ?_
                rintro e w5 ⟨rfl, hb5⟩
                clear hcnt2
                go_wp2
                go_roundw
                case rel => exact ⟨v + 1, by go_num, by omega, by omega, HVM, Below.thn hbz hb5⟩
                case measure => simp [intOf]; omega
              · have hmem : v.toNat ∈ cellsL n xs := Decidable.byContradiction fun h => hc0 (hcz.2 h)
                obtain rfl := hno hmem
                have hcn0 : (c != 0) = true := by simpa using hc0
                clear hvn hcz hno hmem
                go_wp2_with fail
                refine hcnt2.mono ?_
                rintro e w5 ⟨rfl, hb5⟩
                clear hcnt2
                go_wp2
                go_ret
                exact ⟨rfl, Below.thn (Below.thn b3 hbz) hb5⟩
            · obtain rfl : v = 4 := by omega
              obtain rfl := HY.out HV.out
              go_wp2
              go_ret
              exact ⟨rfl, Below.thn b3 hbz⟩
        · have hno : okTab ks t n xs = false := okTab_no fun hh => hr hh.2.2.2.1
          have hrf : okR n xs = false := by simpa using hr
          rw [hno]
          simp only [Bool.false_eq_true, if_false]
          rw [← hn] at hcn hpp hok4
          clear hn hno hE hok hr
          go_enter Try.func20, Try.ntmps20
          go_wp2_with fail
          refine hcn.mono ?_
          rintro e w1 ⟨rfl, hb⟩
          clear p0 p1 p2 p3
          have s1 := s0.up hb
          have h1 := h0.up hb
          have b1 := Below.thn b0 hb
          obtain ⟨p0, p1, p2, p3⟩ := s1.cells
          clear s0 h0 b0 hcn hb h
          have hck := check_any n bo cb xs w1 h1.rd h1.l2
          rw [hrf] at hck
          simp only [Bool.false_eq_true, if_false] at hck
          go_wp2_with fail
          refine (hty _).mono ?_
          rintro e w2 ⟨rfl, rfl⟩
          clear hty
          go_wp2_with fail
          refine hck.mono ?_
          rintro e w3 ⟨rfl, hb⟩
          clear p0 p1 p2 p3
          have b3 := Below.thn b1 hb
          go_wp2
          go_ret
          exact ⟨rfl, b3⟩
      · have hno : okTab ks t n xs = false := okTab_no fun hh => hn hh.2.2.1
        rw [hno]
        simp only [Bool.false_eq_true, if_false]
        generalize prodT ks = C at *
        have hne : (n != C) = true := by simpa using hn
        clear hno hE hok
        go_enter Try.func20, Try.ntmps20
        go_wp2_with fail
        refine hcn.mono ?_
        rintro e w1 ⟨rfl, hb⟩
        clear p0 p1 p2 p3
        have s1 := s0.up hb
        have h1 := h0.up hb
        have b1 := Below.thn b0 hb
        obtain ⟨p0, p1, p2, p3⟩ := s1.cells
        clear s0 h0 b0 hcn hb h
        go_wp2_with fail
        refine (hty _).mono ?_
        rintro e w2 ⟨rfl, rfl⟩
        clear hty
        go_wp2
        go_ret
        exact ⟨rfl, b1⟩
    · have hno : okTab ks t n xs = false := okTab_no fun hh => ht hh.2.1
      have hd : decide (0 ≤ topP t) = false := decide_eq_false ht
      rw [hd] at hty
      rw [hno]
      simp only [Bool.false_eq_true, if_false]
      generalize prodT ks = C at *
      clear hno hE hok hd
      go_enter Try.func20, Try.ntmps20
      go_wp2_with fail
      refine hcn.mono ?_
      rintro e w1 ⟨rfl, hb⟩
      clear p0 p1 p2 p3
      have s1 := s0.up hb
      have h1 := h0.up hb
      have b1 := Below.thn b0 hb
      obtain ⟨p0, p1, p2, p3⟩ := s1.cells
      clear s0 h0 b0 hcn hb h
      go_wp2_with fail
      refine (hty _).mono ?_
      rintro e w2 ⟨rfl, rfl⟩
      clear hty
      go_wp2
      go_ret
      exact ⟨rfl, b1⟩
  · have hno : okTab ks t n xs = false := okTab_no fun hh => hE hh.1
    rw [hno]
    simp only [Bool.false_eq_true, if_false]
    generalize cntV ks = C at *
    have hc := cntE_cases ks
    generalize cntE ks = c at *
    clear hno hty
    rcases hc with rfl | rfl | rfl
    · exact absurd rfl hE
    · clear hE
      go_enter Try.func20, Try.ntmps20
      go_wp2_with fail
      refine hcn.mono ?_
      rintro e w1 ⟨rfl, hb⟩
      clear p0 p1 p2 p3
      have s1 := s0.up hb
      have h1 := h0.up hb
      have b1 := Below.thn b0 hb
      obtain ⟨p0, p1, p2, p3⟩ := s1.cells
      clear s0 h0 b0 hcn hb h
      go_wp2
      go_ret
      exact ⟨rfl, b1⟩
    · clear hE
      go_enter Try.func20, Try.ntmps20
      go_wp2_with fail
      refine hcn.mono ?_
      rintro e w1 ⟨rfl, hb⟩
      clear p0 p1 p2 p3
      have s1 := s0.up hb
      have h1 := h0.up hb
      have b1 := Below.thn b0 hb
      obtain ⟨p0, p1, p2, p3⟩ := s1.cells
      clear s0 h0 b0 hcn hb h
      go_wp2
      go_ret
      exact ⟨rfl, b1⟩

def fndE (ks : List Int) (t n : Int) (xs : List Nat) (ps : List Int) : Int := if okTab ks t n xs then numE ks ps else 3
def fndV (ks : List Int) (t n : Int) (xs : List Nat) (ps : List Int) : Int := if okTab ks t n xs then numV ks ps else 0
def atV (ks : List Int) (t n : Int) (xs : List Nat) (ps : List Int) : Int := if fndE ks t n xs ps = 0 then ((cellAt xs (numV ks ps).toNat : Nat) : Int) else 0
theorem num_rng {ks ps : List Int} (h : numE ks ps = 0) : cntE ks = 0 ∧ okPs ks ps = true ∧ numV ks ps = numA 0 ks ps ∧ 0 ≤ numV ks ps ∧ numV ks ps < prodT ks := by
  have h0 := h
  unfold numE at h
  split at h
  · rename_i hc
    split at h
    · rename_i hl
      split at h
      · rename_i hp
        have hv : numV ks ps = numA 0 ks ps := by unfold numV; rw [if_pos h0]
        obtain ⟨g1, g2⟩ := numA_rng hp
        rw [hv]
        exact ⟨hc, hp, rfl, g1, g2⟩
      · omega
    · omega
  · rename_i hc
    exact absurd h hc
theorem fnd_zero {ks : List Int} {t n : Int} {xs : List Nat} {ps : List Int} (h : fndE ks t n xs ps = 0) : okTab ks t n xs = true ∧ numE ks ps = 0 ∧ fndV ks t n xs ps = numV ks ps ∧ okR n xs = true ∧ inR n (numV ks ps) = true ∧ getV n xs (numV ks ps) = cellAt xs (numV ks ps).toNat := by
  unfold fndE at h
  split at h
  · rename_i hk
    obtain ⟨_, _, rfl, hr, _⟩ := okTab_iff.1 hk
    obtain ⟨_, _, _, g1, g2⟩ := num_rng h
    have hi : inR (prodT ks) (numV ks ps) = true := by unfold inR; simp; exact ⟨g1, g2⟩
    exact ⟨hk, h, by unfold fndV; rw [if_pos hk], hr, hi, getV_at hr hi⟩
  · omega

set_option maxHeartbeats 1000000 in
theorem find_any (ks : List Int) (t n : Int) (xs : List Nat) (ao bo : Option Addr) (ca cb : Nat) (w : World) (h : TbW w ks xs ao bo ca cb) (ps : List Int) (co : Option Addr) (cc : Nat) (g : Iz w co ps) (gl : ps.length ≤ 17592186043904) :
    Calls Try.prog 45 #[.agg #[.slice ao ks.length ca, .int .i64 t, .int .i64 n, .slice bo xs.length cb], .slice co ps.length cc] w fun e w' => IntsEnd (fndV ks t n xs ps) (fndE ks t n xs ps) w e w' := by
  have s0 := S4.new w (.slice ao ks.length ca) (.int .i64 t) (.int .i64 n) (.slice bo xs.length cb)
  have b0 := below_alloc w (.cells #[.slice ao ks.length ca, .int .i64 t, .int .i64 n, .slice bo xs.length cb] 43)
  have h0 := h.up b0
  have g0 := g.up b0
  obtain ⟨p0, p1, p2, p3⟩ := s0.cells
  have hck := tcheck_any ks t n xs ao bo ca cb _ h0
  unfold fndV fndE
  cases hok : okTab ks t n xs with
  | true =>
    rw [hok] at hck
    simp only [if_true] at hck ⊢
    have hnm := fun w h g => number16_any ks ps ao co ca cc w h g h0.l1 gl
    generalize numV ks ps = V at *
    generalize numE ks ps = E at *
    clear hok
    go_enter Try.func45, Try.ntmps45
    go_wp2_with fail
    refine hck.mono ?_
    rintro e w1 ⟨rfl, hb⟩
    clear p0 p1 p2 p3
    have s1 := s0.up hb
    have h1 := h0.up hb
    have g1 := g0.up hb
    have b1 := Below.thn b0 hb
    obtain ⟨p0, p1, p2, p3⟩ := s1.cells
    clear s0 h0 g0 b0 hb h g hck
    go_wp2_with fail
    refine (hnm _ h1.iz g1).mono ?_
    rintro e w2 ⟨rfl, hb⟩
    have b2 := Below.thn b1 hb
    clear hnm hb
    go_wp2
    go_ret2
    exact ⟨rfl, b2⟩
  | false =>
    rw [hok] at hck
    simp only [Bool.false_eq_true, if_false] at hck ⊢
    clear hok
    go_enter Try.func45, Try.ntmps45
    go_wp2_with fail
    refine hck.mono ?_
    rintro e w1 ⟨rfl, hb⟩
    clear p0 p1 p2 p3
    have s1 := s0.up hb
    have h1 := h0.up hb
    have g1 := g0.up hb
    have b1 := Below.thn b0 hb
    obtain ⟨p0, p1, p2, p3⟩ := s1.cells
    clear s0 h0 g0 b0 hb h g hck
    go_wp2
    go_ret2
    exact ⟨rfl, b1⟩

set_option maxHeartbeats 1000000 in
theorem at_any (ks : List Int) (t n : Int) (xs : List Nat) (ao bo : Option Addr) (ca cb : Nat) (w : World) (h : TbW w ks xs ao bo ca cb) (ps : List Int) (co : Option Addr) (cc : Nat) (g : Iz w co ps) (gl : ps.length ≤ 17592186043904) :
    Calls Try.prog 23 #[.agg #[.slice ao ks.length ca, .int .i64 t, .int .i64 n, .slice bo xs.length cb], .slice co ps.length cc] w fun e w' => IntsEnd (atV ks t n xs ps) (fndE ks t n xs ps) w e w' := by
  have s0 := S4.new w (.slice ao ks.length ca) (.int .i64 t) (.int .i64 n) (.slice bo xs.length cb)
  have b0 := below_alloc w (.cells #[.slice ao ks.length ca, .int .i64 t, .int .i64 n, .slice bo xs.length cb] 43)
  have h0 := h.up b0
  have g0 := g.up b0
  obtain ⟨p0, p1, p2, p3⟩ := s0.cells
  have hck := find_any ks t n xs ao bo ca cb _ h0 ps co cc g0 gl
  unfold atV
  by_cases hE : fndE ks t n xs ps = 0
  · obtain ⟨_, _, hv, hr, hi, hgv⟩ := fnd_zero hE
    rw [hE, hv] at hck
    rw [hE]
    simp only [if_true]
    have hget := fun w h => get_ok n bo cb xs (numV ks ps) w _ hr hi (by rw [hgv]) h h0.l2
    generalize numV ks ps = V at *
    generalize ((cellAt xs V.toNat : Nat) : Int) = c at *
    clear hE hv hr hi hgv
    go_enter Try.func23, Try.ntmps23
    go_wp2_with fail
    refine hck.mono ?_
    rintro e w1 ⟨rfl, hb⟩
    clear p0 p1 p2 p3
    have s1 := s0.up hb
    have h1 := h0.up hb
    have g1 := g0.up hb
    have b1 := Below.thn b0 hb
    obtain ⟨p0, p1, p2, p3⟩ := s1.cells
    clear s0 h0 g0 b0 hb h g hck
    go_wp2_with fail
    refine (hget _ h1.rd).mono ?_
    rintro e w2 ⟨rfl, hb⟩
    have b2 := Below.thn b1 hb
    clear hget hb
    go_wp2
    go_ret2
    exact ⟨rfl, b2⟩
  · rw [if_neg hE]
    generalize fndE ks t n xs ps = E at *
    generalize fndV ks t n xs ps = V at *
    have hne : (E != 0) = true := by simpa using hE
    clear hE
    go_enter Try.func23, Try.ntmps23
    go_wp2_with fail
    refine hck.mono ?_
    rintro e w1 ⟨rfl, hb⟩
    clear p0 p1 p2 p3
    have s1 := s0.up hb
    have h1 := h0.up hb
    have g1 := g0.up hb
    have b1 := Below.thn b0 hb
    obtain ⟨p0, p1, p2, p3⟩ := s1.cells
    clear s0 h0 g0 b0 hb h g hck
    go_wp2
    go_ret2
    exact ⟨rfl, b1⟩

/-- How Points ends. -/
def PtsEnd (r : Bool) (cs : List Nat) (w : World) (e : Ending) (w' : World) : Prop :=
  ∃ v, e = .returned (.tuple #[v, .bool r]) ∧ (r = true → Oi w' w.heap.size v cs) ∧ (r = false → v = .slice none 0 0) ∧ Below w.heap.size w w'
theorem ptsEnd_no {cs : List Nat} {w w' : World} (h : Below w.heap.size w w') : PtsEnd false cs w (.returned (.tuple #[.slice none 0 0, .bool false])) w' := ⟨_, rfl, fun h => (by cases h), fun _ => rfl, h⟩
theorem all_getD {cs : List Nat} {q : Int} (h : ∀ j, j < cs.length → ((cs.getD j 0 : Nat) : Int) ≤ q) : ∀ c, c ∈ cs → (c : Int) ≤ q := by
  intro c hc
  obtain ⟨j, hj, rfl⟩ := List.getElem_of_mem hc
  have := h j hj
  rwa [List.getD_eq_getElem?_getD, List.getElem?_eq_getElem hj] at this
theorem getD_in {cs : List Nat} {j : Nat} (hj : j < cs.length) : cs.getD j 0 ∈ cs := by
  rw [List.getD_eq_getElem?_getD, List.getElem?_eq_getElem hj]
  exact List.getElem_mem hj
theorem okR_nonneg {n : Int} {xs : List Nat} (h : okR n xs = true) : 0 ≤ n := by
  unfold okR at h
  simp only [decide_eq_true_eq] at h
  exact h.1
theorem okR_le {n : Int} {xs : List Nat} (h : okR n xs = true) : n ≤ 4096 := by
  unfold okR at h
  simp only [decide_eq_true_eq] at h
  exact h.2.1

set_option maxHeartbeats 1000000 in
theorem points16_any (ks : List Int) (t n : Int) (xs : List Nat) (ao bo : Option Addr) (ca cb : Nat) (w : World) (h : TbW w ks xs ao bo ca cb) :
    Calls Try.prog 19 #[.agg #[.slice ao ks.length ca, .int .i64 t, .int .i64 n, .slice bo xs.length cb]] w fun e w' => PtsEnd (okTab ks t n xs) (cellsL n xs) w e w' := by
  have s0 := S4.new w (.slice ao ks.length ca) (.int .i64 t) (.int .i64 n) (.slice bo xs.length cb)
  have b0 := below_alloc w (.cells #[.slice ao ks.length ca, .int .i64 t, .int .i64 n, .slice bo xs.length cb] 43)
  have h0 := h.up b0
  have hcn := rcount_any ks ao ca _ h0.iz h.l1
  obtain ⟨p0, p1, p2, p3⟩ := s0.cells
  have hty := fun w => rtop_any t w
  by_cases hE : cntE ks = 0
  · rw [hE, cntV_zero hE] at hcn
    have hok := cntE_zero hE
    have hpp := prodT_pos hok.1
    by_cases hr : okR n xs = true
    · by_cases hn : n = prodT ks
      · by_cases ht : 0 ≤ topP t
        · obtain ⟨r, hre⟩ : ∃ r : Bool, r = okTab ks t n xs := ⟨_, rfl⟩
          have hyes : (∀ c, c ∈ cellsL n xs → (c : Int) ≤ topP t) → r = true := fun hx => by rw [hre, okTab_iff]; exact ⟨hE, ht, hn, hr, hx⟩
          have hno : ∀ c, c ∈ cellsL n xs → topP t < (c : Int) → r = false := fun c h1 h2 => by
            rw [hre]; exact okTab_no fun hh => by have := hh.2.2.2.2 _ h1; omega
          rw [← hre]
          rw [← hn] at hcn hpp
          have hlen := cellsL_len n xs
          have h4 := hok.2
          rw [← hn] at h4
          generalize topP t = q at *
          have HY : Hid ((∀ c, c ∈ cellsL n xs → (c : Int) ≤ q) → r = true) := hyes
          have HN : Hid (∀ c, c ∈ cellsL n xs → q < (c : Int) → r = false) := hno
          clear hre hyes hno hn hE hok
          have hce0 : ∀ w1, Rd w1 bo xs → Calls Try.prog 41 #[.agg #[.int .i64 n, .slice bo xs.length cb]] w1 fun e w' => CellsEnd true n xs w1 e w' := fun w1 h1 => by rw [← hr]; exact cells_any n bo cb xs w1 h1 h.l2
          unfold CellsEnd at hce0
          have hnn : n = ((cellsL n xs).length : Nat) := by omega
          generalize cellsL n xs = cs at *
          subst hnn
          clear hr hlen
          have hl4 : cs.length ≤ 4096 := by omega
          go_enter Try.func19, Try.ntmps19
          go_wp2_with fail
          refine hcn.mono ?_
          rintro e w1 ⟨rfl, hb⟩
          clear p0 p1 p2 p3
          have s1 := s0.up hb
          have h1 := h0.up hb
          have b1 := Below.thn b0 hb
          obtain ⟨p0, p1, p2, p3⟩ := s1.cells
          clear s0 h0 b0 hcn hb h
          have hce := hce0 w1 h1.rd
          go_wp2_with fail
          refine hce.mono ?_
          rintro e w2 ⟨v, rfl, hv, _, hb⟩
          clear p0 p1 p2 p3
          have s2 := s1.up hb
          have b2 := Below.thn b1 hb
          obtain ⟨p0, p1, p2, p3⟩ := s2.cells
          have ho2 := hv trivial
          have hbs := b1.size
          obtain ⟨co, cap, rfl, hi2⟩ := ho2.form
          have HO : Hid (Oi w2 w.heap.size (.slice co cs.length cap) cs) := owns_mono ho2 (by omega)
          have hnn : ((cs.length : Int) != (cs.length : Int)) = false := by simp
          have htn : decide (q < 0) = false := decide_eq_false (by omega)
          clear hce h1 hce0 ho2 hv s1 b1
          go_wp2_with fail
          refine (hty _).mono ?_
          rintro e w3 ⟨rfl, rfl⟩
          go_wp2
          clear p0 p1 p2 p3 htn hnn
          go_loopw [8] (fun i wr => ∃ k : Nat, k ≤ cs.length ∧ i = .int .i64 k ∧ Below w3.heap.size w3 wr ∧ Hid (∀ j, j < k → ((cs.getD j 0 : Nat) : Int) ≤ q)) (fun i _ => cs.length - (intOf i).toNat)
          case atStart => exact ⟨0, Nat.zero_le _, rfl, Below.refl _ _, fun j hj => absurd hj (by omega)⟩
          case round =>
            obtain ⟨k, hk, rfl, hbz, hall⟩ := hrel
            by_cases hlt : k < cs.length
            · obtain ⟨b, off, rfl, hc⟩ := (hi2.up hbz) (by intro e; subst e; simp at hlt)
              obtain ⟨x, hxe⟩ : ∃ x, x = cs.getD k 0 := ⟨_, rfl⟩
              have ha := hc k hlt
              rw [← hxe] at ha
              obtain ⟨p0, p1, p2, p3⟩ := (s2.up hbz).cells
              have hmem : x ∈ cs := by rw [hxe]; exact getD_in hlt
              by_cases hxq : (x : Int) ≤ q
              · have hnx : Hid (∀ j, j < k + 1 → ((cs.getD j 0 : Nat) : Int) ≤ q) := fun j hj => by
                  rcases Nat.lt_or_ge j k with h | h
                  · exact (show ∀ j, j < k → _ from hall) j h
                  · have e : j = k := by omega
                    rw [e, ← hxe]
                    exact hxq
                have hd : decide (q < (x : Int)) = false := decide_eq_false (by omega)
                clear hall hc hxe hmem s2 hi2
                go_wp2_with fail
                go_quiet ((go_at_call 34; exact Calls.quiet_of_same (hty _)))
                go_wp2
                go_roundw
                case rel => exact ⟨k + 1, by omega, by go_num, below_drewN hbz _, hnx⟩
                case measure => simp [intOf]; omega
              · obtain rfl := HN.out x hmem (by omega)
                have hd : decide (q < (x : Int)) = true := decide_eq_true (by omega)
                clear hall hc hxe hmem s2 hi2
                go_wp2_with fail
                go_quiet ((go_at_call 34; exact Calls.quiet_of_same (hty _)))
                go_wp2
                go_ret2
                exact ⟨_, rfl, fun h => (by cases h), fun _ => rfl, below_drewN (Below.thn b2 hbz) _⟩
            · obtain rfl : k = cs.length := by omega
              obtain rfl := HY.out (all_getD hall.out)
              clear hty s2 hi2
              go_wp2
              go_ret2
              exact ⟨_, rfl, fun _ => owns_up HO.out hbz, fun h => (by cases h), Below.thn b2 hbz⟩
        · have hno : okTab ks t n xs = false := okTab_no fun hh => ht hh.2.1
          rw [hno]
          rw [← hn] at hcn hpp
          have hlen := cellsL_len n xs
          generalize topP t = q at *
          have htn : decide (q < 0) = true := decide_eq_true (by omega)
          have hce0 : ∀ w1, Rd w1 bo xs → Calls Try.prog 41 #[.agg #[.int .i64 n, .slice bo xs.length cb]] w1 fun e w' => CellsEnd true n xs w1 e w' := fun w1 h1 => by rw [← hr]; exact cells_any n bo cb xs w1 h1 h.l2
          unfold CellsEnd at hce0
          have hnn : n = ((cellsL n xs).length : Nat) := by omega
          generalize cellsL n xs = cs at *
          subst hnn
          clear hno hE hok hn hr hlen ht
          go_enter Try.func19, Try.ntmps19
          go_wp2_with fail
          refine hcn.mono ?_
          rintro e w1 ⟨rfl, hb⟩
          clear p0 p1 p2 p3
          have s1 := s0.up hb
          have h1 := h0.up hb
          have b1 := Below.thn b0 hb
          obtain ⟨p0, p1, p2, p3⟩ := s1.cells
          clear s0 h0 b0 hcn hb h
          have hce := hce0 w1 h1.rd
          go_wp2_with fail
          refine hce.mono ?_
          rintro e w2 ⟨v, rfl, hv, _, hb⟩
          clear p0 p1 p2 p3
          have s2 := s1.up hb
          have b2 := Below.thn b1 hb
          obtain ⟨p0, p1, p2, p3⟩ := s2.cells
          have ho2 := hv trivial
          obtain ⟨co, cap, rfl, hi2⟩ := ho2.form
          have hnn : ((cs.length : Int) != (cs.length : Int)) = false := by simp
          clear hce h1 hce0 ho2 hv s1 b1
          go_wp2_with fail
          refine (hty _).mono ?_
          rintro e w3 ⟨rfl, rfl⟩
          go_wp2
          go_ret2
          exact ⟨_, rfl, fun h => (by cases h), fun _ => rfl, b2⟩
      · have hno : okTab ks t n xs = false := okTab_no fun hh => hn hh.2.2.1
        rw [hno]
        have hlen := cellsL_len n xs
        have hce0 : ∀ w1, Rd w1 bo xs → Calls Try.prog 41 #[.agg #[.int .i64 n, .slice bo xs.length cb]] w1 fun e w' => CellsEnd true n xs w1 e w' := fun w1 h1 => by rw [← hr]; exact cells_any n bo cb xs w1 h1 h.l2
        unfold CellsEnd at hce0
        have hn0 := okR_nonneg hr
        generalize cellsL n xs = cs at *
        generalize prodT ks = C at *
        have hne : ((cs.length : Int) != C) = true := by simp; omega
        clear hno hE hok hn hr hlen hty
        go_enter Try.func19, Try.ntmps19
        go_wp2_with fail
        refine hcn.mono ?_
        rintro e w1 ⟨rfl, hb⟩
        clear p0 p1 p2 p3
        have s1 := s0.up hb
        have h1 := h0.up hb
        have b1 := Below.thn b0 hb
        obtain ⟨p0, p1, p2, p3⟩ := s1.cells
        clear s0 h0 b0 hcn hb h
        have hce := hce0 w1 h1.rd
        go_wp2_with fail
        refine hce.mono ?_
        rintro e w2 ⟨v, rfl, hv, _, hb⟩
        clear p0 p1 p2 p3
        have b2 := Below.thn b1 hb
        obtain ⟨co, cap, rfl, hi2⟩ := (hv trivial).form
        clear hce h1 hce0 hv s1 b1 hi2
        go_wp2
        go_ret2
        exact ⟨_, rfl, fun h => (by cases h), fun _ => rfl, b2⟩
    · have hno : okTab ks t n xs = false := okTab_no fun hh => hr hh.2.2.2.1
      have hrf : okR n xs = false := by simpa using hr
      rw [hno]
      generalize prodT ks = C at *
      clear hno hE hok hr hty
      go_enter Try.func19, Try.ntmps19
      go_wp2_with fail
      refine hcn.mono ?_
      rintro e w1 ⟨rfl, hb⟩
      clear p0 p1 p2 p3
      have s1 := s0.up hb
      have h1 := h0.up hb
      have b1 := Below.thn b0 hb
      obtain ⟨p0, p1, p2, p3⟩ := s1.cells
      clear s0 h0 b0 hcn hb h
      have hce := cells_any n bo cb xs w1 h1.rd h1.l2
      rw [hrf] at hce
      go_wp2_with fail
      refine hce.mono ?_
      rintro e w2 ⟨v, rfl, _, _, hb⟩
      have b2 := Below.thn b1 hb
      clear hce h1 s1 b1 p0 p1 p2 p3
      go_wp2
      go_ret2
      exact ptsEnd_no b2
  · have hno : okTab ks t n xs = false := okTab_no fun hh => hE hh.1
    rw [hno]
    generalize cntV ks = C at *
    generalize cntE ks = c at *
    have hne : (c != 0) = true := by simpa using hE
    clear hno hty hE
    go_enter Try.func19, Try.ntmps19
    go_wp2_with fail
    refine hcn.mono ?_
    rintro e w1 ⟨rfl, hb⟩
    clear p0 p1 p2 p3
    have s1 := s0.up hb
    have h1 := h0.up hb
    have b1 := Below.thn b0 hb
    obtain ⟨p0, p1, p2, p3⟩ := s1.cells
    clear s0 h0 b0 hcn hb h
    have hce := cells_any n bo cb xs w1 h1.rd h1.l2
    go_wp2_with fail
    refine hce.mono ?_
    rintro e w2 ⟨v, rfl, _, _, hb⟩
    have b2 := Below.thn b1 hb
    clear hce h1 s1 b1 p0 p1 p2 p3
    generalize okR n xs = r
    go_wp2
    go_ret2
    exact ptsEnd_no b2

set_option maxHeartbeats 1000000 in
theorem rat_any (ks : List Int) (t n : Int) (xs : List Nat) (ao bo : Option Addr) (ca cb : Nat) (w : World) (h : TbW w ks xs ao bo ca cb) (ps : List Int) (co : Option Addr) (cc : Nat) (g : Iz w co ps) (gl : ps.length ≤ 17592186043904) :
    Calls Try.prog 24 #[.agg #[.slice ao ks.length ca, .int .i64 t, .int .i64 n, .slice bo xs.length cb], .slice co ps.length cc] w fun e w' => IntsEnd (atV ks t n xs ps) (fndE ks t n xs ps) w e w' := by
  have s0 := S4.new w (.slice ao ks.length ca) (.int .i64 t) (.int .i64 n) (.slice bo xs.length cb)
  have b0 := below_alloc w (.cells #[.slice ao ks.length ca, .int .i64 t, .int .i64 n, .slice bo xs.length cb] 43)
  have h0 := h.up b0
  have g0 := g.up b0
  obtain ⟨p0, p1, p2, p3⟩ := s0.cells
  have hpt := points16_any ks t n xs ao bo ca cb _ h0
  have hnm := fun w h g => rnumber_any ks ps ao co ca cc w h g h0.l1 gl
  unfold atV
  by_cases hok : okTab ks t n xs = true
  · rw [hok] at hpt
    unfold fndE
    rw [hok]
    simp only [if_true]
    obtain ⟨_, _, hn, hr, _⟩ := okTab_iff.1 hok
    have hlen := cellsL_len n xs
    unfold PtsEnd at hpt
    by_cases hE : numE ks ps = 0
    · obtain ⟨_, _, _, g1, g2⟩ := num_rng hE
      rw [← hn] at g2
      rw [hE] at hnm ⊢
      simp only [if_true]
      obtain ⟨V, hV⟩ : ∃ V : Nat, numV ks ps = (V : Int) := ⟨(numV ks ps).toNat, by omega⟩
      rw [hV] at hnm g2 ⊢
      have hcell : cellAt xs (V : Int).toNat = (cellsL n xs).getD V 0 := by
        unfold cellsL
        rw [List.getD_eq_getElem?_getD, List.getElem?_map, List.getElem?_range (by omega)]
        rfl
      rw [hcell]
      have hVl : V < (cellsL n xs).length := by omega
      generalize cellsL n xs = cs at *
      have hl4 : cs.length ≤ 4096 := by have := okR_le hr; omega
      obtain ⟨x, hx⟩ : ∃ x, x = cs.getD V 0 := ⟨_, rfl⟩
      rw [← hx]
      have HX : Hid (x = cs.getD V 0) := hx
      clear hcell hV g1 g2 hE hn hok hlen hr hx
      go_enter Try.func24, Try.ntmps24
      go_wp2_with fail
      refine hpt.mono ?_
      rintro e w1 ⟨v, rfl, hv, _, hb⟩
      clear p0 p1 p2 p3
      have s1 := s0.up hb
      have h1 := h0.up hb
      have g1 := g0.up hb
      have b1 := Below.thn b0 hb
      obtain ⟨p0, p1, p2, p3⟩ := s1.cells
      clear s0 h0 g0 b0 hb h g hpt
      go_wp2_with fail
      refine (hnm _ h1.iz g1).mono ?_
      rintro e w2 ⟨rfl, hb⟩
      have b2 := Below.thn b1 hb
      obtain ⟨po, pc, rfl, hi⟩ := (hv trivial).form
      obtain ⟨b, off, rfl, hc⟩ := (hi.up hb) (by intro e; subst e; simp at hVl)
      have ha := hc V hVl
      rw [← show x = _ from HX] at ha
      clear hnm hb hv hi hc s1 h1 g1 p0 p1 p2 p3
      go_wp2
      refine bodyPost_ret (v := .tuple #[.int .i64 x, .int .i64 0]) (by simp [results, Try.results24, go_sem]) rfl ?_
      exact ⟨rfl, b2⟩
    · rw [if_neg hE]
      generalize numE ks ps = E at *
      generalize numV ks ps = V at *
      have hne : (E != 0) = true := by simpa using hE
      generalize cellsL n xs = cs at *
      clear hE hn hok hlen hr
      go_enter Try.func24, Try.ntmps24
      go_wp2_with fail
      refine hpt.mono ?_
      rintro e w1 ⟨v, rfl, hv, _, hb⟩
      clear p0 p1 p2 p3
      have s1 := s0.up hb
      have h1 := h0.up hb
      have g1 := g0.up hb
      have b1 := Below.thn b0 hb
      obtain ⟨p0, p1, p2, p3⟩ := s1.cells
      clear s0 h0 g0 b0 hb h g hpt
      go_wp2_with fail
      refine (hnm _ h1.iz g1).mono ?_
      rintro e w2 ⟨rfl, hb⟩
      have b2 := Below.thn b1 hb
      clear hnm hb hv s1 h1 g1 p0 p1 p2 p3
      go_wp2
      go_ret2
      exact ⟨rfl, b2⟩
  · have hof : okTab ks t n xs = false := by simpa using hok
    rw [hof] at hpt
    unfold fndE
    rw [hof]
    simp only [Bool.false_eq_true, if_false]
    unfold PtsEnd at hpt
    clear hof hok hnm
    go_enter Try.func24, Try.ntmps24
    go_wp2_with fail
    refine hpt.mono ?_
    rintro e w1 ⟨v, rfl, hv, _, hb⟩
    clear p0 p1 p2 p3
    have s1 := s0.up hb
    have h1 := h0.up hb
    have g1 := g0.up hb
    have b1 := Below.thn b0 hb
    obtain ⟨p0, p1, p2, p3⟩ := s1.cells
    clear s0 h0 g0 b0 hb h g hpt
    go_wp2
    go_ret2
    exact ⟨rfl, b1⟩
end Go.Proofs.Ytiikkbofcccjfaa
