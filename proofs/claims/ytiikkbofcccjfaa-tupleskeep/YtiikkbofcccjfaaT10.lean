/-
  Does a table rise? The program's Rises.
-/
import Derived.Test.YtiikkbofcccjfaaT9
namespace Go.Proofs.Ytiikkbofcccjfaa
open Go.RowKit
open Go.Lib
open RowsM
set_option maxRecDepth 100000

set_option maxHeartbeats 1000000 in
theorem falls_any (n : Int) (ao : Option Addr) (ca : Nat) (xs : List Nat) (i j : Int) (c d : Int) (w : World) (hr : okR n xs = true) (hi : inR n i = true) (hj : inR n j = true) (hc : ((getV n xs i : Nat) : Int) = c) (hd : ((getV n xs j : Nat) : Int) = d) (h : Rd w ao xs) (hl : xs.length ≤ 17592186043904) :
    Calls Try.prog 49 #[.agg #[.int .i64 n, .slice ao xs.length ca], .int .i64 i, .int .i64 j] w fun e w' => e = .returned (.bool (decide (d < c))) ∧ Below w.heap.size w w' := by
  have s0 := St.new w (.int .i64 n) (.slice ao xs.length ca)
  have b0 := below_alloc w (.cells #[.int .i64 n, .slice ao xs.length ca] 41)
  have h0 := h.up b0
  have g1 := get_ok n ao ca xs j _ d hr hj hd h0 hl
  have g2 := fun w h => get_ok n ao ca xs i w c hr hi hc h hl
  obtain ⟨p0, p1, _, _⟩ := s0.cells
  clear hr hi hj hc hd h
  go_enter Try.func49, Try.ntmps49
  go_wp2_with fail
  refine g1.mono ?_
  rintro e w1 ⟨rfl, hb⟩
  clear p0 p1
  have s1 := s0.up hb
  have h1 := h0.up hb
  have b1 := Below.thn b0 hb
  obtain ⟨p0, p1, _, _⟩ := s1.cells
  clear s0 h0 b0 hb g1
  go_wp2_with fail
  refine (g2 _ h1).mono ?_
  rintro e w2 ⟨rfl, hb⟩
  have b2 := Below.thn b1 hb
  clear hb g2 h1 s1 p0 p1
  go_wp2
  go_ret
  exact ⟨rfl, b2⟩

/-- Is there a step at place j from tuple number n? -/
def stepAt (ks : List Int) (j n : Nat) : Prop := (n : Int) % prodT (ks.drop j) + prodT (ks.drop (j + 1)) < prodT (ks.drop j)
/-- .. and does the point not fall there? -/
def upAt (ks : List Int) (f : Nat → Nat) (j n : Nat) : Prop := stepAt ks j n → f n ≤ f (n + (prodT (ks.drop (j + 1))).toNat)
theorem risS_iff {ks : List Int} {N : Nat} {f : Nat → Nat} : risS ks N f = true ↔ ∀ j, j < ks.length → ∀ n, n < N → upAt ks f j n := by unfold risS upAt stepAt; exact decide_eq_true_iff
/-- No fall at the places ahead of j, and at place j none ahead of number k. -/
def risTo (ks : List Int) (N : Nat) (f : Nat → Nat) (j k : Nat) : Prop := (∀ i, i < j → ∀ n, n < N → upAt ks f i n) ∧ ∀ n, n < k → upAt ks f j n
theorem risTo_zero (ks : List Int) (N : Nat) (f : Nat → Nat) : risTo ks N f 0 0 := ⟨fun i hi => absurd hi (Nat.not_lt_zero i), fun n hn => absurd hn (Nat.not_lt_zero n)⟩
theorem risTo_more {ks : List Int} {N : Nat} {f : Nat → Nat} {j k : Nat} (h : risTo ks N f j k) (hu : upAt ks f j k) : risTo ks N f j (k + 1) := by
  refine ⟨h.1, fun n hn => ?_⟩
  rcases Nat.lt_or_ge n k with h1 | h1
  · exact h.2 n h1
  · obtain rfl : n = k := by omega
    exact hu
theorem risTo_row {ks : List Int} {N : Nat} {f : Nat → Nat} {j : Nat} (h : risTo ks N f j N) : risTo ks N f (j + 1) 0 := by
  refine ⟨fun i hi => ?_, fun n hn => absurd hn (Nat.not_lt_zero n)⟩
  rcases Nat.lt_or_ge i j with h1 | h1
  · exact h.1 i h1
  · obtain rfl : i = j := by omega
    exact h.2
theorem risTo_end {ks : List Int} {N : Nat} {f : Nat → Nat} (h : risTo ks N f ks.length 0) : risS ks N f = true := risS_iff.2 h.1
theorem ris_no {ks : List Int} {N : Nat} {f : Nat → Nat} {j n : Nat} (hj : j < ks.length) (hn : n < N) (h : ¬ upAt ks f j n) : risS ks N f = false := by
  rw [Bool.eq_false_iff]
  intro e
  exact h (risS_iff.1 e j hj n hn)
/-- A step leads to a tuple's number again. -/
theorem step_in {ks : List Int} (hk : okTs ks = true) {j : Nat} (_hj : j < ks.length) {n : Nat} (hn : (n : Int) < prodT ks) (h : stepAt ks j n) : (n : Int) + prodT (ks.drop (j + 1)) < prodT ks := by
  unfold stepAt at h
  have hs := prodT_split ks j
  have hp := prodT_pos (okTs_split hk j).2
  have hq := prodT_pos (okTs_split hk j).1
  generalize prodT (ks.drop j) = D at *
  generalize prodT (ks.take j) = A at *
  generalize prodT (ks.drop (j + 1)) = S at *
  rw [← hs] at hn ⊢
  have hd := Int.mul_ediv_add_emod (n : Int) D
  have hlt : (n : Int) / D < A := Int.ediv_lt_of_lt_mul (by omega) hn
  have h1 : D * ((n : Int) / D) + D ≤ A * D := by
    have : ((n : Int) / D + 1) * D ≤ A * D := Int.mul_le_mul_of_nonneg_right (by omega) (by omega)
    rw [Int.add_mul, Int.one_mul, Int.mul_comm] at this
    exact this
  omega

def rsE (ks : List Int) (t n : Int) (xs : List Nat) : Int := if okTab ks t n xs then 0 else 3
def rsV (ks : List Int) (t n : Int) (xs : List Nat) : Bool := okTab ks t n xs && risS ks n.toNat (cellAt xs)
def RisEnd (V : Bool) (E : Int) (w : World) (e : Ending) (w' : World) : Prop := e = .returned (.tuple #[.bool V, .int .i64 E]) ∧ Below w.heap.size w w'

set_option maxHeartbeats 4000000 in
theorem rises_any (ks : List Int) (t n : Int) (xs : List Nat) (ao bo : Option Addr) (ca cb : Nat) (w : World) (h : TbW w ks xs ao bo ca cb) :
    Calls Try.prog 27 #[.agg #[.slice ao ks.length ca, .int .i64 t, .int .i64 n, .slice bo xs.length cb]] w fun e w' => RisEnd (rsV ks t n xs) (rsE ks t n xs) w e w' := by
  have s0 := S4.new w (.slice ao ks.length ca) (.int .i64 t) (.int .i64 n) (.slice bo xs.length cb)
  have b0 := below_alloc w (.cells #[.slice ao ks.length ca, .int .i64 t, .int .i64 n, .slice bo xs.length cb] 43)
  have h0 := h.up b0
  obtain ⟨p0, p1, p2, p3⟩ := s0.cells
  have hck := tcheck_any ks t n xs ao bo ca cb _ h0
  unfold rsV rsE
  by_cases hok : okTab ks t n xs = true
  · rw [hok] at hck ⊢
    simp only [if_true, Bool.true_and] at hck ⊢
    obtain ⟨hE, _, hn, hr, _⟩ := okTab_iff.1 hok
    obtain ⟨hk, hk4⟩ := cntE_zero hE
    have hp1 := prodT_pos hk
    rw [← hn] at hk4 hp1
    obtain ⟨N, hN⟩ : ∃ N : Nat, n = (N : Int) := ⟨n.toNat, by omega⟩
    subst hN
    obtain ⟨r, hre⟩ : ∃ r : Bool, r = risS ks (N : Int).toNat (cellAt xs) := ⟨_, rfl⟩
    rw [← hre]
    have hre' : r = risS ks N (cellAt xs) := hre
    have HR : Hid (r = risS ks N (cellAt xs)) := hre'
    have HN : Hid ((N : Int) = prodT ks) := hn
    have HK : Hid (okTs ks = true) := hk
    have HOR : Hid (okR (N : Int) xs = true) := hr
    have hN4 : N ≤ 4096 := by omega
    have hN1 : 1 ≤ N := by omega
    clear hre hre' hn hk hr hE hok hk4 hp1
    go_enter Try.func27, Try.ntmps27
    go_wp2_with fail
    refine hck.mono ?_
    rintro e w1 ⟨rfl, hb⟩
    clear p0 p1 p2 p3
    have s1 := s0.up hb
    have h1 := h0.up hb
    have b1 := Below.thn b0 hb
    obtain ⟨p0, p1, p2, p3⟩ := s1.cells
    clear s0 h0 b0 hb h hck
    have hiz1 := h1.iz
    have hl1 := h1.l1
    have hl2 := h1.l2
    have hrd1 := h1.rd
    clear h1
    go_wp2
    clear p0 p1 p2 p3
    go_loopw [5, 21] (fun st i wr => ∃ j : Nat, j ≤ ks.length ∧ i = .int .i64 j ∧ ∃ D : Int, st = .int .i64 D ∧ 1 ≤ D ∧ D ≤ 4096 ∧ Hid (D = prodT (ks.drop j)) ∧ Below w1.heap.size w1 wr ∧ Hid (risTo ks N (cellAt xs) j 0)) (fun _ i _ => ks.length - (intOf i).toNat)
    case atStart => exact ⟨0, Nat.zero_le _, rfl, N, rfl, by omega, by omega, HN.out, Below.refl _ _, risTo_zero _ _ _⟩
    case round =>
      obtain ⟨j, hj, rfl, D, rfl, hD1, hD4, HD, hbz, HT⟩ := hrel
      by_cases hlt : j < ks.length
      · obtain ⟨b, off, rfl, hc⟩ := hiz1.up hbz (by intro e; subst e; simp at hlt)
        obtain ⟨q, hqe⟩ : ∃ q, q = ks.getD j 0 := ⟨_, rfl⟩
        have hcq := hc j hlt
        rw [← hqe] at hcq
        have hq0 := okTs_get HK.out hlt
        rw [← hqe] at hq0
        have hpd := prodT_drop hlt
        rw [← HD.out, ← hqe] at hpd
        have hS1 := prodT_pos (okTs_split HK.out (j + 1)).2
        have hsz := fun w => size_any q w hq0
        have hs := sz_pos hq0
        obtain ⟨S, hSe⟩ : ∃ S, S = prodT (ks.drop (j + 1)) := ⟨_, rfl⟩
        rw [← hSe] at hpd hS1
        have HS : Hid (S = prodT (ks.drop (j + 1))) := hSe
        obtain ⟨z, hze⟩ : ∃ z, z = topP q + 1 := ⟨_, rfl⟩
        rw [← hze] at hs hpd hsz
        have hdiv : D / z = S := by rw [hpd]; exact Int.mul_ediv_cancel_left _ (by omega)
        have hSD : S ≤ D := by rw [hpd]; have := Int.mul_le_mul_of_nonneg_right (show (1 : Int) ≤ z by omega) (show (0 : Int) ≤ S by omega); omega
        obtain ⟨hz2, hz4⟩ := hs
        have hstep : ∀ k : Nat, stepAt ks j k ↔ (k : Int) % D + S < D := fun k => by unfold stepAt; rw [HD.out, HS.out]
        have hin : ∀ k : Nat, k < N → (k : Int) % D + S < D → (k : Int) + S < N := fun k hk hs => by
          have := step_in HK.out hlt (n := k) (by rw [← HN.out]; omega) ((hstep k).2 hs)
          rw [← HS.out, ← HN.out] at this
          exact this
        have hup : ∀ k : Nat, (¬ (k : Int) % D + S < D) ∨ (cellAt xs k ≤ cellAt xs (k + S.toNat)) → upAt ks (cellAt xs) j k := fun k hk => by
          intro hst
          rw [← HS.out]
          rcases hk with h | h
          · exact absurd ((hstep k).1 hst) h
          · exact h
        have hnu : ∀ k : Nat, (k : Int) % D + S < D → cellAt xs (k + S.toNat) < cellAt xs k → ¬ upAt ks (cellAt xs) j k := fun k h1 h2 hu => by
          have := hu ((hstep k).2 h1)
          rw [← HS.out] at this
          omega
        have HUP : Hid (∀ k : Nat, (¬ (k : Int) % D + S < D) ∨ (cellAt xs k ≤ cellAt xs (k + S.toNat)) → upAt ks (cellAt xs) j k) := hup
        have HNU : Hid (∀ k : Nat, (k : Int) % D + S < D → cellAt xs (k + S.toNat) < cellAt xs k → ¬ upAt ks (cellAt xs) j k) := hnu
        have HIN : Hid (∀ k : Nat, k < N → (k : Int) % D + S < D → (k : Int) + S < N) := hin
        obtain ⟨p0, p1, p2, p3⟩ := (s1.up hbz).cells
        clear hpd hSe hze hqe hstep hin hup hnu hc hq0
        go_wp2_with fail
        refine (hsz _).mono ?_
        rintro e w2 ⟨rfl, rfl⟩
        clear hsz
        go_wp2
        clear p0 p1 p2 p3
        rw [hdiv]
        clear hdiv hcq
        go_loopw [33] (fun i wr => ∃ k : Nat, k ≤ N ∧ i = .int .i64 k ∧ Below w2.heap.size w2 wr ∧ Hid (risTo ks N (cellAt xs) j k)) (fun i _ => N - (intOf i).toNat)
        case atStart => exact ⟨0, Nat.zero_le _, rfl, Below.refl _ _, HT⟩
        case round =>
          obtain ⟨k, hk, rfl, hby, HTK⟩ := hrel
          have hbx := Below.thn hbz hby
          by_cases hkl : k < N
          · have hm0 := Int.emod_nonneg (k : Int) (show D ≠ 0 by omega)
            have hm1 := Int.emod_lt_of_pos (k : Int) (show 0 < D by omega)
            by_cases hcd : (k : Int) % D + S < D
            · have hi := HIN.out k hkl hcd
              obtain ⟨c, hce⟩ : ∃ c : Nat, c = cellAt xs k := ⟨_, rfl⟩
              obtain ⟨d, hde⟩ : ∃ d : Nat, d = cellAt xs (k + S.toNat) := ⟨_, rfl⟩
              have hi1 : inR (N : Int) (k : Int) = true := by unfold inR; simp; omega
              have hi2 : inR (N : Int) ((k : Int) + S) = true := by unfold inR; simp; omega
              have hf := falls_any (N : Int) bo cb xs (k : Int) ((k : Int) + S) c d wr HOR.out hi1 hi2 (by rw [getV_at HOR.out hi1, hce, Int.toNat_natCast]) (by rw [getV_at HOR.out hi2, hde, show ((k : Int) + S).toNat = k + S.toNat by omega]) (hrd1.up hbx) hl2
              have hdt : decide ((k : Int) % D + S < D) = true := decide_eq_true hcd
              obtain ⟨p0, p1, p2, p3⟩ := (s1.up hbx).cells
              by_cases hlt2 : d < c
              · have hrf : r = false := by rw [HR.out]; exact ris_no hlt hkl (HNU.out k hcd (by rw [← hce, ← hde]; exact hlt2))
                subst hrf
                rw [show decide ((d : Int) < (c : Int)) = true from decide_eq_true (by omega)] at hf
                clear hce hde hi1 hi2 HR HTK HT hi s1
                go_wp2_with fail
                refine hf.mono ?_
                rintro e w3 ⟨rfl, hb⟩
                clear hf p0 p1 p2 p3
                have b3 := Below.thn (Below.thn b1 hbx) hb
                go_wp2
                go_ret2
                exact ⟨rfl, b3⟩
              · rw [show decide ((d : Int) < (c : Int)) = false from decide_eq_false (by omega)] at hf
                have HNX : Hid (risTo ks N (cellAt xs) j (k + 1)) := risTo_more HTK.out (HUP.out k (.inr (by rw [← hce, ← hde]; omega)))
                clear hce hde hi1 hi2 HR HTK HT hi s1
                go_wp2_with fail
                refine hf.mono ?_
                rintro e w3 ⟨rfl, hb⟩
                clear hf p0 p1 p2 p3
                go_wp2
                go_roundw
                case rel => exact ⟨k + 1, by omega, by go_num, Below.thn hby hb, HNX⟩
                case measure => simp [intOf]; omega
            · have hdt : decide ((k : Int) % D + S < D) = false := decide_eq_false hcd
              have HNX : Hid (risTo ks N (cellAt xs) j (k + 1)) := risTo_more HTK.out (HUP.out k (.inl (by omega)))
              clear HR HTK HT s1
              go_wp2
              go_roundw
              case rel => exact ⟨k + 1, by omega, by go_num, hby, HNX⟩
              case measure => simp [intOf]; omega
          · obtain rfl : k = N := by omega
            have HNX : Hid (risTo ks k (cellAt xs) (j + 1) 0) := risTo_row HTK.out
            clear HR HTK HT s1
            go_wp2
            go_roundw
            case rel => exact ⟨j + 1, by omega, by go_num, S, rfl, by omega, by omega, HS, hbx, HNX⟩
            case measure => simp [intOf]; omega
      · obtain rfl : j = ks.length := by omega
        have hrt : r = true := by rw [HR.out]; exact risTo_end HT.out
        subst hrt
        have b3 := Below.thn b1 hbz
        clear HR HT s1
        go_wp2
        go_ret2
        exact ⟨rfl, b3⟩
  · have hof : okTab ks t n xs = false := by simpa using hok
    rw [hof] at hck ⊢
    simp only [Bool.false_eq_true, if_false, Bool.false_and] at hck ⊢
    clear hok hof
    go_enter Try.func27, Try.ntmps27
    go_wp2_with fail
    refine hck.mono ?_
    rintro e w1 ⟨rfl, hb⟩
    clear p0 p1 p2 p3
    have s1 := s0.up hb
    have h1 := h0.up hb
    have b1 := Below.thn b0 hb
    obtain ⟨p0, p1, p2, p3⟩ := s1.cells
    clear s0 h0 b0 hb h hck
    go_wp2
    go_ret2
    exact ⟨rfl, b1⟩
end Go.Proofs.Ytiikkbofcccjfaa
