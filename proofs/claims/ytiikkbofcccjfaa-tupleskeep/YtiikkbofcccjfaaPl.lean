/-
  What is put is got back; the numbers of cells come to all of them.
-/
import Derived.Test.YtiikkbofcccjfaaCn
import Derived.Test.YtiikkbofcccjfaaCt
namespace Go.Proofs.Ytiikkbofcccjfaa
open Go.RowKit
open RowsM

theorem shl_bit (v j i : Nat) (hi : i < 64) : ((v <<< (2 * j)) % 18446744073709551616).testBit i = (decide (2 * j ≤ i) && v.testBit (i - 2 * j)) := by
  have e64 : (18446744073709551616 : Nat) = 2 ^ 64 := by decide
  rw [e64, Nat.testBit_mod_two_pow, Nat.testBit_shiftLeft]
  simp [hi]

theorem three_bit : ∀ i, Nat.testBit 3 i = decide (i < 2) := by
  intro i
  rcases i with _ | _ | i
  · rfl
  · rfl
  · have : (3 : Nat) < 2 ^ (i + 2) := Nat.lt_of_lt_of_le (by decide : 3 < 2 ^ 2) (Nat.pow_le_pow_right (by decide) (by omega))
    rw [Nat.testBit_lt_two_pow this]
    simp

theorem put_cell {x v j j' : Nat} (hv : v ≤ 3) (hj : j < 32) (hj' : j' < 32) : cell (putW x j v) j' = if j' = j then v else cell x j' := by
  unfold putW
  have hm : (3 <<< (2 * j)) % 18446744073709551616 < 18446744073709551616 := Nat.mod_lt _ (by decide)
  have b0 : ((3 <<< (2 * j)) % 18446744073709551616).testBit (2 * j') = decide (j' = j) := by
    rw [shl_bit 3 j _ (by omega), three_bit]
    by_cases h : j' = j
    · subst h; simp
    · by_cases h2 : j < j'
      · simp [h]; omega
      · simp [h]; omega
  have b1 : ((3 <<< (2 * j)) % 18446744073709551616).testBit (2 * j' + 1) = decide (j' = j) := by
    rw [shl_bit 3 j _ (by omega), three_bit]
    by_cases h : j' = j
    · subst h; simp
    · by_cases h2 : j < j'
      · simp [h]; omega
      · simp [h]; omega
  rw [pick_cell hm hj' b0 b1]
  by_cases h : j' = j
  · subst h
    simp only [decide_true, if_true]
    rw [cell_bits, shl_bit v j' _ (by omega), shl_bit v j' _ (by omega)]
    have e1 : 2 * j' - 2 * j' = 0 := by omega
    have e2 : 2 * j' + 1 - 2 * j' = 1 := by omega
    have d2 : decide (2 * j' ≤ 2 * j' + 1) = true := by simp
    rw [e1, e2, d2]
    have : v = 0 ∨ v = 1 ∨ v = 2 ∨ v = 3 := by omega
    rcases this with rfl | rfl | rfl | rfl <;> simp <;> decide
  · simp [h]

theorem okPut_parts {n : Int} {zs : List Nat} {i v : Int} (h : okPut n zs i v = true) : okR n zs = true ∧ 0 ≤ i ∧ i < n ∧ 0 ≤ v ∧ v ≤ 3 := by
  unfold okPut inR okV at h
  simp only [Bool.and_eq_true, decide_eq_true_eq] at h
  exact ⟨h.1.1, h.1.2.1, h.1.2.2, h.2.1, h.2.2⟩

theorem put_len {n : Int} {zs : List Nat} {i v : Int} (h : okPut n zs i v = true) : (putL n zs i v).length = zs.length := by
  unfold putL; rw [if_pos h, List.length_set]

theorem put_bd {n : Int} {zs : List Nat} {i v : Int} (hz : Bd zs) : Bd (putL n zs i v) := by
  intro z hm
  unfold putL at hm
  split at hm
  · rcases List.mem_or_eq_of_mem_set hm with h | h
    · exact hz z h
    · rw [h]; exact putW_lt (hz.get _) _ _
  · simp at hm

theorem put_getD {n : Int} {zs : List Nat} {i v : Int} (h : okPut n zs i v = true) (k : Nat) (hk : k < zs.length) : (putL n zs i v).getD k 0 = if k = (i / 32).toNat then putW (zs.getD k 0) (i % 32).toNat v.toNat else zs.getD k 0 := by
  unfold putL
  rw [if_pos h, List.getD_eq_getElem?_getD, List.getElem?_set]
  by_cases e : (i / 32).toNat = k
  · subst e; simp [hk]
  · rw [if_neg e, if_neg (fun x => e x.symm), List.getD_eq_getElem?_getD]

/-- Each cell behind a Put. -/
theorem put_cells {n : Int} {zs : List Nat} {i v : Int} (h : okPut n zs i v = true) (k j : Nat) (hk : k < zs.length) (hj : j < 32) :
    cell ((putL n zs i v).getD k 0) j = if k = (i / 32).toNat ∧ j = (i % 32).toNat then v.toNat else cell (zs.getD k 0) j := by
  obtain ⟨_, i0, i1, v0, v3⟩ := okPut_parts h
  rw [put_getD h k hk]
  by_cases e : k = (i / 32).toNat
  · rw [if_pos e, put_cell (by omega) (by omega) hj]
    by_cases e2 : j = (i % 32).toNat
    · rw [if_pos e2, if_pos ⟨e, e2⟩]
    · rw [if_neg e2, if_neg (fun x => e2 x.2)]
  · rw [if_neg e, if_neg (fun x => e x.1)]

theorem okR_put {n : Int} {zs : List Nat} {i v : Int} (hz : Bd zs) (h : okPut n zs i v = true) : okR n (putL n zs i v) = true := by
  obtain ⟨hr, i0, i1, v0, v3⟩ := okPut_parts h
  rw [okR_iff hz] at hr
  rw [okR_iff (put_bd hz)]
  obtain ⟨h0, h1, h2, h3⟩ := hr
  refine ⟨h0, h1, by rw [put_len h]; exact h2, ?_⟩
  rcases h3 with h3 | h3
  · exact .inl h3
  by_cases h4 : n % 32 = 0
  · exact .inl h4
  refine .inr fun j hj hj2 => ?_
  rw [put_len h, put_cells h _ j (by omega) hj2, if_neg (by omega)]
  exact h3 j hj hj2

theorem get_put {n : Int} {zs : List Nat} {i v k : Int} (hz : Bd zs) (h : okPut n zs i v = true) (hk : inR n k = true) : getV n (putL n zs i v) k = if k = i then v.toNat else getV n zs k := by
  obtain ⟨hr, i0, i1, v0, v3⟩ := okPut_parts h
  have hk' : 0 ≤ k ∧ k < n := by simpa [inR] using hk
  have hln : (zs.length : Int) = (n + 31) / 32 := by
    have hr' := hr
    simp only [okR, decide_eq_true_eq] at hr'
    exact hr'.2.2.1
  unfold getV
  rw [okR_put hz h, hr, hk]
  simp only [Bool.and_self, if_true]
  rw [put_cells h _ _ (by omega) (by omega)]
  by_cases e : k = i
  · subst e; simp
  · rw [if_neg (by omega), if_neg e]

theorem zeros_ok {n : Int} (h : okN n = true) : okR n (zerosN n) = true := by
  have h' : 0 ≤ n ∧ n ≤ 4096 := by simpa [okN] using h
  rw [zerosN_yes h]
  unfold okR
  simp only [decide_eq_true_eq]
  refine ⟨h'.1, h'.2, by rw [List.length_replicate]; omega, .inr ?_⟩
  have : ∀ t, (List.replicate ((n + 31) / 32).toNat 0).getD t 0 = 0 := fun t => by
    rw [List.getD_eq_getElem?_getD, List.getElem?_replicate]
    split <;> rfl
  rw [this]
  simp

theorem zeros_count (m : Nat) : countL (List.replicate m 0) 0 = 32 * m := by
  have e : cnt 0 0 = 32 := by decide
  unfold countL
  rw [List.map_replicate, e, List.sum_replicate_nat]
  omega

/-! The calls where nothing is amiss. -/
theorem new_ok (n : Int) (w : World) (Z : List Nat) (h : okN n = true) (hZ : zerosN n = Z) :
    Calls Try.prog 37 #[.int .i64 n] w fun e w' => ∃ so cap, e = .returned (.tuple #[.agg #[.int .i64 n, .slice so Z.length cap], .int .i64 0]) ∧ Rd w' so Z ∧ Below w.heap.size w w' := by
  have := new_any n w
  rw [h, hZ] at this
  refine this.mono ?_
  rintro e w' ⟨so, cap, rfl, hf, hb⟩
  exact ⟨so, cap, rfl, hf.rd, hb⟩

theorem put_ok (n : Int) (ao : Option Addr) (ca : Nat) (zs : List Nat) (i v : Int) (w : World) (L : List Nat) (hp : okPut n zs i v = true) (hL : putL n zs i v = L) (h : Rd w ao zs) (hl : zs.length ≤ 17592186043904) :
    Calls Try.prog 47 #[.agg #[.int .i64 n, .slice ao zs.length ca], .int .i64 i, .int .i64 v] w fun e w' => ∃ so cap, e = .returned (.tuple #[.agg #[.int .i64 n, .slice so L.length cap], .int .i64 0]) ∧ Rd w' so L ∧ Below w.heap.size w w' := by
  have := put_any n ao ca zs i v w h hl
  have he : putE n zs i v = 0 := by
    unfold putE okPut at *
    cases h1 : okR n zs <;> cases h2 : inR n i <;> cases h3 : okV v <;> rw [h1, h2, h3] at hp <;> simp_all
  rw [hp, hL, he] at this
  refine this.mono ?_
  rintro e w' ⟨so, cap, rfl, hf, hb⟩
  exact ⟨so, cap, rfl, hf.rd, hb⟩

theorem get_ok (n : Int) (ao : Option Addr) (ca : Nat) (zs : List Nat) (i : Int) (w : World) (c : Int) (hr : okR n zs = true) (hi : inR n i = true) (hc : (getV n zs i : Int) = c) (h : Rd w ao zs) (hl : zs.length ≤ 17592186043904) :
    Calls Try.prog 46 #[.agg #[.int .i64 n, .slice ao zs.length ca], .int .i64 i] w fun e w' => e = .returned (.tuple #[.int .i64 c, .int .i64 0]) ∧ Below w.heap.size w w' := by
  have := get_any n ao ca zs i w h hl
  have he : getE n zs i = 0 := by unfold getE; rw [hr, hi]; rfl
  rw [hc, he] at this
  exact this

theorem count_ok (n : Int) (ao : Option Addr) (ca : Nat) (zs : List Nat) (v : Int) (w : World) (c : Int) (hr : okR n zs = true) (hi : okV v = true) (hc : countV n zs v = c) (h : Rd w ao zs) (hl : zs.length ≤ 17592186043904) :
    Calls Try.prog 43 #[.agg #[.int .i64 n, .slice ao zs.length ca], .int .i64 v] w fun e w' => e = .returned (.tuple #[.int .i64 c, .int .i64 0]) ∧ Below w.heap.size w w' := by
  have := count_any n ao ca zs v w h hl
  have he : countE n zs v = 0 := by unfold countE; rw [hr, hi]; rfl
  rw [hc, he] at this
  exact this

theorem check_ok (n : Int) (ao : Option Addr) (ca : Nat) (zs : List Nat) (w : World) (hr : okR n zs = true) (h : Rd w ao zs) (hl : zs.length ≤ 17592186043904) :
    Calls Try.prog 42 #[.agg #[.int .i64 n, .slice ao zs.length ca]] w fun e w' => e = .returned (.int .i64 0) ∧ Below w.heap.size w w' := by
  have := check_any n ao ca zs w h hl
  rw [hr] at this
  exact this
end Go.Proofs.Ytiikkbofcccjfaa
