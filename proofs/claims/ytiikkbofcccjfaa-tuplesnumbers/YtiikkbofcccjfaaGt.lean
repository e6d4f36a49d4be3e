/-
  The walk of Get.
-/
import Derived.Test.YtiikkbofcccjfaaRz
namespace Go.Proofs.Ytiikkbofcccjfaa
open Go.RowKit
open RowsM

def inR (n i : Int) : Bool := decide (0 ≤ i ∧ i < n)
def getV (n : Int) (zs : List Nat) (i : Int) : Nat := if okR n zs && inR n i then cell (zs.getD (i / 32).toNat 0) (i % 32).toNat else 0
def getE (n : Int) (zs : List Nat) (i : Int) : Int := if okR n zs then if inR n i then 0 else 2 else 3

theorem ret_ints {a b : Int} {x y : Int} (h : b = a) (g : y = x) : Ending.returned (.tuple #[.int .i64 a, .int .i64 x]) = .returned (.tuple #[.int .i64 b, .int .i64 y]) := by rw [h, g]

theorem cell_lt (x j : Nat) : cell x j < 4 := Nat.mod_lt _ (by decide)

/-- The two bits of cell j. -/
theorem and3_cell (x : Nat) (j : Int) (h : 0 ≤ j) (hx : x < 18446744073709551616 := by assumption) : bits .and .u64 ((x : Int) / 2 ^ (2 * j).toNat) 3 = ((cell x j.toNat : Nat) : Int) := by
  rw [shr_int x j h]
  have := u64_and_nat (x >>> (2 * j.toNat)) 3 (shr_lt hx _) (by decide)
  rw [show ((3 : Nat) : Int) = 3 from rfl] at this
  rw [this]
  unfold cell
  rw [nat_mask2, Nat.shiftRight_eq_div_pow, Nat.pow_mul]

set_option maxHeartbeats 1000000 in
theorem get_any (n : Int) (ao : Option Addr) (ca : Nat) (zs : List Nat) (i : Int) (w : World) (h : Rd w ao zs) (hl : zs.length ≤ 17592186043904) :
    Calls Try.prog 46 #[.agg #[.int .i64 n, .slice ao zs.length ca], .int .i64 i] w fun e w' => e = .returned (.tuple #[.int .i64 (getV n zs i : Nat), .int .i64 (getE n zs i)]) ∧ Below w.heap.size w w' := by
  have s1 := St.new w (.int .i64 n) (.slice ao zs.length ca)
  have b2 := below_alloc w (.cells #[.int .i64 n, .slice ao zs.length ca] 41)
  have h2 := h.up b2
  have hcp := check_any n ao ca zs _ h2 hl
  clear h
  cases hx : okR n zs with
  | false =>
    rw [hx] at hcp
    simp only [Bool.false_eq_true, if_false] at hcp
    have hv : getV n zs i = 0 := by unfold getV; rw [hx]; rfl
    have he : getE n zs i = 3 := by unfold getE; rw [hx]; rfl
    rw [hv, he]
    go_enter Try.func46, Try.ntmps46
    go_wp2_with fail
    refine hcp.mono ?_
    rintro e w1 ⟨rfl, hb1⟩
    have b3 := Below.thn b2 hb1
    clear s1 h2 hcp
    go_wp2
    go_ret2
    exact ⟨rfl, b3⟩
  | true =>
    rw [hx] at hcp
    simp only [if_true] at hcp
    cases hi : inR n i with
    | false =>
      have hv : getV n zs i = 0 := by unfold getV; rw [hi, Bool.and_false]; rfl
      have he : getE n zs i = 2 := by unfold getE; rw [hx, hi]; rfl
      rw [hv, he]
      have hi' : i < 0 ∨ n ≤ i := by simp [inR] at hi; omega
      go_enter Try.func46, Try.ntmps46
      go_wp2_with fail
      refine hcp.mono ?_
      rintro e w1 ⟨rfl, hb1⟩
      have b3 := Below.thn b2 hb1
      obtain ⟨c0, c1, _, _⟩ := (s1.up hb1).cells
      clear s1 h2 hcp
      rcases hi' with hi' | hi'
      · go_wp2
        go_ret2
        exact ⟨rfl, b3⟩
      · by_cases hn : i < 0
        · go_wp2
          go_ret2
          exact ⟨rfl, b3⟩
        · go_wp2
          go_ret2
          exact ⟨rfl, b3⟩
    | true =>
      have hi' : 0 ≤ i ∧ i < n := by simpa [inR] using hi
      obtain ⟨i0, i1⟩ := hi'
      have hn : n ≤ 4096 ∧ (zs.length : Int) = (n + 31) / 32 := by
        simp only [okR, decide_eq_true_eq] at hx; exact ⟨hx.2.1, hx.2.2.1⟩
      obtain ⟨n1, hln⟩ := hn
      have hz : zs ≠ [] := by rintro rfl; simp at hln; omega
      obtain ⟨v, hv⟩ : ∃ v : Int, v = (getV n zs i : Nat) := ⟨_, rfl⟩
      rw [← hv]
      have HV : Hid (v = (getV n zs i : Nat)) := hv
      have he : getE n zs i = 0 := by unfold getE; rw [hx, hi]; rfl
      rw [he]
      have hq : (i / 32).toNat < zs.length := by omega
      have hq2 : i / 32 < (zs.length : Int) := by omega
      obtain ⟨x, hxe⟩ : ∃ x, x = zs.getD (i / 32).toNat 0 := ⟨_, rfl⟩
      have hx0 := h2.get_lt (i / 32).toNat
      rw [← hxe] at hx0
      obtain ⟨b, off, rfl, hc⟩ := h2.pl hz
      clear hv
      have HX : Hid (x = zs.getD (i / 32).toNat 0) := hxe
      go_enter Try.func46, Try.ntmps46
      go_wp2_with fail
      refine hcp.mono ?_
      rintro e w1 ⟨rfl, hb1⟩
      have b3 := Below.thn b2 hb1
      obtain ⟨c0, c1, _, _⟩ := (s1.up hb1).cells
      have h3 := h2.up hb1
      obtain ⟨b', off', e', hc'⟩ := h3.pl hz
      simp only [Option.some.injEq, Addr.mk.injEq, and_true] at e'
      obtain ⟨rfl, rfl⟩ := e'
      have ha := hc' _ hq
      rw [← hxe] at ha
      clear s1 h2 hcp hc hc' h3 hxe hln hb1
      go_wp2_with fail
      go_quiet (first | (go_at_call 61; refine Calls.quiet_of_same (shift_any _ (by omega) (by omega) _)))
      go_wp2
      go_ret2
      refine ⟨ret_ints ?_ rfl, below_drewN b3 _⟩
      have hm := and3_cell x (i % 32) (by omega)
      rw [show v = _ from HV]
      unfold getV
      rw [hx, hi, ← show x = _ from HX]
      simp only [Bool.and_self, if_true]
      rw [hm]
      have := cell_lt x (i % 32).toNat
      unfold wrap64
      omega
end Go.Proofs.Ytiikkbofcccjfaa
