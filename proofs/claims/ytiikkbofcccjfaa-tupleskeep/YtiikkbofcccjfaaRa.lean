/-
  The walks of the small functions of rows: words, shifts, masks.
-/
import Derived.Test.YtiikkbofcccjfaaRows
import Derived.Test.YtiikkbofcccjfaaRm
import Derived.WalkKit
import Derived.WalkSpells
import Derived.WalkLawsBesides
import Derived.Laws.BitsAllLaws
import Derived.Deep.QuietTactic
import Derived.BigQuiet
namespace Go.Proofs.Ytiikkbofcccjfaa
open Go.RowKit
open RowsM

theorem ret_int {k : IntKind} {a b : Int} (h : a = b) : Ending.returned (.int k a) = .returned (.int k b) := by rw [h]
theorem ret_bool {a b : Bool} (h : a = b) : Ending.returned (.bool a) = .returned (.bool b) := by rw [h]

theorem words_any (n : Int) (h0 : 0 ≤ n) (h1 : n ≤ 4096) (w : World) :
    Calls Try.prog 57 #[.int .i64 n] w fun e w' => e = .returned (.int .i64 ((n + 31) / 32)) ∧ w' = w := by
  go_enter Try.func57, Try.ntmps57
  go_wp2
  go_ret
  exact ⟨ret_int (by omega), rfl⟩

theorem shift_any (i : Int) (h0 : 0 ≤ i) (h1 : i ≤ 4096) (w : World) :
    Calls Try.prog 61 #[.int .i64 i] w fun e w' => e = .returned (.int .u64 (2 * (i % 32))) ∧ w' = w := by
  go_enter Try.func61, Try.ntmps61
  go_wp2
  go_ret
  exact ⟨rfl, rfl⟩

theorem isCell_any (v : Int) (w : World) :
    Calls Try.prog 58 #[.int .i64 v] w fun e w' => e = .returned (.bool (decide (0 ≤ v ∧ v ≤ 3))) ∧ w' = w := by
  go_enter Try.func58, Try.ntmps58
  go_wp2
  · have h : 0 ≤ v := by assumption
    go_ret
    exact ⟨ret_bool (by simp [h]), rfl⟩
  · have h : v < 0 := by assumption
    go_ret
    exact ⟨ret_bool (by have : ¬ 0 ≤ v := by omega
                        simp [this]), rfl⟩

theorem and_lt {a b : Nat} (h : a < 18446744073709551616) : a &&& b < 18446744073709551616 := Nat.lt_of_le_of_lt Nat.and_le_left h
theorem or_lt {a b : Nat} (h : a < 18446744073709551616) (g : b < 18446744073709551616) : a ||| b < 18446744073709551616 := by
  have e64 : (18446744073709551616 : Nat) = 2 ^ 64 := by decide
  rw [e64] at *; exact Nat.or_lt_two_pow h g

theorem pick_any (m x y : Nat) (w : World) (hm : m < 18446744073709551616) (hx : x < 18446744073709551616) (hy : y < 18446744073709551616) :
    Calls Try.prog 53 #[.int .u64 m, .int .u64 x, .int .u64 y] w fun e w' => e = .returned (.int .u64 (pickN m x y : Nat)) ∧ w' = w := by
  go_enter Try.func53, Try.ntmps53
  go_wp2
  go_ret
  refine ⟨ret_int ?_, rfl⟩
  rw [u64_and_nat _ _ hx hm, u64_andNot_nat _ _ hy hm, u64_or_nat _ _ (and_lt hx) (and_lt hy)]
  rfl

theorem wrap_dbl (x : Nat) : IntKind.u64.wrap ((x : Int) * 2) = (((x <<< 1) % 18446744073709551616 : Nat) : Int) := by
  rw [IntKind.wrap_u64, Nat.shiftLeft_eq]; omega

theorem spread_any (x : Nat) (w : World) (hx : x < 18446744073709551616) :
    Calls Try.prog 62 #[.int .u64 x] w fun e w' => e = .returned (.int .u64 (x ||| (x <<< 1) % 18446744073709551616 : Nat)) ∧ w' = w := by
  go_enter Try.func62, Try.ntmps62
  go_wp2
  go_ret
  refine ⟨ret_int ?_, rfl⟩
  rw [wrap_dbl, u64_or_nat _ _ hx (Nat.mod_lt _ (by decide))]

/-- The lower bits that 'above' hands to 'spread'. -/
def lowN (x y : Nat) : Nat := ((x >>> 1 &&& (18446744073709551615 - y >>> 1)) ||| ((x &&& (18446744073709551615 - y)) &&& (18446744073709551615 - (y >>> 1 &&& (18446744073709551615 - x >>> 1))))) &&& 6148914691236517205

theorem half_nat (x : Nat) : ((x : Int) / (2 : Int)) = ((x >>> 1 : Nat) : Int) := by rw [Nat.shiftRight_eq_div_pow]; omega

theorem low_eq {x y : Nat} (hx : x < 18446744073709551616) (hy : y < 18446744073709551616) :
    bits .and .u64 (bits .or .u64 (bits .andNot .u64 ((x : Int) / 2) ((y : Int) / 2)) (bits .andNot .u64 (bits .andNot .u64 (x : Int) (y : Int)) (bits .andNot .u64 ((y : Int) / 2) ((x : Int) / 2)))) 6148914691236517205 = ((lowN x y : Nat) : Int) := by
  have hx1 := shr_lt hx 1
  have hy1 := shr_lt hy 1
  rw [half_nat, half_nat, u64_andNot_nat _ _ hx1 hy1, u64_andNot_nat _ _ hx hy, u64_andNot_nat _ _ hy1 hx1, u64_andNot_nat _ _ (and_lt hx) (and_lt hy1), u64_or_nat _ _ (and_lt hx1) (and_lt (and_lt hx))]
  exact u64_and_nat _ 6148914691236517205 (or_lt (and_lt hx1) (and_lt (and_lt hx))) (by decide)

theorem low_lt {x y : Nat} : lowN x y < 18446744073709551616 := Nat.lt_of_le_of_lt Nat.and_le_right (by decide)

theorem above_any (x y : Nat) (w : World) (hx : x < 18446744073709551616) (hy : y < 18446744073709551616) :
    Calls Try.prog 54 #[.int .u64 x, .int .u64 y] w fun e w' => e = .returned (.int .u64 (aboveN x y : Nat)) ∧ w' = w := by
  go_enter Try.func54, Try.ntmps54
  go_wp2_with fail
  rw [low_eq hx hy]
  refine (spread_any (lowN x y) w low_lt).mono ?_
  rintro e w' ⟨rfl, rfl⟩
  go_wp2
  go_ret
  exact ⟨rfl, rfl⟩

/-- What a slice of words reads: the words, and where they lie. -/
structure Rd (w : World) (ao : Option Addr) (zs : List Nat) : Prop where
  lt : ∀ z, z ∈ zs → z < 18446744073709551616
  pl : zs ≠ [] → ∃ b off, ao = some ⟨b, off, none⟩ ∧ ∀ t, t < zs.length → w.cell? ⟨b, off + t, none⟩ = some (.int .u64 (zs.getD t 0 : Nat))

theorem Rd.nil (w : World) (ao : Option Addr) : Rd w ao [] := ⟨by simp, fun h => absurd rfl h⟩

theorem Rd.up {w w' : World} {ao : Option Addr} {zs : List Nat} (h : Rd w ao zs) (hb : Below w.heap.size w w') : Rd w' ao zs := by
  refine ⟨h.lt, fun hn => ?_⟩
  obtain ⟨b, off, e, hc⟩ := h.pl hn
  refine ⟨b, off, e, fun t ht => ?_⟩
  have h1 := hc t ht
  have hl : b < w.heap.size := by
    have := h1
    simp only [World.cell?] at this
    rcases Nat.lt_or_ge b w.heap.size with h | h
    · exact h
    · exfalso
      rw [Array.getElem?_eq_none h] at this
      simp at this
  rw [← h1]
  exact hb.cell hl

theorem Rd.get_lt {w : World} {ao : Option Addr} {zs : List Nat} (h : Rd w ao zs) (t : Nat) : zs.getD t 0 < 18446744073709551616 := by
  rw [List.getD_eq_getElem?_getD]
  rcases Nat.lt_or_ge t zs.length with ht | ht
  · rw [List.getElem?_eq_getElem ht]; exact h.lt _ (List.getElem_mem ht)
  · rw [List.getElem?_eq_none ht]; decide

/-- Is it a row? -/
def okR (n : Int) (zs : List Nat) : Bool := decide (0 ≤ n ∧ n ≤ 4096 ∧ (zs.length : Int) = (n + 31) / 32 ∧ (n % 32 = 0 ∨ zs.getD (zs.length - 1) 0 >>> (2 * (n % 32).toNat) = 0))

theorem shr_int (x : Nat) (i : Int) (h : 0 ≤ i) : ((x : Int) / 2 ^ (2 * i).toNat) = ((x >>> (2 * i.toNat) : Nat) : Int) := by
  have e : (2 * i).toNat = 2 * i.toNat := by omega
  rw [e, Nat.shiftRight_eq_div_pow, Int.natCast_ediv, Int.natCast_pow]
  rfl

theorem nz_int {k : Nat} (h : k ≠ 0) : (((k : Nat) : Int) != 0) = true := by simp; omega

theorem okR_false {n : Int} {zs : List Nat} (h : n < 0 ∨ 4096 < n ∨ (zs.length : Int) ≠ (n + 31) / 32) : okR n zs = false := by
  unfold okR
  simp only [decide_eq_false_iff_not]
  omega

theorem below_one (w : World) (o : Obj) (n : Nat) : Below w.heap.size w ((w.alloc o).drewN n) := below_drewN (Below.alloc (Below.refl _ _) (Nat.le_refl _) _) _

theorem Rd.alloc {w : World} {ao : Option Addr} {zs : List Nat} (h : Rd w ao zs) (o : Obj) : Rd (w.alloc o) ao zs := h.up (Below.alloc (Below.refl _ _) (Nat.le_refl _) _)

/-- The words' places, also behind whatever new block. -/
theorem Rd.pls {w : World} {ao : Option Addr} {zs : List Nat} (h : Rd w ao zs) (hz : zs ≠ []) : ∃ b off, ao = some ⟨b, off, none⟩ ∧ (∀ t, t < zs.length → w.cell? ⟨b, off + t, none⟩ = some (.int .u64 (zs.getD t 0 : Nat))) ∧
    (∀ t, t < zs.length → ∀ o, (w.alloc o).cell? ⟨b, off + t, none⟩ = some (.int .u64 (zs.getD t 0 : Nat))) := by
  obtain ⟨b, off, e, hc⟩ := h.pl hz
  refine ⟨b, off, e, hc, fun t ht o => ?_⟩
  obtain ⟨b', off', e', hc'⟩ := (h.alloc o).pl hz
  rw [e] at e'
  simp only [Option.some.injEq, Addr.mk.injEq, and_true] at e'
  obtain ⟨rfl, rfl⟩ := e'
  exact hc' t ht

set_option maxHeartbeats 1000000 in
theorem check_any (n : Int) (ao : Option Addr) (cap : Nat) (zs : List Nat) (w : World) (h : Rd w ao zs) (hl : zs.length ≤ 17592186043904) :
    Calls Try.prog 42 #[.agg #[.int .i64 n, .slice ao zs.length cap]] w fun e w' => e = .returned (.int .i64 (if okR n zs then 0 else 3)) ∧ Below w.heap.size w w' := by
  by_cases h1 : n < 0
  · have h1' : decide (n < 0) = true := by simpa using h1
    rw [okR_false (.inl h1)]
    clear h
    go_enter Try.func42, Try.ntmps42
    go_wp2_with fail
    go_quiet (fail)
    go_wp2
    go_ret
    exact ⟨rfl, below_one _ _ _⟩
  by_cases h2 : 4096 < n
  · have h1' : decide (n < 0) = false := by simpa using h1
    have h2' : decide (4096 < n) = true := by simpa using h2
    rw [okR_false (.inr (.inl h2))]
    clear h
    go_enter Try.func42, Try.ntmps42
    go_wp2_with fail
    go_quiet (fail)
    go_wp2
    go_ret
    exact ⟨rfl, below_one _ _ _⟩
  have h1' : decide (n < 0) = false := by simpa using h1
  have h2' : decide (4096 < n) = false := by simpa using h2
  by_cases h3 : (zs.length : Int) = (n + 31) / 32
  · have h3' : ((zs.length : Int) == (n + 31) / 32) = true := by simpa using h3
    by_cases h4 : n % 32 = 0
    · have hk : okR n zs = true := by
        unfold okR; simp only [decide_eq_true_eq]; exact ⟨by omega, by omega, h3, .inl h4⟩
      rw [hk]
      have h4' : (n % 32 == 0) = true := by simpa using h4
      clear h
      go_enter Try.func42, Try.ntmps42
      go_wp2_with fail
      go_quiet (first | (go_at_call 57; refine Calls.quiet_of_same (words_any _ (by omega) (by omega) _)))
      go_wp2
      go_ret
      exact ⟨rfl, below_one _ _ _⟩
    · have h4' : (n % 32 == 0) = false := by simpa using h4
      have hz : zs ≠ [] := by rintro rfl; simp at h3; omega
      have hp : 0 < zs.length := List.length_pos_iff.2 hz
      obtain ⟨b, off, rfl, hc0, hc⟩ := h.pls hz
      have hcl := hc (zs.length - 1) (by omega)
      have hx := h.get_lt (zs.length - 1)
      clear h hc hc0
      obtain ⟨x, hxe⟩ : ∃ x, x = zs.getD (zs.length - 1) 0 := ⟨_, rfl⟩
      rw [← hxe] at hcl hx
      have hk : okR n zs = decide (x >>> (2 * (n % 32).toNat) = 0) := by
        unfold okR
        rw [← hxe]
        simp only [decide_eq_decide]
        constructor
        · rintro ⟨_, _, _, h | h⟩
          · exact absurd h h4
          · exact h
        · intro h
          exact ⟨by omega, by omega, h3, .inr h⟩
      rw [hk]
      have hln : zs.length = ((n + 31) / 32).toNat := by omega
      rw [hln] at hcl
      clear hk hxe hln
      have hsh := shr_int x (n % 32) (by omega)
      by_cases hs : x >>> (2 * (n % 32).toNat) = 0
      · rw [hs] at hsh
        have hs1 : ((x : Int) / 2 ^ (2 * (n % 32)).toNat) = 0 := hsh
        rw [hs]
        clear hsh hs
        go_enter Try.func42, Try.ntmps42
        go_wp2_with fail
        go_quiet (first | (go_at_call 57; refine Calls.quiet_of_same (words_any _ (by omega) (by omega) _)))
        go_wp2
        go_ret
        exact ⟨rfl, below_one _ _ _⟩
      · have hs1 : ((x : Int) / 2 ^ (2 * (n % 32)).toNat != 0) = true := by rw [hsh]; exact nz_int hs
        have hs2 : decide (x >>> (2 * (n % 32).toNat) = 0) = false := by simpa using hs
        rw [hs2]
        clear hsh hs hs2
        go_enter Try.func42, Try.ntmps42
        go_wp2_with fail
        go_quiet (first | (go_at_call 57; refine Calls.quiet_of_same (words_any _ (by omega) (by omega) _)))
        go_wp2
        go_ret
        exact ⟨rfl, below_one _ _ _⟩
  · have h3' : ((zs.length : Int) == (n + 31) / 32) = false := by simpa using h3
    rw [okR_false (.inr (.inr h3))]
    clear h
    go_enter Try.func42, Try.ntmps42
    go_wp2_with fail
    go_quiet (first | (go_at_call 57; refine Calls.quiet_of_same (words_any _ (by omega) (by omega) _)))
    go_wp2
    go_ret
    exact ⟨rfl, below_one _ _ _⟩
end Go.Proofs.Ytiikkbofcccjfaa
