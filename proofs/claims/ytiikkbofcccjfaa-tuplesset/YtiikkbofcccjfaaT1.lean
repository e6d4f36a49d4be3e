/-
  The small functions that tuples call, and slices of whole numbers as they lie.
-/
import Derived.Test.YtiikkbofcccjfaaT0
import Derived.Test.YtiikkbofcccjfaaCp
import Derived.Laws.OwnMore
namespace Go.Proofs.Ytiikkbofcccjfaa
open Go.RowKit
open Go.Lib
open RowsM
set_option maxRecDepth 100000

theorem top_any (t : Int) (w : World) :
    Calls Try.prog 55 #[.int .i64 t] w fun e w' => e = .returned (.tuple #[.int .i64 (topV t), .int .i64 (topE t)]) ∧ w' = w := by
  unfold topV topE
  rcases top_cases t with ⟨rfl, h⟩ | ⟨rfl, h⟩ | ⟨rfl, h⟩ | ⟨h1, h2, h3, h⟩
  all_goals
    rw [h]
    clear h
    go_enter Try.func55, Try.ntmps55
    go_wp2
    exact bodyPost_ret (v := .tuple #[.int .i64 _, .int .i64 _]) (by simp [results, Try.results55, go_sem]) rfl ⟨rfl, rfl⟩

theorem rtop_any (t : Int) (w : World) :
    Calls Try.prog 34 #[.int .i64 t] w fun e w' => e = .returned (.int .i64 (topP t)) ∧ w' = w := by
  rcases top_cases t with ⟨rfl, h⟩ | ⟨rfl, h⟩ | ⟨rfl, h⟩ | ⟨h1, h2, h3, h⟩
  all_goals
    rw [h]
    clear h
    go_enter Try.func34, Try.ntmps34
    go_wp2
    go_ret
    exact ⟨rfl, rfl⟩

theorem pcheck_any (t p : Int) (w : World) :
    Calls Try.prog 35 #[.int .i64 t, .int .i64 p] w fun e w' => e = .returned (.int .i64 (chkP t p)) ∧ w' = w := by
  have h1 := top_any t w
  unfold topV topE at h1
  unfold chkP isP
  generalize topP t = k at *
  by_cases hk : k < 0
  · rw [if_pos hk, if_pos hk] at h1
    rw [if_pos hk]
    clear hk
    go_enter Try.func35, Try.ntmps35
    go_wp2_with fail
    refine h1.mono ?_
    rintro e w1 ⟨rfl, rfl⟩
    go_wp2
    go_ret
    exact ⟨rfl, rfl⟩
  · rw [if_neg hk, if_neg hk] at h1
    rw [if_neg hk]
    by_cases hp : p < 0
    · rw [decide_eq_false (show ¬ (0 ≤ p ∧ p ≤ k) by omega)]
      have hp' : decide (p < 0) = true := decide_eq_true hp
      go_enter Try.func35, Try.ntmps35
      go_wp2_with fail
      refine h1.mono ?_
      rintro e w1 ⟨rfl, rfl⟩
      go_wp2
      go_ret
      exact ⟨rfl, rfl⟩
    · have h0 : decide (p < 0) = false := decide_eq_false hp
      by_cases hq : p ≤ k
      · rw [decide_eq_true (show 0 ≤ p ∧ p ≤ k by omega)]
        have hq' : decide (k < p) = false := decide_eq_false (by omega)
        go_enter Try.func35, Try.ntmps35
        go_wp2_with fail
        refine h1.mono ?_
        rintro e w1 ⟨rfl, rfl⟩
        go_wp2
        go_ret
        exact ⟨rfl, rfl⟩
      · rw [decide_eq_false (show ¬ (0 ≤ p ∧ p ≤ k) by omega)]
        have hq' : k < p := by omega
        go_enter Try.func35, Try.ntmps35
        go_wp2_with fail
        refine h1.mono ?_
        rintro e w1 ⟨rfl, rfl⟩
        go_wp2
        go_ret
        exact ⟨rfl, rfl⟩

theorem is_any (t p : Int) (w : World) :
    Calls Try.prog 36 #[.int .i64 t, .int .i64 p] w fun e w' => e = .returned (.bool (isP t p)) ∧ w' = w := by
  have h1 := rtop_any t w
  unfold isP
  generalize topP t = k at *
  by_cases hp : 0 ≤ p
  · by_cases hq : p ≤ k
    · rw [decide_eq_true (show 0 ≤ p ∧ p ≤ k by omega)]
      go_enter Try.func36, Try.ntmps36
      go_wp2_with fail
      refine h1.mono ?_
      rintro e w1 ⟨rfl, rfl⟩
      go_wp2
      go_ret
      exact ⟨ret_bool (by simp), rfl⟩
    · rw [decide_eq_false (show ¬ (0 ≤ p ∧ p ≤ k) by omega)]
      go_enter Try.func36, Try.ntmps36
      go_wp2_with fail
      refine h1.mono ?_
      rintro e w1 ⟨rfl, rfl⟩
      go_wp2
      go_ret
      exact ⟨ret_bool (by simp [hq]), rfl⟩
  · rw [decide_eq_false (show ¬ (0 ≤ p ∧ p ≤ k) by omega)]
    have h0 : decide (0 ≤ p) = false := decide_eq_false hp
    go_enter Try.func36, Try.ntmps36
    go_wp2
    go_ret
    exact ⟨rfl, rfl⟩

theorem isType_any (t : Int) (w : World) :
    Calls Try.prog 32 #[.int .i64 t] w fun e w' => e = .returned (.bool (decide (0 ≤ topP t))) ∧ w' = w := by
  have h1 := top_any t w
  unfold topV topE at h1
  generalize topP t = k at *
  by_cases hk : k < 0
  · rw [if_pos hk, if_pos hk] at h1
    rw [decide_eq_false (show ¬ 0 ≤ k by omega)]
    clear hk
    go_enter Try.func32, Try.ntmps32
    go_wp2_with fail
    refine h1.mono ?_
    rintro e w1 ⟨rfl, rfl⟩
    go_wp2
    go_ret
    exact ⟨rfl, rfl⟩
  · rw [if_neg hk, if_neg hk] at h1
    rw [decide_eq_true (show 0 ≤ k by omega)]
    clear hk
    go_enter Try.func32, Try.ntmps32
    go_wp2_with fail
    refine h1.mono ?_
    rintro e w1 ⟨rfl, rfl⟩
    go_wp2
    go_ret
    exact ⟨rfl, rfl⟩

theorem size_any (t : Int) (w : World) (h : 0 ≤ topP t) :
    Calls Try.prog 33 #[.int .i64 t] w fun e w' => e = .returned (.int .i64 (topP t + 1)) ∧ w' = w := by
  have h1 := top_any t w
  unfold topV topE at h1
  have h3 := (top_le t).1
  generalize topP t = k at *
  rw [if_neg (show ¬ k < 0 by omega), if_neg (show ¬ k < 0 by omega)] at h1
  go_enter Try.func33, Try.ntmps33
  go_wp2_with fail
  refine h1.mono ?_
  rintro e w1 ⟨rfl, rfl⟩
  go_wp2
  go_ret
  exact ⟨ret_int (by omega), rfl⟩

theorem bel_eq {w w1 : World} (h : w1 = w) : Below w.heap.size w w1 := by rw [h]; exact Below.refl _ _

/-- What a slice of whole numbers reads: the numbers, and where they lie. -/
def Iz (w : World) (ao : Option Addr) (zs : List Int) : Prop := zs ≠ [] → ∃ b off, ao = some ⟨b, off, none⟩ ∧ ∀ t, t < zs.length → w.cell? ⟨b, off + t, none⟩ = some (.int .i64 (zs.getD t 0))

theorem Iz.nil (w : World) (ao : Option Addr) : Iz w ao [] := fun h => absurd rfl h
theorem cell_below {w : World} {b o : Nat} {v : Value} (h : w.cell? ⟨b, o, none⟩ = some v) : b < w.heap.size := by
  simp only [World.cell?] at h
  rcases Nat.lt_or_ge b w.heap.size with k | k
  · exact k
  · rw [Array.getElem?_eq_none k] at h
    simp at h
theorem Iz.lt {w : World} {b off : Nat} {zs : List Int} (h : Iz w (some ⟨b, off, none⟩) zs) (hz : zs ≠ []) : b < w.heap.size := by
  obtain ⟨b', o', e, hc⟩ := h hz
  simp only [Option.some.injEq, Addr.mk.injEq, and_true] at e
  obtain ⟨rfl, rfl⟩ := e
  exact cell_below (hc 0 (List.length_pos_iff.2 hz))
theorem Iz.up {w w' : World} {ao : Option Addr} {zs : List Int} (h : Iz w ao zs) (hb : Below w.heap.size w w') : Iz w' ao zs := by
  intro hn
  obtain ⟨b, off, e, hc⟩ := h hn
  refine ⟨b, off, e, fun t ht => ?_⟩
  have h1 := hc t ht
  rw [← h1]
  exact hb.cell (cell_below h1)
/-- Blocks that lie lower than B stay: what was known of a slice there is known still. -/
theorem Iz.low {w w' : World} {B : Nat} {ao : Option Addr} {zs : List Int} (h : Iz w ao zs) (hb : Below B w w') (hB : ∀ b off, ao = some ⟨b, off, none⟩ → b < B) : Iz w' ao zs := by
  intro hn
  obtain ⟨b, off, e, hc⟩ := h hn
  refine ⟨b, off, e, fun t ht => ?_⟩
  rw [← hc t ht]
  exact hb.cell (hB b off e)
theorem getD_eq {α : Type} {xs : List α} {j : Nat} (h : j < xs.length) (d : α) : xs[j]? = some (xs.getD j d) := by
  rw [List.getD_eq_getElem?_getD, List.getElem?_eq_getElem h]; rfl
/-- A row of whole numbers that a call owns reads as a slice of them. -/
theorem own_iz {w : World} {B : Nat} {T : TypeId} {v : Value} {n : Nat} {zs : List Int} (h : w.ownsRow B T 1 v n (zs.map fun z => Value.int .i64 z)) (hn : n = zs.length) : ∃ ao c, v = .slice ao zs.length c ∧ Iz w ao zs ∧ zs.length ≤ c ∧ (zs ≠ [] → ∃ g, ao = some ⟨g, 0, none⟩ ∧ B ≤ g) := by
  subst hn
  rcases id h.2 with ⟨rfl, h0⟩ | ⟨g, cap, cur, rfl, hg, hb, h1, h2, h3, ht⟩
  · have : zs = [] := List.eq_nil_of_length_eq_zero h0
    subst this
    exact ⟨none, 0, rfl, Iz.nil _ _, Nat.le_refl _, fun h => absurd rfl h⟩
  · refine ⟨_, cap, rfl, fun _ => ⟨g, 0, rfl, fun t htl => ?_⟩, by omega, fun _ => ⟨g, rfl, hg⟩⟩
    have := World.ownsRow.cellAt h t (by omega)
    rw [Nat.zero_add, this, List.getElem?_map, getD_eq htl 0]
    rfl
end Go.Proofs.Ytiikkbofcccjfaa
