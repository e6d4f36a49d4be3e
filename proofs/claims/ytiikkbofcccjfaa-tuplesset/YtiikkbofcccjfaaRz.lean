/-
  What Join and Meet share: a world that turned in one block alone; the words made so far.
-/
import Derived.Test.YtiikkbofcccjfaaRc
import Derived.BigRegion
namespace Go.Proofs.Ytiikkbofcccjfaa
open Go.RowKit
open RowsM

/-- The words of an answer made word by word. -/
def opL (f : Nat → Nat → Nat) (n m : Int) (xs ys : List Nat) : List Nat := if okP n m xs ys then List.zipWith f xs ys else []

/-- The first k words made, noughts behind them. -/
def part (f : Nat → Nat → Nat) (xs ys : List Nat) (k : Nat) : List Nat := (List.zipWith f xs ys).take k ++ List.replicate (xs.length - k) 0

theorem part_zero (f : Nat → Nat → Nat) (xs ys : List Nat) : part f xs ys 0 = List.replicate xs.length 0 := by simp [part]
theorem part_end (f : Nat → Nat → Nat) (xs ys : List Nat) (h : xs.length = ys.length) : part f xs ys xs.length = List.zipWith f xs ys := by
  unfold part
  rw [Nat.sub_self, List.replicate_zero, List.append_nil]
  exact List.take_of_length_le (by rw [List.length_zipWith]; omega)
theorem part_len (f : Nat → Nat → Nat) (xs ys : List Nat) (h : xs.length = ys.length) (k : Nat) (hk : k ≤ xs.length) : (part f xs ys k).length = xs.length := by
  simp [part, List.length_zipWith, ← h]; omega
theorem part_set (f : Nat → Nat → Nat) (xs ys : List Nat) (h : xs.length = ys.length) (k : Nat) (hk : k < xs.length) :
    (part f xs ys k).set k (f (xs.getD k 0) (ys.getD k 0)) = part f xs ys (k + 1) := by
  have hk2 : k < ys.length := by omega
  apply List.ext_getElem
  · rw [List.length_set, part_len f xs ys h k (by omega), part_len f xs ys h (k + 1) (by omega)]
  · intro i h1 h2
    rw [List.getElem_set]
    have hi : i < xs.length := by rw [part_len f xs ys h (k + 1) (by omega)] at h2; exact h2
    by_cases hik : k = i
    · subst hik
      rw [if_pos rfl]
      simp [part, List.getElem_append, List.length_zipWith, hk, hk2]
      intro h3; omega
    · rw [if_neg hik]
      simp only [part, List.getElem_append, List.length_take, List.length_zipWith, List.getElem_take, List.getElem_replicate]
      by_cases hlt : i < k
      · rw [dif_pos (by omega), dif_pos (by omega)]
      · rw [dif_neg (by omega), dif_neg (by omega)]

/-- wr is w0 but for block g. -/
structure Oth (g : Nat) (w0 wr : World) : Prop where
  os : wr.os = w0.os
  tape : wr.tape = w0.tape
  output : wr.output = w0.output
  size : wr.heap.size = w0.heap.size
  block : ∀ b, b ≠ g → wr.heap[b]? = w0.heap[b]?

theorem Oth.refl (g : Nat) (w : World) : Oth g w w := ⟨rfl, rfl, rfl, rfl, fun _ _ => rfl⟩
theorem Oth.set {g : Nat} {w0 wr : World} (h : Oth g w0 wr) (j : Nat) (u : Value) : Oth g w0 (wr.setCell ⟨g, j, none⟩ u) :=
  ⟨h.os, h.tape, h.output, by rw [← h.size]; simp [World.setCell], fun b hb => by rw [Below.heap_setCell _ _ _ _ hb]; exact h.block b hb⟩
theorem Oth.drewN {g : Nat} {w0 wr : World} (h : Oth g w0 wr) (n : Nat) : Oth g w0 (wr.drewN n) := ⟨h.os, h.tape, h.output, h.size, h.block⟩
theorem Oth.drew {g : Nat} {w0 wr : World} (h : Oth g w0 wr) : Oth g w0 wr.drew := ⟨h.os, h.tape, h.output, h.size, h.block⟩
theorem Oth.cell {g : Nat} {w0 wr : World} (h : Oth g w0 wr) {a : Addr} (ha : a.block ≠ g) : wr.cell? a = w0.cell? a := World.cell?_of_block (w := w0) (h.block _ ha)
theorem Oth.st {g : Nat} {w0 wr : World} (h : Oth g w0 wr) {b : Nat} {x y : Value} (hs : St w0 b x y) (hb : b ≠ g) : St wr b x y := by
  unfold St; rw [h.block b hb]; exact hs
theorem Oth.below {g B : Nat} {w0 wr w : World} (h : Oth g w0 wr) (hb : Below B w w0) (hg : B ≤ g) : Below B w wr :=
  hb.trans ⟨h.os, h.tape, h.output, by rw [h.size]; exact Nat.le_refl _, fun b hb => h.block b (by omega)⟩
theorem Ob.drewN {w : World} {g : Nat} {zs : List Nat} (h : Ob w g zs) (n : Nat) : Ob (w.drewN n) g zs := h
theorem Ob.drew {w : World} {g : Nat} {zs : List Nat} (h : Ob w g zs) : Ob w.drew g zs := h

theorem Rd.lt_block {w : World} {b off : Nat} {zs : List Nat} (h : Rd w (some ⟨b, off, none⟩) zs) (hz : zs ≠ []) : b < w.heap.size := by
  obtain ⟨b', off', e, hc⟩ := h.pl hz
  simp only [Option.some.injEq, Addr.mk.injEq, and_true] at e
  obtain ⟨rfl, rfl⟩ := e
  have h1 := hc 0 (List.length_pos_iff.2 hz)
  simp only [World.cell?] at h1
  rcases Nat.lt_or_ge b w.heap.size with h | h
  · exact h
  · exfalso
    rw [Array.getElem?_eq_none h] at h1
    simp at h1

theorem okP_facts {n m : Int} {xs ys : List Nat} (h : okP n m xs ys = true) : 0 ≤ n ∧ n ≤ 4096 ∧ xs.length = ((n + 31) / 32).toNat := by
  simp only [okP, okR, Bool.and_eq_true, decide_eq_true_eq, beq_iff_eq] at h
  obtain ⟨⟨⟨_, _, h1, _⟩, _, _, h2, _⟩, rfl⟩ := h
  omega

theorem opL_yes {f : Nat → Nat → Nat} {n m : Int} {xs ys : List Nat} (h : okP n m xs ys = true) : opL f n m xs ys = List.zipWith f xs ys := by unfold opL; rw [if_pos h]
theorem opL_no {f : Nat → Nat → Nat} {n m : Int} {xs ys : List Nat} (h : okP n m xs ys = false) : opL f n m xs ys = [] := by unfold opL; rw [h]; rfl
theorem zip_lt {f : Nat → Nat → Nat} {xs ys : List Nat} (hf : ∀ x y, x < 18446744073709551616 → y < 18446744073709551616 → f x y < 18446744073709551616)
    (hx : ∀ z, z ∈ xs → z < 18446744073709551616) (hy : ∀ z, z ∈ ys → z < 18446744073709551616) : ∀ z, z ∈ List.zipWith f xs ys → z < 18446744073709551616 := by
  intro z hz
  obtain ⟨i, hi, rfl⟩ := List.getElem_of_mem hz
  rw [List.getElem_zipWith]
  exact hf _ _ (hx _ (List.getElem_mem _)) (hy _ (List.getElem_mem _))
end Go.Proofs.Ytiikkbofcccjfaa
