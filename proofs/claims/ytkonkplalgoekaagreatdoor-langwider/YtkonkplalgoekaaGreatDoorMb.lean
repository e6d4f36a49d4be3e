/-
  The walks of inRun; the document's letters, digits; a text of bytes in memory.
-/
import Derived.Test.YtkonkplalgoekaaGreatDoorMa
namespace Go.Proofs.YtkonkplalgoekaaGreatDoor
open Go.RowKit
set_option maxRecDepth 100000

set_option maxHeartbeats 400000 in
theorem refdigit_any (c : UInt8) (w : World) :
    Calls Tryz.prog 49 #[.int .u8 c.toNat] w fun e w' => e = .returned (.bool (isDg c)) ∧ w' = w := by
  rw [isDg_eq]
  generalize c.toNat = n
  go_enter Tryz.func49, Tryz.ntmps49
  go_wp2
  all_goals go_ret
  all_goals exact ⟨ret_bool (by rw [Bool.eq_iff_iff]; simp; omega), rfl⟩

set_option maxHeartbeats 400000 in
theorem refletter_any (c : UInt8) (w : World) :
    Calls Tryz.prog 74 #[.int .u8 c.toNat] w fun e w' => e = .returned (.bool (isLt c)) ∧ w' = w := by
  rw [isLt_eq]
  generalize c.toNat = n
  go_enter Tryz.func74, Tryz.ntmps74
  go_wp2
  all_goals go_ret
  all_goals exact ⟨ret_bool (by rw [Bool.eq_iff_iff]; simp; omega), rfl⟩

set_option maxHeartbeats 400000 in
theorem inRun_any (c : UInt8) (w : World) :
    Calls Tryz.prog 23 #[.int .u8 c.toNat] w fun e w' => e = .returned (.bool (inRn c)) ∧ w' = w := by
  have h1 := isLetter_any c w
  have h2 := isDigit_any c w
  unfold inRn
  have h3 : (c == 95) = ((c.toNat : Int) == 95) := by rw [Bool.eq_iff_iff]; simp [← UInt8.toNat_inj]; omega
  rw [h3]
  clear h3
  generalize c.toNat = n at *
  generalize isLt c = x at *
  generalize isDg c = y at *
  go_enter Tryz.func23, Tryz.ntmps23
  cases x <;> cases y
  all_goals
    go_wp2_with (first
      | (go_at_call 31; refine h1.mono ?_; rintro e w' ⟨rfl, rfl⟩)
      | (go_at_call 32; refine h2.mono ?_; rintro e w' ⟨rfl, rfl⟩))
  all_goals go_ret
  all_goals exact ⟨ret_bool (by simp), rfl⟩

/-- What a slice of bytes reads: the bytes, and where they lie. -/
structure Bd (w : World) (ao : Option Addr) (l : List UInt8) : Prop where
  pl : l ≠ [] → ∃ b off, ao = some ⟨b, off, none⟩ ∧ ∀ t, t < l.length → w.cell? ⟨b, off + t, none⟩ = some (.int .u8 ((l.getD t 0).toNat : Int))

theorem Bd.nil (w : World) (ao : Option Addr) : Bd w ao [] := ⟨fun h => absurd rfl h⟩

theorem cell_lt {w : World} {b o : Nat} {v : Value} (h : w.cell? ⟨b, o, none⟩ = some v) : b < w.heap.size := by
  simp only [World.cell?] at h
  rcases Nat.lt_or_ge b w.heap.size with k | k
  · exact k
  · exfalso
    rw [Array.getElem?_eq_none k] at h
    simp at h

theorem Bd.up {w w' : World} {ao : Option Addr} {l : List UInt8} (h : Bd w ao l) (hb : Below w.heap.size w w') : Bd w' ao l := by
  refine ⟨fun hn => ?_⟩
  obtain ⟨b, off, e, hc⟩ := h.pl hn
  refine ⟨b, off, e, fun t ht => ?_⟩
  have h1 := hc t ht
  rw [← h1]
  exact hb.cell (cell_lt h1)

theorem Bd.to {w w' : World} {ao : Option Addr} {l : List UInt8} {B : Nat} (h : Bd w ao l) (hl : l ≠ [] → ∀ b off, ao = some ⟨b, off, none⟩ → b < B) (hb : Below B w w') : Bd w' ao l := by
  refine ⟨fun hn => ?_⟩
  obtain ⟨b, off, e, hc⟩ := h.pl hn
  refine ⟨b, off, e, fun t ht => ?_⟩
  rw [← hc t ht]
  exact hb.cell (hl hn b off e)

theorem Bd.low {w : World} {ao : Option Addr} {l : List UInt8} (h : Bd w ao l) : l ≠ [] → ∀ b off, ao = some ⟨b, off, none⟩ → b < w.heap.size := by
  intro hn b off e
  obtain ⟨b', off', e', hc⟩ := h.pl hn
  rw [e] at e'
  simp only [Option.some.injEq, Addr.mk.injEq, and_true] at e'
  obtain ⟨rfl, rfl⟩ := e'
  exact cell_lt (hc 0 (List.length_pos_iff.2 hn))
end Go.Proofs.YtkonkplalgoekaaGreatDoor
