/-
  3 texts in one: what each proves stands at its head.
-/
import Derived.Test.YtnpigleolifcaaaUA
import Derived.Test.YtnpigleolifcaaaUB
import Derived.WalkMore
import Derived.Test.YtnpigleolifcaaaUD
import Derived.Test.YtnpigleolifcaaaRx
import Derived.Lib.TrimU
import Derived.Deep.MidRow
/-
  The walks of the small functions over bytes: blanks, letters, digits, runs: of marks and of the document's answer.
-/
namespace Go.Proofs.Ytnpigleolifcaaa
open Go.RowKit
set_option maxRecDepth 100000

theorem isBl_eq (c : UInt8) : isBl c = decide (c.toNat = 9 ∨ c.toNat = 10 ∨ c.toNat = 13 ∨ c.toNat = 32) := by
  rw [Bool.eq_iff_iff]; simp [isBl, ← UInt8.toNat_inj, or_assoc]
theorem isLt_eq (c : UInt8) : isLt c = decide ((65 ≤ c.toNat ∧ c.toNat ≤ 90) ∨ (97 ≤ c.toNat ∧ c.toNat ≤ 122)) := by
  rw [Bool.eq_iff_iff]; simp [isLt, UInt8.le_iff_toNat_le]
theorem isDg_eq (c : UInt8) : isDg c = decide (48 ≤ c.toNat ∧ c.toNat ≤ 57) := by
  rw [Bool.eq_iff_iff]; simp [isDg, UInt8.le_iff_toNat_le]
theorem inRn_eq (c : UInt8) : inRn c = decide (((65 ≤ c.toNat ∧ c.toNat ≤ 90) ∨ (97 ≤ c.toNat ∧ c.toNat ≤ 122)) ∨ (48 ≤ c.toNat ∧ c.toNat ≤ 57) ∨ c.toNat = 95) := by
  rw [Bool.eq_iff_iff]; simp [inRn, isLt_eq, isDg_eq, ← UInt8.toNat_inj, or_assoc]

set_option maxHeartbeats 400000 in
theorem refBlank_any (c : UInt8) (w : World) :
    Calls Try.prog 39 #[.int .u8 c.toNat] w fun e w' => e = .returned (.bool (isBl c)) ∧ w' = w := by
  rw [isBl_eq]
  generalize c.toNat = n
  go_enter Try.func39, Try.ntmps39
  go_wp2
  all_goals go_ret
  all_goals exact ⟨ret_bool (by rw [Bool.eq_iff_iff]; simp; omega), rfl⟩

end Go.Proofs.Ytnpigleolifcaaa
/-
  The walks of inRun; the document's letters, digits; a text of bytes in memory.
-/
namespace Go.Proofs.Ytnpigleolifcaaa
open Go.RowKit
set_option maxRecDepth 100000

set_option maxHeartbeats 400000 in
theorem refdigit_any (c : UInt8) (w : World) :
    Calls Try.prog 60 #[.int .u8 c.toNat] w fun e w' => e = .returned (.bool (isDg c)) ∧ w' = w := by
  rw [isDg_eq]
  generalize c.toNat = n
  go_enter Try.func60, Try.ntmps60
  go_wp2
  all_goals go_ret
  all_goals exact ⟨ret_bool (by rw [Bool.eq_iff_iff]; simp; omega), rfl⟩

set_option maxHeartbeats 400000 in
theorem refletter_any (c : UInt8) (w : World) :
    Calls Try.prog 76 #[.int .u8 c.toNat] w fun e w' => e = .returned (.bool (isLt c)) ∧ w' = w := by
  rw [isLt_eq]
  generalize c.toNat = n
  go_enter Try.func76, Try.ntmps76
  go_wp2
  all_goals go_ret
  all_goals exact ⟨ret_bool (by rw [Bool.eq_iff_iff]; simp; omega), rfl⟩

/-- What a slice of bytes reads: the bytes, and where they lie. -/
structure Bd (w : World) (ao : Option Addr) (l : List UInt8) : Prop where
  pl : l ≠ [] → ∃ b off, ao = some ⟨b, off, none⟩ ∧ ∀ t, t < l.length → w.cell? ⟨b, off + t, none⟩ = some (.int .u8 ((l.getD t 0).toNat : Int))

theorem Bd.nil (w : World) (ao : Option Addr) : Bd w ao [] := ⟨fun h => absurd rfl h⟩

theorem cell_lt {w : World} {b o : Nat} {v : Value} (h : w.cell? ⟨b, o, none⟩ = some v) : b < w.heap.size := by
  simp only [World.cell?] at h
  rcases Nat.lt_or_ge b w.heap.size with k | k
  · exact k
  · exfalso
    rw [Array.getElem?_eq_none k] at h
    simp at h

theorem Bd.up {w w' : World} {ao : Option Addr} {l : List UInt8} (h : Bd w ao l) (hb : Below w.heap.size w w') : Bd w' ao l := by
  refine ⟨fun hn => ?_⟩
  obtain ⟨b, off, e, hc⟩ := h.pl hn
  refine ⟨b, off, e, fun t ht => ?_⟩
  have h1 := hc t ht
  rw [← h1]
  exact hb.cell (cell_lt h1)

theorem Bd.to {w w' : World} {ao : Option Addr} {l : List UInt8} {B : Nat} (h : Bd w ao l) (hl : l ≠ [] → ∀ b off, ao = some ⟨b, off, none⟩ → b < B) (hb : Below B w w') : Bd w' ao l := by
  refine ⟨fun hn => ?_⟩
  obtain ⟨b, off, e, hc⟩ := h.pl hn
  refine ⟨b, off, e, fun t ht => ?_⟩
  rw [← hc t ht]
  exact hb.cell (hl hn b off e)

end Go.Proofs.Ytnpigleolifcaaa
/-
  The tables of marks in memory; the walk of Reserved.
-/
namespace Go.Proofs.Ytnpigleolifcaaa
open Go.RowKit
set_option maxRecDepth 100000

def strV (l : List UInt8) : Value := .string (bs l)

end Go.Proofs.Ytnpigleolifcaaa
