/-
  The document's way of reading a value, plainly: it comes to the same.
-/
import Derived.Test.YtbgggbkmnfppoaaGreatDoorVb
namespace Go.Proofs.YtbgggbkmnfppoaaGreatDoor
open Go.Lib

/-- The pieces between blanks that are not empty. -/
def wordsP (l : List UInt8) : List (List UInt8) := (splitB l).filter fun x => !x.isEmpty

theorem wordsP_nil : wordsP [] = [] := rfl
theorem wordsP_cut (a r : List UInt8) (ha : ∀ b ∈ a, b ≠ 32) : wordsP (a ++ 32 :: r) = (if a = [] then [] else [a]) ++ wordsP r := by
  unfold wordsP
  rw [splitB_head a ha, List.filter_cons]
  cases a with
  | nil => rfl
  | cons b t => rfl
theorem wordsP_end (a : List UInt8) (ha : ∀ b ∈ a, b ≠ 32) : wordsP a = if a = [] then [] else [a] := by
  unfold wordsP
  rw [splitB_one a ha, List.filter_cons]
  cases a with
  | nil => rfl
  | cons b t => rfl

theorem wordsP_inner (zs : List Zn) : wordsP (inner zs) = zs.map txZ := by
  by_cases h : zs = []
  · rw [h]; rfl
  · unfold wordsP inner
    rw [splitB_jn _ (by simpa using h) (inner_nb zs), List.filter_eq_self]
    intro x hx
    obtain ⟨z, _, rfl⟩ := List.mem_map.1 hx
    cases e : txZ z with
    | nil => exact absurd e (txZ_ne z)
    | cons b r => rfl

/-- What is read between brackets, held against its own text. -/
def prL (rd : List UInt8 → Option Zn) (l : List UInt8) : Option Vl :=
  match plE rd (wordsP ((l.drop 1).take (l.length - 2))) with
  | none => none
  | some zs => if txV (.l zs) = l then some (.l zs) else none

/-- Does it stand in brackets? -/
def brk (l : List UInt8) : Bool := decide (2 ≤ l.length) && (l.getD 0 0 == 91) && (l.getD (l.length - 1) 0 == 93)

theorem pv_brk {rd : List UInt8 → Option Zn} (H : Rdr rd) {l : List UInt8} (h1 : l ≠ tTrue) (h2 : l ≠ tFalse) (h3 : rd l = none) : pvV rd l = if brk l then prL rd l else none := by
  cases hp : pvV rd l with
  | none =>
    symm
    split
    · unfold prL
      cases hq : plE rd (wordsP ((l.drop 1).take (l.length - 2))) with
      | none => rfl
      | some zs =>
        simp only
        rw [if_neg]
        intro e
        have hok := (plE_of H hq).1
        exact pv_none H hp (.l zs) hok e
    · rfl
  | some v =>
    obtain ⟨hv, e⟩ := pv_of H hp
    cases v with
    | n z =>
      exfalso
      rw [← e] at h3
      simp only [txV] at h3
      rw [H.tx z hv] at h3
      cases h3
    | b r =>
      exfalso
      cases r
      · exact h2 e.symm
      · exact h1 e.symm
    | l zs =>
      have hb : brk l = true := by
        rw [← e]
        unfold brk txV
        simp
      rw [if_pos hb]
      unfold prL
      have hin : (l.drop 1).take (l.length - 2) = inner zs := by
        rw [← e]
        unfold txV
        simp
      rw [hin, wordsP_inner, plE_tx H hv]
      simp only
      rw [if_pos e]

theorem pv_first {rd : List UInt8 → Option Zn} (H : Rdr rd) {l : List UInt8} {z : Zn} (h : rd l = some z) : pvV rd l = some (.n z) := by
  obtain ⟨h1, h2⟩ := H.of l z h
  rw [← h2]
  exact pv_txV H (v := .n z) h1
end Go.Proofs.YtbgggbkmnfppoaaGreatDoor
