/-
  The walk of ValueLine.
-/
import Derived.Test.YtbgggbkmnfppoaaGreatDoorVy
import Derived.Test.YtbgggbkmnfppoaaGreatDoorVu
namespace Go.Proofs.YtbgggbkmnfppoaaGreatDoor
open Go.RowKit
set_option maxRecDepth 100000

/-- What a slice of bytes reads. -/
structure Bd (w : World) (ao : Option Addr) (l : List UInt8) : Prop where
  pl : l ≠ [] → ∃ b off, ao = some ⟨b, off, none⟩ ∧ ∀ t, t < l.length → w.cell? ⟨b, off + t, none⟩ = some (.int .u8 ((l.getD t 0).toNat : Int))
theorem Bd.up {w w' : World} {ao : Option Addr} {l : List UInt8} (h : Bd w ao l) (hb : Below w.heap.size w w') : Bd w' ao l := by
  refine ⟨fun hn => ?_⟩
  obtain ⟨b, off, e, hc⟩ := h.pl hn
  exact ⟨b, off, e, fun t ht => (hb.cell (cell_lt (hc t ht))).trans (hc t ht)⟩

/-- A law's value in a row: where its list lies, its room, the value. -/
abbrev Qi := Option Addr × Nat × Qv
def qi0 : Qi := (none, 0, ⟨0, ⟨0, 0, false⟩, false, []⟩)
/-- Six cells that are a law's value, and its list. -/
structure Q7 (w : World) (b o : Nat) (i : Qi) : Prop where
  c0 : w.cell? ⟨b, o, none⟩ = some (.int .i64 i.2.2.t)
  c1 : w.cell? ⟨b, o + 1, none⟩ = some (.int .i64 i.2.2.z.x)
  c2 : w.cell? ⟨b, o + 2, none⟩ = some (.int .i64 i.2.2.z.y)
  c3 : w.cell? ⟨b, o + 3, none⟩ = some (.bool i.2.2.z.r)
  c4 : w.cell? ⟨b, o + 4, none⟩ = some (.bool i.2.2.b)
  c5 : w.cell? ⟨b, o + 5, none⟩ = some (.slice i.1 i.2.2.l.length i.2.1)
  nr : Nr w i.1 i.2.2.l
theorem Q7.lt {w : World} {b o : Nat} {i : Qi} (h : Q7 w b o i) : b < w.heap.size := cell_lt h.c0
theorem Q7.up {w w' : World} {b o : Nat} {i : Qi} (h : Q7 w b o i) (hb : Below w.heap.size w w') : Q7 w' b o i :=
  ⟨(hb.cell h.lt).trans h.c0, (hb.cell h.lt).trans h.c1, (hb.cell h.lt).trans h.c2, (hb.cell h.lt).trans h.c3, (hb.cell h.lt).trans h.c4, (hb.cell h.lt).trans h.c5, h.nr.up hb⟩
/-- What a slice of a law's values reads. -/
structure Qs (w : World) (ao : Option Addr) (l : List Qi) : Prop where
  pl : l ≠ [] → ∃ b off, ao = some ⟨b, off, none⟩ ∧ ∀ t, t < l.length → Q7 w b (off + t * 6) (l.getD t qi0)
theorem Qs.up {w w' : World} {ao : Option Addr} {l : List Qi} (h : Qs w ao l) (hb : Below w.heap.size w w') : Qs w' ao l := by
  refine ⟨fun hn => ?_⟩
  obtain ⟨b, off, e, hc⟩ := h.pl hn
  exact ⟨b, off, e, fun t ht => (hc t ht).up hb⟩

/-- A line of values' texts, each behind blanks: read back from any place. -/
def lineOf : List (Nat × Vl) → List UInt8
  | [] => []
  | (n, v) :: r => List.replicate n 32 ++ (txV v ++ lineOf r)
theorem spl_rep (n : Nat) (r : List UInt8) : spl rdG (List.replicate n 32 ++ r) = spl rdG r := by
  induction n with
  | zero => rfl
  | succ n ih => rw [List.replicate_succ, List.cons_append, spl_blank, ih]
theorem stays_rep {n : Nat} (h : 0 < n) (r : List UInt8) : stays (List.replicate n 32 ++ r) = false := by
  cases n with
  | zero => omega
  | succ n => simp [List.replicate_succ, stays]
theorem stays_line {l : List (Nat × Vl)} (h : ∀ i ∈ l, 0 < i.1) : stays (lineOf l ++ [32, 32]) = false := by
  cases l with
  | nil => simp [lineOf, stays]
  | cons i r =>
    obtain ⟨n, v⟩ := i
    simp only [lineOf, List.append_assoc]
    exact stays_rep (h (n, v) (by simp)) _
theorem spl_line : ∀ {l : List (Nat × Vl)}, (∀ i ∈ l, 0 < i.1 ∧ okV i.2) → spl rdG (lineOf l ++ [32, 32]) = some (l.map (·.2)) := by
  intro l
  induction l with
  | nil => intro _; simp only [lineOf, List.nil_append]; rw [spl_blank, spl_blank, spl_nil rfl]; rfl
  | cons i r ih =>
    intro h
    obtain ⟨n, v⟩ := i
    have h0 := h (n, v) (by simp)
    have hr := ih (fun j hj => h j (by simp [hj]))
    simp only [lineOf, List.append_assoc]
    rw [spl_rep, spl_txV rdG_rdr h0.2 _ (stays_line fun j hj => (h j (by simp [hj])).1), hr]
    rfl
theorem lineOf_snoc (l : List (Nat × Vl)) (n : Nat) (v : Vl) : lineOf (l ++ [(n, v)]) = lineOf l ++ List.replicate n 32 ++ txV v := by
  induction l with
  | nil => simp [lineOf]
  | cons i r ih =>
    obtain ⟨m, u⟩ := i
    simp only [List.cons_append, lineOf, ih]
    simp
end Go.Proofs.YtbgggbkmnfppoaaGreatDoor
