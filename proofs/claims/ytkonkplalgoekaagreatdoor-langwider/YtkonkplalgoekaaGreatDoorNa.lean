/-
  Expressions laid in memory.
-/
import Derived.Test.YtkonkplalgoekaaGreatDoorBq
import Derived.Test.YtkonkplalgoekaaGreatDoorGp
namespace Go.Proofs.YtkonkplalgoekaaGreatDoor
open Go.RowKit
set_option maxRecDepth 100000

/-! ## Expressions in memory -/
mutual
/-- These seven cells are the expression, its parts in memory, in blocks of which A holds. -/
inductive ExW (w : World) (A : Nat → Prop) : Ex → List Value → Prop
  | mk {op : Int} {name tail : List UInt8} {ty p q : Int} {xs : List Ex} {pos : Nat} {ao : Option Addr} {c : Nat} : ElW w A ao xs →
      ExW w A (.mk op name tail ty p q xs pos) [.int .i64 op, .string (bs name), .string (bs tail), .int .i64 ty, .complex .f64 (fl p) (fl q), .slice ao xs.length c, .int .i64 pos]
/-- At this place lie these expressions. -/
inductive ElW (w : World) (A : Nat → Prop) : Option Addr → List Ex → Prop
  | nil {ao : Option Addr} : ElW w A ao []
  | cons {b off : Nat} {x : Ex} {vs : List Value} {xs : List Ex} : A b → w.rangeAt b off vs → ExW w A x vs → ElW w A (some ⟨b, off + 7, none⟩) xs → ElW w A (some ⟨b, off, none⟩) (x :: xs)
end
/-- In blocks from B on. -/
abbrev ExV (w : World) (B : Nat) : Ex → List Value → Prop := ExW w fun b => B ≤ b
abbrev ElV (w : World) (B : Nat) : Option Addr → List Ex → Prop := ElW w fun b => B ≤ b

theorem ExW.len {w : World} {A : Nat → Prop} {e : Ex} {vs : List Value} (h : ExW w A e vs) : vs.length = 7 := by cases h; rfl
theorem ExW.one {w : World} {A : Nat → Prop} {e : Ex} {vs : List Value} (h : ExW w A e vs) : ∀ v ∈ vs, v.oneCell' = true := by
  cases h
  intro v hv
  simp only [List.mem_cons, List.not_mem_nil, or_false] at hv
  rcases hv with rfl | rfl | rfl | rfl | rfl | rfl | rfl <;> rfl

theorem range_keep {w w' : World} {b o : Nat} {vs : List Value} (h : w.rangeAt b o vs) (hv : vs ≠ []) (hb : b < w.heap.size → w'.heap[b]? = w.heap[b]?) : w'.rangeAt b o vs := by
  intro j v hj
  have hl : b < w.heap.size := by
    cases vs with
    | nil => exact absurd rfl hv
    | cons x xs => exact cell_lt (h 0 x rfl)
  rw [show w'.cell? ⟨b, o + j, none⟩ = w.cell? ⟨b, o + j, none⟩ from World.cell?_of_block (w := w) (hb hl)]
  exact h j v hj

mutual
theorem ExW.keep {w w' : World} {A : Nat → Prop} (hb : ∀ b, A b → b < w.heap.size → w'.heap[b]? = w.heap[b]?) : ∀ {e : Ex} {vs : List Value}, ExW w A e vs → ExW w' A e vs
  | .mk _ _ _ _ _ _ _ _, _, h => by
    cases h with
    | mk h => exact .mk (h.keep hb)
theorem ElW.keep {w w' : World} {A : Nat → Prop} (hb : ∀ b, A b → b < w.heap.size → w'.heap[b]? = w.heap[b]?) : ∀ {ao : Option Addr} {xs : List Ex}, ElW w A ao xs → ElW w' A ao xs
  | _, [], _ => .nil
  | _, _ :: _, h => by
    cases h with
    | cons h1 h2 h3 h4 => exact .cons h1 (range_keep h2 (by intro e; have := h3.len; rw [e] at this; cases this) (hb _ h1)) (h3.keep hb) (h4.keep hb)
end
theorem range_lt {w : World} {b o : Nat} {vs : List Value} (h : w.rangeAt b o vs) (hl : vs.length = 7) : b < w.heap.size := by
  cases vs with
  | nil => cases hl
  | cons x xs => exact cell_lt (h 0 x rfl)

mutual
/-- Every block of it is there. -/
theorem ExW.imp {w : World} {A A' : Nat → Prop} (hb : ∀ b, A b → b < w.heap.size → A' b) : ∀ {e : Ex} {vs : List Value}, ExW w A e vs → ExW w A' e vs
  | .mk _ _ _ _ _ _ _ _, _, h => by
    cases h with
    | mk h => exact .mk (h.imp hb)
theorem ElW.imp {w : World} {A A' : Nat → Prop} (hb : ∀ b, A b → b < w.heap.size → A' b) : ∀ {ao : Option Addr} {xs : List Ex}, ElW w A ao xs → ElW w A' ao xs
  | _, [], _ => .nil
  | _, _ :: _, h => by
    cases h with
    | cons h1 h2 h3 h4 => exact .cons (hb _ h1 (range_lt h2 h3.len)) h2 (h3.imp hb) (h4.imp hb)
end
theorem ExW.mono {w : World} {B B' : Nat} (hb : B' ≤ B) {e : Ex} {vs : List Value} (h : ExV w B e vs) : ExV w B' e vs := h.imp fun _ h _ => Nat.le_trans hb h

theorem ExW.but {w w' : World} {B R : Nat} {e : Ex} {vs : List Value} (h : ExV w B e vs) (hU : But R w w') (hR : R < B) : ExV w' B e vs := h.keep fun b hb hl => hU.block b hl (by omega)
theorem ExW.oth {w w' : World} {B g : Nat} {e : Ex} {vs : List Value} (h : ExV w B e vs) (hU : Oth g w w') (hg : g < B) : ExV w' B e vs := h.keep fun b hb _ => hU.block b (by omega)
theorem ElW.but {w w' : World} {B R : Nat} {ao : Option Addr} {xs : List Ex} (h : ElV w B ao xs) (hU : But R w w') (hR : R < B) : ElV w' B ao xs := h.keep fun b hb hl => hU.block b hl (by omega)

/-- An expression as a value, its parts in blocks from B on. -/
def exV (B : Nat) (w : World) (e : Ex) (v : Value) : Prop := ∃ vs, v = .agg vs.toArray ∧ ExV w B e vs
def elV (B : Nat) (w : World) (xs : List Ex) (v : Value) : Prop := ∃ ao c, v = .slice ao xs.length c ∧ ElV w B ao xs

theorem list7 {vs : List Value} (h : vs.length = 7) : ∃ a b c d e f g, vs = [a, b, c, d, e, f, g] := by
  match vs, h with
  | [a, b, c, d, e, f, g], _ => exact ⟨a, b, c, d, e, f, g, rfl⟩
theorem Bk.seven {w : World} {b : Nat} {t : TypeId} {x0 x1 x2 x3 x4 x5 x6 : Value} (h : Bk w b t [x0, x1, x2, x3, x4, x5, x6]) : w.cell? ⟨b, 0, none⟩ = some x0 ∧ w.cell? ⟨b, 1, none⟩ = some x1 ∧ w.cell? ⟨b, 2, none⟩ = some x2 ∧ w.cell? ⟨b, 3, none⟩ = some x3 ∧
    w.cell? ⟨b, 4, none⟩ = some x4 ∧ w.cell? ⟨b, 5, none⟩ = some x5 ∧ w.cell? ⟨b, 6, none⟩ = some x6 :=
  ⟨h.cell 0, h.cell 1, h.cell 2, h.cell 3, h.cell 4, h.cell 5, h.cell 6⟩
end Go.Proofs.YtkonkplalgoekaaGreatDoor
