/-
  8 texts in one: what each proves stands at its head.
-/
import Derived.Test.YtndgglhppoijnaaGreatDoorUH
import Derived.WalkLawsBesides
import Derived.Laws.AppendOwnNone
import Derived.Test.YtndgglhppoijnaaGreatDoorUA
import Derived.RegionTactic
import Derived.Deep.RegionLaw
import Derived.BigQuiet
/-
  Blocks of cells, whatever they hold: whole and in part, read and written; what stays but for one block.
-/
namespace Go.Proofs.YtndgglhppoijnaaGreatDoor
open Go.RowKit
set_option maxRecDepth 100000

/-- Block b holds just these cells. -/
def Bk (w : World) (b : Nat) (t : TypeId) (vs : List Value) : Prop := w.heap[b]? = some (.cells vs.toArray t (0, 0))

theorem Bk.lt {w : World} {b : Nat} {t : TypeId} {vs : List Value} (h : Bk w b t vs) : b < w.heap.size := by
  rcases Nat.lt_or_ge b w.heap.size with k | k
  · exact k
  · unfold Bk at h; rw [Array.getElem?_eq_none k] at h; cases h
theorem Bk.cell {w : World} {b : Nat} {t : TypeId} {vs : List Value} (h : Bk w b t vs) (j : Nat) : w.cell? ⟨b, j, none⟩ = vs[j]? := by
  rw [cell_of_row w b j _ _ _ h]; simp
theorem Bk.frz {w : World} {b : Nat} {t : TypeId} {vs : List Value} (h : Bk w b t vs) (j : Nat) : w.frozen? ⟨b, j, none⟩ = false := frozen_of_row w _ j _ _ h
theorem Bk.new (w : World) (t : TypeId) (vs : Array Value) : Bk (w.alloc (.cells vs t)) w.heap.size t vs.toList := by
  show _ = _
  rw [heap_alloc_new w _]
theorem Bk.up {w w' : World} {b : Nat} {t : TypeId} {vs : List Value} (h : Bk w b t vs) (hb : Below w.heap.size w w') : Bk w' b t vs := by unfold Bk; rw [hb.block b h.lt]; exact h
theorem Bk.alloc {w : World} {b : Nat} {t : TypeId} {vs : List Value} (h : Bk w b t vs) (o : Obj) : Bk (w.alloc o) b t vs := h.up (below_alloc _ _)
theorem Bk.oth {w w' : World} {b g : Nat} {t : TypeId} {vs : List Value} (h : Bk w b t vs) (ho : Oth g w w') (hb : b ≠ g) : Bk w' b t vs := by unfold Bk; rw [ho.block b hb]; exact h
theorem Bk.set {w : World} {b : Nat} {t : TypeId} {vs : List Value} (h : Bk w b t vs) (j : Nat) (v : Value) : Bk (w.setCell ⟨b, j, none⟩ v) b t (vs.set j v) := by
  unfold Bk
  rw [heap_setCell_same w b j _ _ _ h]
  simp
theorem Bk.there {w : World} {b : Nat} {t : TypeId} {vs : List Value} (h : Bk w b t vs) (o n : Nat) (hn : o + n ≤ vs.length) : w.there b o n := by
  intro j hj
  refine ⟨?_, h.frz _⟩
  rw [h.cell, List.getElem?_eq_getElem (by omega)]
  rfl
theorem Bk.range {w : World} {b : Nat} {t : TypeId} {vs : List Value} (h : Bk w b t vs) (o n : Nat) : w.rangeAt b o ((vs.drop o).take n) := by
  intro j v hv
  rw [h.cell]
  have hj := (List.getElem?_eq_some_iff.1 hv).1
  rw [List.getElem?_take, List.getElem?_drop] at hv
  split at hv
  · exact hv
  · cases hv

/-- A row written over a part of another. -/
def over (vs : List Value) (o : Nat) : List Value → List Value
  | [] => vs
  | x :: xs => over (vs.set o x) (o + 1) xs

theorem over_len (xs : List Value) : ∀ (vs : List Value) (o : Nat), (over vs o xs).length = vs.length := by
  induction xs with
  | nil => intro vs o; rfl
  | cons x xs ih => intro vs o; rw [over, ih]; simp

theorem Bk.sets {b : Nat} {t : TypeId} (xs : List Value) : ∀ {w : World} {vs : List Value} (_ : Bk w b t vs) (o : Nat), Bk (w.setCells b o xs) b t (over vs o xs) ∧ Oth b w (w.setCells b o xs) := by
  induction xs with
  | nil => intro w vs h o; exact ⟨h, Oth.refl _ _⟩
  | cons x xs ih =>
    intro w vs h o
    obtain ⟨h1, h2⟩ := ih (h.set o x) (o + 1)
    refine ⟨h1, ?_⟩
    have h3 := (Oth.refl b w).set o x
    exact ⟨h2.os.trans h3.os, h2.tape.trans h3.tape, h2.output.trans h3.output, h2.size.trans h3.size, fun k hk => (h2.block k hk).trans (h3.block k hk)⟩

/-- A struct stored into a block. -/
theorem wpList_storeN {ops : Array Oper} {rest : List Oper} {op : Oper} {a : Act} {w : World} {Q : Exit → Act → World → Prop} (hgd : op.guard = none) (ty : TypeId) (x y : Operand) (ho : op.op = .store ty x y)
    (b o : Nat) (xs : List Value) (hx : a.eval x = .pointer (some ⟨b, o, none⟩)) (hy : a.eval y = .agg xs.toArray) {t : TypeId} {vs : List Value} (hS : Bk w b t vs) (hl : o + xs.length ≤ vs.length)
    (hi : (Tryz.prog.info? ty).map (·.size) = some xs.length) (h1 : ∀ v ∈ xs, v.oneCell' = true)
    (h : ∀ w', Bk w' b t (over vs o xs) → Oth b w w' → wpList Tryz.prog ops Q rest (a.put op.dst undef) w') : wpList Tryz.prog ops Q (op :: rest) a w := by
  refine wpList_store_mid hgd ty x y ho b o xs.toArray hx hy (by simpa using hS.there o xs.length hl) (by simpa using hi) (all_oneCell_toArray h1) ?_
  obtain ⟨h2, h3⟩ := hS.sets xs o
  exact h _ h2 h3

/-- A struct loaded out of memory. -/
theorem wpList_loadN {ops : Array Oper} {rest : List Oper} {op : Oper} {a : Act} {w : World} {Q : Exit → Act → World → Prop} (hgd : op.guard = none) (ty : TypeId) (x : Operand) (ho : op.op = .load ty x)
    (b o : Nat) (hx : a.eval x = .pointer (some ⟨b, o, none⟩)) (xs : List Value) (fs : Array Field) (hS : w.rangeAt b o xs) (hu : Tryz.prog.underlying ty = some (.struct fs)) (hi : (Tryz.prog.info? ty).map (·.size) = some xs.length)
    (h : wpList Tryz.prog ops Q rest (a.put op.dst (.agg xs.toArray)) w) : wpList Tryz.prog ops Q (op :: rest) a w :=
  wpList_load_mid hgd ty x ho b o hx xs _ hS hu rfl hi h

/-- All that was there is as it was, but for block R. -/
structure But (R : Nat) (w w' : World) : Prop where
  os : w'.os = w.os
  tape : w'.tape = w.tape
  output : w'.output = w.output
  size : w.heap.size ≤ w'.heap.size
  block : ∀ k, k < w.heap.size → k ≠ R → w'.heap[k]? = w.heap[k]?

theorem But.refl (R : Nat) (w : World) : But R w w := ⟨rfl, rfl, rfl, Nat.le_refl _, fun _ _ _ => rfl⟩
theorem But.trans {R : Nat} {a b c : World} (h : But R a b) (k : But R b c) : But R a c :=
  ⟨k.os.trans h.os, k.tape.trans h.tape, k.output.trans h.output, Nat.le_trans h.size k.size, fun i hi hn => (k.block i (Nat.lt_of_lt_of_le hi h.size) hn).trans (h.block i hi hn)⟩
theorem bel_but {w w' : World} (h : Below w.heap.size w w') (R : Nat) : But R w w' := ⟨h.os, h.tape, h.output, h.size, fun k hk _ => h.block k hk⟩
theorem But.then {R : Nat} {a b c : World} (h : But R a b) (k : Below b.heap.size b c) : But R a c := h.trans (bel_but k R)
theorem Oth.but {R g : Nat} {a b c : World} (h : Oth g b c) (k : But R a b) (hg : a.heap.size ≤ g) : But R a c :=
  ⟨h.os.trans k.os, h.tape.trans k.tape, h.output.trans k.output, by rw [h.size]; exact k.size, fun i hi hn => (h.block i (by omega)).trans (k.block i hi hn)⟩
theorem But.setR {R j : Nat} {a b : World} (h : But R a b) (v : Value) : But R a (b.setCell ⟨R, j, none⟩ v) :=
  ⟨h.os, h.tape, h.output, by simpa [World.setCell] using h.size, fun i hi hn => by rw [Below.heap_setCell _ _ _ _ hn]; exact h.block i hi hn⟩
theorem But.drew {R : Nat} {a b : World} (h : But R a b) : But R a b.drew := ⟨h.os, h.tape, h.output, h.size, h.block⟩
theorem But.drewN {R : Nat} {a b : World} (h : But R a b) (q : Nat) : But R a (b.drewN q) := ⟨h.os, h.tape, h.output, h.size, h.block⟩
theorem But.below {R B : Nat} {a b : World} (h : But R a b) (hB : B ≤ R) (hs : B ≤ a.heap.size) : Below B a b := ⟨h.os, h.tape, h.output, h.size, fun k hk => h.block k (by omega) (by omega)⟩
theorem Bk.but {w w' : World} {b R : Nat} {t : TypeId} {vs : List Value} (h : Bk w b t vs) (hb : But R w w') (hn : b ≠ R) : Bk w' b t vs := by unfold Bk; rw [hb.block b h.lt hn]; exact h
theorem M4.but {w w' : World} {b o R : Nat} {m : Mk} (h : M4 w b o m) (hb : But R w w') (hn : b ≠ R) : M4 w' b o m := by
  have e : ∀ j, w'.cell? ⟨b, j, none⟩ = w.cell? ⟨b, j, none⟩ := fun j => World.cell?_of_block (w := w) (hb.block b h.lt hn)
  exact ⟨(e _).trans h.1, (e _).trans h.2.1, (e _).trans h.2.2.1, (e _).trans h.2.2.2⟩
theorem range_but {w w' : World} {b o R : Nat} {vs : List Value} (h : w.rangeAt b o vs) (hv : vs ≠ []) (hb : But R w w') (hn : b ≠ R) : w'.rangeAt b o vs := by
  intro j v hj
  have hl : b < w.heap.size := by
    cases vs with
    | nil => exact absurd rfl hv
    | cons x xs => exact cell_lt (h 0 x rfl)
  rw [show w'.cell? ⟨b, o + j, none⟩ = w.cell? ⟨b, o + j, none⟩ from World.cell?_of_block (w := w) (hb.block b hl hn)]
  exact h j v hj

end Go.Proofs.YtndgglhppoijnaaGreatDoor
/-
  Expressions laid in memory.
-/
namespace Go.Proofs.YtndgglhppoijnaaGreatDoor
open Go.RowKit
set_option maxRecDepth 100000

/-! ## Expressions in memory -/
mutual
/-- These seven cells are the expression, its parts in memory, in blocks of which A holds. -/
inductive ExW (w : World) (A : Nat → Prop) : Ex → List Value → Prop
  | mk {op : Int} {name tail : List UInt8} {ty p q : Int} {xs : List Ex} {pos : Nat} {ao : Option Addr} {c : Nat} : ElW w A ao xs →
      ExW w A (.mk op name tail ty p q xs pos) [.int .i64 op, .string (bs name), .string (bs tail), .int .i64 ty, .complex .f64 (fl p) (fl q), .slice ao xs.length c, .int .i64 pos]
/-- At this place lie these expressions. -/
inductive ElW (w : World) (A : Nat → Prop) : Option Addr → List Ex → Prop
  | nil {ao : Option Addr} : ElW w A ao []
  | cons {b off : Nat} {x : Ex} {vs : List Value} {xs : List Ex} : A b → w.rangeAt b off vs → ExW w A x vs → ElW w A (some ⟨b, off + 7, none⟩) xs → ElW w A (some ⟨b, off, none⟩) (x :: xs)
end
/-- In blocks from B on. -/
abbrev ExV (w : World) (B : Nat) : Ex → List Value → Prop := ExW w fun b => B ≤ b
abbrev ElV (w : World) (B : Nat) : Option Addr → List Ex → Prop := ElW w fun b => B ≤ b

theorem ExW.len {w : World} {A : Nat → Prop} {e : Ex} {vs : List Value} (h : ExW w A e vs) : vs.length = 7 := by cases h; rfl
theorem ExW.one {w : World} {A : Nat → Prop} {e : Ex} {vs : List Value} (h : ExW w A e vs) : ∀ v ∈ vs, v.oneCell' = true := by
  cases h
  intro v hv
  simp only [List.mem_cons, List.not_mem_nil, or_false] at hv
  rcases hv with rfl | rfl | rfl | rfl | rfl | rfl | rfl <;> rfl

theorem range_keep {w w' : World} {b o : Nat} {vs : List Value} (h : w.rangeAt b o vs) (hv : vs ≠ []) (hb : b < w.heap.size → w'.heap[b]? = w.heap[b]?) : w'.rangeAt b o vs := by
  intro j v hj
  have hl : b < w.heap.size := by
    cases vs with
    | nil => exact absurd rfl hv
    | cons x xs => exact cell_lt (h 0 x rfl)
  rw [show w'.cell? ⟨b, o + j, none⟩ = w.cell? ⟨b, o + j, none⟩ from World.cell?_of_block (w := w) (hb hl)]
  exact h j v hj

mutual
theorem ExW.keep {w w' : World} {A : Nat → Prop} (hb : ∀ b, A b → b < w.heap.size → w'.heap[b]? = w.heap[b]?) : ∀ {e : Ex} {vs : List Value}, ExW w A e vs → ExW w' A e vs
  | .mk _ _ _ _ _ _ _ _, _, h => by
    cases h with
    | mk h => exact .mk (h.keep hb)
theorem ElW.keep {w w' : World} {A : Nat → Prop} (hb : ∀ b, A b → b < w.heap.size → w'.heap[b]? = w.heap[b]?) : ∀ {ao : Option Addr} {xs : List Ex}, ElW w A ao xs → ElW w' A ao xs
  | _, [], _ => .nil
  | _, _ :: _, h => by
    cases h with
    | cons h1 h2 h3 h4 => exact .cons h1 (range_keep h2 (by intro e; have := h3.len; rw [e] at this; cases this) (hb _ h1)) (h3.keep hb) (h4.keep hb)
end
theorem range_lt {w : World} {b o : Nat} {vs : List Value} (h : w.rangeAt b o vs) (hl : vs.length = 7) : b < w.heap.size := by
  cases vs with
  | nil => cases hl
  | cons x xs => exact cell_lt (h 0 x rfl)

mutual
/-- Every block of it is there. -/
theorem ExW.imp {w : World} {A A' : Nat → Prop} (hb : ∀ b, A b → b < w.heap.size → A' b) : ∀ {e : Ex} {vs : List Value}, ExW w A e vs → ExW w A' e vs
  | .mk _ _ _ _ _ _ _ _, _, h => by
    cases h with
    | mk h => exact .mk (h.imp hb)
theorem ElW.imp {w : World} {A A' : Nat → Prop} (hb : ∀ b, A b → b < w.heap.size → A' b) : ∀ {ao : Option Addr} {xs : List Ex}, ElW w A ao xs → ElW w A' ao xs
  | _, [], _ => .nil
  | _, _ :: _, h => by
    cases h with
    | cons h1 h2 h3 h4 => exact .cons (hb _ h1 (range_lt h2 h3.len)) h2 (h3.imp hb) (h4.imp hb)
end
theorem ExW.mono {w : World} {B B' : Nat} (hb : B' ≤ B) {e : Ex} {vs : List Value} (h : ExV w B e vs) : ExV w B' e vs := h.imp fun _ h _ => Nat.le_trans hb h

theorem ExW.but {w w' : World} {B R : Nat} {e : Ex} {vs : List Value} (h : ExV w B e vs) (hU : But R w w') (hR : R < B) : ExV w' B e vs := h.keep fun b hb hl => hU.block b hl (by omega)
theorem ExW.oth {w w' : World} {B g : Nat} {e : Ex} {vs : List Value} (h : ExV w B e vs) (hU : Oth g w w') (hg : g < B) : ExV w' B e vs := h.keep fun b hb _ => hU.block b (by omega)
theorem ElW.but {w w' : World} {B R : Nat} {ao : Option Addr} {xs : List Ex} (h : ElV w B ao xs) (hU : But R w w') (hR : R < B) : ElV w' B ao xs := h.keep fun b hb hl => hU.block b hl (by omega)

/-- An expression as a value, its parts in blocks from B on. -/
def exV (B : Nat) (w : World) (e : Ex) (v : Value) : Prop := ∃ vs, v = .agg vs.toArray ∧ ExV w B e vs
def elV (B : Nat) (w : World) (xs : List Ex) (v : Value) : Prop := ∃ ao c, v = .slice ao xs.length c ∧ ElV w B ao xs

theorem list7 {vs : List Value} (h : vs.length = 7) : ∃ a b c d e f g, vs = [a, b, c, d, e, f, g] := by
  match vs, h with
  | [a, b, c, d, e, f, g], _ => exact ⟨a, b, c, d, e, f, g, rfl⟩
theorem Bk.seven {w : World} {b : Nat} {t : TypeId} {x0 x1 x2 x3 x4 x5 x6 : Value} (h : Bk w b t [x0, x1, x2, x3, x4, x5, x6]) : w.cell? ⟨b, 0, none⟩ = some x0 ∧ w.cell? ⟨b, 1, none⟩ = some x1 ∧ w.cell? ⟨b, 2, none⟩ = some x2 ∧ w.cell? ⟨b, 3, none⟩ = some x3 ∧
    w.cell? ⟨b, 4, none⟩ = some x4 ∧ w.cell? ⟨b, 5, none⟩ = some x5 ∧ w.cell? ⟨b, 6, none⟩ = some x6 :=
  ⟨h.cell 0, h.cell 1, h.cell 2, h.cell 3, h.cell 4, h.cell 5, h.cell 6⟩
end Go.Proofs.YtndgglhppoijnaaGreatDoor
/-
  The reader in memory; the walks of next, take, giveUp, stands, pass, must, name, nameOf, typeWord.
-/
namespace Go.Proofs.YtndgglhppoijnaaGreatDoor
open Go.RowKit
set_option maxRecDepth 100000

/-- What a reader reads: where its marks lie, how many, which; its limits. -/
structure Rdi where
  b : Nat
  off : Nat
  cap : Nat
  n : Nat
  M : Nat → Mk
  lt : Int
  lf : Int
  la : Int
  ln : Int

/-- The reader lies in block R, at the mark k, d binders deep. -/
structure Rdr (I : Rdi) (w : World) (R k d : Nat) : Prop where
  blk : Bk w R 64 [.slice (some ⟨I.b, I.off, none⟩) I.n I.cap, .int .i64 k, .int .i64 I.lt, .int .i64 I.lf, .int .i64 I.la, .int .i64 I.ln, .int .i64 d]
  ms : ∀ t, t < I.n → M4 w I.b (I.off + t * 4) (I.M t)
  ne : I.b ≠ R
  kn : k < I.n
  dS : (d : Int) ≤ 9223372036854775807
  lnS : I.ln ≤ 9223372036854775807
  small : I.n ≤ 2000000

theorem Rdr.up {I : Rdi} {w w' : World} {R k d : Nat} (h : Rdr I w R k d) (hb : Below w.heap.size w w') : Rdr I w' R k d :=
  ⟨h.blk.up hb, fun t ht => (h.ms t ht).but (bel_but hb R) h.ne, h.ne, h.kn, h.dS, h.lnS, h.small⟩
theorem Rdr.oth {I : Rdi} {w w' : World} {R k d g : Nat} (h : Rdr I w R k d) (ho : Oth g w w') (hR : R < g) (hb : I.b < g) : Rdr I w' R k d := by
  refine ⟨h.blk.oth ho (by omega), fun t ht => ?_, h.ne, h.kn, h.dS, h.lnS, h.small⟩
  obtain ⟨m1, m2, m3, m4⟩ := h.ms t ht
  exact ⟨(ho.cell (by show I.b ≠ g; omega)).trans m1, (ho.cell (by show I.b ≠ g; omega)).trans m2, (ho.cell (by show I.b ≠ g; omega)).trans m3, (ho.cell (by show I.b ≠ g; omega)).trans m4⟩
theorem Rdr.lt {I : Rdi} {w : World} {R k d : Nat} (h : Rdr I w R k d) : R < w.heap.size ∧ I.b < w.heap.size := ⟨h.blk.lt, (h.ms k h.kn).lt⟩
/-- The place moved on. -/
theorem Rdr.go {I : Rdi} {w : World} {R k d : Nat} (h : Rdr I w R k d) (j : Nat) (hj : j < I.n) : Rdr I (w.setCell ⟨R, 1, none⟩ (.int .i64 j)) R j d := by
  refine ⟨h.blk.set 1 _, fun t ht => ?_, h.ne, hj, h.dS, h.lnS, h.small⟩
  exact (h.ms t ht).but ((But.refl R w).setR _) h.ne
/-- The nesting turned. -/
theorem Rdr.nest {I : Rdi} {w : World} {R k d : Nat} (h : Rdr I w R k d) (e : Nat) (he : (e : Int) ≤ 9223372036854775807) : Rdr I (w.setCell ⟨R, 6, none⟩ (.int .i64 e)) R k e := by
  refine ⟨h.blk.set 6 _, fun t ht => ?_, h.ne, h.kn, he, h.lnS, h.small⟩
  exact (h.ms t ht).but ((But.refl R w).setR _) h.ne

/-- A struct stored, as a step of a region that draws its order. -/
theorem step_storeN {ops : Array Oper} {o : Oper} {a : Act} {w : World} {K : Act → World → Prop} {Q : Exit → Act → World → Prop} {E : Prop} (hgd : o.guard = none) (ty : TypeId) (x y : Operand) (ho : o.op = .store ty x y)
    (b f : Nat) (xs : List Value) (hx : a.eval x = .pointer (some ⟨b, f, none⟩)) (hy : a.eval y = .agg xs.toArray) {t : TypeId} {vs : List Value} (hS : Bk w b t vs) (hl : f + xs.length ≤ vs.length)
    (hi : (Tryz.prog.info? ty).map (·.size) = some xs.length) (h1 : ∀ v ∈ xs, v.oneCell' = true)
    (h : ∀ w', Bk w' b t (over vs f xs) → Oth b w w' → K (a.put o.dst undef) w') : if Region.wanted o (yielded ops a.tmps) = true then Oper.wp Tryz.prog o a w K Q else E := by
  have hw : Region.wanted o (yielded ops a.tmps) = true := by simp [Region.wanted, hgd]
  rw [if_pos hw]
  refine wp_store_mid ty x y ho b f xs.toArray hx hy (by simpa using hS.there f xs.length hl) (by simpa using hi) (all_oneCell_toArray h1) ?_
  obtain ⟨h2, h3⟩ := hS.sets xs f
  exact h _ h2 h3

/-- A struct loaded, as a step of a region that draws its order. -/
theorem step_loadN {ops : Array Oper} {o : Oper} {a : Act} {w : World} {K : Act → World → Prop} {Q : Exit → Act → World → Prop} {E : Prop} (hgd : o.guard = none) (ty : TypeId) (x : Operand) (ho : o.op = .load ty x)
    (b f : Nat) (hx : a.eval x = .pointer (some ⟨b, f, none⟩)) (xs : List Value) (d : TypeDesc) (hS : w.rangeAt b f xs) (hu : Tryz.prog.underlying ty = some d) (hd : d.isRow = true) (hi : (Tryz.prog.info? ty).map (·.size) = some xs.length)
    (h : K (a.put o.dst (.agg xs.toArray)) w) : if Region.wanted o (yielded ops a.tmps) = true then Oper.wp Tryz.prog o a w K Q else E := by
  have hw : Region.wanted o (yielded ops a.tmps) = true := by simp [Region.wanted, hgd]
  rw [if_pos hw]
  exact wp_load_mid ty x ho b f hx xs d hS hu hd hi h

theorem mkC_one (m : Mk) : ∀ v ∈ mkC m, v.oneCell' = true := by
  intro v hv
  simp only [mkC, List.mem_cons, List.not_mem_nil, or_false] at hv
  rcases hv with rfl | rfl | rfl | rfl <;> rfl
theorem M4.range {w : World} {b o : Nat} {m : Mk} (h : M4 w b o m) : w.rangeAt b o (mkC m) := by
  obtain ⟨h1, h2, h3, h4⟩ := h
  intro j v hv
  match j, hv with
  | 0, hv => cases hv; exact h1
  | 1, hv => cases hv; exact h2
  | 2, hv => cases hv; exact h3
  | 3, hv => cases hv; exact h4

theorem store_cx (W : World) (a : Addr) (x y : Nat) : (store a (.complex .f64 x y)).run Tryz.prog W = match W.cell? a with
      | some _ => if W.frozen? a then .halt (.unsupported (.unsafePointer "a write to bytes that a string shares")) W else .ok () (W.setCell a (.complex .f64 x y))
      | none => match W.farStore Tryz.prog a (.complex .f64 x y) (Mode.plain == .atomic) with
        | .ok (w', _) => .ok () w'
        | .error h => .halt h W := run_store Tryz.prog W a (.complex .f64 x y) .plain rfl

set_option maxHeartbeats 1000000 in
theorem next_any (I : Rdi) (w : World) (R k d : Nat) (h : Rdr I w R k d) :
    Calls Tryz.prog 33 #[.pointer (some ⟨R, 0, none⟩)] w fun e w' => e = .returned (mkV (I.M k)) ∧ Below w.heap.size w w' := by
  have h2 := h.up (below_alloc w (.cells #[.int .i64 0, .string ⟨#[]⟩, .complex .f64 0 0, .int .i64 0] 85))
  have c0 := h2.blk.cell 0
  have c1 := h2.blk.cell 1
  simp only [List.getElem?_cons_zero, List.getElem?_cons_succ] at c0 c1
  obtain ⟨m1, m2, m3, m4⟩ := h2.ms k h.kn
  have hn := h.kn
  have hs := h.small
  have hcx := store_cx
  clear h h2
  go_enter Tryz.func33, Tryz.ntmps33
  go_wp2
  go_region
  go_wp2
  refine bodyPost_ret (v := mkV (I.M k)) (by simp [results, Tryz.results33, go_sem, mkV]) rfl ⟨rfl, (below_alloc _ _).drew⟩

/-- A struct of four cells, read cell by cell. -/
theorem Bk.four {w : World} {b : Nat} {t : TypeId} {x y z u : Value} (h : Bk w b t [x, y, z, u]) : w.cell? ⟨b, 0, none⟩ = some x ∧ w.cell? ⟨b, 1, none⟩ = some y ∧ w.cell? ⟨b, 2, none⟩ = some z ∧ w.cell? ⟨b, 3, none⟩ = some u :=
  ⟨h.cell 0, h.cell 1, h.cell 2, h.cell 3⟩
theorem over4 (a b c d : Value) (m : Mk) : over [a, b, c, d] 0 (mkC m) = mkC m := rfl

abbrev mz : Array Value := #[.int .i64 0, .string ⟨#[]⟩, .complex .f64 0 0, .int .i64 0]

theorem w64k (k : Nat) (h : k ≤ 2000000) : wrap64 ((k : Int) + 1) = ((k + 1 : Nat) : Int) := by simp only [wrap64]; omega

set_option maxHeartbeats 1000000 in
theorem take_any (I : Rdi) (w : World) (R k d : Nat) (h : Rdr I w R k d) (hk : k + 1 < I.n) :
    Calls Tryz.prog 103 #[.pointer (some ⟨R, 0, none⟩)] w fun e w' => e = .returned (mkV (I.M k)) ∧ Rdr I w' R (k + 1) d ∧ But R w w' := by
  have hB0 := Bk.new w 85 mz
  have h1 := h.up (below_alloc w (.cells mz 85))
  have hlt := h.lt
  have hw := w64k k (by have := h.small; omega)
  go_enter Tryz.func103, Tryz.ntmps103
  go_wp2_with (first
    | (go_at_call 33; refine (next_any I _ R k d h1).mono ?_; rintro e w1 ⟨rfl, hb1⟩; have h2 := h1.up hb1; have hB1 := hB0.up hb1; have hL := Bk.new w1 85 mz; have h3 := h2.up (below_alloc w1 (.cells mz 85)); have hB2 := hB1.alloc (.cells mz 85); have hs1 := hb1.size; have hl1 := hB1.lt; have hU := But.then (bel_but (Below.thn (below_alloc w (.cells mz 85)) hb1) R) (below_alloc w1 (.cells mz 85)); clear hb1)
    | (refine wpList_storeN rfl 85 (.tmp 3) (.tmp 5) rfl w1.heap.size 0 (mkC (I.M k)) rfl rfl hL (Nat.le_refl 4) Tryz.infoM (mkC_one _) ?_; intro w2 hL2 ho2; have h4 := h3.oth ho2 (by have := h2.lt; omega) (by have := h2.lt; omega); have hB3 := hB2.oth ho2 (by omega); have hU2 := ho2.but hU (by have := (below_alloc w (.cells mz 85)).size; omega); have c1 := h4.blk.cell 1; have f1 := h4.blk.frz 1; simp only [List.getElem?_cons_zero, List.getElem?_cons_succ] at c1; have h5 := h4.go (k + 1) hk; have hB4 := hB3.but ((But.refl R w2).setR (j := 1) (.int .i64 ((k + 1 : Nat) : Int))) (by omega); have hL3 := hL2.but ((But.refl R w2).setR (j := 1) (.int .i64 ((k + 1 : Nat) : Int))) (by have := h2.lt; omega); have hU3 := hU2.setR (j := 1) (.int .i64 ((k + 1 : Nat) : Int)))
    | refine wpList_loadN rfl 85 (.tmp 3) rfl w1.heap.size 0 rfl (mkC (I.M k)) _ (hL3.range 0 4) Tryz.underM Tryz.infoM ?_
    | (refine wpList_storeN rfl 85 (.tmp 2) (.tmp 13) rfl w.heap.size 0 (mkC (I.M k)) rfl rfl hB4 (Nat.le_refl 4) Tryz.infoM (mkC_one _) ?_; intro w4 hB5 ho4; have h6 := h5.oth ho4 (by omega) (by omega); have hU4 := ho4.but hU3 (Nat.le_refl _); obtain ⟨q0, q1, q2, q3⟩ := Bk.four (show Bk w4 w.heap.size _ [_, _, _, _] from hB5)))
  refine bodyPost_ret (v := mkV (I.M k)) (by simp [results, Tryz.results103, go_sem, mkV, q0, q1, q2, q3]) rfl ⟨rfl, h6, hU4⟩
end Go.Proofs.YtndgglhppoijnaaGreatDoor
/-
  What a reading answers; the walks of stands, giveUp, pass, must, name, nameOf, typeWord, enter, leave.
-/
namespace Go.Proofs.YtndgglhppoijnaaGreatDoor
open Go.RowKit
set_option maxRecDepth 100000

def gaveUp (I : Rdi) (y : Int) (k : Nat) : Ending := .panicked [{ v := .iface 32 (.agg #[.int .i64 y, .int .i64 (I.M k).at_]), recovered := false }]

/-- What a reading answers: a value, the reader moved on; or it gives up. -/
def Ans (I : Rdi) (R d : Nat) (w : World) {α : Type} (V : World → α → Value → Prop) (r : Rs α) (e : Ending) (w' : World) : Prop :=
  But R w w' ∧ match r with
  | .ok a k => (∃ v, e = .returned v ∧ V w' a v) ∧ Rdr I w' R k d
  | .bad y k => e = gaveUp I y k
  | .out => True

theorem bind_ne {α β : Type} {r : Rs β} {q : Rs α} {g : α → Nat → Rs β} (h : Hid (r = q.bind g)) (hr : r ≠ .out) : q ≠ .out := by
  intro e
  rw [show r = _ from h, e] at hr
  exact hr rfl
theorem bind_ok {α β : Type} {r : Rs β} {q : Rs α} {g : α → Nat → Rs β} {a : α} {k : Nat} (h : Hid (r = q.bind g)) (hq : q = .ok a k) : Hid (r = g a k) := by
  show r = _
  rw [show r = _ from h, hq]
  rfl
theorem bind_bad {α β : Type} {r : Rs β} {q : Rs α} {g : α → Nat → Rs β} {y : Int} {k : Nat} (h : Hid (r = q.bind g)) (hq : q = .bad y k) : Hid (r = .bad y k) := by
  show r = _
  rw [show r = _ from h, hq]
  rfl

theorem ans_bad {I : Rdi} {R d : Nat} {w w' : World} {α : Type} {V : World → α → Value → Prop} {r : Rs α} {y : Int} {k : Nat} {e : Ending} (h : Hid (r = .bad y k)) (hU : But R w w') (he : e = gaveUp I y k) : Ans I R d w V r e w' := by
  rw [show r = _ from h]
  exact ⟨hU, he⟩
theorem ans_ok {I : Rdi} {R d : Nat} {w w' : World} {α : Type} {V : World → α → Value → Prop} {r : Rs α} {a : α} {k : Nat} {v : Value} (h : Hid (r = .ok a k)) (hU : But R w w') (hv : V w' a v) (hr : Rdr I w' R k d) : Ans I R d w V r (.returned v) w' := by
  rw [show r = _ from h]
  exact ⟨hU, ⟨v, rfl, hv⟩, hr⟩

theorem tk_eq (I : Rdi) (s : List UInt8) (k : Nat) : ((bs (I.M k).text).toList == (bs s).toList) = tk I.M s k := by rw [bs_toList, bs_toList]; rfl

/-- A field of a mark that is a value. -/
theorem fld (j : Nat) (k t n a v : Value) (h : [k, t, n, a][j]? = some v) (W : World) : (Instr.field 85 (.agg #[k, t, n, a]) j).run Tryz.prog W = .ok v W := by
  unfold Instr.field
  rw [Sem.run_bind, run_underlying (show Tryz.prog.underlying 85 = some (.struct (Tryz.prog.underlying 85 |>.map (fun | .struct f => f | _ => #[]) |>.getD #[])) by kernel_rfl) W]
  match j, h with
  | 0, h => cases h; rfl
  | 1, h => cases h; rfl
  | 2, h => cases h; rfl
  | 3, h => cases h; rfl

set_option maxHeartbeats 1000000 in
theorem stands_any (I : Rdi) (s : List UInt8) (w : World) (R k d : Nat) (h : Rdr I w R k d) :
    Calls Tryz.prog 104 #[.pointer (some ⟨R, 0, none⟩), .string (bs s)] w fun e w' => e = .returned (.bool (tk I.M s k)) ∧ Below w.heap.size w w' := by
  have ht := tk_eq I s k
  have hf := fun W => fld 1 (.int .i64 (I.M k).kind) (.string (bs (I.M k).text)) (.complex .f64 (fl (I.M k).p) (fl (I.M k).q)) (.int .i64 (I.M k).at_) _ rfl W
  go_enter Tryz.func104, Tryz.ntmps104
  go_wp2_with (go_at_call 33; refine (next_any I _ R k d h).mono ?_; rintro e w1 ⟨rfl, hb1⟩; unfold mkV)
  go_ret
  exact ⟨rfl, hb1⟩

set_option maxHeartbeats 1000000 in
theorem giveUp_any (I : Rdi) (y : Int) (w : World) (R k d : Nat) (h : Rdr I w R k d) :
    Calls Tryz.prog 71 #[.pointer (some ⟨R, 0, none⟩), .int .i64 y] w fun e w' => e = gaveUp I y k ∧ Below w.heap.size w w' := by
  have hf := fun W => fld 3 (.int .i64 (I.M k).kind) (.string (bs (I.M k).text)) (.complex .f64 (fl (I.M k).p) (fl (I.M k).q)) (.int .i64 (I.M k).at_) _ rfl W
  go_enter Tryz.func71, Tryz.ntmps71
  go_wp2_with (go_at_call 33; refine (next_any I _ R k d h).mono ?_; rintro e w1 ⟨rfl, hb1⟩; unfold mkV)
  exact ⟨rfl, rfl, hb1⟩

set_option maxHeartbeats 1000000 in
theorem pass_yes (I : Rdi) (s : List UInt8) (w : World) (R k d : Nat) (h : Rdr I w R k d) (ht : tk I.M s k = true) (hk : k + 1 < I.n) :
    Calls Tryz.prog 73 #[.pointer (some ⟨R, 0, none⟩), .string (bs s)] w fun e w' => e = .returned (.bool true) ∧ Rdr I w' R (k + 1) d ∧ But R w w' := by
  have hs := stands_any I s w R k d h
  rw [ht] at hs
  clear ht
  go_enter Tryz.func73, Tryz.ntmps73
  go_wp2_with (first
    | (go_at_call 104; refine hs.mono ?_; rintro e w1 ⟨rfl, hb1⟩)
    | (go_at_call 103; refine (take_any I w1 R k d (h.up hb1) hk).mono ?_; rintro e w2 ⟨rfl, h2, hU⟩))
  go_ret
  exact ⟨rfl, h2, (bel_but hb1 R).trans hU⟩

set_option maxHeartbeats 1000000 in
theorem pass_no (I : Rdi) (s : List UInt8) (w : World) (R k d : Nat) (h : Rdr I w R k d) (ht : tk I.M s k = false) :
    Calls Tryz.prog 73 #[.pointer (some ⟨R, 0, none⟩), .string (bs s)] w fun e w' => e = .returned (.bool false) ∧ Below w.heap.size w w' := by
  have hs := stands_any I s w R k d h
  rw [ht] at hs
  clear ht
  go_enter Tryz.func73, Tryz.ntmps73
  go_wp2_with (go_at_call 104; refine hs.mono ?_; rintro e w1 ⟨rfl, hb1⟩)
  go_ret
  exact ⟨rfl, hb1⟩

set_option maxHeartbeats 1000000 in
theorem must_any (I : Rdi) (hE : Ends I.M I.n) (s : List UInt8) (hs : s ≠ []) (w : World) (R k d : Nat) (h : Rdr I w R k d) :
    Calls Tryz.prog 49 #[.pointer (some ⟨R, 0, none⟩), .string (bs s)] w fun e w' => Ans I R d w (fun _ _ v => v = .tuple #[]) (mustP I.M s k) e w' := by
  cases ht : tk I.M s k with
  | true =>
    have HR : Hid (mustP I.M s k = .ok () (k + 1)) := by show _ = _; unfold mustP; rw [if_pos ht]
    generalize mustP I.M s k = r at *
    have hp := pass_yes I s w R k d h ht (hE.tk I.M ht hs h.kn)
    clear ht
    go_enter Tryz.func49, Tryz.ntmps49
    go_wp2_with (go_at_call 73; refine hp.mono ?_; rintro e w1 ⟨rfl, h1, hU⟩)
    go_end0
    exact ans_ok HR hU rfl h1
  | false =>
    have HR : Hid (mustP I.M s k = .bad 21 k) := by show _ = _; unfold mustP; rw [if_neg (by rw [ht]; simp)]
    generalize mustP I.M s k = r at *
    have hp := pass_no I s w R k d h ht
    clear ht
    go_enter Tryz.func49, Tryz.ntmps49
    go_wp2_with (first
      | (go_at_call 73; refine hp.mono ?_; rintro e w1 ⟨rfl, hb1⟩)
      | (go_at_call 71; refine (giveUp_any I 21 w1 R k d (h.up hb1)).mono ?_; rintro e w2 ⟨rfl, hb2⟩; unfold gaveUp))
    exact ⟨rfl, ans_bad HR (bel_but (Below.thn hb1 hb2) R) rfl⟩
end Go.Proofs.YtndgglhppoijnaaGreatDoor
/-
  The walks of name, nameOf, typeWord, enter, leave.
-/
namespace Go.Proofs.YtndgglhppoijnaaGreatDoor
open Go.RowKit
set_option maxRecDepth 100000

theorem fldM (m : Mk) (W : World) : (Instr.field 85 (.agg #[.int .i64 m.kind, .string (bs m.text), .complex .f64 (fl m.p) (fl m.q), .int .i64 m.at_]) 0).run Tryz.prog W = .ok (.int .i64 m.kind) W ∧
    (Instr.field 85 (.agg #[.int .i64 m.kind, .string (bs m.text), .complex .f64 (fl m.p) (fl m.q), .int .i64 m.at_]) 1).run Tryz.prog W = .ok (.string (bs m.text)) W ∧
    (Instr.field 85 (.agg #[.int .i64 m.kind, .string (bs m.text), .complex .f64 (fl m.p) (fl m.q), .int .i64 m.at_]) 2).run Tryz.prog W = .ok (.complex .f64 (fl m.p) (fl m.q)) W ∧
    (Instr.field 85 (.agg #[.int .i64 m.kind, .string (bs m.text), .complex .f64 (fl m.p) (fl m.q), .int .i64 m.at_]) 3).run Tryz.prog W = .ok (.int .i64 m.at_) W :=
  ⟨fld 0 _ _ _ _ _ rfl W, fld 1 _ _ _ _ _ rfl W, fld 2 _ _ _ _ _ rfl W, fld 3 _ _ _ _ _ rfl W⟩

theorem Rdr.drewN {I : Rdi} {w : World} {R k d : Nat} (h : Rdr I w R k d) (q : Nat) : Rdr I (w.drewN q) R k d := h.up ⟨rfl, rfl, rfl, Nat.le_refl _, fun _ _ => rfl⟩
theorem Bk.drewN {w : World} {b : Nat} {t : TypeId} {vs : List Value} (h : Bk w b t vs) (q : Nat) : Bk (w.drewN q) b t vs := h

def isV (_ : World) (m : Mk) (v : Value) : Prop := v = mkV m
def isT (_ : World) (t : Int) (v : Value) : Prop := v = .int .i64 t

set_option maxHeartbeats 1000000 in
theorem name_any (I : Rdi) (hE : Ends I.M I.n) (w : World) (R k d : Nat) (h : Rdr I w R k d) :
    Calls Tryz.prog 72 #[.pointer (some ⟨R, 0, none⟩)] w fun e w' => Ans I R d w isV (nameP I.M k) e w' := by
  have hB0 := Bk.new w 85 mz
  have h1 := h.up (below_alloc w (.cells mz 85))
  have hlt := h.lt
  have hf := fun W => (fldM (I.M k) W).1
  by_cases hkd : (I.M k).kind = 0
  · have HR : Hid (nameP I.M k = .ok (I.M k) (k + 1)) := by show _ = _; unfold nameP; rw [if_pos hkd]
    generalize nameP I.M k = r at *
    have hkn := hE.kd I.M hkd (by decide) h.kn
    have hkb : ((I.M k).kind != 0) = false := by simp [hkd]
    clear hkd
    go_enter Tryz.func72, Tryz.ntmps72
    go_wp2_with (first
      | (go_at_call 33; refine (next_any I _ R k d h1).mono ?_; rintro e w1 ⟨rfl, hb1⟩; unfold mkV; have h2 := h1.up hb1; have hB1 := hB0.up hb1; have hU := bel_but (Below.thn (below_alloc w (.cells mz 85)) hb1) R; clear hb1)
      | (go_at_call 103; refine (take_any I w1 R k d h2 hkn).mono ?_; rintro e w2 ⟨rfl, h3, hU2⟩; have hB2 := hB1.but hU2 (by omega); have hU3 := hU.trans hU2)
      | (refine wpList_storeN rfl 85 (.tmp 2) (.tmp 10) rfl w.heap.size 0 (mkC (I.M k)) rfl rfl hB2 (Nat.le_refl 4) Tryz.infoM (mkC_one _) ?_; intro w4 hB5 ho4; have h6 := h3.oth ho4 (by omega) (by omega); have hU4 := ho4.but hU3 (Nat.le_refl _); obtain ⟨q0, q1, q2, q3⟩ := Bk.four (show Bk w4 w.heap.size _ [_, _, _, _] from hB5)))
    refine bodyPost_ret (v := mkV (I.M k)) (by simp [results, Tryz.results72, go_sem, mkV, q0, q1, q2, q3]) rfl (ans_ok HR hU4 rfl h6)
  · have HR : Hid (nameP I.M k = .bad 21 k) := by show _ = _; unfold nameP; rw [if_neg hkd]
    generalize nameP I.M k = r at *
    have hkb : ((I.M k).kind != 0) = true := by simp [hkd]
    clear hkd
    go_enter Tryz.func72, Tryz.ntmps72
    go_wp2_with (first
      | (go_at_call 33; refine (next_any I _ R k d h1).mono ?_; rintro e w1 ⟨rfl, hb1⟩; unfold mkV; have h2 := h1.up hb1)
      | (go_at_call 71; refine (giveUp_any I 21 w1 R k d h2).mono ?_; rintro e w2 ⟨rfl, hb2⟩; unfold gaveUp))
    exact ⟨rfl, ans_bad HR (bel_but (Below.thn (Below.thn (below_alloc w (.cells mz 85)) hb1) hb2) R) rfl⟩

set_option maxHeartbeats 1000000 in
theorem nameOf_any (I : Rdi) (hE : Ends I.M I.n) (num : Nat) (most : Int) (w : World) (R k d : Nat) (h : Rdr I w R k d) :
    Calls Tryz.prog 47 #[.pointer (some ⟨R, 0, none⟩), .int .i64 ((num + 1 : Nat) : Int), .int .i64 most] w fun e w' => Ans I R d w isV (nameOfP I.M num most k) e w' := by
  have hB0 := Bk.new w 85 mz
  have h1 := h.up (below_alloc w (.cells mz 85))
  have hlt := h.lt
  have hf := fun W => (fldM (I.M k) W).1
  by_cases hc : most ≤ num ∧ (I.M k).kind = 0
  · have HR : Hid (nameOfP I.M num most k = .bad 22 k) := by show _ = _; unfold nameOfP; rw [if_pos hc]
    generalize nameOfP I.M num most k = r at *
    have hm : most < ((num + 1 : Nat) : Int) := by omega
    have hkb : ((I.M k).kind == 0) = true := by simp [hc.2]
    clear hc
    go_enter Tryz.func47, Tryz.ntmps47
    go_wp2_with (first
      | (go_at_call 33; refine (next_any I _ R k d h1).mono ?_; rintro e w1 ⟨rfl, hb1⟩; unfold mkV; have h2 := h1.up hb1)
      | (go_at_call 71; refine (giveUp_any I 22 w1 R k d h2).mono ?_; rintro e w2 ⟨rfl, hb2⟩; unfold gaveUp))
    exact ⟨rfl, ans_bad HR (bel_but (Below.thn (Below.thn (below_alloc w (.cells mz 85)) hb1) hb2) R) rfl⟩
  · have HR : Hid (nameOfP I.M num most k = nameP I.M k) := by show _ = _; unfold nameOfP; rw [if_neg hc]
    generalize nameOfP I.M num most k = r at *
    by_cases hm : most ≤ num
    · have hm' : most < ((num + 1 : Nat) : Int) := by omega
      have hkb : ((I.M k).kind == 0) = false := by simp; exact fun e => hc ⟨hm, e⟩
      clear hc hm
      go_enter Tryz.func47, Tryz.ntmps47
      go_wp2_with (go_at_call 33; refine (next_any I _ R k d h1).mono ?_; rintro e w1 ⟨rfl, hb1⟩; unfold mkV; have h2 := h1.up hb1; have hB1 := hB0.up hb1; have hU := bel_but (Below.thn (below_alloc w (.cells mz 85)) hb1) R; clear hb1)
      refine (name_any I hE w1 R k d h2).mono ?_
      rintro e w2 ⟨hU2, ha⟩
      cases hq : nameP I.M k with
      | out => unfold nameP at hq; split at hq <;> cases hq
      | bad y j =>
        rw [hq] at ha HR
        rw [show e = _ from ha]
        clear ha
        unfold gaveUp
        go_wp2
        exact ⟨rfl, ans_bad HR (hU.trans hU2) rfl⟩
      | ok m j =>
        rw [hq] at ha HR
        obtain ⟨⟨v, rfl, hv⟩, h3⟩ := ha
        obtain rfl : v = mkV m := hv
        have hB2 := hB1.but hU2 (by omega)
        have hU3 := hU.trans hU2
        go_wp2_with (refine wpList_storeN rfl 85 (.tmp 6) (.tmp 19) rfl w.heap.size 0 (mkC m) rfl rfl hB2 (Nat.le_refl 4) Tryz.infoM (mkC_one _) ?_; intro w4 hB5 ho4; have h6 := h3.oth ho4 (by omega) (by omega); have hU4 := ho4.but hU3 (Nat.le_refl _); obtain ⟨q0, q1, q2, q3⟩ := Bk.four (show Bk w4 w.heap.size _ [_, _, _, _] from hB5))
        refine bodyPost_ret (v := mkV m) (by simp [results, Tryz.results47, go_sem, mkV, q0, q1, q2, q3]) rfl (ans_ok HR hU4 rfl h6)
    · have hm' : ¬ most < ((num + 1 : Nat) : Int) := by omega
      clear hc hm
      go_enter Tryz.func47, Tryz.ntmps47
      go_wp2_with fail
      have hU := bel_but (below_alloc w (.cells mz 85)) R
      refine (name_any I hE _ R k d h1).mono ?_
      rintro e w2 ⟨hU2, ha⟩
      cases hq : nameP I.M k with
      | out => unfold nameP at hq; split at hq <;> cases hq
      | bad y j =>
        rw [hq] at ha HR
        rw [show e = _ from ha]
        clear ha
        unfold gaveUp
        go_wp2
        exact ⟨rfl, ans_bad HR (hU.trans hU2) rfl⟩
      | ok m j =>
        rw [hq] at ha HR
        obtain ⟨⟨v, rfl, hv⟩, h3⟩ := ha
        obtain rfl : v = mkV m := hv
        have hB2 := hB0.but hU2 (by omega)
        have hU3 := hU.trans hU2
        go_wp2_with (refine wpList_storeN rfl 85 (.tmp 6) (.tmp 19) rfl w.heap.size 0 (mkC m) rfl rfl hB2 (Nat.le_refl 4) Tryz.infoM (mkC_one _) ?_; intro w4 hB5 ho4; have h6 := h3.oth ho4 (by omega) (by omega); have hU4 := ho4.but hU3 (Nat.le_refl _); obtain ⟨q0, q1, q2, q3⟩ := Bk.four (show Bk w4 w.heap.size _ [_, _, _, _] from hB5))
        refine bodyPost_ret (v := mkV m) (by simp [results, Tryz.results47, go_sem, mkV, q0, q1, q2, q3]) rfl (ans_ok HR hU4 rfl h6)

set_option maxHeartbeats 1000000 in
theorem type_any (I : Rdi) (hE : Ends I.M I.n) (w : World) (R k d : Nat) (h : Rdr I w R k d) :
    Calls Tryz.prog 50 #[.pointer (some ⟨R, 0, none⟩)] w fun e w' => Ans I R d w isT (typeP I.M k) e w' := by
  obtain ⟨r, hr⟩ : ∃ r, r = typeP I.M k := ⟨_, rfl⟩
  rw [← hr]
  unfold typeP at hr
  cases t1 : tk I.M [78] k with
  | true =>
    rw [if_pos t1] at hr
    have HR : Hid (r = _) := hr
    have hp := pass_yes I [78] w R k d h t1 (hE.tk I.M t1 (by decide) h.kn)
    clear hr t1
    go_enter Tryz.func50, Tryz.ntmps50
    go_wp2_with (go_at_call 73; refine hp.mono ?_; rintro e w1 ⟨rfl, h1, hU⟩)
    go_ret
    exact ans_ok HR hU rfl h1
  | false =>
    rw [if_neg (by rw [t1]; simp)] at hr
    have hp := pass_no I [78] w R k d h t1
    clear t1
    cases t2 : tk I.M [66] k with
    | true =>
      rw [if_pos t2] at hr
      have HR : Hid (r = _) := hr
      have hkn := hE.tk I.M t2 (by decide) h.kn
      have HT : Hid (tk I.M [66] k = true) := t2
      clear hr t2
      go_enter Tryz.func50, Tryz.ntmps50
      go_wp2_with fail
      refine hp.mono ?_
      rintro e w1 ⟨rfl, hb1⟩
      go_wp2_with fail
      refine (pass_yes I [66] w1 R k d (h.up hb1) HT hkn).mono ?_
      rintro e w2 ⟨rfl, h1, hU⟩
      go_wp2_with fail
      go_ret
      exact ans_ok HR ((bel_but hb1 R).trans hU) rfl h1
    | false =>
      rw [if_neg (by rw [t2]; simp)] at hr
      have HT : Hid (tk I.M [66] k = false) := t2
      have HR : Hid (r = (mustP I.M [76] k).bind fun _ j => .ok 3 j) := by
        show r = _
        rw [hr]
        unfold mustP
        split <;> rfl
      clear hr t2
      go_enter Tryz.func50, Tryz.ntmps50
      go_wp2_with fail
      refine hp.mono ?_
      rintro e w1 ⟨rfl, hb1⟩
      go_wp2_with fail
      refine (pass_no I [66] w1 R k d (h.up hb1) HT).mono ?_
      rintro e w2 ⟨rfl, hb2⟩
      go_wp2_with fail
      refine (must_any I hE [76] (by decide) w2 R k d ((h.up hb1).up hb2)).mono ?_
      rintro e w3 ⟨hU, ha⟩
      cases hq : mustP I.M [76] k with
      | out => unfold mustP at hq; split at hq <;> cases hq
      | bad y j =>
        rw [hq] at ha
        rw [show e = _ from ha]
        have HR := bind_bad HR hq
        clear ha
        unfold gaveUp
        go_wp2
        exact ⟨rfl, ans_bad HR ((bel_but (Below.thn hb1 hb2) R).trans hU) rfl⟩
      | ok m j =>
        rw [hq] at ha
        obtain ⟨⟨v, rfl, hv⟩, h3⟩ := ha
        subst hv
        have HR := bind_ok HR hq
        go_wp2
        go_ret
        exact ans_ok HR ((bel_but (Below.thn hb1 hb2) R).trans hU) rfl h3

set_option maxHeartbeats 1000000 in
theorem enter_no (I : Rdi) (w : World) (R k d : Nat) (h : Rdr I w R k d) (hd : I.ln ≤ d) :
    Calls Tryz.prog 105 #[.pointer (some ⟨R, 0, none⟩)] w fun e w' => e = gaveUp I 23 k ∧ But R w w' := by
  have h1 := h.up (below_alloc w (.cells mz 85))
  have c5 := h1.blk.cell 5
  have c6 := h1.blk.cell 6
  simp only [List.getElem?_cons_zero, List.getElem?_cons_succ] at c5 c6
  have hdd : decide (I.ln ≤ (d : Int)) = true := decide_eq_true hd
  clear hd
  go_enter Tryz.func105, Tryz.ntmps105
  go_wp2
  go_quiet (fail)
  go_wp2_with fail
  refine (giveUp_any I 23 _ R k d (h1.drewN _)).mono ?_
  rintro e w2 ⟨rfl, hb2⟩
  unfold gaveUp
  go_wp2
  exact ⟨rfl, rfl, ((bel_but (below_alloc w (.cells mz 85)) R).drewN _).then hb2⟩

set_option maxHeartbeats 1000000 in
theorem enter_yes (I : Rdi) (w : World) (R k d : Nat) (h : Rdr I w R k d) (hd : ¬ I.ln ≤ d) (hk : k + 1 < I.n) :
    Calls Tryz.prog 105 #[.pointer (some ⟨R, 0, none⟩)] w fun e w' => e = .returned (mkV (I.M k)) ∧ Rdr I w' R (k + 1) (d + 1) ∧ But R w w' := by
  have hB0 := Bk.new w 85 mz
  have h1 := h.up (below_alloc w (.cells mz 85))
  have hlt := h.lt
  have c5 := h1.blk.cell 5
  have c6 := h1.blk.cell 6
  have f6 := h1.blk.frz 6
  simp only [List.getElem?_cons_zero, List.getElem?_cons_succ] at c5 c6
  have hdd : decide (I.ln ≤ (d : Int)) = false := decide_eq_false hd
  have hd1 : (d : Int) + 1 ≤ 9223372036854775807 := by have := h.lnS; omega
  have hw : wrap64 ((d : Int) + 1) = (d : Int) + 1 := by simp only [wrap64]; omega
  clear hd
  go_enter Tryz.func105, Tryz.ntmps105
  go_wp2
  go_quiet (fail)
  go_wp2_with fail
  refine (take_any I _ R k (d + 1) ((h1.drewN nq).nest (d + 1) (by omega)) hk).mono ?_
  rintro e w2 ⟨rfl, h3, hU2⟩
  have hB1 := ((hB0.drewN nq).but ((But.refl R _).setR (j := 6) (.int .i64 ((d + 1 : Nat) : Int))) (by omega)).but hU2 (by omega)
  have hU3 := (((bel_but (below_alloc w (.cells mz 85)) R).drewN nq).setR (j := 6) (.int .i64 ((d + 1 : Nat) : Int))).trans hU2
  go_wp2_with (refine wpList_storeN rfl 85 (.tmp 2) (.tmp 23) rfl w.heap.size 0 (mkC (I.M k)) rfl rfl hB1 (Nat.le_refl 4) Tryz.infoM (mkC_one _) ?_; intro w4 hB5 ho4; have h6 := h3.oth ho4 (by omega) (by omega); have hU4 := ho4.but hU3 (Nat.le_refl _); obtain ⟨q0, q1, q2, q3⟩ := Bk.four (show Bk w4 w.heap.size _ [_, _, _, _] from hB5))
  refine bodyPost_ret (v := mkV (I.M k)) (by simp [results, Tryz.results105, go_sem, mkV, q0, q1, q2, q3]) rfl ⟨rfl, h6, hU4⟩

set_option maxHeartbeats 1000000 in
theorem leave_any (I : Rdi) (w : World) (R k d : Nat) (h : Rdr I w R k (d + 1)) :
    Calls Tryz.prog 106 #[.pointer (some ⟨R, 0, none⟩)] w fun e w' => e = .returned (.tuple #[]) ∧ Rdr I w' R k d ∧ But R w w' := by
  have c6 := h.blk.cell 6
  have f6 := h.blk.frz 6
  simp only [List.getElem?_cons_zero, List.getElem?_cons_succ] at c6
  have hw : wrap64 (d : Int) = (d : Int) := by
    have := h.dS
    simp only [wrap64]; omega
  go_enter Tryz.func106, Tryz.ntmps106
  go_wp2
  go_end0
  exact ⟨rfl, h.nest d (by have := h.dS; omega), (But.refl R w).setR _⟩
end Go.Proofs.YtndgglhppoijnaaGreatDoor
/-
  What all walks of the parser hold together; the walk of expr.
-/
namespace Go.Proofs.YtndgglhppoijnaaGreatDoor
open Go.RowKit
set_option maxRecDepth 100000

def lmOf (I : Rdi) : Lm := ⟨I.lf, I.la, I.ln⟩

/-- The walks of all that reads expressions, with this fuel. -/
structure AllN (I : Rdi) (f : Nat) : Prop where
  expr : ∀ (w : World) (R k d : Nat), Rdr I w R k d → exprP I.M (lmOf I) f d k ≠ .out → Calls Tryz.prog 51 #[.pointer (some ⟨R, 0, none⟩)] w fun e w' => Ans I R d w (exV w.heap.size) (exprP I.M (lmOf I) f d k) e w'
  bind : ∀ (w : World) (R k d : Nat) (op : Int), Rdr I w R k d → k + 1 < I.n → bindP I.M (lmOf I) f op d k ≠ .out → Calls Tryz.prog 75 #[.pointer (some ⟨R, 0, none⟩), .int .i64 op] w fun e w' => Ans I R d w (exV w.heap.size) (bindP I.M (lmOf I) f op d k) e w'
  choice : ∀ (w : World) (R k d : Nat), Rdr I w R k d → k + 1 < I.n → ifP I.M (lmOf I) f d k ≠ .out → Calls Tryz.prog 76 #[.pointer (some ⟨R, 0, none⟩)] w fun e w' => Ans I R d w (exV w.heap.size) (ifP I.M (lmOf I) f d k) e w'
  look : ∀ (w : World) (R k d : Nat), Rdr I w R k d → k + 1 < I.n → caseP I.M (lmOf I) f d k ≠ .out → Calls Tryz.prog 77 #[.pointer (some ⟨R, 0, none⟩)] w fun e w' => Ans I R d w (exV w.heap.size) (caseP I.M (lmOf I) f d k) e w'
  cons : ∀ (w : World) (R k d : Nat), Rdr I w R k d → consP I.M (lmOf I) f d k ≠ .out → Calls Tryz.prog 78 #[.pointer (some ⟨R, 0, none⟩)] w fun e w' => Ans I R d w (exV w.heap.size) (consP I.M (lmOf I) f d k) e w'
  comp : ∀ (w : World) (R k d : Nat), Rdr I w R k d → compP I.M (lmOf I) f d k ≠ .out → Calls Tryz.prog 107 #[.pointer (some ⟨R, 0, none⟩)] w fun e w' => Ans I R d w (exV w.heap.size) (compP I.M (lmOf I) f d k) e w'
  sum : ∀ (w : World) (R k d : Nat), Rdr I w R k d → sumP I.M (lmOf I) f d k ≠ .out → Calls Tryz.prog 128 #[.pointer (some ⟨R, 0, none⟩)] w fun e w' => Ans I R d w (exV w.heap.size) (sumP I.M (lmOf I) f d k) e w'
  term : ∀ (w : World) (R k d : Nat), Rdr I w R k d → termP I.M (lmOf I) f d k ≠ .out → Calls Tryz.prog 142 #[.pointer (some ⟨R, 0, none⟩)] w fun e w' => Ans I R d w (exV w.heap.size) (termP I.M (lmOf I) f d k) e w'
  unit : ∀ (w : World) (R k d : Nat), Rdr I w R k d → unitP I.M (lmOf I) f d k ≠ .out → Calls Tryz.prog 155 #[.pointer (some ⟨R, 0, none⟩)] w fun e w' => Ans I R d w (exV w.heap.size) (unitP I.M (lmOf I) f d k) e w'
  named : ∀ (w : World) (R k d : Nat), Rdr I w R k d → k + 1 < I.n → namedP I.M (lmOf I) f d k ≠ .out → Calls Tryz.prog 166 #[.pointer (some ⟨R, 0, none⟩)] w fun e w' => Ans I R d w (exV w.heap.size) (namedP I.M (lmOf I) f d k) e w'
  worded : ∀ (w : World) (R k d : Nat), Rdr I w R k d → k + 1 < I.n → wordedP I.M (lmOf I) f d k ≠ .out → Calls Tryz.prog 167 #[.pointer (some ⟨R, 0, none⟩)] w fun e w' => Ans I R d w (exV w.heap.size) (wordedP I.M (lmOf I) f d k) e w'
  brack : ∀ (w : World) (R k d : Nat), Rdr I w R k d → brackP I.M (lmOf I) f d k ≠ .out → Calls Tryz.prog 168 #[.pointer (some ⟨R, 0, none⟩)] w fun e w' => Ans I R d w (exV w.heap.size) (brackP I.M (lmOf I) f d k) e w'
  args : ∀ (w : World) (R k d : Nat), Rdr I w R k d → tk I.M [40] k = true → argsP I.M (lmOf I) f d (k + 1) ≠ .out → Calls Tryz.prog 176 #[.pointer (some ⟨R, 0, none⟩)] w fun e w' => Ans I R d w (elV w.heap.size) (argsP I.M (lmOf I) f d (k + 1)) e w'

abbrev ez : Array Value := #[.int .i64 0, .string ⟨#[]⟩, .string ⟨#[]⟩, .int .i64 0, .complex .f64 0 0, .slice none 0 0, .int .i64 0]
theorem Tryz.infoE : (Tryz.prog.info? 41).map (·.size) = some 7 := by kernel_rfl
theorem Tryz.underE : Tryz.prog.underlying 41 = some (.struct (Tryz.prog.underlying 41 |>.map (fun | .struct f => f | _ => #[]) |>.getD #[])) := by kernel_rfl

theorem tk_eq2 (I : Rdi) (s : List UInt8) (k : Nat) {b : Bool} (h : tk I.M s k = b) : ((bs (I.M k).text).toList == s) = b := by rw [bs_toList]; exact h

set_option maxHeartbeats 4000000 in
theorem expr_step (I : Rdi) (hE : Ends I.M I.n) (f : Nat) (ih : AllN I f) (w : World) (R k d : Nat) (h : Rdr I w R k d) (hne : exprP I.M (lmOf I) (f + 1) d k ≠ .out) :
    Calls Tryz.prog 51 #[.pointer (some ⟨R, 0, none⟩)] w fun e w' => Ans I R d w (exV w.heap.size) (exprP I.M (lmOf I) (f + 1) d k) e w' := by
  have hB0 := Bk.new w 41 ez
  have h1 := h.up (below_alloc w (.cells ez 41))
  have hlt := h.lt
  have hf := fun W => (fldM (I.M k) W).2.1
  obtain ⟨r, hr⟩ : ∃ r, r = exprP I.M (lmOf I) (f + 1) d k := ⟨_, rfl⟩
  rw [← hr] at hne ⊢
  rw [exprP] at hr
  cases t0 : tk I.M tLet k with
  | true =>
    rw [if_pos t0] at hr
    have hkn := hE.tk I.M t0 (by decide) h.kn
    have HR : Hid (r = _) := hr
    have e0 := tk_eq2 I tLet k t0
    unfold tLet at e0
    clear hr t0
    go_enter Tryz.func51, Tryz.ntmps51
    go_wp2_with fail
    refine (next_any I _ R k d h1).mono ?_
    rintro e w1 ⟨rfl, hb1⟩
    unfold mkV
    have h2 := h1.up hb1
    have hB1 := hB0.up hb1
    have hl1 := hB1.lt
    have hU1 := bel_but (Below.thn (below_alloc w (.cells ez 41)) hb1) R
    go_wp2_with fail
    refine (ih.bind w1 R k d 21 h2 hkn (by rw [← show r = _ from HR]; exact hne)).mono ?_
    rintro e w2 ⟨hU2, ha⟩
    rw [← show r = _ from HR] at ha
    cases r with
    | out => exact absurd rfl hne
    | bad y j =>
      rw [show e = _ from ha]
      clear ha
      unfold gaveUp
      go_wp2
      exact ⟨rfl, ans_bad rfl (hU1.trans hU2) rfl⟩
    | ok x j =>
      obtain ⟨⟨v, rfl, vs, rfl, hv⟩, h3⟩ := ha
      have hB2 := hB1.but hU2 (by omega)
      have hU3 := hU1.trans hU2
      obtain ⟨x0, x1, x2, x3, x4, x5, x6, rfl⟩ := list7 hv.len
      go_wp2_with (refine wpList_storeN rfl 41 (.tmp 2) (.tmp 9) rfl w.heap.size 0 [x0, x1, x2, x3, x4, x5, x6] rfl rfl hB2 (Nat.le_refl 7) Tryz.infoE hv.one ?_; intro wz hBz hoz)
      have hvz := (hv.oth hoz (by omega)).mono (B' := w.heap.size) (by omega)
      have hrz := h3.oth hoz (by omega) (by omega)
      have hUz := hoz.but hU3 (Nat.le_refl _)
      obtain ⟨q0, q1, q2, q3, q4, q5, q6⟩ := Bk.seven (show Bk wz w.heap.size _ [_, _, _, _, _, _, _] from hBz)
      refine bodyPost_ret (v := .agg #[x0, x1, x2, x3, x4, x5, x6]) (by simp [results, Tryz.results51, go_sem, q0, q1, q2, q3, q4, q5, q6]) rfl (ans_ok rfl hUz ⟨_, rfl, hvz⟩ hrz)
  | false =>
    rw [if_neg (by rw [t0]; simp)] at hr
    have e0 := tk_eq2 I tLet k t0
    unfold tLet at e0
    clear t0
    cases t1 : tk I.M tStrict k with
    | true =>
      rw [if_pos t1] at hr
      have hkn := hE.tk I.M t1 (by decide) h.kn
      have HR : Hid (r = _) := hr
      have e1 := tk_eq2 I tStrict k t1
      unfold tStrict at e1
      clear hr t1
      go_enter Tryz.func51, Tryz.ntmps51
      go_wp2_with fail
      refine (next_any I _ R k d h1).mono ?_
      rintro e w1 ⟨rfl, hb1⟩
      unfold mkV
      have h2 := h1.up hb1
      have hB1 := hB0.up hb1
      have hl1 := hB1.lt
      have hU1 := bel_but (Below.thn (below_alloc w (.cells ez 41)) hb1) R
      go_wp2_with fail
      refine (ih.bind w1 R k d 22 h2 hkn (by rw [← show r = _ from HR]; exact hne)).mono ?_
      rintro e w2 ⟨hU2, ha⟩
      rw [← show r = _ from HR] at ha
      cases r with
      | out => exact absurd rfl hne
      | bad y j =>
        rw [show e = _ from ha]
        clear ha
        unfold gaveUp
        go_wp2
        exact ⟨rfl, ans_bad rfl (hU1.trans hU2) rfl⟩
      | ok x j =>
        obtain ⟨⟨v, rfl, vs, rfl, hv⟩, h3⟩ := ha
        have hB2 := hB1.but hU2 (by omega)
        have hU3 := hU1.trans hU2
        obtain ⟨x0, x1, x2, x3, x4, x5, x6, rfl⟩ := list7 hv.len
        go_wp2_with (refine wpList_storeN rfl 41 (.tmp 2) (.tmp 13) rfl w.heap.size 0 [x0, x1, x2, x3, x4, x5, x6] rfl rfl hB2 (Nat.le_refl 7) Tryz.infoE hv.one ?_; intro wz hBz hoz)
        have hvz := (hv.oth hoz (by omega)).mono (B' := w.heap.size) (by omega)
        have hrz := h3.oth hoz (by omega) (by omega)
        have hUz := hoz.but hU3 (Nat.le_refl _)
        obtain ⟨q0, q1, q2, q3, q4, q5, q6⟩ := Bk.seven (show Bk wz w.heap.size _ [_, _, _, _, _, _, _] from hBz)
        refine bodyPost_ret (v := .agg #[x0, x1, x2, x3, x4, x5, x6]) (by simp [results, Tryz.results51, go_sem, q0, q1, q2, q3, q4, q5, q6]) rfl (ans_ok rfl hUz ⟨_, rfl, hvz⟩ hrz)
    | false =>
      rw [if_neg (by rw [t1]; simp)] at hr
      have e1 := tk_eq2 I tStrict k t1
      unfold tStrict at e1
      clear t1
      cases t2 : tk I.M tIf k with
      | true =>
        rw [if_pos t2] at hr
        have hkn := hE.tk I.M t2 (by decide) h.kn
        have HR : Hid (r = _) := hr
        have e2 := tk_eq2 I tIf k t2
        unfold tIf at e2
        clear hr t2
        go_enter Tryz.func51, Tryz.ntmps51
        go_wp2_with fail
        refine (next_any I _ R k d h1).mono ?_
        rintro e w1 ⟨rfl, hb1⟩
        unfold mkV
        have h2 := h1.up hb1
        have hB1 := hB0.up hb1
        have hl1 := hB1.lt
        have hU1 := bel_but (Below.thn (below_alloc w (.cells ez 41)) hb1) R
        go_wp2_with fail
        refine (ih.choice w1 R k d h2 hkn (by rw [← show r = _ from HR]; exact hne)).mono ?_
        rintro e w2 ⟨hU2, ha⟩
        rw [← show r = _ from HR] at ha
        cases r with
        | out => exact absurd rfl hne
        | bad y j =>
          rw [show e = _ from ha]
          clear ha
          unfold gaveUp
          go_wp2
          exact ⟨rfl, ans_bad rfl (hU1.trans hU2) rfl⟩
        | ok x j =>
          obtain ⟨⟨v, rfl, vs, rfl, hv⟩, h3⟩ := ha
          have hB2 := hB1.but hU2 (by omega)
          have hU3 := hU1.trans hU2
          obtain ⟨x0, x1, x2, x3, x4, x5, x6, rfl⟩ := list7 hv.len
          go_wp2_with (refine wpList_storeN rfl 41 (.tmp 2) (.tmp 17) rfl w.heap.size 0 [x0, x1, x2, x3, x4, x5, x6] rfl rfl hB2 (Nat.le_refl 7) Tryz.infoE hv.one ?_; intro wz hBz hoz)
          have hvz := (hv.oth hoz (by omega)).mono (B' := w.heap.size) (by omega)
          have hrz := h3.oth hoz (by omega) (by omega)
          have hUz := hoz.but hU3 (Nat.le_refl _)
          obtain ⟨q0, q1, q2, q3, q4, q5, q6⟩ := Bk.seven (show Bk wz w.heap.size _ [_, _, _, _, _, _, _] from hBz)
          refine bodyPost_ret (v := .agg #[x0, x1, x2, x3, x4, x5, x6]) (by simp [results, Tryz.results51, go_sem, q0, q1, q2, q3, q4, q5, q6]) rfl (ans_ok rfl hUz ⟨_, rfl, hvz⟩ hrz)
      | false =>
        rw [if_neg (by rw [t2]; simp)] at hr
        have e2 := tk_eq2 I tIf k t2
        unfold tIf at e2
        clear t2
        cases t3 : tk I.M tCase k with
        | true =>
          rw [if_pos t3] at hr
          have hkn := hE.tk I.M t3 (by decide) h.kn
          have HR : Hid (r = _) := hr
          have e3 := tk_eq2 I tCase k t3
          unfold tCase at e3
          clear hr t3
          go_enter Tryz.func51, Tryz.ntmps51
          go_wp2_with fail
          refine (next_any I _ R k d h1).mono ?_
          rintro e w1 ⟨rfl, hb1⟩
          unfold mkV
          have h2 := h1.up hb1
          have hB1 := hB0.up hb1
          have hl1 := hB1.lt
          have hU1 := bel_but (Below.thn (below_alloc w (.cells ez 41)) hb1) R
          go_wp2_with fail
          refine (ih.look w1 R k d h2 hkn (by rw [← show r = _ from HR]; exact hne)).mono ?_
          rintro e w2 ⟨hU2, ha⟩
          rw [← show r = _ from HR] at ha
          cases r with
          | out => exact absurd rfl hne
          | bad y j =>
            rw [show e = _ from ha]
            clear ha
            unfold gaveUp
            go_wp2
            exact ⟨rfl, ans_bad rfl (hU1.trans hU2) rfl⟩
          | ok x j =>
            obtain ⟨⟨v, rfl, vs, rfl, hv⟩, h3⟩ := ha
            have hB2 := hB1.but hU2 (by omega)
            have hU3 := hU1.trans hU2
            obtain ⟨x0, x1, x2, x3, x4, x5, x6, rfl⟩ := list7 hv.len
            go_wp2_with (refine wpList_storeN rfl 41 (.tmp 2) (.tmp 21) rfl w.heap.size 0 [x0, x1, x2, x3, x4, x5, x6] rfl rfl hB2 (Nat.le_refl 7) Tryz.infoE hv.one ?_; intro wz hBz hoz)
            have hvz := (hv.oth hoz (by omega)).mono (B' := w.heap.size) (by omega)
            have hrz := h3.oth hoz (by omega) (by omega)
            have hUz := hoz.but hU3 (Nat.le_refl _)
            obtain ⟨q0, q1, q2, q3, q4, q5, q6⟩ := Bk.seven (show Bk wz w.heap.size _ [_, _, _, _, _, _, _] from hBz)
            refine bodyPost_ret (v := .agg #[x0, x1, x2, x3, x4, x5, x6]) (by simp [results, Tryz.results51, go_sem, q0, q1, q2, q3, q4, q5, q6]) rfl (ans_ok rfl hUz ⟨_, rfl, hvz⟩ hrz)
        | false =>
          rw [if_neg (by rw [t3]; simp)] at hr
          have e3 := tk_eq2 I tCase k t3
          unfold tCase at e3
          clear t3
          have HR : Hid (r = _) := hr
          clear hr
          go_enter Tryz.func51, Tryz.ntmps51
          go_wp2_with fail
          refine (next_any I _ R k d h1).mono ?_
          rintro e w1 ⟨rfl, hb1⟩
          unfold mkV
          have h2 := h1.up hb1
          have hB1 := hB0.up hb1
          have hl1 := hB1.lt
          have hU1 := bel_but (Below.thn (below_alloc w (.cells ez 41)) hb1) R
          go_wp2_with fail
          refine (ih.cons w1 R k d h2 (by rw [← show r = _ from HR]; exact hne)).mono ?_
          rintro e w2 ⟨hU2, ha⟩
          rw [← show r = _ from HR] at ha
          cases r with
          | out => exact absurd rfl hne
          | bad y j =>
            rw [show e = _ from ha]
            clear ha
            unfold gaveUp
            go_wp2
            exact ⟨rfl, ans_bad rfl (hU1.trans hU2) rfl⟩
          | ok x j =>
            obtain ⟨⟨v, rfl, vs, rfl, hv⟩, h3⟩ := ha
            have hB2 := hB1.but hU2 (by omega)
            have hU3 := hU1.trans hU2
            obtain ⟨x0, x1, x2, x3, x4, x5, x6, rfl⟩ := list7 hv.len
            go_wp2_with (refine wpList_storeN rfl 41 (.tmp 2) (.tmp 23) rfl w.heap.size 0 [x0, x1, x2, x3, x4, x5, x6] rfl rfl hB2 (Nat.le_refl 7) Tryz.infoE hv.one ?_; intro wz hBz hoz)
            have hvz := (hv.oth hoz (by omega)).mono (B' := w.heap.size) (by omega)
            have hrz := h3.oth hoz (by omega) (by omega)
            have hUz := hoz.but hU3 (Nat.le_refl _)
            obtain ⟨q0, q1, q2, q3, q4, q5, q6⟩ := Bk.seven (show Bk wz w.heap.size _ [_, _, _, _, _, _, _] from hBz)
            refine bodyPost_ret (v := .agg #[x0, x1, x2, x3, x4, x5, x6]) (by simp [results, Tryz.results51, go_sem, q0, q1, q2, q3, q4, q5, q6]) rfl (ans_ok rfl hUz ⟨_, rfl, hvz⟩ hrz)
end Go.Proofs.YtndgglhppoijnaaGreatDoor
/-
  The walk of both.
-/
namespace Go.Proofs.YtndgglhppoijnaaGreatDoor
open Go.RowKit
set_option maxRecDepth 100000

theorem below_n {w w' : World} (o : Obj) (h : Below w.heap.size w w') : Below w.heap.size w (w'.alloc o) := h.alloc h.size o
theorem ExW.up {w w' : World} {A : Nat → Prop} {e : Ex} {vs : List Value} (h : ExW w A e vs) (hb : Below w.heap.size w w') : ExW w' A e vs := h.keep fun b _ hl => hb.block b hl

theorem Bk.rng {w : World} {b : Nat} {t : TypeId} {vs : List Value} (h : Bk w b t vs) (o : Nat) (xs : List Value) (hx : ∀ j v, xs[j]? = some v → vs[o + j]? = some v) : w.rangeAt b o xs := by
  intro j v hv
  rw [h.cell]
  exact hx j v hv

theorem Bk.newAt {w : World} {n : Nat} (t : TypeId) (vs : Array Value) (hn : w.heap.size = n) : Bk (w.alloc (.cells vs t)) n t vs.toList := by rw [← hn]; exact Bk.new w t vs

/-- It returns the expression, its parts in blocks of which A holds; all that was there is as it was. -/
def BoEnd (A : Nat → Prop) (w : World) (t : Ex) (e : Ending) (w' : World) : Prop := ∃ V : Array Value, e = .returned (.agg V) ∧ V.size = 7 ∧ ExW w' A t V.toList ∧ Below w.heap.size w w'

theorem over_app (xs : List Value) : ∀ (ps qs : List Value), qs.length = xs.length → over (ps ++ qs) ps.length xs = ps ++ xs := by
  induction xs with
  | nil => intro ps qs h; cases qs with | nil => rfl | cons => simp at h
  | cons x xs ih =>
    intro ps qs h
    cases qs with
    | nil => simp at h
    | cons q qs =>
      have := ih (ps ++ [x]) qs (by simpa using h)
      rw [over]
      simp only [List.length_append, List.length_cons, List.length_nil, Nat.zero_add, List.append_assoc, List.cons_append, List.nil_append] at this
      rw [← this]
      congr 1
      simp
theorem over_all (xs vs : List Value) (h : vs.length = xs.length) : over vs 0 xs = xs := by
  have := over_app xs [] vs h
  simpa using this

/-- A struct whose cells are not known one by one, stored over a block. -/
theorem store_run {w : World} {b : Nat} {t : TypeId} {vs : List Value} (hS : Bk w b t vs) (A : Array Value) (hl : A.size = vs.length) (h1 : ∀ v ∈ A.toList, v.oneCell' = true) :
    ∃ w', (storeCells ⟨b, 0, none⟩ A.toList).run Tryz.prog w = .ok () w' ∧ Bk w' b t A.toList ∧ Oth b w w' := by
  have ht := hS.there 0 vs.length (by omega)
  have hr := run_storeCells_cells (P := Tryz.prog) b 0 A.toList 0 w (fun j hj => by have := (ht j (by rw [← hl]; simpa using hj)).1; simpa using this) (fun j hj => by have := (ht j (by rw [← hl]; simpa using hj)).2; simpa using this) h1
  obtain ⟨h2, h3⟩ := hS.sets A.toList 0
  rw [over_all _ _ (by simpa using hl.symm)] at h2
  exact ⟨_, hr, h2, h3⟩

theorem elv2 {w : World} {A : Nat → Prop} {g : Nat} {a b : Ex} {va vb : List Value} {t : TypeId} (hg : A g) (hk : Bk w g t (va ++ vb)) (ha : ExW w A a va) (hb : ExW w A b vb) : ElW w A (some ⟨g, 0, none⟩) [a, b] := by
  refine .cons hg (hk.rng 0 va fun j v hv => ?_) ha (.cons hg (hk.rng (0 + 7) vb fun j v hv => ?_) hb .nil)
  · have := (List.getElem?_eq_some_iff.1 hv).1
    rw [Nat.zero_add, List.getElem?_append_left this]; exact hv
  · rw [List.getElem?_append_right (by rw [ha.len]; omega), ha.len, show 0 + 7 + j - 7 = j by omega]; exact hv
theorem elv1 {w : World} {A : Nat → Prop} {g : Nat} {a : Ex} {va : List Value} {t : TypeId} (hg : A g) (hk : Bk w g t va) (ha : ExW w A a va) : ElW w A (some ⟨g, 0, none⟩) [a] := by
  refine .cons hg (hk.rng 0 va fun j v hv => ?_) ha .nil
  rw [Nat.zero_add]; exact hv
theorem elv3 {w : World} {A : Nat → Prop} {g : Nat} {a b c : Ex} {va vb vc : List Value} {t : TypeId} (hg : A g) (hk : Bk w g t (va ++ vb ++ vc)) (ha : ExW w A a va) (hb : ExW w A b vb) (hc : ExW w A c vc) : ElW w A (some ⟨g, 0, none⟩) [a, b, c] := by
  have la := ha.len
  have lb := hb.len
  refine .cons hg (hk.rng 0 va fun j v hv => ?_) ha (.cons hg (hk.rng (0 + 7) vb fun j v hv => ?_) hb (.cons hg (hk.rng (0 + 7 + 7) vc fun j v hv => ?_) hc .nil))
  · have := (List.getElem?_eq_some_iff.1 hv).1
    rw [Nat.zero_add, List.append_assoc, List.getElem?_append_left this]; exact hv
  · have := (List.getElem?_eq_some_iff.1 hv).1
    rw [List.append_assoc, List.getElem?_append_right (by omega), la, show 0 + 7 + j - 7 = j by omega, List.getElem?_append_left this]; exact hv
  · rw [List.getElem?_append_right (by rw [List.length_append]; omega), List.length_append, la, lb, show 0 + 7 + 7 + j - (7 + 7) = j by omega]; exact hv

theorem exv_mk {w : World} {A : Nat → Prop} {op : Int} {name tail : List UInt8} {ty : Int} {xs : List Ex} {pos : Nat} {ao : Option Addr} {c n : Nat} (h : ElW w A ao xs) (hn : n = xs.length) :
    ExW w A (.mk op name tail ty 0 0 xs pos) [.int .i64 op, .string (bs name), .string (bs tail), .int .i64 ty, .complex .f64 0 0, .slice ao n c, .int .i64 pos] := by
  have := ExW.mk (op := op) (name := name) (tail := tail) (ty := ty) (p := 0) (q := 0) (pos := pos) (c := c) h
  rw [fl_zero] at this
  rw [hn]
  exact this

set_option maxHeartbeats 2000000 in
theorem both_any (op : Int) (m : Mk) (a b : Ex) (va vb : List Value) (A : Nat → Prop) (w : World) (ha : ExW w A a va) (hb : ExW w A b vb) (hB : ∀ b, w.heap.size ≤ b → A b) :
    Calls Tryz.prog 108 #[.int .i64 op, mkV m, .agg va.toArray, .agg vb.toArray] w fun e w' => BoEnd A w (two op a b m) e w' := by
  obtain ⟨x0, x1, x2, x3, x4, x5, x6, rfl⟩ := list7 ha.len
  obtain ⟨y0, y1, y2, y3, y4, y5, y6, rfl⟩ := list7 hb.len
  have HA : Hid (ExW w A a _) := ha
  have HB : Hid (ExW w A b _) := hb
  clear ha hb
  have hcx := store_cx
  unfold mkV
  go_enter Tryz.func108, Tryz.ntmps108
  go_wp2
  have hbe := fun o1 o2 o3 o4 o5 => below_n o5 (below_n o4 (below_n o3 (below_n o2 (below_alloc w o1))))
  refine bodyPost_ret (v := .agg #[.int .i64 op, .string ⟨#[]⟩, .string ⟨#[]⟩, .int .i64 0, .complex .f64 0 0, .slice (some ⟨w.heap.size + 1 + 1 + 1 + 1, 0, none⟩) 2 2, .int .i64 m.at_]) (by simp [results, Tryz.results108, go_sem]) rfl ⟨_, rfl, rfl, ?_, hbe _ _ _ _ _⟩
  exact exv_mk (xs := [a, b]) (elv2 (hB _ (by omega)) (Bk.newAt 41 #[x0, x1, x2, x3, x4, x5, x6, y0, y1, y2, y3, y4, y5, y6] (by simp)) (ExW.up (show ExW w A a _ from HA) (hbe _ _ _ _ _)) (ExW.up (show ExW w A b _ from HB) (hbe _ _ _ _ _))) rfl
end Go.Proofs.YtndgglhppoijnaaGreatDoor
/-
  Cells of one value: one, two; a block of two.
-/
namespace Go.Proofs.YtndgglhppoijnaaGreatDoor
open Go.RowKit
theorem onc1 (v : Value) (h : v.oneCell' = true) : ∀ u ∈ [v], u.oneCell' = true := by
  intro u hu
  simp only [List.mem_cons, List.not_mem_nil, or_false] at hu
  rw [hu]
  exact h
theorem onc2 (a b : Value) (ha : a.oneCell' = true) (hb : b.oneCell' = true) : ∀ u ∈ [a, b], u.oneCell' = true := by
  intro u hu
  simp only [List.mem_cons, List.not_mem_nil, or_false] at hu
  rcases hu with rfl | rfl
  · exact ha
  · exact hb
theorem Bk.two {w : World} {b : Nat} {t : TypeId} {x y : Value} (h : Bk w b t [x, y]) : w.cell? ⟨b, 0, none⟩ = some x ∧ w.cell? ⟨b, 1, none⟩ = some y := ⟨h.cell 0, h.cell 1⟩
theorem bst {w w1 : World} {B b j : Nat} {v : Value} (h : Below B w w1) (hb : B ≤ b) : Below B w (w1.setCell ⟨b, j, none⟩ v) := h.trans (((Oth.refl b w1).set j v).below hb)
end Go.Proofs.YtndgglhppoijnaaGreatDoor
