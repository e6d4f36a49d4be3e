/-
  Blocks of cells, whatever they hold: whole and in part, read and written; what stays but for one block.
-/
import Derived.Test.YtbgggbkmnfppoaaGreatDoorVk
import Derived.WalkLawsBesides
import Derived.OwnWalk
import Derived.Laws.OwnMore
import Derived.Deep.RegionWith
namespace Go.Proofs.YtbgggbkmnfppoaaGreatDoor
open Go.RowKit
set_option maxRecDepth 100000

/-- All is as it was but for block g. -/
structure Oth (g : Nat) (w0 wr : World) : Prop where
  os : wr.os = w0.os
  tape : wr.tape = w0.tape
  output : wr.output = w0.output
  size : wr.heap.size = w0.heap.size
  block : ∀ b, b ≠ g → wr.heap[b]? = w0.heap[b]?

theorem Oth.refl (g : Nat) (w : World) : Oth g w w := ⟨rfl, rfl, rfl, rfl, fun _ _ => rfl⟩
theorem Oth.set {g : Nat} {w0 wr : World} (h : Oth g w0 wr) (j : Nat) (u : Value) : Oth g w0 (wr.setCell ⟨g, j, none⟩ u) :=
  ⟨h.os, h.tape, h.output, by rw [← h.size]; simp [World.setCell], fun b hb => by rw [Below.heap_setCell _ _ _ _ hb]; exact h.block b hb⟩
theorem Oth.cell {g : Nat} {w0 wr : World} (h : Oth g w0 wr) {a : Addr} (ha : a.block ≠ g) : wr.cell? a = w0.cell? a := World.cell?_of_block (w := w0) (h.block _ ha)
theorem Oth.below {g B : Nat} {w0 wr : World} (h : Oth g w0 wr) (hg : B ≤ g) : Below B w0 wr :=
  ⟨h.os, h.tape, h.output, by rw [h.size]; exact Nat.le_refl _, fun b hb => h.block b (by omega)⟩

/-- Block b holds just these cells. -/
def Bk (w : World) (b : Nat) (t : TypeId) (vs : List Value) : Prop := w.heap[b]? = some (.cells vs.toArray t (0, 0))

theorem Bk.lt {w : World} {b : Nat} {t : TypeId} {vs : List Value} (h : Bk w b t vs) : b < w.heap.size := by
  rcases Nat.lt_or_ge b w.heap.size with k | k
  · exact k
  · unfold Bk at h; rw [Array.getElem?_eq_none k] at h; cases h
theorem Bk.cell {w : World} {b : Nat} {t : TypeId} {vs : List Value} (h : Bk w b t vs) (j : Nat) : w.cell? ⟨b, j, none⟩ = vs[j]? := by
  rw [cell_of_row w b j _ _ _ h]; simp
theorem Bk.frz {w : World} {b : Nat} {t : TypeId} {vs : List Value} (h : Bk w b t vs) (j : Nat) : w.frozen? ⟨b, j, none⟩ = false := frozen_of_row w _ j _ _ h
theorem Bk.new (w : World) (t : TypeId) (vs : Array Value) : Bk (w.alloc (.cells vs t)) w.heap.size t vs.toList := by
  show _ = _
  rw [heap_alloc_new w _]
theorem Bk.up {w w' : World} {b : Nat} {t : TypeId} {vs : List Value} (h : Bk w b t vs) (hb : Below w.heap.size w w') : Bk w' b t vs := by unfold Bk; rw [hb.block b h.lt]; exact h
theorem Bk.alloc {w : World} {b : Nat} {t : TypeId} {vs : List Value} (h : Bk w b t vs) (o : Obj) : Bk (w.alloc o) b t vs := h.up (below_alloc _ _)
theorem Bk.oth {w w' : World} {b g : Nat} {t : TypeId} {vs : List Value} (h : Bk w b t vs) (ho : Oth g w w') (hb : b ≠ g) : Bk w' b t vs := by unfold Bk; rw [ho.block b hb]; exact h
theorem Bk.set {w : World} {b : Nat} {t : TypeId} {vs : List Value} (h : Bk w b t vs) (j : Nat) (v : Value) : Bk (w.setCell ⟨b, j, none⟩ v) b t (vs.set j v) := by
  unfold Bk
  rw [heap_setCell_same w b j _ _ _ h]
  simp
theorem Bk.there {w : World} {b : Nat} {t : TypeId} {vs : List Value} (h : Bk w b t vs) (o n : Nat) (hn : o + n ≤ vs.length) : w.there b o n := by
  intro j hj
  refine ⟨?_, h.frz _⟩
  rw [h.cell, List.getElem?_eq_getElem (by omega)]
  rfl
theorem Bk.range {w : World} {b : Nat} {t : TypeId} {vs : List Value} (h : Bk w b t vs) (o n : Nat) : w.rangeAt b o ((vs.drop o).take n) := by
  intro j v hv
  rw [h.cell]
  have hj := (List.getElem?_eq_some_iff.1 hv).1
  rw [List.getElem?_take, List.getElem?_drop] at hv
  split at hv
  · exact hv
  · cases hv

/-- A row written over a part of another. -/
def over (vs : List Value) (o : Nat) : List Value → List Value
  | [] => vs
  | x :: xs => over (vs.set o x) (o + 1) xs

theorem over_len (xs : List Value) : ∀ (vs : List Value) (o : Nat), (over vs o xs).length = vs.length := by
  induction xs with
  | nil => intro vs o; rfl
  | cons x xs ih => intro vs o; rw [over, ih]; simp

theorem Bk.sets {b : Nat} {t : TypeId} (xs : List Value) : ∀ {w : World} {vs : List Value} (_ : Bk w b t vs) (o : Nat), Bk (w.setCells b o xs) b t (over vs o xs) ∧ Oth b w (w.setCells b o xs) := by
  induction xs with
  | nil => intro w vs h o; exact ⟨h, Oth.refl _ _⟩
  | cons x xs ih =>
    intro w vs h o
    obtain ⟨h1, h2⟩ := ih (h.set o x) (o + 1)
    refine ⟨h1, ?_⟩
    have h3 := (Oth.refl b w).set o x
    exact ⟨h2.os.trans h3.os, h2.tape.trans h3.tape, h2.output.trans h3.output, h2.size.trans h3.size, fun k hk => (h2.block k hk).trans (h3.block k hk)⟩

/-- A struct stored into a block. -/
theorem wpList_storeN {ops : Array Oper} {rest : List Oper} {op : Oper} {a : Act} {w : World} {Q : Exit → Act → World → Prop} (hgd : op.guard = none) (ty : TypeId) (x y : Operand) (ho : op.op = .store ty x y)
    (b o : Nat) (xs : List Value) (hx : a.eval x = .pointer (some ⟨b, o, none⟩)) (hy : a.eval y = .agg xs.toArray) {t : TypeId} {vs : List Value} (hS : Bk w b t vs) (hl : o + xs.length ≤ vs.length)
    (hi : (Tryz.prog.info? ty).map (·.size) = some xs.length) (h1 : ∀ v ∈ xs, v.oneCell' = true)
    (h : ∀ w', Bk w' b t (over vs o xs) → Oth b w w' → wpList Tryz.prog ops Q rest (a.put op.dst undef) w') : wpList Tryz.prog ops Q (op :: rest) a w := by
  refine wpList_store_mid hgd ty x y ho b o xs.toArray hx hy (by simpa using hS.there o xs.length hl) (by simpa using hi) (all_oneCell_toArray h1) ?_
  obtain ⟨h2, h3⟩ := hS.sets xs o
  exact h _ h2 h3

/-- A struct loaded out of memory. -/
theorem wpList_loadN {ops : Array Oper} {rest : List Oper} {op : Oper} {a : Act} {w : World} {Q : Exit → Act → World → Prop} (hgd : op.guard = none) (ty : TypeId) (x : Operand) (ho : op.op = .load ty x)
    (b o : Nat) (hx : a.eval x = .pointer (some ⟨b, o, none⟩)) (xs : List Value) (fs : Array Field) (hS : w.rangeAt b o xs) (hu : Tryz.prog.underlying ty = some (.struct fs)) (hi : (Tryz.prog.info? ty).map (·.size) = some xs.length)
    (h : wpList Tryz.prog ops Q rest (a.put op.dst (.agg xs.toArray)) w) : wpList Tryz.prog ops Q (op :: rest) a w :=
  wpList_load_mid hgd ty x ho b o hx xs _ hS hu rfl hi h

/-- All that was there is as it was, but for block R. -/
structure But (R : Nat) (w w' : World) : Prop where
  os : w'.os = w.os
  tape : w'.tape = w.tape
  output : w'.output = w.output
  size : w.heap.size ≤ w'.heap.size
  block : ∀ k, k < w.heap.size → k ≠ R → w'.heap[k]? = w.heap[k]?

theorem But.refl (R : Nat) (w : World) : But R w w := ⟨rfl, rfl, rfl, Nat.le_refl _, fun _ _ _ => rfl⟩
theorem But.trans {R : Nat} {a b c : World} (h : But R a b) (k : But R b c) : But R a c :=
  ⟨k.os.trans h.os, k.tape.trans h.tape, k.output.trans h.output, Nat.le_trans h.size k.size, fun i hi hn => (k.block i (Nat.lt_of_lt_of_le hi h.size) hn).trans (h.block i hi hn)⟩
theorem bel_but {w w' : World} (h : Below w.heap.size w w') (R : Nat) : But R w w' := ⟨h.os, h.tape, h.output, h.size, fun k hk _ => h.block k hk⟩
theorem But.then {R : Nat} {a b c : World} (h : But R a b) (k : Below b.heap.size b c) : But R a c := h.trans (bel_but k R)
theorem Oth.but {R g : Nat} {a b c : World} (h : Oth g b c) (k : But R a b) (hg : a.heap.size ≤ g) : But R a c :=
  ⟨h.os.trans k.os, h.tape.trans k.tape, h.output.trans k.output, by rw [h.size]; exact k.size, fun i hi hn => (h.block i (by omega)).trans (k.block i hi hn)⟩
theorem But.setR {R j : Nat} {a b : World} (h : But R a b) (v : Value) : But R a (b.setCell ⟨R, j, none⟩ v) :=
  ⟨h.os, h.tape, h.output, by simpa [World.setCell] using h.size, fun i hi hn => by rw [Below.heap_setCell _ _ _ _ hn]; exact h.block i hi hn⟩
theorem But.drew {R : Nat} {a b : World} (h : But R a b) : But R a b.drew := ⟨h.os, h.tape, h.output, h.size, h.block⟩
theorem But.drewN {R : Nat} {a b : World} (h : But R a b) (q : Nat) : But R a (b.drewN q) := ⟨h.os, h.tape, h.output, h.size, h.block⟩
theorem But.below {R B : Nat} {a b : World} (h : But R a b) (hB : B ≤ R) (hs : B ≤ a.heap.size) : Below B a b := ⟨h.os, h.tape, h.output, h.size, fun k hk => h.block k (by omega) (by omega)⟩
theorem Bk.but {w w' : World} {b R : Nat} {t : TypeId} {vs : List Value} (h : Bk w b t vs) (hb : But R w w') (hn : b ≠ R) : Bk w' b t vs := by unfold Bk; rw [hb.block b h.lt hn]; exact h
theorem range_but {w w' : World} {b o R : Nat} {vs : List Value} (h : w.rangeAt b o vs) (hv : vs ≠ []) (hb : But R w w') (hn : b ≠ R) : w'.rangeAt b o vs := by
  intro j v hj
  have hl : b < w.heap.size := by
    cases vs with
    | nil => exact absurd rfl hv
    | cons x xs => exact cell_lt (h 0 x rfl)
  rw [show w'.cell? ⟨b, o + j, none⟩ = w.cell? ⟨b, o + j, none⟩ from World.cell?_of_block (w := w) (hb.block b hl hn)]
  exact h j v hj

theorem store_cx (W : World) (a : Addr) (x y : Nat) : (store a (.complex .f64 x y)).run Tryz.prog W = match W.cell? a with
      | some _ => if W.frozen? a then .halt (.unsupported (.unsafePointer "a write to bytes that a string shares")) W else .ok () (W.setCell a (.complex .f64 x y))
      | none => match W.farStore Tryz.prog a (.complex .f64 x y) (Mode.plain == .atomic) with
        | .ok (w', _) => .ok () w'
        | .error h => .halt h W := run_store Tryz.prog W a (.complex .f64 x y) .plain rfl

/-- An append whose run is known, as a step of a region that draws its order. -/
theorem step_append_runU {P : Program} {ops : Array Oper} {o : Oper} {a : Act} {w : World} {K : Act → World → Prop} {Q : Exit → Act → World → Prop} {E : Prop}
    (hg : o.guard = none) (s x : Operand) (t u : TypeId) (hop : o.op = Op.call { callee := Callee.builtin Builtin.append, args := #[s, x], argTypes := #[t, u] }) (hty : o.type = t)
    (v y : Value) (hs : a.eval s = v) (hx : a.eval x = y) (v' : Value) (w' : World) (hrun : (Builtin.append_ #[t, u] t #[v, y]).run P w = .ok v' w') (hK : K (a.put o.dst v') w') :
    if Region.wanted o (yielded ops a.tmps) = true then Oper.wp P o a w K Q else E := by
  have hw : Region.wanted o (yielded ops a.tmps) = true := by simp [Region.wanted, hg]
  rw [if_pos hw]
  unfold Oper.wp
  rw [← hty] at hrun
  simp only [execOp, hop, resolve, invoke, builtin, Sem.run_bind, Sem.run_pure, Result.andThen_ok, List.map_toArray, List.map_cons, List.map_nil, hs, hx]
  rw [hty] at hrun ⊢
  rw [hrun]
  exact hK

end Go.Proofs.YtbgggbkmnfppoaaGreatDoor
