/-
  Blocks of cells, whole and in part, read and written, where no number of Go's is spoken of.
-/
import Derived.Test.YtcknekfhdggmoaaRows
import Derived.WalkKit
import Derived.WalkSpells
import Derived.WalkLawsBesides
import Derived.Maps.AppendAt
import Derived.Laws.AppendOwnNone
import Derived.Deep.MidRow
import Derived.OwnWalk
import Derived.Laws.OwnMore
import Derived.Deep.RegionWith
import Derived.Deep.RegionLaw
import Derived.Deep.RegionHeld3
import Derived.Deep.DeepCutAuto
import Derived.Deep.QuietTactic
import Derived.BigQuiet
namespace Go.Proofs.Ytcknekfhdggmoaa
open Go.RowKit
open Go.Lib
set_option maxRecDepth 100000

theorem ret_int {k : IntKind} {a b : Int} (h : a = b) : Ending.returned (.int k a) = .returned (.int k b) := by rw [h]
theorem ret_bool {a b : Bool} (h : a = b) : Ending.returned (.bool a) = .returned (.bool b) := by rw [h]
theorem below_alloc (w : World) (o : Obj) : Below w.heap.size w (w.alloc o) := Below.alloc (Below.refl _ _) (Nat.le_refl _) _
theorem Below.thn {a b c : World} (h : Below a.heap.size a b) (k : Below b.heap.size b c) : Below a.heap.size a c := h.trans (k.mono h.size)
theorem cell_lt {w : World} {b o : Nat} {v : Value} (h : w.cell? ⟨b, o, none⟩ = some v) : b < w.heap.size := by
  simp only [World.cell?] at h
  rcases Nat.lt_or_ge b w.heap.size with k | k
  · exact k
  · exfalso
    rw [Array.getElem?_eq_none k] at h
    simp at h
theorem heap_lt {w : World} {c : Nat} {o : Obj} (h : w.heap[c]? = some o) : c < w.heap.size := by
  rcases Nat.lt_or_ge c w.heap.size with k | k
  · exact k
  · rw [Array.getElem?_eq_none k] at h; cases h
theorem wpList_append_run {P : Program} {w : World} {ops : Array Oper} {rest : List Oper} {o : Oper} {a : Act} {Q : Exit → Act → World → Prop} (hgd : o.guard = none) (s x : Operand) (t : TypeId)
    (ho : o.op = .call { callee := .builtin .append, args := #[s, x], argTypes := #[t, t] }) (hty : o.type = t) (v u : Value) (hs : a.eval s = v) (hx : a.eval x = u)
    (v' : Value) (w' : World) (hrun : (Builtin.append_ #[t, t] t #[v, u]).run P w = .ok v' w') (h : wpList P ops Q rest (a.put o.dst v') w') : wpList P ops Q (o :: rest) a w := by
  refine wpList_plain hgd fun K hK => ?_
  rw [← hty] at hrun
  unfold Oper.wp
  rw [hty] at hrun
  simp only [execOp, ho, resolve, invoke, builtin, Sem.run_bind, Sem.run_pure, Result.andThen_ok, List.map_toArray, List.map_cons, List.map_nil, hs, hx, hty, hrun]
  exact hK _ _ h

theorem owns_up {w w' : World} {B : Nat} {T : TypeId} {k n : Nat} {v : Value} {xs : List Value} (h : w.ownsRow B T k v n xs) (hb : Below w.heap.size w w') : w'.ownsRow B T k v n xs := by
  refine ⟨h.1, ?_⟩
  rcases h.2 with h' | ⟨g, cap, cur, h1, h2, h3, h4⟩
  · exact .inl h'
  · exact .inr ⟨g, cap, cur, h1, h2, by rw [hb.block g (heap_lt h3)]; exact h3, h4⟩
theorem owns_low {w : World} {B : Nat} {T : TypeId} {k n : Nat} {v : Value} {xs : List Value} (h : w.ownsRow B T k v n xs) : ∀ j, v.ownBlock = some j → B ≤ j := by
  intro j hj
  rcases h.2 with ⟨rfl, _⟩ | ⟨g, cap, cur, rfl, h2, _⟩
  · simp [Value.ownBlock] at hj
  · simp [Value.ownBlock] at hj; omega
theorem owns_ne {w : World} {B : Nat} {e T : TypeId} {k n : Nat} {v : Value} {xs : List Value} {b : Nat} {cs : Array Value} {fr : Nat × Nat} (hown : w.ownsRow B e k v n xs) (hb : w.heap[b]? = some (.cells cs T fr)) (hTe : T ≠ e) : v.ownBlock ≠ some b := by
  rcases hown.2 with ⟨rfl, _⟩ | ⟨g, cap, cur, rfl, _, hg, _⟩
  · simp [Value.ownBlock]
  · intro h
    simp only [Value.ownBlock, Option.some.injEq] at h
    subst h
    rw [hg] at hb
    simp only [Option.some.injEq, Obj.cells.injEq] at hb
    exact hTe hb.2.1.symm
theorem owns_slice {w : World} {B : Nat} {T : TypeId} {k n : Nat} {v : Value} {xs : List Value} (h : w.ownsRow B T k v n xs) : ∃ ao cap, v = .slice ao n cap ∧ n ≤ cap ∧ cap ≤ maxLen := by
  rcases h.2 with ⟨rfl, rfl⟩ | ⟨g, cap, cur, rfl, _, _, h1, h2, _⟩
  · exact ⟨none, 0, rfl, Nat.le_refl _, Nat.zero_le _⟩
  · exact ⟨_, _, rfl, h1, h2⟩

/-- All is as it was but for block g. -/
structure Oth (g : Nat) (w0 wr : World) : Prop where
  os : wr.os = w0.os
  tape : wr.tape = w0.tape
  output : wr.output = w0.output
  size : wr.heap.size = w0.heap.size
  block : ∀ b, b ≠ g → wr.heap[b]? = w0.heap[b]?

theorem Oth.refl (g : Nat) (w : World) : Oth g w w := ⟨rfl, rfl, rfl, rfl, fun _ _ => rfl⟩
theorem Oth.set {g : Nat} {w0 wr : World} (h : Oth g w0 wr) (j : Nat) (u : Value) : Oth g w0 (wr.setCell ⟨g, j, none⟩ u) :=
  ⟨h.os, h.tape, h.output, by rw [← h.size]; simp [World.setCell], fun b hb => by rw [Below.heap_setCell _ _ _ _ hb]; exact h.block b hb⟩
theorem Oth.cell {g : Nat} {w0 wr : World} (h : Oth g w0 wr) {a : Addr} (ha : a.block ≠ g) : wr.cell? a = w0.cell? a := World.cell?_of_block (w := w0) (h.block _ ha)
theorem Oth.below {g B : Nat} {w0 wr : World} (h : Oth g w0 wr) (hg : B ≤ g) : Below B w0 wr :=
  ⟨h.os, h.tape, h.output, by rw [h.size]; exact Nat.le_refl _, fun b hb => h.block b (by omega)⟩

/-- Block b holds just these cells. -/
def Bk (w : World) (b : Nat) (t : TypeId) (vs : List Value) : Prop := w.heap[b]? = some (.cells vs.toArray t (0, 0))

theorem Bk.lt {w : World} {b : Nat} {t : TypeId} {vs : List Value} (h : Bk w b t vs) : b < w.heap.size := by
  rcases Nat.lt_or_ge b w.heap.size with k | k
  · exact k
  · unfold Bk at h; rw [Array.getElem?_eq_none k] at h; cases h
theorem Bk.cell {w : World} {b : Nat} {t : TypeId} {vs : List Value} (h : Bk w b t vs) (j : Nat) : w.cell? ⟨b, j, none⟩ = vs[j]? := by
  rw [cell_of_row w b j _ _ _ h]; simp
theorem Bk.frz {w : World} {b : Nat} {t : TypeId} {vs : List Value} (h : Bk w b t vs) (j : Nat) : w.frozen? ⟨b, j, none⟩ = false := frozen_of_row w _ j _ _ h
theorem Bk.new (w : World) (t : TypeId) (vs : Array Value) : Bk (w.alloc (.cells vs t)) w.heap.size t vs.toList := by
  show _ = _
  rw [heap_alloc_new w _]
theorem Bk.up {w w' : World} {b : Nat} {t : TypeId} {vs : List Value} (h : Bk w b t vs) (hb : Below w.heap.size w w') : Bk w' b t vs := by unfold Bk; rw [hb.block b h.lt]; exact h
theorem Bk.alloc {w : World} {b : Nat} {t : TypeId} {vs : List Value} (h : Bk w b t vs) (o : Obj) : Bk (w.alloc o) b t vs := h.up (below_alloc _ _)
theorem Bk.oth {w w' : World} {b g : Nat} {t : TypeId} {vs : List Value} (h : Bk w b t vs) (ho : Oth g w w') (hb : b ≠ g) : Bk w' b t vs := by unfold Bk; rw [ho.block b hb]; exact h
theorem Bk.set {w : World} {b : Nat} {t : TypeId} {vs : List Value} (h : Bk w b t vs) (j : Nat) (v : Value) : Bk (w.setCell ⟨b, j, none⟩ v) b t (vs.set j v) := by
  unfold Bk
  rw [heap_setCell_same w b j _ _ _ h]
  simp
theorem Bk.there {w : World} {b : Nat} {t : TypeId} {vs : List Value} (h : Bk w b t vs) (o n : Nat) (hn : o + n ≤ vs.length) : w.there b o n := by
  intro j hj
  refine ⟨?_, h.frz _⟩
  rw [h.cell, List.getElem?_eq_getElem (by omega)]
  rfl
theorem Bk.range {w : World} {b : Nat} {t : TypeId} {vs : List Value} (h : Bk w b t vs) (o n : Nat) : w.rangeAt b o ((vs.drop o).take n) := by
  intro j v hv
  rw [h.cell]
  have hj := (List.getElem?_eq_some_iff.1 hv).1
  rw [List.getElem?_take, List.getElem?_drop] at hv
  split at hv
  · exact hv
  · cases hv

/-- A row written over a part of another. -/
def over (vs : List Value) (o : Nat) : List Value → List Value
  | [] => vs
  | x :: xs => over (vs.set o x) (o + 1) xs

theorem over_len (xs : List Value) : ∀ (vs : List Value) (o : Nat), (over vs o xs).length = vs.length := by
  induction xs with
  | nil => intro vs o; rfl
  | cons x xs ih => intro vs o; rw [over, ih]; simp

theorem Bk.sets {b : Nat} {t : TypeId} (xs : List Value) : ∀ {w : World} {vs : List Value} (_ : Bk w b t vs) (o : Nat), Bk (w.setCells b o xs) b t (over vs o xs) ∧ Oth b w (w.setCells b o xs) := by
  induction xs with
  | nil => intro w vs h o; exact ⟨h, Oth.refl _ _⟩
  | cons x xs ih =>
    intro w vs h o
    obtain ⟨h1, h2⟩ := ih (h.set o x) (o + 1)
    refine ⟨h1, ?_⟩
    have h3 := (Oth.refl b w).set o x
    exact ⟨h2.os.trans h3.os, h2.tape.trans h3.tape, h2.output.trans h3.output, h2.size.trans h3.size, fun k hk => (h2.block k hk).trans (h3.block k hk)⟩

/-- A struct stored into a block. -/
theorem wpList_storeN {ops : Array Oper} {rest : List Oper} {op : Oper} {a : Act} {w : World} {Q : Exit → Act → World → Prop} (hgd : op.guard = none) (ty : TypeId) (x y : Operand) (ho : op.op = .store ty x y)
    (b o : Nat) (xs : List Value) (hx : a.eval x = .pointer (some ⟨b, o, none⟩)) (hy : a.eval y = .agg xs.toArray) {t : TypeId} {vs : List Value} (hS : Bk w b t vs) (hl : o + xs.length ≤ vs.length)
    (hi : (Try.prog.info? ty).map (·.size) = some xs.length) (h1 : ∀ v ∈ xs, v.oneCell' = true)
    (h : ∀ w', Bk w' b t (over vs o xs) → Oth b w w' → wpList Try.prog ops Q rest (a.put op.dst undef) w') : wpList Try.prog ops Q (op :: rest) a w := by
  refine wpList_store_mid hgd ty x y ho b o xs.toArray hx hy (by simpa using hS.there o xs.length hl) (by simpa using hi) (all_oneCell_toArray h1) ?_
  obtain ⟨h2, h3⟩ := hS.sets xs o
  exact h _ h2 h3

/-- A struct loaded out of memory. -/
theorem wpList_loadN {ops : Array Oper} {rest : List Oper} {op : Oper} {a : Act} {w : World} {Q : Exit → Act → World → Prop} (hgd : op.guard = none) (ty : TypeId) (x : Operand) (ho : op.op = .load ty x)
    (b o : Nat) (hx : a.eval x = .pointer (some ⟨b, o, none⟩)) (xs : List Value) (fs : Array Field) (hS : w.rangeAt b o xs) (hu : Try.prog.underlying ty = some (.struct fs)) (hi : (Try.prog.info? ty).map (·.size) = some xs.length)
    (h : wpList Try.prog ops Q rest (a.put op.dst (.agg xs.toArray)) w) : wpList Try.prog ops Q (op :: rest) a w :=
  wpList_load_mid hgd ty x ho b o hx xs _ hS hu rfl hi h

end Go.Proofs.Ytcknekfhdggmoaa
