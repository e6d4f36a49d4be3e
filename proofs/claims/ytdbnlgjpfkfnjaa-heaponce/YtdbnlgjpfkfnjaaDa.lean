/-
  Blocks of cells, whole and in part, read and written; what stays but for one block.
-/
import Derived.Test.YtdbnlgjpfkfnjaaDz
import Derived.Maps.AppendAt
import Derived.Laws.AppendOwnNone
import Derived.Deep.MidRow
import Derived.WalkLawsBesides
import Derived.OwnWalk
import Derived.Laws.OwnMore
import Derived.Deep.RegionWith
import Derived.Deep.RegionLaw
namespace Go.Proofs.Ytdbnlgjpfkfnjaa
open Go.RowKit
open Go.Lib
set_option maxRecDepth 100000

theorem below_alloc (w : World) (o : Obj) : Below w.heap.size w (w.alloc o) := Below.alloc (Below.refl _ _) (Nat.le_refl _) _
theorem Below.thn {a b c : World} (h : Below a.heap.size a b) (k : Below b.heap.size b c) : Below a.heap.size a c := h.trans (k.mono h.size)
theorem cell_lt {w : World} {b o : Nat} {v : Value} (h : w.cell? ⟨b, o, none⟩ = some v) : b < w.heap.size := by
  simp only [World.cell?] at h
  rcases Nat.lt_or_ge b w.heap.size with k | k
  · exact k
  · exfalso
    rw [Array.getElem?_eq_none k] at h
    simp at h
theorem heap_lt {w : World} {c : Nat} {o : Obj} (h : w.heap[c]? = some o) : c < w.heap.size := by
  rcases Nat.lt_or_ge c w.heap.size with k | k
  · exact k
  · rw [Array.getElem?_eq_none k] at h; cases h
theorem wpList_append_run {P : Program} {w : World} {ops : Array Oper} {rest : List Oper} {o : Oper} {a : Act} {Q : Exit → Act → World → Prop} (hgd : o.guard = none) (s x : Operand) (t : TypeId)
    (ho : o.op = .call { callee := .builtin .append, args := #[s, x], argTypes := #[t, t] }) (hty : o.type = t) (v u : Value) (hs : a.eval s = v) (hx : a.eval x = u)
    (v' : Value) (w' : World) (hrun : (Builtin.append_ #[t, t] t #[v, u]).run P w = .ok v' w') (h : wpList P ops Q rest (a.put o.dst v') w') : wpList P ops Q (o :: rest) a w := by
  refine wpList_plain hgd fun K hK => ?_
  rw [← hty] at hrun
  unfold Oper.wp
  rw [hty] at hrun
  simp only [execOp, ho, resolve, invoke, builtin, Sem.run_bind, Sem.run_pure, Result.andThen_ok, List.map_toArray, List.map_cons, List.map_nil, hs, hx, hty, hrun]
  exact hK _ _ h

theorem owns_up {w w' : World} {B : Nat} {T : TypeId} {k n : Nat} {v : Value} {xs : List Value} (h : w.ownsRow B T k v n xs) (hb : Below w.heap.size w w') : w'.ownsRow B T k v n xs := by
  refine ⟨h.1, ?_⟩
  rcases h.2 with h' | ⟨g, cap, cur, h1, h2, h3, h4⟩
  · exact .inl h'
  · exact .inr ⟨g, cap, cur, h1, h2, by rw [hb.block g (heap_lt h3)]; exact h3, h4⟩
theorem owns_low {w : World} {B : Nat} {T : TypeId} {k n : Nat} {v : Value} {xs : List Value} (h : w.ownsRow B T k v n xs) : ∀ j, v.ownBlock = some j → B ≤ j := by
  intro j hj
  rcases h.2 with ⟨rfl, _⟩ | ⟨g, cap, cur, rfl, h2, _⟩
  · simp [Value.ownBlock] at hj
  · simp [Value.ownBlock] at hj; omega
theorem owns_ne {w : World} {B : Nat} {e T : TypeId} {k n : Nat} {v : Value} {xs : List Value} {b : Nat} {cs : Array Value} {fr : Nat × Nat} (hown : w.ownsRow B e k v n xs) (hb : w.heap[b]? = some (.cells cs T fr)) (hTe : T ≠ e) : v.ownBlock ≠ some b := by
  rcases hown.2 with ⟨rfl, _⟩ | ⟨g, cap, cur, rfl, _, hg, _⟩
  · simp [Value.ownBlock]
  · intro h
    simp only [Value.ownBlock, Option.some.injEq] at h
    subst h
    rw [hg] at hb
    simp only [Option.some.injEq, Obj.cells.injEq] at hb
    exact hTe hb.2.1.symm
theorem owns_slice {w : World} {B : Nat} {T : TypeId} {k n : Nat} {v : Value} {xs : List Value} (h : w.ownsRow B T k v n xs) : ∃ ao cap, v = .slice ao n cap ∧ n ≤ cap ∧ cap ≤ maxLen := by
  rcases h.2 with ⟨rfl, rfl⟩ | ⟨g, cap, cur, rfl, _, _, h1, h2, _⟩
  · exact ⟨none, 0, rfl, Nat.le_refl _, Nat.zero_le _⟩
  · exact ⟨_, _, rfl, h1, h2⟩

/-- All is as it was but for block g. -/
structure Oth (g : Nat) (w0 wr : World) : Prop where
  os : wr.os = w0.os
  tape : wr.tape = w0.tape
  output : wr.output = w0.output
  size : wr.heap.size = w0.heap.size
  block : ∀ b, b ≠ g → wr.heap[b]? = w0.heap[b]?

theorem Oth.refl (g : Nat) (w : World) : Oth g w w := ⟨rfl, rfl, rfl, rfl, fun _ _ => rfl⟩
theorem Oth.set {g : Nat} {w0 wr : World} (h : Oth g w0 wr) (j : Nat) (u : Value) : Oth g w0 (wr.setCell ⟨g, j, none⟩ u) :=
  ⟨h.os, h.tape, h.output, by rw [← h.size]; simp [World.setCell], fun b hb => by rw [Below.heap_setCell _ _ _ _ hb]; exact h.block b hb⟩
theorem Oth.cell {g : Nat} {w0 wr : World} (h : Oth g w0 wr) {a : Addr} (ha : a.block ≠ g) : wr.cell? a = w0.cell? a := World.cell?_of_block (w := w0) (h.block _ ha)
theorem Oth.below {g B : Nat} {w0 wr : World} (h : Oth g w0 wr) (hg : B ≤ g) : Below B w0 wr :=
  ⟨h.os, h.tape, h.output, by rw [h.size]; exact Nat.le_refl _, fun b hb => h.block b (by omega)⟩

/-- Block b holds just these cells. -/
def Bk (w : World) (b : Nat) (t : TypeId) (vs : List Value) : Prop := w.heap[b]? = some (.cells vs.toArray t (0, 0))

theorem Bk.lt {w : World} {b : Nat} {t : TypeId} {vs : List Value} (h : Bk w b t vs) : b < w.heap.size := by
  rcases Nat.lt_or_ge b w.heap.size with k | k
  · exact k
  · unfold Bk at h; rw [Array.getElem?_eq_none k] at h; cases h
theorem Bk.cell {w : World} {b : Nat} {t : TypeId} {vs : List Value} (h : Bk w b t vs) (j : Nat) : w.cell? ⟨b, j, none⟩ = vs[j]? := by
  rw [cell_of_row w b j _ _ _ h]; simp
theorem Bk.frz {w : World} {b : Nat} {t : TypeId} {vs : List Value} (h : Bk w b t vs) (j : Nat) : w.frozen? ⟨b, j, none⟩ = false := frozen_of_row w _ j _ _ h
theorem Bk.new (w : World) (t : TypeId) (vs : Array Value) : Bk (w.alloc (.cells vs t)) w.heap.size t vs.toList := by
  show _ = _
  rw [heap_alloc_new w _]
theorem Bk.up {w w' : World} {b : Nat} {t : TypeId} {vs : List Value} (h : Bk w b t vs) (hb : Below w.heap.size w w') : Bk w' b t vs := by unfold Bk; rw [hb.block b h.lt]; exact h
theorem Bk.alloc {w : World} {b : Nat} {t : TypeId} {vs : List Value} (h : Bk w b t vs) (o : Obj) : Bk (w.alloc o) b t vs := h.up (below_alloc _ _)
theorem Bk.oth {w w' : World} {b g : Nat} {t : TypeId} {vs : List Value} (h : Bk w b t vs) (ho : Oth g w w') (hb : b ≠ g) : Bk w' b t vs := by unfold Bk; rw [ho.block b hb]; exact h
theorem Bk.set {w : World} {b : Nat} {t : TypeId} {vs : List Value} (h : Bk w b t vs) (j : Nat) (v : Value) : Bk (w.setCell ⟨b, j, none⟩ v) b t (vs.set j v) := by
  unfold Bk
  rw [heap_setCell_same w b j _ _ _ h]
  simp
theorem Bk.there {w : World} {b : Nat} {t : TypeId} {vs : List Value} (h : Bk w b t vs) (o n : Nat) (hn : o + n ≤ vs.length) : w.there b o n := by
  intro j hj
  refine ⟨?_, h.frz _⟩
  rw [h.cell, List.getElem?_eq_getElem (by omega)]
  rfl
theorem Bk.range {w : World} {b : Nat} {t : TypeId} {vs : List Value} (h : Bk w b t vs) (o n : Nat) : w.rangeAt b o ((vs.drop o).take n) := by
  intro j v hv
  rw [h.cell]
  have hj := (List.getElem?_eq_some_iff.1 hv).1
  rw [List.getElem?_take, List.getElem?_drop] at hv
  split at hv
  · exact hv
  · cases hv

/-- A row written over a part of another. -/
def over (vs : List Value) (o : Nat) : List Value → List Value
  | [] => vs
  | x :: xs => over (vs.set o x) (o + 1) xs

theorem over_len (xs : List Value) : ∀ (vs : List Value) (o : Nat), (over vs o xs).length = vs.length := by
  induction xs with
  | nil => intro vs o; rfl
  | cons x xs ih => intro vs o; rw [over, ih]; simp

theorem Bk.sets {b : Nat} {t : TypeId} (xs : List Value) : ∀ {w : World} {vs : List Value} (_ : Bk w b t vs) (o : Nat), Bk (w.setCells b o xs) b t (over vs o xs) ∧ Oth b w (w.setCells b o xs) := by
  induction xs with
  | nil => intro w vs h o; exact ⟨h, Oth.refl _ _⟩
  | cons x xs ih =>
    intro w vs h o
    obtain ⟨h1, h2⟩ := ih (h.set o x) (o + 1)
    refine ⟨h1, ?_⟩
    have h3 := (Oth.refl b w).set o x
    exact ⟨h2.os.trans h3.os, h2.tape.trans h3.tape, h2.output.trans h3.output, h2.size.trans h3.size, fun k hk => (h2.block k hk).trans (h3.block k hk)⟩

/-- A struct stored into a block. -/
theorem wpList_storeN {ops : Array Oper} {rest : List Oper} {op : Oper} {a : Act} {w : World} {Q : Exit → Act → World → Prop} (hgd : op.guard = none) (ty : TypeId) (x y : Operand) (ho : op.op = .store ty x y)
    (b o : Nat) (xs : List Value) (hx : a.eval x = .pointer (some ⟨b, o, none⟩)) (hy : a.eval y = .agg xs.toArray) {t : TypeId} {vs : List Value} (hS : Bk w b t vs) (hl : o + xs.length ≤ vs.length)
    (hi : (Try.prog.info? ty).map (·.size) = some xs.length) (h1 : ∀ v ∈ xs, v.oneCell' = true)
    (h : ∀ w', Bk w' b t (over vs o xs) → Oth b w w' → wpList Try.prog ops Q rest (a.put op.dst undef) w') : wpList Try.prog ops Q (op :: rest) a w := by
  refine wpList_store_mid hgd ty x y ho b o xs.toArray hx hy (by simpa using hS.there o xs.length hl) (by simpa using hi) (all_oneCell_toArray h1) ?_
  obtain ⟨h2, h3⟩ := hS.sets xs o
  exact h _ h2 h3

/-- A struct loaded out of memory. -/
theorem wpList_loadN {ops : Array Oper} {rest : List Oper} {op : Oper} {a : Act} {w : World} {Q : Exit → Act → World → Prop} (hgd : op.guard = none) (ty : TypeId) (x : Operand) (ho : op.op = .load ty x)
    (b o : Nat) (hx : a.eval x = .pointer (some ⟨b, o, none⟩)) (xs : List Value) (fs : Array Field) (hS : w.rangeAt b o xs) (hu : Try.prog.underlying ty = some (.struct fs)) (hi : (Try.prog.info? ty).map (·.size) = some xs.length)
    (h : wpList Try.prog ops Q rest (a.put op.dst (.agg xs.toArray)) w) : wpList Try.prog ops Q (op :: rest) a w :=
  wpList_load_mid hgd ty x ho b o hx xs _ hS hu rfl hi h

/-- All that was there is as it was, but for block R. -/
structure But (R : Nat) (w w' : World) : Prop where
  os : w'.os = w.os
  tape : w'.tape = w.tape
  output : w'.output = w.output
  size : w.heap.size ≤ w'.heap.size
  block : ∀ k, k < w.heap.size → k ≠ R → w'.heap[k]? = w.heap[k]?

theorem But.refl (R : Nat) (w : World) : But R w w := ⟨rfl, rfl, rfl, Nat.le_refl _, fun _ _ _ => rfl⟩
theorem But.trans {R : Nat} {a b c : World} (h : But R a b) (k : But R b c) : But R a c :=
  ⟨k.os.trans h.os, k.tape.trans h.tape, k.output.trans h.output, Nat.le_trans h.size k.size, fun i hi hn => (k.block i (Nat.lt_of_lt_of_le hi h.size) hn).trans (h.block i hi hn)⟩
theorem bel_but {w w' : World} (h : Below w.heap.size w w') (R : Nat) : But R w w' := ⟨h.os, h.tape, h.output, h.size, fun k hk _ => h.block k hk⟩
theorem But.then {R : Nat} {a b c : World} (h : But R a b) (k : Below b.heap.size b c) : But R a c := h.trans (bel_but k R)
theorem Oth.but {R g : Nat} {a b c : World} (h : Oth g b c) (k : But R a b) (hg : a.heap.size ≤ g) : But R a c :=
  ⟨h.os.trans k.os, h.tape.trans k.tape, h.output.trans k.output, by rw [h.size]; exact k.size, fun i hi hn => (h.block i (by omega)).trans (k.block i hi hn)⟩
theorem But.setR {R j : Nat} {a b : World} (h : But R a b) (v : Value) : But R a (b.setCell ⟨R, j, none⟩ v) :=
  ⟨h.os, h.tape, h.output, by simpa [World.setCell] using h.size, fun i hi hn => by rw [Below.heap_setCell _ _ _ _ hn]; exact h.block i hi hn⟩
theorem But.drew {R : Nat} {a b : World} (h : But R a b) : But R a b.drew := ⟨h.os, h.tape, h.output, h.size, h.block⟩
theorem But.drewN {R : Nat} {a b : World} (h : But R a b) (q : Nat) : But R a (b.drewN q) := ⟨h.os, h.tape, h.output, h.size, h.block⟩
theorem But.below {R B : Nat} {a b : World} (h : But R a b) (hB : B ≤ R) (hs : B ≤ a.heap.size) : Below B a b := ⟨h.os, h.tape, h.output, h.size, fun k hk => h.block k (by omega) (by omega)⟩
theorem Bk.but {w w' : World} {b R : Nat} {t : TypeId} {vs : List Value} (h : Bk w b t vs) (hb : But R w w') (hn : b ≠ R) : Bk w' b t vs := by unfold Bk; rw [hb.block b h.lt hn]; exact h
theorem range_but {w w' : World} {b o R : Nat} {vs : List Value} (h : w.rangeAt b o vs) (hv : vs ≠ []) (hb : But R w w') (hn : b ≠ R) : w'.rangeAt b o vs := by
  intro j v hj
  have hl : b < w.heap.size := by
    cases vs with
    | nil => exact absurd rfl hv
    | cons x xs => exact cell_lt (h 0 x rfl)
  rw [show w'.cell? ⟨b, o + j, none⟩ = w.cell? ⟨b, o + j, none⟩ from World.cell?_of_block (w := w) (hb.block b hl hn)]
  exact h j v hj

/-- An append whose run is known, as a step of a region that draws its order. -/
theorem step_append_runU {P : Program} {ops : Array Oper} {o : Oper} {a : Act} {w : World} {K : Act → World → Prop} {Q : Exit → Act → World → Prop} {E : Prop}
    (hg : o.guard = none) (s x : Operand) (t u : TypeId) (hop : o.op = Op.call { callee := Callee.builtin Builtin.append, args := #[s, x], argTypes := #[t, u] }) (hty : o.type = t)
    (v y : Value) (hs : a.eval s = v) (hx : a.eval x = y) (v' : Value) (w' : World) (hrun : (Builtin.append_ #[t, u] t #[v, y]).run P w = .ok v' w') (hK : K (a.put o.dst v') w') :
    if Region.wanted o (yielded ops a.tmps) = true then Oper.wp P o a w K Q else E := by
  have hw : Region.wanted o (yielded ops a.tmps) = true := by simp [Region.wanted, hg]
  rw [if_pos hw]
  unfold Oper.wp
  rw [← hty] at hrun
  simp only [execOp, hop, resolve, invoke, builtin, Sem.run_bind, Sem.run_pure, Result.andThen_ok, List.map_toArray, List.map_cons, List.map_nil, hs, hx]
  rw [hty] at hrun ⊢
  rw [hrun]
  exact hK

theorem one4 (t : Int) (a b : Nat) (r : Bool) (ao : Option Addr) (n c : Nat) : ∀ v ∈ ([.int .i64 t, .complex .f64 a b, .bool r, .slice ao n c] : List Value), v.oneCell' = true := by
  intro v hv; simp only [List.mem_cons, List.not_mem_nil, or_false] at hv; rcases hv with rfl | rfl | rfl | rfl <;> rfl

/-- All that lay there lies there still, but for the blocks of S. -/
structure ButS (S : Nat → Prop) (w w' : World) : Prop where
  os : w'.os = w.os
  tape : w'.tape = w.tape
  output : w'.output = w.output
  size : w.heap.size ≤ w'.heap.size
  block : ∀ k, k < w.heap.size → ¬ S k → w'.heap[k]? = w.heap[k]?
section
variable {S S' : Nat → Prop} {w w' w'' : World}
theorem ButS.refl (S : Nat → Prop) (w : World) : ButS S w w := ⟨rfl, rfl, rfl, Nat.le_refl _, fun _ _ _ => rfl⟩
theorem ButS.trans (h : ButS S w w') (k : ButS S w' w'') : ButS S w w'' :=
  ⟨k.os.trans h.os, k.tape.trans h.tape, k.output.trans h.output, Nat.le_trans h.size k.size, fun b hb hs => (k.block b (Nat.lt_of_lt_of_le hb h.size) hs).trans (h.block b hb hs)⟩
theorem ButS.mono (h : ButS S w w') (hs : ∀ b, S b → S' b) : ButS S' w w' := ⟨h.os, h.tape, h.output, h.size, fun b hb hn => h.block b hb fun k => hn (hs b k)⟩
theorem ButS.below (h : Below w.heap.size w w') : ButS S w w' := ⟨h.os, h.tape, h.output, h.size, fun b hb _ => h.block b hb⟩
theorem ButS.grown {b : Nat} (h : w.grownBy w' (some b)) : ButS (· = b) w w' := ⟨h.os, h.tape, h.output, h.size, fun k hk hn => h.block k hk fun e => hn (Option.some.inj e)⟩
theorem ButS.oth {b : Nat} (h : Oth b w w') : ButS (· = b) w w' := ⟨h.os, h.tape, h.output, by rw [h.size]; exact Nat.le_refl _, fun k _ hn => h.block k hn⟩
theorem ButS.toBelow {B : Nat} (h : ButS S w w') (hB : B ≤ w.heap.size) (hs : ∀ b, S b → B ≤ b) : Below B w w' :=
  ⟨h.os, h.tape, h.output, h.size, fun k hk => h.block k (by omega) fun e => by have := hs k e; omega⟩
theorem ButS.bk (h : ButS S w w') {b : Nat} {t : TypeId} {vs : List Value} (hb : Bk w b t vs) (hn : ¬ S b) : Bk w' b t vs := (h.block b hb.lt hn).trans hb
end

/-! ## Rows of structs of the call's own -/
theorem fm_len {α : Type} {C : α → List Value} {k : Nat} (hC : ∀ x, (C x).length = k) : ∀ xs : List α, (xs.flatMap C).length = xs.length * k
  | [] => by simp
  | x :: xs => by rw [List.flatMap_cons, List.length_append, hC, fm_len hC xs, List.length_cons, Nat.add_mul]; omega
theorem fm_take {α : Type} {C : α → List Value} {k : Nat} (hC : ∀ x, (C x).length = k) : ∀ (xs : List α) (i : Nat), i ≤ xs.length → (xs.take i).flatMap C = (xs.flatMap C).take (i * k)
  | [], i, h => by simp
  | x :: xs, 0, _ => by simp
  | x :: xs, i + 1, h => by
    rw [List.take_succ_cons, List.flatMap_cons, List.flatMap_cons, fm_take hC xs i (by simpa using h), Nat.add_mul, Nat.one_mul, Nat.add_comm, ← hC x, List.take_length_add_append]
theorem fm_drop {α : Type} {C : α → List Value} {k : Nat} (hC : ∀ x, (C x).length = k) : ∀ (xs : List α) (i : Nat), i ≤ xs.length → (xs.drop i).flatMap C = (xs.flatMap C).drop (i * k)
  | [], i, h => by simp
  | x :: xs, 0, _ => by simp
  | x :: xs, i + 1, h => by
    rw [List.drop_succ_cons, List.flatMap_cons, fm_drop hC xs i (by simpa using h), Nat.add_mul, Nat.one_mul, Nat.add_comm, ← hC x, List.drop_length_add_append]
theorem fm_get {α : Type} {C : α → List Value} {k : Nat} (hC : ∀ x, (C x).length = k) (d : α) : ∀ (xs : List α) (i j : Nat) (v : Value), i < xs.length → (C (xs.getD i d))[j]? = some v → (xs.flatMap C)[i * k + j]? = some v
  | [], i, _, _, h, _ => by simp at h
  | x :: xs, 0, j, v, _, h => by
    rw [List.getD_cons_zero] at h
    have hj := (List.getElem?_eq_some_iff.1 h).1
    rw [List.flatMap_cons, Nat.zero_mul, Nat.zero_add, List.getElem?_append_left hj]
    exact h
  | x :: xs, i + 1, j, v, hi, h => by
    rw [List.getD_cons_succ] at h
    rw [List.flatMap_cons, List.getElem?_append_right (by rw [hC, Nat.add_mul]; omega), show (i + 1) * k + j - (C x).length = i * k + j by rw [hC, Nat.add_mul]; omega]
    exact fm_get hC d xs i j v (by simpa using hi) h
theorem over_eq (ys : List Value) : ∀ (vs : List Value) (o : Nat), o + ys.length ≤ vs.length → over vs o ys = vs.take o ++ (ys ++ vs.drop (o + ys.length)) := by
  induction ys with
  | nil => intro vs o _; simp [over]
  | cons y ys ih =>
    intro vs o h
    rw [List.length_cons] at h
    rw [over, ih _ _ (by rw [List.length_set]; omega), List.drop_set_of_lt (by omega), List.take_set, List.length_cons, show o + (ys.length + 1) = o + 1 + ys.length by omega]
    rw [List.take_add_one, List.set_append]
    have ho : (vs.take o).length = o := by rw [List.length_take]; omega
    rw [if_neg (by omega), ho, Nat.sub_self, List.getElem?_eq_getElem (by omega)]
    simp
/-- A row of structs. -/
def Rows_ {α : Type} (w : World) (T : TypeId) (k : Nat) (C : α → List Value) (v : Value) (xs : List α) : Prop := w.ownsRow 0 T k v xs.length (xs.flatMap C)
section
variable {α : Type} {w w' : World} {T : TypeId} {k : Nat} {C : α → List Value} {v : Value} {xs : List α}
theorem Rows_.nil (w : World) (T : TypeId) (k : Nat) (C : α → List Value) : Rows_ w T k C (.slice none 0 0) [] := World.ownsRow_nil _ _ _ _
theorem Rows_.keep (h : Rows_ w T k C v xs) (hk : ∀ g, v.ownBlock = some g → w'.heap[g]? = w.heap[g]?) : Rows_ w' T k C v xs := by
  refine ⟨h.1, ?_⟩
  rcases h.2 with h' | ⟨g, cap, cur, h1, h2, h3, h4⟩
  · exact .inl h'
  · exact .inr ⟨g, cap, cur, h1, h2, by rw [hk g (by rw [h1]; rfl)]; exact h3, h4⟩
theorem Rows_.lt (h : Rows_ w T k C v xs) {g : Nat} (hg : v.ownBlock = some g) : g < w.heap.size := by
  rcases h.2 with ⟨rfl, _⟩ | ⟨g', cap, cur, rfl, _, h3, _⟩
  · cases hg
  · cases hg; exact heap_lt h3
theorem Rows_.slice (h : Rows_ w T k C v xs) : ∃ ao cap, v = .slice ao xs.length cap ∧ xs.length ≤ cap ∧ cap ≤ maxLen := owns_slice h
/-- An element of it. -/
theorem Rows_.at (h : Rows_ w T k C v xs) (hC : ∀ x, (C x).length = k) (d : α) {i : Nat} (hi : i < xs.length) :
    ∃ g cap, v = .slice (some ⟨g, 0, none⟩) xs.length cap ∧ xs.length ≤ cap ∧ cap ≤ maxLen ∧ w.rangeAt g (i * k) (C (xs.getD i d)) := by
  rcases h.2 with ⟨_, h0⟩ | ⟨g, c, cur, rfl, hb, hg, h1, h2, h3, h4⟩
  · omega
  · refine ⟨g, c, rfl, h1, h2, fun j u hj => ?_⟩
    have hp := fm_get hC d xs i j u hi hj
    have hl : i * k + j < (xs.flatMap C).length := (List.getElem?_eq_some_iff.1 hp).1
    rw [fm_len hC] at hl
    have h5 : (cur.toList.take (xs.length * k))[i * k + j]? = some u := by rw [h4]; exact hp
    rw [List.getElem?_take_of_lt hl] at h5
    unfold World.cell?
    simp only [hg]
    simpa using h5
/-- One more appended, which lies from a on. -/
theorem Rows_.app {P : Program} (h : Rows_ w T k C v xs) (hC : ∀ x, (C x).length = k) (h1 : ∀ x, ∀ u ∈ C x, u.oneCell' = true) {ts : TypeId} {bytes : Nat} {z : Value} (hu : P.underlying ts = some (.slice T))
    (hi : (P.info? T).map (fun i => (i.zero, i.size, i.bytes)) = some (some z, k, bytes)) (hzs : z.cells.size = k) (hk : 0 < k) (x : α) {a : Addr} {c : Nat} (hx : ∀ j u, (C x)[j]? = some u → w.cell? (a.add j) = some u)
    (hn : xs.length + 1 ≤ maxLen) (hb : (xs.length + 1) * bytes ≤ 140737488355328) :
    ∃ v' w', (Builtin.append_ #[ts, ts] ts #[v, .slice (some a) 1 c]).run P w = .ok v' w' ∧ Rows_ w' T k C v' (xs ++ [x]) ∧ ButS (fun g => v.ownBlock = some g) w w' ∧ (v'.ownBlock = v.ownBlock ∨ v'.ownBlock = some w.heap.size) := by
  obtain ⟨i0, hi0, hz⟩ := Option.map_eq_some_iff.1 hi
  simp only [Prod.mk.injEq] at hz
  obtain ⟨v', w', hr, ho, hg, _, hw⟩ := run_append_own_at (P := P) w 0 ts ts T i0 z k bytes hu hi0 hz.1 hz.2.1 hz.2.2 hzs hk v xs.length _ h a 1 c (C x) (by rw [hC]; omega) hx (h1 x) hn hb (Nat.zero_le _)
  refine ⟨v', w', hr, ?_, ⟨hg.os, hg.tape, hg.output, hg.size, fun b hb hn => hg.block b hb fun e => hn e.symm⟩, hw⟩
  unfold Rows_
  rw [List.length_append, List.flatMap_append, List.flatMap_singleton]
  exact ho
/-- One of them written anew. -/
theorem Rows_.set {g cap : Nat} (h : Rows_ w T k C (.slice (some ⟨g, 0, none⟩) xs.length cap) xs) (hC : ∀ x, (C x).length = k) {i : Nat} (hi : i < xs.length) (y : α) :
    w.there g (i * k) k ∧ Rows_ (w.setCells g (i * k) (C y)) T k C (.slice (some ⟨g, 0, none⟩) xs.length cap) (xs.set i y) ∧ Oth g w (w.setCells g (i * k) (C y)) := by
  rcases h.2 with ⟨h0, _⟩ | ⟨g', c, cur, e, hb, hg, h1, h2, h3, h4⟩
  · cases h0
  · cases e
    have hB : Bk w g T cur.toList := by unfold Bk; rw [Array.toArray_toList]; exact hg
    have hk : i * k + k ≤ xs.length * k := by rw [← Nat.succ_mul]; exact Nat.mul_le_mul_right _ hi
    have hck : xs.length * k ≤ cap * k := Nat.mul_le_mul_right _ h1
    have hcl : cur.toList.length = cap * k := by rw [Array.length_toList]; exact h3
    obtain ⟨B1, o1⟩ := hB.sets (C y) (i * k)
    refine ⟨hB.there _ _ (by omega), ⟨?_, .inr ⟨g, cap, (over cur.toList (i * k) (C y)).toArray, ?_, hb, B1, ?_, h2, ?_, ?_⟩⟩, o1⟩
    · rw [fm_len hC]
    · rw [List.length_set]
    · rw [List.length_set]; exact h1
    · rw [List.size_toArray, over_len]; exact hcl
    · rw [List.length_set]
      show (over cur.toList (i * k) (C y)).take (xs.length * k) = _
      rw [over_eq _ _ _ (by rw [hC]; omega), hC, List.set_eq_take_append_cons_drop, if_pos hi, List.flatMap_append, List.flatMap_cons, fm_take hC _ _ (by omega), fm_drop hC _ _ (by omega), ← h4]
      have e1 : (cur.toList.take (i * k)).length = i * k := by rw [List.length_take]; omega
      rw [List.take_append, List.take_append, e1, hC, List.take_take, List.take_take, List.drop_take, List.take_of_length_le (l := C y) (by rw [hC]; omega)]
      congr 1
      · rw [Nat.min_eq_right (by omega), Nat.min_eq_left (by omega)]
      · congr 1
        rw [Nat.add_mul, Nat.one_mul]
        congr 1
        omega
end
end Go.Proofs.Ytdbnlgjpfkfnjaa
