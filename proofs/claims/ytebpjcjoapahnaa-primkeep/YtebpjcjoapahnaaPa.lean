/-
  Rows of complex numbers of the call's own; blocks of cells, whole and in part, read and written; what stays but for one block.
-/
import Derived.Test.YtebpjcjoapahnaaVg
import Derived.Laws.AppendOwnNone
import Derived.Deep.MidRow
import Derived.WalkLawsBesides
import Derived.OwnWalk
import Derived.Laws.OwnMore
import Derived.Deep.RegionWith
import Derived.Deep.RegionLaw
namespace Go.Proofs.Ytebpjcjoapahnaa
open Go.RowKit
open Go.Lib
set_option maxRecDepth 100000

theorem heap_lt {w : World} {c : Nat} {o : Obj} (h : w.heap[c]? = some o) : c < w.heap.size := by
  rcases Nat.lt_or_ge c w.heap.size with k | k
  · exact k
  · rw [Array.getElem?_eq_none k] at h; cases h
theorem wpList_append_run {P : Program} {w : World} {ops : Array Oper} {rest : List Oper} {o : Oper} {a : Act} {Q : Exit → Act → World → Prop} (hgd : o.guard = none) (s x : Operand) (t : TypeId)
    (ho : o.op = .call { callee := .builtin .append, args := #[s, x], argTypes := #[t, t] }) (hty : o.type = t) (v u : Value) (hs : a.eval s = v) (hx : a.eval x = u)
    (v' : Value) (w' : World) (hrun : (Builtin.append_ #[t, t] t #[v, u]).run P w = .ok v' w') (h : wpList P ops Q rest (a.put o.dst v') w') : wpList P ops Q (o :: rest) a w := by
  refine wpList_plain hgd fun K hK => ?_
  rw [← hty] at hrun
  unfold Oper.wp
  rw [hty] at hrun
  simp only [execOp, ho, resolve, invoke, builtin, Sem.run_bind, Sem.run_pure, Result.andThen_ok, List.map_toArray, List.map_cons, List.map_nil, hs, hx, hty, hrun]
  exact hK _ _ h

/-- What stays where a row of these elements is written: what lies below B; every block of other things. -/
structure Kt (B : Nat) (T : TypeId) (w w' : World) : Prop where
  low : Below B w w'
  own : ∀ (c : Nat) (cs : Array Value) (t : TypeId) (fz : Nat × Nat), w.heap[c]? = some (.cells cs t fz) → t ≠ T → w'.heap[c]? = w.heap[c]?
theorem Kt.refl (B : Nat) (T : TypeId) (w : World) : Kt B T w w := ⟨Below.refl _ _, fun _ _ _ _ _ _ => rfl⟩
theorem Kt.trans {B : Nat} {T : TypeId} {w1 w2 w3 : World} (h : Kt B T w1 w2) (k : Kt B T w2 w3) : Kt B T w1 w3 :=
  ⟨h.low.trans k.low, fun c cs t fz e ht => by
    have e1 := h.own c cs t fz e ht
    rw [k.own c cs t fz (e1.trans e) ht, e1]⟩
theorem Kt.of_up {B : Nat} {T : TypeId} {w w' : World} (h : Below w.heap.size w w') (hB : B ≤ w.heap.size) : Kt B T w w' :=
  ⟨h.mono hB, fun c _ _ _ e _ => h.block c (heap_lt e)⟩
theorem Kt.size {B : Nat} {T : TypeId} {w w' : World} (h : Kt B T w w') : w.heap.size ≤ w'.heap.size := h.low.size

theorem owns_up {w w' : World} {B : Nat} {T : TypeId} {k n : Nat} {v : Value} {xs : List Value} (h : w.ownsRow B T k v n xs) (hb : Below w.heap.size w w') : w'.ownsRow B T k v n xs := by
  refine ⟨h.1, ?_⟩
  rcases h.2 with h' | ⟨g, cap, cur, h1, h2, h3, h4⟩
  · exact .inl h'
  · exact .inr ⟨g, cap, cur, h1, h2, by rw [hb.block g (heap_lt h3)]; exact h3, h4⟩
theorem owns_low {w : World} {B : Nat} {T : TypeId} {k n : Nat} {v : Value} {xs : List Value} (h : w.ownsRow B T k v n xs) : ∀ j, v.ownBlock = some j → B ≤ j := by
  intro j hj
  rcases h.2 with ⟨rfl, _⟩ | ⟨g, cap, cur, rfl, h2, _⟩
  · simp [Value.ownBlock] at hj
  · simp [Value.ownBlock] at hj; omega
theorem owns_ne {w : World} {B : Nat} {e T : TypeId} {k n : Nat} {v : Value} {xs : List Value} {b : Nat} {cs : Array Value} {fr : Nat × Nat} (hown : w.ownsRow B e k v n xs) (hb : w.heap[b]? = some (.cells cs T fr)) (hTe : T ≠ e) : v.ownBlock ≠ some b := by
  rcases hown.2 with ⟨rfl, _⟩ | ⟨g, cap, cur, rfl, _, hg, _⟩
  · simp [Value.ownBlock]
  · intro h
    simp only [Value.ownBlock, Option.some.injEq] at h
    subst h
    rw [hg] at hb
    simp only [Option.some.injEq, Obj.cells.injEq] at hb
    exact hTe hb.2.1.symm
theorem owns_slice {w : World} {B : Nat} {T : TypeId} {k n : Nat} {v : Value} {xs : List Value} (h : w.ownsRow B T k v n xs) : ∃ ao cap, v = .slice ao n cap ∧ n ≤ cap ∧ cap ≤ maxLen := by
  rcases h.2 with ⟨rfl, rfl⟩ | ⟨g, cap, cur, rfl, _, _, h1, h2, _⟩
  · exact ⟨none, 0, rfl, Nat.le_refl _, Nat.zero_le _⟩
  · exact ⟨_, _, rfl, h1, h2⟩

/-- One element just laid, appended. -/
theorem own_one (T ts : TypeId) (k bytes : Nat) (i0 : TypeInfo) (z : Value) (hu : Try.prog.underlying ts = some (.slice T)) (hi : Try.prog.info? T = some i0) (hz0 : i0.zero = some z) (hz1 : i0.size = k) (hz2 : i0.bytes = bytes) (hzs : z.cells.size = k) (hk : 0 < k)
    (w : World) (B : Nat) (v : Value) (n : Nat) (xs : List Value) (cs : Array Value) (h : w.ownsRow B T k v n xs) (hB : B ≤ w.heap.size) (hc : cs.size = k) (h1 : ∀ u ∈ cs, u.oneCell' = true) (hn : n + 1 ≤ maxLen) (hb : (n + 1) * bytes ≤ 140737488355328) :
    ∃ v' w', (Builtin.append_ #[ts, ts] ts #[v, .slice (some ⟨w.heap.size, 0, none⟩) 1 1]).run Try.prog (w.alloc (.cells cs T)) = .ok v' w' ∧ w'.ownsRow B T k v' (n + 1) (xs ++ cs.toList) ∧ Kt B T w w' := by
  have hcl : ∀ j, (w.alloc (.cells cs T)).cell? ⟨w.heap.size, j, none⟩ = cs[j]? := by
    intro j
    rw [cell_of_row (w.alloc (.cells cs T)) w.heap.size j _ _ _ (heap_alloc_new w _)]
  have hnews : ∀ j u, cs.toList[j]? = some u → (w.alloc (.cells cs T)).cell? ((⟨w.heap.size, 0, none⟩ : Addr).add j) = some u := by
    intro j u hj
    have e : (⟨w.heap.size, 0, none⟩ : Addr).add j = ⟨w.heap.size, j, none⟩ := by rw [Addr.add_mid, Nat.zero_add]
    rw [e, hcl j]
    simpa using hj
  obtain ⟨v', w', hr, ho, hgr, _⟩ := run_append_own (P := Try.prog) (w.alloc (.cells cs T)) B ts ts T i0 z k bytes hu hi hz0 hz1 hz2 hzs hk v n xs (owns_up h (below_alloc _ _)) ⟨w.heap.size, 0, none⟩ 1 1 cs.toList (by simp [hc]) hnews
    (by intro u hu'; exact h1 u (by simpa using hu')) hn hb (by simp; omega)
  refine ⟨v', w', hr, ho, ?_⟩
  have hu2 := owns_up h (below_alloc w (.cells cs T))
  have hK : Kt B T (w.alloc (.cells cs T)) w' := by
    refine ⟨(Below.refl B _).grown hgr (by simp; omega) (owns_low hu2), fun c ds t fz e ht => ?_⟩
    exact hgr.block c (heap_lt e) fun e2 => owns_ne hu2 e ht e2.symm
  exact (Kt.of_up (below_alloc _ _) hB).trans hK

/-- Complex numbers of the call's own. -/
def OwZ (w : World) (B : Nat) (v : Value) (zs : List Wz) : Prop := w.ownsRow B 29 1 v zs.length (zs.map cx)

theorem Try.infoZ : (Try.prog.info? 29).map (fun i => (i.zero, i.size, i.bytes)) = some (some (.complex .f64 0 0), 1, 16) := by kernel_rfl
theorem Try.underZs : Try.prog.underlying 30 = some (.slice 29) := by kernel_rfl

theorem own_cx (w : World) (B : Nat) (v : Value) (zs : List Wz) (z : Wz) (h : OwZ w B v zs) (hB : B ≤ w.heap.size) (hn : zs.length < 8796093022208) :
    ∃ v' w', (Builtin.append_ #[30, 30] 30 #[v, .slice (some ⟨w.heap.size, 0, none⟩) 1 1]).run Try.prog (w.alloc (.cells #[.complex .f64 z.1 z.2] 29)) = .ok v' w' ∧ OwZ w' B v' (zs ++ [z]) ∧ Kt B 29 w w' := by
  obtain ⟨i0, hi, hz⟩ := Option.map_eq_some_iff.1 Try.infoZ
  simp only [Prod.mk.injEq] at hz
  obtain ⟨v', w', hr, ho, hk⟩ := own_one 29 30 1 16 i0 (.complex .f64 0 0) Try.underZs hi hz.1 hz.2.1 hz.2.2 rfl (by decide) w B v zs.length _ #[.complex .f64 z.1 z.2] h hB rfl (by intro u hu; simp at hu; subst hu; rfl) (by unfold maxLen; omega) (by omega)
  refine ⟨v', w', hr, ?_, hk⟩
  unfold OwZ
  rw [List.length_append, List.map_append]
  exact ho

/-- All is as it was but for block g. -/
structure Oth (g : Nat) (w0 wr : World) : Prop where
  os : wr.os = w0.os
  tape : wr.tape = w0.tape
  output : wr.output = w0.output
  size : wr.heap.size = w0.heap.size
  block : ∀ b, b ≠ g → wr.heap[b]? = w0.heap[b]?

theorem Oth.refl (g : Nat) (w : World) : Oth g w w := ⟨rfl, rfl, rfl, rfl, fun _ _ => rfl⟩
theorem Oth.set {g : Nat} {w0 wr : World} (h : Oth g w0 wr) (j : Nat) (u : Value) : Oth g w0 (wr.setCell ⟨g, j, none⟩ u) :=
  ⟨h.os, h.tape, h.output, by rw [← h.size]; simp [World.setCell], fun b hb => by rw [Below.heap_setCell _ _ _ _ hb]; exact h.block b hb⟩
theorem Oth.cell {g : Nat} {w0 wr : World} (h : Oth g w0 wr) {a : Addr} (ha : a.block ≠ g) : wr.cell? a = w0.cell? a := World.cell?_of_block (w := w0) (h.block _ ha)
theorem Oth.below {g B : Nat} {w0 wr : World} (h : Oth g w0 wr) (hg : B ≤ g) : Below B w0 wr :=
  ⟨h.os, h.tape, h.output, by rw [h.size]; exact Nat.le_refl _, fun b hb => h.block b (by omega)⟩

/-- Block b holds just these cells. -/
def Bk (w : World) (b : Nat) (t : TypeId) (vs : List Value) : Prop := w.heap[b]? = some (.cells vs.toArray t (0, 0))

theorem Bk.lt {w : World} {b : Nat} {t : TypeId} {vs : List Value} (h : Bk w b t vs) : b < w.heap.size := by
  rcases Nat.lt_or_ge b w.heap.size with k | k
  · exact k
  · unfold Bk at h; rw [Array.getElem?_eq_none k] at h; cases h
theorem Bk.cell {w : World} {b : Nat} {t : TypeId} {vs : List Value} (h : Bk w b t vs) (j : Nat) : w.cell? ⟨b, j, none⟩ = vs[j]? := by
  rw [cell_of_row w b j _ _ _ h]; simp
theorem Bk.frz {w : World} {b : Nat} {t : TypeId} {vs : List Value} (h : Bk w b t vs) (j : Nat) : w.frozen? ⟨b, j, none⟩ = false := frozen_of_row w _ j _ _ h
theorem Bk.new (w : World) (t : TypeId) (vs : Array Value) : Bk (w.alloc (.cells vs t)) w.heap.size t vs.toList := by
  show _ = _
  rw [heap_alloc_new w _]
theorem Bk.up {w w' : World} {b : Nat} {t : TypeId} {vs : List Value} (h : Bk w b t vs) (hb : Below w.heap.size w w') : Bk w' b t vs := by unfold Bk; rw [hb.block b h.lt]; exact h
theorem Bk.alloc {w : World} {b : Nat} {t : TypeId} {vs : List Value} (h : Bk w b t vs) (o : Obj) : Bk (w.alloc o) b t vs := h.up (below_alloc _ _)
theorem Bk.oth {w w' : World} {b g : Nat} {t : TypeId} {vs : List Value} (h : Bk w b t vs) (ho : Oth g w w') (hb : b ≠ g) : Bk w' b t vs := by unfold Bk; rw [ho.block b hb]; exact h
theorem Bk.set {w : World} {b : Nat} {t : TypeId} {vs : List Value} (h : Bk w b t vs) (j : Nat) (v : Value) : Bk (w.setCell ⟨b, j, none⟩ v) b t (vs.set j v) := by
  unfold Bk
  rw [heap_setCell_same w b j _ _ _ h]
  simp
theorem Bk.there {w : World} {b : Nat} {t : TypeId} {vs : List Value} (h : Bk w b t vs) (o n : Nat) (hn : o + n ≤ vs.length) : w.there b o n := by
  intro j hj
  refine ⟨?_, h.frz _⟩
  rw [h.cell, List.getElem?_eq_getElem (by omega)]
  rfl
theorem Bk.range {w : World} {b : Nat} {t : TypeId} {vs : List Value} (h : Bk w b t vs) (o n : Nat) : w.rangeAt b o ((vs.drop o).take n) := by
  intro j v hv
  rw [h.cell]
  have hj := (List.getElem?_eq_some_iff.1 hv).1
  rw [List.getElem?_take, List.getElem?_drop] at hv
  split at hv
  · exact hv
  · cases hv

/-- A row written over a part of another. -/
def over (vs : List Value) (o : Nat) : List Value → List Value
  | [] => vs
  | x :: xs => over (vs.set o x) (o + 1) xs

theorem over_len (xs : List Value) : ∀ (vs : List Value) (o : Nat), (over vs o xs).length = vs.length := by
  induction xs with
  | nil => intro vs o; rfl
  | cons x xs ih => intro vs o; rw [over, ih]; simp

theorem Bk.sets {b : Nat} {t : TypeId} (xs : List Value) : ∀ {w : World} {vs : List Value} (_ : Bk w b t vs) (o : Nat), Bk (w.setCells b o xs) b t (over vs o xs) ∧ Oth b w (w.setCells b o xs) := by
  induction xs with
  | nil => intro w vs h o; exact ⟨h, Oth.refl _ _⟩
  | cons x xs ih =>
    intro w vs h o
    obtain ⟨h1, h2⟩ := ih (h.set o x) (o + 1)
    refine ⟨h1, ?_⟩
    have h3 := (Oth.refl b w).set o x
    exact ⟨h2.os.trans h3.os, h2.tape.trans h3.tape, h2.output.trans h3.output, h2.size.trans h3.size, fun k hk => (h2.block k hk).trans (h3.block k hk)⟩

/-- A struct stored into a block. -/
theorem wpList_storeN {ops : Array Oper} {rest : List Oper} {op : Oper} {a : Act} {w : World} {Q : Exit → Act → World → Prop} (hgd : op.guard = none) (ty : TypeId) (x y : Operand) (ho : op.op = .store ty x y)
    (b o : Nat) (xs : List Value) (hx : a.eval x = .pointer (some ⟨b, o, none⟩)) (hy : a.eval y = .agg xs.toArray) {t : TypeId} {vs : List Value} (hS : Bk w b t vs) (hl : o + xs.length ≤ vs.length)
    (hi : (Try.prog.info? ty).map (·.size) = some xs.length) (h1 : ∀ v ∈ xs, v.oneCell' = true)
    (h : ∀ w', Bk w' b t (over vs o xs) → Oth b w w' → wpList Try.prog ops Q rest (a.put op.dst undef) w') : wpList Try.prog ops Q (op :: rest) a w := by
  refine wpList_store_mid hgd ty x y ho b o xs.toArray hx hy (by simpa using hS.there o xs.length hl) (by simpa using hi) (all_oneCell_toArray h1) ?_
  obtain ⟨h2, h3⟩ := hS.sets xs o
  exact h _ h2 h3

/-- A struct loaded out of memory. -/
theorem wpList_loadN {ops : Array Oper} {rest : List Oper} {op : Oper} {a : Act} {w : World} {Q : Exit → Act → World → Prop} (hgd : op.guard = none) (ty : TypeId) (x : Operand) (ho : op.op = .load ty x)
    (b o : Nat) (hx : a.eval x = .pointer (some ⟨b, o, none⟩)) (xs : List Value) (fs : Array Field) (hS : w.rangeAt b o xs) (hu : Try.prog.underlying ty = some (.struct fs)) (hi : (Try.prog.info? ty).map (·.size) = some xs.length)
    (h : wpList Try.prog ops Q rest (a.put op.dst (.agg xs.toArray)) w) : wpList Try.prog ops Q (op :: rest) a w :=
  wpList_load_mid hgd ty x ho b o hx xs _ hS hu rfl hi h

/-- All that was there is as it was, but for block R. -/
structure But (R : Nat) (w w' : World) : Prop where
  os : w'.os = w.os
  tape : w'.tape = w.tape
  output : w'.output = w.output
  size : w.heap.size ≤ w'.heap.size
  block : ∀ k, k < w.heap.size → k ≠ R → w'.heap[k]? = w.heap[k]?

theorem But.refl (R : Nat) (w : World) : But R w w := ⟨rfl, rfl, rfl, Nat.le_refl _, fun _ _ _ => rfl⟩
theorem But.trans {R : Nat} {a b c : World} (h : But R a b) (k : But R b c) : But R a c :=
  ⟨k.os.trans h.os, k.tape.trans h.tape, k.output.trans h.output, Nat.le_trans h.size k.size, fun i hi hn => (k.block i (Nat.lt_of_lt_of_le hi h.size) hn).trans (h.block i hi hn)⟩
theorem bel_but {w w' : World} (h : Below w.heap.size w w') (R : Nat) : But R w w' := ⟨h.os, h.tape, h.output, h.size, fun k hk _ => h.block k hk⟩
theorem But.then {R : Nat} {a b c : World} (h : But R a b) (k : Below b.heap.size b c) : But R a c := h.trans (bel_but k R)
theorem Oth.but {R g : Nat} {a b c : World} (h : Oth g b c) (k : But R a b) (hg : a.heap.size ≤ g) : But R a c :=
  ⟨h.os.trans k.os, h.tape.trans k.tape, h.output.trans k.output, by rw [h.size]; exact k.size, fun i hi hn => (h.block i (by omega)).trans (k.block i hi hn)⟩
theorem But.setR {R j : Nat} {a b : World} (h : But R a b) (v : Value) : But R a (b.setCell ⟨R, j, none⟩ v) :=
  ⟨h.os, h.tape, h.output, by simpa [World.setCell] using h.size, fun i hi hn => by rw [Below.heap_setCell _ _ _ _ hn]; exact h.block i hi hn⟩
theorem But.drew {R : Nat} {a b : World} (h : But R a b) : But R a b.drew := ⟨h.os, h.tape, h.output, h.size, h.block⟩
theorem But.drewN {R : Nat} {a b : World} (h : But R a b) (q : Nat) : But R a (b.drewN q) := ⟨h.os, h.tape, h.output, h.size, h.block⟩
theorem But.below {R B : Nat} {a b : World} (h : But R a b) (hB : B ≤ R) (hs : B ≤ a.heap.size) : Below B a b := ⟨h.os, h.tape, h.output, h.size, fun k hk => h.block k (by omega) (by omega)⟩
theorem Bk.but {w w' : World} {b R : Nat} {t : TypeId} {vs : List Value} (h : Bk w b t vs) (hb : But R w w') (hn : b ≠ R) : Bk w' b t vs := by unfold Bk; rw [hb.block b h.lt hn]; exact h
theorem range_but {w w' : World} {b o R : Nat} {vs : List Value} (h : w.rangeAt b o vs) (hv : vs ≠ []) (hb : But R w w') (hn : b ≠ R) : w'.rangeAt b o vs := by
  intro j v hj
  have hl : b < w.heap.size := by
    cases vs with
    | nil => exact absurd rfl hv
    | cons x xs => exact cell_lt (h 0 x rfl)
  rw [show w'.cell? ⟨b, o + j, none⟩ = w.cell? ⟨b, o + j, none⟩ from World.cell?_of_block (w := w) (hb.block b hl hn)]
  exact h j v hj

theorem store_cx (W : World) (a : Addr) (x y : Nat) : (store a (.complex .f64 x y)).run Try.prog W = match W.cell? a with
      | some _ => if W.frozen? a then .halt (.unsupported (.unsafePointer "a write to bytes that a string shares")) W else .ok () (W.setCell a (.complex .f64 x y))
      | none => match W.farStore Try.prog a (.complex .f64 x y) (Mode.plain == .atomic) with
        | .ok (w', _) => .ok () w'
        | .error h => .halt h W := run_store Try.prog W a (.complex .f64 x y) .plain rfl

/-- An append whose run is known, as a step of a region that draws its order. -/
theorem step_append_runU {P : Program} {ops : Array Oper} {o : Oper} {a : Act} {w : World} {K : Act → World → Prop} {Q : Exit → Act → World → Prop} {E : Prop}
    (hg : o.guard = none) (s x : Operand) (t u : TypeId) (hop : o.op = Op.call { callee := Callee.builtin Builtin.append, args := #[s, x], argTypes := #[t, u] }) (hty : o.type = t)
    (v y : Value) (hs : a.eval s = v) (hx : a.eval x = y) (v' : Value) (w' : World) (hrun : (Builtin.append_ #[t, u] t #[v, y]).run P w = .ok v' w') (hK : K (a.put o.dst v') w') :
    if Region.wanted o (yielded ops a.tmps) = true then Oper.wp P o a w K Q else E := by
  have hw : Region.wanted o (yielded ops a.tmps) = true := by simp [Region.wanted, hg]
  rw [if_pos hw]
  unfold Oper.wp
  rw [← hty] at hrun
  simp only [execOp, hop, resolve, invoke, builtin, Sem.run_bind, Sem.run_pure, Result.andThen_ok, List.map_toArray, List.map_cons, List.map_nil, hs, hx]
  rw [hty] at hrun ⊢
  rw [hrun]
  exact hK

theorem one4 (t : Int) (a b : Nat) (r : Bool) (ao : Option Addr) (n c : Nat) : ∀ v ∈ ([.int .i64 t, .complex .f64 a b, .bool r, .slice ao n c] : List Value), v.oneCell' = true := by
  intro v hv; simp only [List.mem_cons, List.not_mem_nil, or_false] at hv; rcases hv with rfl | rfl | rfl | rfl <;> rfl

end Go.Proofs.Ytebpjcjoapahnaa
