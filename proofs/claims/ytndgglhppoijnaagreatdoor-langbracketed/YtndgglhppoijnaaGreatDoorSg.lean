/-
  One step of a region that draws its order: an append to bytes of the call's own, whatever was made ahead of it. What is made anew, tracked.
-/
import Derived.Test.YtndgglhppoijnaaGreatDoorSf
namespace Go.Proofs.YtndgglhppoijnaaGreatDoor
open Go.RowKit
set_option maxRecDepth 100000

theorem sz1 (w : World) (o : Obj) : (w.alloc o).heap.size = w.heap.size + 1 := by simp
theorem le_sz {B : Nat} {w : World} {o : Obj} (h : B ≤ w.heap.size) : B ≤ (w.alloc o).heap.size := by rw [sz1]; omega
/-- A block made anew, from block B on. -/
def Nk (B : Nat) (w : World) (b : Nat) (t : TypeId) (vs : List Value) : Prop := Bk w b t vs ∧ B ≤ b
theorem Nk.new {B : Nat} {w : World} (t : TypeId) (vs : Array Value) (h : B ≤ w.heap.size) : Nk B (w.alloc (.cells vs t)) w.heap.size t vs.toList := ⟨Bk.new w t vs, h⟩
theorem Nk.alloc {B : Nat} {w : World} {b : Nat} {t : TypeId} {vs : List Value} (h : Nk B w b t vs) (o : Obj) : Nk B (w.alloc o) b t vs := ⟨h.1.alloc o, h.2⟩
theorem Nk.up {B : Nat} {w w' : World} {b : Nat} {t : TypeId} {vs : List Value} (h : Nk B w b t vs) (hb : Below w.heap.size w w') : Nk B w' b t vs := ⟨h.1.up hb, h.2⟩
theorem Nk.drew {B : Nat} {w : World} {b : Nat} {t : TypeId} {vs : List Value} (h : Nk B w b t vs) : Nk B (World.drew w) b t vs := h
theorem bk_ne {w : World} {b b' : Nat} {t t' : TypeId} {vs vs' : List Value} (h : Bk w b t vs) (h' : Bk w b' t' vs') (hne : t ≠ t') : b ≠ b' := by
  intro e
  subst e
  unfold Bk at h h'
  rw [h] at h'
  simp only [Option.some.injEq, Obj.cells.injEq] at h'
  exact hne h'.2.1
/-- What an append to bytes leaves as it was. -/
structure Kb (B : Nat) (w w' : World) (ob : Option Nat) : Prop where
  low : Below B w w'
  grown : w.grownBy w' ob
  typ : ∀ b, ob = some b → ∃ a f, w.heap[b]? = some (.cells a 5 f)
theorem Kb.nk {B C : Nat} {w w' : World} {ob : Option Nat} {b : Nat} {t : TypeId} {vs : List Value} (k : Kb B w w' ob) (h : Nk C w b t vs) (ht : t ≠ 5) : Nk C w' b t vs := by
  refine ⟨?_, h.2⟩
  have hl := h.1.lt
  have hb := h.1
  unfold Bk at *
  rw [k.grown.block b hl fun e => ?_]
  · exact hb
  · obtain ⟨a, f, e2⟩ := k.typ b e.symm
    rw [hb] at e2
    simp only [Option.some.injEq, Obj.cells.injEq] at e2
    exact ht e2.2.1
theorem Kb.row {B C : Nat} {w w' : World} {g b : Nat} {t : TypeId} {vs : List Value} (k : Kb B w w' (some g)) (h : Nk C w b t vs) (hne : b ≠ g) : Nk C w' b t vs := by
  refine ⟨?_, h.2⟩
  have hl := h.1.lt
  have hb := h.1
  unfold Bk at *
  rw [k.grown.block b hl fun e => hne (Option.some.inj e)]
  exact hb

theorem own_typ {w : World} {B : Nat} {v : Value} {xs : List UInt8} (h : Own w B v xs) : ∀ b, v.ownBlock = some b → ∃ a f, w.heap[b]? = some (.cells a 5 f) := by
  intro b hb
  rcases h.2 with ⟨rfl, _⟩ | ⟨g, cap, cur, rfl, _, h3, _⟩
  · simp [Value.ownBlock] at hb
  · simp only [Value.ownBlock, Option.some.injEq] at hb
    subst hb
    exact ⟨_, _, h3⟩
theorem own_of_nk {w : World} {B g n : Nat} {xs : List UInt8} {vs : List Value} (h : Nk B w g 5 vs) (hv : vs = xs.map byteV) (hn : xs.length = n) (hm : n ≤ 100) : Own w B (.slice (some ⟨g, 0, none⟩) n n) xs := by
  subst hv hn
  refine ⟨by simp, .inr ⟨g, xs.length, (xs.map byteV).toArray, rfl, h.2, h.1, Nat.le_refl _, by unfold maxLen; omega, by simp, ?_⟩⟩
  rw [List.take_of_length_le (by simp)]
theorem bd_of_nk {w : World} {B g n : Nat} {xs : List UInt8} {vs : List Value} (h : Nk B w g 5 vs) (hv : vs = xs.map byteV) (hn : xs.length = n) (hm : n ≤ 100) : Bd w (some ⟨g, 0, none⟩) xs := by
  obtain ⟨ao, cap, e, hb, _⟩ := (own_of_nk h hv hn hm).bd
  simp only [Value.slice.injEq] at e
  rw [e.1]
  exact hb

/-- An append to bytes of the call's own. -/
theorem step_appG {ops : Array Oper} {o : Oper} {a : Act} {w : World} {K : Act → World → Prop} {Q : Exit → Act → World → Prop} {E : Prop}
    (hg : o.guard = none) (s x : Operand) (hop : o.op = Op.call { callee := Callee.builtin Builtin.append, args := #[s, x], argTypes := #[22, 22] }) (hty : o.type = 22)
    (v : Value) (hs : a.eval s = v) (ao : Option Addr) (cap n : Nat) (hx : a.eval x = .slice ao n cap) (B : Nat) (xs ys zs : List UInt8) (hn : ys.length = n) (hz : zs = xs ++ ys) (h : Own w B v xs) (hB : B ≤ w.heap.size) (hy : Bd w ao ys) (hcap : ao = none → cap = 0) (hxy : xs.length + ys.length ≤ 140737488355328)
    (hK : ∀ ao' c' w', Own w' B (.slice ao' zs.length c') zs → Kb B w w' v.ownBlock → K (a.put o.dst (.slice ao' zs.length c')) w') :
    if Region.wanted o (yielded ops a.tmps) = true then Oper.wp Tryz.prog o a w K Q else E := by
  subst hz hn
  obtain ⟨v', w', hr, ho, hb, hgr⟩ := own_appG w B v xs h hB ao cap ys hy hcap hxy
  obtain ⟨ao', c', rfl, _⟩ := ho.bd
  exact step_append_runU hg s x 22 22 hop hty v (.slice ao ys.length cap) hs hx _ w' hr (hK _ _ _ ho ⟨hb, hgr, own_typ h⟩)
/-- Bytes of the call's own, or a full row of bytes, marked or not (a constant's): what is appended to it is laid anew. -/
structure Ful (w : World) (B g : Nat) (xs : List UInt8) : Prop where
  low : B ≤ g
  typ : ∃ a f, w.heap[g]? = some (.cells a 5 f)
  cel : ∀ j u, (xs.map byteV)[j]? = some u → w.cell? ((⟨g, 0, none⟩ : Addr).add j) = some u
def OwnX (w : World) (B : Nat) (v : Value) (xs : List UInt8) : Prop := Own w B v xs ∨ ∃ g, v = .slice (some ⟨g, 0, none⟩) xs.length xs.length ∧ Ful w B g xs
theorem Ful.lt {w : World} {B g : Nat} {xs : List UInt8} (h : Ful w B g xs) : g < w.heap.size := by
  obtain ⟨a, f, e⟩ := h.typ
  rcases Nat.lt_or_ge g w.heap.size with k | k
  · exact k
  · rw [Array.getElem?_eq_none k] at e; cases e
theorem Ful.keep {w w' : World} {B g : Nat} {xs : List UInt8} (h : Ful w B g xs) (hb : w'.heap[g]? = w.heap[g]?) : Ful w' B g xs := by
  refine ⟨h.low, by rw [hb]; exact h.typ, fun j u hj => ?_⟩
  rw [← h.cel j u hj]
  rw [Addr.add_mid]
  exact World.cell?_of_block (w := w) (a := ⟨g, 0 + j, none⟩) hb
theorem OwnX.up {w w' : World} {B : Nat} {v : Value} {xs : List UInt8} (h : OwnX w B v xs) (hb : Below w.heap.size w w') : OwnX w' B v xs := by
  rcases h with h | ⟨g, e, h⟩
  · exact .inl (h.up hb)
  · exact .inr ⟨g, e, h.keep (hb.block g h.lt)⟩
theorem OwnX.typ {w : World} {B : Nat} {v : Value} {xs : List UInt8} (h : OwnX w B v xs) : ∀ b, v.ownBlock = some b → B ≤ b ∧ b < w.heap.size ∧ ∃ a f, w.heap[b]? = some (.cells a 5 f) := by
  intro b hb
  rcases h with h | ⟨g, rfl, h⟩
  · obtain ⟨a, f, e⟩ := own_typ h b hb
    exact ⟨h.low b hb, (owns_has h b hb).2, a, f, e⟩
  · simp only [Value.ownBlock, Option.some.injEq] at hb
    subst hb
    exact ⟨h.low, h.lt, h.typ⟩
theorem bd_cells {w : World} {a : Addr} {ys : List UInt8} (hy : Bd w (some a) ys) : ∀ j u, (ys.map byteV)[j]? = some u → w.cell? (a.add j) = some u := by
  intro j u hj
  rw [List.getElem?_map] at hj
  cases hq : ys[j]? with
  | none => rw [hq] at hj; cases hj
  | some x =>
    rw [hq] at hj
    simp only [Option.map_some, Option.some.injEq] at hj
    subst hj
    have hl : j < ys.length := (List.getElem?_eq_some_iff.1 hq).1
    obtain ⟨b, off, e, hc⟩ := hy.pl (by intro e; rw [e] at hl; simp at hl)
    cases e
    rw [Addr.add_mid, hc j hl, List.getD_eq_getElem?_getD, hq]
    rfl

/-- An append to a full row. -/
theorem ful_app (w : World) (B g : Nat) (xs : List UInt8) (h : Ful w B g xs) (hB : B ≤ w.heap.size) (ao : Option Addr) (cap : Nat) (ys : List UInt8) (hy : Bd w ao ys) (hcap : ao = none → cap = 0) (hxy : xs.length + ys.length ≤ 140737488355328) :
    ∃ v' w', (Builtin.append_ #[22, 22] 22 #[.slice (some ⟨g, 0, none⟩) xs.length xs.length, .slice ao ys.length cap]).run Tryz.prog w = .ok v' w' ∧ OwnX w' B v' (xs ++ ys) ∧ (ys ≠ [] → Own w' B v' (xs ++ ys)) ∧ (∀ b, v'.ownBlock = some b → b = g ∨ w.heap.size ≤ b) ∧ Kb B w w' (some g) := by
  obtain ⟨i0, hi, hz0, hz1, hz2⟩ := info_parts Tryz.infoB
  have hkb : ∀ b, (Value.slice (some ⟨g, 0, none⟩) xs.length xs.length).ownBlock = some b → ∃ a f, w.heap[b]? = some (.cells a 5 f) := by
    intro b hb
    simp only [Value.ownBlock, Option.some.injEq] at hb
    subst hb
    exact h.typ
  by_cases hys : ys = []
  · subst hys
    refine ⟨.slice (some ⟨g, 0, none⟩) xs.length xs.length, w, ?_, .inr ⟨g, by simp, by simpa using h⟩, fun e => absurd rfl e, fun b hb => .inl (Option.some.inj hb).symm, ⟨Below.refl _ _, ⟨rfl, rfl, rfl, Nat.le_refl _, fun _ _ _ => rfl⟩, hkb⟩⟩
    cases ao with
    | none =>
      have hc0 := hcap rfl
      subst hc0
      simp [Builtin.append_, run_underlying Tryz.underBs, sizeOf, typeInfo, hi, Builtin.lenOf, Builtin.firstCells, storeCells]
    | some a =>
      have hf := run_firstCells_some (P := Tryz.prog) w i0.size 0 a 0 cap [] (by simp) (by simp)
      simp [Builtin.append_, run_underlying Tryz.underBs, sizeOf, typeInfo, hi, Builtin.lenOf, hf, storeCells]
  · obtain ⟨b, off, rfl, _⟩ := hy.pl hys
    have hp : 0 < ys.length := List.length_pos_iff.2 hys
    have hr := run_append_grow (P := Tryz.prog) w 22 22 5 i0 (.int .u8 0) Tryz.underBs hi hz0 ⟨g, 0, none⟩ xs.length xs.length (xs.map byteV) (by simp [hz1]) h.cel ⟨b, off, none⟩ ys.length cap (ys.map byteV) (by simp [hz1]) (bd_cells hy) (by omega) (by omega) (growslice_fits (by omega) (by rw [hz2]; omega))
    have hge := grownCap_ge w (xs.length + ys.length) xs.length 5
    have hcm := grownCap_le_maxLen w (xs.length + ys.length) xs.length 5 (by unfold maxLen; omega)
    have ho : Own (w.drew.alloc (.cells ((xs.map byteV).toArray ++ (ys.map byteV).toArray ++ Builtin.zeroCells (Value.int .u8 0).cells (grownCap w (xs.length + ys.length) xs.length 5 - (xs.length + ys.length))) 5)) B (.slice (some ⟨w.heap.size, 0, none⟩) (xs.length + ys.length) (grownCap w (xs.length + ys.length) xs.length 5)) (xs ++ ys) := by
      unfold Own
      rw [List.length_append]
      refine ⟨by simp, .inr ⟨w.heap.size, _, _, rfl, hB, heap_alloc_new w.drew _, hge, hcm, ?_, ?_⟩⟩
      · simp only [Array.size_append, List.size_toArray, List.length_map, size_zeroCells]
        simp [Value.cells]
        omega
      · rw [Nat.mul_one]
        simp only [Array.toList_append, List.append_assoc]
        rw [← List.append_assoc, ← List.map_append]
        exact List.take_left' (by simp)
    have hgr : w.grownBy (w.drew.alloc (.cells ((xs.map byteV).toArray ++ (ys.map byteV).toArray ++ Builtin.zeroCells (Value.int .u8 0).cells (grownCap w (xs.length + ys.length) xs.length 5 - (xs.length + ys.length))) 5)) (Value.slice (some ⟨g, 0, none⟩) xs.length xs.length).ownBlock := ⟨rfl, rfl, rfl, by simp, fun k hk _ => heap_alloc_old w.drew _ hk⟩
    exact ⟨_, _, hr, .inl ho, fun _ => ho, fun b hb => .inr (by rw [← Option.some.inj hb]; exact Nat.le_refl _), ⟨(Below.refl B w).grown hgr hB (fun k hk => by have e : some g = some k := hk; rw [← Option.some.inj e]; exact h.low), hgr, hkb⟩⟩

/-- An append to such bytes: bytes of the call's own come of it, or (of nothing) what it was. -/
theorem ownx_app (w : World) (B : Nat) (v : Value) (xs : List UInt8) (h : OwnX w B v xs) (hB : B ≤ w.heap.size) (ao : Option Addr) (cap : Nat) (ys : List UInt8) (hy : Bd w ao ys) (hcap : ao = none → cap = 0) (hxy : xs.length + ys.length ≤ 140737488355328) :
    ∃ v' w', (Builtin.append_ #[22, 22] 22 #[v, .slice ao ys.length cap]).run Tryz.prog w = .ok v' w' ∧ OwnX w' B v' (xs ++ ys) ∧ (ys ≠ [] → Own w' B v' (xs ++ ys)) ∧ Kb B w w' v.ownBlock := by
  rcases h with h | ⟨g, rfl, h⟩
  · obtain ⟨v', w', hr, ho, hb, hgr⟩ := own_appG w B v xs h hB ao cap ys hy hcap hxy
    exact ⟨v', w', hr, .inl ho, fun _ => ho, ⟨hb, hgr, own_typ h⟩⟩
  · obtain ⟨v', w', hr, h1, h2, _, h4⟩ := ful_app w B g xs h hB ao cap ys hy hcap hxy
    exact ⟨v', w', hr, h1, h2, h4⟩
end Go.Proofs.YtndgglhppoijnaaGreatDoor
