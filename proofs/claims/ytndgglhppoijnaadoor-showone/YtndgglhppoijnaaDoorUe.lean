/-
  2 texts in one: what each proves stands at its head.
-/
import Derived.Test.YtndgglhppoijnaaDoorUJ
import Derived.RegionTactic
import Derived.Test.YtndgglhppoijnaaDoorBo
import Derived.Test.YtndgglhppoijnaaDoorUK
import Derived.Lib.FrozenHead
/-
  Regions that draw their order, each of whose operations comes to one value whatever the order: by what is done. No dump.
-/
namespace Go.Proofs.YtndgglhppoijnaaDoor
open Go.RowKit
set_option maxRecDepth 100000

namespace Rv
def upd (d : Nat → Bool) (i : Nat) : Nat → Bool := fun j => j == i || d j
theorem getD_set (l : Array Bool) (i : Nat) (hi : i < l.size) : (fun j => (l.setIfInBounds i true).getD j false) = upd (fun j => l.getD j false) i := by
  funext j
  unfold upd
  by_cases h : j = i
  · subst h
    simp [hi]
  · have h2 : ¬ i = j := fun e => h e.symm
    simp [h, h2]
theorem upd_ne {d : Nat → Bool} {k j : Nat} (h : j ≠ k) (hd : upd d k j = true) : d j = true := by
  unfold upd at hd
  simpa [h] using hd
theorem count_set : ∀ (l : List Bool) (i : Nat), l[i]? = some false → (l.set i true).count false + 1 = l.count false
  | [], i, h => by simp at h
  | b :: r, 0, h => by simp at h; subst h; simp
  | b :: r, i + 1, h => by
    have := count_set r i (by simpa using h)
    simp only [List.set_cons_succ, List.count_cons]
    omega
theorem ready_mem {md : Region.Mode} {ops : Array Oper} {l : Array Bool} {i : Nat} (h : i ∈ Region.ready md ops l) : l.getD i true = false ∧ i < ops.size := by
  unfold Region.ready at h
  simp only [List.mem_filter, List.mem_range, Bool.and_eq_true, Bool.not_eq_true'] at h
  exact ⟨h.2.1, h.1⟩
theorem getD_true {l : Array Bool} {i : Nat} (h : l.getD i true = false) : i < l.size ∧ l.toList[i]? = some false := by
  by_cases hi : i < l.size
  · refine ⟨hi, ?_⟩
    simp [hi] at h
    simp [hi, h]
  · simp [hi] at h
theorem wpAny_inv {P : Program} {md : Region.Mode} {ops : Array Oper} {Q : Exit → Act → World → Prop} (I : Array Bool → Act → World → Prop)
    (step : ∀ l a w i, i ∈ Region.ready md ops l → I l a w → wpOp P ops Q i (fun a' w' => I (l.setIfInBounds i true) a' w') a w)
    (fin : ∀ l a w, Region.ready md ops l = [] → I l a w → Q .normal a w) : ∀ (fuel : Nat) (l : Array Bool) (a : Act) (w : World), l.toList.count false ≤ fuel → I l a w → wpAny P md ops Q fuel l a w := by
  intro fuel
  induction fuel with
  | zero =>
    intro l a w hc hI
    have hr : Region.ready md ops l = [] := by
      cases e : Region.ready md ops l with
      | nil => rfl
      | cons i r =>
        exfalso
        have hm : i ∈ Region.ready md ops l := by rw [e]; simp
        have h1 := (getD_true (ready_mem hm).1).2
        have h2 := count_set l.toList i h1
        omega
    exact ⟨hr, fin l a w hr hI⟩
  | succ fuel ih =>
    intro l a w hc hI
    refine ⟨fun hr => fin l a w hr hI, fun i hi => ?_⟩
    refine wpOp_mono (fun a' w' h' => ih _ a' w' ?_ h') (step l a w i hi hI)
    have h1 := (getD_true (ready_mem hi).1).2
    have h2 := count_set l.toList i h1
    have h3 : (l.setIfInBounds i true).toList = l.toList.set i true := by simp
    rw [h3]
    omega

/-- What a slot holds. -/
def ev (a : Act) (k : Nat) : Value := a.eval (.tmp k)
theorem ev_put (a : Act) (k : Nat) (v : Value) (hk : k < a.tmps.size) (j : Nat) : ev (a.put (some k) v) j = if j = k then v else ev a j := by
  unfold ev Act.put Act.eval
  by_cases h : j = k
  · subst h
    simp [hk]
  · have h2 : ¬ k = j := fun e => h e.symm
    simp [h, h2]
theorem ev_some {a : Act} {k : Nat} {v : Value} (h : ev a k = v) (hk : k < a.tmps.size) : a.tmps[k]? = some v := by
  unfold ev Act.eval at h
  simp [hk] at h
  simp [hk, h]

/-- What must be done ahead of an operation. -/
def deps (ops : Array Oper) (i : Nat) : List Nat := match ops[i]? with | some o => (o.after.toList.filter (Region.binds .any)).map (·.on) | none => []
theorem deps_done {ops : Array Oper} {l : Array Bool} {i : Nat} (h : i ∈ Region.ready .any ops l) : ∀ j ∈ deps ops i, l.getD j false = true := by
  obtain ⟨_, hi⟩ := ready_mem h
  unfold Region.ready at h
  simp only [List.mem_filter, List.mem_range, Bool.and_eq_true] at h
  have h4 := h.2.2
  unfold deps
  rw [Array.getElem?_eq_getElem hi] at h4 ⊢
  simp only [Option.map_some, Option.getD_some] at h4
  intro j hj
  simp only [List.mem_map, List.mem_filter] at hj
  obtain ⟨e, ⟨he, hb⟩, rfl⟩ := hj
  rw [Array.all_eq_true_iff_forall_mem] at h4
  have := h4 e (by simpa using he)
  rw [hb] at this
  simpa using this
theorem all_done {ops : Array Oper} {l : Array Bool} (hl : l.size = ops.size) (hlow : ∀ i, i < ops.size → ∀ j ∈ deps ops i, j < i) (h : Region.ready .any ops l = []) : ∀ i, i < ops.size → l.getD i false = true := by
  intro i
  induction i using Nat.strongRecOn with
  | ind i ih =>
    intro hi
    have hd : ∀ j ∈ deps ops i, l.getD j false = true := fun j hj => ih j (hlow i hi j hj) (by have := hlow i hi j hj; omega)
    cases e : l.getD i false with
    | true => rfl
    | false =>
      exfalso
      unfold Region.ready at h
      rw [List.filter_eq_nil_iff] at h
      refine h i (List.mem_range.2 hi) ?_
      have e1 : l.getD i true = false := by
        have hil : i < l.size := by omega
        simp [hil] at e ⊢
        exact e
      rw [e1, Array.getElem?_eq_getElem hi]
      simp only [Option.map_some, Option.getD_some, Bool.not_false, Bool.true_and]
      rw [Array.all_eq_true_iff_forall_mem]
      intro x hx
      cases hb : Region.binds .any x with
      | false => rfl
      | true =>
        have : l.getD x.on false = true := hd x.on (by
          unfold deps
          rw [Array.getElem?_eq_getElem hi]
          simp only [List.mem_map, List.mem_filter]
          exact ⟨x, ⟨by simpa using hx, hb⟩, rfl⟩)
        rw [this]
        rfl

/-- Off the slots of the region, as it was. -/
structure Off (N : Nat) (slot : Nat → Nat) (a0 a : Act) : Prop where
  def_ : a.defers = a0.defers
  size : a.tmps.size = a0.tmps.size
  same : ∀ k, (∀ j, j < N → k ≠ slot j) → ev a k = ev a0 k

section
variable {P : Program} {ops : Array Oper} {Q : Exit → Act → World → Prop} {X0 : World} {a0 : Act} (N : Nat) (slot : Nat → Nat) (V : Nat → Value)
theorem region (hN : ops.size = N) (hlow : ∀ i, i < N → ∀ j ∈ deps ops i, j < i) (hinj : ∀ i, i < N → ∀ j, j < N → j ≠ i → slot j ≠ slot i) (hsz : ∀ j, j < N → slot j < a0.tmps.size) {w0 : World} (hw : Below X0.heap.size X0 w0)
    (hstep : ∀ i a w, i < N → Off N slot a0 a → Below X0.heap.size X0 w → (∀ j ∈ deps ops i, ev a (slot j) = V j) → wpOp P ops Q i (fun a' w' => a' = a.put (some (slot i)) (V i) ∧ Below X0.heap.size X0 w') a w)
    (hQ : ∀ a w, Off N slot a0 a → Below X0.heap.size X0 w → (∀ j, j < N → ev a (slot j) = V j) → Q .normal a w) : wpAny P .any ops Q N (Array.replicate N false) a0 w0 := by
  refine wpAny_inv (fun l a w => l.size = N ∧ Off N slot a0 a ∧ Below X0.heap.size X0 w ∧ ∀ j, j < N → l.getD j false = true → ev a (slot j) = V j) ?_ ?_ N _ _ _ (by simp) ⟨by simp, ⟨rfl, rfl, fun _ _ => rfl⟩, hw, ?_⟩
  · rintro l a w i hi ⟨hl, hO, hB, hf⟩
    obtain ⟨hi1, hi2⟩ := ready_mem hi
    rw [hN] at hi2
    have hdn := deps_done hi
    refine wpOp_mono ?_ (hstep i a w hi2 hO hB fun j hj => hf j (by have := hlow i hi2 j hj; omega) (hdn j hj))
    rintro a' w' ⟨rfl, hB'⟩
    have hs : slot i < a.tmps.size := by rw [hO.size]; exact hsz i hi2
    refine ⟨by simp [hl], ⟨hO.def_, by rw [← hO.size]; simp [Act.put], fun k hk => ?_⟩, hB', fun j hj hd => ?_⟩
    · rw [ev_put a _ _ hs, if_neg (hk i hi2)]
      exact hO.same k hk
    · rw [ev_put a _ _ hs]
      by_cases e : j = i
      · subst e
        exact if_pos rfl
      · rw [if_neg (hinj i hi2 j hj e)]
        refine hf j hj ?_
        have := congrFun (getD_set l i (by omega)) j
        rw [this] at hd
        exact upd_ne e hd
  · rintro l a w hr ⟨hl, hO, hB, hf⟩
    have := all_done (by omega) (by rw [hN]; exact hlow) hr
    rw [hN] at this
    exact hQ a w hO hB fun j hj => hf j hj (this j hj)
  · intro j hj hd
    simp [hj] at hd
end

section
variable {P : Program} {ops : Array Oper} {Q : Exit → Act → World → Prop} {X0 : World} {i : Nat} {o : Oper} {a : Act} {w : World} {v : Value} {s : Nat}
theorem wp (ho : ops[i]? = some o) (hw : Region.wanted o (yielded ops a.tmps) = true) {K : Act → World → Prop} (h : Oper.wp P o a w K Q) : wpOp P ops Q i K a w := by
  unfold wpOp
  rw [ho]
  show if Region.wanted o (yielded ops a.tmps) = true then _ else _
  rw [if_pos hw]
  exact .inl h
/-- An operation that changes no memory. -/
theorem run (ho : ops[i]? = some o) (hd : o.dst = some s) (hw : Region.wanted o (yielded ops a.tmps) = true) (hr : (execOp a.eval o).run P w = .ok (.value v) w) (hB : Below X0.heap.size X0 w) : wpOp P ops Q i (fun a' w' => a' = a.put (some s) v ∧ Below X0.heap.size X0 w') a w := by
  refine wp ho hw ?_
  unfold Oper.wp
  rw [hr]
  show a.put o.dst v = _ ∧ _
  rw [hd]
  exact ⟨rfl, hB⟩
/-- A call that changes no memory that was there. -/
theorem call {f : Nat} {vs : Array Value} (ho : ops[i]? = some o) (hd : o.dst = some s) (hw : Region.wanted o (yielded ops a.tmps) = true) (hr : (execOp a.eval o).run P w = .ok (.enter f vs) w) (hB : Below X0.heap.size X0 w)
    (hc : Calls P f vs w fun e w' => e = .returned v ∧ Below w.heap.size w w') : wpOp P ops Q i (fun a' w' => a' = a.put (some s) v ∧ Below X0.heap.size X0 w') a w := by
  refine wp ho hw ?_
  unfold Oper.wp
  rw [hr, Oper.upon_enter]
  refine hc.mono ?_
  rintro e w' ⟨rfl, hb⟩
  show a.put o.dst v = _ ∧ _
  rw [hd]
  exact ⟨rfl, Below.thn hB hb⟩
/-- An operation behind a guard that doesn't hold. -/
theorem skip (ho : ops[i]? = some o) (hd : o.dst = some s) (hw : Region.wanted o (yielded ops a.tmps) = false) (hB : Below X0.heap.size X0 w) : wpOp P ops Q i (fun a' w' => a' = a.put (some s) undef ∧ Below X0.heap.size X0 w') a w := by
  unfold wpOp
  rw [ho]
  show if Region.wanted o (yielded ops a.tmps) = true then _ else _
  rw [if_neg (by rw [hw]; decide)]
  show a.put o.dst undef = _ ∧ _
  rw [hd]
  exact ⟨rfl, hB⟩
theorem want_free (hg : o.guard = none) {y : Nat → Option Bool} : Region.wanted o y = true := by
  unfold Region.wanted
  rw [hg]
theorem want_if {j : Nat} {o' : Oper} {b b' : Bool} (hg : o.guard = some (j, b')) (ho : ops[j]? = some o') (hd : o'.dst = some s) (hs : s < a.tmps.size) (hv : ev a s = .bool b) : Region.wanted o (yielded ops a.tmps) = (b == b') := by
  have e2 := ev_some hv hs
  have e3 : yielded ops a.tmps j = some b := by
    unfold yielded
    rw [ho]
    simp only [Option.bind_some, hd, e2]
  unfold Region.wanted
  rw [hg]
  show (yielded ops a.tmps j == some b') = _
  rw [e3]
  cases b <;> cases b' <;> rfl
end
end Rv
end Go.Proofs.YtndgglhppoijnaaDoor
/-
  Bytes of the call's own behind whose end there may be a mark: appends to them (Ss, without the walk that it stands behind).
-/
namespace Go.Proofs.YtndgglhppoijnaaDoor
open Go.RowKit
set_option maxRecDepth 100000

theorem bd_cells {w : World} {a : Addr} {ys : List UInt8} (hy : Bd w (some a) ys) : ∀ j u, (ys.map byteV)[j]? = some u → w.cell? (a.add j) = some u := by
  intro j u hj
  rw [List.getElem?_map] at hj
  cases hq : ys[j]? with
  | none => rw [hq] at hj; cases hj
  | some x =>
    rw [hq] at hj
    simp only [Option.map_some, Option.some.injEq] at hj
    subst hj
    have hl : j < ys.length := (List.getElem?_eq_some_iff.1 hq).1
    obtain ⟨b, off, e, hc⟩ := hy.pl (by intro e; rw [e] at hl; simp at hl)
    cases e
    rw [Addr.add_mid, hc j hl, List.getD_eq_getElem?_getD, hq]
    rfl

/-- The cells of a row that are stored one after another. -/
theorem setCells_row (g : Nat) (t : TypeId) (fz : Nat × Nat) : ∀ (vs : List Value) (o : Nat) (cur : Array Value) (w : World), w.heap[g]? = some (.cells cur t fz) → o + vs.length ≤ cur.size →
    ∃ cur', (w.setCells g o vs).heap[g]? = some (.cells cur' t fz) ∧ cur'.size = cur.size ∧ (∀ j, j < o → cur'[j]? = cur[j]?) ∧ (∀ j, j < vs.length → cur'[o + j]? = vs[j]?) ∧ Oth g w (w.setCells g o vs)
  | [], o, cur, w, h, _ => ⟨cur, h, rfl, fun _ _ => rfl, fun j hj => absurd hj (Nat.not_lt_zero j), Oth.refl g w⟩
  | v :: r, o, cur, w, h, hl => by
    rw [List.length_cons] at hl
    have h1 : (w.setCell ⟨g, o, none⟩ v).heap[g]? = some (.cells (cur.setIfInBounds o v) t fz) := by
      rw [setCell_eq_setRow w g o cur t fz v h]
      exact setRow_heap w g cur _ t fz h
    obtain ⟨cur', k1, k2, k3, k4, k5⟩ := setCells_row g t fz r (o + 1) (cur.setIfInBounds o v) (w.setCell ⟨g, o, none⟩ v) h1 (by simp; omega)
    refine ⟨cur', k1, by rw [k2]; simp, fun j hj => ?_, fun j hj => ?_, ?_⟩
    · rw [k3 j (by omega), Array.getElem?_setIfInBounds_ne (by omega)]
    · cases j with
      | zero =>
        rw [Nat.add_zero, k3 o (by omega), Array.getElem?_setIfInBounds_self_of_lt (by omega)]
        rfl
      | succ j =>
        rw [show o + (j + 1) = o + 1 + j by omega, k4 j (by simp at hj; omega)]
        rfl
    · have k0 := (Oth.refl g w).set o v
      exact ⟨k5.os.trans k0.os, k5.tape.trans k0.tape, k5.output.trans k0.output, k5.size.trans k0.size, fun b hb => (k5.block b hb).trans (k0.block b hb)⟩

def OwnM (w : World) (B : Nat) (v : Value) (xs : List UInt8) : Prop :=
  ∃ g cap cur fz, v = .slice (some ⟨g, 0, none⟩) xs.length cap ∧ B ≤ g ∧ w.heap[g]? = some (.cells cur 5 fz) ∧ (∀ j, j < cur.size → fz.1 ≤ j → ¬ j < fz.2) ∧ xs.length ≤ cap ∧ cap ≤ maxLen ∧ cur.size = cap ∧ (∀ j, j < xs.length → cur[j]? = (xs.map byteV)[j]?)

theorem OwnM.cells {w : World} {B g cap : Nat} {xs : List UInt8} {n : Nat} (h : OwnM w B (.slice (some ⟨g, 0, none⟩) n cap) xs) : ∀ j u, (xs.map byteV)[j]? = some u → w.cell? ((⟨g, 0, none⟩ : Addr).add j) = some u := by
  obtain ⟨g', cap', cur, fz, e, _, hg, _, _, _, _, hc⟩ := h
  simp only [Value.slice.injEq, Option.some.injEq, Addr.mk.injEq, and_true] at e
  obtain ⟨rfl, _, rfl⟩ := e
  intro j u hu
  have hj : j < xs.length := by simpa using (List.getElem?_eq_some_iff.1 hu).1
  rw [Addr.add_mid]
  unfold World.cell?
  rw [hg]
  simp only [Nat.zero_add]
  rw [hc j hj]
  exact hu
theorem OwnM.bd {w : World} {B : Nat} {v : Value} {xs : List UInt8} (h : OwnM w B v xs) : ∃ ao cap, v = .slice ao xs.length cap ∧ Bd w ao xs ∧ xs.length ≤ cap := by
  obtain ⟨g, cap, cur, fz, rfl, r⟩ := id h
  refine ⟨_, cap, rfl, ⟨fun _ => ⟨g, 0, rfl, fun t ht => ?_⟩⟩, r.2.2.2.1⟩
  have := OwnM.cells h t (byteV (xs.getD t 0)) (by simp [ht])
  rw [Addr.add_mid] at this
  exact this
theorem OwnM.keep {w w' : World} {B : Nat} {v : Value} {xs : List UInt8} (h : OwnM w B v xs) (hb : Below w.heap.size w w') : OwnM w' B v xs := by
  obtain ⟨g, cap, cur, fz, e, hB, hg, r⟩ := h
  have hl : g < w.heap.size := by
    rcases Nat.lt_or_ge g w.heap.size with k | k
    · exact k
    · rw [Array.getElem?_eq_none k] at hg; cases hg
  exact ⟨g, cap, cur, fz, e, hB, by rw [hb.block g hl]; exact hg, r⟩

/-- What is stored behind the bytes, where there is room. -/
theorem ownm_room {w : World} {B g cap : Nat} {xs ys : List UInt8} {cur : Array Value} {fz : Nat × Nat} (hB : B ≤ g) (hg : w.heap[g]? = some (.cells cur 5 fz)) (hz : ∀ j, j < cur.size → fz.1 ≤ j → ¬ j < fz.2) (hcm : cap ≤ maxLen) (hcs : cur.size = cap) (hc : ∀ j, j < xs.length → cur[j]? = (xs.map byteV)[j]?) (hr : xs.length + ys.length ≤ cap) :
    (storeCells ⟨g, xs.length, none⟩ (ys.map byteV) 0).run Tryd.prog w = .ok () (w.setCells g xs.length (ys.map byteV)) ∧ OwnM (w.setCells g xs.length (ys.map byteV)) B (.slice (some ⟨g, 0, none⟩) (xs.length + ys.length) cap) (xs ++ ys) ∧ Oth g w (w.setCells g xs.length (ys.map byteV)) := by
  obtain ⟨cur', k1, k2, k3, k4, k5⟩ := setCells_row g 5 fz (ys.map byteV) xs.length cur w hg (by simp; omega)
  refine ⟨?_, ⟨g, cap, cur', fz, by rw [List.length_append], hB, k1, by rw [k2]; exact hz, by rw [List.length_append]; exact hr, hcm, by rw [k2]; exact hcs, fun j hj => ?_⟩, k5⟩
  · refine run_storeCells_cells g xs.length _ 0 w (fun j hj => ?_) (fun j hj => ?_) (fun v hv => ?_)
    · rw [List.length_map] at hj
      unfold World.cell?
      rw [hg]
      simp
      omega
    · rw [List.length_map] at hj
      unfold World.frozen?
      rw [hg]
      have := hz (xs.length + 0 + j) (by omega)
      simp only [Bool.and_eq_false_iff, decide_eq_false_iff_not]
      by_cases h1 : fz.1 ≤ xs.length + 0 + j
      · exact .inr (this h1)
      · exact .inl h1
    · obtain ⟨b, _, rfl⟩ := List.mem_map.1 hv
      rfl
  · rw [List.length_append] at hj
    rw [List.map_append]
    rcases Nat.lt_or_ge j xs.length with h | h
    · rw [k3 j h, hc j h, List.getElem?_append_left (by simpa using h)]
    · obtain ⟨d, rfl⟩ : ∃ d, j = xs.length + d := ⟨j - xs.length, by omega⟩
      rw [k4 d (by simp; omega), List.getElem?_append_right (by simp)]
      simp

theorem oth_low {B g : Nat} {w w' : World} (h : Oth g w w') (hB : B ≤ g) : Below B w w' := ⟨h.os, h.tape, h.output, by rw [h.size]; exact Nat.le_refl _, fun b hb => h.block b (by omega)⟩
theorem low_new {B : Nat} {w : World} (o : Obj) (hB : B ≤ w.heap.size) : Below B w (w.drew.alloc o) := ⟨rfl, rfl, rfl, by simp, fun b hb => heap_alloc_old w.drew _ (by show b < w.heap.size; omega)⟩
theorem cells_bs (s : List UInt8) : Lib.strCells (bs s) = s.map byteV := by
  unfold Lib.strCells byteV
  simp [bs]

/-- An append of bytes. -/
theorem ownm_app (w : World) (B : Nat) (v : Value) (xs : List UInt8) (h : OwnM w B v xs) (hB : B ≤ w.heap.size) (ao : Option Addr) (cap : Nat) (ys : List UInt8) (hy : Bd w ao ys) (hcap : ao = none → cap = 0) (hxy : xs.length + ys.length ≤ 140737488355328) :
    ∃ v' w', (Builtin.append_ #[22, 22] 22 #[v, .slice ao ys.length cap]).run Tryd.prog w = .ok v' w' ∧ OwnM w' B v' (xs ++ ys) ∧ Below B w w' := by
  obtain ⟨i0, hi, hz0, hz1, hz2⟩ := info_parts Tryd.infoB
  obtain ⟨g, cp, cur, fz, rfl, hBg, hg, hz, hnc, hcm, hcs, hc⟩ := id h
  by_cases hys : ys = []
  · subst hys
    refine ⟨.slice (some ⟨g, 0, none⟩) xs.length cp, w, ?_, by simpa using h, Below.refl _ _⟩
    cases ao with
    | none =>
      have hc0 := hcap rfl
      subst hc0
      simp [Builtin.append_, run_underlying Tryd.underBs, sizeOf, typeInfo, hi, Builtin.lenOf, Builtin.firstCells, storeCells, hnc]
    | some a =>
      have hf := run_firstCells_some (P := Tryd.prog) w i0.size 0 a 0 cap [] (by simp) (by simp)
      simp [Builtin.append_, run_underlying Tryd.underBs, sizeOf, typeInfo, hi, Builtin.lenOf, hf, storeCells, hnc]
  · obtain ⟨b, off, rfl, _⟩ := hy.pl hys
    have hp : 0 < ys.length := List.length_pos_iff.2 hys
    by_cases hroom : xs.length + ys.length ≤ cp
    · obtain ⟨hst, ho, hoth⟩ := ownm_room (ys := ys) hBg hg hz hcm hcs hc hroom
      have hf := run_firstCells_some (P := Tryd.prog) w i0.size ys.length ⟨b, off, none⟩ ys.length cap (ys.map byteV) (by simp [hz1]) (bd_cells hy)
      rw [hz1] at hf
      refine ⟨_, _, ?_, ho, oth_low hoth hBg⟩
      simp [Builtin.append_, run_underlying Tryd.underBs, sizeOf, typeInfo, hi, Builtin.lenOf, hroom, hf, Addr.add_lit, hz1, hst]
    · have hr := run_append_grow (P := Tryd.prog) w 22 22 5 i0 (.int .u8 0) Tryd.underBs hi hz0 ⟨g, 0, none⟩ xs.length cp (xs.map byteV) (by simp [hz1]) h.cells ⟨b, off, none⟩ ys.length cap (ys.map byteV) (by simp [hz1]) (bd_cells hy) (by omega) (by omega) (growslice_fits (by omega) (by rw [hz2]; omega))
      refine ⟨_, _, hr, ?_, low_new _ hB⟩
      have hge := grownCap_ge w (xs.length + ys.length) cp 5
      refine ⟨w.heap.size, _, _, (0, 0), by rw [List.length_append], hB, heap_alloc_new w.drew _, fun _ _ _ => Nat.not_lt_zero _, by rw [List.length_append]; exact hge, grownCap_le_maxLen w (xs.length + ys.length) cp 5 (by unfold maxLen; omega), ?_, fun j hj => ?_⟩
      · simp only [Array.size_append, List.size_toArray, List.length_map, size_zeroCells]
        simp [Value.cells]
        omega
      · rw [List.length_append] at hj
        rw [Array.getElem?_append_left (by simp; omega)]
        simp [List.map_append]

/-- An append of a string. -/
theorem ownm_str (w : World) (B : Nat) (v : Value) (xs : List UInt8) (h : OwnM w B v xs) (hB : B ≤ w.heap.size) (ys : List UInt8) (hxy : xs.length + ys.length ≤ 140737488355328) :
    ∃ v' w', (Builtin.append_ #[22, 9] 22 #[v, .string (bs ys)]).run Tryd.prog w = .ok v' w' ∧ OwnM w' B v' (xs ++ ys) ∧ Below B w w' := by
  obtain ⟨i0, hi, hz0, hz1, hz2⟩ := info_parts Tryd.infoB
  obtain ⟨g, cp, cur, fz, rfl, hBg, hg, hz, hnc, hcm, hcs, hc⟩ := id h
  have hl : (bs ys).size = ys.length := bs_size ys
  by_cases hroom : xs.length + ys.length ≤ cp
  · obtain ⟨hst, ho, hoth⟩ := ownm_room (ys := ys) hBg hg hz hcm hcs hc hroom
    have hf := Lib.run_firstCells_string (P := Tryd.prog) w 1 (bs ys)
    rw [cells_bs, hl] at hf
    refine ⟨_, _, ?_, ho, oth_low hoth hBg⟩
    simp [Builtin.append_, run_underlying Tryd.underBs, run_underlying Tryd.underlying9, sizeOf, typeInfo, hi, Builtin.lenOf, hl, hroom, hf, Addr.add_lit, hz1, hst]
  · have hr := Lib.run_append_grow_string (P := Tryd.prog) w 22 9 22 5 i0 (.int .u8 0) Tryd.underBs Tryd.underlying9 hi hz0 ⟨g, 0, none⟩ xs.length cp (xs.map byteV) (by simp [hz1]) h.cells (bs ys) (by omega) (by omega) (growslice_fits (by omega) (by rw [hz2]; omega))
    rw [cells_bs, hl] at hr
    refine ⟨_, _, hr, ?_, low_new _ hB⟩
    have hge := grownCap_ge w (xs.length + ys.length) cp 5
    refine ⟨w.heap.size, _, _, (0, 0), by rw [List.length_append], hB, heap_alloc_new w.drew _, fun _ _ _ => Nat.not_lt_zero _, by rw [List.length_append]; exact hge, grownCap_le_maxLen w (xs.length + ys.length) cp 5 (by unfold maxLen; omega), ?_, fun j hj => ?_⟩
    · simp only [Array.size_append, List.size_toArray, List.length_map, size_zeroCells]
      simp [Value.cells]
      omega
    · rw [List.length_append] at hj
      rw [Array.getElem?_append_left (by simp; omega)]
      simp [List.map_append]

end Go.Proofs.YtndgglhppoijnaaDoor
