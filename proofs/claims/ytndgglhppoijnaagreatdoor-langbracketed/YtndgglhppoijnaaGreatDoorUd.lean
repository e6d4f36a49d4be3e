/-
  5 texts in one: what each proves stands at its head.
-/
import Derived.Test.YtndgglhppoijnaaGreatDoorUc
import Derived.Lib.FrozenHead
import Derived.Test.YtndgglhppoijnaaGreatDoorUb
/-
  Bytes of the call's own behind whose end there may be a mark (what is made of a string): appends to them.
-/
namespace Go.Proofs.YtndgglhppoijnaaGreatDoor
open Go.RowKit
set_option maxRecDepth 100000

/-- The cells of a row that are stored one after another. -/
theorem setCells_row (g : Nat) (t : TypeId) (fz : Nat × Nat) : ∀ (vs : List Value) (o : Nat) (cur : Array Value) (w : World), w.heap[g]? = some (.cells cur t fz) → o + vs.length ≤ cur.size →
    ∃ cur', (w.setCells g o vs).heap[g]? = some (.cells cur' t fz) ∧ cur'.size = cur.size ∧ (∀ j, j < o → cur'[j]? = cur[j]?) ∧ (∀ j, j < vs.length → cur'[o + j]? = vs[j]?) ∧ Oth g w (w.setCells g o vs)
  | [], o, cur, w, h, _ => ⟨cur, h, rfl, fun _ _ => rfl, fun j hj => absurd hj (Nat.not_lt_zero j), Oth.refl g w⟩
  | v :: r, o, cur, w, h, hl => by
    rw [List.length_cons] at hl
    have h1 : (w.setCell ⟨g, o, none⟩ v).heap[g]? = some (.cells (cur.setIfInBounds o v) t fz) := by
      rw [setCell_eq_setRow w g o cur t fz v h]
      exact setRow_heap w g cur _ t fz h
    obtain ⟨cur', k1, k2, k3, k4, k5⟩ := setCells_row g t fz r (o + 1) (cur.setIfInBounds o v) (w.setCell ⟨g, o, none⟩ v) h1 (by simp; omega)
    refine ⟨cur', k1, by rw [k2]; simp, fun j hj => ?_, fun j hj => ?_, ?_⟩
    · rw [k3 j (by omega), Array.getElem?_setIfInBounds_ne (by omega)]
    · cases j with
      | zero =>
        rw [Nat.add_zero, k3 o (by omega), Array.getElem?_setIfInBounds_self_of_lt (by omega)]
        rfl
      | succ j =>
        rw [show o + (j + 1) = o + 1 + j by omega, k4 j (by simp at hj; omega)]
        rfl
    · have k0 := (Oth.refl g w).set o v
      exact ⟨k5.os.trans k0.os, k5.tape.trans k0.tape, k5.output.trans k0.output, k5.size.trans k0.size, fun b hb => (k5.block b hb).trans (k0.block b hb)⟩

def OwnM (w : World) (B : Nat) (v : Value) (xs : List UInt8) : Prop :=
  ∃ g cap cur fz, v = .slice (some ⟨g, 0, none⟩) xs.length cap ∧ B ≤ g ∧ w.heap[g]? = some (.cells cur 5 fz) ∧ (∀ j, j < cur.size → fz.1 ≤ j → ¬ j < fz.2) ∧ xs.length ≤ cap ∧ cap ≤ maxLen ∧ cur.size = cap ∧ (∀ j, j < xs.length → cur[j]? = (xs.map byteV)[j]?)

theorem OwnM.cells {w : World} {B g cap : Nat} {xs : List UInt8} {n : Nat} (h : OwnM w B (.slice (some ⟨g, 0, none⟩) n cap) xs) : ∀ j u, (xs.map byteV)[j]? = some u → w.cell? ((⟨g, 0, none⟩ : Addr).add j) = some u := by
  obtain ⟨g', cap', cur, fz, e, _, hg, _, _, _, _, hc⟩ := h
  simp only [Value.slice.injEq, Option.some.injEq, Addr.mk.injEq, and_true] at e
  obtain ⟨rfl, _, rfl⟩ := e
  intro j u hu
  have hj : j < xs.length := by simpa using (List.getElem?_eq_some_iff.1 hu).1
  rw [Addr.add_mid]
  unfold World.cell?
  rw [hg]
  simp only [Nat.zero_add]
  rw [hc j hj]
  exact hu
theorem OwnM.bd {w : World} {B : Nat} {v : Value} {xs : List UInt8} (h : OwnM w B v xs) : ∃ ao cap, v = .slice ao xs.length cap ∧ Bd w ao xs ∧ xs.length ≤ cap := by
  obtain ⟨g, cap, cur, fz, rfl, r⟩ := id h
  refine ⟨_, cap, rfl, ⟨fun _ => ⟨g, 0, rfl, fun t ht => ?_⟩⟩, r.2.2.2.1⟩
  have := OwnM.cells h t (byteV (xs.getD t 0)) (by simp [ht])
  rw [Addr.add_mid] at this
  exact this
theorem OwnM.keep {w w' : World} {B : Nat} {v : Value} {xs : List UInt8} (h : OwnM w B v xs) (hb : Below w.heap.size w w') : OwnM w' B v xs := by
  obtain ⟨g, cap, cur, fz, e, hB, hg, r⟩ := h
  have hl : g < w.heap.size := by
    rcases Nat.lt_or_ge g w.heap.size with k | k
    · exact k
    · rw [Array.getElem?_eq_none k] at hg; cases hg
  exact ⟨g, cap, cur, fz, e, hB, by rw [hb.block g hl]; exact hg, r⟩

/-- What is stored behind the bytes, where there is room. -/
theorem ownm_room {w : World} {B g cap : Nat} {xs ys : List UInt8} {cur : Array Value} {fz : Nat × Nat} (hB : B ≤ g) (hg : w.heap[g]? = some (.cells cur 5 fz)) (hz : ∀ j, j < cur.size → fz.1 ≤ j → ¬ j < fz.2) (hcm : cap ≤ maxLen) (hcs : cur.size = cap) (hc : ∀ j, j < xs.length → cur[j]? = (xs.map byteV)[j]?) (hr : xs.length + ys.length ≤ cap) :
    (storeCells ⟨g, xs.length, none⟩ (ys.map byteV) 0).run Tryz.prog w = .ok () (w.setCells g xs.length (ys.map byteV)) ∧ OwnM (w.setCells g xs.length (ys.map byteV)) B (.slice (some ⟨g, 0, none⟩) (xs.length + ys.length) cap) (xs ++ ys) ∧ Oth g w (w.setCells g xs.length (ys.map byteV)) := by
  obtain ⟨cur', k1, k2, k3, k4, k5⟩ := setCells_row g 5 fz (ys.map byteV) xs.length cur w hg (by simp; omega)
  refine ⟨?_, ⟨g, cap, cur', fz, by rw [List.length_append], hB, k1, by rw [k2]; exact hz, by rw [List.length_append]; exact hr, hcm, by rw [k2]; exact hcs, fun j hj => ?_⟩, k5⟩
  · refine run_storeCells_cells g xs.length _ 0 w (fun j hj => ?_) (fun j hj => ?_) (fun v hv => ?_)
    · rw [List.length_map] at hj
      unfold World.cell?
      rw [hg]
      simp
      omega
    · rw [List.length_map] at hj
      unfold World.frozen?
      rw [hg]
      have := hz (xs.length + 0 + j) (by omega)
      simp only [Bool.and_eq_false_iff, decide_eq_false_iff_not]
      by_cases h1 : fz.1 ≤ xs.length + 0 + j
      · exact .inr (this h1)
      · exact .inl h1
    · obtain ⟨b, _, rfl⟩ := List.mem_map.1 hv
      rfl
  · rw [List.length_append] at hj
    rw [List.map_append]
    rcases Nat.lt_or_ge j xs.length with h | h
    · rw [k3 j h, hc j h, List.getElem?_append_left (by simpa using h)]
    · obtain ⟨d, rfl⟩ : ∃ d, j = xs.length + d := ⟨j - xs.length, by omega⟩
      rw [k4 d (by simp; omega), List.getElem?_append_right (by simp)]
      simp

theorem oth_low {B g : Nat} {w w' : World} (h : Oth g w w') (hB : B ≤ g) : Below B w w' := ⟨h.os, h.tape, h.output, by rw [h.size]; exact Nat.le_refl _, fun b hb => h.block b (by omega)⟩
theorem low_new {B : Nat} {w : World} (o : Obj) (hB : B ≤ w.heap.size) : Below B w (w.drew.alloc o) := ⟨rfl, rfl, rfl, by simp, fun b hb => heap_alloc_old w.drew _ (by show b < w.heap.size; omega)⟩
theorem cells_bs (s : List UInt8) : Lib.strCells (bs s) = s.map byteV := by
  unfold Lib.strCells byteV
  simp [bs]

/-- An append of bytes. -/
theorem ownm_app (w : World) (B : Nat) (v : Value) (xs : List UInt8) (h : OwnM w B v xs) (hB : B ≤ w.heap.size) (ao : Option Addr) (cap : Nat) (ys : List UInt8) (hy : Bd w ao ys) (hcap : ao = none → cap = 0) (hxy : xs.length + ys.length ≤ 140737488355328) :
    ∃ v' w', (Builtin.append_ #[22, 22] 22 #[v, .slice ao ys.length cap]).run Tryz.prog w = .ok v' w' ∧ OwnM w' B v' (xs ++ ys) ∧ Below B w w' := by
  obtain ⟨i0, hi, hz0, hz1, hz2⟩ := info_parts Tryz.infoB
  obtain ⟨g, cp, cur, fz, rfl, hBg, hg, hz, hnc, hcm, hcs, hc⟩ := id h
  by_cases hys : ys = []
  · subst hys
    refine ⟨.slice (some ⟨g, 0, none⟩) xs.length cp, w, ?_, by simpa using h, Below.refl _ _⟩
    cases ao with
    | none =>
      have hc0 := hcap rfl
      subst hc0
      simp [Builtin.append_, run_underlying Tryz.underBs, sizeOf, typeInfo, hi, Builtin.lenOf, Builtin.firstCells, storeCells, hnc]
    | some a =>
      have hf := run_firstCells_some (P := Tryz.prog) w i0.size 0 a 0 cap [] (by simp) (by simp)
      simp [Builtin.append_, run_underlying Tryz.underBs, sizeOf, typeInfo, hi, Builtin.lenOf, hf, storeCells, hnc]
  · obtain ⟨b, off, rfl, _⟩ := hy.pl hys
    have hp : 0 < ys.length := List.length_pos_iff.2 hys
    by_cases hroom : xs.length + ys.length ≤ cp
    · obtain ⟨hst, ho, hoth⟩ := ownm_room (ys := ys) hBg hg hz hcm hcs hc hroom
      have hf := run_firstCells_some (P := Tryz.prog) w i0.size ys.length ⟨b, off, none⟩ ys.length cap (ys.map byteV) (by simp [hz1]) (bd_cells hy)
      rw [hz1] at hf
      refine ⟨_, _, ?_, ho, oth_low hoth hBg⟩
      simp [Builtin.append_, run_underlying Tryz.underBs, sizeOf, typeInfo, hi, Builtin.lenOf, hroom, hf, Addr.add_lit, hz1, hst]
    · have hr := run_append_grow (P := Tryz.prog) w 22 22 5 i0 (.int .u8 0) Tryz.underBs hi hz0 ⟨g, 0, none⟩ xs.length cp (xs.map byteV) (by simp [hz1]) h.cells ⟨b, off, none⟩ ys.length cap (ys.map byteV) (by simp [hz1]) (bd_cells hy) (by omega) (by omega) (growslice_fits (by omega) (by rw [hz2]; omega))
      refine ⟨_, _, hr, ?_, low_new _ hB⟩
      have hge := grownCap_ge w (xs.length + ys.length) cp 5
      refine ⟨w.heap.size, _, _, (0, 0), by rw [List.length_append], hB, heap_alloc_new w.drew _, fun _ _ _ => Nat.not_lt_zero _, by rw [List.length_append]; exact hge, grownCap_le_maxLen w (xs.length + ys.length) cp 5 (by unfold maxLen; omega), ?_, fun j hj => ?_⟩
      · simp only [Array.size_append, List.size_toArray, List.length_map, size_zeroCells]
        simp [Value.cells]
        omega
      · rw [List.length_append] at hj
        rw [Array.getElem?_append_left (by simp; omega)]
        simp [List.map_append]

/-- An append of a string. -/
theorem ownm_str (w : World) (B : Nat) (v : Value) (xs : List UInt8) (h : OwnM w B v xs) (hB : B ≤ w.heap.size) (ys : List UInt8) (hxy : xs.length + ys.length ≤ 140737488355328) :
    ∃ v' w', (Builtin.append_ #[22, 9] 22 #[v, .string (bs ys)]).run Tryz.prog w = .ok v' w' ∧ OwnM w' B v' (xs ++ ys) ∧ Below B w w' := by
  obtain ⟨i0, hi, hz0, hz1, hz2⟩ := info_parts Tryz.infoB
  obtain ⟨g, cp, cur, fz, rfl, hBg, hg, hz, hnc, hcm, hcs, hc⟩ := id h
  have hl : (bs ys).size = ys.length := bs_size ys
  by_cases hroom : xs.length + ys.length ≤ cp
  · obtain ⟨hst, ho, hoth⟩ := ownm_room (ys := ys) hBg hg hz hcm hcs hc hroom
    have hf := Lib.run_firstCells_string (P := Tryz.prog) w 1 (bs ys)
    rw [cells_bs, hl] at hf
    refine ⟨_, _, ?_, ho, oth_low hoth hBg⟩
    simp [Builtin.append_, run_underlying Tryz.underBs, run_underlying Tryz.underlying9, sizeOf, typeInfo, hi, Builtin.lenOf, hl, hroom, hf, Addr.add_lit, hz1, hst]
  · have hr := Lib.run_append_grow_string (P := Tryz.prog) w 22 9 22 5 i0 (.int .u8 0) Tryz.underBs Tryz.underlying9 hi hz0 ⟨g, 0, none⟩ xs.length cp (xs.map byteV) (by simp [hz1]) h.cells (bs ys) (by omega) (by omega) (growslice_fits (by omega) (by rw [hz2]; omega))
    rw [cells_bs, hl] at hr
    refine ⟨_, _, hr, ?_, low_new _ hB⟩
    have hge := grownCap_ge w (xs.length + ys.length) cp 5
    refine ⟨w.heap.size, _, _, (0, 0), by rw [List.length_append], hB, heap_alloc_new w.drew _, fun _ _ _ => Nat.not_lt_zero _, by rw [List.length_append]; exact hge, grownCap_le_maxLen w (xs.length + ys.length) cp 5 (by unfold maxLen; omega), ?_, fun j hj => ?_⟩
    · simp only [Array.size_append, List.size_toArray, List.length_map, size_zeroCells]
      simp [Value.cells]
      omega
    · rw [List.length_append] at hj
      rw [Array.getElem?_append_left (by simp; omega)]
      simp [List.map_append]

/-- The bytes of a string. -/
theorem ownm_conv (w : World) (B : Nat) (hB : B ≤ w.heap.size) (xs : List UInt8) (hx : xs.length ≤ 1000000) :
    ∃ v' w', (convert 9 22 (.string (bs xs))).run Tryz.prog w = .ok v' w' ∧ OwnM w' B v' xs ∧ Below B w w' := by
  have hl : (bs xs).size = xs.length := bs_size xs
  have hr := run_bytes_of_string (P := Tryz.prog) w 9 22 5 (bs xs) Tryz.underlying9 Tryz.underBs Tryz.underlying5
  rw [hl] at hr
  have hge := grownCap_ge w xs.length 0 5
  have hsz : (bytesRow (bs xs) (grownCap w xs.length 0 5)).size = grownCap w xs.length 0 5 := by
    unfold bytesRow
    rw [Array.size_append, Array.size_map, Array.size_replicate]
    have : (bs xs).data.size = xs.length := hl
    omega
  refine ⟨_, _, hr, ⟨w.heap.size, _, _, _, rfl, hB, heap_alloc_new w.drew _, fun j h1 h2 => by omega, hge, grownCap_le_maxLen w xs.length 0 5 (by unfold maxLen; omega), hsz, fun j hj => ?_⟩, low_new _ hB⟩
  rw [bytesRow_at _ _ j (by show j < (bs xs).size; omega)]
  simp [hj, bs, byteV]
end Go.Proofs.YtndgglhppoijnaaGreatDoor
/-
  LangBracketed's second text made: a region that draws its order, by what is done.
-/
namespace Go.Proofs.YtndgglhppoijnaaGreatDoor
open Go.RowKit
set_option maxRecDepth 100000

/-- What a slot holds. -/
def ev (a : Act) (k : Nat) : Value := a.eval (.tmp k)
def upde (e : Nat → Value) (k : Nat) (v : Value) : Nat → Value := fun j => if j = k then v else e j
theorem ev_put (a : Act) (k : Nat) (v : Value) (hk : k < a.tmps.size) : ev (a.put (some k) v) = upde (ev a) k v := by
  funext j
  unfold ev upde Act.put Act.eval
  by_cases h : j = k
  · subst h
    simp [hk]
  · have h2 : ¬ k = j := fun e => h e.symm
    simp [h, h2]

def q0 : Oper := { dst := some 71, op := Op.move (Operand.tmp 9), type := 44, pos := "law.go:203", after := #[], guard := none }
def q1 : Oper := { dst := some 72, op := Op.move (Operand.tmp 11), type := 3, pos := "law.go:203", after := #[], guard := none }
def q2 : Oper := { dst := some 73, op := Op.indexAddr 44 (Operand.tmp 71) (Operand.tmp 72), type := 0, pos := "law.go:203", after := #[{ on := 0, ground := Ground.data }, { on := 1, ground := Ground.data }], guard := none }
def q3 : Oper := { dst := some 74, op := Op.load 9 (Operand.tmp 73), type := 9, pos := "law.go:203", after := #[{ on := 2, ground := Ground.data }], guard := none }
def q4 : Oper := { dst := some 75, op := Op.binOp BinOp.add 9 (Operand.const (Value.string { data := #[102, 40, 41, 58, 78, 61] })) (Operand.tmp 74) 9, type := 9, pos := "law.go:203", after := #[{ on := 3, ground := Ground.data }], guard := none }
def q5 : Oper := { dst := some 76, op := Op.convert 9 22 (Operand.tmp 75), type := 22, pos := "law.go:203", after := #[{ on := 4, ground := Ground.data }], guard := none }
def q6 : Oper := { dst := some 77, op := Op.move (Operand.tmp 0), type := 22, pos := "law.go:203", after := #[], guard := none }
def q7 : Oper := { dst := some 78, op := Op.call { callee := Callee.builtin Builtin.append, args := #[Operand.tmp 76, Operand.tmp 77], argTypes := #[22, 22] }, type := 22, pos := "law.go:203", after := #[{ on := 5, ground := Ground.data }, { on := 6, ground := Ground.data }], guard := none }
def q8 : Oper := { dst := some 79, op := Op.move (Operand.tmp 10), type := 44, pos := "law.go:203", after := #[], guard := none }
def q9 : Oper := { dst := some 80, op := Op.move (Operand.tmp 11), type := 3, pos := "law.go:203", after := #[], guard := none }
def q10 : Oper := { dst := some 81, op := Op.indexAddr 44 (Operand.tmp 79) (Operand.tmp 80), type := 0, pos := "law.go:203", after := #[{ on := 8, ground := Ground.data }, { on := 9, ground := Ground.data }], guard := none }
def q11 : Oper := { dst := some 82, op := Op.load 9 (Operand.tmp 81), type := 9, pos := "law.go:203", after := #[{ on := 10, ground := Ground.data }], guard := none }
def q12 : Oper := { dst := some 83, op := Op.binOp BinOp.add 9 (Operand.const (Value.string { data := #[10] })) (Operand.tmp 82) 9, type := 9, pos := "law.go:203", after := #[{ on := 11, ground := Ground.data }], guard := none }
def q13 : Oper := { dst := some 84, op := Op.binOp BinOp.add 9 (Operand.tmp 83) (Operand.const (Value.string { data := #[59] })) 9, type := 9, pos := "law.go:203", after := #[{ on := 12, ground := Ground.data }], guard := none }
def q14 : Oper := { dst := some 85, op := Op.call { callee := Callee.builtin Builtin.append, args := #[Operand.tmp 78, Operand.tmp 84], argTypes := #[22, 9] }, type := 22, pos := "law.go:203", after := #[{ on := 7, ground := Ground.data }, { on := 13, ground := Ground.data }, { on := 7, ground := Ground.chain }], guard := none }
def q15 : Oper := { dst := some 12, op := Op.assign (Operand.tmp 85), type := 22, pos := "law.go:203", after := #[{ on := 14, ground := Ground.data }, { on := 14, ground := Ground.chain }, { on := 0, ground := Ground.phase }, { on := 1, ground := Ground.phase }, { on := 2, ground := Ground.phase }, { on := 3, ground := Ground.phase }, { on := 4, ground := Ground.phase }, { on := 5, ground := Ground.phase }, { on := 6, ground := Ground.phase }, { on := 7, ground := Ground.phase }, { on := 8, ground := Ground.phase }, { on := 9, ground := Ground.phase }, { on := 10, ground := Ground.phase }, { on := 11, ground := Ground.phase }, { on := 12, ground := Ground.phase }, { on := 13, ground := Ground.phase }, { on := 14, ground := Ground.phase }], guard := none }
def ops11 : Array Oper := #[q0, q1, q2, q3, q4, q5, q6, q7, q8, q9, q10, q11, q12, q13, q14, q15]
def slot : Nat → Nat
  | 15 => 12
  | k => 71 + k
theorem slot_ne {i j : Nat} (hi : i < 16) (hj : j < 16) (h : j ≠ i) : slot j ≠ slot i := by
  unfold slot
  split <;> split <;> omega

theorem ready11 {l : Array Bool} {i : Nat} (hl : l.size = 16) (h : i ∈ Region.ready .any ops11 l) :
    (i = 0 ∧ l.getD 0 false = false) ∨ (i = 1 ∧ l.getD 1 false = false) ∨ (i = 2 ∧ l.getD 2 false = false ∧ l.getD 0 false = true ∧ l.getD 1 false = true) ∨ (i = 3 ∧ l.getD 3 false = false ∧ l.getD 2 false = true) ∨ (i = 4 ∧ l.getD 4 false = false ∧ l.getD 3 false = true) ∨ (i = 5 ∧ l.getD 5 false = false ∧ l.getD 4 false = true) ∨ (i = 6 ∧ l.getD 6 false = false) ∨ (i = 7 ∧ l.getD 7 false = false ∧ l.getD 5 false = true ∧ l.getD 6 false = true) ∨ (i = 8 ∧ l.getD 8 false = false) ∨ (i = 9 ∧ l.getD 9 false = false) ∨ (i = 10 ∧ l.getD 10 false = false ∧ l.getD 8 false = true ∧ l.getD 9 false = true) ∨ (i = 11 ∧ l.getD 11 false = false ∧ l.getD 10 false = true) ∨ (i = 12 ∧ l.getD 12 false = false ∧ l.getD 11 false = true) ∨ (i = 13 ∧ l.getD 13 false = false ∧ l.getD 12 false = true) ∨ (i = 14 ∧ l.getD 14 false = false ∧ l.getD 7 false = true ∧ l.getD 13 false = true) ∨ (i = 15 ∧ l.getD 15 false = false ∧ l.getD 14 false = true) := by
  obtain ⟨h1, h2⟩ := ready_mem h
  have hlt : i < l.size := (getD_true h1).1
  have h3 : l.getD i false = false := by simp [hlt] at h1 ⊢; exact h1
  unfold Region.ready at h
  simp only [List.mem_filter, List.mem_range, Bool.and_eq_true] at h
  have h4 := h.2.2
  clear h h1 h2
  rw [hl] at hlt
  have h5 : i = 0 ∨ i = 1 ∨ i = 2 ∨ i = 3 ∨ i = 4 ∨ i = 5 ∨ i = 6 ∨ i = 7 ∨ i = 8 ∨ i = 9 ∨ i = 10 ∨ i = 11 ∨ i = 12 ∨ i = 13 ∨ i = 14 ∨ i = 15 := by omega
  rcases h5 with rfl | rfl | rfl | rfl | rfl | rfl | rfl | rfl | rfl | rfl | rfl | rfl | rfl | rfl | rfl | rfl
  · exact .inl ⟨rfl, h3⟩
  · exact .inr (.inl ⟨rfl, h3⟩)
  · simp [ops11, q2, Region.binds] at h4
    exact .inr (.inr (.inl ⟨rfl, h3, by simp_all, by simp_all⟩))
  · simp [ops11, q3, Region.binds] at h4
    exact .inr (.inr (.inr (.inl ⟨rfl, h3, by simp_all⟩)))
  · simp [ops11, q4, Region.binds] at h4
    exact .inr (.inr (.inr (.inr (.inl ⟨rfl, h3, by simp_all⟩))))
  · simp [ops11, q5, Region.binds] at h4
    exact .inr (.inr (.inr (.inr (.inr (.inl ⟨rfl, h3, by simp_all⟩)))))
  · exact .inr (.inr (.inr (.inr (.inr (.inr (.inl ⟨rfl, h3⟩))))))
  · simp [ops11, q7, Region.binds] at h4
    exact .inr (.inr (.inr (.inr (.inr (.inr (.inr (.inl ⟨rfl, h3, by simp_all, by simp_all⟩)))))))
  · exact .inr (.inr (.inr (.inr (.inr (.inr (.inr (.inr (.inl ⟨rfl, h3⟩))))))))
  · exact .inr (.inr (.inr (.inr (.inr (.inr (.inr (.inr (.inr (.inl ⟨rfl, h3⟩)))))))))
  · simp [ops11, q10, Region.binds] at h4
    exact .inr (.inr (.inr (.inr (.inr (.inr (.inr (.inr (.inr (.inr (.inl ⟨rfl, h3, by simp_all, by simp_all⟩))))))))))
  · simp [ops11, q11, Region.binds] at h4
    exact .inr (.inr (.inr (.inr (.inr (.inr (.inr (.inr (.inr (.inr (.inr (.inl ⟨rfl, h3, by simp_all⟩)))))))))))
  · simp [ops11, q12, Region.binds] at h4
    exact .inr (.inr (.inr (.inr (.inr (.inr (.inr (.inr (.inr (.inr (.inr (.inr (.inl ⟨rfl, h3, by simp_all⟩))))))))))))
  · simp [ops11, q13, Region.binds] at h4
    exact .inr (.inr (.inr (.inr (.inr (.inr (.inr (.inr (.inr (.inr (.inr (.inr (.inr (.inl ⟨rfl, h3, by simp_all⟩)))))))))))))
  · simp [ops11, q14, Region.binds] at h4
    exact .inr (.inr (.inr (.inr (.inr (.inr (.inr (.inr (.inr (.inr (.inr (.inr (.inr (.inr (.inl ⟨rfl, h3, by simp_all, by simp_all⟩))))))))))))))
  · simp [ops11, q15, Region.binds] at h4
    exact .inr (.inr (.inr (.inr (.inr (.inr (.inr (.inr (.inr (.inr (.inr (.inr (.inr (.inr (.inr (⟨rfl, h3, by simp_all⟩)))))))))))))))

theorem all11 {l : Array Bool} (hl : l.size = 16) (h : Region.ready .any ops11 l = []) : l.getD 15 false = true := by
  unfold Region.ready at h
  rw [List.filter_eq_nil_iff] at h
  have e : ∀ j, j < 16 → (l.getD j false = l.getD j true) := fun j hj => by simp [hl, hj]
  have r0 : l.getD 0 false = true := by
    have q := h 0 (by decide)
    rw [e 0 (by decide)]
    simpa [ops11, q0, Region.binds] using q
  have s0 : l[0]?.getD false = true := by simpa using r0
  have r1 : l.getD 1 false = true := by
    have q := h 1 (by decide)
    rw [e 1 (by decide)]
    simpa [ops11, q1, Region.binds, s0] using q
  have s1 : l[1]?.getD false = true := by simpa using r1
  have r2 : l.getD 2 false = true := by
    have q := h 2 (by decide)
    rw [e 2 (by decide)]
    simpa [ops11, q2, Region.binds, s0, s1] using q
  have s2 : l[2]?.getD false = true := by simpa using r2
  have r3 : l.getD 3 false = true := by
    have q := h 3 (by decide)
    rw [e 3 (by decide)]
    simpa [ops11, q3, Region.binds, s0, s1, s2] using q
  have s3 : l[3]?.getD false = true := by simpa using r3
  have r4 : l.getD 4 false = true := by
    have q := h 4 (by decide)
    rw [e 4 (by decide)]
    simpa [ops11, q4, Region.binds, s0, s1, s2, s3] using q
  have s4 : l[4]?.getD false = true := by simpa using r4
  have r5 : l.getD 5 false = true := by
    have q := h 5 (by decide)
    rw [e 5 (by decide)]
    simpa [ops11, q5, Region.binds, s0, s1, s2, s3, s4] using q
  have s5 : l[5]?.getD false = true := by simpa using r5
  have r6 : l.getD 6 false = true := by
    have q := h 6 (by decide)
    rw [e 6 (by decide)]
    simpa [ops11, q6, Region.binds, s0, s1, s2, s3, s4, s5] using q
  have s6 : l[6]?.getD false = true := by simpa using r6
  have r7 : l.getD 7 false = true := by
    have q := h 7 (by decide)
    rw [e 7 (by decide)]
    simpa [ops11, q7, Region.binds, s0, s1, s2, s3, s4, s5, s6] using q
  have s7 : l[7]?.getD false = true := by simpa using r7
  have r8 : l.getD 8 false = true := by
    have q := h 8 (by decide)
    rw [e 8 (by decide)]
    simpa [ops11, q8, Region.binds, s0, s1, s2, s3, s4, s5, s6, s7] using q
  have s8 : l[8]?.getD false = true := by simpa using r8
  have r9 : l.getD 9 false = true := by
    have q := h 9 (by decide)
    rw [e 9 (by decide)]
    simpa [ops11, q9, Region.binds, s0, s1, s2, s3, s4, s5, s6, s7, s8] using q
  have s9 : l[9]?.getD false = true := by simpa using r9
  have r10 : l.getD 10 false = true := by
    have q := h 10 (by decide)
    rw [e 10 (by decide)]
    simpa [ops11, q10, Region.binds, s0, s1, s2, s3, s4, s5, s6, s7, s8, s9] using q
  have s10 : l[10]?.getD false = true := by simpa using r10
  have r11 : l.getD 11 false = true := by
    have q := h 11 (by decide)
    rw [e 11 (by decide)]
    simpa [ops11, q11, Region.binds, s0, s1, s2, s3, s4, s5, s6, s7, s8, s9, s10] using q
  have s11 : l[11]?.getD false = true := by simpa using r11
  have r12 : l.getD 12 false = true := by
    have q := h 12 (by decide)
    rw [e 12 (by decide)]
    simpa [ops11, q12, Region.binds, s0, s1, s2, s3, s4, s5, s6, s7, s8, s9, s10, s11] using q
  have s12 : l[12]?.getD false = true := by simpa using r12
  have r13 : l.getD 13 false = true := by
    have q := h 13 (by decide)
    rw [e 13 (by decide)]
    simpa [ops11, q13, Region.binds, s0, s1, s2, s3, s4, s5, s6, s7, s8, s9, s10, s11, s12] using q
  have s13 : l[13]?.getD false = true := by simpa using r13
  have r14 : l.getD 14 false = true := by
    have q := h 14 (by decide)
    rw [e 14 (by decide)]
    simpa [ops11, q14, Region.binds, s0, s1, s2, s3, s4, s5, s6, s7, s8, s9, s10, s11, s12, s13] using q
  have s14 : l[14]?.getD false = true := by simpa using r14
  have r15 : l.getD 15 false = true := by
    have q := h 15 (by decide)
    rw [e 15 (by decide)]
    simpa [ops11, q15, Region.binds, s0, s1, s2, s3, s4, s5, s6, s7, s8, s9, s10, s11, s12, s13, s14] using q
  exact r15

section
variable (X0 : World) (t1 t2 i : Nat) (s0 : Value) (l : List UInt8)
abbrev bx1 (i : Nat) : List UInt8 := b6 ++ ahB i
abbrev bx2 (i : Nat) : List UInt8 := 10 :: bkB i ++ [59]
def P11 (d : Nat → Bool) (j : Nat) (v : Value) (w : World) : Prop :=
  match j with
  | 0 => v = .slice (some ⟨t1, 0, none⟩) 8 8
  | 1 => v = .int .i64 i
  | 2 => v = .pointer (some ⟨t1, i, none⟩)
  | 3 => v = .string (bs (ahB i))
  | 4 => v = .string (bs (bx1 i))
  | 5 => d 7 = false → OwnM w X0.heap.size v (bx1 i)
  | 6 => v = s0
  | 7 => d 14 = false → OwnM w X0.heap.size v (bx1 i ++ l)
  | 8 => v = .slice (some ⟨t2, 0, none⟩) 8 8
  | 9 => v = .int .i64 i
  | 10 => v = .pointer (some ⟨t2, i, none⟩)
  | 11 => v = .string (bs (bkB i))
  | 12 => v = .string (bs (10 :: bkB i))
  | 13 => v = .string (bs (bx2 i))
  | _ => OwnM w X0.heap.size v (bx1 i ++ l ++ bx2 i)
structure J11 (d : Nat → Bool) (e : Nat → Value) (w : World) : Prop where
  bel : Below X0.heap.size X0 w
  fac : ∀ j, j < 16 → d j = true → P11 X0 t1 t2 i s0 l d j (e (slot j)) w
  dep : (d 7 = true → d 5 = true) ∧ (d 14 = true → d 7 = true) ∧ (d 15 = true → d 14 = true)
end

theorem upd_ne {d : Nat → Bool} {k j : Nat} (h : j ≠ k) (hd : upd d k j = true) : d j = true := by
  unfold upd at hd
  simpa [h] using hd
theorem upd_f {d : Nat → Bool} {k j : Nat} (hd : upd d k j = false) : d j = false := by
  unfold upd at hd
  simp only [Bool.or_eq_false_iff] at hd
  exact hd.2
section
variable {X0 w w' : World} {t1 t2 i : Nat} {s0 v : Value} {l : List UInt8} {d : Nat → Bool} {e : Nat → Value}
theorem P11.mono {j k : Nat} (h : P11 X0 t1 t2 i s0 l d j v w) : P11 X0 t1 t2 i s0 l (upd d k) j v w := by
  unfold P11 at *
  split at h <;> first | exact h | exact fun x => h (upd_f x)
/-- One more, and the memory as it was. -/
theorem J11.one (h : J11 X0 t1 t2 i s0 l d e w) {k : Nat} (hk : k < 16) (hv : P11 X0 t1 t2 i s0 l (upd d k) k v w) (hd : (k = 7 → d 5 = true) ∧ (k = 14 → d 7 = true) ∧ (k = 15 → d 14 = true)) : J11 X0 t1 t2 i s0 l (upd d k) (upde e (slot k) v) w where
  bel := h.bel
  fac := fun j hj hdj => by
    by_cases e1 : j = k
    · subst e1
      rw [show upde e (slot j) v (slot j) = v from if_pos rfl]
      exact hv
    · rw [show upde e (slot k) v (slot j) = e (slot j) from if_neg (slot_ne hk hj e1)]
      exact (h.fac j hj (upd_ne e1 hdj)).mono
  dep := by
    refine ⟨fun x => ?_, fun x => ?_, fun x => ?_⟩
    · have := h.dep.1
      unfold upd at x ⊢
      by_cases e1 : k = 7
      · rw [hd.1 e1, Bool.or_true]
      · rw [this (by simpa [Ne.symm e1] using x), Bool.or_true]
    · have := h.dep.2.1
      unfold upd at x ⊢
      by_cases e1 : k = 14
      · rw [hd.2.1 e1, Bool.or_true]
      · rw [this (by simpa [Ne.symm e1] using x), Bool.or_true]
    · have := h.dep.2.2
      unfold upd at x ⊢
      by_cases e1 : k = 15
      · rw [hd.2.2 e1, Bool.or_true]
      · rw [this (by simpa [Ne.symm e1] using x), Bool.or_true]
/-- The memory changed, where nothing that is still wanted lies in it. -/
theorem J11.mem (h : J11 X0 t1 t2 i s0 l d e w) (hb : Below X0.heap.size w w') (h5 : d 5 = true → d 7 = true) (h7 : d 7 = true → d 14 = true) (h14 : d 14 = false) : J11 X0 t1 t2 i s0 l d e w' where
  bel := h.bel.trans hb
  fac := fun j hj hdj => by
    have hf := h.fac j hj hdj
    have h15 : d 15 = false := by
      cases x : d 15 with
      | false => rfl
      | true => rw [h.dep.2.2 x] at h14; cases h14
    have hj' : j = 0 ∨ j = 1 ∨ j = 2 ∨ j = 3 ∨ j = 4 ∨ j = 5 ∨ j = 6 ∨ j = 7 ∨ j = 8 ∨ j = 9 ∨ j = 10 ∨ j = 11 ∨ j = 12 ∨ j = 13 ∨ j = 14 ∨ j = 15 := by omega
    rcases hj' with rfl | rfl | rfl | rfl | rfl | rfl | rfl | rfl | rfl | rfl | rfl | rfl | rfl | rfl | rfl | rfl
    · exact hf
    · exact hf
    · exact hf
    · exact hf
    · exact hf
    · intro x; rw [h5 hdj] at x; cases x
    · exact hf
    · intro x; have y := h7 hdj; rw [h14] at y; cases y
    · exact hf
    · exact hf
    · exact hf
    · exact hf
    · exact hf
    · exact hf
    · rw [h14] at hdj; cases hdj
    · rw [h15] at hdj; cases hdj
  dep := h.dep
end
end Go.Proofs.YtndgglhppoijnaaGreatDoor
/-
  LangBracketed's second text made, whatever the order.
-/
namespace Go.Proofs.YtndgglhppoijnaaGreatDoor
open Go.RowKit
set_option maxRecDepth 100000

theorem dep_upd {d : Nat → Bool} {k : Nat} (h : (d 7 = true → d 5 = true) ∧ (d 14 = true → d 7 = true) ∧ (d 15 = true → d 14 = true)) (hd : (k = 7 → d 5 = true) ∧ (k = 14 → d 7 = true) ∧ (k = 15 → d 14 = true)) :
    (upd d k 7 = true → upd d k 5 = true) ∧ (upd d k 14 = true → upd d k 7 = true) ∧ (upd d k 15 = true → upd d k 14 = true) := by
  have key : ∀ p q, (d p = true → d q = true) → (k = p → d q = true) → upd d k p = true → upd d k q = true := by
    intro p q h1 h2 x
    unfold upd at x ⊢
    by_cases e1 : k = p
    · rw [h2 e1, Bool.or_true]
    · rw [h1 (by simpa [Ne.symm e1] using x), Bool.or_true]
  exact ⟨key 7 5 h.1 hd.1, key 14 7 h.2.1 hd.2.1, key 15 14 h.2.2 hd.2.2⟩
section
variable {X0 w w' : World} {t1 t2 i : Nat} {s0 v : Value} {l : List UInt8} {d : Nat → Bool} {e : Nat → Value}
theorem J11.two (h : J11 X0 t1 t2 i s0 l d e w) {k : Nat} (hk : k < 16) (hb : Below X0.heap.size w w') (hv : P11 X0 t1 t2 i s0 l (upd d k) k v w') (hd : (k = 7 → d 5 = true) ∧ (k = 14 → d 7 = true) ∧ (k = 15 → d 14 = true))
    (h5 : k ≠ 5 → d 5 = true → upd d k 7 = true) (h7 : k ≠ 7 → d 7 = true → upd d k 14 = true) (h14 : k ≠ 14 → d 14 = false) (h15 : d 15 = false) : J11 X0 t1 t2 i s0 l (upd d k) (upde e (slot k) v) w' where
  bel := h.bel.trans hb
  fac := fun j hj hdj => by
    by_cases e1 : j = k
    · subst e1
      rw [show upde e (slot j) v (slot j) = v from if_pos rfl]
      exact hv
    · rw [show upde e (slot k) v (slot j) = e (slot j) from if_neg (slot_ne hk hj e1)]
      have hdj := upd_ne e1 hdj
      have hf := (h.fac j hj hdj).mono (k := k)
      have e1 := Ne.symm e1
      have hj' : j = 0 ∨ j = 1 ∨ j = 2 ∨ j = 3 ∨ j = 4 ∨ j = 5 ∨ j = 6 ∨ j = 7 ∨ j = 8 ∨ j = 9 ∨ j = 10 ∨ j = 11 ∨ j = 12 ∨ j = 13 ∨ j = 14 ∨ j = 15 := by omega
      rcases hj' with rfl | rfl | rfl | rfl | rfl | rfl | rfl | rfl | rfl | rfl | rfl | rfl | rfl | rfl | rfl | rfl
      · exact hf
      · exact hf
      · exact hf
      · exact hf
      · exact hf
      · intro x; rw [h5 e1 hdj] at x; cases x
      · exact hf
      · intro x; rw [h7 e1 hdj] at x; cases x
      · exact hf
      · exact hf
      · exact hf
      · exact hf
      · exact hf
      · exact hf
      · rw [h14 e1] at hdj; cases hdj
      · rw [h15] at hdj; cases hdj
  dep := dep_upd h.dep hd
end

theorem slot_in {k : Nat} (hk : k < 16) : slot k = 12 ∨ (71 ≤ slot k ∧ slot k ≤ 85) := by
  by_cases e : k = 15
  · subst e
    exact .inl rfl
  · have : slot k = 71 + k := by unfold slot; split <;> simp_all
    omega
/-- Off the slots of the region, as it was. -/
structure Off (a0 a : Act) : Prop where
  def_ : a.defers = a0.defers
  size : a.tmps.size = a0.tmps.size
  same : ∀ k, k ≠ 12 → (k < 71 ∨ 85 < k) → ev a k = ev a0 k
theorem Off.put {a0 a : Act} (h : Off a0 a) {k : Nat} (hk : k < 16) (hs : 86 ≤ a.tmps.size) (v : Value) : Off a0 (a.put (some (slot k)) v) := by
  have hsl := slot_in hk
  have hl : slot k < a.tmps.size := by omega
  refine ⟨h.def_, by rw [← h.size]; simp [Act.put], fun j h1 h2 => ?_⟩
  rw [ev_put a _ v hl]
  have : j ≠ slot k := by omega
  rw [show upde (ev a) (slot k) v j = ev a j from if_neg this]
  exact h.same j h1 h2

def I11 (X0 : World) (t1 t2 i : Nat) (s0 : Value) (t : List UInt8) (a0 : Act) (l : Array Bool) (a : Act) (w : World) : Prop :=
  l.size = 16 ∧ Off a0 a ∧ J11 X0 t1 t2 i s0 t (fun j => l.getD j false) (ev a) w
theorem step11 {X0 w w' : World} {t1 t2 i : Nat} {s0 v : Value} {t : List UInt8} {a0 a : Act} {l : Array Bool} {Q : Exit → Act → World → Prop} {k : Nat} {o : Oper} (ho : ops11[k]? = some o) (hg : o.guard = none) (hdst : o.dst = some (slot k)) (hk : k < 16) (hl : l.size = 16) (hs : 86 ≤ a0.tmps.size) (hO : Off a0 a)
    (hr : (execOp a.eval o).run Tryz.prog w = .ok (.value v) w') (hJ : J11 X0 t1 t2 i s0 t (upd (fun j => l.getD j false) k) (upde (ev a) (slot k) v) w') : wpOp Tryz.prog ops11 Q k (fun a' w' => I11 X0 t1 t2 i s0 t a0 (l.setIfInBounds k true) a' w') a w := by
  have hs' : 86 ≤ a.tmps.size := by rw [hO.size]; exact hs
  refine wpOp_run ho hg hr ?_
  rw [hdst]
  refine ⟨by simp [hl], hO.put hk hs' v, ?_⟩
  have hsl := slot_in hk
  rw [getD_set l k (by omega), ev_put a _ v (by omega)]
  exact hJ

theorem region11 {Q : Exit → Act → World → Prop} {X0 w0 : World} {a1 : Option Addr} {c1 t1 t2 i : Nat} {t : List UInt8} {a0 : Act} (hi : i < 8) (h1 : Bd X0 a1 t) (hn1 : a1 = none → c1 = 0) (ht : t.length ≤ 30000) (hs : 86 ≤ a0.tmps.size)
    (e0 : ev a0 0 = .slice a1 t.length c1) (e9 : ev a0 9 = .slice (some ⟨t1, 0, none⟩) 8 8) (e10 : ev a0 10 = .slice (some ⟨t2, 0, none⟩) 8 8) (e11 : ev a0 11 = .int .i64 i)
    (hT1 : ∀ w, Below X0.heap.size X0 w → w.cell? ⟨t1, i, none⟩ = some (.string (bs (ahB i)))) (hT2 : ∀ w, Below X0.heap.size X0 w → w.cell? ⟨t2, i, none⟩ = some (.string (bs (bkB i)))) (hw : Below X0.heap.size X0 w0)
    (hQ : ∀ a w, Off a0 a → Below X0.heap.size X0 w → OwnM w X0.heap.size (ev a 12) (bx1 i ++ t ++ bx2 i) → Q .normal a w) :
    wpAny Tryz.prog .any ops11 Q 16 (Array.replicate 16 false) a0 w0 := by
  have hd0 : (fun j => (Array.replicate 16 false).getD j false) = fun _ : Nat => false := by
    funext j
    by_cases h : j < 16 <;> simp [h]
  have hlA : (ahB i).length ≤ 20 := by
    have h8 : i = 0 ∨ i = 1 ∨ i = 2 ∨ i = 3 ∨ i = 4 ∨ i = 5 ∨ i = 6 ∨ i = 7 := by omega
    rcases h8 with rfl | rfl | rfl | rfl | rfl | rfl | rfl | rfl <;> decide
  have hlB : (bkB i).length ≤ 20 := by
    have h8 : i = 0 ∨ i = 1 ∨ i = 2 ∨ i = 3 ∨ i = 4 ∨ i = 5 ∨ i = 6 ∨ i = 7 := by omega
    rcases h8 with rfl | rfl | rfl | rfl | rfl | rfl | rfl | rfl <;> decide
  have hl1 : (bx1 i).length ≤ 30 := by simp only [List.length_append, List.length_cons, List.length_nil]; omega
  have hl2 : (bx2 i).length ≤ 30 := by simp only [List.length_append, List.length_cons, List.length_nil]; omega
  have N : ∀ {p : Prop} {m n : Nat}, m ≠ n → m = n → p := fun h e => absurd e h
  refine wpAny_inv (I11 X0 t1 t2 i (.slice a1 t.length c1) t a0) ?_ ?_ 16 _ _ _ (by simp) ⟨by simp, ⟨rfl, rfl, fun _ _ _ => rfl⟩, ?_⟩
  · rintro l a w k hk ⟨hl, hO, J⟩
    have hev : ∀ j, a.eval (.tmp j) = ev a j := fun _ => rfl
    have hcn : ∀ v, a.eval (.const v) = v := fun _ => rfl
    have f0 : ev a 0 = .slice a1 t.length c1 := (hO.same 0 (by decide) (by decide)).trans e0
    have f9 : ev a 9 = .slice (some ⟨t1, 0, none⟩) 8 8 := (hO.same 9 (by decide) (by decide)).trans e9
    have f10 : ev a 10 = .slice (some ⟨t2, 0, none⟩) 8 8 := (hO.same 10 (by decide) (by decide)).trans e10
    have f11 : ev a 11 = .int .i64 i := (hO.same 11 (by decide) (by decide)).trans e11
    have g1 := hT1 w J.bel
    have g2 := hT2 w J.bel
    rcases ready11 hl hk with ⟨rfl, q⟩ | ⟨rfl, q⟩ | ⟨rfl, q, p0, p1⟩ | ⟨rfl, q, p2⟩ | ⟨rfl, q, p3⟩ | ⟨rfl, q, p4⟩ | ⟨rfl, q⟩ | ⟨rfl, q, p5, p6⟩ | ⟨rfl, q⟩ | ⟨rfl, q⟩ | ⟨rfl, q, p8, p9⟩ | ⟨rfl, q, p10⟩ | ⟨rfl, q, p11⟩ | ⟨rfl, q, p12⟩ | ⟨rfl, q, p7, p13⟩ | ⟨rfl, q, p14⟩
    · refine step11 rfl rfl rfl (by decide) hl hs hO (v := ev a 9) (w' := w) rfl (J.one (by decide) f9 ⟨N (by decide), N (by decide), N (by decide)⟩)
    · refine step11 rfl rfl rfl (by decide) hl hs hO (v := ev a 11) (w' := w) rfl (J.one (by decide) f11 ⟨N (by decide), N (by decide), N (by decide)⟩)
    · have k0 : ev a 71 = _ := J.fac 0 (by decide) p0
      have k1 : ev a 72 = _ := J.fac 1 (by decide) p1
      refine step11 (o := q2) rfl rfl rfl (by decide) hl hs hO (v := .pointer (some ⟨t1, i, none⟩)) (w' := w) ?_ (J.one (by decide) rfl ⟨N (by decide), N (by decide), N (by decide)⟩)
      unfold q2
      simp only [execOp, hev, k0, k1]
      go_simp
      intro x
      omega
    · have k2 : ev a 73 = _ := J.fac 2 (by decide) p2
      refine step11 (o := q3) rfl rfl rfl (by decide) hl hs hO (v := .string (bs (ahB i))) (w' := w) ?_ (J.one (by decide) rfl ⟨N (by decide), N (by decide), N (by decide)⟩)
      unfold q3
      simp only [execOp, hev, k2]
      go_simp
    · have k3 : ev a 74 = _ := J.fac 3 (by decide) p3
      refine step11 (o := q4) rfl rfl rfl (by decide) hl hs hO (v := .string (bs (bx1 i))) (w' := w) ?_ (J.one (by decide) rfl ⟨N (by decide), N (by decide), N (by decide)⟩)
      unfold q4
      simp only [execOp, hev, hcn, k3]
      go_simp
      rw [if_neg (by rw [bs_size]; omega)]
      exact congrArg (fun s => Result.ok (Next.value (Value.string s)) w) (bs_app b6 _)
    · have k4 : ev a 75 = _ := J.fac 4 (by decide) p4
      obtain ⟨v', w', hr, ho, hb⟩ := ownm_conv w X0.heap.size J.bel.size (bx1 i) (by omega)
      have n7 : l.getD 7 false = false := by
        cases x : l.getD 7 false with
        | false => rfl
        | true => have y : l.getD 5 false = true := J.dep.1 x; rw [q] at y; cases y
      have n14 : l.getD 14 false = false := by
        cases x : l.getD 14 false with
        | false => rfl
        | true => have y : l.getD 7 false = true := J.dep.2.1 x; rw [n7] at y; cases y
      have n15 : l.getD 15 false = false := by
        cases x : l.getD 15 false with
        | false => rfl
        | true => have y : l.getD 14 false = true := J.dep.2.2 x; rw [n14] at y; cases y
      refine step11 (o := q5) rfl rfl rfl (by decide) hl hs hO (v := v') (w' := w') ?_ (J.two (by decide) hb (fun _ => ho) ⟨N (by decide), N (by decide), N (by decide)⟩ (fun x => absurd rfl x) (fun _ x => by rw [n7] at x; cases x) (fun _ => n14) n15)
      unfold q5
      simp only [execOp, hev, k4, Sem.run_bind, Sem.run_pure, hr, Result.andThen_ok]
    · refine step11 rfl rfl rfl (by decide) hl hs hO (v := ev a 0) (w' := w) rfl (J.one (by decide) f0 ⟨N (by decide), N (by decide), N (by decide)⟩)
    · have k5 : OwnM w X0.heap.size (ev a 76) (bx1 i) := J.fac 5 (by decide) p5 q
      have k6 : ev a 77 = _ := J.fac 6 (by decide) p6
      obtain ⟨v', w', hr, ho, hb⟩ := ownm_app w X0.heap.size (ev a 76) (bx1 i) k5 J.bel.size a1 c1 t (h1.up J.bel) hn1 (by omega)
      have n14 : l.getD 14 false = false := by
        cases x : l.getD 14 false with
        | false => rfl
        | true => have y : l.getD 7 false = true := J.dep.2.1 x; rw [q] at y; cases y
      have n15 : l.getD 15 false = false := by
        cases x : l.getD 15 false with
        | false => rfl
        | true => have y : l.getD 14 false = true := J.dep.2.2 x; rw [n14] at y; cases y
      refine step11 (o := q7) rfl rfl rfl (by decide) hl hs hO (v := v') (w' := w') ?_ (J.two (by decide) hb (fun _ => ho) ⟨fun _ => p5, N (by decide), N (by decide)⟩ (fun _ _ => rfl) (fun x => absurd rfl x) (fun _ => n14) n15)
      unfold q7
      simp only [execOp, resolve, invoke, builtin, Sem.run_bind, Sem.run_pure, Result.andThen_ok, List.map_toArray, List.map_cons, List.map_nil, hev, k6, hr]
    · refine step11 rfl rfl rfl (by decide) hl hs hO (v := ev a 10) (w' := w) rfl (J.one (by decide) f10 ⟨N (by decide), N (by decide), N (by decide)⟩)
    · refine step11 rfl rfl rfl (by decide) hl hs hO (v := ev a 11) (w' := w) rfl (J.one (by decide) f11 ⟨N (by decide), N (by decide), N (by decide)⟩)
    · have k8 : ev a 79 = _ := J.fac 8 (by decide) p8
      have k9 : ev a 80 = _ := J.fac 9 (by decide) p9
      refine step11 (o := q10) rfl rfl rfl (by decide) hl hs hO (v := .pointer (some ⟨t2, i, none⟩)) (w' := w) ?_ (J.one (by decide) rfl ⟨N (by decide), N (by decide), N (by decide)⟩)
      unfold q10
      simp only [execOp, hev, k8, k9]
      go_simp
      intro x
      omega
    · have k10 : ev a 81 = _ := J.fac 10 (by decide) p10
      refine step11 (o := q11) rfl rfl rfl (by decide) hl hs hO (v := .string (bs (bkB i))) (w' := w) ?_ (J.one (by decide) rfl ⟨N (by decide), N (by decide), N (by decide)⟩)
      unfold q11
      simp only [execOp, hev, k10]
      go_simp
    · have k11 : ev a 82 = _ := J.fac 11 (by decide) p11
      refine step11 (o := q12) rfl rfl rfl (by decide) hl hs hO (v := .string (bs (10 :: bkB i))) (w' := w) ?_ (J.one (by decide) rfl ⟨N (by decide), N (by decide), N (by decide)⟩)
      unfold q12
      simp only [execOp, hev, hcn, k11]
      go_simp
      rw [if_neg (by rw [bs_size]; omega)]
      exact congrArg (fun s => Result.ok (Next.value (Value.string s)) w) (bs_app [10] _)
    · have k12 : ev a 83 = _ := J.fac 12 (by decide) p12
      refine step11 (o := q13) rfl rfl rfl (by decide) hl hs hO (v := .string (bs (bx2 i))) (w' := w) ?_ (J.one (by decide) rfl ⟨N (by decide), N (by decide), N (by decide)⟩)
      unfold q13
      simp only [execOp, hev, hcn, k12]
      go_simp
      rw [if_neg (by rw [bs_size, List.length_cons]; omega)]
      exact congrArg (fun s => Result.ok (Next.value (Value.string s)) w) (bs_app _ [59])
    · have n15 : l.getD 15 false = false := by
        cases x : l.getD 15 false with
        | false => rfl
        | true => have y : l.getD 14 false = true := J.dep.2.2 x; rw [q] at y; cases y
      have k7 : OwnM w X0.heap.size (ev a 78) (bx1 i ++ t) := J.fac 7 (by decide) p7 q
      have k13 : ev a 84 = _ := J.fac 13 (by decide) p13
      obtain ⟨v', w', hr, ho, hb⟩ := ownm_str w X0.heap.size (ev a 78) (bx1 i ++ t) k7 J.bel.size (bx2 i) (by rw [List.length_append]; omega)
      refine step11 (o := q14) rfl rfl rfl (by decide) hl hs hO (v := v') (w' := w') ?_ (J.two (by decide) hb ho ⟨N (by decide), fun _ => p7, N (by decide)⟩ (fun _ _ => p7) (fun _ _ => rfl) (fun x => absurd rfl x) n15)
      unfold q14
      simp only [execOp, resolve, invoke, builtin, Sem.run_bind, Sem.run_pure, Result.andThen_ok, List.map_toArray, List.map_cons, List.map_nil, hev, k13, hr]
    · have k14 : OwnM w X0.heap.size (ev a 85) (bx1 i ++ t ++ bx2 i) := J.fac 14 (by decide) p14
      refine step11 rfl rfl rfl (by decide) hl hs hO (v := ev a 85) (w' := w) rfl (J.one (by decide) k14 ⟨N (by decide), N (by decide), fun _ => p14⟩)
  · rintro l a w hr ⟨hl, hO, J⟩
    exact hQ a w hO J.bel (J.fac 15 (by decide) (all11 hl hr))
  · rw [hd0]
    have no : ∀ {p : Prop}, false = true → p := fun x => by cases x
    exact ⟨hw, fun _ _ x => no x, fun x => no x, fun x => no x, fun x => no x⟩
end Go.Proofs.YtndgglhppoijnaaGreatDoor
/-
  An activation spelt out again behind a region whose walk spoke of its slots by number.
-/
namespace Go.Proofs.YtndgglhppoijnaaGreatDoor
open Go.RowKit
set_option maxRecDepth 100000

theorem lit129 (f : Nat → Value) : ((List.range 129).map f).toArray = #[f 0, f 1, f 2, f 3, f 4, f 5, f 6, f 7, f 8, f 9, f 10, f 11, f 12, f 13, f 14, f 15, f 16, f 17, f 18, f 19, f 20, f 21, f 22, f 23, f 24, f 25, f 26, f 27, f 28, f 29, f 30, f 31, f 32, f 33, f 34, f 35, f 36, f 37, f 38, f 39, f 40, f 41, f 42, f 43, f 44, f 45, f 46, f 47, f 48, f 49, f 50, f 51, f 52, f 53, f 54, f 55, f 56, f 57, f 58, f 59, f 60, f 61, f 62, f 63, f 64, f 65, f 66, f 67, f 68, f 69, f 70, f 71, f 72, f 73, f 74, f 75, f 76, f 77, f 78, f 79, f 80, f 81, f 82, f 83, f 84, f 85, f 86, f 87, f 88, f 89, f 90, f 91, f 92, f 93, f 94, f 95, f 96, f 97, f 98, f 99, f 100, f 101, f 102, f 103, f 104, f 105, f 106, f 107, f 108, f 109, f 110, f 111, f 112, f 113, f 114, f 115, f 116, f 117, f 118, f 119, f 120, f 121, f 122, f 123, f 124, f 125, f 126, f 127, f 128] := rfl
theorem tmps_lit (a : Act) (h : a.tmps.size = 129) : a.tmps = ((List.range 129).map (ev a)).toArray := by
  apply Array.ext
  · simp [h]
  · intro i h1 h2
    simp [ev, Act.eval, h1]
theorem off_lit {x0 x1 x2 x3 x4 x5 x6 x7 x8 x9 x10 x11 x12 x13 x14 x15 x16 x17 x18 x19 x20 x21 x22 x23 x24 x25 x26 x27 x28 x29 x30 x31 x32 x33 x34 x35 x36 x37 x38 x39 x40 x41 x42 x43 x44 x45 x46 x47 x48 x49 x50 x51 x52 x53 x54 x55 x56 x57 x58 x59 x60 x61 x62 x63 x64 x65 x66 x67 x68 x69 x70 x71 x72 x73 x74 x75 x76 x77 x78 x79 x80 x81 x82 x83 x84 x85 x86 x87 x88 x89 x90 x91 x92 x93 x94 x95 x96 x97 x98 x99 x100 x101 x102 x103 x104 x105 x106 x107 x108 x109 x110 x111 x112 x113 x114 x115 x116 x117 x118 x119 x120 x121 x122 x123 x124 x125 x126 x127 x128 : Value} {a : Act} (h : Off { tmps := #[x0, x1, x2, x3, x4, x5, x6, x7, x8, x9, x10, x11, x12, x13, x14, x15, x16, x17, x18, x19, x20, x21, x22, x23, x24, x25, x26, x27, x28, x29, x30, x31, x32, x33, x34, x35, x36, x37, x38, x39, x40, x41, x42, x43, x44, x45, x46, x47, x48, x49, x50, x51, x52, x53, x54, x55, x56, x57, x58, x59, x60, x61, x62, x63, x64, x65, x66, x67, x68, x69, x70, x71, x72, x73, x74, x75, x76, x77, x78, x79, x80, x81, x82, x83, x84, x85, x86, x87, x88, x89, x90, x91, x92, x93, x94, x95, x96, x97, x98, x99, x100, x101, x102, x103, x104, x105, x106, x107, x108, x109, x110, x111, x112, x113, x114, x115, x116, x117, x118, x119, x120, x121, x122, x123, x124, x125, x126, x127, x128], defers := [] } a) : ∃ y12 y71 y72 y73 y74 y75 y76 y77 y78 y79 y80 y81 y82 y83 y84 y85, ev a 12 = y12 ∧ a = { tmps := #[x0, x1, x2, x3, x4, x5, x6, x7, x8, x9, x10, x11, y12, x13, x14, x15, x16, x17, x18, x19, x20, x21, x22, x23, x24, x25, x26, x27, x28, x29, x30, x31, x32, x33, x34, x35, x36, x37, x38, x39, x40, x41, x42, x43, x44, x45, x46, x47, x48, x49, x50, x51, x52, x53, x54, x55, x56, x57, x58, x59, x60, x61, x62, x63, x64, x65, x66, x67, x68, x69, x70, y71, y72, y73, y74, y75, y76, y77, y78, y79, y80, y81, y82, y83, y84, y85, x86, x87, x88, x89, x90, x91, x92, x93, x94, x95, x96, x97, x98, x99, x100, x101, x102, x103, x104, x105, x106, x107, x108, x109, x110, x111, x112, x113, x114, x115, x116, x117, x118, x119, x120, x121, x122, x123, x124, x125, x126, x127, x128], defers := [] } := by
  refine ⟨ev a 12, ev a 71, ev a 72, ev a 73, ev a 74, ev a 75, ev a 76, ev a 77, ev a 78, ev a 79, ev a 80, ev a 81, ev a 82, ev a 83, ev a 84, ev a 85, rfl, ?_⟩
  have e := tmps_lit a h.size
  rw [lit129] at e
  have h0 : ev a 0 = x0 := h.same 0 (by decide) (by decide)
  have h1 : ev a 1 = x1 := h.same 1 (by decide) (by decide)
  have h2 : ev a 2 = x2 := h.same 2 (by decide) (by decide)
  have h3 : ev a 3 = x3 := h.same 3 (by decide) (by decide)
  have h4 : ev a 4 = x4 := h.same 4 (by decide) (by decide)
  have h5 : ev a 5 = x5 := h.same 5 (by decide) (by decide)
  have h6 : ev a 6 = x6 := h.same 6 (by decide) (by decide)
  have h7 : ev a 7 = x7 := h.same 7 (by decide) (by decide)
  have h8 : ev a 8 = x8 := h.same 8 (by decide) (by decide)
  have h9 : ev a 9 = x9 := h.same 9 (by decide) (by decide)
  have h10 : ev a 10 = x10 := h.same 10 (by decide) (by decide)
  have h11 : ev a 11 = x11 := h.same 11 (by decide) (by decide)
  have h13 : ev a 13 = x13 := h.same 13 (by decide) (by decide)
  have h14 : ev a 14 = x14 := h.same 14 (by decide) (by decide)
  have h15 : ev a 15 = x15 := h.same 15 (by decide) (by decide)
  have h16 : ev a 16 = x16 := h.same 16 (by decide) (by decide)
  have h17 : ev a 17 = x17 := h.same 17 (by decide) (by decide)
  have h18 : ev a 18 = x18 := h.same 18 (by decide) (by decide)
  have h19 : ev a 19 = x19 := h.same 19 (by decide) (by decide)
  have h20 : ev a 20 = x20 := h.same 20 (by decide) (by decide)
  have h21 : ev a 21 = x21 := h.same 21 (by decide) (by decide)
  have h22 : ev a 22 = x22 := h.same 22 (by decide) (by decide)
  have h23 : ev a 23 = x23 := h.same 23 (by decide) (by decide)
  have h24 : ev a 24 = x24 := h.same 24 (by decide) (by decide)
  have h25 : ev a 25 = x25 := h.same 25 (by decide) (by decide)
  have h26 : ev a 26 = x26 := h.same 26 (by decide) (by decide)
  have h27 : ev a 27 = x27 := h.same 27 (by decide) (by decide)
  have h28 : ev a 28 = x28 := h.same 28 (by decide) (by decide)
  have h29 : ev a 29 = x29 := h.same 29 (by decide) (by decide)
  have h30 : ev a 30 = x30 := h.same 30 (by decide) (by decide)
  have h31 : ev a 31 = x31 := h.same 31 (by decide) (by decide)
  have h32 : ev a 32 = x32 := h.same 32 (by decide) (by decide)
  have h33 : ev a 33 = x33 := h.same 33 (by decide) (by decide)
  have h34 : ev a 34 = x34 := h.same 34 (by decide) (by decide)
  have h35 : ev a 35 = x35 := h.same 35 (by decide) (by decide)
  have h36 : ev a 36 = x36 := h.same 36 (by decide) (by decide)
  have h37 : ev a 37 = x37 := h.same 37 (by decide) (by decide)
  have h38 : ev a 38 = x38 := h.same 38 (by decide) (by decide)
  have h39 : ev a 39 = x39 := h.same 39 (by decide) (by decide)
  have h40 : ev a 40 = x40 := h.same 40 (by decide) (by decide)
  have h41 : ev a 41 = x41 := h.same 41 (by decide) (by decide)
  have h42 : ev a 42 = x42 := h.same 42 (by decide) (by decide)
  have h43 : ev a 43 = x43 := h.same 43 (by decide) (by decide)
  have h44 : ev a 44 = x44 := h.same 44 (by decide) (by decide)
  have h45 : ev a 45 = x45 := h.same 45 (by decide) (by decide)
  have h46 : ev a 46 = x46 := h.same 46 (by decide) (by decide)
  have h47 : ev a 47 = x47 := h.same 47 (by decide) (by decide)
  have h48 : ev a 48 = x48 := h.same 48 (by decide) (by decide)
  have h49 : ev a 49 = x49 := h.same 49 (by decide) (by decide)
  have h50 : ev a 50 = x50 := h.same 50 (by decide) (by decide)
  have h51 : ev a 51 = x51 := h.same 51 (by decide) (by decide)
  have h52 : ev a 52 = x52 := h.same 52 (by decide) (by decide)
  have h53 : ev a 53 = x53 := h.same 53 (by decide) (by decide)
  have h54 : ev a 54 = x54 := h.same 54 (by decide) (by decide)
  have h55 : ev a 55 = x55 := h.same 55 (by decide) (by decide)
  have h56 : ev a 56 = x56 := h.same 56 (by decide) (by decide)
  have h57 : ev a 57 = x57 := h.same 57 (by decide) (by decide)
  have h58 : ev a 58 = x58 := h.same 58 (by decide) (by decide)
  have h59 : ev a 59 = x59 := h.same 59 (by decide) (by decide)
  have h60 : ev a 60 = x60 := h.same 60 (by decide) (by decide)
  have h61 : ev a 61 = x61 := h.same 61 (by decide) (by decide)
  have h62 : ev a 62 = x62 := h.same 62 (by decide) (by decide)
  have h63 : ev a 63 = x63 := h.same 63 (by decide) (by decide)
  have h64 : ev a 64 = x64 := h.same 64 (by decide) (by decide)
  have h65 : ev a 65 = x65 := h.same 65 (by decide) (by decide)
  have h66 : ev a 66 = x66 := h.same 66 (by decide) (by decide)
  have h67 : ev a 67 = x67 := h.same 67 (by decide) (by decide)
  have h68 : ev a 68 = x68 := h.same 68 (by decide) (by decide)
  have h69 : ev a 69 = x69 := h.same 69 (by decide) (by decide)
  have h70 : ev a 70 = x70 := h.same 70 (by decide) (by decide)
  have h86 : ev a 86 = x86 := h.same 86 (by decide) (by decide)
  have h87 : ev a 87 = x87 := h.same 87 (by decide) (by decide)
  have h88 : ev a 88 = x88 := h.same 88 (by decide) (by decide)
  have h89 : ev a 89 = x89 := h.same 89 (by decide) (by decide)
  have h90 : ev a 90 = x90 := h.same 90 (by decide) (by decide)
  have h91 : ev a 91 = x91 := h.same 91 (by decide) (by decide)
  have h92 : ev a 92 = x92 := h.same 92 (by decide) (by decide)
  have h93 : ev a 93 = x93 := h.same 93 (by decide) (by decide)
  have h94 : ev a 94 = x94 := h.same 94 (by decide) (by decide)
  have h95 : ev a 95 = x95 := h.same 95 (by decide) (by decide)
  have h96 : ev a 96 = x96 := h.same 96 (by decide) (by decide)
  have h97 : ev a 97 = x97 := h.same 97 (by decide) (by decide)
  have h98 : ev a 98 = x98 := h.same 98 (by decide) (by decide)
  have h99 : ev a 99 = x99 := h.same 99 (by decide) (by decide)
  have h100 : ev a 100 = x100 := h.same 100 (by decide) (by decide)
  have h101 : ev a 101 = x101 := h.same 101 (by decide) (by decide)
  have h102 : ev a 102 = x102 := h.same 102 (by decide) (by decide)
  have h103 : ev a 103 = x103 := h.same 103 (by decide) (by decide)
  have h104 : ev a 104 = x104 := h.same 104 (by decide) (by decide)
  have h105 : ev a 105 = x105 := h.same 105 (by decide) (by decide)
  have h106 : ev a 106 = x106 := h.same 106 (by decide) (by decide)
  have h107 : ev a 107 = x107 := h.same 107 (by decide) (by decide)
  have h108 : ev a 108 = x108 := h.same 108 (by decide) (by decide)
  have h109 : ev a 109 = x109 := h.same 109 (by decide) (by decide)
  have h110 : ev a 110 = x110 := h.same 110 (by decide) (by decide)
  have h111 : ev a 111 = x111 := h.same 111 (by decide) (by decide)
  have h112 : ev a 112 = x112 := h.same 112 (by decide) (by decide)
  have h113 : ev a 113 = x113 := h.same 113 (by decide) (by decide)
  have h114 : ev a 114 = x114 := h.same 114 (by decide) (by decide)
  have h115 : ev a 115 = x115 := h.same 115 (by decide) (by decide)
  have h116 : ev a 116 = x116 := h.same 116 (by decide) (by decide)
  have h117 : ev a 117 = x117 := h.same 117 (by decide) (by decide)
  have h118 : ev a 118 = x118 := h.same 118 (by decide) (by decide)
  have h119 : ev a 119 = x119 := h.same 119 (by decide) (by decide)
  have h120 : ev a 120 = x120 := h.same 120 (by decide) (by decide)
  have h121 : ev a 121 = x121 := h.same 121 (by decide) (by decide)
  have h122 : ev a 122 = x122 := h.same 122 (by decide) (by decide)
  have h123 : ev a 123 = x123 := h.same 123 (by decide) (by decide)
  have h124 : ev a 124 = x124 := h.same 124 (by decide) (by decide)
  have h125 : ev a 125 = x125 := h.same 125 (by decide) (by decide)
  have h126 : ev a 126 = x126 := h.same 126 (by decide) (by decide)
  have h127 : ev a 127 = x127 := h.same 127 (by decide) (by decide)
  have h128 : ev a 128 = x128 := h.same 128 (by decide) (by decide)
  rw [h0, h1, h2, h3, h4, h5, h6, h7, h8, h9, h10, h11, h13, h14, h15, h16, h17, h18, h19, h20, h21, h22, h23, h24, h25, h26, h27, h28, h29, h30, h31, h32, h33, h34, h35, h36, h37, h38, h39, h40, h41, h42, h43, h44, h45, h46, h47, h48, h49, h50, h51, h52, h53, h54, h55, h56, h57, h58, h59, h60, h61, h62, h63, h64, h65, h66, h67, h68, h69, h70, h86, h87, h88, h89, h90, h91, h92, h93, h94, h95, h96, h97, h98, h99, h100, h101, h102, h103, h104, h105, h106, h107, h108, h109, h110, h111, h112, h113, h114, h115, h116, h117, h118, h119, h120, h121, h122, h123, h124, h125, h126, h127, h128] at e
  have hd : a.defers = [] := h.def_
  cases a
  simp only at e hd
  rw [hd]
  exact congrArg (fun t => ({ tmps := t, defers := [] } : Act)) e
end Go.Proofs.YtndgglhppoijnaaGreatDoor
/-
  LangBracketed's part held against the expression: a region that draws its order, by what is done.
-/
namespace Go.Proofs.YtndgglhppoijnaaGreatDoor
open Go.RowKit
set_option maxRecDepth 100000

def r0 : Oper := { dst := some 115, op := Op.fieldAddr 41 (Operand.tmp 15) 5, type := 0, pos := "law.go:213", after := #[], guard := none }
def r1 : Oper := { dst := some 116, op := Op.load 39 (Operand.tmp 115), type := 39, pos := "law.go:213", after := #[{ on := 0, ground := Ground.data }], guard := none }
def r2 : Oper := { dst := some 117, op := Op.call { callee := Callee.builtin Builtin.len, args := #[Operand.tmp 116], argTypes := #[39] }, type := 3, pos := "law.go:213", after := #[{ on := 1, ground := Ground.data }], guard := none }
def r3 : Oper := { dst := some 118, op := Op.move (Operand.tmp 16), type := 3, pos := "law.go:213", after := #[], guard := none }
def r4 : Oper := { dst := some 119, op := Op.binOp BinOp.gtr 3 (Operand.tmp 117) (Operand.tmp 118) 3, type := 4, pos := "law.go:213", after := #[{ on := 2, ground := Ground.data }, { on := 3, ground := Ground.data }], guard := none }
def r5 : Oper := { dst := some 120, op := Op.move (Operand.tmp 119), type := 4, pos := "law.go:213", after := #[{ on := 4, ground := Ground.data }], guard := none }
def r6 : Oper := { dst := some 121, op := Op.fieldAddr 41 (Operand.tmp 15) 5, type := 0, pos := "law.go:213", after := #[{ on := 5, ground := Ground.guard }], guard := some (5, true) }
def r7 : Oper := { dst := some 122, op := Op.load 39 (Operand.tmp 121), type := 39, pos := "law.go:213", after := #[{ on := 6, ground := Ground.data }, { on := 5, ground := Ground.guard }], guard := some (5, true) }
def r8 : Oper := { dst := some 123, op := Op.move (Operand.tmp 16), type := 3, pos := "law.go:213", after := #[{ on := 5, ground := Ground.guard }], guard := some (5, true) }
def r9 : Oper := { dst := some 124, op := Op.indexAddr 39 (Operand.tmp 122) (Operand.tmp 123), type := 0, pos := "law.go:213", after := #[{ on := 7, ground := Ground.data }, { on := 8, ground := Ground.data }, { on := 5, ground := Ground.guard }], guard := some (5, true) }
def r10 : Oper := { dst := some 125, op := Op.load 41 (Operand.tmp 124), type := 41, pos := "law.go:213", after := #[{ on := 9, ground := Ground.data }, { on := 5, ground := Ground.guard }], guard := some (5, true) }
def r11 : Oper := { dst := some 126, op := Op.load 41 (Operand.tmp 8), type := 41, pos := "law.go:213", after := #[{ on := 5, ground := Ground.guard }], guard := some (5, true) }
def r12 : Oper := { dst := some 127, op := Op.call { callee := Callee.value (Operand.func 9), args := #[Operand.tmp 125, Operand.tmp 126, Operand.const (Value.bool false)], argTypes := #[41, 41, 4] }, type := 4, pos := "law.go:213", after := #[{ on := 10, ground := Ground.data }, { on := 11, ground := Ground.data }, { on := 5, ground := Ground.chain }, { on := 5, ground := Ground.guard }], guard := some (5, true) }
def r13 : Oper := { dst := some 128, op := Op.pick (Operand.tmp 120) (Operand.tmp 127) (Operand.const (Value.bool false)), type := 4, pos := "law.go:213", after := #[{ on := 5, ground := Ground.data }, { on := 12, ground := Ground.data }], guard := none }
def r14 : Oper := { dst := some 4, op := Op.assign (Operand.tmp 128), type := 4, pos := "law.go:213", after := #[{ on := 13, ground := Ground.data }, { on := 12, ground := Ground.chain }, { on := 0, ground := Ground.phase }, { on := 1, ground := Ground.phase }, { on := 2, ground := Ground.phase }, { on := 3, ground := Ground.phase }, { on := 4, ground := Ground.phase }, { on := 5, ground := Ground.phase }, { on := 6, ground := Ground.phase }, { on := 7, ground := Ground.phase }, { on := 8, ground := Ground.phase }, { on := 9, ground := Ground.phase }, { on := 10, ground := Ground.phase }, { on := 11, ground := Ground.phase }, { on := 12, ground := Ground.phase }, { on := 13, ground := Ground.phase }], guard := none }
def ops19 : Array Oper := #[r0, r1, r2, r3, r4, r5, r6, r7, r8, r9, r10, r11, r12, r13, r14]
def slot19 (k : Nat) : Nat := if k = 14 then 4 else 115 + k
theorem slot19_ne {i j : Nat} (hi : i < 15) (hj : j < 15) (h : j ≠ i) : slot19 j ≠ slot19 i := by
  unfold slot19
  split <;> split <;> omega

theorem ready19 {l : Array Bool} {i : Nat} (hl : l.size = 15) (h : i ∈ Region.ready .any ops19 l) :
    (i = 0) ∨ (i = 1 ∧ l.getD 0 false = true) ∨ (i = 2 ∧ l.getD 1 false = true) ∨ (i = 3) ∨ (i = 4 ∧ l.getD 2 false = true ∧ l.getD 3 false = true) ∨ (i = 5 ∧ l.getD 4 false = true) ∨ (i = 6 ∧ l.getD 5 false = true) ∨ (i = 7 ∧ l.getD 6 false = true ∧ l.getD 5 false = true) ∨ (i = 8 ∧ l.getD 5 false = true) ∨ (i = 9 ∧ l.getD 7 false = true ∧ l.getD 8 false = true ∧ l.getD 5 false = true) ∨ (i = 10 ∧ l.getD 9 false = true ∧ l.getD 5 false = true) ∨ (i = 11 ∧ l.getD 5 false = true) ∨ (i = 12 ∧ l.getD 10 false = true ∧ l.getD 11 false = true ∧ l.getD 5 false = true) ∨ (i = 13 ∧ l.getD 5 false = true ∧ l.getD 12 false = true) ∨ (i = 14 ∧ l.getD 13 false = true) := by
  obtain ⟨h1, h2⟩ := ready_mem h
  have hlt : i < l.size := (getD_true h1).1
  unfold Region.ready at h
  simp only [List.mem_filter, List.mem_range, Bool.and_eq_true] at h
  have h4 := h.2.2
  clear h h1 h2
  rw [hl] at hlt
  have h5 : i = 0 ∨ i = 1 ∨ i = 2 ∨ i = 3 ∨ i = 4 ∨ i = 5 ∨ i = 6 ∨ i = 7 ∨ i = 8 ∨ i = 9 ∨ i = 10 ∨ i = 11 ∨ i = 12 ∨ i = 13 ∨ i = 14 := by omega
  rcases h5 with rfl | rfl | rfl | rfl | rfl | rfl | rfl | rfl | rfl | rfl | rfl | rfl | rfl | rfl | rfl
  · exact .inl rfl
  · simp [ops19, r1, Region.binds] at h4
    exact .inr (.inl ⟨rfl, by simp_all⟩)
  · simp [ops19, r2, Region.binds] at h4
    exact .inr (.inr (.inl ⟨rfl, by simp_all⟩))
  · exact .inr (.inr (.inr (.inl rfl)))
  · simp [ops19, r4, Region.binds] at h4
    exact .inr (.inr (.inr (.inr (.inl ⟨rfl, by simp_all, by simp_all⟩))))
  · simp [ops19, r5, Region.binds] at h4
    exact .inr (.inr (.inr (.inr (.inr (.inl ⟨rfl, by simp_all⟩)))))
  · simp [ops19, r6, Region.binds] at h4
    exact .inr (.inr (.inr (.inr (.inr (.inr (.inl ⟨rfl, by simp_all⟩))))))
  · simp [ops19, r7, Region.binds] at h4
    exact .inr (.inr (.inr (.inr (.inr (.inr (.inr (.inl ⟨rfl, by simp_all, by simp_all⟩)))))))
  · simp [ops19, r8, Region.binds] at h4
    exact .inr (.inr (.inr (.inr (.inr (.inr (.inr (.inr (.inl ⟨rfl, by simp_all⟩))))))))
  · simp [ops19, r9, Region.binds] at h4
    exact .inr (.inr (.inr (.inr (.inr (.inr (.inr (.inr (.inr (.inl ⟨rfl, by simp_all, by simp_all, by simp_all⟩)))))))))
  · simp [ops19, r10, Region.binds] at h4
    exact .inr (.inr (.inr (.inr (.inr (.inr (.inr (.inr (.inr (.inr (.inl ⟨rfl, by simp_all, by simp_all⟩))))))))))
  · simp [ops19, r11, Region.binds] at h4
    exact .inr (.inr (.inr (.inr (.inr (.inr (.inr (.inr (.inr (.inr (.inr (.inl ⟨rfl, by simp_all⟩)))))))))))
  · simp [ops19, r12, Region.binds] at h4
    exact .inr (.inr (.inr (.inr (.inr (.inr (.inr (.inr (.inr (.inr (.inr (.inr (.inl ⟨rfl, by simp_all, by simp_all, by simp_all⟩))))))))))))
  · simp [ops19, r13, Region.binds] at h4
    exact .inr (.inr (.inr (.inr (.inr (.inr (.inr (.inr (.inr (.inr (.inr (.inr (.inr (.inl ⟨rfl, by simp_all, by simp_all⟩)))))))))))))
  · simp [ops19, r14, Region.binds] at h4
    exact .inr (.inr (.inr (.inr (.inr (.inr (.inr (.inr (.inr (.inr (.inr (.inr (.inr (.inr (⟨rfl, by simp_all⟩))))))))))))))

theorem all19 {l : Array Bool} (hl : l.size = 15) (h : Region.ready .any ops19 l = []) : l.getD 14 false = true := by
  unfold Region.ready at h
  rw [List.filter_eq_nil_iff] at h
  have e : ∀ j, j < 15 → (l.getD j false = l.getD j true) := fun j hj => by simp [hl, hj]
  have r0 : l.getD 0 false = true := by
    have q := h 0 (by decide)
    rw [e 0 (by decide)]
    simpa [ops19, Proofs.YtndgglhppoijnaaGreatDoor.r0, Region.binds] using q
  have s0 : l[0]?.getD false = true := by simpa using r0
  have r1 : l.getD 1 false = true := by
    have q := h 1 (by decide)
    rw [e 1 (by decide)]
    simpa [ops19, Proofs.YtndgglhppoijnaaGreatDoor.r1, Region.binds, s0] using q
  have s1 : l[1]?.getD false = true := by simpa using r1
  have r2 : l.getD 2 false = true := by
    have q := h 2 (by decide)
    rw [e 2 (by decide)]
    simpa [ops19, Proofs.YtndgglhppoijnaaGreatDoor.r2, Region.binds, s0, s1] using q
  have s2 : l[2]?.getD false = true := by simpa using r2
  have r3 : l.getD 3 false = true := by
    have q := h 3 (by decide)
    rw [e 3 (by decide)]
    simpa [ops19, Proofs.YtndgglhppoijnaaGreatDoor.r3, Region.binds, s0, s1, s2] using q
  have s3 : l[3]?.getD false = true := by simpa using r3
  have r4 : l.getD 4 false = true := by
    have q := h 4 (by decide)
    rw [e 4 (by decide)]
    simpa [ops19, Proofs.YtndgglhppoijnaaGreatDoor.r4, Region.binds, s0, s1, s2, s3] using q
  have s4 : l[4]?.getD false = true := by simpa using r4
  have r5 : l.getD 5 false = true := by
    have q := h 5 (by decide)
    rw [e 5 (by decide)]
    simpa [ops19, Proofs.YtndgglhppoijnaaGreatDoor.r5, Region.binds, s0, s1, s2, s3, s4] using q
  have s5 : l[5]?.getD false = true := by simpa using r5
  have r6 : l.getD 6 false = true := by
    have q := h 6 (by decide)
    rw [e 6 (by decide)]
    simpa [ops19, Proofs.YtndgglhppoijnaaGreatDoor.r6, Region.binds, s0, s1, s2, s3, s4, s5] using q
  have s6 : l[6]?.getD false = true := by simpa using r6
  have r7 : l.getD 7 false = true := by
    have q := h 7 (by decide)
    rw [e 7 (by decide)]
    simpa [ops19, Proofs.YtndgglhppoijnaaGreatDoor.r7, Region.binds, s0, s1, s2, s3, s4, s5, s6] using q
  have s7 : l[7]?.getD false = true := by simpa using r7
  have r8 : l.getD 8 false = true := by
    have q := h 8 (by decide)
    rw [e 8 (by decide)]
    simpa [ops19, Proofs.YtndgglhppoijnaaGreatDoor.r8, Region.binds, s0, s1, s2, s3, s4, s5, s6, s7] using q
  have s8 : l[8]?.getD false = true := by simpa using r8
  have r9 : l.getD 9 false = true := by
    have q := h 9 (by decide)
    rw [e 9 (by decide)]
    simpa [ops19, Proofs.YtndgglhppoijnaaGreatDoor.r9, Region.binds, s0, s1, s2, s3, s4, s5, s6, s7, s8] using q
  have s9 : l[9]?.getD false = true := by simpa using r9
  have r10 : l.getD 10 false = true := by
    have q := h 10 (by decide)
    rw [e 10 (by decide)]
    simpa [ops19, Proofs.YtndgglhppoijnaaGreatDoor.r10, Region.binds, s0, s1, s2, s3, s4, s5, s6, s7, s8, s9] using q
  have s10 : l[10]?.getD false = true := by simpa using r10
  have r11 : l.getD 11 false = true := by
    have q := h 11 (by decide)
    rw [e 11 (by decide)]
    simpa [ops19, Proofs.YtndgglhppoijnaaGreatDoor.r11, Region.binds, s0, s1, s2, s3, s4, s5, s6, s7, s8, s9, s10] using q
  have s11 : l[11]?.getD false = true := by simpa using r11
  have r12 : l.getD 12 false = true := by
    have q := h 12 (by decide)
    rw [e 12 (by decide)]
    simpa [ops19, Proofs.YtndgglhppoijnaaGreatDoor.r12, Region.binds, s0, s1, s2, s3, s4, s5, s6, s7, s8, s9, s10, s11] using q
  have s12 : l[12]?.getD false = true := by simpa using r12
  have r13 : l.getD 13 false = true := by
    have q := h 13 (by decide)
    rw [e 13 (by decide)]
    simpa [ops19, Proofs.YtndgglhppoijnaaGreatDoor.r13, Region.binds, s0, s1, s2, s3, s4, s5, s6, s7, s8, s9, s10, s11, s12] using q
  have s13 : l[13]?.getD false = true := by simpa using r13
  have r14 : l.getD 14 false = true := by
    have q := h 14 (by decide)
    rw [e 14 (by decide)]
    simpa [ops19, Proofs.YtndgglhppoijnaaGreatDoor.r14, Region.binds, s0, s1, s2, s3, s4, s5, s6, s7, s8, s9, s10, s11, s12, s13] using q
  exact r14

section
variable (X0 : World) (bx b off n c k : Nat) (T E : Array Value)
/-- What each slot comes to hold. -/
def val19 : Nat → Value
  | 0 => .pointer (some ⟨bx, 5, none⟩)
  | 1 => .slice (some ⟨b, off, none⟩) n c
  | 2 => .int .i64 n
  | 3 => .int .i64 k
  | 4 => .bool true
  | 5 => .bool true
  | 6 => .pointer (some ⟨bx, 5, none⟩)
  | 7 => .slice (some ⟨b, off, none⟩) n c
  | 8 => .int .i64 k
  | 9 => .pointer (some ⟨b, off + k * 7, none⟩)
  | 10 => .agg T
  | 11 => .agg E
  | _ => .bool true
end
/-- Off the slots of the region, as it was. -/
structure Off19 (a0 a : Act) : Prop where
  def_ : a.defers = a0.defers
  size : a.tmps.size = a0.tmps.size
  same : ∀ k, k ≠ 4 → (k < 115 ∨ 128 < k) → ev a k = ev a0 k
theorem Off19.put {a0 a : Act} (h : Off19 a0 a) {k : Nat} (hk : k < 15) (hs : 129 ≤ a.tmps.size) (v : Value) : Off19 a0 (a.put (some (slot19 k)) v) := by
  have hsl : slot19 k = 4 ∨ (115 ≤ slot19 k ∧ slot19 k ≤ 128) := by unfold slot19; split <;> omega
  have hl : slot19 k < a.tmps.size := by omega
  refine ⟨h.def_, by rw [← h.size]; simp [Act.put], fun j h1 h2 => ?_⟩
  rw [ev_put a _ v hl]
  have : j ≠ slot19 k := by omega
  rw [show upde (ev a) (slot19 k) v j = ev a j from if_neg this]
  exact h.same j h1 h2

def I19 (X0 : World) (V : Nat → Value) (a0 : Act) (l : Array Bool) (a : Act) (w : World) : Prop :=
  l.size = 15 ∧ Off19 a0 a ∧ Below X0.heap.size X0 w ∧ ∀ j, j < 15 → l.getD j false = true → ev a (slot19 j) = V j
theorem I19.put {X0 w w' : World} {V : Nat → Value} {a0 a : Act} {l : Array Bool} {k : Nat} (h : I19 X0 V a0 l a w) (hk : k < 15) (hs : 129 ≤ a0.tmps.size) (hb : Below X0.heap.size X0 w') : I19 X0 V a0 (l.setIfInBounds k true) (a.put (some (slot19 k)) (V k)) w' := by
  obtain ⟨hl, hO, _, hf⟩ := h
  have hs' : 129 ≤ a.tmps.size := by rw [hO.size]; exact hs
  have hsl : slot19 k < a.tmps.size := by unfold slot19; split <;> omega
  refine ⟨by simp [hl], hO.put hk hs' _, hb, fun j hj hd => ?_⟩
  rw [ev_put a _ _ hsl]
  by_cases e : j = k
  · subst e
    exact if_pos rfl
  · rw [show upde (ev a) (slot19 k) (V k) (slot19 j) = ev a (slot19 j) from if_neg (slot19_ne hk hj e)]
    refine hf j hj ?_
    have := congrFun (getD_set l k (by omega)) j
    rw [this] at hd
    exact upd_ne e hd

theorem ev_some {a : Act} {k : Nat} {v : Value} (h : ev a k = v) (hk : k < a.tmps.size) : a.tmps[k]? = some v := by
  unfold ev Act.eval at h
  simp [hk] at h
  simp [hk, h]
theorem want19 {X0 w : World} {V : Nat → Value} {a0 a : Act} {l : Array Bool} (h : I19 X0 V a0 l a w) (hs : 129 ≤ a0.tmps.size) (hV : V 5 = .bool true) (h5 : l.getD 5 false = true) (o : Oper) (hg : o.guard = some (5, true)) : Region.wanted o (yielded ops19 a.tmps) = true := by
  obtain ⟨hl, hO, _, hf⟩ := h
  have e : ev a 120 = .bool true := (hf 5 (by decide) h5).trans hV
  have e2 : a.tmps[120]? = some (.bool true) := ev_some e (by rw [hO.size]; omega)
  have e3 : yielded ops19 a.tmps 5 = some true := by
    unfold yielded
    show (match (some 120).bind (a.tmps[·]?) with | some (.bool b) => some b | _ => none) = _
    simp only [Option.bind_some, e2]
  unfold Region.wanted
  rw [hg]
  show (yielded ops19 a.tmps 5 == some true) = true
  rw [e3]
  rfl
theorem wpOp_want {P : Program} {ops : Array Oper} {Q : Exit → Act → World → Prop} {i : Nat} {o : Oper} {K : Act → World → Prop} {a : Act} {w : World} (ho : ops[i]? = some o) (hw : Region.wanted o (yielded ops a.tmps) = true)
    (h : Oper.wp P o a w K Q) : wpOp P ops Q i K a w := by
  unfold wpOp
  rw [ho]
  show if Region.wanted o (yielded ops a.tmps) = true then _ else _
  rw [if_pos hw]
  exact .inl h
theorem step19 {X0 w : World} {V : Nat → Value} {a0 a : Act} {l : Array Bool} {Q : Exit → Act → World → Prop} {k : Nat} {o : Oper} (h : I19 X0 V a0 l a w) (ho : ops19[k]? = some o) (hdst : o.dst = some (slot19 k)) (hk : k < 15) (hs : 129 ≤ a0.tmps.size) (hw : Region.wanted o (yielded ops19 a.tmps) = true)
    (hr : (execOp a.eval o).run Tryz.prog w = .ok (.value (V k)) w) : wpOp Tryz.prog ops19 Q k (fun a' w' => I19 X0 V a0 (l.setIfInBounds k true) a' w') a w := by
  refine wpOp_want ho hw ?_
  unfold Oper.wp
  rw [hr]
  show I19 X0 V a0 (l.setIfInBounds k true) (a.put o.dst (V k)) w
  rw [hdst]
  exact h.put hk hs h.2.2.1

theorem region19 {Q : Exit → Act → World → Prop} {X0 w0 : World} {bx be b off n c k : Nat} {t0 t1 t2 t3 t4 t5 t6 d0 d1 d2 d3 d4 d5 d6 : Value} {a0 : Act} (hk : k < n) (hs : 129 ≤ a0.tmps.size)
    (e15 : ev a0 15 = .pointer (some ⟨bx, 0, none⟩)) (e8 : ev a0 8 = .pointer (some ⟨be, 0, none⟩)) (e16 : ev a0 16 = .int .i64 k)
    (h5 : ∀ w, Below X0.heap.size X0 w → w.cell? ⟨bx, 5, none⟩ = some (.slice (some ⟨b, off, none⟩) n c))
    (hT : ∀ w, Below X0.heap.size X0 w → w.rangeAt b (off + k * 7) [t0, t1, t2, t3, t4, t5, t6]) (hE : ∀ w, Below X0.heap.size X0 w → w.rangeAt be 0 [d0, d1, d2, d3, d4, d5, d6])
    (hc : ∀ w, Below X0.heap.size X0 w → Calls Tryz.prog 9 #[.agg #[t0, t1, t2, t3, t4, t5, t6], .agg #[d0, d1, d2, d3, d4, d5, d6], .bool false] w fun e w' => e = .returned (.bool true) ∧ Below w.heap.size w w')
    (hw : Below X0.heap.size X0 w0) (hQ : ∀ a w, Off19 a0 a → Below X0.heap.size X0 w → ev a 4 = .bool true → Q .normal a w) :
    wpAny Tryz.prog .any ops19 Q 15 (Array.replicate 15 false) a0 w0 := by
  obtain ⟨V, hV⟩ : ∃ V, V = val19 bx b off n c k #[t0, t1, t2, t3, t4, t5, t6] #[d0, d1, d2, d3, d4, d5, d6] := ⟨_, rfl⟩
  refine wpAny_inv (I19 X0 V a0) ?_ ?_ 15 _ _ _ (by simp) ⟨by simp, ⟨rfl, rfl, fun _ _ _ => rfl⟩, hw, ?_⟩
  · intro l a w i hi I
    have J := I
    obtain ⟨hl, hO, hB, hf⟩ := J
    have hev : ∀ j, a.eval (.tmp j) = ev a j := fun _ => rfl
    have hcn : ∀ v, a.eval (.const v) = v := fun _ => rfl
    have f15 : ev a 15 = .pointer (some ⟨bx, 0, none⟩) := (hO.same 15 (by decide) (by decide)).trans e15
    have f8 : ev a 8 = .pointer (some ⟨be, 0, none⟩) := (hO.same 8 (by decide) (by decide)).trans e8
    have f16 : ev a 16 = .int .i64 k := (hO.same 16 (by decide) (by decide)).trans e16
    have v0 : V 0 = .pointer (some ⟨bx, 5, none⟩) := congrFun hV 0
    have v1 : V 1 = .slice (some ⟨b, off, none⟩) n c := congrFun hV 1
    have v2 : V 2 = .int .i64 n := congrFun hV 2
    have v3 : V 3 = .int .i64 k := congrFun hV 3
    have v4 : V 4 = .bool true := congrFun hV 4
    have v5 : V 5 = .bool true := congrFun hV 5
    have v6 : V 6 = .pointer (some ⟨bx, 5, none⟩) := congrFun hV 6
    have v7 : V 7 = .slice (some ⟨b, off, none⟩) n c := congrFun hV 7
    have v8 : V 8 = .int .i64 k := congrFun hV 8
    have v9 : V 9 = .pointer (some ⟨b, off + k * 7, none⟩) := congrFun hV 9
    have v10 : V 10 = .agg #[t0, t1, t2, t3, t4, t5, t6] := congrFun hV 10
    have v11 : V 11 = .agg #[d0, d1, d2, d3, d4, d5, d6] := congrFun hV 11
    have v12 : V 12 = .bool true := congrFun hV 12
    have v13 : V 13 = .bool true := congrFun hV 13
    have v14 : V 14 = .bool true := congrFun hV 14
    have g5 := h5 w hB
    rcases ready19 hl hi with rfl | ⟨rfl, p0⟩ | ⟨rfl, p1⟩ | rfl | ⟨rfl, p2, p3⟩ | ⟨rfl, p4⟩ | ⟨rfl, p5⟩ | ⟨rfl, p6, p5⟩ | ⟨rfl, p5⟩ | ⟨rfl, p7, p8, p5⟩ | ⟨rfl, p9, p5⟩ | ⟨rfl, p5⟩ | ⟨rfl, p10, p11, p5⟩ | ⟨rfl, p5, p12⟩ | ⟨rfl, p13⟩
    · refine step19 (o := r0) I rfl rfl (by decide) hs rfl ?_
      rw [v0]
      unfold r0
      simp only [execOp, hev, f15]
      go_simp
    · have k0 : ev a 115 = .pointer (some ⟨bx, 5, none⟩) := (hf 0 (by decide) p0).trans v0
      refine step19 (o := r1) I rfl rfl (by decide) hs rfl ?_
      rw [v1]
      unfold r1
      simp only [execOp, hev, k0]
      go_simp
    · have k1 : ev a 116 = .slice (some ⟨b, off, none⟩) n c := (hf 1 (by decide) p1).trans v1
      refine step19 (o := r2) I rfl rfl (by decide) hs rfl ?_
      rw [v2]
      unfold r2
      simp only [execOp, resolve, invoke, builtin, Sem.run_bind, Sem.run_pure, Result.andThen_ok, List.map_toArray, List.map_cons, List.map_nil, hev, k1]
      go_simp
    · refine step19 (o := r3) I rfl rfl (by decide) hs rfl ?_
      rw [v3]
      unfold r3
      simp only [execOp, hev, f16]
      rfl
    · have k2 : ev a 117 = .int .i64 n := (hf 2 (by decide) p2).trans v2
      have k3 : ev a 118 = .int .i64 k := (hf 3 (by decide) p3).trans v3
      refine step19 (o := r4) I rfl rfl (by decide) hs rfl ?_
      rw [v4]
      unfold r4
      simp only [execOp, hev, k2, k3]
      go_simp
    · have k4 : ev a 119 = .bool true := (hf 4 (by decide) p4).trans v4
      refine step19 (o := r5) I rfl rfl (by decide) hs rfl ?_
      rw [v5]
      unfold r5
      simp only [execOp, hev, k4]
      rfl
    · refine step19 (o := r6) I rfl rfl (by decide) hs (want19 I hs v5 p5 r6 rfl) ?_
      rw [v6]
      unfold r6
      simp only [execOp, hev, f15]
      go_simp
    · have k6 : ev a 121 = .pointer (some ⟨bx, 5, none⟩) := (hf 6 (by decide) p6).trans v6
      refine step19 (o := r7) I rfl rfl (by decide) hs (want19 I hs v5 p5 r7 rfl) ?_
      rw [v7]
      unfold r7
      simp only [execOp, hev, k6]
      go_simp
    · refine step19 (o := r8) I rfl rfl (by decide) hs (want19 I hs v5 p5 r8 rfl) ?_
      rw [v8]
      unfold r8
      simp only [execOp, hev, f16]
      rfl
    · have k7 : ev a 122 = .slice (some ⟨b, off, none⟩) n c := (hf 7 (by decide) p7).trans v7
      have k8 : ev a 123 = .int .i64 k := (hf 8 (by decide) p8).trans v8
      refine step19 (o := r9) I rfl rfl (by decide) hs (want19 I hs v5 p5 r9 rfl) ?_
      rw [v9]
      unfold r9
      simp only [execOp, hev, k7, k8]
      go_simp
    · have k9 : ev a 124 = .pointer (some ⟨b, off + k * 7, none⟩) := (hf 9 (by decide) p9).trans v9
      obtain ⟨c0, c1, c2, c3, c4, c5, c6⟩ := range7 (hT w hB)
      refine step19 (o := r10) I rfl rfl (by decide) hs (want19 I hs v5 p5 r10 rfl) ?_
      rw [v10]
      unfold r10
      simp only [execOp, hev, k9]
      go_simp
    · obtain ⟨c0, c1, c2, c3, c4, c5, c6⟩ := range7 (hE w hB)
      refine step19 (o := r11) I rfl rfl (by decide) hs (want19 I hs v5 p5 r11 rfl) ?_
      rw [v11]
      unfold r11
      simp only [execOp, hev, f8]
      go_simp
    · have k10 : ev a 125 = .agg #[t0, t1, t2, t3, t4, t5, t6] := (hf 10 (by decide) p10).trans v10
      have k11 : ev a 126 = .agg #[d0, d1, d2, d3, d4, d5, d6] := (hf 11 (by decide) p11).trans v11
      refine wpOp_want (o := r12) rfl (want19 I hs v5 p5 r12 rfl) ?_
      unfold Oper.wp
      have hr : (execOp a.eval r12).run Tryz.prog w = .ok (.enter 9 #[.agg #[t0, t1, t2, t3, t4, t5, t6], .agg #[d0, d1, d2, d3, d4, d5, d6], .bool false]) w := by
        have h3 : ∀ v, a.eval (.func v) = .func (.func v) #[] #[] := fun _ => rfl
        unfold r12
        simp only [execOp, resolve, invoke, Sem.run_bind, List.map_toArray, List.map_cons, List.map_nil, hev, hcn, h3, k10, k11]
        go_simp
      rw [hr, Oper.upon_enter]
      refine (hc w hB).mono ?_
      rintro e w' ⟨rfl, hb⟩
      have := I.put (k := 12) (by decide) hs (Below.thn hB hb)
      rw [v12] at this
      exact this
    · have k5 : ev a 120 = .bool true := (hf 5 (by decide) p5).trans v5
      have k12 : ev a 127 = .bool true := (hf 12 (by decide) p12).trans v12
      refine step19 (o := r13) I rfl rfl (by decide) hs rfl ?_
      rw [v13]
      unfold r13
      simp only [execOp, hev, hcn, k5, k12]
      go_simp
    · have k13 : ev a 128 = .bool true := (hf 13 (by decide) p13).trans v13
      refine step19 (o := r14) I rfl rfl (by decide) hs rfl ?_
      rw [v14]
      unfold r14
      simp only [execOp, hev, k13]
      rfl
  · rintro l a w hr ⟨hl, hO, hB, hf⟩
    exact hQ a w hO hB ((hf 14 (by decide) (all19 hl hr)).trans (congrFun hV 14))
  · intro j hj hd
    simp [hj] at hd
end Go.Proofs.YtndgglhppoijnaaGreatDoor
