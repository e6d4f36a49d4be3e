/-
  4 texts in one: what each proves stands at its head.
-/
import Derived.Test.YtndgglhppoijnaaGreatDoorSg
import Derived.RegionTactic
/-
  A region that draws its order, by what is done: an invariant over the set of its operations. LangBracketed's first text: two appends, Parse, a program and a fault.
-/
namespace Go.Proofs.YtndgglhppoijnaaGreatDoor
open Go.RowKit
set_option maxRecDepth 100000

/-- What is done, and one more. -/
def upd (d : Nat → Bool) (i : Nat) : Nat → Bool := fun j => j == i || d j
theorem getD_set (l : Array Bool) (i : Nat) (hi : i < l.size) : (fun j => (l.setIfInBounds i true).getD j false) = upd (fun j => l.getD j false) i := by
  funext j
  unfold upd
  by_cases h : j = i
  · subst h
    simp [hi]
  · have h2 : ¬ i = j := fun e => h e.symm
    simp [h, h2]
theorem count_set : ∀ (l : List Bool) (i : Nat), l[i]? = some false → (l.set i true).count false + 1 = l.count false
  | [], i, h => by simp at h
  | b :: r, 0, h => by simp at h; subst h; simp
  | b :: r, i + 1, h => by
    have := count_set r i (by simpa using h)
    simp only [List.set_cons_succ, List.count_cons]
    omega
theorem ready_mem {md : Region.Mode} {ops : Array Oper} {l : Array Bool} {i : Nat} (h : i ∈ Region.ready md ops l) : l.getD i true = false ∧ i < ops.size := by
  unfold Region.ready at h
  simp only [List.mem_filter, List.mem_range, Bool.and_eq_true, Bool.not_eq_true'] at h
  exact ⟨h.2.1, h.1⟩
theorem getD_true {l : Array Bool} {i : Nat} (h : l.getD i true = false) : i < l.size ∧ l.toList[i]? = some false := by
  by_cases hi : i < l.size
  · refine ⟨hi, ?_⟩
    simp [hi] at h
    simp [hi, h]
  · simp [hi] at h

/-- Whatever the order: an invariant that each operation keeps, once it may come. -/
theorem wpAny_inv {P : Program} {md : Region.Mode} {ops : Array Oper} {Q : Exit → Act → World → Prop} (I : Array Bool → Act → World → Prop)
    (step : ∀ l a w i, i ∈ Region.ready md ops l → I l a w → wpOp P ops Q i (fun a' w' => I (l.setIfInBounds i true) a' w') a w)
    (fin : ∀ l a w, Region.ready md ops l = [] → I l a w → Q .normal a w) : ∀ (fuel : Nat) (l : Array Bool) (a : Act) (w : World), l.toList.count false ≤ fuel → I l a w → wpAny P md ops Q fuel l a w := by
  intro fuel
  induction fuel with
  | zero =>
    intro l a w hc hI
    have hr : Region.ready md ops l = [] := by
      cases e : Region.ready md ops l with
      | nil => rfl
      | cons i r =>
        exfalso
        have hm : i ∈ Region.ready md ops l := by rw [e]; simp
        have h1 := (getD_true (ready_mem hm).1).2
        have h2 := count_set l.toList i h1
        omega
    exact ⟨hr, fin l a w hr hI⟩
  | succ fuel ih =>
    intro l a w hc hI
    refine ⟨fun hr => fin l a w hr hI, fun i hi => ?_⟩
    refine wpOp_mono (fun a' w' h' => ih _ a' w' ?_ h') (step l a w i hi hI)
    have h1 := (getD_true (ready_mem hi).1).2
    have h2 := count_set l.toList i h1
    rw [Array.toList_setIfInBounds]
    omega

def o0 : Oper := { dst := some 21, op := Op.buildSlice 22 6 #[(0, Operand.const (Value.int IntKind.u8 102)), (1, Operand.const (Value.int IntKind.u8 40)), (2, Operand.const (Value.int IntKind.u8 41)), (3, Operand.const (Value.int IntKind.u8 58)), (4, Operand.const (Value.int IntKind.u8 78)), (5, Operand.const (Value.int IntKind.u8 61))], type := 22, pos := "law.go:195", after := #[], guard := none }
def o1 : Oper := { dst := some 22, op := Op.convert 22 22 (Operand.tmp 21), type := 22, pos := "law.go:195", after := #[{ on := 0, ground := Ground.data }], guard := none }
def o2 : Oper := { dst := some 23, op := Op.move (Operand.tmp 0), type := 22, pos := "law.go:195", after := #[], guard := none }
def o3 : Oper := { dst := some 24, op := Op.call { callee := Callee.builtin Builtin.append, args := #[Operand.tmp 22, Operand.tmp 23], argTypes := #[22, 22] }, type := 22, pos := "law.go:195", after := #[{ on := 1, ground := Ground.data }, { on := 2, ground := Ground.data }], guard := none }
def o4 : Oper := { dst := some 25, op := Op.buildSlice 22 2 #[(0, Operand.const (Value.int IntKind.u8 10)), (1, Operand.const (Value.int IntKind.u8 59))], type := 22, pos := "law.go:195", after := #[], guard := none }
def o5 : Oper := { dst := some 26, op := Op.call { callee := Callee.builtin Builtin.append, args := #[Operand.tmp 24, Operand.tmp 25], argTypes := #[22, 22] }, type := 22, pos := "law.go:195", after := #[{ on := 3, ground := Ground.data }, { on := 4, ground := Ground.data }, { on := 3, ground := Ground.chain }], guard := none }
def o6 : Oper := { dst := some 27, op := Op.load 25 (Operand.tmp 5), type := 25, pos := "law.go:195", after := #[], guard := none }
def o7 : Oper := { dst := some 28, op := Op.call { callee := Callee.value (Operand.func 8), args := #[Operand.tmp 26, Operand.tmp 27], argTypes := #[22, 25] }, type := 33, pos := "law.go:195", after := #[{ on := 5, ground := Ground.data }, { on := 6, ground := Ground.data }, { on := 5, ground := Ground.chain }], guard := none }
def o8 : Oper := { dst := some 20, op := Op.move (Operand.tmp 28), type := 33, pos := "law.go:195", after := #[{ on := 7, ground := Ground.data }], guard := none }
def o9 : Oper := { dst := some 29, op := Op.extract (Operand.tmp 20) 0, type := 29, pos := "law.go:195", after := #[{ on := 8, ground := Ground.data }], guard := none }
def o10 : Oper := { dst := some 30, op := Op.extract (Operand.tmp 20) 1, type := 32, pos := "law.go:195", after := #[{ on := 8, ground := Ground.data }, { on := 13, ground := Ground.gcOnly Departure.lateStores }], guard := none }
def o11 : Oper := { dst := some 6, op := Op.alloc 29, type := 0, pos := "law.go:195", after := #[], guard := none }
def o12 : Oper := { dst := some 7, op := Op.alloc 32, type := 0, pos := "law.go:195", after := #[], guard := none }
def o13 : Oper := { dst := none, op := Op.store 29 (Operand.tmp 6) (Operand.tmp 29), type := 0, pos := "law.go:195", after := #[{ on := 11, ground := Ground.data }, { on := 9, ground := Ground.data }, { on := 7, ground := Ground.chain }, { on := 0, ground := Ground.phase }, { on := 1, ground := Ground.phase }, { on := 2, ground := Ground.phase }, { on := 3, ground := Ground.phase }, { on := 4, ground := Ground.phase }, { on := 5, ground := Ground.phase }, { on := 6, ground := Ground.phase }, { on := 7, ground := Ground.phase }, { on := 8, ground := Ground.phase }, { on := 9, ground := Ground.phase }, { on := 10, ground := Ground.textOnly Departure.lateStores }, { on := 11, ground := Ground.phase }, { on := 12, ground := Ground.phase }], guard := none }
def o14 : Oper := { dst := none, op := Op.store 32 (Operand.tmp 7) (Operand.tmp 30), type := 0, pos := "law.go:195", after := #[{ on := 12, ground := Ground.data }, { on := 10, ground := Ground.data }, { on := 13, ground := Ground.chain }, { on := 0, ground := Ground.phase }, { on := 1, ground := Ground.phase }, { on := 2, ground := Ground.phase }, { on := 3, ground := Ground.phase }, { on := 4, ground := Ground.phase }, { on := 5, ground := Ground.phase }, { on := 6, ground := Ground.phase }, { on := 7, ground := Ground.phase }, { on := 8, ground := Ground.phase }, { on := 9, ground := Ground.phase }, { on := 10, ground := Ground.phase }, { on := 11, ground := Ground.phase }, { on := 12, ground := Ground.phase }, { on := 13, ground := Ground.phase }], guard := none }
def ops4 : Array Oper := #[o0, o1, o2, o3, o4, o5, o6, o7, o8, o9, o10, o11, o12, o13, o14]
def fr4 (s0 s1 s5 v6 v7 v20 v21 v22 v23 v24 v25 v26 v27 v28 v29 v30 : Value) : Act := { tmps := #[s0, s1, undef, undef, .bool false, s5, v6, v7, undef, undef, undef, undef, undef, undef, undef, undef, undef, .bool true, .bool false, .agg LW, v20, v21, v22, v23, v24, v25, v26, v27, v28, v29, v30, undef, undef, undef, undef, undef, undef, undef, undef, undef, undef, undef, undef, undef, undef, undef, undef, undef, undef, undef, undef, undef, undef, undef, undef, undef, undef, undef, undef, undef, undef, undef, undef, undef, undef, undef, undef, undef, undef, undef, undef, undef, undef, undef, undef, undef, undef, undef, undef, undef, undef, undef, undef, undef, undef, undef, undef, undef, undef, undef, undef, undef, undef, undef, undef, undef, undef, undef, undef, undef, undef, undef, undef, undef, undef, undef, undef, undef, undef, undef, undef, undef, undef, undef, undef, undef, undef, undef, undef, undef, undef, undef, undef, undef, undef, undef, undef, undef, undef], defers := [] }

theorem ready4 {l : Array Bool} {i : Nat} (hl : l.size = 15) (h : i ∈ Region.ready .any ops4 l) :
    (i = 0 ∧ l.getD 0 false = false) ∨ (i = 1 ∧ l.getD 1 false = false ∧ l.getD 0 false = true) ∨ (i = 2 ∧ l.getD 2 false = false) ∨ (i = 3 ∧ l.getD 3 false = false ∧ l.getD 1 false = true ∧ l.getD 2 false = true) ∨ (i = 4 ∧ l.getD 4 false = false) ∨ (i = 5 ∧ l.getD 5 false = false ∧ l.getD 3 false = true ∧ l.getD 4 false = true) ∨ (i = 6 ∧ l.getD 6 false = false) ∨ (i = 7 ∧ l.getD 7 false = false ∧ l.getD 5 false = true ∧ l.getD 6 false = true) ∨ (i = 8 ∧ l.getD 8 false = false ∧ l.getD 7 false = true) ∨ (i = 9 ∧ l.getD 9 false = false ∧ l.getD 8 false = true) ∨ (i = 10 ∧ l.getD 10 false = false ∧ l.getD 8 false = true) ∨ (i = 11 ∧ l.getD 11 false = false) ∨ (i = 12 ∧ l.getD 12 false = false) ∨ (i = 13 ∧ l.getD 13 false = false ∧ l.getD 0 false = true ∧ l.getD 1 false = true ∧ l.getD 2 false = true ∧ l.getD 3 false = true ∧ l.getD 4 false = true ∧ l.getD 5 false = true ∧ l.getD 6 false = true ∧ l.getD 7 false = true ∧ l.getD 8 false = true ∧ l.getD 9 false = true ∧ l.getD 11 false = true ∧ l.getD 12 false = true) ∨ (i = 14 ∧ l.getD 14 false = false ∧ l.getD 0 false = true ∧ l.getD 1 false = true ∧ l.getD 2 false = true ∧ l.getD 3 false = true ∧ l.getD 4 false = true ∧ l.getD 5 false = true ∧ l.getD 6 false = true ∧ l.getD 7 false = true ∧ l.getD 8 false = true ∧ l.getD 9 false = true ∧ l.getD 10 false = true ∧ l.getD 11 false = true ∧ l.getD 12 false = true ∧ l.getD 13 false = true) := by
  obtain ⟨h1, h2⟩ := ready_mem h
  have hlt : i < l.size := (getD_true h1).1
  have h3 : l.getD i false = false := by simp [hlt] at h1 ⊢; exact h1
  unfold Region.ready at h
  simp only [List.mem_filter, List.mem_range, Bool.and_eq_true] at h
  have h4 := h.2.2
  clear h h1 h2
  rw [hl] at hlt
  have h5 : i = 0 ∨ i = 1 ∨ i = 2 ∨ i = 3 ∨ i = 4 ∨ i = 5 ∨ i = 6 ∨ i = 7 ∨ i = 8 ∨ i = 9 ∨ i = 10 ∨ i = 11 ∨ i = 12 ∨ i = 13 ∨ i = 14 := by omega
  rcases h5 with rfl | rfl | rfl | rfl | rfl | rfl | rfl | rfl | rfl | rfl | rfl | rfl | rfl | rfl | rfl
  · exact .inl ⟨rfl, h3⟩
  · simp [ops4, o1, Region.binds] at h4
    exact .inr (.inl ⟨rfl, h3, by simp_all⟩)
  · exact .inr (.inr (.inl ⟨rfl, h3⟩))
  · simp [ops4, o3, Region.binds] at h4
    exact .inr (.inr (.inr (.inl ⟨rfl, h3, by simp_all, by simp_all⟩)))
  · exact .inr (.inr (.inr (.inr (.inl ⟨rfl, h3⟩))))
  · simp [ops4, o5, Region.binds] at h4
    exact .inr (.inr (.inr (.inr (.inr (.inl ⟨rfl, h3, by simp_all, by simp_all⟩)))))
  · exact .inr (.inr (.inr (.inr (.inr (.inr (.inl ⟨rfl, h3⟩))))))
  · simp [ops4, o7, Region.binds] at h4
    exact .inr (.inr (.inr (.inr (.inr (.inr (.inr (.inl ⟨rfl, h3, by simp_all, by simp_all⟩)))))))
  · simp [ops4, o8, Region.binds] at h4
    exact .inr (.inr (.inr (.inr (.inr (.inr (.inr (.inr (.inl ⟨rfl, h3, by simp_all⟩))))))))
  · simp [ops4, o9, Region.binds] at h4
    exact .inr (.inr (.inr (.inr (.inr (.inr (.inr (.inr (.inr (.inl ⟨rfl, h3, by simp_all⟩)))))))))
  · simp [ops4, o10, Region.binds] at h4
    exact .inr (.inr (.inr (.inr (.inr (.inr (.inr (.inr (.inr (.inr (.inl ⟨rfl, h3, by simp_all⟩))))))))))
  · exact .inr (.inr (.inr (.inr (.inr (.inr (.inr (.inr (.inr (.inr (.inr (.inl ⟨rfl, h3⟩)))))))))))
  · exact .inr (.inr (.inr (.inr (.inr (.inr (.inr (.inr (.inr (.inr (.inr (.inr (.inl ⟨rfl, h3⟩))))))))))))
  · simp [ops4, o13, Region.binds] at h4
    exact .inr (.inr (.inr (.inr (.inr (.inr (.inr (.inr (.inr (.inr (.inr (.inr (.inr (.inl ⟨rfl, h3, by simp_all, by simp_all, by simp_all, by simp_all, by simp_all, by simp_all, by simp_all, by simp_all, by simp_all, by simp_all, by simp_all, by simp_all⟩)))))))))))))
  · simp [ops4, o14, Region.binds] at h4
    exact .inr (.inr (.inr (.inr (.inr (.inr (.inr (.inr (.inr (.inr (.inr (.inr (.inr (.inr (⟨rfl, h3, by simp_all, by simp_all, by simp_all, by simp_all, by simp_all, by simp_all, by simp_all, by simp_all, by simp_all, by simp_all, by simp_all, by simp_all, by simp_all, by simp_all⟩))))))))))))))
end Go.Proofs.YtndgglhppoijnaaGreatDoor
/-
  What holds within the first text's region, whatever is done of it; each operation keeps it.
-/
namespace Go.Proofs.YtndgglhppoijnaaGreatDoor
open Go.RowKit
set_option maxRecDepth 100000

abbrev b6 : List UInt8 := [102, 40, 41, 58, 78, 61]
abbrev e2 : List UInt8 := [10, 59]
/-- Ahead of Parse. -/
structure J1 (X0 : World) (T1 T2 : List UInt8) (s0 : Value) (d : Nat → Bool) (v6 v7 v21 v22 v23 v24 v25 v26 v27 : Value) (w : World) : Prop where
  bel : Below X0.heap.size X0 w
  c21 : d 0 = true → d 1 = false → ∃ g, v21 = .slice (some ⟨g, 0, none⟩) 6 6 ∧ Nk X0.heap.size w g 5 (b6.map byteV)
  c22 : d 1 = true → d 3 = false → ∃ g, v22 = .slice (some ⟨g, 0, none⟩) 6 6 ∧ Ful w X0.heap.size g b6
  c23 : d 2 = true → v23 = s0
  c24 : d 3 = true → d 5 = false → OwnX w X0.heap.size v24 T1
  c25 : d 4 = true → d 5 = false → ∃ g, v25 = .slice (some ⟨g, 0, none⟩) 2 2 ∧ Nk X0.heap.size w g 5 (e2.map byteV) ∧ (d 0 = true → d 1 = false → v21.ownBlock ≠ some g) ∧ (d 1 = true → d 3 = false → v22.ownBlock ≠ some g) ∧ (d 3 = true → v24.ownBlock ≠ some g)
  c26 : d 5 = true → Own w X0.heap.size v26 T2
  c27 : d 6 = true → v27 = .agg LW
  c6 : d 11 = true → ∃ g, v6 = .pointer (some ⟨g, 0, none⟩) ∧ Nk X0.heap.size w g 29 [.slice none 0 0]
  c7 : d 12 = true → ∃ g, v7 = .pointer (some ⟨g, 0, none⟩) ∧ Nk X0.heap.size w g 32 [.int .i64 0, .int .i64 0]
  dep : (d 1 = true → d 0 = true) ∧ (d 3 = true → d 1 = true) ∧ (d 5 = true → d 3 = true) ∧ (d 5 = true → d 4 = true) ∧ (d 3 = true → d 2 = true)
  no : d 7 = false ∧ d 8 = false ∧ d 9 = false ∧ d 10 = false ∧ d 13 = false ∧ d 14 = false

section
variable {X0 w w' : World} {T1 T2 : List UInt8} {s0 v6 v7 v21 v22 v23 v24 v25 v26 v27 : Value} {d : Nat → Bool}
theorem J1.up (h : J1 X0 T1 T2 s0 d v6 v7 v21 v22 v23 v24 v25 v26 v27 w) (hb : Below w.heap.size w w') : J1 X0 T1 T2 s0 d v6 v7 v21 v22 v23 v24 v25 v26 v27 w' where
  bel := h.bel.trans (hb.mono h.bel.size)
  c21 := fun a b => by obtain ⟨g, e, n⟩ := h.c21 a b; exact ⟨g, e, n.up hb⟩
  c22 := fun a b => by obtain ⟨g, e, n⟩ := h.c22 a b; exact ⟨g, e, n.keep (hb.block g n.lt)⟩
  c23 := h.c23
  c24 := fun a b => (h.c24 a b).up hb
  c25 := fun a b => by obtain ⟨g, e, n, p⟩ := h.c25 a b; exact ⟨g, e, n.up hb, p⟩
  c26 := fun a => (h.c26 a).up hb
  c27 := h.c27
  c6 := fun a => by obtain ⟨g, e, n⟩ := h.c6 a; exact ⟨g, e, n.up hb⟩
  c7 := fun a => by obtain ⟨g, e, n⟩ := h.c7 a; exact ⟨g, e, n.up hb⟩
  dep := h.dep
  no := h.no
theorem ne_of_blk {g k : Nat} {m c : Nat} (h : g ≠ k) : (Value.slice (some ⟨g, 0, none⟩) m c).ownBlock ≠ some k := fun e => h (Option.some.inj e)
theorem J1.st0 (h : J1 X0 T1 T2 s0 d v6 v7 v21 v22 v23 v24 v25 v26 v27 w) : J1 X0 T1 T2 s0 (upd d 0) v6 v7 (.slice (some ⟨w.heap.size, 0, none⟩) 6 6) v22 v23 v24 v25 v26 v27 (w.alloc (.cells (b6.map byteV).toArray 5)) := by
  have u := h.up (below_alloc w (.cells (b6.map byteV).toArray 5))
  exact { u with
    c21 := fun _ _ => ⟨w.heap.size, rfl, Nk.new 5 _ h.bel.size⟩
    c25 := fun a b => by
      obtain ⟨g, e, n, _, p2, p3⟩ := u.c25 a b
      obtain ⟨g', e', n', _⟩ := h.c25 a b
      rw [e] at e'
      simp only [Value.slice.injEq, Option.some.injEq, Addr.mk.injEq, and_true] at e'
      have hl := n'.1.lt
      exact ⟨g, e, n, fun _ _ => ne_of_blk (by omega), p2, p3⟩
    dep := ⟨fun _ => rfl, h.dep.2⟩ }
theorem J1.st4 (h : J1 X0 T1 T2 s0 d v6 v7 v21 v22 v23 v24 v25 v26 v27 w) : J1 X0 T1 T2 s0 (upd d 4) v6 v7 v21 v22 v23 v24 (.slice (some ⟨w.heap.size, 0, none⟩) 2 2) v26 v27 (w.alloc (.cells (e2.map byteV).toArray 5)) := by
  have u := h.up (below_alloc w (.cells (e2.map byteV).toArray 5))
  exact { u with
    c25 := fun _ b => by
      refine ⟨w.heap.size, rfl, Nk.new 5 _ h.bel.size, fun p q => ?_, fun p q => ?_, fun p e => ?_⟩
      · obtain ⟨g, e, n⟩ := h.c21 p q
        rw [e]
        exact ne_of_blk (Nat.ne_of_lt n.1.lt)
      · obtain ⟨g, e, n⟩ := h.c22 p q
        rw [e]
        exact ne_of_blk (Nat.ne_of_lt n.lt)
      · have := ((h.c24 p b).typ _ e).2.1
        omega
    dep := ⟨h.dep.1, h.dep.2.1, h.dep.2.2.1, fun _ => rfl, h.dep.2.2.2.2⟩ }
theorem J1.st11 (h : J1 X0 T1 T2 s0 d v6 v7 v21 v22 v23 v24 v25 v26 v27 w) : J1 X0 T1 T2 s0 (upd d 11) (.pointer (some ⟨w.heap.size, 0, none⟩)) v7 v21 v22 v23 v24 v25 v26 v27 (w.alloc (.cells #[.slice none 0 0] 29)) := by
  have u := h.up (below_alloc w (.cells #[.slice none 0 0] 29))
  exact { bel := u.bel, c21 := u.c21, c22 := u.c22, c23 := u.c23, c24 := u.c24, c25 := u.c25, c26 := u.c26, c27 := u.c27, c6 := fun _ => ⟨w.heap.size, rfl, Nk.new 29 _ h.bel.size⟩, c7 := u.c7, dep := h.dep, no := h.no }
theorem J1.st12 (h : J1 X0 T1 T2 s0 d v6 v7 v21 v22 v23 v24 v25 v26 v27 w) : J1 X0 T1 T2 s0 (upd d 12) v6 (.pointer (some ⟨w.heap.size, 0, none⟩)) v21 v22 v23 v24 v25 v26 v27 (w.alloc (.cells #[.int .i64 0, .int .i64 0] 32)) := by
  have u := h.up (below_alloc w (.cells #[.int .i64 0, .int .i64 0] 32))
  exact { bel := u.bel, c21 := u.c21, c22 := u.c22, c23 := u.c23, c24 := u.c24, c25 := u.c25, c26 := u.c26, c27 := u.c27, c6 := u.c6, c7 := fun _ => ⟨w.heap.size, rfl, Nk.new 32 _ h.bel.size⟩, dep := h.dep, no := h.no }
theorem J1.st2 (h : J1 X0 T1 T2 s0 d v6 v7 v21 v22 v23 v24 v25 v26 v27 w) : J1 X0 T1 T2 s0 (upd d 2) v6 v7 v21 v22 (s0) v24 v25 v26 v27 w := { h with c23 := fun _ => rfl, dep := ⟨h.dep.1, h.dep.2.1, h.dep.2.2.1, h.dep.2.2.2.1, fun _ => rfl⟩ }
theorem J1.st6 (h : J1 X0 T1 T2 s0 d v6 v7 v21 v22 v23 v24 v25 v26 v27 w) : J1 X0 T1 T2 s0 (upd d 6) v6 v7 v21 v22 v23 v24 v25 v26 (.agg LW) w := { h with c27 := fun _ => rfl }
/-- The mark behind a constant's bytes. -/
theorem J1.st1 (h : J1 X0 T1 T2 s0 d v6 v7 v21 v22 v23 v24 v25 v26 v27 w) (h0 : d 0 = true) (h1 : d 1 = false) {g : Nat} (e : v21 = .slice (some ⟨g, 0, none⟩) 6 6) (n : Nk X0.heap.size w g 5 (b6.map byteV)) (ho : Oth g w w') (hf : Ful w' X0.heap.size g b6) : J1 X0 T1 T2 s0 (upd d 1) v6 v7 v21 (v21) v23 v24 v25 v26 v27 w' where
  bel := h.bel.trans (ho.below n.2)
  c21 := fun _ b => by cases b
  c22 := fun _ _ => ⟨g, e, hf⟩
  c23 := h.c23
  c24 := fun a _ => by have := h.dep.2.1 a; rw [h1] at this; cases this
  c25 := fun a b => by
    obtain ⟨g', e', n', p1, _, p3⟩ := h.c25 a b
    have hne : g' ≠ g := fun x => p1 h0 h1 (by rw [e, x]; rfl)
    exact ⟨g', e', ⟨n'.1.oth ho hne, n'.2⟩, fun _ q => (by cases q), fun _ _ => p1 h0 h1, fun q => by have := h.dep.2.1 q; rw [h1] at this; cases this⟩
  c26 := fun a => by have := h.dep.2.1 (h.dep.2.2.1 a); rw [h1] at this; cases this
  c27 := h.c27
  c6 := fun a => by obtain ⟨g', e', n'⟩ := h.c6 a; exact ⟨g', e', n'.1.oth ho (bk_ne n'.1 n.1 (by decide)), n'.2⟩
  c7 := fun a => by obtain ⟨g', e', n'⟩ := h.c7 a; exact ⟨g', e', n'.1.oth ho (bk_ne n'.1 n.1 (by decide)), n'.2⟩
  dep := ⟨fun _ => h0, fun _ => rfl, h.dep.2.2⟩
  no := h.no
theorem Kb.rowN {B C : Nat} {w w' : World} {ob : Option Nat} {b : Nat} {t : TypeId} {vs : List Value} (k : Kb B w w' ob) (h : Nk C w b t vs) (hne : ob ≠ some b) : Nk C w' b t vs := by
  refine ⟨?_, h.2⟩
  have hl := h.1.lt
  have hb := h.1
  unfold Bk at *
  rw [k.grown.block b hl fun e => hne e.symm]
  exact hb
theorem J1.st3 (h : J1 X0 T1 T2 s0 d v6 v7 v21 v22 v23 v24 v25 v26 v27 w) (h1 : d 1 = true) (h2 : d 2 = true) (h3 : d 3 = false) {g : Nat} (e : v22 = .slice (some ⟨g, 0, none⟩) 6 6) {v' : Value} (hX : OwnX w' X0.heap.size v' T1) (hb : ∀ b, v'.ownBlock = some b → b = g ∨ w.heap.size ≤ b) (k : Kb X0.heap.size w w' (some g)) : J1 X0 T1 T2 s0 (upd d 3) v6 v7 v21 v22 v23 (v') v25 v26 v27 w' where
  bel := h.bel.trans k.low
  c21 := fun _ b => by have b' : d 1 = false := b; rw [h1] at b'; cases b'
  c22 := fun _ b => by cases b
  c23 := h.c23
  c24 := fun _ _ => hX
  c25 := fun a b => by
    obtain ⟨g', e', n', _, p2, _⟩ := h.c25 a b
    have hne : some g ≠ some g' := fun x => p2 h1 h3 (by rw [e]; exact x)
    have hl := n'.1.lt
    refine ⟨g', e', k.rowN n' hne, fun _ q => ?_, fun _ q => (by cases q), fun _ q => ?_⟩
    · have q' : d 1 = false := q; rw [h1] at q'; cases q'
    · rcases hb _ q with x | x
      · exact hne (by rw [x])
      · omega
  c26 := fun a => by have := h.dep.2.2.1 a; rw [h3] at this; cases this
  c27 := h.c27
  c6 := fun a => by obtain ⟨g', e', n'⟩ := h.c6 a; exact ⟨g', e', k.nk n' (by decide)⟩
  c7 := fun a => by obtain ⟨g', e', n'⟩ := h.c7 a; exact ⟨g', e', k.nk n' (by decide)⟩
  dep := ⟨h.dep.1, fun _ => h1, fun _ => rfl, h.dep.2.2.2.1, fun _ => h2⟩
  no := h.no
theorem J1.st5 (h : J1 X0 T1 T2 s0 d v6 v7 v21 v22 v23 v24 v25 v26 v27 w) (h3 : d 3 = true) (h4 : d 4 = true) {v' : Value} {ob : Option Nat} (hX : Own w' X0.heap.size v' T2) (k : Kb X0.heap.size w w' ob) : J1 X0 T1 T2 s0 (upd d 5) v6 v7 v21 v22 v23 v24 v25 (v') v27 w' where
  bel := h.bel.trans k.low
  c21 := fun _ b => by have b' : d 1 = false := b; rw [h.dep.2.1 h3] at b'; cases b'
  c22 := fun _ b => by have b' : d 3 = false := b; rw [h3] at b'; cases b'
  c23 := h.c23
  c24 := fun _ b => by cases b
  c25 := fun _ b => by cases b
  c26 := fun _ => hX
  c27 := h.c27
  c6 := fun a => by obtain ⟨g', e', n'⟩ := h.c6 a; exact ⟨g', e', k.nk n' (by decide)⟩
  c7 := fun a => by obtain ⟨g', e', n'⟩ := h.c7 a; exact ⟨g', e', k.nk n' (by decide)⟩
  dep := ⟨h.dep.1, h.dep.2.1, fun _ => h3, fun _ => h4, h.dep.2.2.2.2⟩
  no := h.no
end

/-- Behind Parse. -/
structure J2 (X0 : World) (T2 : List UInt8) (F : Nat) (d : Nat → Bool) (v6 v7 v20 v28 v29 v30 : Value) (w : World) (ao : Option Addr) (n c : Nat) (y x : Int) (wp : World) (B : Nat) : Prop where
  e28 : v28 = .tuple #[.agg #[.slice ao n c], .agg #[.int .i64 y, .int .i64 x]]
  pa : paV T2 32768 32768 32768 32768 F B (.returned (.tuple #[.agg #[.slice ao n c], .agg #[.int .i64 y, .int .i64 x]])) wp
  b1 : X0.heap.size ≤ B
  b2 : wp.heap.size ≤ w.heap.size
  ag : ∀ b, B ≤ b → b < wp.heap.size → w.heap[b]? = wp.heap[b]?
  bel : Below X0.heap.size X0 w
  e20 : d 8 = true → v20 = v28
  e29 : d 9 = true → v29 = .agg #[.slice ao n c]
  e30 : d 10 = true → v30 = .agg #[.int .i64 y, .int .i64 x]
  c6 : d 11 = true → ∃ g, v6 = .pointer (some ⟨g, 0, none⟩) ∧ X0.heap.size ≤ g ∧ (g < B ∨ wp.heap.size ≤ g) ∧ Bk w g 29 [if d 13 = true then .slice ao n c else .slice none 0 0]
  c7 : d 12 = true → ∃ g, v7 = .pointer (some ⟨g, 0, none⟩) ∧ X0.heap.size ≤ g ∧ (g < B ∨ wp.heap.size ≤ g) ∧ Bk w g 32 (if d 14 = true then [.int .i64 y, .int .i64 x] else [.int .i64 0, .int .i64 0])
  all : ∀ j, j < 8 → d j = true
section
variable {X0 w w' : World} {T1 T2 : List UInt8} {F : Nat} {s0 v6 v7 v21 v22 v23 v24 v25 v26 v27 v20 v28 v29 v30 : Value} {d : Nat → Bool} {ao : Option Addr} {n c : Nat} {y x : Int} {wp : World} {B : Nat}
theorem J1.st7 (h : J1 X0 T1 T2 s0 d v6 v7 v21 v22 v23 v24 v25 v26 v27 w) (hall : ∀ j, j < 7 → d j = true) (hb : Below w.heap.size w w') (hp : paV T2 32768 32768 32768 32768 F w.heap.size (.returned (.tuple #[.agg #[.slice ao n c], .agg #[.int .i64 y, .int .i64 x]])) w') :
    J2 X0 T2 F (upd d 7) v6 v7 v20 (.tuple #[.agg #[.slice ao n c], .agg #[.int .i64 y, .int .i64 x]]) v29 v30 w' ao n c y x w' w.heap.size where
  e28 := rfl
  pa := hp
  b1 := h.bel.size
  b2 := Nat.le_refl _
  ag := fun _ _ _ => rfl
  bel := h.bel.trans (hb.mono h.bel.size)
  e20 := fun a => by have a' : d 8 = true := a; rw [h.no.2.1] at a'; cases a'
  e29 := fun a => by have a' : d 9 = true := a; rw [h.no.2.2.1] at a'; cases a'
  e30 := fun a => by have a' : d 10 = true := a; rw [h.no.2.2.2.1] at a'; cases a'
  c6 := fun a => by
    obtain ⟨g, e, k⟩ := h.c6 a
    refine ⟨g, e, k.2, .inl k.1.lt, ?_⟩
    rw [show upd d 7 13 = false from h.no.2.2.2.2.1]
    exact k.1.up hb
  c7 := fun a => by
    obtain ⟨g, e, k⟩ := h.c7 a
    refine ⟨g, e, k.2, .inl k.1.lt, ?_⟩
    rw [show upd d 7 14 = false from h.no.2.2.2.2.2]
    exact k.1.up hb
  all := fun j hj => by
    by_cases e : j = 7
    · subst e; rfl
    · show (j == 7 || d j) = true
      rw [hall j (by omega), Bool.or_true]
theorem all_upd {d : Nat → Bool} {i : Nat} (h : ∀ j, j < 8 → d j = true) : ∀ j, j < 8 → upd d i j = true := fun j hj => by unfold upd; rw [h j hj, Bool.or_true]
theorem J2.st8 (h : J2 X0 T2 F d v6 v7 v20 v28 v29 v30 w ao n c y x wp B) : J2 X0 T2 F (upd d 8) v6 v7 v28 v28 v29 v30 w ao n c y x wp B := { h with e20 := fun _ => rfl, all := all_upd h.all }
theorem J2.st9 (h : J2 X0 T2 F d v6 v7 v20 v28 v29 v30 w ao n c y x wp B) : J2 X0 T2 F (upd d 9) v6 v7 v20 v28 (.agg #[.slice ao n c]) v30 w ao n c y x wp B := { h with e29 := fun _ => rfl, all := all_upd h.all }
theorem J2.st10 (h : J2 X0 T2 F d v6 v7 v20 v28 v29 v30 w ao n c y x wp B) : J2 X0 T2 F (upd d 10) v6 v7 v20 v28 v29 (.agg #[.int .i64 y, .int .i64 x]) w ao n c y x wp B := { h with e30 := fun _ => rfl, all := all_upd h.all }
theorem J2.up (h : J2 X0 T2 F d v6 v7 v20 v28 v29 v30 w ao n c y x wp B) (hb : Below w.heap.size w w') : J2 X0 T2 F d v6 v7 v20 v28 v29 v30 w' ao n c y x wp B :=
  { h with
    b2 := Nat.le_trans h.b2 hb.size
    ag := fun b p q => (hb.block b (Nat.lt_of_lt_of_le q h.b2)).trans (h.ag b p q)
    bel := h.bel.trans (hb.mono h.bel.size)
    c6 := fun a => by obtain ⟨g, e, p, q, k⟩ := h.c6 a; exact ⟨g, e, p, q, k.up hb⟩
    c7 := fun a => by obtain ⟨g, e, p, q, k⟩ := h.c7 a; exact ⟨g, e, p, q, k.up hb⟩ }
theorem J2.st11 (h : J2 X0 T2 F d v6 v7 v20 v28 v29 v30 w ao n c y x wp B) (h13 : d 13 = false) : J2 X0 T2 F (upd d 11) (.pointer (some ⟨w.heap.size, 0, none⟩)) v7 v20 v28 v29 v30 (w.alloc (.cells #[.slice none 0 0] 29)) ao n c y x wp B :=
  have u := h.up (below_alloc w (.cells #[.slice none 0 0] 29))
  { u with c6 := fun _ => ⟨w.heap.size, rfl, h.bel.size, .inr h.b2, by rw [show upd d 11 13 = false from h13]; exact Bk.new w 29 _⟩, all := all_upd h.all }
theorem J2.st12 (h : J2 X0 T2 F d v6 v7 v20 v28 v29 v30 w ao n c y x wp B) (h14 : d 14 = false) : J2 X0 T2 F (upd d 12) v6 (.pointer (some ⟨w.heap.size, 0, none⟩)) v20 v28 v29 v30 (w.alloc (.cells #[.int .i64 0, .int .i64 0] 32)) ao n c y x wp B :=
  have u := h.up (below_alloc w (.cells #[.int .i64 0, .int .i64 0] 32))
  { u with c7 := fun _ => ⟨w.heap.size, rfl, h.bel.size, .inr h.b2, by rw [show upd d 12 14 = false from h14]; exact Bk.new w 32 _⟩, all := all_upd h.all }
theorem J2.st13 (h : J2 X0 T2 F d v6 v7 v20 v28 v29 v30 w ao n c y x wp B) {g : Nat} (e : v6 = .pointer (some ⟨g, 0, none⟩)) (hg : X0.heap.size ≤ g) (hq : g < B ∨ wp.heap.size ≤ g) (k : Bk w g 29 [.slice none 0 0]) :
    J2 X0 T2 F (upd d 13) v6 v7 v20 v28 v29 v30 (w.setCell ⟨g, 0, none⟩ (.slice ao n c)) ao n c y x wp B := by
  have ho := (Oth.refl g w).set 0 (.slice ao n c)
  exact { h with
    all := all_upd h.all
    b2 := by rw [ho.size]; exact h.b2
    ag := fun b p q => (ho.block b (by omega)).trans (h.ag b p q)
    bel := h.bel.trans (ho.below hg)
    c6 := fun _ => ⟨g, e, hg, hq, k.set 0 _⟩
    c7 := fun a => by obtain ⟨g', e', p, q, k'⟩ := h.c7 a; exact ⟨g', e', p, q, k'.oth ho (bk_ne k' k (by decide))⟩ }
theorem J2.st14 (h : J2 X0 T2 F d v6 v7 v20 v28 v29 v30 w ao n c y x wp B) {g : Nat} (e : v7 = .pointer (some ⟨g, 0, none⟩)) (hg : X0.heap.size ≤ g) (hq : g < B ∨ wp.heap.size ≤ g) (k : Bk w g 32 [.int .i64 0, .int .i64 0]) :
    J2 X0 T2 F (upd d 14) v6 v7 v20 v28 v29 v30 ((w.setCell ⟨g, 0, none⟩ (.int .i64 y)).setCell ⟨g, 1, none⟩ (.int .i64 x)) ao n c y x wp B := by
  have ho := ((Oth.refl g w).set 0 (.int .i64 y)).set 1 (.int .i64 x)
  exact { h with
    all := all_upd h.all
    b2 := by rw [ho.size]; exact h.b2
    ag := fun b p q => (ho.block b (by omega)).trans (h.ag b p q)
    bel := h.bel.trans (ho.below hg)
    c6 := fun a => by obtain ⟨g', e', p, q, k'⟩ := h.c6 a; exact ⟨g', e', p, q, k'.oth ho (bk_ne k' k (by decide))⟩
    c7 := fun _ => ⟨g, e, hg, hq, (k.set 0 _).set 1 _⟩ }
theorem J2.fin (h : J2 X0 T2 F d v6 v7 v20 v28 v29 v30 w ao n c y x wp B) (h11 : d 11 = true) (h12 : d 12 = true) (h13 : d 13 = true) (h14 : d 14 = true) : PF2 X0 T2 32768 32768 32768 32768 F v6 v7 w := by
  obtain ⟨gp, e1, p1, q1, k1⟩ := h.c6 h11
  obtain ⟨gf, e2, p2, q2, k2⟩ := h.c7 h12
  rw [if_pos h13] at k1
  rw [if_pos h14] at k2
  exact ⟨gp, gf, ao, n, c, y, x, e1, e2, p1, p2, k1, k2, h.bel, paV_keep h.pa h.b1 h.b2 h.ag⟩
end
end Go.Proofs.YtndgglhppoijnaaGreatDoor
/-
  The first text's region walked.
-/
namespace Go.Proofs.YtndgglhppoijnaaGreatDoor
open Go.RowKit
set_option maxRecDepth 100000

/-- A store comes behind what it stores to. -/
def Dp (d : Nat → Bool) : Prop := (d 13 = true → d 11 = true) ∧ (d 14 = true → d 12 = true)
theorem Dp.up {d : Nat → Bool} (h : Dp d) (i : Nat) (h13 : i = 13 → d 11 = true) (h14 : i = 14 → d 12 = true) : Dp (upd d i) := by
  unfold Dp upd at *
  refine ⟨fun e => ?_, fun e => ?_⟩
  · by_cases hi : i = 13
    · rw [h13 hi, Bool.or_true]
    · have e' : d 13 = true := by simpa [show ¬ 13 = i from fun x => hi x.symm] using e
      rw [h.1 e', Bool.or_true]
  · by_cases hi : i = 14
    · rw [h14 hi, Bool.or_true]
    · have e' : d 14 = true := by simpa [show ¬ 14 = i from fun x => hi x.symm] using e
      rw [h.2 e', Bool.or_true]
def I4 (X0 : World) (T1 T2 : List UInt8) (F : Nat) (s0 s1 s5 : Value) (l : Array Bool) (a : Act) (w : World) : Prop :=
  l.size = 15 ∧ Dp (fun j => l.getD j false) ∧ ∃ v6 v7 v20 v21 v22 v23 v24 v25 v26 v27 v28 v29 v30, a = fr4 s0 s1 s5 v6 v7 v20 v21 v22 v23 v24 v25 v26 v27 v28 v29 v30 ∧
    (J1 X0 T1 T2 s0 (fun j => l.getD j false) v6 v7 v21 v22 v23 v24 v25 v26 v27 w ∨ ∃ ao n c y x wp B, J2 X0 T2 F (fun j => l.getD j false) v6 v7 v20 v28 v29 v30 w ao n c y x wp B)

theorem I4.one {X0 : World} {T1 T2 : List UInt8} {F : Nat} {s0 s1 s5 v6 v7 v20 v21 v22 v23 v24 v25 v26 v27 v28 v29 v30 : Value} {l : Array Bool} {w : World} {i : Nat} (hl : l.size = 15) (hi : i < 15) (hd : Dp (upd (fun j => l.getD j false) i))
    (h : J1 X0 T1 T2 s0 (upd (fun j => l.getD j false) i) v6 v7 v21 v22 v23 v24 v25 v26 v27 w) : I4 X0 T1 T2 F s0 s1 s5 (l.setIfInBounds i true) (fr4 s0 s1 s5 v6 v7 v20 v21 v22 v23 v24 v25 v26 v27 v28 v29 v30) w :=
  ⟨by simp [hl], by rw [getD_set l i (by omega)]; exact hd, v6, v7, v20, v21, v22, v23, v24, v25, v26, v27, v28, v29, v30, rfl, .inl (by rw [getD_set l i (by omega)]; exact h)⟩
theorem I4.two {X0 : World} {T1 T2 : List UInt8} {F : Nat} {s0 s1 s5 v6 v7 v20 v21 v22 v23 v24 v25 v26 v27 v28 v29 v30 : Value} {l : Array Bool} {w : World} {i : Nat} {ao : Option Addr} {n c : Nat} {y x : Int} {wp : World} {B : Nat} (hl : l.size = 15) (hi : i < 15) (hd : Dp (upd (fun j => l.getD j false) i))
    (h : J2 X0 T2 F (upd (fun j => l.getD j false) i) v6 v7 v20 v28 v29 v30 w ao n c y x wp B) : I4 X0 T1 T2 F s0 s1 s5 (l.setIfInBounds i true) (fr4 s0 s1 s5 v6 v7 v20 v21 v22 v23 v24 v25 v26 v27 v28 v29 v30) w :=
  ⟨by simp [hl], by rw [getD_set l i (by omega)]; exact hd, v6, v7, v20, v21, v22, v23, v24, v25, v26, v27, v28, v29, v30, rfl, .inr ⟨ao, n, c, y, x, wp, B, by rw [getD_set l i (by omega)]; exact h⟩⟩

theorem wpOp_run {P : Program} {ops : Array Oper} {Q : Exit → Act → World → Prop} {i : Nat} {o : Oper} {K : Act → World → Prop} {a : Act} {w w' : World} {v : Value} (ho : ops[i]? = some o) (hg : o.guard = none)
    (hr : (execOp a.eval o).run P w = .ok (.value v) w') (hK : K (a.put o.dst v) w') : wpOp P ops Q i K a w := by
  unfold wpOp
  rw [ho]
  have hw : Region.wanted o (yielded ops a.tmps) = true := by unfold Region.wanted; rw [hg]
  show if Region.wanted o (yielded ops a.tmps) = true then _ else _
  rw [if_pos hw]
  refine .inl ?_
  unfold Oper.wp
  rw [hr]
  exact hK
theorem wpOp_wp {P : Program} {ops : Array Oper} {Q : Exit → Act → World → Prop} {i : Nat} {o : Oper} {K : Act → World → Prop} {a : Act} {w : World} (ho : ops[i]? = some o) (hg : o.guard = none)
    (h : Oper.wp P o a w K Q) : wpOp P ops Q i K a w := by
  unfold wpOp
  rw [ho]
  have hw : Region.wanted o (yielded ops a.tmps) = true := by unfold Region.wanted; rw [hg]
  show if Region.wanted o (yielded ops a.tmps) = true then _ else _
  rw [if_pos hw]
  exact .inl h

theorem wpOp_skip {P : Program} {ops : Array Oper} {Q : Exit → Act → World → Prop} {i : Nat} {o : Oper} {K : Act → World → Prop} {a : Act} {w w' : World} (ho : ops[i]? = some o) (hg : o.guard = none)
    (hr : (execOp a.eval o).run P w = .ok .skip w') (hK : K (a.put o.dst undef) w') : wpOp P ops Q i K a w := by
  refine wpOp_wp ho hg ?_
  unfold Oper.wp
  rw [hr]
  exact hK

/-- The mark behind a constant's bytes, wherever they lie. -/
theorem run_mark (w : World) (g n c : Nat) (C : Array Value) (h : w.heap[g]? = some (.cells C 5)) : ∃ w', (convert 22 22 (.slice (some ⟨g, 0, none⟩) n c)).run Tryz.prog w = .ok (.slice (some ⟨g, 0, none⟩) n c) w' ∧ w'.heap[g]? = some (.cells C 5 (C.size, C.size + 1)) ∧ Oth g w w' := by
  have hsh : w.shape? g = some (5, C.size) := by
    unfold World.shape?
    rw [h]
  refine ⟨w.freeze ⟨g, C.size, none⟩ 1, ?_, ?_, ?_⟩
  · simp [convert, run_underlying Tryz.underBs, run_underlying Tryz.underlying5, markStringish, hsh]
  · unfold World.freeze
    rw [if_neg (by decide)]
    show (w.heap.modify g _)[g]? = _
    rw [Array.getElem?_modify, if_pos rfl, h]
    rfl
  · unfold World.freeze
    rw [if_neg (by decide)]
    refine ⟨rfl, rfl, rfl, by simp, fun b hb => ?_⟩
    show (w.heap.modify g _)[b]? = _
    rw [Array.getElem?_modify, if_neg fun e => hb e.symm]

theorem ful_of {w : World} {B g : Nat} {xs : List UInt8} {fr : Nat × Nat} (hB : B ≤ g) (h : w.heap[g]? = some (.cells (xs.map byteV).toArray 5 fr)) : Ful w B g xs := by
  refine ⟨hB, ⟨_, _, h⟩, fun j u hj => ?_⟩
  rw [Addr.add_mid]
  unfold World.cell?
  rw [h]
  simpa using hj

section
variable {Q : Exit → Act → World → Prop} {K : Act → World → Prop} {s0 s1 s5 v6 v7 v20 v21 v22 v23 v24 v25 v26 v27 v28 v29 v30 : Value} {w : World}
theorem op0 (h : K (fr4 s0 s1 s5 v6 v7 v20 (.slice (some ⟨w.heap.size, 0, none⟩) 6 6) v22 v23 v24 v25 v26 v27 v28 v29 v30) (w.alloc (.cells (b6.map byteV).toArray 5))) : wpOp Tryz.prog ops4 Q 0 K (fr4 s0 s1 s5 v6 v7 v20 v21 v22 v23 v24 v25 v26 v27 v28 v29 v30) w := by
  refine wpOp_run (o := o0) (v := .slice (some ⟨w.heap.size, 0, none⟩) 6 6) (w' := w.alloc (.cells (b6.map byteV).toArray 5)) rfl rfl ?_ h
  have hc : ∀ v, (fr4 s0 s1 s5 v6 v7 v20 v21 v22 v23 v24 v25 v26 v27 v28 v29 v30).eval (.const v) = v := fun _ => rfl
  generalize fr4 s0 s1 s5 v6 v7 v20 v21 v22 v23 v24 v25 v26 v27 v28 v29 v30 = a at hc
  unfold o0
  simp only [execOp]
  go_simp
  rfl
theorem op1 {g : Nat} {w' : World} (e : v21 = .slice (some ⟨g, 0, none⟩) 6 6) (hr : (convert 22 22 (.slice (some ⟨g, 0, none⟩) 6 6)).run Tryz.prog w = .ok (.slice (some ⟨g, 0, none⟩) 6 6) w') (h : K (fr4 s0 s1 s5 v6 v7 v20 v21 (v21) v23 v24 v25 v26 v27 v28 v29 v30) w') : wpOp Tryz.prog ops4 Q 1 K (fr4 s0 s1 s5 v6 v7 v20 v21 v22 v23 v24 v25 v26 v27 v28 v29 v30) w := by
  subst e
  refine wpOp_run (o := o1) (v := .slice (some ⟨g, 0, none⟩) 6 6) (w' := w') rfl rfl ?_ h
  show ((do pure (.value (← convert 22 22 (.slice (some ⟨g, 0, none⟩) 6 6)))) : Sem Next).run Tryz.prog w = _
  simp [hr]
theorem op2 (h : K (fr4 s0 s1 s5 v6 v7 v20 v21 v22 (s0) v24 v25 v26 v27 v28 v29 v30) w) : wpOp Tryz.prog ops4 Q 2 K (fr4 s0 s1 s5 v6 v7 v20 v21 v22 v23 v24 v25 v26 v27 v28 v29 v30) w := by
  refine wpOp_run (v := s0) (w' := w) rfl rfl ?_ h
  rfl
theorem op3 {v' : Value} {w' : World} (hr : (Builtin.append_ #[22, 22] 22 #[v22, v23]).run Tryz.prog w = .ok v' w') (h : K (fr4 s0 s1 s5 v6 v7 v20 v21 v22 v23 (v') v25 v26 v27 v28 v29 v30) w') : wpOp Tryz.prog ops4 Q 3 K (fr4 s0 s1 s5 v6 v7 v20 v21 v22 v23 v24 v25 v26 v27 v28 v29 v30) w := by
  have hh := step_append_runU (P := Tryz.prog) (ops := ops4) (o := o3) (a := fr4 s0 s1 s5 v6 v7 v20 v21 v22 v23 v24 v25 v26 v27 v28 v29 v30) (w := w) (K := K) (Q := Q) (E := K ((fr4 s0 s1 s5 v6 v7 v20 v21 v22 v23 v24 v25 v26 v27 v28 v29 v30).put o3.dst undef) w) rfl (.tmp 22) (.tmp 23) 22 22 rfl rfl v22 v23 rfl rfl v' w' hr h
  have hw : Region.wanted o3 (yielded ops4 (fr4 s0 s1 s5 v6 v7 v20 v21 v22 v23 v24 v25 v26 v27 v28 v29 v30).tmps) = true := rfl
  rw [if_pos hw] at hh
  exact wpOp_wp rfl rfl hh
theorem op4 (h : K (fr4 s0 s1 s5 v6 v7 v20 v21 v22 v23 v24 (.slice (some ⟨w.heap.size, 0, none⟩) 2 2) v26 v27 v28 v29 v30) (w.alloc (.cells (e2.map byteV).toArray 5))) : wpOp Tryz.prog ops4 Q 4 K (fr4 s0 s1 s5 v6 v7 v20 v21 v22 v23 v24 v25 v26 v27 v28 v29 v30) w := by
  refine wpOp_run (o := o4) (v := .slice (some ⟨w.heap.size, 0, none⟩) 2 2) (w' := w.alloc (.cells (e2.map byteV).toArray 5)) rfl rfl ?_ h
  have hc : ∀ v, (fr4 s0 s1 s5 v6 v7 v20 v21 v22 v23 v24 v25 v26 v27 v28 v29 v30).eval (.const v) = v := fun _ => rfl
  generalize fr4 s0 s1 s5 v6 v7 v20 v21 v22 v23 v24 v25 v26 v27 v28 v29 v30 = a at hc
  unfold o4
  simp only [execOp]
  go_simp
  rfl
theorem op5 {v' : Value} {w' : World} (hr : (Builtin.append_ #[22, 22] 22 #[v24, v25]).run Tryz.prog w = .ok v' w') (h : K (fr4 s0 s1 s5 v6 v7 v20 v21 v22 v23 v24 v25 (v') v27 v28 v29 v30) w') : wpOp Tryz.prog ops4 Q 5 K (fr4 s0 s1 s5 v6 v7 v20 v21 v22 v23 v24 v25 v26 v27 v28 v29 v30) w := by
  have hh := step_append_runU (P := Tryz.prog) (ops := ops4) (o := o5) (a := fr4 s0 s1 s5 v6 v7 v20 v21 v22 v23 v24 v25 v26 v27 v28 v29 v30) (w := w) (K := K) (Q := Q) (E := K ((fr4 s0 s1 s5 v6 v7 v20 v21 v22 v23 v24 v25 v26 v27 v28 v29 v30).put o5.dst undef) w) rfl (.tmp 24) (.tmp 25) 22 22 rfl rfl v24 v25 rfl rfl v' w' hr h
  have hw : Region.wanted o5 (yielded ops4 (fr4 s0 s1 s5 v6 v7 v20 v21 v22 v23 v24 v25 v26 v27 v28 v29 v30).tmps) = true := rfl
  rw [if_pos hw] at hh
  exact wpOp_wp rfl rfl hh
theorem op6 (hr : (Instr.loadAt 25 s5).run Tryz.prog w = .ok (.agg LW) w) (h : K (fr4 s0 s1 s5 v6 v7 v20 v21 v22 v23 v24 v25 v26 (.agg LW) v28 v29 v30) w) : wpOp Tryz.prog ops4 Q 6 K (fr4 s0 s1 s5 v6 v7 v20 v21 v22 v23 v24 v25 v26 v27 v28 v29 v30) w := by
  refine wpOp_run (o := o6) (v := .agg LW) (w' := w) rfl rfl ?_ h
  show ((do pure (.value (← Instr.loadAt 25 s5))) : Sem Next).run Tryz.prog w = _
  simp [hr]
theorem op7 (hc : Calls Tryz.prog 8 #[v26, v27] w fun e w' => ∃ v, e = .returned v ∧ K (fr4 s0 s1 s5 v6 v7 v20 v21 v22 v23 v24 v25 v26 v27 (v) v29 v30) w') : wpOp Tryz.prog ops4 Q 7 K (fr4 s0 s1 s5 v6 v7 v20 v21 v22 v23 v24 v25 v26 v27 v28 v29 v30) w := by
  refine wpOp_wp (o := o7) rfl rfl ?_
  unfold Oper.wp
  have hr : (execOp (fr4 s0 s1 s5 v6 v7 v20 v21 v22 v23 v24 v25 v26 v27 v28 v29 v30).eval o7).run Tryz.prog w = .ok (.enter 8 #[v26, v27]) w := by
    have h1 : (fr4 s0 s1 s5 v6 v7 v20 v21 v22 v23 v24 v25 v26 v27 v28 v29 v30).eval (.tmp 26) = v26 := rfl
    have h2 : (fr4 s0 s1 s5 v6 v7 v20 v21 v22 v23 v24 v25 v26 v27 v28 v29 v30).eval (.tmp 27) = v27 := rfl
    have h3 : ∀ v, (fr4 s0 s1 s5 v6 v7 v20 v21 v22 v23 v24 v25 v26 v27 v28 v29 v30).eval (.func v) = .func (.func v) #[] #[] := fun _ => rfl
    generalize fr4 s0 s1 s5 v6 v7 v20 v21 v22 v23 v24 v25 v26 v27 v28 v29 v30 = a at h1 h2 h3 ⊢
    unfold o7
    simp only [execOp]
    go_simp
    exact ⟨by simpa [Act.eval] using h1, by simpa [Act.eval] using h2⟩
  rw [hr, Oper.upon_enter]
  refine hc.mono ?_
  rintro e w' ⟨v, rfl, hk⟩
  exact hk
theorem op8 (h : K (fr4 s0 s1 s5 v6 v7 (v28) v21 v22 v23 v24 v25 v26 v27 v28 v29 v30) w) : wpOp Tryz.prog ops4 Q 8 K (fr4 s0 s1 s5 v6 v7 v20 v21 v22 v23 v24 v25 v26 v27 v28 v29 v30) w := by
  refine wpOp_run (v := v28) (w' := w) rfl rfl ?_ h
  rfl
theorem op9 {p q : Value} (e : v20 = .tuple #[p, q]) (h : K (fr4 s0 s1 s5 v6 v7 v20 v21 v22 v23 v24 v25 v26 v27 v28 (p) v30) w) : wpOp Tryz.prog ops4 Q 9 K (fr4 s0 s1 s5 v6 v7 v20 v21 v22 v23 v24 v25 v26 v27 v28 v29 v30) w := by
  subst e
  refine wpOp_run (v := p) (w' := w) rfl rfl ?_ h
  rfl
theorem op10 {p q : Value} (e : v20 = .tuple #[p, q]) (h : K (fr4 s0 s1 s5 v6 v7 v20 v21 v22 v23 v24 v25 v26 v27 v28 v29 (q)) w) : wpOp Tryz.prog ops4 Q 10 K (fr4 s0 s1 s5 v6 v7 v20 v21 v22 v23 v24 v25 v26 v27 v28 v29 v30) w := by
  subst e
  refine wpOp_run (v := q) (w' := w) rfl rfl ?_ h
  rfl
theorem op11 (h : K (fr4 s0 s1 s5 (.pointer (some ⟨w.heap.size, 0, none⟩)) v7 v20 v21 v22 v23 v24 v25 v26 v27 v28 v29 v30) (w.alloc (.cells #[.slice none 0 0] 29))) : wpOp Tryz.prog ops4 Q 11 K (fr4 s0 s1 s5 v6 v7 v20 v21 v22 v23 v24 v25 v26 v27 v28 v29 v30) w := by
  refine wpOp_run (o := o11) (v := .pointer (some ⟨w.heap.size, 0, none⟩)) (w' := w.alloc (.cells #[.slice none 0 0] 29)) rfl rfl ?_ h
  generalize fr4 s0 s1 s5 v6 v7 v20 v21 v22 v23 v24 v25 v26 v27 v28 v29 v30 = a
  unfold o11
  simp only [execOp]
  go_simp
theorem op12 (h : K (fr4 s0 s1 s5 v6 (.pointer (some ⟨w.heap.size, 0, none⟩)) v20 v21 v22 v23 v24 v25 v26 v27 v28 v29 v30) (w.alloc (.cells #[.int .i64 0, .int .i64 0] 32))) : wpOp Tryz.prog ops4 Q 12 K (fr4 s0 s1 s5 v6 v7 v20 v21 v22 v23 v24 v25 v26 v27 v28 v29 v30) w := by
  refine wpOp_run (o := o12) (v := .pointer (some ⟨w.heap.size, 0, none⟩)) (w' := w.alloc (.cells #[.int .i64 0, .int .i64 0] 32)) rfl rfl ?_ h
  generalize fr4 s0 s1 s5 v6 v7 v20 v21 v22 v23 v24 v25 v26 v27 v28 v29 v30 = a
  unfold o12
  simp only [execOp]
  go_simp
theorem op13 {g n c : Nat} {ao : Option Addr} {x : Value} (e6 : v6 = .pointer (some ⟨g, 0, none⟩)) (e29 : v29 = .agg #[.slice ao n c]) (hb : Bk w g 29 [x]) (h : K (fr4 s0 s1 s5 v6 v7 v20 v21 v22 v23 v24 v25 v26 v27 v28 v29 v30) (w.setCell ⟨g, 0, none⟩ (.slice ao n c))) : wpOp Tryz.prog ops4 Q 13 K (fr4 s0 s1 s5 v6 v7 v20 v21 v22 v23 v24 v25 v26 v27 v28 v29 v30) w := by
  subst e6 e29
  refine wpOp_skip (o := o13) (w' := w.setCell ⟨g, 0, none⟩ (.slice ao n c)) rfl rfl ?_ h
  have h1 : (fr4 s0 s1 s5 (.pointer (some ⟨g, 0, none⟩)) v7 v20 v21 v22 v23 v24 v25 v26 v27 v28 (.agg #[.slice ao n c]) v30).eval (.tmp 6) = .pointer (some ⟨g, 0, none⟩) := rfl
  have h2 : (fr4 s0 s1 s5 (.pointer (some ⟨g, 0, none⟩)) v7 v20 v21 v22 v23 v24 v25 v26 v27 v28 (.agg #[.slice ao n c]) v30).eval (.tmp 29) = .agg #[.slice ao n c] := rfl
  generalize fr4 s0 s1 s5 (.pointer (some ⟨g, 0, none⟩)) v7 v20 v21 v22 v23 v24 v25 v26 v27 v28 (.agg #[.slice ao n c]) v30 = a at h1 h2 ⊢
  have hc : w.cell? ⟨g, 0, none⟩ = some x := hb.cell 0
  have hz := hb.frz 0
  unfold o13
  simp only [execOp, h1, h2]
  go_simp
theorem op14 {g : Nat} {y z : Int} {x x' : Value} (e7 : v7 = .pointer (some ⟨g, 0, none⟩)) (e30 : v30 = .agg #[.int .i64 y, .int .i64 z]) (hb : Bk w g 32 [x, x']) (h : K (fr4 s0 s1 s5 v6 v7 v20 v21 v22 v23 v24 v25 v26 v27 v28 v29 v30) ((w.setCell ⟨g, 0, none⟩ (.int .i64 y)).setCell ⟨g, 1, none⟩ (.int .i64 z))) : wpOp Tryz.prog ops4 Q 14 K (fr4 s0 s1 s5 v6 v7 v20 v21 v22 v23 v24 v25 v26 v27 v28 v29 v30) w := by
  subst e7 e30
  refine wpOp_skip (o := o14) (w' := (w.setCell ⟨g, 0, none⟩ (.int .i64 y)).setCell ⟨g, 1, none⟩ (.int .i64 z)) rfl rfl ?_ h
  have h1 : (fr4 s0 s1 s5 v6 (.pointer (some ⟨g, 0, none⟩)) v20 v21 v22 v23 v24 v25 v26 v27 v28 v29 (.agg #[.int .i64 y, .int .i64 z])).eval (.tmp 7) = .pointer (some ⟨g, 0, none⟩) := rfl
  have h2 : (fr4 s0 s1 s5 v6 (.pointer (some ⟨g, 0, none⟩)) v20 v21 v22 v23 v24 v25 v26 v27 v28 v29 (.agg #[.int .i64 y, .int .i64 z])).eval (.tmp 30) = .agg #[.int .i64 y, .int .i64 z] := rfl
  generalize fr4 s0 s1 s5 v6 (.pointer (some ⟨g, 0, none⟩)) v20 v21 v22 v23 v24 v25 v26 v27 v28 v29 (.agg #[.int .i64 y, .int .i64 z]) = a at h1 h2 ⊢
  have hc : w.cell? ⟨g, 0, none⟩ = some x := hb.cell 0
  have hc1 : w.cell? ⟨g, 1, none⟩ = some x' := hb.cell 1
  have hz := hb.frz 0
  have hz1 := hb.frz 1
  unfold o14
  simp only [execOp, h1, h2]
  go_simp
end
end Go.Proofs.YtndgglhppoijnaaGreatDoor
/-
  The first text's region, whatever its order.
-/
namespace Go.Proofs.YtndgglhppoijnaaGreatDoor
open Go.RowKit
set_option maxRecDepth 100000

theorem all4 {l : Array Bool} (hl : l.size = 15) (h : Region.ready .any ops4 l = []) : ∀ j, j < 15 → l.getD j false = true := by
  unfold Region.ready at h
  rw [List.filter_eq_nil_iff] at h
  have e : ∀ j, j < 15 → (l.getD j false = l.getD j true) := fun j hj => by simp [hl, hj]
  have r0 : l.getD 0 false = true := by
    have q := h 0 (by decide)
    rw [e 0 (by decide)]
    simpa [ops4, o0, Region.binds] using q
  have s0 : l[0]?.getD false = true := by simpa using r0
  have r1 : l.getD 1 false = true := by
    have q := h 1 (by decide)
    rw [e 1 (by decide)]
    simpa [ops4, o1, Region.binds, s0] using q
  have s1 : l[1]?.getD false = true := by simpa using r1
  have r2 : l.getD 2 false = true := by
    have q := h 2 (by decide)
    rw [e 2 (by decide)]
    simpa [ops4, o2, Region.binds, s0, s1] using q
  have s2 : l[2]?.getD false = true := by simpa using r2
  have r3 : l.getD 3 false = true := by
    have q := h 3 (by decide)
    rw [e 3 (by decide)]
    simpa [ops4, o3, Region.binds, s0, s1, s2] using q
  have s3 : l[3]?.getD false = true := by simpa using r3
  have r4 : l.getD 4 false = true := by
    have q := h 4 (by decide)
    rw [e 4 (by decide)]
    simpa [ops4, o4, Region.binds, s0, s1, s2, s3] using q
  have s4 : l[4]?.getD false = true := by simpa using r4
  have r5 : l.getD 5 false = true := by
    have q := h 5 (by decide)
    rw [e 5 (by decide)]
    simpa [ops4, o5, Region.binds, s0, s1, s2, s3, s4] using q
  have s5 : l[5]?.getD false = true := by simpa using r5
  have r6 : l.getD 6 false = true := by
    have q := h 6 (by decide)
    rw [e 6 (by decide)]
    simpa [ops4, o6, Region.binds, s0, s1, s2, s3, s4, s5] using q
  have s6 : l[6]?.getD false = true := by simpa using r6
  have r7 : l.getD 7 false = true := by
    have q := h 7 (by decide)
    rw [e 7 (by decide)]
    simpa [ops4, o7, Region.binds, s0, s1, s2, s3, s4, s5, s6] using q
  have s7 : l[7]?.getD false = true := by simpa using r7
  have r8 : l.getD 8 false = true := by
    have q := h 8 (by decide)
    rw [e 8 (by decide)]
    simpa [ops4, o8, Region.binds, s0, s1, s2, s3, s4, s5, s6, s7] using q
  have s8 : l[8]?.getD false = true := by simpa using r8
  have r9 : l.getD 9 false = true := by
    have q := h 9 (by decide)
    rw [e 9 (by decide)]
    simpa [ops4, o9, Region.binds, s0, s1, s2, s3, s4, s5, s6, s7, s8] using q
  have s9 : l[9]?.getD false = true := by simpa using r9
  have r10 : l.getD 10 false = true := by
    have q := h 10 (by decide)
    rw [e 10 (by decide)]
    simpa [ops4, o10, Region.binds, s0, s1, s2, s3, s4, s5, s6, s7, s8, s9] using q
  have s10 : l[10]?.getD false = true := by simpa using r10
  have r11 : l.getD 11 false = true := by
    have q := h 11 (by decide)
    rw [e 11 (by decide)]
    simpa [ops4, o11, Region.binds, s0, s1, s2, s3, s4, s5, s6, s7, s8, s9, s10] using q
  have s11 : l[11]?.getD false = true := by simpa using r11
  have r12 : l.getD 12 false = true := by
    have q := h 12 (by decide)
    rw [e 12 (by decide)]
    simpa [ops4, o12, Region.binds, s0, s1, s2, s3, s4, s5, s6, s7, s8, s9, s10, s11] using q
  have s12 : l[12]?.getD false = true := by simpa using r12
  have r13 : l.getD 13 false = true := by
    have q := h 13 (by decide)
    rw [e 13 (by decide)]
    simpa [ops4, o13, Region.binds, s0, s1, s2, s3, s4, s5, s6, s7, s8, s9, s10, s11, s12] using q
  have s13 : l[13]?.getD false = true := by simpa using r13
  have r14 : l.getD 14 false = true := by
    have q := h 14 (by decide)
    rw [e 14 (by decide)]
    simpa [ops4, o14, Region.binds, s0, s1, s2, s3, s4, s5, s6, s7, s8, s9, s10, s11, s12, s13] using q
  have s14 : l[14]?.getD false = true := by simpa using r14
  clear e h
  intro j hj
  have h5 : j = 0 ∨ j = 1 ∨ j = 2 ∨ j = 3 ∨ j = 4 ∨ j = 5 ∨ j = 6 ∨ j = 7 ∨ j = 8 ∨ j = 9 ∨ j = 10 ∨ j = 11 ∨ j = 12 ∨ j = 13 ∨ j = 14 := by omega
  rcases h5 with rfl | rfl | rfl | rfl | rfl | rfl | rfl | rfl | rfl | rfl | rfl | rfl | rfl | rfl | rfl <;> assumption

theorem region4 {Q : Exit → Act → World → Prop} {X0 w0 : World} {a1 : Option Addr} {c1 b5 F : Nat} {t : List UInt8} {s1 u6 u7 u20 u21 u22 u23 u24 u25 u26 u27 u28 u29 u30 : Value} (hG : Gl X0) (hE : Env X0) (h1 : Bd X0 a1 t) (hn1 : a1 = none → c1 = 0) (ht : t.length ≤ 140737488351232) (hL : Bk X0 b5 25 LW.toList)
    (hf : ∀ ms, cut rdN (b6 ++ t ++ e2) 0 = .ok ms → progL (mf ms) ⟨max 32768 0, max 32768 0, max 32768 0⟩ F [] 0 ≠ .out) (hw : Below X0.heap.size X0 w0)
    (hQ : ∀ v6 v7 v20 v21 v22 v23 v24 v25 v26 v27 v28 v29 v30 w, PF2 X0 (b6 ++ t ++ e2) 32768 32768 32768 32768 F v6 v7 w → Q .normal (fr4 (.slice a1 t.length c1) s1 (.pointer (some ⟨b5, 0, none⟩)) v6 v7 v20 v21 v22 v23 v24 v25 v26 v27 v28 v29 v30) w) :
    wpAny Tryz.prog .any ops4 Q 15 (Array.replicate 15 false) (fr4 (.slice a1 t.length c1) s1 (.pointer (some ⟨b5, 0, none⟩)) u6 u7 u20 u21 u22 u23 u24 u25 u26 u27 u28 u29 u30) w0 := by
  have hd0 : (fun j => (Array.replicate 15 false).getD j false) = fun _ : Nat => false := by
    funext j
    by_cases h : j < 15 <;> simp [h]
  refine wpAny_inv (I4 X0 (b6 ++ t) (b6 ++ t ++ e2) F (.slice a1 t.length c1) s1 (.pointer (some ⟨b5, 0, none⟩))) ?_ ?_ 15 _ _ _ (by simp) ⟨by simp, by rw [hd0]; exact ⟨fun x => (by cases x), fun x => (by cases x)⟩, _, _, _, _, _, _, _, _, _, _, _, _, _, rfl, .inl ?_⟩
  · rintro l a w i hi ⟨hl, hD, v6, v7, v20, v21, v22, v23, v24, v25, v26, v27, v28, v29, v30, rfl, hJ⟩
    have hrd := ready4 hl hi
    rcases hJ with J | ⟨ao, n, c, y, x, wp, B, J⟩
    · have n7 : l.getD 7 false = false := J.no.1
      have n8 : l.getD 8 false = false := J.no.2.1
      have n9 : l.getD 9 false = false := J.no.2.2.1
      rcases hrd with ⟨rfl, q⟩ | ⟨rfl, q, p0⟩ | ⟨rfl, q⟩ | ⟨rfl, q, p1, p2⟩ | ⟨rfl, q⟩ | ⟨rfl, q, p3, p4⟩ | ⟨rfl, q⟩ | ⟨rfl, q, p5, p6⟩ | ⟨rfl, q, p7⟩ | ⟨rfl, q, p8⟩ | ⟨rfl, q, p8⟩ | ⟨rfl, q⟩ | ⟨rfl, q⟩ | ⟨rfl, q, _, _, _, _, _, _, _, p7, _⟩ | ⟨rfl, q, _, _, _, _, _, _, _, p7, _⟩
      · exact op0 (I4.one hl (by decide) (hD.up _ (by omega) (by omega)) J.st0)
      · obtain ⟨g, e, k⟩ := J.c21 p0 q
        obtain ⟨w', hr, hb, ho⟩ := run_mark w g 6 6 _ k.1
        exact op1 e hr (I4.one hl (by decide) (hD.up _ (by omega) (by omega)) (J.st1 p0 q e k ho (ful_of k.2 hb)))
      · exact op2 (I4.one hl (by decide) (hD.up _ (by omega) (by omega)) J.st2)
      · obtain ⟨g, e, k⟩ := J.c22 p1 q
        have e3 := J.c23 p2
        obtain ⟨v', w', hr, hX, _, hb, hk⟩ := ful_app w X0.heap.size g b6 k J.bel.size a1 c1 t (h1.up J.bel) hn1 (by simp only [List.length_cons, List.length_nil]; omega)
        refine op3 (v' := v') (w' := w') ?_ (I4.one hl (by decide) (hD.up _ (by omega) (by omega)) (J.st3 p1 p2 q e hX hb hk))
        rw [e, e3]
        exact hr
      · exact op4 (I4.one hl (by decide) (hD.up _ (by omega) (by omega)) J.st4)
      · obtain ⟨g, e, k, _⟩ := J.c25 p4 q
        obtain ⟨v', w', hr, _, hX, hk⟩ := ownx_app w X0.heap.size v24 (b6 ++ t) (J.c24 p3 q) J.bel.size (some ⟨g, 0, none⟩) 2 e2 (bd_of_nk k rfl rfl (by decide)) (by intro x; cases x) (by simp only [List.length_append, List.length_cons, List.length_nil]; omega)
        refine op5 (v' := v') (w' := w') ?_ (I4.one hl (by decide) (hD.up _ (by omega) (by omega)) (J.st5 p3 p4 (hX (by decide)) hk))
        rw [e]
        exact hr
      · have hL' := hL.up J.bel
        obtain ⟨k0, k1, k2, k3⟩ := Bk.four (show Bk w b5 25 [_, _, _, _] from hL')
        refine op6 ?_ (I4.one hl (by decide) (hD.up _ (by omega) (by omega)) J.st6)
        go_simp
      · have d3 := J.dep.2.2.1 p5
        have d1 := J.dep.2.1 d3
        have d0 := J.dep.1 d1
        have d4 := J.dep.2.2.2.1 p5
        have d2 := J.dep.2.2.2.2 d3
        have hall : ∀ j, j < 7 → (fun j => l.getD j false) j = true := by
          intro j hj
          have h5 : j = 0 ∨ j = 1 ∨ j = 2 ∨ j = 3 ∨ j = 4 ∨ j = 5 ∨ j = 6 := by omega
          rcases h5 with rfl | rfl | rfl | rfl | rfl | rfl | rfl <;> assumption
        obtain ⟨ao, cap, e, hb, hc⟩ := (J.c26 p5).bd
        have e7 := J.c27 p6
        refine op7 ?_
        rw [e, e7]
        refine (langParse_all ao cap (b6 ++ t ++ e2) hc.1 32768 32768 32768 32768 (by decide) w (hG.up J.bel) (env_keep hE J.bel) hb F hf).mono ?_
        rintro en w' ⟨hb', hp⟩
        have hp0 := hp
        rcases paV_two hp hf with ⟨y, x, _, rfl⟩ | ⟨_, _, gs, _, _, _, ao', c', rfl, _⟩
        · exact ⟨_, rfl, I4.two hl (by decide) (hD.up _ (by omega) (by omega)) (J.st7 hall hb' hp0)⟩
        · exact ⟨_, rfl, I4.two hl (by decide) (hD.up _ (by omega) (by omega)) (J.st7 hall hb' hp0)⟩
      · rw [n7] at p7; cases p7
      · rw [n8] at p8; cases p8
      · rw [n8] at p8; cases p8
      · exact op11 (I4.one hl (by decide) (hD.up _ (by omega) (by omega)) J.st11)
      · exact op12 (I4.one hl (by decide) (hD.up _ (by omega) (by omega)) J.st12)
      · rw [n7] at p7; cases p7
      · rw [n7] at p7; cases p7
    · have al := J.all
      rcases hrd with ⟨rfl, q⟩ | ⟨rfl, q, p0⟩ | ⟨rfl, q⟩ | ⟨rfl, q, p1, p2⟩ | ⟨rfl, q⟩ | ⟨rfl, q, p3, p4⟩ | ⟨rfl, q⟩ | ⟨rfl, q, p5, p6⟩ | ⟨rfl, q, p7⟩ | ⟨rfl, q, p8⟩ | ⟨rfl, q, p8⟩ | ⟨rfl, q⟩ | ⟨rfl, q⟩ | ⟨rfl, q, _, _, _, _, _, _, _, _, _, p9, p11, _⟩ | ⟨rfl, q, _, _, _, _, _, _, _, _, _, _, p10, _, p12, _⟩
      · have := al 0 (by decide)
        rw [q] at this; cases this
      · have := al 1 (by decide)
        rw [q] at this; cases this
      · have := al 2 (by decide)
        rw [q] at this; cases this
      · have := al 3 (by decide)
        rw [q] at this; cases this
      · have := al 4 (by decide)
        rw [q] at this; cases this
      · have := al 5 (by decide)
        rw [q] at this; cases this
      · have := al 6 (by decide)
        rw [q] at this; cases this
      · have := al 7 (by decide)
        rw [q] at this; cases this
      · exact op8 (I4.two hl (by decide) (hD.up _ (by omega) (by omega)) J.st8)
      · exact op9 ((J.e20 p8).trans J.e28) (I4.two hl (by decide) (hD.up _ (by omega) (by omega)) J.st9)
      · exact op10 ((J.e20 p8).trans J.e28) (I4.two hl (by decide) (hD.up _ (by omega) (by omega)) J.st10)
      · have h13 : l.getD 13 false = false := by
          cases e : l.getD 13 false with
          | false => rfl
          | true => have k : l.getD 11 false = true := hD.1 e; rw [q] at k; cases k
        exact op11 (I4.two hl (by decide) (hD.up _ (by omega) (by omega)) (J.st11 h13))
      · have h14 : l.getD 14 false = false := by
          cases e : l.getD 14 false with
          | false => rfl
          | true => have k : l.getD 12 false = true := hD.2 e; rw [q] at k; cases k
        exact op12 (I4.two hl (by decide) (hD.up _ (by omega) (by omega)) (J.st12 h14))
      · obtain ⟨g, e, u1, u2, k⟩ := J.c6 p11
        rw [if_neg (by rw [q]; decide)] at k
        exact op13 e (J.e29 p9) k (I4.two hl (by decide) (hD.up _ (fun _ => p11) (by omega)) (J.st13 e u1 u2 k))
      · obtain ⟨g, e, u1, u2, k⟩ := J.c7 p12
        rw [if_neg (by rw [q]; decide)] at k
        exact op14 e (J.e30 p10) k (I4.two hl (by decide) (hD.up _ (by omega) (fun _ => p12)) (J.st14 e u1 u2 k))
  · rintro l a w hr ⟨hl, _, v6, v7, v20, v21, v22, v23, v24, v25, v26, v27, v28, v29, v30, rfl, hJ⟩
    have hall := all4 hl hr
    rcases hJ with J | ⟨ao, n, c, y, x, wp, B, J⟩
    · have := J.no.1
      rw [hall 7 (by decide)] at this
      cases this
    · exact hQ _ _ _ _ _ _ _ _ _ _ _ _ _ _ (J.fin (hall 11 (by decide)) (hall 12 (by decide)) (hall 13 (by decide)) (hall 14 (by decide)))
  · rw [hd0]
    have no : ∀ {p : Prop}, false = true → p := fun x => by cases x
    exact ⟨hw, fun x => no x, fun x => no x, fun x => no x, fun x => no x, fun x => no x, fun x => no x, fun x => no x, fun x => no x, fun x => no x, ⟨fun x => no x, fun x => no x, fun x => no x, fun x => no x, fun x => no x⟩, rfl, rfl, rfl, rfl, rfl, rfl⟩
end Go.Proofs.YtndgglhppoijnaaGreatDoor
