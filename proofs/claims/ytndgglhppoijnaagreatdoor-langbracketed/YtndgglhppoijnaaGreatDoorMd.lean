/-
  The walk of runMark.
-/
import Derived.Test.YtndgglhppoijnaaGreatDoorUF
namespace Go.Proofs.YtndgglhppoijnaaGreatDoor
open Go.RowKit
set_option maxRecDepth 100000

/-- What is read as a number. -/
def rdN : Num := ⟨rdOk, rdP, rdQ⟩

/-- A mark as a value. -/
def mkV (m : Mk) : Value := .agg #[.int .i64 m.kind, .string (bs m.text), .complex .f64 (fl m.p) (fl m.q), .int .i64 m.at_]
def mk0 : Value := .agg #[.int .i64 0, .string ⟨#[]⟩, .complex .f64 0 0, .int .i64 0]

/-- Block b holds a mark. -/
def S4 (w : World) (b : Nat) (x y z u : Value) : Prop := w.heap[b]? = some (.cells #[x, y, z, u] 85 (0, 0))

theorem S4.lt {w : World} {b : Nat} {x y z u : Value} (h : S4 w b x y z u) : b < w.heap.size := by
  rcases Nat.lt_or_ge b w.heap.size with k | k
  · exact k
  · unfold S4 at h; rw [Array.getElem?_eq_none k] at h; cases h

theorem S4.cells {w : World} {b : Nat} {x y z u : Value} (h : S4 w b x y z u) : w.cell? ⟨b, 0, none⟩ = some x ∧ w.cell? ⟨b, 1, none⟩ = some y ∧ w.cell? ⟨b, 2, none⟩ = some z ∧ w.cell? ⟨b, 3, none⟩ = some u := by
  refine ⟨?_, ?_, ?_, ?_⟩
  · rw [cell_of_row w _ 0 _ _ _ h]; rfl
  · rw [cell_of_row w _ 1 _ _ _ h]; rfl
  · rw [cell_of_row w _ 2 _ _ _ h]; rfl
  · rw [cell_of_row w _ 3 _ _ _ h]; rfl

theorem S4.frz {w : World} {b : Nat} {x y z u : Value} (h : S4 w b x y z u) : w.frozen? ⟨b, 0, none⟩ = false ∧ w.frozen? ⟨b, 1, none⟩ = false ∧ w.frozen? ⟨b, 2, none⟩ = false ∧ w.frozen? ⟨b, 3, none⟩ = false :=
  ⟨frozen_of_row w _ 0 _ _ h, frozen_of_row w _ 1 _ _ h, frozen_of_row w _ 2 _ _ h, frozen_of_row w _ 3 _ _ h⟩

theorem S4.new (w : World) (x y z u : Value) : S4 (w.alloc (.cells #[x, y, z, u] 85)) w.heap.size x y z u := heap_alloc_new w _
theorem S4.alloc {w : World} {b : Nat} {x y z u : Value} (h : S4 w b x y z u) (o : Obj) : S4 (w.alloc o) b x y z u := by
  unfold S4; rw [Below.heap_alloc _ _ _ h.lt]; exact h
theorem S4.up {w w' : World} {b : Nat} {x y z u : Value} (h : S4 w b x y z u) (hb : Below w.heap.size w w') : S4 w' b x y z u := by
  unfold S4; rw [hb.block b h.lt]; exact h
theorem S4.to {w w' : World} {b B : Nat} {x y z u : Value} (h : S4 w b x y z u) (hl : b < B) (hb : Below B w w') : S4 w' b x y z u := by
  unfold S4; rw [hb.block b hl]; exact h

theorem S4.set0 {w : World} {b : Nat} {x y z u : Value} (h : S4 w b x y z u) (v : Value) : S4 (w.setCell ⟨b, 0, none⟩ v) b v y z u := by unfold S4; rw [heap_setCell_same w b 0 _ _ _ h]; rfl
theorem S4.set1 {w : World} {b : Nat} {x y z u : Value} (h : S4 w b x y z u) (v : Value) : S4 (w.setCell ⟨b, 1, none⟩ v) b x v z u := by unfold S4; rw [heap_setCell_same w b 1 _ _ _ h]; rfl
theorem S4.set2 {w : World} {b : Nat} {x y z u : Value} (h : S4 w b x y z u) (v : Value) : S4 (w.setCell ⟨b, 2, none⟩ v) b x y v u := by unfold S4; rw [heap_setCell_same w b 2 _ _ _ h]; rfl
theorem S4.set3 {w : World} {b : Nat} {x y z u : Value} (h : S4 w b x y z u) (v : Value) : S4 (w.setCell ⟨b, 3, none⟩ v) b x y z v := by unfold S4; rw [heap_setCell_same w b 3 _ _ _ h]; rfl
theorem S4.other {w : World} {b : Nat} {x y z u : Value} (h : S4 w b x y z u) {a : Addr} (ha : b ≠ a.block) (v : Value) : S4 (w.setCell a v) b x y z u := by
  unfold S4; rw [Below.heap_setCell _ _ _ _ ha]; exact h

/-- All is as it was but for block g. -/
structure Oth (g : Nat) (w0 wr : World) : Prop where
  os : wr.os = w0.os
  tape : wr.tape = w0.tape
  output : wr.output = w0.output
  size : wr.heap.size = w0.heap.size
  block : ∀ b, b ≠ g → wr.heap[b]? = w0.heap[b]?

theorem Oth.refl (g : Nat) (w : World) : Oth g w w := ⟨rfl, rfl, rfl, rfl, fun _ _ => rfl⟩
theorem Oth.set {g : Nat} {w0 wr : World} (h : Oth g w0 wr) (j : Nat) (u : Value) : Oth g w0 (wr.setCell ⟨g, j, none⟩ u) :=
  ⟨h.os, h.tape, h.output, by rw [← h.size]; simp [World.setCell], fun b hb => by rw [Below.heap_setCell _ _ _ _ hb]; exact h.block b hb⟩
theorem Oth.cell {g : Nat} {w0 wr : World} (h : Oth g w0 wr) {a : Addr} (ha : a.block ≠ g) : wr.cell? a = w0.cell? a := World.cell?_of_block (w := w0) (h.block _ ha)
theorem Oth.s4 {g : Nat} {w0 wr : World} (h : Oth g w0 wr) {b : Nat} {x y z u : Value} (hs : S4 w0 b x y z u) (hb : b ≠ g) : S4 wr b x y z u := by
  unfold S4; rw [h.block b hb]; exact hs
theorem Oth.below {g B : Nat} {w0 wr : World} (h : Oth g w0 wr) (hg : B ≤ g) : Below B w0 wr :=
  ⟨h.os, h.tape, h.output, by rw [h.size]; exact Nat.le_refl _, fun b hb => h.block b (by omega)⟩

theorem Tryz.infoM : (Tryz.prog.info? 85).map (·.size) = some 4 := by kernel_rfl
theorem Tryz.underM : Tryz.prog.underlying 85 = some (.struct (Tryz.prog.underlying 85 |>.map (fun | .struct f => f | _ => #[]) |>.getD #[])) := by kernel_rfl

theorem S4.there {w : World} {b : Nat} {x y z u : Value} (h : S4 w b x y z u) : w.there b 0 4 := by
  intro j hj
  obtain ⟨c0, c1, c2, c3⟩ := h.cells
  obtain ⟨f0, f1, f2, f3⟩ := h.frz
  rw [Nat.zero_add]
  match j, hj with
  | 0, _ => exact ⟨by rw [c0]; rfl, f0⟩
  | 1, _ => exact ⟨by rw [c1]; rfl, f1⟩
  | 2, _ => exact ⟨by rw [c2]; rfl, f2⟩
  | 3, _ => exact ⟨by rw [c3]; rfl, f3⟩

theorem S4.range {w : World} {b : Nat} {x y z u : Value} (h : S4 w b x y z u) : w.rangeAt b 0 [x, y, z, u] := by
  obtain ⟨c0, c1, c2, c3⟩ := h.cells
  intro j v hv
  rw [Nat.zero_add]
  match j, hv with
  | 0, hv => cases hv; exact c0
  | 1, hv => cases hv; exact c1
  | 2, hv => cases hv; exact c2
  | 3, hv => cases hv; exact c3

/-- A mark stored whole into a variable. -/
theorem wpList_store4 {ops : Array Oper} {rest : List Oper} {op : Oper} {a : Act} {w : World} {Q : Exit → Act → World → Prop} (hgd : op.guard = none) (x y : Operand) (ho : op.op = .store 85 x y)
    (b : Nat) (p q r s : Value) (hx : a.eval x = .pointer (some ⟨b, 0, none⟩)) (hy : a.eval y = .agg #[p, q, r, s]) {x0 y0 z0 u0 : Value} (hS : S4 w b x0 y0 z0 u0)
    (h1 : p.oneCell' = true ∧ q.oneCell' = true ∧ r.oneCell' = true ∧ s.oneCell' = true) (h : ∀ w', S4 w' b p q r s → Oth b w w' → wpList Tryz.prog ops Q rest (a.put op.dst undef) w') : wpList Tryz.prog ops Q (op :: rest) a w :=
  wpList_store_mid hgd 85 x y ho b 0 #[p, q, r, s] hx hy hS.there Tryz.infoM
    (all_oneCell_toArray (cs := [p, q, r, s]) (by intro v hv; simp only [List.mem_cons, List.not_mem_nil, or_false] at hv; rcases hv with rfl | rfl | rfl | rfl <;> first | exact h1.1 | exact h1.2.1 | exact h1.2.2.1 | exact h1.2.2.2))
    (h _ ((((hS.set0 p).set1 q).set2 r).set3 s) (((((Oth.refl b w).set 0 p).set 1 q).set 2 r).set 3 s))

/-- A mark loaded whole. -/
theorem wpList_load4 {ops : Array Oper} {rest : List Oper} {op : Oper} {a : Act} {w : World} {Q : Exit → Act → World → Prop} (hgd : op.guard = none) (x : Operand) (ho : op.op = .load 85 x)
    (b : Nat) (hx : a.eval x = .pointer (some ⟨b, 0, none⟩)) {p q r s : Value} (hS : S4 w b p q r s)
    (h : wpList Tryz.prog ops Q rest (a.put op.dst (.agg #[p, q, r, s])) w) : wpList Tryz.prog ops Q (op :: rest) a w :=
  wpList_load_mid hgd 85 x ho b 0 hx [p, q, r, s] _ hS.range Tryz.underM rfl Tryz.infoM h

/-- One field of a mark stored. -/
theorem wpList_store1 {ops : Array Oper} {rest : List Oper} {op : Oper} {a : Act} {w : World} {Q : Exit → Act → World → Prop} (hgd : op.guard = none) (t : TypeId) (x y : Operand) (ho : op.op = .store t x y)
    (b j : Nat) (v : Value) (hx : a.eval x = .pointer (some ⟨b, j, none⟩)) (hy : a.eval y = v) (hv : v.oneCell' = true) (hs : (storeVar t ⟨b, j, none⟩ v).run Tryz.prog w = (store ⟨b, j, none⟩ v).run Tryz.prog w)
    (hc : (w.cell? ⟨b, j, none⟩).isSome = true) (hf : w.frozen? ⟨b, j, none⟩ = false) (h : wpList Tryz.prog ops Q rest (a.put op.dst undef) (w.setCell ⟨b, j, none⟩ v)) : wpList Tryz.prog ops Q (op :: rest) a w := by
  refine wpList_plain hgd fun K hK => ?_
  obtain ⟨u, hu⟩ := Option.isSome_iff_exists.1 hc
  unfold Oper.wp execOp
  simp only [ho, hx, hy, Instr.storeAt, Instr.sureAddr, Sem.run_bind, Sem.run_pure, Result.andThen_ok, hs, run_store _ _ _ _ _ hv, hu, hf, Bool.false_eq_true, if_false]
  exact hK _ _ h

theorem two4 (w : World) (x y z u x' y' z' u' : Value) : S4 ((w.alloc (.cells #[x, y, z, u] 85)).alloc (.cells #[x', y', z', u'] 85)) w.heap.size x y z u ∧ S4 ((w.alloc (.cells #[x, y, z, u] 85)).alloc (.cells #[x', y', z', u'] 85)) (w.heap.size + 1) x' y' z' u' := by
  refine ⟨(S4.new w x y z u).alloc _, ?_⟩
  have := S4.new (w.alloc (.cells #[x, y, z, u] 85)) x' y' z' u'
  simpa using this

theorem below_alloc (w : World) (o : Obj) : Below w.heap.size w (w.alloc o) := Below.alloc (Below.refl _ _) (Nat.le_refl _) _
theorem Below.thn {a b c : World} (h : Below a.heap.size a b) (k : Below b.heap.size b c) : Below a.heap.size a c := h.trans (k.mono h.size)
theorem below_two (w : World) (o o' : Obj) : Below w.heap.size w ((w.alloc o).alloc o') := (below_alloc w o).trans ((below_alloc _ _).mono (by simp))

abbrev z4 : Obj := .cells #[.int .i64 0, .string ⟨#[]⟩, .complex .f64 0 0, .int .i64 0] 85

set_option maxHeartbeats 1000000 in
theorem runMark_word (l : List UInt8) (k : Nat) (h : isWd l = true) (w : World) (hG : Gl w) :
    Calls Tryz.prog 30 #[.string (bs l), .int .i64 k] w fun e w' => e = .returned (.tuple #[mkV ⟨1, l, 0, 0, k⟩, .bool true]) ∧ Below w.heap.size w w' := by
  have hr := fun w hG => reserved_any l w hG
  rw [h] at hr
  obtain ⟨s1, s2⟩ := two4 w (.int .i64 0) (.string ⟨#[]⟩) (.complex .f64 0 0) (.int .i64 0) (.int .i64 0) (.string ⟨#[]⟩) (.complex .f64 0 0) (.int .i64 0)
  have b2 := below_two w z4 z4
  go_enter Tryz.func30, Tryz.ntmps30
  go_wp2_with (first
    | (refine wpList_store4 rfl (.tmp 6) (.tmp 11) rfl (w.heap.size + 1) _ _ _ _ rfl rfl s2 ⟨rfl, rfl, rfl, rfl⟩ ?_; intro w1 s3 oth; have s4 := oth.s4 s1 (by omega); have hb := b2.trans (oth.below (Nat.le_succ _)); clear s1 s2 oth b2; have s5 := s3.set0 (.int .i64 1); have s6 := s4.other (a := ⟨w.heap.size + 1, 0, none⟩) (by simp) (.int .i64 1); obtain ⟨c0, c1, c2, c3⟩ := s3.cells; obtain ⟨f0, f1, f2, f3⟩ := s3.frz)
    | (go_at_call 45; refine (hr _ (hG.up hb)).mono ?_; rintro e w' ⟨rfl, rfl⟩)
    | (refine wpList_load4 rfl (.tmp 6) rfl (w.heap.size + 1) rfl s5 ?_)
    | (refine wpList_store4 rfl (.tmp 4) (.tmp 37) rfl (w.heap.size) _ _ _ _ rfl rfl s6 ⟨rfl, rfl, rfl, rfl⟩ ?_; intro w2 s7 oth2; obtain ⟨q0, q1, q2, q3⟩ := s7.cells))
  refine bodyPost_ret (v := .tuple #[mkV ⟨1, l, 0, 0, k⟩, .bool true]) (by simp [results, Tryz.results30, go_sem, q0, q1, q2, q3, mkV, fl_zero]) rfl ⟨rfl, ?_⟩
  exact (hb.setCell (Nat.le_succ _) _).trans (oth2.below (Nat.le_refl _))

theorem agg_cplx (w : World) : (isAgg 38).run Tryz.prog w = .ok false w := by
  unfold isAgg
  rw [Sem.run_bind, run_underlying (show Tryz.prog.underlying 38 = some (.complex .f64) by kernel_rfl) w]
  rfl
theorem sv_cplx (a : Addr) (x y : Nat) (w : World) : (storeVar 38 a (.complex .f64 x y)).run Tryz.prog w = (store a (.complex .f64 x y)).run Tryz.prog w := by
  unfold storeVar
  simp [Sem.run_bind, Value.cells, storeCells, Addr.add]

theorem bs_pos (c : UInt8) (r : List UInt8) : 0 < (bs (c :: r)).size := by rw [bs_size]; simp
theorem bs_get0 (c : UInt8) (r : List UInt8) (h : 0 < (bs (c :: r)).size) : (bs (c :: r))[0] = c := rfl

set_option maxHeartbeats 1000000 in
theorem runMark_name (c : UInt8) (r : List UInt8) (k : Nat) (h : isWd (c :: r) = false) (hd : isDg c = false) (hlt : isLt c = true) (w : World) (hG : Gl w) :
    Calls Tryz.prog 30 #[.string (bs (c :: r)), .int .i64 k] w fun e w' => e = .returned (.tuple #[mkV ⟨0, c :: r, 0, 0, k⟩, .bool true]) ∧ Below w.heap.size w w' := by
  have hr := fun w hG => reserved_any (c :: r) w hG
  have h0 := bs_pos c r
  have h1 := fun w => isDigit_any ((bs (c :: r))[0]) w
  have h2 := fun w => isLetter_any ((bs (c :: r))[0]) w
  rw [h] at hr
  rw [show isDg ((bs (c :: r))[0]) = _ from hd] at h1
  rw [show isLt ((bs (c :: r))[0]) = _ from hlt] at h2
  obtain ⟨s1, s2⟩ := two4 w (.int .i64 0) (.string ⟨#[]⟩) (.complex .f64 0 0) (.int .i64 0) (.int .i64 0) (.string ⟨#[]⟩) (.complex .f64 0 0) (.int .i64 0)
  have b2 := below_two w z4 z4
  go_enter Tryz.func30, Tryz.ntmps30
  go_wp2_with (first
    | (refine wpList_store4 rfl (.tmp 6) (.tmp 11) rfl (w.heap.size + 1) _ _ _ _ rfl rfl s2 ⟨rfl, rfl, rfl, rfl⟩ ?_; intro w1 s3 oth; have s4 := oth.s4 s1 (by omega); have hb := b2.trans (oth.below (Nat.le_succ _)); clear s1 s2 oth b2)
    | (go_at_call 45; refine (hr _ (hG.up hb)).mono ?_; rintro e w' ⟨rfl, rfl⟩)
    | (go_at_call 44; refine (h1 _).mono ?_; rintro e w' ⟨rfl, rfl⟩)
    | (go_at_call 43; refine (h2 _).mono ?_; rintro e w' ⟨rfl, rfl⟩)
    | (refine wpList_load4 rfl (.tmp 6) rfl (w.heap.size + 1) rfl s3 ?_)
    | (refine wpList_store4 rfl (.tmp 4) (.tmp 37) rfl (w.heap.size) _ _ _ _ rfl rfl s4 ⟨rfl, rfl, rfl, rfl⟩ ?_; intro w2 s7 oth2; obtain ⟨q0, q1, q2, q3⟩ := s7.cells))
  refine bodyPost_ret (v := .tuple #[mkV ⟨0, c :: r, 0, 0, k⟩, .bool true]) (by simp [results, Tryz.results30, go_sem, q0, q1, q2, q3, mkV, fl_zero]) rfl ⟨rfl, ?_⟩
  exact hb.trans (oth2.below (Nat.le_refl _))

set_option maxHeartbeats 1000000 in
theorem runMark_none (c : UInt8) (r : List UInt8) (k : Nat) (h : isWd (c :: r) = false) (hd : isDg c = false) (hlt : isLt c = false) (w : World) (hG : Gl w) :
    Calls Tryz.prog 30 #[.string (bs (c :: r)), .int .i64 k] w fun e w' => e = .returned (.tuple #[mk0, .bool false]) ∧ Below w.heap.size w w' := by
  have hr := fun w hG => reserved_any (c :: r) w hG
  have h0 := bs_pos c r
  have h1 := fun w => isDigit_any ((bs (c :: r))[0]) w
  have h2 := fun w => isLetter_any ((bs (c :: r))[0]) w
  rw [h] at hr
  rw [show isDg ((bs (c :: r))[0]) = _ from hd] at h1
  rw [show isLt ((bs (c :: r))[0]) = _ from hlt] at h2
  obtain ⟨s1, s2⟩ := two4 w (.int .i64 0) (.string ⟨#[]⟩) (.complex .f64 0 0) (.int .i64 0) (.int .i64 0) (.string ⟨#[]⟩) (.complex .f64 0 0) (.int .i64 0)
  have b2 := below_two w z4 z4
  go_enter Tryz.func30, Tryz.ntmps30
  go_wp2_with (first
    | (refine wpList_store4 rfl (.tmp 6) (.tmp 11) rfl (w.heap.size + 1) _ _ _ _ rfl rfl s2 ⟨rfl, rfl, rfl, rfl⟩ ?_; intro w1 s3 oth; have s4 := oth.s4 s1 (by omega); have hb := b2.trans (oth.below (Nat.le_succ _)); clear s1 s2 oth b2)
    | (go_at_call 45; refine (hr _ (hG.up hb)).mono ?_; rintro e w' ⟨rfl, rfl⟩)
    | (go_at_call 44; refine (h1 _).mono ?_; rintro e w' ⟨rfl, rfl⟩)
    | (go_at_call 43; refine (h2 _).mono ?_; rintro e w' ⟨rfl, rfl⟩)
    | (refine wpList_store4 rfl (.tmp 4) (.tmp 36) rfl (w.heap.size) _ _ _ _ rfl rfl s4 ⟨rfl, rfl, rfl, rfl⟩ ?_; intro w2 s7 oth2; obtain ⟨q0, q1, q2, q3⟩ := s7.cells))
  refine bodyPost_ret (v := .tuple #[mk0, .bool false]) (by simp [results, Tryz.results30, go_sem, q0, q1, q2, q3, mk0]) rfl ⟨rfl, ?_⟩
  exact hb.trans (oth2.below (Nat.le_refl _))

set_option maxHeartbeats 1000000 in
theorem runMark_bad (c : UInt8) (r : List UInt8) (k : Nat) (h : isWd (c :: r) = false) (hd : isDg c = true) (hok : rdOk (c :: r) = false) (hlen : (c :: r).length ≤ 281474976710656) (w : World) (hG : Gl w) (hE : Env w) :
    Calls Tryz.prog 30 #[.string (bs (c :: r)), .int .i64 k] w fun e w' => e = .returned (.tuple #[mk0, .bool false]) ∧ Below w.heap.size w w' := by
  have hr := fun w hG => reserved_any (c :: r) w hG
  have h0 := bs_pos c r
  have h1 := fun w => isDigit_any ((bs (c :: r))[0]) w
  have h2 := fun w hE => parse_any (c :: r) hlen w hE
  rw [h] at hr
  rw [show isDg ((bs (c :: r))[0]) = _ from hd] at h1
  have e1 : rdE (c :: r) = 10 := by unfold rdE; rw [hok]; rfl
  rw [e1] at h2
  obtain ⟨s1, s2⟩ := two4 w (.int .i64 0) (.string ⟨#[]⟩) (.complex .f64 0 0) (.int .i64 0) (.int .i64 0) (.string ⟨#[]⟩) (.complex .f64 0 0) (.int .i64 0)
  have b2 := below_two w z4 z4
  go_enter Tryz.func30, Tryz.ntmps30
  go_wp2_with (first
    | (refine wpList_store4 rfl (.tmp 6) (.tmp 11) rfl (w.heap.size + 1) _ _ _ _ rfl rfl s2 ⟨rfl, rfl, rfl, rfl⟩ ?_; intro w1 s3 oth; have s4 := oth.s4 s1 (by omega); have hb := b2.trans (oth.below (Nat.le_succ _)); clear s1 s2 oth b2)
    | (go_at_call 45; refine (hr _ (hG.up hb)).mono ?_; rintro e w' ⟨rfl, rfl⟩)
    | (go_at_call 44; refine (h1 _).mono ?_; rintro e w' ⟨rfl, rfl⟩)
    | (go_at_call 46; refine (h2 _ (env_keep hE hb)).mono ?_; rintro e w3 ⟨rfl, hb3⟩; have s5 := s4.up hb3; have hB := Below.thn hb hb3)
    | (refine wpList_store4 rfl (.tmp 4) (.tmp 27) rfl (w.heap.size) _ _ _ _ rfl rfl s5 ⟨rfl, rfl, rfl, rfl⟩ ?_; intro w2 s7 oth2; obtain ⟨q0, q1, q2, q3⟩ := s7.cells))
  refine bodyPost_ret (v := .tuple #[mk0, .bool false]) (by simp [results, Tryz.results30, go_sem, q0, q1, q2, q3, mk0]) rfl ⟨rfl, ?_⟩
  exact hB.trans (oth2.below (Nat.le_refl _))

set_option maxHeartbeats 1000000 in
theorem runMark_num (c : UInt8) (r : List UInt8) (k : Nat) (h : isWd (c :: r) = false) (hd : isDg c = true) (hok : rdOk (c :: r) = true) (hlen : (c :: r).length ≤ 281474976710656) (w : World) (hG : Gl w) (hE : Env w) :
    Calls Tryz.prog 30 #[.string (bs (c :: r)), .int .i64 k] w fun e w' => e = .returned (.tuple #[mkV ⟨2, c :: r, rdP (c :: r), rdQ (c :: r), k⟩, .bool true]) ∧ Below w.heap.size w w' := by
  have hr := fun w hG => reserved_any (c :: r) w hG
  have h0 := bs_pos c r
  have h1 := fun w => isDigit_any ((bs (c :: r))[0]) w
  have h2 := fun w hE => parse_any (c :: r) hlen w hE
  rw [h] at hr
  rw [show isDg ((bs (c :: r))[0]) = _ from hd] at h1
  have e1 : rdE (c :: r) = 0 := by unfold rdE; rw [hok]; rfl
  rw [e1] at h2
  obtain ⟨s1, s2⟩ := two4 w (.int .i64 0) (.string ⟨#[]⟩) (.complex .f64 0 0) (.int .i64 0) (.int .i64 0) (.string ⟨#[]⟩) (.complex .f64 0 0) (.int .i64 0)
  have b2 := below_two w z4 z4
  go_enter Tryz.func30, Tryz.ntmps30
  go_wp2_with (first
    | (refine wpList_store4 rfl (.tmp 6) (.tmp 11) rfl (w.heap.size + 1) _ _ _ _ rfl rfl s2 ⟨rfl, rfl, rfl, rfl⟩ ?_; intro w1 s3 oth; have s4 := oth.s4 s1 (by omega); have hb := b2.trans (oth.below (Nat.le_succ _)); clear s1 s2 oth b2)
    | (go_at_call 45; refine (hr _ (hG.up hb)).mono ?_; rintro e w' ⟨rfl, rfl⟩)
    | (go_at_call 44; refine (h1 _).mono ?_; rintro e w' ⟨rfl, rfl⟩)
    | (go_at_call 46; refine (h2 _ (env_keep hE hb)).mono ?_; rintro e w3 ⟨rfl, hb3⟩; have s5 := s4.up hb3; have s6 := s3.up hb3; have hB := Below.thn hb hb3; have t5 := s6.set0 (.int .i64 2); have t6 := t5.set2 (.complex .f64 (fl (rdP (c :: r))) (fl (rdQ (c :: r)))); have u6 := (s5.other (a := ⟨w.heap.size + 1, 0, none⟩) (by simp) (.int .i64 2)).other (a := ⟨w.heap.size + 1, 2, none⟩) (by simp) (.complex .f64 (fl (rdP (c :: r))) (fl (rdQ (c :: r)))); obtain ⟨c0, c1, c2, c3⟩ := s6.cells; obtain ⟨f0, f1, f2, f3⟩ := s6.frz)
    | (refine wpList_store1 rfl 38 (.tmp 30) (.tmp 28) rfl (w.heap.size + 1) 2 (.complex .f64 (fl (rdP (c :: r))) (fl (rdQ (c :: r)))) rfl rfl rfl (sv_cplx _ _ _ _) (by rw [t5.cells.2.2.1]; rfl) t5.frz.2.2.1 ?_)
    | (refine wpList_load4 rfl (.tmp 6) rfl (w.heap.size + 1) rfl t6 ?_)
    | (refine wpList_store4 rfl (.tmp 4) (.tmp 37) rfl (w.heap.size) _ _ _ _ rfl rfl u6 ⟨rfl, rfl, rfl, rfl⟩ ?_; intro w2 s7 oth2; obtain ⟨q0, q1, q2, q3⟩ := s7.cells))
  refine bodyPost_ret (v := .tuple #[mkV ⟨2, c :: r, rdP (c :: r), rdQ (c :: r), k⟩, .bool true]) (by simp [results, Tryz.results30, go_sem, q0, q1, q2, q3, mkV]) rfl ⟨rfl, ?_⟩
  exact ((hB.setCell (Nat.le_succ _) _).setCell (Nat.le_succ _) _).trans (oth2.below (Nat.le_refl _))

/-- A mark, or none, as two answers. -/
def optV : Option Mk → Array Value
  | some m => #[mkV m, .bool true]
  | none => #[mk0, .bool false]

theorem runMark_any (l : List UInt8) (k : Nat) (hl : l ≠ []) (hlen : l.length ≤ 281474976710656) (w : World) (hG : Gl w) (hE : Env w) :
    Calls Tryz.prog 30 #[.string (bs l), .int .i64 k] w fun e w' => e = .returned (.tuple (optV (runM rdN l k))) ∧ Below w.heap.size w w' := by
  by_cases h : isWd l = true
  · have e : runM rdN l k = some ⟨1, l, 0, 0, k⟩ := by unfold runM; rw [if_pos h]
    rw [e]
    exact runMark_word l k h w hG
  · have h' : isWd l = false := by simpa using h
    cases l with
    | nil => exact absurd rfl hl
    | cons c r =>
      by_cases hd : isDg c = true
      · by_cases hok : rdOk (c :: r) = true
        · have e : runM rdN (c :: r) k = some ⟨2, c :: r, rdP (c :: r), rdQ (c :: r), k⟩ := by unfold runM; rw [if_neg h]; dsimp only; rw [if_pos hd, if_pos (show rdN.ok (c :: r) = true from hok)]; rfl
          rw [e]
          exact runMark_num c r k h' hd hok hlen w hG hE
        · have e : runM rdN (c :: r) k = none := by unfold runM; rw [if_neg h]; dsimp only; rw [if_pos hd, if_neg (show ¬ rdN.ok (c :: r) = true from hok)]
          rw [e]
          exact runMark_bad c r k h' hd (by simpa using hok) hlen w hG hE
      · by_cases ha : isLt c = true
        · have e : runM rdN (c :: r) k = some ⟨0, c :: r, 0, 0, k⟩ := by unfold runM; rw [if_neg h]; dsimp only; rw [if_neg hd, if_pos ha]
          rw [e]
          exact runMark_name c r k h' (by simpa using hd) ha w hG
        · have e : runM rdN (c :: r) k = none := by unfold runM; rw [if_neg h]; dsimp only; rw [if_neg hd, if_neg ha]
          rw [e]
          exact runMark_none c r k h' (by simpa using hd) (by simpa using ha) w hG
end Go.Proofs.YtndgglhppoijnaaGreatDoor
