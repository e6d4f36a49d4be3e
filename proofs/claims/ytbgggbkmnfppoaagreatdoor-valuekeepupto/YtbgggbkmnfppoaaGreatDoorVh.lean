/-
  A builder: copyCheck, WriteString, String.
-/
import Derived.Test.YtbgggbkmnfppoaaGreatDoorVg
import Derived.Test.YtbgggbkmnfppoaaGreatDoorPn
import Derived.Lib.Builder
import Derived.Lib.AppendStr
import Derived.Lib.UnsafeStr
import Derived.Lib.Walk
import Derived.WalkKit
import Derived.Laws.Externs
import Derived.RegionTactic
namespace Go.Proofs.YtbgggbkmnfppoaaGreatDoor
open Go.RowKit
set_option maxRecDepth 100000

/-- The writer at block b has written these bytes; its block and its row lie from B on. -/
def Wr5 (B b : Nat) (l : List UInt8) (w : World) : Prop := Lib.IsBuilder 89 5 B b (Lib.byteCells l) w
/-- What stays: what lies below B; every block of other things than bytes but the writer's own. -/
structure Kp (B b : Nat) (w w' : World) : Prop where
  low : Below B w w'
  own : ∀ c cs t fz, w.heap[c]? = some (.cells cs t fz) → t ≠ 5 → c ≠ b → w'.heap[c]? = w.heap[c]?
theorem Kp.refl (B b : Nat) (w : World) : Kp B b w w := ⟨Below.refl _ _, fun _ _ _ _ _ _ _ => rfl⟩
theorem Kp.trans {B b : Nat} {w1 w2 w3 : World} (h : Kp B b w1 w2) (k : Kp B b w2 w3) : Kp B b w1 w3 :=
  ⟨h.low.trans k.low, fun c cs t fz e ht hc => by
    have e1 := h.own c cs t fz e ht hc
    rw [k.own c cs t fz (e1.trans e) ht hc, e1]⟩
theorem Kp.size {B b : Nat} {w w' : World} (h : Kp B b w w') : w.heap.size ≤ w'.heap.size := h.low.size
theorem heap_lt {w : World} {c : Nat} {o : Obj} (h : w.heap[c]? = some o) : c < w.heap.size := by
  rcases Nat.lt_or_ge c w.heap.size with k | k
  · exact k
  · rw [Array.getElem?_eq_none k] at h; cases h
theorem Kp.of_up {B b : Nat} {w w' : World} (h : Below w.heap.size w w') (hB : B ≤ w.heap.size) : Kp B b w w' :=
  ⟨h.mono hB, fun c _ _ _ e _ _ => h.block c (heap_lt e)⟩
theorem Wr5.up {B b : Nat} {l : List UInt8} {w w' : World} (h : Wr5 B b l w) (hb : Below w.heap.size w w') : Wr5 B b l w' := by
  have one : ∀ p, Lib.BuilderAt 89 5 B b p (Lib.byteCells l) w → Lib.BuilderAt 89 5 B b p (Lib.byteCells l) w' := by
    rintro p ⟨h1, v, h2, h3, h4⟩
    refine ⟨h1, v, by rw [hb.block b (heap_lt h2)]; exact h2, ?_, h4⟩
    refine ⟨h3.1, ?_⟩
    rcases h3.2 with h' | ⟨g, cap, cur, e1, e2, e3, e4⟩
    · exact .inl h'
    · exact .inr ⟨g, cap, cur, e1, e2, by rw [hb.block g (heap_lt e3)]; exact e3, e4⟩
  rcases h with h | h
  · exact .inl (one _ h)
  · exact .inr (one _ h)
theorem Wr5.lt {B b : Nat} {l : List UInt8} {w : World} (h : Wr5 B b l w) : b < w.heap.size := by
  rcases h with h | h
  · exact h.lt
  · exact h.lt
theorem Wr5.ge {B b : Nat} {l : List UInt8} {w : World} (h : Wr5 B b l w) : B ≤ b := by
  rcases h with h | h
  · exact h.1
  · exact h.1
theorem Wr5.new (w : World) : Wr5 w.heap.size w.heap.size [] (w.alloc (.cells #[.pointer none, .slice none 0 0] 89)) := Lib.fresh_isBuilder _ _ w
theorem Kp.set {B b : Nat} {w w' : World} (h : Kp B b w w') (hb : B ≤ b) (j : Nat) (v : Value) : Kp B b w (w'.setCell ⟨b, j, none⟩ v) :=
  ⟨h.low.setCell (p := ⟨b, j, none⟩) hb _, fun c cs t fz e ht hc => by
    rw [Below.heap_setCell w' ⟨b, j, none⟩ v c (fun e => hc (by simpa using e))]
    exact h.own c cs t fz e ht hc⟩

theorem Tryz.infoB : (Tryz.prog.info? 5).map (fun i => (i.zero, i.size, i.bytes)) = some (some (.int .u8 0), 1, 1) := by kernel_rfl
theorem Tryz.underBs : Tryz.prog.underlying 55 = some (.slice 5) := by kernel_rfl
theorem Tryz.ptrB : Tryz.prog.underlying 87 = some (.pointer 89) := by kernel_rfl
theorem Tryz.unsP : Tryz.prog.underlying 121 = some .unsafePointer := by kernel_rfl
theorem Tryz.sizeSB : (Tryz.prog.info? 89).map (·.size) = some 2 := by kernel_rfl
theorem Tryz.liesSB : liesAt Tryz.prog Tryz.prog.depth 89 (2 / Tryz.prog.cellsOf 89) 0 89 1 = true := by kernel_rfl
theorem Tryz.strU : Tryz.prog.underlying 9 = some .string := by kernel_rfl

set_option maxHeartbeats 1000000 in
theorem copyCheck_w {B b : Nat} {l : List UInt8} {w : World} (h : Wr5 B b l w) :
    Calls Tryz.prog 61 #[.pointer (some ⟨b, 0, none⟩)] w fun e w' => e = .returned (.tuple #[]) ∧ Lib.BuilderAt 89 5 B b (.pointer (some ⟨b, 0, none⟩)) (Lib.byteCells l) w' ∧ (w' = w ∨ w' = w.setCell ⟨b, 0, none⟩ (.pointer (some ⟨b, 0, none⟩))) := by
  obtain ⟨j, hj, hjs⟩ := Option.map_eq_some_iff.1 Tryz.sizeSB
  rcases h with h | h
  · have h0 := h.cell0
    have hsh := h.shape
    have hfz := h.frozen0
    have hend : Lib.BuilderAt 89 5 B b (.pointer (some ⟨b, 0, none⟩)) (Lib.byteCells l) (w.setCell ⟨b, 0, none⟩ (.pointer (some ⟨b, 0, none⟩))) := h.used _
    have H : Hid (Lib.BuilderAt 89 5 B b (.pointer (some ⟨b, 0, none⟩)) (Lib.byteCells l) (w.setCell ⟨b, 0, none⟩ (.pointer (some ⟨b, 0, none⟩)))) := hend
    clear hend h
    go_enter Tryz.func61, Tryz.ntmps61
    go_wp2
    rw [Lib.run_to_unsafe w ⟨b, 0, none⟩ Tryz.ptrB Tryz.unsP hj (by rw [hjs]; decide) hsh (Nat.zero_lt_succ 1)]
    simp only [Result.andThen]
    rw [Oper.upon_value]
    go_wp2
    rw [run_callFunc_extern Tryz.func78 (by kernel_rfl) (by kernel_rfl) (by kernel_rfl) (e := Extern.AbiNoEscape.same) (by kernel_rfl)]
    rw [Lib.run_noEscape]
    simp only [Result.andThen]
    rw [Oper.upon_value]
    go_wp2
    rw [Lib.run_from_unsafe w ⟨b, 0, none⟩ Tryz.unsP Tryz.ptrB hj hsh Tryz.liesSB]
    simp only [Result.andThen]
    rw [Oper.upon_value]
    go_wp2
    go_end0
    exact ⟨rfl, H, .inr rfl⟩
  · have h0 := h.cell0
    have H : Hid (Lib.BuilderAt 89 5 B b (.pointer (some ⟨b, 0, none⟩)) (Lib.byteCells l) w) := h
    clear h
    go_enter Tryz.func61, Tryz.ntmps61
    go_wp2
    rw [Lib.run_neq_ptr_same w _ Tryz.ptrB hj]
    go_wp2
    go_end0
    exact ⟨rfl, H, .inl rfl⟩

/-- What a call that writes leaves. -/
def WrE (B b : Nat) (l : List UInt8) (w : World) (e : Ending) (w' : World) : Prop := e = .returned (.tuple #[]) ∧ Wr5 B b l w' ∧ Kp B b w w'

set_option maxHeartbeats 2000000 in
theorem writeString_w {B b : Nat} {l : List UInt8} {w : World} (h : Wr5 B b l w) (s : List UInt8) (hlen : l.length + s.length ≤ 140737488355328) (hBw : B ≤ w.heap.size) :
    Calls Tryz.prog 44 #[.pointer (some ⟨b, 0, none⟩), .string (bs s)] w fun e w' => e = .returned (.tuple #[.int .i64 s.length, .nilIface]) ∧ Wr5 B b (l ++ s) w' ∧ Kp B b w w' := by
  obtain ⟨i0, hi, hz⟩ := Option.map_eq_some_iff.1 Tryz.infoB
  have hz0 : i0.zero = some (.int .u8 0) := by simp only [Prod.mk.injEq] at hz; exact hz.1
  have hz1 : i0.size = 1 := by simp only [Prod.mk.injEq] at hz; exact hz.2.1
  have hz2 : i0.bytes = 1 := by simp only [Prod.mk.injEq] at hz; exact hz.2.2
  clear hz
  have hsz : (bs s).size = s.length := bs_size s
  have hsc : Lib.strCells (bs s) = Lib.byteCells s := by rw [Lib.strCells_eq, bs_list]
  have HH : Hid (Wr5 B b l w) := h
  clear h
  go_enter Tryz.func44, Tryz.ntmps44
  go_wp2_with (go_at_call 61; refine (copyCheck_w (show Wr5 B b l w from HH)).mono ?_)
  rintro e w1 ⟨rfl, h1, hw1⟩
  have hK1 : Kp B b w w1 := by
    rcases hw1 with rfl | rfl
    · exact Kp.refl _ _ _
    · exact (Kp.refl B b w).set h1.1 0 _
  clear hw1
  obtain ⟨hB, v, hbk, hown, hne⟩ := h1
  have c0 : w1.cell? ⟨b, 0, none⟩ = some (.pointer (some ⟨b, 0, none⟩)) := by rw [Lib.cell_of_heap hbk]; rfl
  have c1 : w1.cell? ⟨b, 1, none⟩ = some v := by rw [Lib.cell_of_heap hbk]; rfl
  go_wp2_with (at_builtin; refine Lib.wpList_append_own_string _ rfl _ _ 55 9 rfl B 5 i0 Tryz.underBs Tryz.strU hi hz0 hz1 hz2 _ _ _ rfl hown (bs s) rfl ?c3 ?c4 ?c5 ?_)
  case c3 => unfold maxLen; rw [Lib.byteCells_length, hsz]; omega
  case c4 => rw [Lib.byteCells_length, hsz]; omega
  case c5 => have := hK1.size; omega
  intro v' w2 hown' hgrow _
  have hlt : b < w1.heap.size := heap_lt hbk
  have hb2 : w2.heap[b]? = some (.cells #[.pointer (some ⟨b, 0, none⟩), v] 89 (0, 0)) := by
    rw [hgrow.block b hlt (fun e => hne e.symm)]
    exact hbk
  have hK2 : Kp B b w1 w2 := by
    refine ⟨(Below.refl B w1).grown hgrow (by have := hK1.size; omega) (fun k hk => (hown.lt k hk).1), fun c cs t fz e ht hc => ?_⟩
    exact hgrow.block c (heap_lt e) fun e2 => Lib.ownBlock_ne hown e ht e2.symm
  have d0 : w2.cell? ⟨b, 0, none⟩ = some (.pointer (some ⟨b, 0, none⟩)) := by rw [Lib.cell_of_heap hb2]; rfl
  have d1 : w2.cell? ⟨b, 1, none⟩ = some v := by rw [Lib.cell_of_heap hb2]; rfl
  have f1 : w2.frozen? ⟨b, 1, none⟩ = false := Lib.frozen_of_heap hb2 1
  obtain ⟨ao, n', cap, rfl⟩ : ∃ ao n' cap, v' = .slice ao n' cap := by
    rcases hown'.2 with ⟨hv, _⟩ | ⟨g, cap, cur, hv, _⟩
    · exact ⟨_, _, _, hv⟩
    · exact ⟨_, _, _, hv⟩
  go_wp2
  go_ret2
  refine ⟨rfl, .inr ?_, (hK1.trans hK2).set hB 1 _⟩
  refine Lib.BuilderAt.put (T := 89) (e := 5) hB hb2 (bs' := Lib.byteCells (l ++ s)) ?_ (by decide)
  rw [Lib.byteCells_append, List.length_append, Lib.byteCells_length s]
  exact hown'

theorem Tryz.cellsU8 : Tryz.prog.cellsOf 5 = 1 := by kernel_rfl
theorem Tryz.ptrU8 : Tryz.prog.underlying 109 = some (.pointer 5) := by kernel_rfl

set_option maxHeartbeats 1000000 in
theorem builderString_w {B b : Nat} {l : List UInt8} {w : World} (h : Wr5 B b l w) (h0 : l ≠ []) :
    Calls Tryz.prog 45 #[.pointer (some ⟨b, 0, none⟩)] w fun e w' => e = .returned (.string (bs l)) ∧ Below B w w' := by
  obtain ⟨p, hB, v, hbk, hown, hne⟩ : ∃ p, Lib.BuilderAt 89 5 B b p (Lib.byteCells l) w := by
    rcases h with h | h
    · exact ⟨_, h⟩
    · exact ⟨_, h⟩
  clear h
  have hl0 : l.length ≠ 0 := by simpa using h0
  rw [Lib.byteCells_length] at hown
  obtain ⟨g, cap, cur, rfl, hbg, hg, hnc, hcm, hcs, htake⟩ : ∃ g cap cur, v = .slice (some ⟨g, 0, none⟩) l.length cap ∧ B ≤ g ∧ w.heap[g]? = some (.cells cur 5 (0, 0)) ∧ l.length ≤ cap ∧ cap ≤ maxLen ∧ cur.size = cap * 1 ∧ cur.toList.take (l.length * 1) = Lib.byteCells l := by
    rcases hown.2 with ⟨_, hz⟩ | ⟨g, cap, cur, hv, r⟩
    · exact absurd hz hl0
    · exact ⟨g, cap, cur, hv, r⟩
  have c1 : w.drew.cell? ⟨b, 1, none⟩ = some (.slice (some ⟨g, 0, none⟩) l.length cap) := by
    have : w.drew.heap[b]? = some (.cells #[p, .slice (some ⟨g, 0, none⟩) l.length cap] 89 (0, 0)) := hbk
    rw [Lib.cell_of_heap this]; rfl
  have c2 : w.cell? ⟨b, 1, none⟩ = some (.slice (some ⟨g, 0, none⟩) l.length cap) := c1
  have hSD : (Builtin.unsafeSliceData_ #[55] 109 #[.slice (some ⟨g, 0, none⟩) l.length cap]).run Tryz.prog w.drew = .ok (.pointer (some ⟨g, 0, none⟩)) w.drew :=
    Lib.run_unsafeSliceData_row _ _ _ _ _ _ (by omega)
  have hUS : (Builtin.unsafeString_ #[109, 3] 9 #[.pointer (some ⟨g, 0, none⟩), .int .i64 l.length]).run Tryz.prog w.drew = .ok (.string (bs l)) (w.drew.freeze ⟨g, 0, none⟩ l.length) := by
    refine Lib.run_unsafeString_row w.drew 109 3 9 5 Tryz.ptrU8 Tryz.cellsU8 g cur.size (by have hg' : w.drew.heap[g]? = some (.cells cur 5 (0, 0)) := hg; simp [World.shape?, hg']) l h0 (by omega) (by unfold maxLen at hcm; omega) ?_
    intro j x hx
    have := hown.cells (g := g) rfl j (.int .u8 x.toNat) (by simp [Lib.byteCells, hx])
    exact this
  go_enter Tryz.func45, Tryz.ntmps45
  go_wp2
  go_region
  all_goals (go_wp2; go_ret; exact ⟨rfl, Lib.below_freeze (Below.drew (Below.refl B w)) (p := ⟨g, 0, none⟩) hbg _⟩)

end Go.Proofs.YtbgggbkmnfppoaaGreatDoor
