/-
  5 texts in one: what each proves stands at its head.
-/
import Derived.Test.YtndgglhppoijnaaDoorUI
import Derived.Test.YtndgglhppoijnaaDoorUH
import Derived.Lib.Builder
import Derived.Lib.AppendStr
import Derived.Lib.UnsafeStr
import Derived.Lib.Walk
import Derived.WalkKit
import Derived.Laws.Externs
import Derived.RegionTactic
import Derived.Test.YtndgglhppoijnaaDoorUW
import Derived.Test.YtndgglhppoijnaaDoorUC
import Derived.Deep.RegionWith
import Derived.Test.YtndgglhppoijnaaDoorUO
import Derived.Deep.DeepCutAuto
import Derived.Deep.RegionHeld3
/-
  A writer's builder: copyCheck, WriteString, String, where the builder is a writer's only field.
-/
namespace Go.Proofs.YtndgglhppoijnaaDoor
open Go.RowKit
set_option maxRecDepth 100000

/-- The writer at block b has written these bytes; its block and its row lie from B on. -/
def Wr5 (B b : Nat) (l : List UInt8) (w : World) : Prop := Lib.IsBuilder 54 5 B b (Lib.byteCells l) w
/-- What stays: what lies below B; every block of other things than bytes but the writer's own. -/
structure Kp (B b : Nat) (w w' : World) : Prop where
  low : Below B w w'
  own : ∀ c cs t fz, w.heap[c]? = some (.cells cs t fz) → t ≠ 5 → c ≠ b → w'.heap[c]? = w.heap[c]?
theorem Kp.refl (B b : Nat) (w : World) : Kp B b w w := ⟨Below.refl _ _, fun _ _ _ _ _ _ _ => rfl⟩
theorem Kp.trans {B b : Nat} {w1 w2 w3 : World} (h : Kp B b w1 w2) (k : Kp B b w2 w3) : Kp B b w1 w3 :=
  ⟨h.low.trans k.low, fun c cs t fz e ht hc => by
    have e1 := h.own c cs t fz e ht hc
    rw [k.own c cs t fz (e1.trans e) ht hc, e1]⟩
theorem Kp.size {B b : Nat} {w w' : World} (h : Kp B b w w') : w.heap.size ≤ w'.heap.size := h.low.size
theorem heap_lt {w : World} {c : Nat} {o : Obj} (h : w.heap[c]? = some o) : c < w.heap.size := by
  rcases Nat.lt_or_ge c w.heap.size with k | k
  · exact k
  · rw [Array.getElem?_eq_none k] at h; cases h
theorem Kp.of_up {B b : Nat} {w w' : World} (h : Below w.heap.size w w') (hB : B ≤ w.heap.size) : Kp B b w w' :=
  ⟨h.mono hB, fun c _ _ _ e _ _ => h.block c (heap_lt e)⟩
theorem Kp.bk {B b : Nat} {w w' : World} (h : Kp B b w w') {c : Nat} {t : TypeId} {vs : List Value} (hk : Bk w c t vs) (ht : t ≠ 5) (hc : c ≠ b) : Bk w' c t vs := by
  unfold Bk
  rw [h.own c _ _ _ hk ht hc]
  exact hk
theorem Wr5.up {B b : Nat} {l : List UInt8} {w w' : World} (h : Wr5 B b l w) (hb : Below w.heap.size w w') : Wr5 B b l w' := by
  have one : ∀ p, Lib.BuilderAt 54 5 B b p (Lib.byteCells l) w → Lib.BuilderAt 54 5 B b p (Lib.byteCells l) w' := by
    rintro p ⟨h1, v, h2, h3, h4⟩
    refine ⟨h1, v, by rw [hb.block b (heap_lt h2)]; exact h2, ?_, h4⟩
    refine ⟨h3.1, ?_⟩
    rcases h3.2 with h' | ⟨g, cap, cur, e1, e2, e3, e4⟩
    · exact .inl h'
    · exact .inr ⟨g, cap, cur, e1, e2, by rw [hb.block g (heap_lt e3)]; exact e3, e4⟩
  rcases h with h | h
  · exact .inl (one _ h)
  · exact .inr (one _ h)
theorem Wr5.lt {B b : Nat} {l : List UInt8} {w : World} (h : Wr5 B b l w) : b < w.heap.size := by
  rcases h with h | h
  · exact h.lt
  · exact h.lt
theorem Wr5.new (w : World) : Wr5 w.heap.size w.heap.size [] (w.alloc (.cells #[.pointer none, .slice none 0 0] 54)) := Lib.fresh_isBuilder _ _ w
theorem Kp.set {B b : Nat} {w w' : World} (h : Kp B b w w') (hb : B ≤ b) (j : Nat) (v : Value) : Kp B b w (w'.setCell ⟨b, j, none⟩ v) :=
  ⟨h.low.setCell (p := ⟨b, j, none⟩) hb _, fun c cs t fz e ht hc => by
    rw [Below.heap_setCell w' ⟨b, j, none⟩ v c (fun e => hc (by simpa using e))]
    exact h.own c cs t fz e ht hc⟩

theorem Tryd.ptrB : Tryd.prog.underlying 50 = some (.pointer 52) := by kernel_rfl
theorem Tryd.unsP : Tryd.prog.underlying 101 = some .unsafePointer := by kernel_rfl
theorem Tryd.sizeSB : (Tryd.prog.info? 52).map (·.size) = some 2 := by kernel_rfl
theorem Tryd.liesSB : liesAt Tryd.prog Tryd.prog.depth 54 (2 / Tryd.prog.cellsOf 54) 0 52 1 = true := by kernel_rfl
theorem Tryd.strU : Tryd.prog.underlying 9 = some .string := by kernel_rfl

set_option maxHeartbeats 1000000 in
theorem copyCheck_w {B b : Nat} {l : List UInt8} {w : World} (h : Wr5 B b l w) :
    Calls Tryd.prog 29 #[.pointer (some ⟨b, 0, none⟩)] w fun e w' => e = .returned (.tuple #[]) ∧ Lib.BuilderAt 54 5 B b (.pointer (some ⟨b, 0, none⟩)) (Lib.byteCells l) w' ∧ (w' = w ∨ w' = w.setCell ⟨b, 0, none⟩ (.pointer (some ⟨b, 0, none⟩))) := by
  obtain ⟨j, hj, hjs⟩ := Option.map_eq_some_iff.1 Tryd.sizeSB
  rcases h with h | h
  · have h0 := h.cell0
    have hsh := h.shape
    have hfz := h.frozen0
    have hend : Lib.BuilderAt 54 5 B b (.pointer (some ⟨b, 0, none⟩)) (Lib.byteCells l) (w.setCell ⟨b, 0, none⟩ (.pointer (some ⟨b, 0, none⟩))) := h.used _
    have H : Hid (Lib.BuilderAt 54 5 B b (.pointer (some ⟨b, 0, none⟩)) (Lib.byteCells l) (w.setCell ⟨b, 0, none⟩ (.pointer (some ⟨b, 0, none⟩)))) := hend
    clear hend h
    go_enter Tryd.func29, Tryd.ntmps29
    go_wp2
    rw [Lib.run_to_unsafe w ⟨b, 0, none⟩ Tryd.ptrB Tryd.unsP hj (by rw [hjs]; decide) hsh (Nat.zero_lt_succ 1)]
    simp only [Result.andThen]
    rw [Oper.upon_value]
    go_wp2
    rw [run_callFunc_extern Tryd.func50 (by kernel_rfl) (by kernel_rfl) (by kernel_rfl) (e := Extern.AbiNoEscape.same) (by kernel_rfl)]
    rw [Lib.run_noEscape]
    simp only [Result.andThen]
    rw [Oper.upon_value]
    go_wp2
    rw [Lib.run_from_unsafe w ⟨b, 0, none⟩ Tryd.unsP Tryd.ptrB hj hsh Tryd.liesSB]
    simp only [Result.andThen]
    rw [Oper.upon_value]
    go_wp2
    go_end0
    exact ⟨rfl, H, .inr rfl⟩
  · have h0 := h.cell0
    have H : Hid (Lib.BuilderAt 54 5 B b (.pointer (some ⟨b, 0, none⟩)) (Lib.byteCells l) w) := h
    clear h
    go_enter Tryd.func29, Tryd.ntmps29
    go_wp2
    rw [Lib.run_neq_ptr_same w _ Tryd.ptrB hj]
    go_wp2
    go_end0
    exact ⟨rfl, H, .inl rfl⟩

/-- What a call that writes leaves. -/
def WrE (B b : Nat) (l : List UInt8) (w : World) (e : Ending) (w' : World) : Prop := e = .returned (.tuple #[]) ∧ Wr5 B b l w' ∧ Kp B b w w'

set_option maxHeartbeats 2000000 in
theorem writeString_w {B b : Nat} {l : List UInt8} {w : World} (h : Wr5 B b l w) (s : List UInt8) (hlen : l.length + s.length ≤ 140737488355328) (hBw : B ≤ w.heap.size) :
    Calls Tryd.prog 20 #[.pointer (some ⟨b, 0, none⟩), .string (bs s)] w fun e w' => e = .returned (.tuple #[.int .i64 s.length, .nilIface]) ∧ Wr5 B b (l ++ s) w' ∧ Kp B b w w' := by
  obtain ⟨i0, hi, hz⟩ := Option.map_eq_some_iff.1 Tryd.infoB
  have hz0 : i0.zero = some (.int .u8 0) := by simp only [Prod.mk.injEq] at hz; exact hz.1
  have hz1 : i0.size = 1 := by simp only [Prod.mk.injEq] at hz; exact hz.2.1
  have hz2 : i0.bytes = 1 := by simp only [Prod.mk.injEq] at hz; exact hz.2.2
  clear hz
  have hsz : (bs s).size = s.length := bs_size s
  have hsc : Lib.strCells (bs s) = Lib.byteCells s := by rw [Lib.strCells_eq, bs_list]
  have HH : Hid (Wr5 B b l w) := h
  clear h
  go_enter Tryd.func20, Tryd.ntmps20
  go_wp2_with (go_at_call 29; refine (copyCheck_w (show Wr5 B b l w from HH)).mono ?_)
  rintro e w1 ⟨rfl, h1, hw1⟩
  have hK1 : Kp B b w w1 := by
    rcases hw1 with rfl | rfl
    · exact Kp.refl _ _ _
    · exact (Kp.refl B b w).set h1.1 0 _
  clear hw1
  obtain ⟨hB, v, hbk, hown, hne⟩ := h1
  have c0 : w1.cell? ⟨b, 0, none⟩ = some (.pointer (some ⟨b, 0, none⟩)) := by rw [Lib.cell_of_heap hbk]; rfl
  have c1 : w1.cell? ⟨b, 1, none⟩ = some v := by rw [Lib.cell_of_heap hbk]; rfl
  go_wp2_with (at_builtin; refine Lib.wpList_append_own_string _ rfl _ _ 22 9 rfl B 5 i0 Tryd.underBs Tryd.strU hi hz0 hz1 hz2 _ _ _ rfl hown (bs s) rfl ?c3 ?c4 ?c5 ?_)
  case c3 => unfold maxLen; rw [Lib.byteCells_length, hsz]; omega
  case c4 => rw [Lib.byteCells_length, hsz]; omega
  case c5 => have := hK1.size; omega
  intro v' w2 hown' hgrow _
  have hlt : b < w1.heap.size := heap_lt hbk
  have hb2 : w2.heap[b]? = some (.cells #[.pointer (some ⟨b, 0, none⟩), v] 54 (0, 0)) := by
    rw [hgrow.block b hlt (fun e => hne e.symm)]
    exact hbk
  have hK2 : Kp B b w1 w2 := by
    refine ⟨(Below.refl B w1).grown hgrow (by have := hK1.size; omega) (fun k hk => (hown.lt k hk).1), fun c cs t fz e ht hc => ?_⟩
    exact hgrow.block c (heap_lt e) fun e2 => Lib.ownBlock_ne hown e ht e2.symm
  have d0 : w2.cell? ⟨b, 0, none⟩ = some (.pointer (some ⟨b, 0, none⟩)) := by rw [Lib.cell_of_heap hb2]; rfl
  have d1 : w2.cell? ⟨b, 1, none⟩ = some v := by rw [Lib.cell_of_heap hb2]; rfl
  have f1 : w2.frozen? ⟨b, 1, none⟩ = false := Lib.frozen_of_heap hb2 1
  obtain ⟨ao, n', cap, rfl⟩ : ∃ ao n' cap, v' = .slice ao n' cap := by
    rcases hown'.2 with ⟨hv, _⟩ | ⟨g, cap, cur, hv, _⟩
    · exact ⟨_, _, _, hv⟩
    · exact ⟨_, _, _, hv⟩
  go_wp2
  go_ret2
  refine ⟨rfl, .inr ?_, (hK1.trans hK2).set hB 1 _⟩
  refine Lib.BuilderAt.put (T := 54) (e := 5) hB hb2 (bs' := Lib.byteCells (l ++ s)) ?_ (by decide)
  rw [Lib.byteCells_append, List.length_append, Lib.byteCells_length s]
  exact hown'

theorem Tryd.cellsU8 : Tryd.prog.cellsOf 5 = 1 := by kernel_rfl
theorem Tryd.ptrU8 : Tryd.prog.underlying 88 = some (.pointer 5) := by kernel_rfl

set_option maxHeartbeats 1000000 in
theorem builderString_w {B b : Nat} {l : List UInt8} {w : World} (h : Wr5 B b l w) (h0 : l ≠ []) :
    Calls Tryd.prog 21 #[.pointer (some ⟨b, 0, none⟩)] w fun e w' => e = .returned (.string (bs l)) ∧ Below B w w' := by
  obtain ⟨p, hB, v, hbk, hown, hne⟩ : ∃ p, Lib.BuilderAt 54 5 B b p (Lib.byteCells l) w := by
    rcases h with h | h
    · exact ⟨_, h⟩
    · exact ⟨_, h⟩
  clear h
  have hl0 : l.length ≠ 0 := by simpa using h0
  rw [Lib.byteCells_length] at hown
  obtain ⟨g, cap, cur, rfl, hbg, hg, hnc, hcm, hcs, htake⟩ : ∃ g cap cur, v = .slice (some ⟨g, 0, none⟩) l.length cap ∧ B ≤ g ∧ w.heap[g]? = some (.cells cur 5 (0, 0)) ∧ l.length ≤ cap ∧ cap ≤ maxLen ∧ cur.size = cap * 1 ∧ cur.toList.take (l.length * 1) = Lib.byteCells l := by
    rcases hown.2 with ⟨_, hz⟩ | ⟨g, cap, cur, hv, r⟩
    · exact absurd hz hl0
    · exact ⟨g, cap, cur, hv, r⟩
  have c1 : w.drew.cell? ⟨b, 1, none⟩ = some (.slice (some ⟨g, 0, none⟩) l.length cap) := by
    have : w.drew.heap[b]? = some (.cells #[p, .slice (some ⟨g, 0, none⟩) l.length cap] 54 (0, 0)) := hbk
    rw [Lib.cell_of_heap this]; rfl
  have c2 : w.cell? ⟨b, 1, none⟩ = some (.slice (some ⟨g, 0, none⟩) l.length cap) := c1
  have hSD : (Builtin.unsafeSliceData_ #[22] 88 #[.slice (some ⟨g, 0, none⟩) l.length cap]).run Tryd.prog w.drew = .ok (.pointer (some ⟨g, 0, none⟩)) w.drew :=
    Lib.run_unsafeSliceData_row _ _ _ _ _ _ (by omega)
  have hUS : (Builtin.unsafeString_ #[88, 3] 9 #[.pointer (some ⟨g, 0, none⟩), .int .i64 l.length]).run Tryd.prog w.drew = .ok (.string (bs l)) (w.drew.freeze ⟨g, 0, none⟩ l.length) := by
    refine Lib.run_unsafeString_row w.drew 88 3 9 5 Tryd.ptrU8 Tryd.cellsU8 g cur.size (by have hg' : w.drew.heap[g]? = some (.cells cur 5 (0, 0)) := hg; simp [World.shape?, hg']) l h0 (by omega) (by unfold maxLen at hcm; omega) ?_
    intro j x hx
    have := hown.cells (g := g) rfl j (.int .u8 x.toNat) (by simp [Lib.byteCells, hx])
    exact this
  go_enter Tryd.func21, Tryd.ntmps21
  go_wp2
  go_region
  all_goals (go_wp2; go_ret; exact ⟨rfl, Lib.below_freeze (Below.drew (Below.refl B w)) (p := ⟨g, 0, none⟩) hbg _⟩)

theorem string_w {B b : Nat} {l : List UInt8} {w : World} (h : Wr5 B b l w) (h0 : l ≠ []) :
    Calls Tryd.prog 13 #[.pointer (some ⟨b, 0, none⟩)] w fun e w' => e = .returned (.string (bs l)) ∧ Below B w w' := by
  go_enter Tryd.func13, Tryd.ntmps13
  go_wp2_with (go_at_call 21; refine (builderString_w h h0).mono ?_; rintro e w' ⟨rfl, hb⟩)
  go_ret
  exact ⟨rfl, hb⟩
end Go.Proofs.YtndgglhppoijnaaDoor
/-
  The writer's small parts: add, comma; letters, words, signs, levels, numbers.
-/
namespace Go.Proofs.YtndgglhppoijnaaDoor
open Go.RowKit
set_option maxRecDepth 100000

def sV (s : List UInt8) : Value := .string (bs s)

set_option maxHeartbeats 2000000 in
theorem add_w {B b : Nat} {l : List UInt8} {w : World} (h : Wr5 B b l w) (hB : B ≤ w.heap.size) (c : Nat) (ps : List (List UInt8)) (hc : Bk w c 9 (ps.map sV)) (hn : ps.length ≤ 100) (hcb : c ≠ b)
    (hlen : l.length + ps.flatten.length ≤ 140737488355328) :
    Calls Tryd.prog 12 #[.pointer (some ⟨b, 0, none⟩), .slice (some ⟨c, 0, none⟩) ps.length ps.length] w fun e w' => WrE B b (l ++ ps.flatten) w e w' := by
  have HH : Hid (Wr5 B b l w) := h
  clear h
  go_enter Tryd.func12, Tryd.ntmps12
  go_wp2
  go_loopw [8] (fun i wr => ∃ k : Nat, k ≤ ps.length ∧ i = .int .i64 k ∧ Wr5 B b (l ++ (ps.take k).flatten) wr ∧ Kp B b w wr) (fun i _ => ps.length - (intOf i).toNat)
  case atStart => exact ⟨0, Nat.zero_le _, rfl, by simpa using (show Wr5 B b l w from HH), Kp.refl _ _ _⟩
  case round =>
    obtain ⟨k, hk, rfl, hW, hK⟩ := hrel
    by_cases hlt : k < ps.length
    · have hcell : wr.cell? ⟨c, k, none⟩ = some (.string (bs (ps.getD k []))) := by
        rw [(hK.bk hc (by decide) hcb).cell]
        simp [sV, List.getD_eq_getElem?_getD, hlt]
      have ht := take_at ([] : List UInt8) ps k hlt
      have hl2 : (ps.take k).flatten.length + (ps.getD k []).length ≤ ps.flatten.length := by
        have e : ps.flatten.length = (ps.take (k + 1)).flatten.length + (ps.drop (k + 1)).flatten.length := by rw [← List.length_append, ← List.flatten_append, List.take_append_drop]
        rw [ht] at e
        simp only [List.flatten_append, List.length_append, List.flatten_cons, List.flatten_nil, List.append_nil] at e
        omega
      have hws := writeString_w hW (ps.getD k []) (by rw [List.length_append]; omega) (by have := hK.size; omega)
      obtain ⟨s, hs⟩ : ∃ s, s = ps.getD k [] := ⟨_, rfl⟩
      rw [← hs] at hcell ht hws
      clear hs hl2
      have HT : Hid (ps.take (k + 1) = ps.take k ++ [s]) := ht
      have HK : Hid (Kp B b w wr) := hK
      clear ht hK hW
      go_wp2_with (go_at_call 20; refine hws.mono ?_; rintro e w2 ⟨rfl, hW2, hK2⟩)
      go_roundw
      case rel =>
        refine ⟨k + 1, by omega, by go_num, ?_, (show Kp B b w wr from HK).trans hK2⟩
        rw [show ps.take (k + 1) = ps.take k ++ [s] from HT, List.flatten_append, List.flatten_cons, List.flatten_nil, List.append_nil, ← List.append_assoc]
        exact hW2
      case measure => simp [intOf]; omega
    · have hke : k = ps.length := by omega
      subst hke
      rw [List.take_length] at hW
      have HW : Hid (Wr5 B b (l ++ ps.flatten) wr) := hW
      have HK : Hid (Kp B b w wr) := hK
      clear hW hK
      go_wp2
      go_end0
      exact ⟨rfl, HW, HK⟩
/-- Pieces laid into a new block, and written. -/
theorem add_new {B b : Nat} {l : List UInt8} {w : World} (h : Wr5 B b l w) (hB : B ≤ w.heap.size) (ps : List (List UInt8)) (V : Array Value) (hV : V = (ps.map sV).toArray) (n : Nat) (hn : n = ps.length) (h100 : n ≤ 100) (hlen : l.length + ps.flatten.length ≤ 140737488355328) :
    Calls Tryd.prog 12 #[.pointer (some ⟨b, 0, none⟩), .slice (some ⟨w.heap.size, 0, none⟩) n n] (w.alloc (.cells V 9)) fun e w' => WrE B b (l ++ ps.flatten) w e w' := by
  subst hV hn
  have hb := below_alloc w (.cells (ps.map sV).toArray 9)
  have hk := Bk.new w 9 (ps.map sV).toArray
  refine (add_w (h.up hb) (by have := hb.size; omega) w.heap.size ps (by simpa using hk) h100 (by have := h.lt; omega) hlen).mono ?_
  rintro e w' ⟨rfl, h1, h2⟩
  exact ⟨rfl, h1, (Kp.of_up hb hB).trans h2⟩

theorem comma_w {B b : Nat} {l : List UInt8} {w : World} (h : Wr5 B b l w) (hB : B ≤ w.heap.size) (i : Nat) (hi : i ≤ 9223372036854775807) (hlen : i = 0 ∨ l.length + 2 ≤ 140737488355328) :
    Calls Tryd.prog 18 #[.pointer (some ⟨b, 0, none⟩), .int .i64 i] w fun e w' => WrE B b (l ++ (if i = 0 then [] else [44, 32])) w e w' := by
  have HH : Hid (Wr5 B b l w) := h
  clear h
  by_cases h0 : i = 0
  · subst h0
    go_enter Tryd.func18, Tryd.ntmps18
    go_wp2
    go_end0
    exact ⟨rfl, by simpa using (show Wr5 B b l w from HH), Kp.refl _ _ _⟩
  · have hlen2 : l.length + 2 ≤ 140737488355328 := by omega
    have hp : (0 : Int) < i := by omega
    have hq : ¬ ((i : Int) ≤ 0) := by omega
    go_enter Tryd.func18, Tryd.ntmps18
    go_wp2_with (go_at_call 12; refine (add_new (show Wr5 B b l w from HH) hB [[44, 32]] _ rfl 1 rfl (by decide) (by simpa using hlen2)).mono ?_; rintro e w' ⟨rfl, h1, h2⟩)
    go_end0
    exact ⟨rfl, h1, h2⟩

theorem letter_w {ty : Int} (ht : ty = 1 ∨ ty = 2 ∨ ty = 3) (w : World) : Calls Tryd.prog 19 #[.int .i64 ty] w fun e w' => e = .returned (.string (bs (letT ty))) ∧ w' = w := by
  rcases ht with rfl | rfl | rfl
  all_goals
    go_enter Tryd.func19, Tryd.ntmps19
    go_wp2
    go_ret
    exact ⟨rfl, rfl⟩
theorem word_w {op : Int} (ho : op = 2 ∨ op = 3 ∨ op = 4 ∨ op = 5 ∨ op = 14 ∨ op = 15 ∨ op = 16 ∨ op = 17 ∨ op = 21 ∨ op = 22) (w : World) : Calls Tryd.prog 31 #[.int .i64 op] w fun e w' => e = .returned (.string (bs (wordT op))) ∧ w' = w := by
  rcases ho with rfl | rfl | rfl | rfl | rfl | rfl | rfl | rfl | rfl | rfl
  all_goals
    go_enter Tryd.func31, Tryd.ntmps31
    go_wp2
    go_ret
    exact ⟨rfl, rfl⟩
theorem sign_w {op : Int} (ho : op = 18 ∨ op = 12 ∨ op = 13 ∨ op = 8 ∨ op = 9 ∨ op = 10 ∨ op = 11) (w : World) : Calls Tryd.prog 54 #[.int .i64 op] w fun e w' => e = .returned (.string (bs (signT op))) ∧ w' = w := by
  rcases ho with rfl | rfl | rfl | rfl | rfl | rfl | rfl
  all_goals
    go_enter Tryd.func54, Tryd.ntmps54
    go_wp2
    go_ret
    exact ⟨rfl, rfl⟩
/-- An operation that there is. -/
def OpIn (op : Int) : Prop := op = 1 ∨ op = 2 ∨ op = 3 ∨ op = 4 ∨ op = 5 ∨ op = 6 ∨ op = 7 ∨ op = 8 ∨ op = 9 ∨ op = 10 ∨ op = 11 ∨ op = 12 ∨ op = 13 ∨ op = 14 ∨ op = 15 ∨ op = 16 ∨ op = 17 ∨ op = 18 ∨ op = 19 ∨ op = 20 ∨ op = 21 ∨ op = 22
theorem level_w {op : Int} (ho : OpIn op) (w : World) : Calls Tryd.prog 23 #[.int .i64 op] w fun e w' => e = .returned (.int .i64 (lvl op)) ∧ w' = w := by
  unfold OpIn at ho
  rcases ho with rfl | rfl | rfl | rfl | rfl | rfl | rfl | rfl | rfl | rfl | rfl | rfl | rfl | rfl | rfl | rfl | rfl | rfl | rfl | rfl | rfl | rfl
  all_goals
    go_enter Tryd.func23, Tryd.ntmps23
    go_wp2
    go_ret
    exact ⟨rfl, rfl⟩
theorem operands_w {op : Int} (ho : op = 18 ∨ op = 12 ∨ op = 13 ∨ op = 8 ∨ op = 9 ∨ op = 10 ∨ op = 11) (w : World) :
    Calls Tryd.prog 53 #[.int .i64 op] w fun e w' => e = .returned (.tuple #[.int .i64 (loL op), .int .i64 (roL op)]) ∧ w' = w := by
  rcases ho with rfl | rfl | rfl | rfl | rfl | rfl | rfl
  · have hl : Calls Tryd.prog 23 #[.int .i64 18] w fun e w' => e = .returned (.int .i64 1) ∧ w' = w := level_w (op := 18) (by unfold OpIn; omega) w
    go_enter Tryd.func53, Tryd.ntmps53
    go_wp2_with (go_at_call 23; refine hl.mono ?_; rintro e w' ⟨rfl, hw⟩; rw [hw]; clear hw)
    go_ret2
    exact ⟨rfl, rfl⟩
  · have hl : Calls Tryd.prog 23 #[.int .i64 12] w fun e w' => e = .returned (.int .i64 2) ∧ w' = w := level_w (op := 12) (by unfold OpIn; omega) w
    go_enter Tryd.func53, Tryd.ntmps53
    go_wp2_with (go_at_call 23; refine hl.mono ?_; rintro e w' ⟨rfl, hw⟩; rw [hw]; clear hw)
    go_ret2
    exact ⟨rfl, rfl⟩
  · have hl : Calls Tryd.prog 23 #[.int .i64 13] w fun e w' => e = .returned (.int .i64 2) ∧ w' = w := level_w (op := 13) (by unfold OpIn; omega) w
    go_enter Tryd.func53, Tryd.ntmps53
    go_wp2_with (go_at_call 23; refine hl.mono ?_; rintro e w' ⟨rfl, hw⟩; rw [hw]; clear hw)
    go_ret2
    exact ⟨rfl, rfl⟩
  · have hl : Calls Tryd.prog 23 #[.int .i64 8] w fun e w' => e = .returned (.int .i64 3) ∧ w' = w := level_w (op := 8) (by unfold OpIn; omega) w
    go_enter Tryd.func53, Tryd.ntmps53
    go_wp2_with (go_at_call 23; refine hl.mono ?_; rintro e w' ⟨rfl, hw⟩; rw [hw]; clear hw)
    go_ret2
    exact ⟨rfl, rfl⟩
  · have hl : Calls Tryd.prog 23 #[.int .i64 9] w fun e w' => e = .returned (.int .i64 3) ∧ w' = w := level_w (op := 9) (by unfold OpIn; omega) w
    go_enter Tryd.func53, Tryd.ntmps53
    go_wp2_with (go_at_call 23; refine hl.mono ?_; rintro e w' ⟨rfl, hw⟩; rw [hw]; clear hw)
    go_ret2
    exact ⟨rfl, rfl⟩
  · have hl : Calls Tryd.prog 23 #[.int .i64 10] w fun e w' => e = .returned (.int .i64 4) ∧ w' = w := level_w (op := 10) (by unfold OpIn; omega) w
    go_enter Tryd.func53, Tryd.ntmps53
    go_wp2_with (go_at_call 23; refine hl.mono ?_; rintro e w' ⟨rfl, hw⟩; rw [hw]; clear hw)
    go_ret2
    exact ⟨rfl, rfl⟩
  · have hl : Calls Tryd.prog 23 #[.int .i64 11] w fun e w' => e = .returned (.int .i64 4) ∧ w' = w := level_w (op := 11) (by unfold OpIn; omega) w
    go_enter Tryd.func53, Tryd.ntmps53
    go_wp2_with (go_at_call 23; refine hl.mono ?_; rintro e w' ⟨rfl, hw⟩; rw [hw]; clear hw)
    go_ret2
    exact ⟨rfl, rfl⟩
theorem number_w (p q : Int) (w : World) (ht : Tab w) (hp : p.natAbs ≤ 16777216) (hq : q.natAbs ≤ 16777216) :
    Calls Tryd.prog 30 #[.complex .f64 (fl p) (fl q)] w fun e w' => e = .returned (.string (bs (txt p q))) ∧ Below w.heap.size w w' := by
  go_enter Tryd.func30, Tryd.ntmps30
  go_wp2_with (go_at_call 51; refine (text_w p q w ht hp hq).mono ?_; rintro e w' ⟨rfl, hb⟩)
  go_ret
  exact ⟨rfl, hb⟩
end Go.Proofs.YtndgglhppoijnaaDoor
/-
  The writer's walks: a part, words with parts, operations, choices, looks.
-/
namespace Go.Proofs.YtndgglhppoijnaaDoor
open Go.RowKit
set_option maxRecDepth 100000

/-- A writer over a world: what lay in w0 lies there still; it has written these bytes. -/
structure St5 (w0 : World) (b : Nat) (l : List UInt8) (w : World) : Prop where
  wr : Wr5 w0.heap.size b l w
  low : Below w0.heap.size w0 w
theorem St5.le {w0 : World} {b : Nat} {l : List UInt8} {w : World} (h : St5 w0 b l w) : w0.heap.size ≤ w.heap.size := h.low.size
theorem St5.up {w0 : World} {b : Nat} {l : List UInt8} {w w' : World} (h : St5 w0 b l w) (hb : Below w.heap.size w w') : St5 w0 b l w' := ⟨h.wr.up hb, h.low.trans (hb.mono h.le)⟩
def StE (w0 : World) (b : Nat) (l : List UInt8) (w : World) (e : Ending) (w' : World) : Prop := e = .returned (.tuple #[]) ∧ St5 w0 b l w' ∧ Kp w0.heap.size b w w'
theorem add_st {w0 : World} {b : Nat} {l : List UInt8} {w : World} (h : St5 w0 b l w) (ps : List (List UInt8)) (V : Array Value) (hV : V = (ps.map sV).toArray) (n : Nat) (hn : n = ps.length) (h100 : n ≤ 100) (hlen : l.length + ps.flatten.length ≤ 140737488355328) :
    Calls Tryd.prog 12 #[.pointer (some ⟨b, 0, none⟩), .slice (some ⟨w.heap.size, 0, none⟩) n n] (w.alloc (.cells V 9)) fun e w' => StE w0 b (l ++ ps.flatten) w e w' := by
  refine (add_new h.wr h.le ps V hV n hn h100 hlen).mono ?_
  rintro e w' ⟨rfl, h1, h2⟩
  exact ⟨rfl, ⟨h1, h.low.trans h2.low⟩, h2⟩
/-- What writing an expression comes to. -/
def ExC (w0 : World) (e : Ex) (es : List Value) : Prop := ∀ (b : Nat) (l : List UInt8) (w : World) (wanted : Int), St5 w0 b l w → 0 ≤ wanted → wanted ≤ 5 → l.length + (brq (lvl e.op) wanted (shE e)).length ≤ 140737488355328 →
  Calls Tryd.prog 15 #[.pointer (some ⟨b, 0, none⟩), .agg es.toArray, .int .i64 wanted] w fun r w' => StE w0 b (l ++ brq (lvl e.op) wanted (shE e)) w r w'
/-- .. each part. -/
def PaC (w0 : World) (xs : List Ex) (es : List Value) : Prop := ∀ (b : Nat) (l : List UInt8) (w : World) (k : Nat) (wanted : Int), k < xs.length → St5 w0 b l w → 0 ≤ wanted → wanted ≤ 5 → l.length + (pt (shL xs) k wanted).length ≤ 140737488355328 →
  Calls Tryd.prog 52 #[.pointer (some ⟨b, 0, none⟩), .agg es.toArray, .int .i64 k, .int .i64 wanted] w fun r w' => StE w0 b (l ++ pt (shL xs) k wanted) w r w'
/-- .. without brackets. -/
def BaC (f : Nat) (w0 : World) (e : Ex) (es : List Value) : Prop := ∀ (b : Nat) (l : List UInt8) (w : World), St5 w0 b l w → l.length + (shE e).length ≤ 140737488355328 →
  Calls Tryd.prog f #[.pointer (some ⟨b, 0, none⟩), .agg es.toArray] w fun r w' => StE w0 b (l ++ shE e) w r w'

theorem Bk.rng7 {w : World} {c : Nat} {t : TypeId} {vs : List Value} (h : Bk w c t vs) : w.rangeAt c 0 vs := by
  intro j v hv
  rw [h.cell, Nat.zero_add]
  exact hv

set_option maxHeartbeats 4000000 in
theorem part_w {w0 : World} {A : Nat → Prop} {op : Int} {name tail : List UInt8} {ty p q : Int} {xs : List Ex} {pos : Nat} {es : List Value} (hx : ExW w0 A (.mk op name tail ty p q xs pos) es)
    (hp : ∀ k, k < xs.length → ∀ vs, ExW w0 A (xs.getD k ed) vs → ExC w0 (xs.getD k ed) vs) : PaC w0 xs es := by
  intro b l w k wanted hk hS h0 h5 hlen
  cases hx with
  | mk hl =>
    rename_i ao c
    obtain ⟨B0, off, rfl⟩ := hl.place (by intro e; simp [e] at hk)
    obtain ⟨us, hu, hxu⟩ := hl.at k hk
    have hb1 := below_alloc w (.cells #[.int .i64 op, .string (bs name), .string (bs tail), .int .i64 ty, .complex .f64 (fl p) (fl q), .slice (some ⟨B0, off, none⟩) xs.length c, .int .i64 pos] 39)
    have hS1 := hS.up hb1
    have hE1 := Bk.new w 39 #[.int .i64 op, .string (bs name), .string (bs tail), .int .i64 ty, .complex .f64 (fl p) (fl q), .slice (some ⟨B0, off, none⟩) xs.length c, .int .i64 pos]
    rw [pt_at wanted hk] at hlen ⊢
    have hcall := hp k hk us hxu b l _ wanted hS1 h0 h5 hlen
    have hu1 : (w.alloc (.cells #[.int .i64 op, .string (bs name), .string (bs tail), .int .i64 ty, .complex .f64 (fl p) (fl q), .slice (some ⟨B0, off, none⟩) xs.length c, .int .i64 pos] 39)).rangeAt B0 (off + k * 7) us :=
      range_keep hu (by intro e; have := hxu.len; rw [e] at this; cases this) fun hlt => hS1.low.block _ hlt
    have hK1 := Kp.of_up (b := b) hb1 hS.le
    obtain ⟨y, hy⟩ : ∃ y, y = xs.getD k ed := ⟨_, rfl⟩
    rw [← hy] at hcall ⊢
    obtain ⟨u0, u1, u2, u3, u4, u5, u6, rfl⟩ := list7 hxu.len
    clear hy hlen hxu hu hp hl hS hb1
    have HK : Hid (Kp w0.heap.size b w _) := hK1
    clear hK1
    generalize hW : w.alloc (.cells #[.int .i64 op, .string (bs name), .string (bs tail), .int .i64 ty, .complex .f64 (fl p) (fl q), .slice (some ⟨B0, off, none⟩) xs.length c, .int .i64 pos] 39) = W at *
    obtain ⟨c0, _, _, _, _, c5, _⟩ := Bk.seven (show Bk W w.heap.size 39 [_, _, _, _, _, _, _] from hE1)
    have hklt : (k : Int) < xs.length := by omega
    clear hS1 hE1
    go_enter Tryd.func52, Tryd.ntmps52
    go_upto_region 1 with fail
    first | rw [hW] | skip
    clear hW
    go_wp2_with (first
      | refine wpList_loadN rfl 39 (.tmp 17) rfl B0 (off + k * 7) rfl [u0, u1, u2, u3, u4, u5, u6] _ hu1 Tryd.underE Tryd.infoE ?_)
    refine hcall.mono ?_
    rintro r w2 ⟨rfl, hS2, hK2⟩
    go_wp2
    go_end0
    exact ⟨rfl, hS2, HK.out.trans hK2⟩

set_option maxHeartbeats 4000000 in
theorem choice_w {w0 : World} {A : Nat → Prop} {name tail : List UInt8} {ty p q : Int} {xs : List Ex} {pos : Nat} {es : List Value} (hx : ExW w0 A (.mk 19 name tail ty p q xs pos) es) (hn : xs.length = 3) (hp : PaC w0 xs es) : BaC 35 w0 (.mk 19 name tail ty p q xs pos) es := by
  intro b l w hS hlen
  have hfm : shE (.mk 19 name tail ty p q xs pos) = [105, 102, 32] ++ pt (shL xs) 0 0 ++ [32, 116, 104, 101, 110, 32] ++ pt (shL xs) 1 0 ++ [32, 101, 108, 115, 101, 32] ++ pt (shL xs) 2 0 := by
    rw [shE_mk]
    rfl
  rw [hfm] at hlen ⊢
  clear hfm
  have b0 : (l).length + ([[105, 102, 32]].flatten).length ≤ 140737488355328 := by simp only [List.length_append, List.flatten_cons, List.flatten_nil, List.length_cons, List.length_nil] at hlen ⊢; omega
  have b1 : (l ++ [[105, 102, 32]].flatten).length + (pt (shL xs) 0 0).length ≤ 140737488355328 := by simp only [List.length_append, List.flatten_cons, List.flatten_nil, List.length_cons, List.length_nil] at hlen ⊢; omega
  have b2 : (l ++ [[105, 102, 32]].flatten ++ pt (shL xs) 0 0).length + ([[32, 116, 104, 101, 110, 32]].flatten).length ≤ 140737488355328 := by simp only [List.length_append, List.flatten_cons, List.flatten_nil, List.length_cons, List.length_nil] at hlen ⊢; omega
  have b3 : (l ++ [[105, 102, 32]].flatten ++ pt (shL xs) 0 0 ++ [[32, 116, 104, 101, 110, 32]].flatten).length + (pt (shL xs) 1 0).length ≤ 140737488355328 := by simp only [List.length_append, List.flatten_cons, List.flatten_nil, List.length_cons, List.length_nil] at hlen ⊢; omega
  have b4 : (l ++ [[105, 102, 32]].flatten ++ pt (shL xs) 0 0 ++ [[32, 116, 104, 101, 110, 32]].flatten ++ pt (shL xs) 1 0).length + ([[32, 101, 108, 115, 101, 32]].flatten).length ≤ 140737488355328 := by simp only [List.length_append, List.flatten_cons, List.flatten_nil, List.length_cons, List.length_nil] at hlen ⊢; omega
  have b5 : (l ++ [[105, 102, 32]].flatten ++ pt (shL xs) 0 0 ++ [[32, 116, 104, 101, 110, 32]].flatten ++ pt (shL xs) 1 0 ++ [[32, 101, 108, 115, 101, 32]].flatten).length + (pt (shL xs) 2 0).length ≤ 140737488355328 := by simp only [List.length_append, List.flatten_cons, List.flatten_nil, List.length_cons, List.length_nil] at hlen ⊢; omega
  cases hx with
  | mk hl =>
    rename_i ao c
    have hb1 := below_alloc w (.cells #[.int .i64 19, .string (bs name), .string (bs tail), .int .i64 ty, .complex .f64 (fl p) (fl q), .slice ao xs.length c, .int .i64 pos] 39)
    have hS1 := hS.up hb1
    have hE1 := Bk.new w 39 #[.int .i64 19, .string (bs name), .string (bs tail), .int .i64 ty, .complex .f64 (fl p) (fl q), .slice ao xs.length c, .int .i64 pos]
    have hK1 := Kp.of_up (b := b) hb1 hS.le
    have hcb : w.heap.size ≠ b := by have := hS.wr.lt; omega
    clear hS hb1 hl
    generalize hW : w.alloc (.cells #[.int .i64 19, .string (bs name), .string (bs tail), .int .i64 ty, .complex .f64 (fl p) (fl q), .slice ao xs.length c, .int .i64 pos] 39) = W1 at *
    have HS1 : Hid (St5 w0 b l W1) := hS1
    have HE1 : Hid (Bk W1 w.heap.size 39 _) := hE1
    have HK1 : Hid (Kp w0.heap.size b w W1) := hK1
    have HP : Hid (PaC w0 xs _) := hp
    have HC : Hid (w.heap.size ≠ b) := hcb
    have HN : Hid (xs.length = 3) := hn
    clear hS1 hE1 hK1 hp hcb hlen hn
    go_enter Tryd.func35, Tryd.ntmps35
    go_upto_region 1 with fail
    first | rw [hW] | skip
    clear hW
    obtain ⟨c0, c1, c2, c3, _, c5, _⟩ := Bk.seven (show Bk W1 w.heap.size 39 [_, _, _, _, _, _, _] from HE1.out)
    go_wp2_with fail
    refine (add_st HS1.out [[105, 102, 32]] _ rfl 1 rfl (by decide) b0).mono ?_
    rintro r W2 ⟨rfl, hS, hK⟩
    have HS2 : Hid (St5 w0 b _ W2) := hS
    have HE2 : Hid (Bk W2 w.heap.size 39 _) := hK.bk HE1.out (by decide) HC.out
    have HK2 : Hid (Kp w0.heap.size b w W2) := HK1.out.trans hK
    clear hS hK c0 c1 c2 c3 c5
    obtain ⟨c0, c1, c2, c3, _, c5, _⟩ := Bk.seven (show Bk W2 w.heap.size 39 [_, _, _, _, _, _, _] from HE2.out)
    go_wp2_with (first
      | refine wpList_loadN rfl 39 (.tmp 3) rfl w.heap.size 0 rfl [.int .i64 19, .string (bs name), .string (bs tail), .int .i64 ty, .complex .f64 (fl p) (fl q), .slice ao xs.length c, .int .i64 pos] _ (Bk.rng7 HE2.out) Tryd.underE Tryd.infoE ?_)
    refine (HP.out b _ W2 0 0 (by rw [HN.out]; decide) HS2.out (by decide) (by decide) b1).mono ?_
    rintro r W3 ⟨rfl, hS, hK⟩
    have HS3 : Hid (St5 w0 b _ W3) := hS
    have HE3 : Hid (Bk W3 w.heap.size 39 _) := hK.bk HE2.out (by decide) HC.out
    have HK3 : Hid (Kp w0.heap.size b w W3) := HK2.out.trans hK
    clear hS hK c0 c1 c2 c3 c5
    obtain ⟨c0, c1, c2, c3, _, c5, _⟩ := Bk.seven (show Bk W3 w.heap.size 39 [_, _, _, _, _, _, _] from HE3.out)
    go_wp2_with fail
    refine (add_st HS3.out [[32, 116, 104, 101, 110, 32]] _ rfl 1 rfl (by decide) b2).mono ?_
    rintro r W4 ⟨rfl, hS, hK⟩
    have HS4 : Hid (St5 w0 b _ W4) := hS
    have HE4 : Hid (Bk W4 w.heap.size 39 _) := hK.bk HE3.out (by decide) HC.out
    have HK4 : Hid (Kp w0.heap.size b w W4) := HK3.out.trans hK
    clear hS hK c0 c1 c2 c3 c5
    obtain ⟨c0, c1, c2, c3, _, c5, _⟩ := Bk.seven (show Bk W4 w.heap.size 39 [_, _, _, _, _, _, _] from HE4.out)
    go_wp2_with (first
      | refine wpList_loadN rfl 39 (.tmp 3) rfl w.heap.size 0 rfl [.int .i64 19, .string (bs name), .string (bs tail), .int .i64 ty, .complex .f64 (fl p) (fl q), .slice ao xs.length c, .int .i64 pos] _ (Bk.rng7 HE4.out) Tryd.underE Tryd.infoE ?_)
    refine (HP.out b _ W4 1 0 (by rw [HN.out]; decide) HS4.out (by decide) (by decide) b3).mono ?_
    rintro r W5 ⟨rfl, hS, hK⟩
    have HS5 : Hid (St5 w0 b _ W5) := hS
    have HE5 : Hid (Bk W5 w.heap.size 39 _) := hK.bk HE4.out (by decide) HC.out
    have HK5 : Hid (Kp w0.heap.size b w W5) := HK4.out.trans hK
    clear hS hK c0 c1 c2 c3 c5
    obtain ⟨c0, c1, c2, c3, _, c5, _⟩ := Bk.seven (show Bk W5 w.heap.size 39 [_, _, _, _, _, _, _] from HE5.out)
    go_wp2_with fail
    refine (add_st HS5.out [[32, 101, 108, 115, 101, 32]] _ rfl 1 rfl (by decide) b4).mono ?_
    rintro r W6 ⟨rfl, hS, hK⟩
    have HS6 : Hid (St5 w0 b _ W6) := hS
    have HE6 : Hid (Bk W6 w.heap.size 39 _) := hK.bk HE5.out (by decide) HC.out
    have HK6 : Hid (Kp w0.heap.size b w W6) := HK5.out.trans hK
    clear hS hK c0 c1 c2 c3 c5
    obtain ⟨c0, c1, c2, c3, _, c5, _⟩ := Bk.seven (show Bk W6 w.heap.size 39 [_, _, _, _, _, _, _] from HE6.out)
    go_wp2_with (first
      | refine wpList_loadN rfl 39 (.tmp 3) rfl w.heap.size 0 rfl [.int .i64 19, .string (bs name), .string (bs tail), .int .i64 ty, .complex .f64 (fl p) (fl q), .slice ao xs.length c, .int .i64 pos] _ (Bk.rng7 HE6.out) Tryd.underE Tryd.infoE ?_)
    refine (HP.out b _ W6 2 0 (by rw [HN.out]; decide) HS6.out (by decide) (by decide) b5).mono ?_
    rintro r W7 ⟨rfl, hS, hK⟩
    have HS7 : Hid (St5 w0 b _ W7) := hS
    have HE7 : Hid (Bk W7 w.heap.size 39 _) := hK.bk HE6.out (by decide) HC.out
    have HK7 : Hid (Kp w0.heap.size b w W7) := HK6.out.trans hK
    clear hS hK c0 c1 c2 c3 c5
    go_wp2
    go_end0
    refine ⟨rfl, ?_, HK7.out⟩
    have := HS7.out
    simpa only [List.flatten_cons, List.flatten_nil, List.append_nil, List.append_assoc, List.cons_append, List.nil_append] using this

set_option maxHeartbeats 4000000 in
theorem look_w {w0 : World} {A : Nat → Prop} {name tail : List UInt8} {ty p q : Int} {xs : List Ex} {pos : Nat} {es : List Value} (hx : ExW w0 A (.mk 20 name tail ty p q xs pos) es) (hn : xs.length = 3) (hp : PaC w0 xs es) : BaC 37 w0 (.mk 20 name tail ty p q xs pos) es := by
  intro b l w hS hlen
  have hfm : shE (.mk 20 name tail ty p q xs pos) = [99, 97, 115, 101, 32] ++ pt (shL xs) 0 0 ++ [32, 111, 102, 32, 110, 105, 108, 32, 45, 62, 32] ++ pt (shL xs) 1 0 ++ [32, 124, 32] ++ name ++ [58] ++ tail ++ [32, 45, 62, 32] ++ pt (shL xs) 2 0 := by
    rw [shE_mk]
    rfl
  rw [hfm] at hlen ⊢
  clear hfm
  have b0 : (l).length + ([[99, 97, 115, 101, 32]].flatten).length ≤ 140737488355328 := by simp only [List.length_append, List.flatten_cons, List.flatten_nil, List.length_cons, List.length_nil] at hlen ⊢; omega
  have b1 : (l ++ [[99, 97, 115, 101, 32]].flatten).length + (pt (shL xs) 0 0).length ≤ 140737488355328 := by simp only [List.length_append, List.flatten_cons, List.flatten_nil, List.length_cons, List.length_nil] at hlen ⊢; omega
  have b2 : (l ++ [[99, 97, 115, 101, 32]].flatten ++ pt (shL xs) 0 0).length + ([[32, 111, 102, 32, 110, 105, 108, 32, 45, 62, 32]].flatten).length ≤ 140737488355328 := by simp only [List.length_append, List.flatten_cons, List.flatten_nil, List.length_cons, List.length_nil] at hlen ⊢; omega
  have b3 : (l ++ [[99, 97, 115, 101, 32]].flatten ++ pt (shL xs) 0 0 ++ [[32, 111, 102, 32, 110, 105, 108, 32, 45, 62, 32]].flatten).length + (pt (shL xs) 1 0).length ≤ 140737488355328 := by simp only [List.length_append, List.flatten_cons, List.flatten_nil, List.length_cons, List.length_nil] at hlen ⊢; omega
  have b4 : (l ++ [[99, 97, 115, 101, 32]].flatten ++ pt (shL xs) 0 0 ++ [[32, 111, 102, 32, 110, 105, 108, 32, 45, 62, 32]].flatten ++ pt (shL xs) 1 0).length + ([[32, 124, 32], name, [58], tail, [32, 45, 62, 32]].flatten).length ≤ 140737488355328 := by simp only [List.length_append, List.flatten_cons, List.flatten_nil, List.length_cons, List.length_nil] at hlen ⊢; omega
  have b5 : (l ++ [[99, 97, 115, 101, 32]].flatten ++ pt (shL xs) 0 0 ++ [[32, 111, 102, 32, 110, 105, 108, 32, 45, 62, 32]].flatten ++ pt (shL xs) 1 0 ++ [[32, 124, 32], name, [58], tail, [32, 45, 62, 32]].flatten).length + (pt (shL xs) 2 0).length ≤ 140737488355328 := by simp only [List.length_append, List.flatten_cons, List.flatten_nil, List.length_cons, List.length_nil] at hlen ⊢; omega
  cases hx with
  | mk hl =>
    rename_i ao c
    have hb1 := below_alloc w (.cells #[.int .i64 20, .string (bs name), .string (bs tail), .int .i64 ty, .complex .f64 (fl p) (fl q), .slice ao xs.length c, .int .i64 pos] 39)
    have hS1 := hS.up hb1
    have hE1 := Bk.new w 39 #[.int .i64 20, .string (bs name), .string (bs tail), .int .i64 ty, .complex .f64 (fl p) (fl q), .slice ao xs.length c, .int .i64 pos]
    have hK1 := Kp.of_up (b := b) hb1 hS.le
    have hcb : w.heap.size ≠ b := by have := hS.wr.lt; omega
    clear hS hb1 hl
    generalize hW : w.alloc (.cells #[.int .i64 20, .string (bs name), .string (bs tail), .int .i64 ty, .complex .f64 (fl p) (fl q), .slice ao xs.length c, .int .i64 pos] 39) = W1 at *
    have HS1 : Hid (St5 w0 b l W1) := hS1
    have HE1 : Hid (Bk W1 w.heap.size 39 _) := hE1
    have HK1 : Hid (Kp w0.heap.size b w W1) := hK1
    have HP : Hid (PaC w0 xs _) := hp
    have HC : Hid (w.heap.size ≠ b) := hcb
    have HN : Hid (xs.length = 3) := hn
    clear hS1 hE1 hK1 hp hcb hlen hn
    go_enter Tryd.func37, Tryd.ntmps37
    go_upto_region 1 with fail
    first | rw [hW] | skip
    clear hW
    obtain ⟨c0, c1, c2, c3, _, c5, _⟩ := Bk.seven (show Bk W1 w.heap.size 39 [_, _, _, _, _, _, _] from HE1.out)
    go_wp2_with fail
    refine (add_st HS1.out [[99, 97, 115, 101, 32]] _ rfl 1 rfl (by decide) b0).mono ?_
    rintro r W2 ⟨rfl, hS, hK⟩
    have HS2 : Hid (St5 w0 b _ W2) := hS
    have HE2 : Hid (Bk W2 w.heap.size 39 _) := hK.bk HE1.out (by decide) HC.out
    have HK2 : Hid (Kp w0.heap.size b w W2) := HK1.out.trans hK
    clear hS hK c0 c1 c2 c3 c5
    obtain ⟨c0, c1, c2, c3, _, c5, _⟩ := Bk.seven (show Bk W2 w.heap.size 39 [_, _, _, _, _, _, _] from HE2.out)
    go_wp2_with (first
      | refine wpList_loadN rfl 39 (.tmp 3) rfl w.heap.size 0 rfl [.int .i64 20, .string (bs name), .string (bs tail), .int .i64 ty, .complex .f64 (fl p) (fl q), .slice ao xs.length c, .int .i64 pos] _ (Bk.rng7 HE2.out) Tryd.underE Tryd.infoE ?_)
    refine (HP.out b _ W2 0 0 (by rw [HN.out]; decide) HS2.out (by decide) (by decide) b1).mono ?_
    rintro r W3 ⟨rfl, hS, hK⟩
    have HS3 : Hid (St5 w0 b _ W3) := hS
    have HE3 : Hid (Bk W3 w.heap.size 39 _) := hK.bk HE2.out (by decide) HC.out
    have HK3 : Hid (Kp w0.heap.size b w W3) := HK2.out.trans hK
    clear hS hK c0 c1 c2 c3 c5
    obtain ⟨c0, c1, c2, c3, _, c5, _⟩ := Bk.seven (show Bk W3 w.heap.size 39 [_, _, _, _, _, _, _] from HE3.out)
    go_wp2_with fail
    refine (add_st HS3.out [[32, 111, 102, 32, 110, 105, 108, 32, 45, 62, 32]] _ rfl 1 rfl (by decide) b2).mono ?_
    rintro r W4 ⟨rfl, hS, hK⟩
    have HS4 : Hid (St5 w0 b _ W4) := hS
    have HE4 : Hid (Bk W4 w.heap.size 39 _) := hK.bk HE3.out (by decide) HC.out
    have HK4 : Hid (Kp w0.heap.size b w W4) := HK3.out.trans hK
    clear hS hK c0 c1 c2 c3 c5
    obtain ⟨c0, c1, c2, c3, _, c5, _⟩ := Bk.seven (show Bk W4 w.heap.size 39 [_, _, _, _, _, _, _] from HE4.out)
    go_wp2_with (first
      | refine wpList_loadN rfl 39 (.tmp 3) rfl w.heap.size 0 rfl [.int .i64 20, .string (bs name), .string (bs tail), .int .i64 ty, .complex .f64 (fl p) (fl q), .slice ao xs.length c, .int .i64 pos] _ (Bk.rng7 HE4.out) Tryd.underE Tryd.infoE ?_)
    refine (HP.out b _ W4 1 0 (by rw [HN.out]; decide) HS4.out (by decide) (by decide) b3).mono ?_
    rintro r W5 ⟨rfl, hS, hK⟩
    have HS5 : Hid (St5 w0 b _ W5) := hS
    have HE5 : Hid (Bk W5 w.heap.size 39 _) := hK.bk HE4.out (by decide) HC.out
    have HK5 : Hid (Kp w0.heap.size b w W5) := HK4.out.trans hK
    clear hS hK c0 c1 c2 c3 c5
    obtain ⟨c0, c1, c2, c3, _, c5, _⟩ := Bk.seven (show Bk W5 w.heap.size 39 [_, _, _, _, _, _, _] from HE5.out)
    go_wp2_with fail
    refine (add_st HS5.out [[32, 124, 32], name, [58], tail, [32, 45, 62, 32]] _ rfl 5 rfl (by decide) b4).mono ?_
    rintro r W6 ⟨rfl, hS, hK⟩
    have HS6 : Hid (St5 w0 b _ W6) := hS
    have HE6 : Hid (Bk W6 w.heap.size 39 _) := hK.bk HE5.out (by decide) HC.out
    have HK6 : Hid (Kp w0.heap.size b w W6) := HK5.out.trans hK
    clear hS hK c0 c1 c2 c3 c5
    obtain ⟨c0, c1, c2, c3, _, c5, _⟩ := Bk.seven (show Bk W6 w.heap.size 39 [_, _, _, _, _, _, _] from HE6.out)
    go_wp2_with (first
      | refine wpList_loadN rfl 39 (.tmp 3) rfl w.heap.size 0 rfl [.int .i64 20, .string (bs name), .string (bs tail), .int .i64 ty, .complex .f64 (fl p) (fl q), .slice ao xs.length c, .int .i64 pos] _ (Bk.rng7 HE6.out) Tryd.underE Tryd.infoE ?_)
    refine (HP.out b _ W6 2 0 (by rw [HN.out]; decide) HS6.out (by decide) (by decide) b5).mono ?_
    rintro r W7 ⟨rfl, hS, hK⟩
    have HS7 : Hid (St5 w0 b _ W7) := hS
    have HE7 : Hid (Bk W7 w.heap.size 39 _) := hK.bk HE6.out (by decide) HC.out
    have HK7 : Hid (Kp w0.heap.size b w W7) := HK6.out.trans hK
    clear hS hK c0 c1 c2 c3 c5
    go_wp2
    go_end0
    refine ⟨rfl, ?_, HK7.out⟩
    have := HS7.out
    simpa only [List.flatten_cons, List.flatten_nil, List.append_nil, List.append_assoc, List.cons_append, List.nil_append] using this

set_option maxHeartbeats 4000000 in
theorem worded_w {w0 : World} {A : Nat → Prop} {op : Int} (ho : op = 14 ∨ op = 15 ∨ op = 16 ∨ op = 17) {name tail : List UInt8} {ty p q : Int} {xs : List Ex} {pos : Nat} {es : List Value} (hx : ExW w0 A (.mk op name tail ty p q xs pos) es) (hn : xs.length = 1) (hp : PaC w0 xs es) : BaC 33 w0 (.mk op name tail ty p q xs pos) es := by
  intro b l w hS hlen
  have hfm : shE (.mk op name tail ty p q xs pos) = wordT op ++ [40] ++ pt (shL xs) 0 0 ++ [41] := by
    rw [shE_mk]
    rcases ho with rfl | rfl | rfl | rfl <;> rfl
  rw [hfm] at hlen ⊢
  clear hfm
  have b0 : (l).length + ([wordT op, [40]].flatten).length ≤ 140737488355328 := by simp only [List.length_append, List.flatten_cons, List.flatten_nil, List.length_cons, List.length_nil] at hlen ⊢; omega
  have b1 : (l ++ [wordT op, [40]].flatten).length + (pt (shL xs) 0 0).length ≤ 140737488355328 := by simp only [List.length_append, List.flatten_cons, List.flatten_nil, List.length_cons, List.length_nil] at hlen ⊢; omega
  have b2 : (l ++ [wordT op, [40]].flatten ++ pt (shL xs) 0 0).length + ([[41]].flatten).length ≤ 140737488355328 := by simp only [List.length_append, List.flatten_cons, List.flatten_nil, List.length_cons, List.length_nil] at hlen ⊢; omega
  cases hx with
  | mk hl =>
    rename_i ao c
    have hb1 := below_alloc w (.cells #[.int .i64 op, .string (bs name), .string (bs tail), .int .i64 ty, .complex .f64 (fl p) (fl q), .slice ao xs.length c, .int .i64 pos] 39)
    have hS1 := hS.up hb1
    have hE1 := Bk.new w 39 #[.int .i64 op, .string (bs name), .string (bs tail), .int .i64 ty, .complex .f64 (fl p) (fl q), .slice ao xs.length c, .int .i64 pos]
    have hK1 := Kp.of_up (b := b) hb1 hS.le
    have hcb : w.heap.size ≠ b := by have := hS.wr.lt; omega
    clear hS hb1 hl
    generalize hW : w.alloc (.cells #[.int .i64 op, .string (bs name), .string (bs tail), .int .i64 ty, .complex .f64 (fl p) (fl q), .slice ao xs.length c, .int .i64 pos] 39) = W1 at *
    have HS1 : Hid (St5 w0 b l W1) := hS1
    have HE1 : Hid (Bk W1 w.heap.size 39 _) := hE1
    have HK1 : Hid (Kp w0.heap.size b w W1) := hK1
    have HP : Hid (PaC w0 xs _) := hp
    have HC : Hid (w.heap.size ≠ b) := hcb
    have HN : Hid (xs.length = 1) := hn
    clear hS1 hE1 hK1 hp hcb hlen hn
    go_enter Tryd.func33, Tryd.ntmps33
    go_upto_region 1 with fail
    first | rw [hW] | skip
    clear hW
    obtain ⟨c0, c1, c2, c3, _, c5, _⟩ := Bk.seven (show Bk W1 w.heap.size 39 [_, _, _, _, _, _, _] from HE1.out)
    go_wp2_with fail
    refine (word_w (by omega) W1).mono ?_
    rintro r wq ⟨rfl, hwq⟩
    rw [hwq]
    clear hwq
    go_wp2_with fail
    refine (add_st HS1.out [wordT op, [40]] _ rfl 2 rfl (by decide) b0).mono ?_
    rintro r W2 ⟨rfl, hS, hK⟩
    have HS2 : Hid (St5 w0 b _ W2) := hS
    have HE2 : Hid (Bk W2 w.heap.size 39 _) := hK.bk HE1.out (by decide) HC.out
    have HK2 : Hid (Kp w0.heap.size b w W2) := HK1.out.trans hK
    clear hS hK c0 c1 c2 c3 c5
    obtain ⟨c0, c1, c2, c3, _, c5, _⟩ := Bk.seven (show Bk W2 w.heap.size 39 [_, _, _, _, _, _, _] from HE2.out)
    go_wp2_with (first
      | refine wpList_loadN rfl 39 (.tmp 3) rfl w.heap.size 0 rfl [.int .i64 op, .string (bs name), .string (bs tail), .int .i64 ty, .complex .f64 (fl p) (fl q), .slice ao xs.length c, .int .i64 pos] _ (Bk.rng7 HE2.out) Tryd.underE Tryd.infoE ?_)
    refine (HP.out b _ W2 0 0 (by rw [HN.out]; decide) HS2.out (by decide) (by decide) b1).mono ?_
    rintro r W3 ⟨rfl, hS, hK⟩
    have HS3 : Hid (St5 w0 b _ W3) := hS
    have HE3 : Hid (Bk W3 w.heap.size 39 _) := hK.bk HE2.out (by decide) HC.out
    have HK3 : Hid (Kp w0.heap.size b w W3) := HK2.out.trans hK
    clear hS hK c0 c1 c2 c3 c5
    obtain ⟨c0, c1, c2, c3, _, c5, _⟩ := Bk.seven (show Bk W3 w.heap.size 39 [_, _, _, _, _, _, _] from HE3.out)
    go_wp2_with fail
    refine (add_st HS3.out [[41]] _ rfl 1 rfl (by decide) b2).mono ?_
    rintro r W4 ⟨rfl, hS, hK⟩
    have HS4 : Hid (St5 w0 b _ W4) := hS
    have HE4 : Hid (Bk W4 w.heap.size 39 _) := hK.bk HE3.out (by decide) HC.out
    have HK4 : Hid (Kp w0.heap.size b w W4) := HK3.out.trans hK
    clear hS hK c0 c1 c2 c3 c5
    go_wp2
    go_end0
    refine ⟨rfl, ?_, HK4.out⟩
    have := HS4.out
    simpa only [List.flatten_cons, List.flatten_nil, List.append_nil, List.append_assoc, List.cons_append, List.nil_append] using this

set_option maxHeartbeats 4000000 in
theorem operation_w {w0 : World} {A : Nat → Prop} {op : Int} (ho : op = 18 ∨ op = 12 ∨ op = 13 ∨ op = 8 ∨ op = 9 ∨ op = 10 ∨ op = 11) {name tail : List UInt8} {ty p q : Int} {xs : List Ex} {pos : Nat} {es : List Value} (hx : ExW w0 A (.mk op name tail ty p q xs pos) es) (hn : xs.length = 2) (hp : PaC w0 xs es) : BaC 34 w0 (.mk op name tail ty p q xs pos) es := by
  intro b l w hS hlen
  have hfm : shE (.mk op name tail ty p q xs pos) = pt (shL xs) 0 (loL op) ++ [32] ++ signT op ++ [32] ++ pt (shL xs) 1 (roL op) := by
    rw [shE_mk]
    rcases ho with rfl | rfl | rfl | rfl | rfl | rfl | rfl <;> rfl
  rw [hfm] at hlen ⊢
  clear hfm
  have b0 : (l).length + (pt (shL xs) 0 (loL op)).length ≤ 140737488355328 := by simp only [List.length_append, List.length_cons, List.length_nil] at hlen ⊢; omega
  have b1 : (l ++ pt (shL xs) 0 (loL op)).length + ([[32], signT op, [32]].flatten).length ≤ 140737488355328 := by simp only [List.length_append, List.flatten_cons, List.flatten_nil, List.length_cons, List.length_nil] at hlen ⊢; omega
  have b2 : (l ++ pt (shL xs) 0 (loL op) ++ [[32], signT op, [32]].flatten).length + (pt (shL xs) 1 (roL op)).length ≤ 140737488355328 := by simp only [List.length_append, List.flatten_cons, List.flatten_nil, List.length_cons, List.length_nil] at hlen ⊢; omega
  cases hx with
  | mk hl =>
    rename_i ao c
    have hb1 := below_alloc w (.cells #[.int .i64 op, .string (bs name), .string (bs tail), .int .i64 ty, .complex .f64 (fl p) (fl q), .slice ao xs.length c, .int .i64 pos] 39)
    have hS1 := hS.up hb1
    have hE1 := Bk.new w 39 #[.int .i64 op, .string (bs name), .string (bs tail), .int .i64 ty, .complex .f64 (fl p) (fl q), .slice ao xs.length c, .int .i64 pos]
    have hK1 := Kp.of_up (b := b) hb1 hS.le
    have hcb : w.heap.size ≠ b := by have := hS.wr.lt; omega
    clear hS hb1 hl
    generalize hW : w.alloc (.cells #[.int .i64 op, .string (bs name), .string (bs tail), .int .i64 ty, .complex .f64 (fl p) (fl q), .slice ao xs.length c, .int .i64 pos] 39) = W1 at *
    have HS1 : Hid (St5 w0 b l W1) := hS1
    have HE1 : Hid (Bk W1 w.heap.size 39 _) := hE1
    have HK1 : Hid (Kp w0.heap.size b w W1) := hK1
    have HP : Hid (PaC w0 xs _) := hp
    have HC : Hid (w.heap.size ≠ b) := hcb
    have HN : Hid (xs.length = 2) := hn
    clear hS1 hE1 hK1 hp hcb hlen hn
    go_enter Tryd.func34, Tryd.ntmps34
    go_upto_region 1 with fail
    first | rw [hW] | skip
    clear hW
    obtain ⟨c0, c1, c2, c3, _, c5, _⟩ := Bk.seven (show Bk W1 w.heap.size 39 [_, _, _, _, _, _, _] from HE1.out)
    go_wp2_with fail
    refine (operands_w ho W1).mono ?_
    rintro r wq ⟨rfl, hwq⟩
    rw [hwq]
    clear hwq
    go_wp2_with (first
      | refine wpList_loadN rfl 39 (.tmp 3) rfl w.heap.size 0 rfl [.int .i64 op, .string (bs name), .string (bs tail), .int .i64 ty, .complex .f64 (fl p) (fl q), .slice ao xs.length c, .int .i64 pos] _ (Bk.rng7 HE1.out) Tryd.underE Tryd.infoE ?_)
    refine (HP.out b _ W1 0 (loL op) (by rw [HN.out]; decide) HS1.out (by rcases ho with rfl | rfl | rfl | rfl | rfl | rfl | rfl <;> decide) (by rcases ho with rfl | rfl | rfl | rfl | rfl | rfl | rfl <;> decide) b0).mono ?_
    rintro r W2 ⟨rfl, hS, hK⟩
    have HS2 : Hid (St5 w0 b _ W2) := hS
    have HE2 : Hid (Bk W2 w.heap.size 39 _) := hK.bk HE1.out (by decide) HC.out
    have HK2 : Hid (Kp w0.heap.size b w W2) := HK1.out.trans hK
    clear hS hK c0 c1 c2 c3 c5
    obtain ⟨c0, c1, c2, c3, _, c5, _⟩ := Bk.seven (show Bk W2 w.heap.size 39 [_, _, _, _, _, _, _] from HE2.out)
    go_wp2_with fail
    refine (sign_w ho W2).mono ?_
    rintro r wq ⟨rfl, hwq⟩
    rw [hwq]
    clear hwq
    go_wp2_with fail
    refine (add_st HS2.out [[32], signT op, [32]] _ rfl 3 rfl (by decide) b1).mono ?_
    rintro r W3 ⟨rfl, hS, hK⟩
    have HS3 : Hid (St5 w0 b _ W3) := hS
    have HE3 : Hid (Bk W3 w.heap.size 39 _) := hK.bk HE2.out (by decide) HC.out
    have HK3 : Hid (Kp w0.heap.size b w W3) := HK2.out.trans hK
    clear hS hK c0 c1 c2 c3 c5
    obtain ⟨c0, c1, c2, c3, _, c5, _⟩ := Bk.seven (show Bk W3 w.heap.size 39 [_, _, _, _, _, _, _] from HE3.out)
    go_wp2_with (first
      | refine wpList_loadN rfl 39 (.tmp 3) rfl w.heap.size 0 rfl [.int .i64 op, .string (bs name), .string (bs tail), .int .i64 ty, .complex .f64 (fl p) (fl q), .slice ao xs.length c, .int .i64 pos] _ (Bk.rng7 HE3.out) Tryd.underE Tryd.infoE ?_)
    refine (HP.out b _ W3 1 (roL op) (by rw [HN.out]; decide) HS3.out (by rcases ho with rfl | rfl | rfl | rfl | rfl | rfl | rfl <;> decide) (by rcases ho with rfl | rfl | rfl | rfl | rfl | rfl | rfl <;> decide) b2).mono ?_
    rintro r W4 ⟨rfl, hS, hK⟩
    have HS4 : Hid (St5 w0 b _ W4) := hS
    have HE4 : Hid (Bk W4 w.heap.size 39 _) := hK.bk HE3.out (by decide) HC.out
    have HK4 : Hid (Kp w0.heap.size b w W4) := HK3.out.trans hK
    clear hS hK c0 c1 c2 c3 c5
    go_wp2
    go_end0
    refine ⟨rfl, ?_, HK4.out⟩
    have := HS4.out
    simpa only [List.flatten_cons, List.flatten_nil, List.append_nil, List.append_assoc, List.cons_append, List.nil_append] using this
end Go.Proofs.YtndgglhppoijnaaDoor
/-
  The writer's walks: calls, bindings, an expression without brackets and with.
-/
namespace Go.Proofs.YtndgglhppoijnaaDoor
open Go.RowKit
set_option maxRecDepth 100000

theorem comma_st {w0 : World} {b : Nat} {l : List UInt8} {w : World} (h : St5 w0 b l w) (i : Nat) (hi : i ≤ 9223372036854775807) (hlen : i = 0 ∨ l.length + 2 ≤ 140737488355328) :
    Calls Tryd.prog 18 #[.pointer (some ⟨b, 0, none⟩), .int .i64 i] w fun e w' => StE w0 b (l ++ (if i = 0 then [] else [44, 32])) w e w' := by
  refine (comma_w h.wr h.le i hi hlen).mono ?_
  rintro e w' ⟨rfl, h1, h2⟩
  exact ⟨rfl, ⟨h1, h.low.trans h2.low⟩, h2⟩
theorem below_oth {w w1 w2 : World} {g : Nat} (h : Below w.heap.size w w1) (ho : Oth g w1 w2) (hg : w.heap.size ≤ g) : Below w.heap.size w w2 :=
  ⟨ho.os.trans h.os, ho.tape.trans h.tape, ho.output.trans h.output, by rw [ho.size]; exact h.size, fun k hk => (ho.block k (by omega)).trans (h.block k hk)⟩

set_option maxHeartbeats 4000000 in
theorem call_w {w0 : World} {A : Nat → Prop} {name tail : List UInt8} {ty p q : Int} {xs : List Ex} {pos : Nat} {es : List Value} (hx : ExW w0 A (.mk 7 name tail ty p q xs pos) es) (hsz : xs.length ≤ 1073741824)
    (hp : ∀ k, k < xs.length → ∀ vs, ExW w0 A (xs.getD k ed) vs → ExC w0 (xs.getD k ed) vs) : BaC 32 w0 (.mk 7 name tail ty p q xs pos) es := by
  intro b l w hS hlen
  have hfm : shE (.mk 7 name tail ty p q xs pos) = name ++ [40] ++ cmK xs xs.length ++ [41] := by
    rw [shE_mk, cmK_all]
    rfl
  rw [hfm] at hlen ⊢
  clear hfm
  simp only [List.length_append, List.length_cons, List.length_nil] at hlen
  have b0 : l.length + ([name, [40]].flatten).length ≤ 140737488355328 := by simp only [List.length_append, List.flatten_cons, List.flatten_nil, List.length_cons, List.length_nil]; omega
  have hmono : ∀ k, k < xs.length → (cmK xs k).length + (if k = 0 then 0 else 2) + (shE (xs.getD k ed)).length ≤ (cmK xs xs.length).length := by
    intro k hk
    have h1 : (cmK xs (k + 1)).length ≤ (cmK xs xs.length).length := by
      have : ∀ d, k + 1 + d ≤ xs.length → (cmK xs (k + 1)).length ≤ (cmK xs (k + 1 + d)).length := by
        intro d
        induction d with
        | zero => intro _; exact Nat.le_refl _
        | succ d ih =>
          intro h
          have e := cmK_succ (xs := xs) (k := k + 1 + d) (by omega)
          have := ih (by omega)
          rw [show k + 1 + (d + 1) = k + 1 + d + 1 by omega, e, List.length_append]
          omega
      have := this (xs.length - (k + 1)) (by omega)
      rwa [show k + 1 + (xs.length - (k + 1)) = xs.length by omega] at this
    rw [cmK_succ hk, List.length_append, List.length_append] at h1
    by_cases e : k = 0
    · rw [if_pos e] at h1 ⊢; simp only [List.length_nil] at h1; omega
    · rw [if_neg e] at h1 ⊢; simp only [List.length_cons, List.length_nil] at h1; omega
  have b1 : (l ++ [name, [40]].flatten ++ cmK xs xs.length).length + ([[41]].flatten : List UInt8).length ≤ 140737488355328 := by simp only [List.length_append, List.flatten_cons, List.flatten_nil, List.length_cons, List.length_nil]; omega
  have bk : ∀ k, k < xs.length → (k = 0 ∨ (l ++ [name, [40]].flatten ++ cmK xs k).length + 2 ≤ 140737488355328) ∧ (l ++ [name, [40]].flatten ++ cmK xs k ++ (if k = 0 then [] else [44, 32])).length + (brq (lvl (xs.getD k ed).op) 0 (shE (xs.getD k ed))).length ≤ 140737488355328 := by
    intro k hk
    have := hmono k hk
    rw [brq_zero]
    simp only [List.length_append, List.flatten_cons, List.flatten_nil, List.length_cons, List.length_nil]
    by_cases e : k = 0
    · rw [if_pos e] at this ⊢; simp only [List.length_nil]; omega
    · rw [if_neg e] at this ⊢; simp only [List.length_cons, List.length_nil]; omega
  have BK : Hid (∀ k, k < xs.length → (k = 0 ∨ (l ++ [name, [40]].flatten ++ cmK xs k).length + 2 ≤ 140737488355328) ∧ (l ++ [name, [40]].flatten ++ cmK xs k ++ (if k = 0 then [] else [44, 32])).length + (brq (lvl (xs.getD k ed).op) 0 (shE (xs.getD k ed))).length ≤ 140737488355328) := bk
  have HP : Hid (∀ k, k < xs.length → ∀ vs, ExW w0 A (xs.getD k ed) vs → ExC w0 (xs.getD k ed) vs) := hp
  clear hmono hlen bk hp
  cases hx with
  | mk hl =>
    rename_i ao c
    have hb1 := below_alloc w (.cells #[.int .i64 7, .string (bs name), .string (bs tail), .int .i64 ty, .complex .f64 (fl p) (fl q), .slice ao xs.length c, .int .i64 pos] 39)
    have hS1 := hS.up hb1
    have hE1 := Bk.new w 39 #[.int .i64 7, .string (bs name), .string (bs tail), .int .i64 ty, .complex .f64 (fl p) (fl q), .slice ao xs.length c, .int .i64 pos]
    have hK1 := Kp.of_up (b := b) hb1 hS.le
    have hcb : w.heap.size ≠ b := by have := hS.wr.lt; omega
    clear hS hb1
    generalize hW : w.alloc (.cells #[.int .i64 7, .string (bs name), .string (bs tail), .int .i64 ty, .complex .f64 (fl p) (fl q), .slice ao xs.length c, .int .i64 pos] 39) = W1 at *
    have HS1 : Hid (St5 w0 b l W1) := hS1
    have HE1 : Hid (Bk W1 w.heap.size 39 _) := hE1
    have HK1 : Hid (Kp w0.heap.size b w W1) := hK1
    have HC : Hid (w.heap.size ≠ b) := hcb
    have HL : Hid (ElW w0 A ao xs) := hl
    clear hS1 hE1 hK1 hcb hl
    go_enter Tryd.func32, Tryd.ntmps32
    go_upto_region 1 with fail
    first | rw [hW] | skip
    clear hW
    obtain ⟨c0, c1, c2, c3, _, c5, _⟩ := Bk.seven (show Bk W1 w.heap.size 39 [_, _, _, _, _, _, _] from HE1.out)
    go_wp2_with fail
    refine (add_st HS1.out [name, [40]] _ rfl 2 rfl (by decide) b0).mono ?_
    rintro r W2 ⟨rfl, hS, hK⟩
    have HS2 : Hid (St5 w0 b _ W2) := hS
    have HE2 : Hid (Bk W2 w.heap.size 39 _) := hK.bk HE1.out (by decide) HC.out
    have HK2 : Hid (Kp w0.heap.size b w W2) := HK1.out.trans hK
    clear hS hK c0 c1 c2 c3 c5
    obtain ⟨c0, c1, c2, c3, _, c5, _⟩ := Bk.seven (show Bk W2 w.heap.size 39 [_, _, _, _, _, _, _] from HE2.out)
    go_wp2_with fail
    clear c0 c1 c2 c3 c5
    go_loopw [14] (fun i wr => ∃ k : Nat, k ≤ xs.length ∧ i = .int .i64 k ∧ St5 w0 b (l ++ [name, [40]].flatten ++ cmK xs k) wr ∧ Kp w0.heap.size b w wr) (fun i _ => xs.length - (intOf i).toNat)
    case atStart => exact ⟨0, Nat.zero_le _, rfl, by rw [cmK_zero, List.append_nil]; exact HS2.out, HK2.out⟩
    case round =>
      obtain ⟨k, hkn, rfl, hSr, hKr⟩ := hrel
      by_cases hlt : k < xs.length
      · obtain ⟨B0, off, rfl⟩ := HL.out.place (by intro e; simp [e] at hlt)
        obtain ⟨us, hu, hxu⟩ := HL.out.at k hlt
        obtain ⟨bk1, bk2⟩ := BK.out k hlt
        have hus := cmK_succ hlt
        have hne : us ≠ [] := by intro e; have := hxu.len; rw [e] at this; cases this
        have hur : wr.rangeAt B0 (off + k * 7) us := range_keep hu hne fun hlt => hSr.low.block _ hlt
        have hb5 := below_alloc wr (.cells #[.int .i64 0, .string ⟨#[]⟩, .string ⟨#[]⟩, .int .i64 0, .complex .f64 0 0, .slice none 0 0, .int .i64 0] 39)
        have hQ5 := Bk.new wr 39 #[.int .i64 0, .string ⟨#[]⟩, .string ⟨#[]⟩, .int .i64 0, .complex .f64 0 0, .slice none 0 0, .int .i64 0]
        have hcall := HP.out k hlt us hxu
        have hone := hxu.one
        obtain ⟨u0, u1, u2, u3, u4, u5, u6, rfl⟩ := list7 hxu.len
        have hcr : wr.heap.size ≠ b := by have := hSr.wr.lt; omega
        have hki : k ≤ 9223372036854775807 := by omega
        have HSr : Hid (St5 w0 b _ wr) := hSr
        have HKr : Hid (Kp w0.heap.size b w wr) := hKr
        have HU : Hid (cmK xs (k + 1) = _) := hus
        have HB1 : Hid (k = 0 ∨ _) := bk1
        have HB2 : Hid (_ ≤ 140737488355328) := bk2
        have HCR : Hid (wr.heap.size ≠ b) := hcr
        have HB5 : Hid (Below wr.heap.size wr _) := hb5
        have HX : Hid (ExC w0 (xs.getD k ed) _) := hcall
        clear hu hne hxu hSr hKr hus bk1 bk2 hcr hb5 hcall
        go_wp2_with (first
          | refine wpList_loadN rfl 39 (.tmp 17) rfl B0 (off + k * 7) rfl [u0, u1, u2, u3, u4, u5, u6] _ hur Tryd.underE Tryd.infoE ?_
          | (refine wpList_storeN rfl 39 (.tmp 5) (.tmp 18) rfl wr.heap.size 0 [u0, u1, u2, u3, u4, u5, u6] rfl rfl hQ5 (Nat.le_refl 7) Tryd.infoE hone ?_; intro w6 hQ6 ho6))
        have hb6 := below_oth HB5.out ho6 (Nat.le_refl _)
        have HS6 : Hid (St5 w0 b _ w6) := HSr.out.up hb6
        have HK6 : Hid (Kp w0.heap.size b w w6) := HKr.out.trans (Kp.of_up hb6 HSr.out.le)
        have HQ6 : Hid (Bk w6 wr.heap.size 39 [u0, u1, u2, u3, u4, u5, u6]) := hQ6
        clear hb6 hQ6 ho6 hQ5
        refine (comma_st HS6.out k hki HB1.out).mono ?_
        rintro r W7 ⟨rfl, hS, hK⟩
        have HS7 : Hid (St5 w0 b _ W7) := hS
        have HK7 : Hid (Kp w0.heap.size b w W7) := HK6.out.trans hK
        have HQ7 : Hid (Bk W7 wr.heap.size 39 [u0, u1, u2, u3, u4, u5, u6]) := hK.bk HQ6.out (by decide) HCR.out
        clear hS hK
        go_wp2_with (first
          | refine wpList_loadN rfl 39 (.tmp 5) rfl wr.heap.size 0 rfl [u0, u1, u2, u3, u4, u5, u6] _ (Bk.rng7 HQ7.out) Tryd.underE Tryd.infoE ?_)
        refine (HX.out b _ W7 0 HS7.out (by decide) (by decide) HB2.out).mono ?_
        rintro r W8 ⟨rfl, hS, hK⟩
        have HS8 : Hid (St5 w0 b _ W8) := hS
        have HK8 : Hid (Kp w0.heap.size b w W8) := HK7.out.trans hK
        clear hS hK
        go_wp2_with fail
        go_roundw
        case rel =>
          refine ⟨k + 1, by omega, by go_num, ?_, HK8.out⟩
          rw [HU.out]
          have := HS8.out
          rw [brq_zero] at this
          simpa only [List.append_assoc] using this
        case measure => simp [intOf]; omega
      · have hke : k = xs.length := by omega
        subst hke
        have HSr : Hid (St5 w0 b _ wr) := hSr
        have HKr : Hid (Kp w0.heap.size b w wr) := hKr
        clear hSr hKr
        go_wp2_with fail
        refine (add_st HSr.out [[41]] _ rfl 1 rfl (by decide) b1).mono ?_
        rintro r W3 ⟨rfl, hS, hK⟩
        have HS3 : Hid (St5 w0 b _ W3) := hS
        have HK3 : Hid (Kp w0.heap.size b w W3) := HKr.out.trans hK
        clear hS hK
        go_wp2
        go_end0
        refine ⟨rfl, ?_, HK3.out⟩
        have := HS3.out
        simpa only [List.flatten_cons, List.flatten_nil, List.append_nil, List.append_assoc, List.cons_append, List.nil_append] using this
end Go.Proofs.YtndgglhppoijnaaDoor
/-
  The writer's walk of a binding.
-/
namespace Go.Proofs.YtndgglhppoijnaaDoor
open Go.RowKit
set_option maxRecDepth 100000

set_option maxHeartbeats 4000000 in
theorem binding_w {w0 : World} {A : Nat → Prop} {op : Int} (ho : op = 21 ∨ op = 22) {name tail : List UInt8} {ty p q : Int} (ht : ty = 1 ∨ ty = 2 ∨ ty = 3) {xs : List Ex} {pos : Nat} {es : List Value} (hx : ExW w0 A (.mk op name tail ty p q xs pos) es) (hn : xs.length = 2) (hp : PaC w0 xs es) :
    BaC 36 w0 (.mk op name tail ty p q xs pos) es := by
  intro b l w hS hlen
  have hfm : shE (.mk op name tail ty p q xs pos) = wordT op ++ [32] ++ name ++ [32] ++ letT ty ++ [32, 61, 32] ++ pt (shL xs) 0 0 ++ [32, 105, 110, 32] ++ pt (shL xs) 1 0 := by
    rw [shE_mk]
    rcases ho with rfl | rfl <;> rfl
  rw [hfm] at hlen ⊢
  clear hfm
  have b0 : l.length + ([wordT op, [32], name, [32], letT ty, [32, 61, 32]].flatten).length ≤ 140737488355328 := by simp only [List.length_append, List.flatten_cons, List.flatten_nil, List.length_cons, List.length_nil] at hlen ⊢; omega
  have b1 : (l ++ [wordT op, [32], name, [32], letT ty, [32, 61, 32]].flatten).length + (pt (shL xs) 0 0).length ≤ 140737488355328 := by simp only [List.length_append, List.flatten_cons, List.flatten_nil, List.length_cons, List.length_nil] at hlen ⊢; omega
  have b2 : (l ++ [wordT op, [32], name, [32], letT ty, [32, 61, 32]].flatten ++ pt (shL xs) 0 0).length + ([[32, 105, 110, 32]].flatten : List UInt8).length ≤ 140737488355328 := by simp only [List.length_append, List.flatten_cons, List.flatten_nil, List.length_cons, List.length_nil] at hlen ⊢; omega
  have b3 : (l ++ [wordT op, [32], name, [32], letT ty, [32, 61, 32]].flatten ++ pt (shL xs) 0 0 ++ [[32, 105, 110, 32]].flatten).length + (pt (shL xs) 1 0).length ≤ 140737488355328 := by simp only [List.length_append, List.flatten_cons, List.flatten_nil, List.length_cons, List.length_nil] at hlen ⊢; omega
  cases hx with
  | mk hl =>
    rename_i ao c
    have hb1 := below_alloc w (.cells #[.int .i64 op, .string (bs name), .string (bs tail), .int .i64 ty, .complex .f64 (fl p) (fl q), .slice ao xs.length c, .int .i64 pos] 39)
    have hS1 := hS.up hb1
    have hE1 := Bk.new w 39 #[.int .i64 op, .string (bs name), .string (bs tail), .int .i64 ty, .complex .f64 (fl p) (fl q), .slice ao xs.length c, .int .i64 pos]
    have hK1 := Kp.of_up (b := b) hb1 hS.le
    have hcb : w.heap.size ≠ b := by have := hS.wr.lt; omega
    clear hS hb1 hl
    generalize hW : w.alloc (.cells #[.int .i64 op, .string (bs name), .string (bs tail), .int .i64 ty, .complex .f64 (fl p) (fl q), .slice ao xs.length c, .int .i64 pos] 39) = W1 at *
    have HS1 : Hid (St5 w0 b l W1) := hS1
    have HE1 : Hid (Bk W1 w.heap.size 39 _) := hE1
    have HK1 : Hid (Kp w0.heap.size b w W1) := hK1
    have HP : Hid (PaC w0 xs _) := hp
    have HC : Hid (w.heap.size ≠ b) := hcb
    have HN : Hid (xs.length = 2) := hn
    have HO : Hid (op = 21 ∨ op = 22) := ho
    have HT : Hid (ty = 1 ∨ ty = 2 ∨ ty = 3) := ht
    clear hS1 hE1 hK1 hp hcb hlen hn ho ht
    go_enter Tryd.func36, Tryd.ntmps36
    go_upto_region 1 with fail
    first | rw [hW] | skip
    clear hW
    have hadd := add_st (HS1.out.up (Below.refl _ W1).drew) [wordT op, [32], name, [32], letT ty, [32, 61, 32]] _ rfl 6 rfl (by decide) b0
    have sB : ∀ W, Bk W w.heap.size 39 [.int .i64 op, .string (bs name), .string (bs tail), .int .i64 ty, .complex .f64 (fl p) (fl q), .slice ao xs.length c, .int .i64 pos] → W.cell? ⟨w.heap.size, 0, none⟩ = some (.int .i64 op) ∧ W.cell? ⟨w.heap.size, 1, none⟩ = some (.string (bs name)) ∧ W.cell? ⟨w.heap.size, 3, none⟩ = some (.int .i64 ty) := fun W h => ⟨h.cell 0, h.cell 1, h.cell 3⟩
    have s1 := sB W1 HE1.out
    have sD := sB W1.drew (HE1.out.up (Below.refl _ W1).drew)
    have sA := fun o => sB (W1.drew.alloc o) ((HE1.out.up (Below.refl _ W1).drew).alloc o)
    have hwd := fun W => word_w (op := op) (by have := HO.out; omega) W
    have hlt := fun W => letter_w HT.out W
    go_region_held3 (fun W => W.cell? ⟨w.heap.size, 0, none⟩ = some (.int .i64 op) ∧ W.cell? ⟨w.heap.size, 1, none⟩ = some (.string (bs name)) ∧ W.cell? ⟨w.heap.size, 3, none⟩ = some (.int .i64 ty)) (first | exact s1 | exact sD | exact sA _ | exact s2) (first
      | (go_at_call 31; refine (hwd _).mono ?_; rintro r wq ⟨rfl, hwq⟩; rw [hwq]; clear hwq)
      | (go_at_call 19; refine (hlt _).mono ?_; rintro r wq ⟨rfl, hwq⟩; rw [hwq]; clear hwq)
      | (go_at_call 12; refine hadd.mono ?_; rintro r W2 ⟨rfl, hS, hK⟩; have s2 := sB W2 (hK.bk (HE1.out.up (Below.refl _ W1).drew) (by decide) HC.out))
      | fail)
    all_goals
      have HS2 : Hid (St5 w0 b _ W2) := hS
      have HE2 : Hid (Bk W2 w.heap.size 39 [.int .i64 op, .string (bs name), .string (bs tail), .int .i64 ty, .complex .f64 (fl p) (fl q), .slice ao xs.length c, .int .i64 pos]) := hK.bk (HE1.out.up (Below.refl _ W1).drew) (by decide) HC.out
      have HK2 : Hid (Kp w0.heap.size b w W2) := HK1.out.trans ((Kp.of_up (Below.refl _ W1).drew HS1.out.le).trans hK)
      clear hS hK s1 sD sA s2 hadd
      go_wp2_with (first
        | refine wpList_loadN rfl 39 (.tmp 3) rfl w.heap.size 0 rfl [.int .i64 op, .string (bs name), .string (bs tail), .int .i64 ty, .complex .f64 (fl p) (fl q), .slice ao xs.length c, .int .i64 pos] _ (Bk.rng7 HE2.out) Tryd.underE Tryd.infoE ?_)
      refine (HP.out b _ W2 0 0 (by rw [HN.out]; decide) HS2.out (by decide) (by decide) b1).mono ?_
      rintro r W3 ⟨rfl, hS, hK⟩
      have HS3 : Hid (St5 w0 b _ W3) := hS
      have HE3 : Hid (Bk W3 w.heap.size 39 [.int .i64 op, .string (bs name), .string (bs tail), .int .i64 ty, .complex .f64 (fl p) (fl q), .slice ao xs.length c, .int .i64 pos]) := hK.bk HE2.out (by decide) HC.out
      have HK3 : Hid (Kp w0.heap.size b w W3) := HK2.out.trans hK
      clear hS hK
      go_wp2_with fail
      refine (add_st HS3.out [[32, 105, 110, 32]] _ rfl 1 rfl (by decide) b2).mono ?_
      rintro r W4 ⟨rfl, hS, hK⟩
      have HS4 : Hid (St5 w0 b _ W4) := hS
      have HE4 : Hid (Bk W4 w.heap.size 39 [.int .i64 op, .string (bs name), .string (bs tail), .int .i64 ty, .complex .f64 (fl p) (fl q), .slice ao xs.length c, .int .i64 pos]) := hK.bk HE3.out (by decide) HC.out
      have HK4 : Hid (Kp w0.heap.size b w W4) := HK3.out.trans hK
      clear hS hK
      go_wp2_with (first
        | refine wpList_loadN rfl 39 (.tmp 3) rfl w.heap.size 0 rfl [.int .i64 op, .string (bs name), .string (bs tail), .int .i64 ty, .complex .f64 (fl p) (fl q), .slice ao xs.length c, .int .i64 pos] _ (Bk.rng7 HE4.out) Tryd.underE Tryd.infoE ?_)
      refine (HP.out b _ W4 1 0 (by rw [HN.out]; decide) HS4.out (by decide) (by decide) b3).mono ?_
      rintro r W5 ⟨rfl, hS, hK⟩
      have HS5 : Hid (St5 w0 b _ W5) := hS
      have HK5 : Hid (Kp w0.heap.size b w W5) := HK4.out.trans hK
      clear hS hK
      go_wp2
      go_end0
      refine ⟨rfl, ?_, HK5.out⟩
      have := HS5.out
      simpa only [List.flatten_cons, List.flatten_nil, List.append_nil, List.append_assoc, List.cons_append, List.nil_append] using this
end Go.Proofs.YtndgglhppoijnaaDoor
