/-
  What the walk of LangSpaced leans on: bytes and numbers of its own, gaps, places.
-/
import Derived.Test.YtflennpocpbbpaaGreatDoorUA
import Derived.Test.YtflennpocpbbpaaGreatDoorUK
import Derived.Test.YtflennpocpbbpaaGreatDoorUH
import Derived.Test.YtflennpocpbbpaaGreatDoorUI
import Derived.Lib.AppendStr
namespace Go.Proofs.YtflennpocpbbpaaGreatDoor
open Go.RowKit
set_option maxRecDepth 100000

theorem Tryz.underStr4 : Tryz.prog.underlying 9 = some .string := by kernel_rfl
theorem Tryz.infoI : (Tryz.prog.info? 3).map (fun i => (i.zero, i.size, i.bytes)) = some (some (.int .i64 0), 1, 8) := by kernel_rfl
theorem Tryz.underIs : Tryz.prog.underlying 35 = some (.slice 3) := by kernel_rfl

theorem strCells_bs4 (s : List UInt8) : Lib.strCells (bs s) = s.map byteV := by
  unfold Lib.strCells byteV
  rw [bs_list]

/-- A row of whole numbers of the call's own. -/
def OwnI (w : World) (B : Nat) (v : Value) (xs : List Nat) : Prop := w.ownsRow B 3 1 v xs.length (xs.map fun n : Nat => Value.int .i64 (n : Int))
theorem OwnI.nil (w : World) (B : Nat) : OwnI w B (.slice none 0 0) [] := ⟨rfl, .inl ⟨rfl, rfl⟩⟩
theorem Own.nil4 (w : World) (B : Nat) : Own w B (.slice none 0 0) [] := ⟨rfl, .inl ⟨rfl, rfl⟩⟩

theorem Own.typ {w : World} {B : Nat} {v : Value} {xs : List UInt8} (h : Own w B v xs) {b : Nat} (hb : v.ownBlock = some b) : b < w.heap.size ∧ ∃ a f, w.heap[b]? = some (.cells a 5 f) := by
  refine ⟨(owns_has h b hb).2, ?_⟩
  rcases h.2 with ⟨rfl, _⟩ | ⟨g, cap, cur, rfl, h2, h3, _⟩
  · simp [Value.ownBlock] at hb
  · simp only [Value.ownBlock, Option.some.injEq] at hb
    subst hb
    exact ⟨_, _, h3⟩
theorem OwnI.typ {w : World} {B : Nat} {v : Value} {xs : List Nat} (h : OwnI w B v xs) {b : Nat} (hb : v.ownBlock = some b) : b < w.heap.size ∧ ∃ a f, w.heap[b]? = some (.cells a 3 f) := by
  refine ⟨(owns_has h b hb).2, ?_⟩
  rcases h.2 with ⟨rfl, _⟩ | ⟨g, cap, cur, rfl, h2, h3, _⟩
  · simp [Value.ownBlock] at hb
  · simp only [Value.ownBlock, Option.some.injEq] at hb
    subst hb
    exact ⟨_, _, h3⟩
/-- Bytes and numbers lie in different blocks. -/
theorem own_apart {w : World} {B : Nat} {v u : Value} {xs : List UInt8} {ys : List Nat} (h : Own w B v xs) (h' : OwnI w B u ys) {b : Nat} (hb : v.ownBlock = some b) : u.ownBlock ≠ some b := by
  intro e
  obtain ⟨_, a, f, e1⟩ := h.typ hb
  obtain ⟨_, a', f', e2⟩ := h'.typ e
  rw [e1] at e2
  simp only [Option.some.injEq, Obj.cells.injEq] at e2
  exact absurd e2.2.1 (by decide)

/-- A string appended to bytes of the call's own, beside numbers of its own. -/
theorem own_str4 (w : World) (B : Nat) (v u : Value) (xs s : List UInt8) (ys : List Nat) (h : Own w B v xs) (h' : OwnI w B u ys) (hB : B ≤ w.heap.size) (hx : xs.length ≤ 100000000) (hs : s.length ≤ 100000000) :
    ∃ v' w', (Builtin.append_ #[22, 9] 22 #[v, .string (bs s)]).run Tryz.prog w = .ok v' w' ∧ Own w' B v' (xs ++ s) ∧ OwnI w' B u ys ∧ Below B w w' := by
  obtain ⟨i0, hi, hz0, hz1, hz2⟩ := info_parts Tryz.infoB
  have hl : (bs s).size = s.length := bs_size s
  obtain ⟨v', w', hr, ho, hgr, _⟩ := Lib.run_append_own_string (P := Tryz.prog) w B 22 9 22 5 i0 Tryz.underBs Tryz.underStr4 hi hz0 hz1 hz2 v xs.length _ h (bs s) (by rw [hl]; unfold maxLen; omega) (by rw [hl]; omega) hB
  refine ⟨v', w', hr, ?_, ?_, (Below.refl B w).grown hgr hB h.low⟩
  · unfold Own
    rw [List.length_append, List.map_append, ← strCells_bs4, ← hl]
    exact ho
  · exact owns_keep h' fun b hb => hgr.block b (h'.typ hb).1 fun e => own_apart h h' e.symm hb
/-- A number appended. -/
theorem own_int4 (w : World) (B : Nat) (v u : Value) (xs : List UInt8) (ys : List Nat) (n : Nat) (h : Own w B v xs) (h' : OwnI w B u ys) (hB : B ≤ w.heap.size) (hy : ys.length ≤ 10000000) :
    ∃ u' w', (Builtin.append_ #[35, 35] 35 #[u, .slice (some ⟨w.heap.size, 0, none⟩) 1 1]).run Tryz.prog (w.alloc (.cells #[.int .i64 (n : Int)] 3)) = .ok u' w' ∧ Own w' B v xs ∧ OwnI w' B u' (ys ++ [n]) ∧ Below B w w' := by
  obtain ⟨i0, hi, hz0, hz1, hz2⟩ := info_parts Tryz.infoI
  have hbA := below_alloc w (.cells #[.int .i64 (n : Int)] 3)
  have h1 : Own (w.alloc (.cells #[.int .i64 (n : Int)] 3)) B v xs := h.up hbA
  have h1' : OwnI (w.alloc (.cells #[.int .i64 (n : Int)] 3)) B u ys := owns_keep h' fun b hb => hbA.block b (h'.typ hb).1
  have hk := Bk.new w 3 #[.int .i64 (n : Int)]
  have hBs : B ≤ (w.alloc (.cells #[.int .i64 (n : Int)] 3)).heap.size := by simp; omega
  obtain ⟨u', w', hr, ho', hgr, _⟩ := append_own1 Tryz.underIs hi hz0 hz1 hz2 rfl (by decide) h1' ⟨w.heap.size, 0, none⟩ [.int .i64 (n : Int)] rfl (by
    intro j x hj
    rw [Addr.add_mid, Nat.zero_add, hk.cell]
    exact hj) (onc1 _ rfl) hy (by decide) hBs
  refine ⟨u', w', hr, owns_keep h1 fun b hb => hgr.block b (h1.typ hb).1 fun e => own_apart h1 h1' hb e.symm, ?_, (hbA.mono hB).trans ((Below.refl B _).grown hgr hBs fun k hk => (owns_has h1' k hk).1)⟩
  unfold OwnI
  rw [List.length_append, List.map_append]
  exact ho'
theorem OwnI.read {w : World} {B : Nat} {u : Value} {ys : List Nat} (h : OwnI w B u ys) : ∃ ao c, u = .slice ao ys.length c ∧ ys.length ≤ c ∧ ∀ t, t < ys.length → ∃ g, ao = some ⟨g, 0, none⟩ ∧ B ≤ g ∧ w.cell? ⟨g, t, none⟩ = some (.int .i64 (ys.getD t 0 : Nat)) := by
  rcases h.2 with ⟨rfl, h0⟩ | ⟨g, cap, cur, rfl, h2, h3, h4, _, h5, h6⟩
  · exact ⟨none, 0, by rw [h0], by omega, fun t ht => by omega⟩
  · refine ⟨_, _, rfl, h4, fun t ht => ⟨g, rfl, h2, ?_⟩⟩
    rw [cell_of_row w g t _ _ _ h3]
    have e : cur[t]? = (cur.toList.take (ys.length * 1))[t]? := by rw [List.getElem?_take, if_pos (by omega)]; simp
    rw [e, h6, List.getElem?_map, List.getElem?_eq_getElem ht, List.getD_eq_getElem?_getD, List.getElem?_eq_getElem ht]
    rfl

/-- An append of a string whose run is known. -/
theorem wpList_append_runS {P : Program} {w : World} {ops : Array Oper} {rest : List Oper} {o : Oper} {a : Act} {Q : Exit → Act → World → Prop} (hgd : o.guard = none) (s x : Operand) (t u : TypeId)
    (ho : o.op = .call { callee := .builtin .append, args := #[s, x], argTypes := #[t, u] }) (hty : o.type = t) (v y : Value) (hs : a.eval s = v) (hx : a.eval x = y)
    (v' : Value) (w' : World) (hrun : (Builtin.append_ #[t, u] t #[v, y]).run P w = .ok v' w') (h : wpList P ops Q rest (a.put o.dst v') w') : wpList P ops Q (o :: rest) a w := by
  refine wpList_plain hgd fun K hK => ?_
  rw [← hty] at hrun
  unfold Oper.wp
  rw [hty] at hrun
  simp only [execOp, ho, resolve, invoke, builtin, Sem.run_bind, Sem.run_pure, Result.andThen_ok, List.map_toArray, List.map_cons, List.map_nil, hs, hx, hty, hrun]
  exact hK _ _ h

def txs4 : List Mk → Nat
  | [] => 0
  | m :: ms => m.text.length + txs4 ms
theorem spaced_len4 (g : Nat → List UInt8) (hg : ∀ i, (g i).length ≤ 5) : ∀ ms i, (spaced g i ms).length ≤ 5 * ms.length + txs4 ms
  | [], _ => by simp [spaced]
  | m :: ms, i => by
    have h1 := hg i
    have h2 := spaced_len4 g hg ms (i + 1)
    simp only [spaced, List.length_append, List.length_cons, txs4]
    omega
theorem cut_txs4 : ∀ l k ms, cut rdN l k = .ok ms → txs4 ms ≤ l.length := by
  refine cut_ind rdN ?_ ?_ ?_ ?_
  · intro k ms h; cases h; simp [txs4, endM]
  · intro l k h ms e; rw [cut_bad rdN h] at e; cases e
  · intro l k n h ih ms e
    rw [cut_skip rdN h] at e
    have := ih ms e
    rw [List.length_drop] at this
    omega
  · intro l k m h ih ms e
    obtain ⟨h1, h2, _, h4, _⟩ := stp_mark rdN h
    rw [cut_mark rdN h] at e
    cases hc' : cut rdN (l.drop m.text.length) (k + m.text.length) with
    | bad j => rw [hc'] at e; cases e
    | ok ms' =>
      rw [hc'] at e
      cases e
      have := ih ms' hc'
      rw [List.length_drop] at this
      show m.text.length + txs4 ms' ≤ _
      omega
theorem spaced_at4 (g : Nat → List UInt8) {ms : List Mk} {k : Nat} (h : k < ms.length) : spaced g k (ms.drop k) = g k ++ ((ms.getD k md).text ++ spaced g (k + 1) (ms.drop (k + 1))) := by
  rw [List.drop_eq_getElem_cons h, spaced, List.getD_eq_getElem?_getD, List.getElem?_eq_getElem h]
  rfl
theorem text_le4 : ∀ (ms : List Mk) (k : Nat), (ms.getD k md).text.length ≤ txs4 ms
  | [], _ => by simp [md, txs4]
  | m :: ms, 0 => by simp [txs4]
  | m :: ms, k + 1 => by
    have := text_le4 ms k
    simp only [List.getD_cons_succ, txs4]
    omega
theorem tmod5 (c : UInt8) : Int.tmod ((c.toNat : Nat) : Int) 5 = ((c.toNat % 5 : Nat) : Int) := by
  rw [Int.tmod_eq_emod_of_nonneg (by omega)]
  omega

abbrev kindsS : Obj := .cells #[.string ⟨#[32]⟩, .string ⟨#[10]⟩, .string ⟨#[9]⟩, .string ⟨#[35, 32, 40, 120, 10]⟩, .string ⟨#[32, 32]⟩] 9
theorem kindsS_cell (w : World) (t : Nat) (ht : t < 5) : (w.alloc kindsS).cell? ⟨w.heap.size, t, none⟩ = some (.string (bs (gapS.getD t [32]))) := by
  rw [cell_of_row _ _ t _ _ _ (heap_alloc_new w _)]
  have : ∀ t, t < 5 → (#[Value.string ⟨#[32]⟩, .string ⟨#[10]⟩, .string ⟨#[9]⟩, .string ⟨#[35, 32, 40, 120, 10]⟩, .string ⟨#[32, 32]⟩] : Array Value)[t]? = some (.string (bs (gapS.getD t [32]))) := by
    intro t ht
    rcases t with _ | _ | _ | _ | _ | t
    all_goals first | rfl | omega
  exact this t ht

/-- The places found so far. -/
def Plc (l2 : List UInt8) (ms : List Mk) (ys : List Nat) (k : Nat) : Prop := ys.length = k ∧ ∀ t, t < k → ys.getD t 0 = placeAt (gapG l2) 0 0 ms t
theorem Plc.step {l2 : List UInt8} {ms : List Mk} {ys : List Nat} {k : Nat} {out : List UInt8} (h : Plc l2 ms ys k) (hk : k < ms.length) (hs : spaced (gapG l2) 0 ms = out ++ spaced (gapG l2) k (ms.drop k)) : Plc l2 ms (ys ++ [(out ++ gapG l2 k).length]) (k + 1) := by
  obtain ⟨h1, h2⟩ := h
  refine ⟨by simp [h1], fun t ht => ?_⟩
  rcases Nat.lt_or_ge t k with hl | hl
  · rw [List.getD_eq_getElem?_getD, List.getElem?_append_left (by omega), ← List.getD_eq_getElem?_getD]
    exact h2 t hl
  · have e : t = k := by omega
    subst e
    rw [List.getD_eq_getElem?_getD, List.getElem?_append_right (by omega), h1, Nat.sub_self]
    have := place_len (gapG l2) ms 0 0 t out hk (by rw [Nat.zero_add]; exact hs)
    rw [this]
    simp [List.length_append]
end Go.Proofs.YtflennpocpbbpaaGreatDoor
