/-
  Maps keyed by ints, whatever their elements are: a map as a partial function, and how many entries it has.
-/
import Derived.Maps.OwnSet
import Derived.Maps.OwnOps
import Derived.Maps.Views
import Derived.Test.YtdbnlgjpfkfnjaaDu
import Derived.Test.YtdbnlgjpfkfnjaaDr
namespace Go.Proofs.Ytdbnlgjpfkfnjaa
open Go.RowKit Go.Maps Go.WideMaps
set_option maxRecDepth 100000

/-- An element, as it stands. -/
def rdr (v : Value) : Option (DataW Value × List MemPlace) := some (.held v, [])
/-- Block b is a map of s entries, at most n, which has at each int what f says. -/
def MapI (P : Program) (k : TypeId) (w : World) (b n s : Nat) (f : Int → Option Value) : Prop :=
  ∃ D, w.ownsMap P k rdr b n D ∧ Maps.size D = s ∧ ∀ a : Int, Maps.has D (.int .i64 a) = (f a).isSome ∧ ∀ z, D.atKey (.int .i64 a) (.held z) = .held ((f a).getD z)
/-- One more. -/
def putI (f : Int → Option Value) (a : Int) (v : Value) : Int → Option Value := fun t => if t = a then some v else f t
section
variable {P : Program} {k e t : TypeId} {w w' : World} {b n s : Nat} {f : Int → Option Value}
theorem MapI.lt (h : MapI P k w b n s f) : b < w.heap.size := by
  obtain ⟨D, h, _⟩ := h
  exact h.lt
theorem MapI.block (h : MapI P k w b n s f) (hb : w'.heap[b]? = w.heap[b]?) : MapI P k w' b n s f := by
  obtain ⟨D, ⟨es, clock, h1, r⟩, r2⟩ := h
  exact ⟨D, ⟨es, clock, hb.trans h1, r⟩, r2⟩
theorem MapI.mono (h : MapI P k w b n s f) {m : Nat} (hm : n ≤ m) : MapI P k w b m s f := by
  obtain ⟨D, h, r⟩ := h
  exact ⟨D, h.mono hm, r⟩
theorem MapI.made (w : World) (P : Program) (k : TypeId) : MapI P k (w.alloc (.map #[] 0)) w.heap.size 0 0 fun _ => none :=
  ⟨.map [], World.ownsMap_made w P k rdr, rfl, fun _ => ⟨rfl, fun _ => rfl⟩⟩
theorem MapI.look (h : MapI P k w b n s f) (hk : P.underlying k = some (.int .i64)) (ht : P.underlying t = some (.map k e)) {z : Value} (hz : (zeroValue e).run P w = .ok z w) {a : Int} (ha : (Lit.int .i64 a).wf = true) :
    (Instr.lookup t (.map (some b)) (.int .i64 a) false).run P w = .ok ((f a).getD z) w := by
  obtain ⟨D, h, _, r⟩ := h
  obtain ⟨v, ps, hrun, hv⟩ := h.lookup (int_keyed hk) ht hz (zd := .held z) (zp := []) rfl (keyOf_int_mk hk ha)
  rw [(r a).2 z] at hv
  simp only [rdr, Option.some.injEq, Prod.mk.injEq, DataW.held.injEq] at hv
  rw [hrun, hv.1]
theorem MapI.look_ok (h : MapI P k w b n s f) (hk : P.underlying k = some (.int .i64)) (ht : P.underlying t = some (.map k e)) {z : Value} (hz : (zeroValue e).run P w = .ok z w) {a : Int} (ha : (Lit.int .i64 a).wf = true) :
    (Instr.lookup t (.map (some b)) (.int .i64 a) true).run P w = .ok (.tuple #[(f a).getD z, .bool (f a).isSome]) w := by
  obtain ⟨D, h, _, r⟩ := h
  obtain ⟨v, ps, hrun, hv⟩ := World.ownsMap.look_ok h (int_keyed hk) ht hz (zd := .held z) (zp := []) rfl (keyOf_int_mk hk ha)
  rw [(r a).2 z] at hv
  simp only [rdr, Option.some.injEq, Prod.mk.injEq, DataW.held.injEq] at hv
  rw [hrun, hv.1, (r a).1]
theorem MapI.len (h : MapI P k w b n s f) (ht : P.underlying t = some (.map k e)) (ty : TypeId) : (Builtin.len_ #[t] ty #[.map (some b)]).run P w = .ok (.int .i64 s) w := by
  obtain ⟨D, h, hs, _⟩ := h
  rw [← hs]
  exact h.len ht ty
theorem isKey_int (a : Int) : WideAt.IsKeyLit (.int .i64 a) := trivial
theorem MapI.put (h : MapI P k w b n s f) (hk : P.underlying k = some (.int .i64)) (ht : P.underlying t = some (.map k e)) (hn : n < maxLen) {a : Int} (ha : (Lit.int .i64 a).wf = true) (v : Value) :
    ∃ w', (Instr.mapUpdate t (.map (some b)) (.int .i64 a) v).run P w = .ok () w' ∧ MapI P k w' b (n + 1) (if (f a).isSome then s else s + 1) (putI f a v) ∧ w.grownBy w' (some b) := by
  obtain ⟨D, h, hs, r⟩ := h
  obtain ⟨w', hrun, ho, hg⟩ := h.update (int_keyed hk) ht hn (keyOf_int_mk hk ha) (val := v) (d := .held v) (ps := []) rfl
  refine ⟨w', hrun, ⟨_, ho, ?_, fun t => ?_⟩, hg⟩
  · rw [size_put (h.tidy (int_keyed hk)), (r a).1, hs]
  · unfold putI
    by_cases e : t = a
    · subst e
      rw [if_pos rfl]
      exact ⟨has_put_same h.isMap (isKey_int t) _, fun z => atKey_put_same h.isMap (isKey_int t) _ _⟩
    · rw [if_neg e]
      have hne : (Lit.int .i64 t) ≠ .int .i64 a := fun x => e (by cases x; rfl)
      exact ⟨(has_put_other hne _).trans (r t).1, fun z => (atKey_put_other hne _ _).trans ((r t).2 z)⟩
end
section
variable {P : Program} {w : World} {ops : Array Oper} {rest : List Oper} {o : Oper} {a : Act} {Q : Exit → Act → World → Prop} {k e t : TypeId} {b n s : Nat} {f : Int → Option Value}
theorem wpList_lookI (hg : o.guard = none) (m x : Operand) (hop : o.op = Op.lookup t m x false) (hk : P.underlying k = some (.int .i64)) (ht : P.underlying t = some (.map k e)) {z : Value} (hz : (zeroValue e).run P w = .ok z w) (h : MapI P k w b n s f) {i : Int} (hi : (Lit.int .i64 i).wf = true)
    (hm : a.eval m = .map (some b)) (hx : a.eval x = .int .i64 i) (hK : wpList P ops Q rest (a.put o.dst ((f i).getD z)) w) : wpList P ops Q (o :: rest) a w := by
  refine wpList_plain hg fun K' hK' => ?_
  unfold Oper.wp
  simp [execOp, hop, hm, hx, h.look hk ht hz hi, Result.andThen]
  exact hK' _ _ hK
theorem wpList_lookI_ok (hg : o.guard = none) (m x : Operand) (hop : o.op = Op.lookup t m x true) (hk : P.underlying k = some (.int .i64)) (ht : P.underlying t = some (.map k e)) {z : Value} (hz : (zeroValue e).run P w = .ok z w) (h : MapI P k w b n s f) {i : Int} (hi : (Lit.int .i64 i).wf = true)
    (hm : a.eval m = .map (some b)) (hx : a.eval x = .int .i64 i) (hK : wpList P ops Q rest (a.put o.dst (.tuple #[(f i).getD z, .bool (f i).isSome])) w) : wpList P ops Q (o :: rest) a w := by
  refine wpList_plain hg fun K' hK' => ?_
  unfold Oper.wp
  simp [execOp, hop, hm, hx, h.look_ok hk ht hz hi, Result.andThen]
  exact hK' _ _ hK
theorem wpList_putI (hg : o.guard = none) (m x y : Operand) (hop : o.op = Op.mapUpdate t m x y) (hk : P.underlying k = some (.int .i64)) (ht : P.underlying t = some (.map k e)) (h : MapI P k w b n s f) (hn : n < maxLen) {i : Int} (hi : (Lit.int .i64 i).wf = true) (v : Value)
    (hm : a.eval m = .map (some b)) (hx : a.eval x = .int .i64 i) (hy : a.eval y = v) (hK : ∀ w', MapI P k w' b (n + 1) (if (f i).isSome then s else s + 1) (putI f i v) → w.grownBy w' (some b) → wpList P ops Q rest (a.put o.dst undef) w') : wpList P ops Q (o :: rest) a w := by
  refine wpList_plain hg fun K' hK' => ?_
  obtain ⟨w', hrun, r1, r2⟩ := h.put hk ht hn hi v
  unfold Oper.wp
  simp [execOp, hop, hm, hx, hy, hrun, Result.andThen]
  exact hK' _ _ (hK w' r1 r2)
end
/-- What is known of the two maps: which nodes were entered, and which are done. -/
structure Kn (H : Hm) (fE fD : Int → Option Value) : Prop where
  e : ∀ a, (fE a).getD (.int .i64 0) = .int .i64 (if (lookP H a).1.s = 2 ∨ (lookP H a).1.s = 3 then 1 else 0)
  d : ∀ a, fD a = if (lookP H a).1.s = 3 then some (clV (lookP H a).1.c) else none
theorem kn_same {H H' : Hm} {fE fD : Int → Option Value} (h : Kn H fE fD) (hs : ∀ a, ((lookP H' a).1.s = 2 ↔ (lookP H a).1.s = 2) ∧ ((lookP H' a).1.s = 3 ↔ (lookP H a).1.s = 3) ∧ ((lookP H a).1.s = 3 → (lookP H' a).1.c = (lookP H a).1.c)) : Kn H' fE fD := by
  refine ⟨fun a => ?_, fun a => ?_⟩
  · rw [h.e a]
    obtain ⟨h2, h3, _⟩ := hs a
    simp only [h2, h3]
  · rw [h.d a]
    obtain ⟨h2, h3, h4⟩ := hs a
    by_cases e : (lookP H a).1.s = 3
    · rw [if_pos e, if_pos (h3.2 e), h4 e]
    · rw [if_neg e, if_neg (fun x => e (h3.1 x))]
theorem look_app (H : Hm) (n : Nd) (th : Nat) (a : Int) : (lookP { H with ns := H.ns ++ [n], th := th } a).1 = if a = H.ns.length then n else (lookP H a).1 := by
  unfold lookP hasI
  dsimp only
  by_cases e : a = H.ns.length
  · rw [if_pos e, e, if_pos (by simp; omega)]
    simp
  · rw [if_neg e]
    by_cases h1 : 0 ≤ a ∧ a < H.ns.length
    · rw [if_pos (by simp; omega), if_pos (by simp; omega)]
      dsimp only
      rw [List.getD_eq_getElem?_getD, List.getElem?_append_left (by omega), List.getD_eq_getElem?_getD]
    · rw [if_neg (by simp; omega), if_neg (by simp; omega)]
theorem look_set (H : Hm) (i : Nat) (n : Nd) (up : Nat) (hi : i < H.ns.length) (a : Int) : (lookP { H with ns := H.ns.set i n, up := up } a).1 = if a = i then n else (lookP H a).1 := by
  have hh : hasI (H.ns.set i n).length a = hasI H.ns.length a := by rw [List.length_set]
  unfold lookP
  dsimp only
  rw [hh]
  cases hN : hasI H.ns.length a with
  | true =>
    obtain ⟨j, rfl, hj⟩ := hasI_lt hN
    rw [if_pos rfl, if_pos rfl]
    dsimp only
    rw [show ((j : Int)).toNat = j from rfl, List.getD_eq_getElem?_getD, List.getElem?_set, List.getD_eq_getElem?_getD]
    by_cases e : i = j
    · subst e
      rw [if_pos rfl, if_pos rfl, if_pos hi]
      rfl
    · rw [if_neg e, if_neg (by omega)]
  | false =>
    have hne : ¬ a = i := by
      rintro rfl
      unfold hasI at hN
      have := of_decide_eq_false hN
      omega
    simp [hne]
end Go.Proofs.Ytdbnlgjpfkfnjaa
