/-
  Bytes appended to a slice of the call's own.
-/
import Derived.Test.YtkonkplalgoekaaGreatDoorMx
import Derived.Laws.AppendOwnNone
namespace Go.Proofs.YtkonkplalgoekaaGreatDoor
open Go.RowKit
set_option maxRecDepth 100000

theorem wpList_append_run {P : Program} {w : World} {ops : Array Oper} {rest : List Oper} {o : Oper} {a : Act} {Q : Exit → Act → World → Prop} (hgd : o.guard = none) (s x : Operand) (t : TypeId)
    (ho : o.op = .call { callee := .builtin .append, args := #[s, x], argTypes := #[t, t] }) (hty : o.type = t) (v u : Value) (hs : a.eval s = v) (hx : a.eval x = u)
    (v' : Value) (w' : World) (hrun : (Builtin.append_ #[t, t] t #[v, u]).run P w = .ok v' w') (h : wpList P ops Q rest (a.put o.dst v') w') : wpList P ops Q (o :: rest) a w := by
  refine wpList_plain hgd fun K hK => ?_
  rw [← hty] at hrun
  unfold Oper.wp
  rw [hty] at hrun
  simp only [execOp, ho, resolve, invoke, builtin, Sem.run_bind, Sem.run_pure, Result.andThen_ok, List.map_toArray, List.map_cons, List.map_nil, hs, hx, hty, hrun]
  exact hK _ _ h

def byteV (c : UInt8) : Value := .int .u8 (c.toNat : Int)

theorem Tryz.infoB : (Tryz.prog.info? 5).map (fun i => (i.zero, i.size, i.bytes)) = some (some (.int .u8 0), 1, 1) := by kernel_rfl
theorem Tryz.underBs : Tryz.prog.underlying 22 = some (.slice 5) := by kernel_rfl

/-- A slice of bytes of the call's own: which bytes, and from which block on it lies. -/
def Own (w : World) (B : Nat) (v : Value) (xs : List UInt8) : Prop := w.ownsRow B 5 1 v xs.length (xs.map byteV)

theorem Own.low {w : World} {B : Nat} {v : Value} {xs : List UInt8} (h : Own w B v xs) : ∀ k, v.ownBlock = some k → B ≤ k := by
  intro k hk
  rcases h.2 with ⟨rfl, _⟩ | ⟨g, cap, cur, rfl, h2, _⟩
  · simp [Value.ownBlock] at hk
  · simp [Value.ownBlock] at hk; omega

theorem Own.up {w w' : World} {B : Nat} {v : Value} {xs : List UInt8} (h : Own w B v xs) (hb : Below w.heap.size w w') : Own w' B v xs := by
  refine ⟨h.1, ?_⟩
  rcases h.2 with h' | ⟨g, cap, cur, h1, h2, h3, h4⟩
  · exact .inl h'
  · refine .inr ⟨g, cap, cur, h1, h2, ?_, h4⟩
    rw [hb.block g ?_]
    · exact h3
    · rcases Nat.lt_or_ge g w.heap.size with k | k
      · exact k
      · rw [Array.getElem?_eq_none k] at h3; cases h3

/-- What such a slice reads. -/
theorem Own.bd {w : World} {B : Nat} {v : Value} {xs : List UInt8} (h : Own w B v xs) :
    ∃ ao cap, v = .slice ao xs.length cap ∧ Bd w ao xs ∧ xs.length ≤ cap ∧ (ao = none → cap = 0) ∧ (∀ b off, ao = some ⟨b, off, none⟩ → B ≤ b) := by
  rcases h.2 with ⟨rfl, h0⟩ | ⟨g, cap, cur, rfl, h2, h3, h4, _, h5, h6⟩
  · have e := List.length_eq_zero_iff.1 h0
    subst e
    exact ⟨none, 0, rfl, Bd.nil _ _, Nat.le_refl _, fun _ => rfl, fun b off e => by cases e⟩
  · refine ⟨some ⟨g, 0, none⟩, cap, rfl, ⟨fun _ => ⟨g, 0, rfl, fun t ht => ?_⟩⟩, h4, fun e => (by cases e), fun b off e => ?_⟩
    · rw [Nat.zero_add, cell_of_row w g t _ _ _ h3]
      have e : cur[t]? = (cur.toList.take (xs.length * 1))[t]? := by rw [List.getElem?_take, if_pos (by omega)]; simp
      rw [e, h6]
      simp [ht, byteV, List.getD_eq_getElem?_getD]
    · simp only [Option.some.injEq, Addr.mk.injEq, and_true] at e
      omega

/-- Nothing, just laid. -/
theorem Own.new (w : World) : Own (w.alloc (.cells #[] 5)) w.heap.size (.slice (some ⟨w.heap.size, 0, none⟩) 0 0) [] :=
  ⟨rfl, .inr ⟨w.heap.size, 0, #[], rfl, Nat.le_refl _, heap_alloc_new w _, Nat.le_refl _, by unfold maxLen; omega, rfl, rfl⟩⟩

/-- An append to such a slice. -/
theorem own_app (w : World) (B : Nat) (v : Value) (xs : List UInt8) (h : Own w B v xs) (hB : B ≤ w.heap.size) (ao : Option Addr) (cap : Nat) (ys : List UInt8) (hy : Bd w ao ys) (hcap : ao = none → cap = 0) (hx : xs.length ≤ 100000000) (hyl : ys.length ≤ 100000000) :
    ∃ v' w', (Builtin.append_ #[22, 22] 22 #[v, .slice ao ys.length cap]).run Tryz.prog w = .ok v' w' ∧ Own w' B v' (xs ++ ys) ∧ Below B w w' := by
  obtain ⟨i0, hi, hz0, hz1, hz2⟩ := info_parts Tryz.infoB
  cases ao with
  | none =>
    have hc0 := hcap rfl
    subst hc0
    have hyn : ys = [] := by
      by_cases e : ys = []
      · exact e
      · obtain ⟨b, off, e', _⟩ := hy.pl e
        cases e'
    subst hyn
    refine ⟨v, w, run_append_owned_none (P := Tryz.prog) (w := w) B 22 22 5 i0 1 Tryz.underBs hi v xs.length _ h, ?_, Below.refl _ _⟩
    rw [List.append_nil]
    exact h
  | some a =>
    have hnews : ∀ j u, (ys.map byteV)[j]? = some u → w.cell? (a.add j) = some u := by
      intro j u hj
      rw [List.getElem?_map] at hj
      cases hq : ys[j]? with
      | none => rw [hq] at hj; cases hj
      | some x =>
        rw [hq] at hj
        simp only [Option.map_some, Option.some.injEq] at hj
        subst hj
        have hl : j < ys.length := (List.getElem?_eq_some_iff.1 hq).1
        obtain ⟨b, off, e, hc⟩ := hy.pl (by intro e; rw [e] at hl; simp at hl)
        cases e
        rw [Addr.add_mid, hc j hl, List.getD_eq_getElem?_getD, hq]
        rfl
    obtain ⟨v', w', hr, ho, hgr, _⟩ := run_append_own (P := Tryz.prog) w B 22 22 5 i0 (.int .u8 0) 1 1 Tryz.underBs hi hz0 hz1 hz2 rfl (by decide) v xs.length _ h a ys.length cap (ys.map byteV) (by simp) hnews
      (by intro u hu; rw [List.mem_map] at hu; obtain ⟨c, _, rfl⟩ := hu; rfl) (by unfold maxLen; omega) (by omega) hB
    refine ⟨v', w', hr, ?_, (Below.refl B w).grown hgr hB h.low⟩
    unfold Own
    rw [List.length_append, List.map_append]
    exact ho

theorem eqM_refl (pl : Bool) (m : Mk) : eqM pl m m := ⟨rfl, rfl, rfl, rfl, fun _ => rfl⟩

/-- One byte just laid, appended. -/
theorem own_one (w : World) (B : Nat) (v : Value) (xs : List UInt8) (c : UInt8) (h : Own w B v xs) (hB : B ≤ w.heap.size) (hx : xs.length ≤ 100000000) :
    ∃ v' w', (Builtin.append_ #[22, 22] 22 #[v, .slice (some ⟨w.heap.size, 0, none⟩) 1 1]).run Tryz.prog (w.alloc (.cells #[.int .u8 (c.toNat : Int)] 5)) = .ok v' w' ∧ Own w' B v' (xs ++ [c]) ∧ Below B w w' := by
  obtain ⟨v', w', hr, ho, hb⟩ := own_app (w.alloc (.cells #[.int .u8 (c.toNat : Int)] 5)) B v xs (h.up (below_alloc _ _)) (by simp; omega) (some ⟨w.heap.size, 0, none⟩) 1 [c] (Bd.new w [c] 5 (0, 0)) (fun e => by cases e) hx (by simp)
  exact ⟨v', w', hr, ho, ((below_alloc w _).mono hB).trans hb⟩
end Go.Proofs.YtkonkplalgoekaaGreatDoor
