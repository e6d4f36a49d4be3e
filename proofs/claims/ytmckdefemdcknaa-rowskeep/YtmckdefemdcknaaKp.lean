/-
  The walk of RowsKeep.
-/
import Derived.Test.YtmckdefemdcknaaKa
import Derived.Test.YtmckdefemdcknaaPl
import Derived.LoopTactic
import Derived.Deep.RegionHeld
import Derived.Deep.Cut
namespace Go.Proofs.Ytmckdefemdcknaa
open Go.RowKit
open RowsM

theorem wpList_append_run {P : Program} {w : World} {ops : Array Oper} {rest : List Oper} {o : Oper} {a : Act} {Q : Exit → Act → World → Prop} (hgd : o.guard = none) (s x : Operand) (t : TypeId)
    (ho : o.op = .call { callee := .builtin .append, args := #[s, x], argTypes := #[t, t] }) (hty : o.type = t) (v u : Value) (hs : a.eval s = v) (hx : a.eval x = u)
    (v' : Value) (w' : World) (hrun : (Builtin.append_ #[t, t] t #[v, u]).run P w = .ok v' w') (h : wpList P ops Q rest (a.put o.dst v') w') : wpList P ops Q (o :: rest) a w := by
  refine wpList_plain hgd fun K hK => ?_
  rw [← hty] at hrun
  unfold Oper.wp
  rw [hty] at hrun
  simp only [execOp, ho, resolve, invoke, builtin, Sem.run_bind, Sem.run_pure, Result.andThen_ok, List.map_toArray, List.map_cons, List.map_nil, hs, hx, hty, hrun]
  exact hK _ _ h

/-- The words of an append to an empty slice of the call's own, and whose they are. -/
theorem append_own (w : World) (g : Nat) (ao : Option Addr) (cap : Nat) (xs : List Nat) (hg : w.heap[g]? = some (.cells #[] 55 (0, 0))) (h : Rd w ao xs) (hl : xs.length ≤ 17592186043904) (hcap : ao = none → cap = 0) :
    ∃ v' w', (Builtin.append_ #[22, 22] 22 #[.slice (some ⟨g, 0, none⟩) 0 0, .slice ao xs.length cap]).run Try.prog w = .ok v' w' ∧
      w'.ownsRow g 55 1 v' xs.length (xs.map fun z : Nat => Value.int .u64 z) ∧ Below g w w' := by
  obtain ⟨i0, hi, hz0, hz1, hz2⟩ := info_parts Try.infoW
  have hown : w.ownsRow g 55 1 (.slice (some ⟨g, 0, none⟩) 0 0) 0 [] := ⟨rfl, .inr ⟨g, 0, #[], rfl, Nat.le_refl _, hg, Nat.le_refl _, by unfold maxLen; omega, rfl, rfl⟩⟩
  have hgl : g < w.heap.size := by
    rcases Nat.lt_or_ge g w.heap.size with k | k
    · exact k
    · rw [Array.getElem?_eq_none k] at hg; cases hg
  have key : ∀ (a : Addr), (∀ j u, (xs.map fun z : Nat => Value.int .u64 z)[j]? = some u → w.cell? (a.add j) = some u) →
      ∃ v' w', (Builtin.append_ #[22, 22] 22 #[.slice (some ⟨g, 0, none⟩) 0 0, .slice (some a) xs.length cap]).run Try.prog w = .ok v' w' ∧
      w'.ownsRow g 55 1 v' xs.length (xs.map fun z : Nat => Value.int .u64 z) ∧ Below g w w' := by
    intro a ha
    obtain ⟨v', w', hr, ho, hgr, _⟩ := run_append_own (P := Try.prog) w g 22 22 55 i0 (.int .u64 0) 1 8 Try.underS hi hz0 hz1 hz2 rfl (by decide) _ 0 [] hown a xs.length cap (xs.map fun z : Nat => Value.int .u64 z) (by simp) ha (one_cells xs) (by unfold maxLen; omega) (by omega) (by omega)
    rw [Nat.zero_add, List.nil_append] at ho
    exact ⟨v', w', hr, ho, (Below.refl g w).grown hgr (by omega) (by intro k hk; simp [Value.ownBlock] at hk; omega)⟩
  by_cases hz : xs = []
  · subst hz
    cases ao with
    | none =>
      have hc0 := hcap rfl
      subst hc0
      exact ⟨.slice (some ⟨g, 0, none⟩) 0 0, w, run_append_owned_none (P := Try.prog) (w := w) g 22 22 55 i0 1 Try.underS hi _ 0 [] hown, hown, Below.refl _ _⟩
    | some a => exact key a (by simp)
  · obtain ⟨b, off, rfl, hc⟩ := h.pl hz
    exact key _ (src_cells hc)

/-- full: the words and two behind them, in a block of the call's own. -/
theorem append_two (w : World) (g : Nat) (v : Value) (xs : List Nat) (ho : w.ownsRow g 55 1 v xs.length (xs.map fun z : Nat => Value.int .u64 z)) (hg : g ≤ w.heap.size) (hl : xs.length ≤ 17592186043904) (hx : ∀ z, z ∈ xs → z < 18446744073709551616) :
    ∃ G cap w', (Builtin.append_ #[22, 22] 22 #[v, .slice (some ⟨w.heap.size, 0, none⟩) 2 2]).run Try.prog (w.alloc (.cells #[.int .u64 71, .int .u64 72] 55)) = .ok (.slice (some ⟨G, 0, none⟩) (xs.length + 2) cap) w' ∧
      Rd w' (some ⟨G, 0, none⟩) (xs ++ [71, 72]) ∧ xs.length + 2 ≤ cap ∧ Below g w w' := by
  obtain ⟨i0, hi, hz0, hz1, hz2⟩ := info_parts Try.infoW
  have ho2 : (w.alloc (.cells #[.int .u64 71, .int .u64 72] 55)).ownsRow g 55 1 v xs.length (xs.map fun z : Nat => Value.int .u64 z) := own_kept ho fun k hk => Below.heap_alloc _ _ _ (ho.lt k hk).2
  have hcell : ∀ j u, ([71, 72].map fun z : Nat => Value.int .u64 z)[j]? = some u → (w.alloc (.cells #[.int .u64 71, .int .u64 72] 55)).cell? ((⟨w.heap.size, 0, none⟩ : Addr).add j) = some u := by
    have h0 := heap_alloc_new w (.cells #[.int .u64 71, .int .u64 72] 55)
    refine src_cells (zs := [71, 72]) ?_
    intro t ht
    have ht2 : t < 2 := ht
    rw [Nat.zero_add, cell_of_row _ _ t _ _ _ h0]
    rcases (show t = 0 ∨ t = 1 by omega) with rfl | rfl <;> rfl
  obtain ⟨v', w', hr, ho', hgr, _⟩ := run_append_own (P := Try.prog) _ g 22 22 55 i0 (.int .u64 0) 1 8 Try.underS hi hz0 hz1 hz2 rfl (by decide) v xs.length _ ho2 ⟨w.heap.size, 0, none⟩ 2 2 _ rfl hcell (one_cells [71, 72]) (by unfold maxLen; omega) (by omega) (by simp; omega)
  rw [← List.map_append] at ho'
  rcases ho'.2 with ⟨_, h0⟩ | ⟨G, cap, cur, rfl, hgg, hcur, hle, _, hcs, htake⟩
  · omega
  · refine ⟨G, cap, w', hr, ⟨?_, fun _ => ⟨G, 0, rfl, fun t ht => ?_⟩⟩, hle, ?_⟩
    · intro z hz
      simp only [List.mem_append, List.mem_cons, List.not_mem_nil, or_false] at hz
      rcases hz with h | rfl | rfl
      · exact hx z h
      · decide
      · decide
    · have ht2 : t < xs.length + 2 := by simpa using ht
      rw [Nat.zero_add, cell_of_row w' G t _ _ _ hcur]
      have e : cur[t]? = (cur.toList.take ((xs.length + 2) * 1))[t]? := by rw [List.getElem?_take, if_pos (by omega)]; simp
      rw [e, htake, List.getElem?_map, List.getElem?_eq_getElem ht, List.getD_eq_getElem?_getD, List.getElem?_eq_getElem ht]
      rfl
    · exact (Below.alloc (Below.refl g w) hg _).grown hgr (by simp; omega) (fun k hk => (ho.lt k hk).1)

theorem Rd.front {w : World} {ao : Option Addr} {xs zs : List Nat} (h : Rd w ao (xs ++ zs)) : Rd w ao xs := by
  refine ⟨fun z hz => h.lt z (List.mem_append_left _ hz), fun hn => ?_⟩
  obtain ⟨b, off, e, hc⟩ := h.pl (by simp [hn])
  refine ⟨b, off, e, fun t ht => ?_⟩
  rw [hc t (by simp; omega)]
  rw [List.getD_eq_getElem?_getD, List.getElem?_append_left ht, List.getD_eq_getElem?_getD]

/-- A slice of the call's own between lo and hi. -/
structure Own (lo hi : Nat) (w : World) (v : Value) (L : List Nat) : Prop where
  row : w.ownsRow lo 55 1 v L.length (L.map fun z : Nat => Value.int .u64 z)
  below : ∀ g, v.ownBlock = some g → g < hi
  len : L.length ≤ 128

theorem Own.up {lo hi : Nat} {w w' : World} {v : Value} {L : List Nat} (h : Own lo hi w v L) (hb : Below w.heap.size w w') : Own lo hi w' v L :=
  ⟨own_kept h.row fun g hg => hb.block g (h.row.lt g hg).2, h.below, h.len⟩
theorem Own.alloc {lo hi : Nat} {w : World} {v : Value} {L : List Nat} (h : Own lo hi w v L) (o : Obj) : Own lo hi (w.alloc o) v L := h.up (below_alloc w o)

/-- What each call that makes a row answers: a row in memory of its own. -/
def Ans (w : World) (r : Ending) (w' : World) : Prop :=
  ∃ (N E : Int) (L : List Nat) (so : Option Addr) (cap : Nat), r = .returned (.tuple #[.agg #[.int .i64 N, .slice so L.length cap], .int .i64 E]) ∧ Own w.heap.size w'.heap.size w' (.slice so L.length cap) L ∧ Below w.heap.size w w'

theorem own_fresh {w w' : World} {so : Option Addr} {cap : Nat} {L : List Nat} (h : Fresh w w' so cap L) (hl : L.length ≤ 128) : Own w.heap.size w'.heap.size w' (.slice so L.length cap) L := by
  rcases h.2 with ⟨rfl, rfl, rfl⟩ | ⟨g, rfl, rfl, ho, hg⟩
  · exact ⟨⟨by simp, .inl ⟨rfl, rfl⟩⟩, fun g hg => (by cases hg), hl⟩
  · refine ⟨⟨by simp, .inr ⟨g, L.length, _, rfl, hg, ho, Nat.le_refl _, by unfold maxLen; omega, by simp, ?_⟩⟩, fun g' hg' => ?_, hl⟩
    · rw [List.take_of_length_le (by simp)]
    · simp only [Value.ownBlock, Option.some.injEq] at hg'
      rw [← hg']; exact ho.lt

theorem okR_le128 {n : Int} {xs : List Nat} (h : okR n xs = true) : xs.length ≤ 128 := by
  simp only [okR, decide_eq_true_eq] at h
  omega

theorem put_ans (n : Int) (ao : Option Addr) (ca : Nat) (zs : List Nat) (i v : Int) (w : World) (h : Rd w ao zs) (hl : zs.length ≤ 17592186043904) :
    Calls Try.prog 18 #[.agg #[.int .i64 n, .slice ao zs.length ca], .int .i64 i, .int .i64 v] w (Ans w) := by
  refine (put_any n ao ca zs i v w h hl).mono ?_
  rintro e w' ⟨so, cap, rfl, hf, hb⟩
  refine ⟨_, _, _, so, cap, rfl, own_fresh hf ?_, hb⟩
  unfold putL
  split
  · rename_i hp
    rw [List.length_set]
    exact okR_le128 (okPut_parts hp).1
  · simp

theorem op_short (f : Nat → Nat → Nat) (n m : Int) (xs ys : List Nat) : (opL f n m xs ys).length ≤ 128 := by
  cases hp : okP n m xs ys with
  | true =>
    rw [opL_yes hp, List.length_zipWith]
    obtain ⟨_, _, _⟩ := okP_facts hp
    omega
  | false => rw [opL_no hp]; simp

theorem join_ans (n m : Int) (ao bo : Option Addr) (ca cb : Nat) (xs ys : List Nat) (w : World) (h : Rd w ao xs) (g : Rd w bo ys) (hl : xs.length ≤ 17592186043904) (gl : ys.length ≤ 17592186043904) :
    Calls Try.prog 24 #[.agg #[.int .i64 n, .slice ao xs.length ca], .agg #[.int .i64 m, .slice bo ys.length cb]] w (Ans w) := by
  refine (join_any n m ao bo ca cb xs ys w h g hl gl).mono ?_
  rintro e w' ⟨so, cap, rfl, hf, hb⟩
  exact ⟨_, _, _, so, cap, rfl, own_fresh hf (op_short _ _ _ _ _), hb⟩

theorem meet_ans (n m : Int) (ao bo : Option Addr) (ca cb : Nat) (xs ys : List Nat) (w : World) (h : Rd w ao xs) (g : Rd w bo ys) (hl : xs.length ≤ 17592186043904) (gl : ys.length ≤ 17592186043904) :
    Calls Try.prog 26 #[.agg #[.int .i64 n, .slice ao xs.length ca], .agg #[.int .i64 m, .slice bo ys.length cb]] w (Ans w) := by
  refine (meet_any n m ao bo ca cb xs ys w h g hl gl).mono ?_
  rintro e w' ⟨so, cap, rfl, hf, hb⟩
  exact ⟨_, _, _, so, cap, rfl, own_fresh hf (op_short _ _ _ _ _), hb⟩

theorem new_ans (n : Int) (w : World) : Calls Try.prog 10 #[.int .i64 n] w (Ans w) := by
  refine (new_any n w).mono ?_
  rintro e w' ⟨so, cap, rfl, hf, hb⟩
  refine ⟨_, _, _, so, cap, rfl, own_fresh hf ?_, hb⟩
  cases h : okN n with
  | true =>
    have h' : 0 ≤ n ∧ n ≤ 4096 := by simpa [okN] using h
    rw [zerosN_yes h, List.length_replicate]
    omega
  | false => rw [zerosN_no h]; simp

/-- What the law holds in memory: the two rows, the copies a and b, full. -/
structure KE (w : World) (X Ba Bb G cG cB : Nat) (n m : Int) (ao bo sB : Option Addr) (ca cb : Nat) (xs ys : List Nat) : Prop where
  sx : St w X (.int .i64 n) (.slice ao xs.length ca)
  sy : St w (X + 1) (.int .i64 m) (.slice bo ys.length cb)
  sa : St w Ba (.int .i64 n) (.slice (some ⟨G, 0, none⟩) xs.length cG)
  sb : St w Bb (.int .i64 m) (.slice sB ys.length cB)
  rx : Rd w ao xs
  ry : Rd w bo ys
  rf : Rd w (some ⟨G, 0, none⟩) (xs ++ [71, 72])
  rb : Rd w sB ys

theorem KE.up {w w' : World} {X Ba Bb G cG cB : Nat} {n m : Int} {ao bo sB : Option Addr} {ca cb : Nat} {xs ys : List Nat} (h : KE w X Ba Bb G cG cB n m ao bo sB ca cb xs ys) (hb : Below w.heap.size w w') : KE w' X Ba Bb G cG cB n m ao bo sB ca cb xs ys :=
  ⟨h.sx.up hb, h.sy.up hb, h.sa.up hb, h.sb.up hb, h.rx.up hb, h.ry.up hb, h.rf.up hb, h.rb.up hb⟩
theorem KE.alloc {w : World} {X Ba Bb G cG cB : Nat} {n m : Int} {ao bo sB : Option Addr} {ca cb : Nat} {xs ys : List Nat} (h : KE w X Ba Bb G cG cB n m ao bo sB ca cb xs ys) (o : Obj) : KE (w.alloc o) X Ba Bb G cG cB n m ao bo sB ca cb xs ys := h.up (below_alloc w o)

def pick6 {α : Type} (a b c d e f : α) : Nat → α
  | 0 => a | 1 => b | 2 => c | 3 => d | 4 => e | _ => f

theorem own_base {w : World} {B B' e n : Nat} {v : Value} {xs : List Value} (h : w.ownsRow B e 1 v n xs) (hb : B' ≤ B) : w.ownsRow B' e 1 v n xs := by
  refine ⟨h.1, ?_⟩
  rcases h.2 with h2 | ⟨g, cap, cur, h1, h3, h4⟩
  · exact .inl h2
  · exact .inr ⟨g, cap, cur, h1, Nat.le_trans hb h3, h4⟩

theorem sx_make {B : Nat} {W w : World} (hbel : Below B W w) {l0 l1 l2 l3 l4 l5 h0 h1 h2 h3 h4 h5 : Nat} {v0 v1 v2 v3 v4 v5 : Value} {L0 L1 L2 L3 L4 L5 : List Nat} (n0 n1 n2 n3 n4 n5 : Value)
    (o0 : Own l0 h0 w v0 L0) (o1 : Own l1 h1 w v1 L1) (o2 : Own l2 h2 w v2 L2) (o3 : Own l3 h3 w v3 L3) (o4 : Own l4 h4 w v4 L4) (o5 : Own l5 h5 w v5 L5)
    (c0 : B ≤ l0) (d0 : l0 ≤ h0) (c1 : h0 ≤ l1) (d1 : l1 ≤ h1) (c2 : h1 ≤ l2) (d2 : l2 ≤ h2) (c3 : h2 ≤ l3) (d3 : l3 ≤ h3) (c4 : h3 ≤ l4) (d4 : l4 ≤ h4) (c5 : h4 ≤ l5) (d5 : l5 ≤ h5) (c6 : h5 ≤ w.heap.size) :
    Sx B w.heap.size W (w.alloc (.cells #[n0, v0, n1, v1, n2, v2, n3, v3, n4, v4, n5, v5] 24)) (pick6 n0 n1 n2 n3 n4 n5) (pick6 v0 v1 v2 v3 v4 v5) (pick6 L0 L1 L2 L3 L4 L5) := by
  have hB : B ≤ w.heap.size := by omega
  have key : ∀ j, j < 6 → ∃ l h, Own l h w (pick6 v0 v1 v2 v3 v4 v5 j) (pick6 L0 L1 L2 L3 L4 L5 j) ∧ l = pick6 l0 l1 l2 l3 l4 l5 j ∧ h = pick6 h0 h1 h2 h3 h4 h5 j ∧ B ≤ l ∧ h ≤ w.heap.size := by
    intro j hj
    rcases six hj with rfl | rfl | rfl | rfl | rfl | rfl
    · exact ⟨_, _, o0, rfl, rfl, by omega, by omega⟩
    · exact ⟨_, _, o1, rfl, rfl, by omega, by omega⟩
    · exact ⟨_, _, o2, rfl, rfl, by omega, by omega⟩
    · exact ⟨_, _, o3, rfl, rfl, by omega, by omega⟩
    · exact ⟨_, _, o4, rfl, rfl, by omega, by omega⟩
    · exact ⟨_, _, o5, rfl, rfl, by omega, by omega⟩
  have ord : ∀ i j, i < j → j < 6 → pick6 h0 h1 h2 h3 h4 h5 i ≤ pick6 l0 l1 l2 l3 l4 l5 j := by
    intro i j hij hj
    rcases six hj with rfl | rfl | rfl | rfl | rfl | rfl
    all_goals rcases six (Nat.lt_trans hij hj) with rfl | rfl | rfl | rfl | rfl | rfl
    all_goals (simp only [pick6]; omega)
  have apart : ∀ i j g, i < j → j < 6 → (pick6 v0 v1 v2 v3 v4 v5 i).ownBlock = some g → (pick6 v0 v1 v2 v3 v4 v5 j).ownBlock = some g → False := by
    intro i j g hij hj hi hj2
    obtain ⟨l, h, oi, _, eh, _⟩ := key i (by omega)
    obtain ⟨l', h', oj, el, _, _⟩ := key j hj
    have a1 := oi.below g hi
    have a2 := (oj.row.lt g hj2).1
    have a3 := ord i j hij hj
    omega
  refine ⟨hbel.alloc hB _, hB, heap_alloc_new w _, ?_, ?_, ?_, ?_⟩
  · intro j hj
    obtain ⟨l, h, oj, _, _, hl, _⟩ := key j hj
    exact own_base (oj.alloc _).row hl
  · intro j hj e
    obtain ⟨l, h, oj, _, _, _, hh⟩ := key j hj
    have := oj.below _ e
    omega
  · intro i j g hi hj e1 e2
    rcases Nat.lt_trichotomy i j with h | h | h
    · exact (apart i j g h hj e1 e2).elim
    · exact h
    · exact (apart j i g h hi e2 e1).elim
  · intro j hj
    obtain ⟨l, h, oj, _⟩ := key j hj
    have := oj.len
    omega

theorem pick6_len {L0 L1 L2 L3 L4 L5 : List Nat} (h0 : L0.length ≤ 128) (h1 : L1.length ≤ 128) (h2 : L2.length ≤ 128) (h3 : L3.length ≤ 128) (h4 : L4.length ≤ 128) (h5 : L5.length ≤ 128) (j : Nat) (hj : j < 6) : (pick6 L0 L1 L2 L3 L4 L5 j).length ≤ 128 := by
  rcases six hj with rfl | rfl | rfl | rfl | rfl | rfl
  · exact h0
  · exact h1
  · exact h2
  · exact h3
  · exact h4
  · exact h5

theorem upd_self {α : Type} (f : Nat → α) (k : Nat) : upd f k (f k) = f := by
  funext j
  by_cases h : j = k
  · subst h; exact upd_same _ _ _
  · exact upd_other _ _ h

theorem upd_upd {α : Type} (f : Nat → α) (k : Nat) (x y : α) : upd (upd f k x) k y = upd f k y := by
  funext j
  by_cases h : j = k
  · subst h; rw [upd_same, upd_same]
  · rw [upd_other _ _ h, upd_other _ _ h, upd_other _ _ h]

theorem set_done {L : List Nat} {k l : Nat} (h : ∀ t, t < l → L.getD t 0 = 100 * k + t) (hl : l < L.length) : ∀ t, t < l + 1 → (L.set l (100 * k + l)).getD t 0 = 100 * k + t := by
  intro t ht
  rw [List.getD_eq_getElem?_getD, List.getElem?_set]
  by_cases e : l = t
  · subst e; simp [hl]
  · rw [if_neg e, ← List.getD_eq_getElem?_getD]; exact h t (by omega)

/-- The words that the law wrote, but for the last. -/
def Fil (k : Nat) (L : List Nat) : Prop := ∀ l, l + 1 < L.length → L.getD l 0 = 100 * k + l

theorem full_two {w : World} {G : Nat} {xs : List Nat} (h : Rd w (some ⟨G, 0, none⟩) (xs ++ [71, 72])) : w.cell? ⟨G, xs.length, none⟩ = some (.int .u64 71) ∧ w.cell? ⟨G, xs.length + 1, none⟩ = some (.int .u64 72) := by
  obtain ⟨b, off, e, hc⟩ := h.pl (by simp)
  simp only [Option.some.injEq, Addr.mk.injEq, and_true] at e
  obtain ⟨rfl, rfl⟩ := e
  have h0 := hc xs.length (by simp)
  have h1 := hc (xs.length + 1) (by simp)
  rw [Nat.zero_add, List.getD_eq_getElem?_getD, List.getElem?_append_right (Nat.le_refl _), Nat.sub_self] at h0
  rw [Nat.zero_add, List.getD_eq_getElem?_getD, List.getElem?_append_right (by omega), show xs.length + 1 - xs.length = 1 by omega] at h1
  exact ⟨h0, h1⟩

theorem fil_end {L : List Nat} {k l : Nat} (h : ∀ t, t < l → L.getD t 0 = 100 * k + t) (hl : L.length = l) : Fil k (L ++ [9000 + k]) := by
  intro t ht
  have ht2 : t < l := by simp at ht; omega
  rw [List.getD_eq_getElem?_getD, List.getElem?_append_left (by omega), ← List.getD_eq_getElem?_getD]
  exact h t ht2

theorem Sx.append {B A : Nat} {W w : World} {ns vs : Nat → Value} {Ls : Nat → List Nat} (h : Sx B A W w ns vs Ls) {k : Nat} (hk : k < 6) (z : Nat) (hl : (Ls k).length < 200) :
    ∃ g' c' w', (Builtin.append_ #[22, 22] 22 #[vs k, .slice (some ⟨w.heap.size, 0, none⟩) 1 1]).run Try.prog (w.alloc (.cells #[.int .u64 z] 55)) = .ok (.slice (some ⟨g', 0, none⟩) ((Ls k).length + 1) c') w' ∧
      w'.cell? ⟨A, k * 2 + 1, none⟩ = some (vs k) ∧ w'.frozen? ⟨A, k * 2 + 1, none⟩ = false ∧ Sx B A W (w'.setCell ⟨A, k * 2 + 1, none⟩ (.slice (some ⟨g', 0, none⟩) ((Ls k).length + 1) c')) ns (upd vs k (.slice (some ⟨g', 0, none⟩) ((Ls k).length + 1) c')) (upd Ls k (Ls k ++ [z])) := by
  obtain ⟨i0, hi, hz0, hz1, hz2⟩ := info_parts Try.infoW
  have h2 := h.alloc (.cells #[.int .u64 z] 55)
  have hA := h2.lt
  have hba := h.ba
  have hcell : ∀ j u, ([z].map fun z : Nat => Value.int .u64 z)[j]? = some u → (w.alloc (.cells #[.int .u64 z] 55)).cell? ((⟨w.heap.size, 0, none⟩ : Addr).add j) = some u := by
    have h0 := heap_alloc_new w (.cells #[.int .u64 z] 55)
    refine src_cells (zs := [z]) ?_
    intro t ht
    have ht2 : t < 1 := ht
    rw [Nat.zero_add, cell_of_row _ _ t _ _ _ h0]
    obtain rfl : t = 0 := by omega
    rfl
  obtain ⟨v', w', hr, ho, hgr, _, hat⟩ := run_append_own_at (P := Try.prog) _ B 22 22 55 i0 (.int .u64 0) 1 8 Try.underS hi hz0 hz1 hz2 rfl (by decide) (vs k) (Ls k).length _ (h2.own k hk) ⟨w.heap.size, 0, none⟩ 1 1 _ rfl hcell (one_cells [z]) (by unfold maxLen; omega) (by omega) (by omega)
  rcases ho.2 with ⟨_, e⟩ | ⟨g', c', _, rfl, _⟩
  · omega
  · exact ⟨g', c', w', hr, h2.grown hk hgr ho hat hl⟩

set_option maxRecDepth 10000 in
set_option maxHeartbeats 4000000 in
theorem keep_any (n m i v : Int) (ao bo : Option Addr) (ca cb : Nat) (xs ys : List Nat) (w : World) (h : Rd w ao xs) (g : Rd w bo ys) (hl : xs.length ≤ 17592186043904) (gl : ys.length ≤ 17592186043904) (hca : ao = none → ca = 0) (hcb : bo = none → cb = 0) :
    Calls Try.prog 8 #[.agg #[.int .i64 n, .slice ao xs.length ca], .agg #[.int .i64 m, .slice bo ys.length cb], .int .i64 i, .int .i64 v] w fun e w' => e = .returned (.bool true) ∧ Below w.heap.size w w' := by
  obtain ⟨s1, s2⟩ := st_two w (.int .i64 n) (.slice ao xs.length ca) (.int .i64 m) (.slice bo ys.length cb)
  have B := below_two w (.cells #[.int .i64 n, .slice ao xs.length ca] 24) (.cells #[.int .i64 m, .slice bo ys.length cb] 24)
  have h2 := h.up B
  have g2 := g.up B
  clear h g
  go_enter Try.func8, Try.ntmps8
  go_wp2_with fail
  refine (awake_any _).mono ?_
  rintro e w1 ⟨rfl, hb⟩
  replace s1 := s1.up hb
  replace s2 := s2.up hb
  replace h2 := h2.up hb
  replace g2 := g2.up hb
  have Bx := Below.thn B hb
  clear B hb
  obtain ⟨c0, c1, _, _⟩ := (s1.alloc (.cells #[] 55)).cells
  obtain ⟨v1, w2, hr1, ho1, hb1⟩ := append_own (w1.alloc (.cells #[] 55)) w1.heap.size ao ca xs (heap_alloc_new w1 _) (h2.alloc _) hl hca
  obtain ⟨G, cG, w3, hr2, hfull, hcG, hb2⟩ := append_two w2 w1.heap.size v1 xs ho1 (Nat.le_trans (by simp) hb1.size) hl h2.lt
  have hb3 : Below w1.heap.size w1 w3 := (below_alloc w1 _).trans (hb1.trans hb2)
  have HR1 : Hid (_ = _) := hr1
  have HR2 : Hid (_ = _) := hr2
  clear hr1 hr2 hb1 hb2 ho1
  go_upto_region 4 with (first
    | (at_builtin; refine wpList_append_run rfl _ _ 22 rfl rfl _ _ rfl rfl _ _ (show _ = _ from HR1) ?_)
    | (at_builtin; refine wpList_append_run rfl _ _ 22 rfl rfl _ _ rfl rfl _ _ (show _ = _ from HR2) ?_)
    | fail)
  clear HR1 HR2 c0 c1
  replace s1 := s1.up hb3
  replace s2 := s2.up hb3
  replace h2 := h2.up hb3
  replace g2 := g2.up hb3
  replace Bx := Below.thn Bx hb3
  clear hb3
  obtain ⟨c0, c1, _, _⟩ := s1.cells
  obtain ⟨d0, d1, _, _⟩ := (s1.alloc (.cells #[.int .i64 0, .slice none 0 0] 24)).cells
  have hcG1 : xs.length ≤ cG := by omega
  go_region
  clear c0 c1 d0 d1
  have sa := St.new w3 (.int .i64 n) (.slice (some ⟨G, 0, none⟩) xs.length cG)
  replace s1 := s1.alloc (.cells #[.int .i64 n, .slice (some ⟨G, 0, none⟩) xs.length cG] 24)
  replace s2 := s2.alloc (.cells #[.int .i64 n, .slice (some ⟨G, 0, none⟩) xs.length cG] 24)
  replace h2 := h2.alloc (.cells #[.int .i64 n, .slice (some ⟨G, 0, none⟩) xs.length cG] 24)
  replace g2 := g2.alloc (.cells #[.int .i64 n, .slice (some ⟨G, 0, none⟩) xs.length cG] 24)
  replace hfull := hfull.alloc (.cells #[.int .i64 n, .slice (some ⟨G, 0, none⟩) xs.length cG] 24)
  replace Bx := (Below.thn Bx (below_alloc _ (.cells #[.int .i64 n, .slice (some ⟨G, 0, none⟩) xs.length cG] 24))).drew
  have sa : St (w3.alloc (.cells #[.int .i64 n, .slice (some ⟨G, 0, none⟩) xs.length cG] 24)).drew w3.heap.size (.int .i64 n) (.slice (some ⟨G, 0, none⟩) xs.length cG) := sa
  have s1 : St (w3.alloc (.cells #[.int .i64 n, .slice (some ⟨G, 0, none⟩) xs.length cG] 24)).drew _ _ _ := s1
  have s2 : St (w3.alloc (.cells #[.int .i64 n, .slice (some ⟨G, 0, none⟩) xs.length cG] 24)).drew _ _ _ := s2
  have h2 : Rd (w3.alloc (.cells #[.int .i64 n, .slice (some ⟨G, 0, none⟩) xs.length cG] 24)).drew ao xs := ⟨h2.lt, h2.pl⟩
  have g2 : Rd (w3.alloc (.cells #[.int .i64 n, .slice (some ⟨G, 0, none⟩) xs.length cG] 24)).drew bo ys := ⟨g2.lt, g2.pl⟩
  have hfull : Rd (w3.alloc (.cells #[.int .i64 n, .slice (some ⟨G, 0, none⟩) xs.length cG] 24)).drew (some ⟨G, 0, none⟩) (xs ++ [71, 72]) := ⟨hfull.lt, hfull.pl⟩
  generalize (w3.alloc (.cells #[.int .i64 n, .slice (some ⟨G, 0, none⟩) xs.length cG] 24)).drew = W4 at *
  generalize w3.heap.size = Ba at *
  obtain ⟨d0, d1, _, _⟩ := s2.cells
  go_wp2_with fail
  refine (copied_any m bo cb ys _ g2 gl hcb).mono ?_
  rintro e w5 ⟨sB, cB, rfl, rb, hb⟩
  have K : KE (w5.alloc (.cells #[.int .i64 m, .slice sB ys.length cB] 24)) w.heap.size Ba w5.heap.size G cG cB n m ao bo sB ca cb xs ys :=
    ⟨(s1.up hb).alloc _, (s2.up hb).alloc _, (sa.up hb).alloc _, St.new w5 _ _, (h2.up hb).alloc _, (g2.up hb).alloc _, (hfull.up hb).alloc _, rb.alloc _⟩
  replace Bx := Below.thn (Below.thn Bx hb) (below_alloc _ (.cells #[.int .i64 m, .slice sB ys.length cB] 24))
  clear hb rb s1 s2 sa h2 g2 hfull d0 d1
  have K0 := K
  have Bk := Below.refl (w5.alloc (.cells #[.int .i64 m, .slice sB ys.length cB] 24)).heap.size (w5.alloc (.cells #[.int .i64 m, .slice sB ys.length cB] 24))
  obtain ⟨a0, a1, _, _⟩ := K.sa.cells
  obtain ⟨b0, b1, _, _⟩ := K.sb.cells
  obtain ⟨x0, x1, _, _⟩ := K.sx.cells
  go_wp2_with fail
  refine (put_ans n (some ⟨G, 0, none⟩) cG xs i v _ K.rf.front hl).mono ?_
  rintro e w_P ⟨N_P, E_P, L_P, s_P, c_P, rfl, O_P, hb⟩
  clear a0 a1 b0 b1 x0 x1
  replace K := (K.up hb).alloc (.cells #[.int .i64 N_P, .slice s_P L_P.length c_P] 24)
  have z_P := hb.size
  replace Bk := Below.thn (Below.thn Bk hb) (below_alloc _ (.cells #[.int .i64 N_P, .slice s_P L_P.length c_P] 24))
  replace O_P := O_P.alloc (.cells #[.int .i64 N_P, .slice s_P L_P.length c_P] 24)
  have t_P := St.new w_P (.int .i64 N_P) (.slice s_P L_P.length c_P)
  clear hb
  obtain ⟨a0, a1, _, _⟩ := K.sa.cells
  obtain ⟨b0, b1, _, _⟩ := K.sb.cells
  obtain ⟨x0, x1, _, _⟩ := K.sx.cells
  go_wp2_with fail
  refine (put_ans n (some ⟨G, 0, none⟩) cG xs i v _ K.rf.front hl).mono ?_
  rintro e w_Q ⟨N_Q, E_Q, L_Q, s_Q, c_Q, rfl, O_Q, hb⟩
  clear a0 a1 b0 b1 x0 x1
  replace K := (K.up hb).alloc (.cells #[.int .i64 N_Q, .slice s_Q L_Q.length c_Q] 24)
  have z_Q := hb.size
  replace Bk := Below.thn (Below.thn Bk hb) (below_alloc _ (.cells #[.int .i64 N_Q, .slice s_Q L_Q.length c_Q] 24))
  replace O_P := (O_P.up hb).alloc (.cells #[.int .i64 N_Q, .slice s_Q L_Q.length c_Q] 24)
  replace t_P := (t_P.up hb).alloc (.cells #[.int .i64 N_Q, .slice s_Q L_Q.length c_Q] 24)
  replace O_Q := O_Q.alloc (.cells #[.int .i64 N_Q, .slice s_Q L_Q.length c_Q] 24)
  have t_Q := St.new w_Q (.int .i64 N_Q) (.slice s_Q L_Q.length c_Q)
  clear hb
  obtain ⟨a0, a1, _, _⟩ := K.sa.cells
  obtain ⟨b0, b1, _, _⟩ := K.sb.cells
  obtain ⟨x0, x1, _, _⟩ := K.sx.cells
  go_wp2_with fail
  refine (join_ans n m (some ⟨G, 0, none⟩) sB cG cB xs ys _ K.rf.front K.rb hl gl).mono ?_
  rintro e w_J ⟨N_J, E_J, L_J, s_J, c_J, rfl, O_J, hb⟩
  clear a0 a1 b0 b1 x0 x1
  replace K := (K.up hb).alloc (.cells #[.int .i64 N_J, .slice s_J L_J.length c_J] 24)
  have z_J := hb.size
  replace Bk := Below.thn (Below.thn Bk hb) (below_alloc _ (.cells #[.int .i64 N_J, .slice s_J L_J.length c_J] 24))
  replace O_P := (O_P.up hb).alloc (.cells #[.int .i64 N_J, .slice s_J L_J.length c_J] 24)
  replace t_P := (t_P.up hb).alloc (.cells #[.int .i64 N_J, .slice s_J L_J.length c_J] 24)
  replace O_Q := (O_Q.up hb).alloc (.cells #[.int .i64 N_J, .slice s_J L_J.length c_J] 24)
  replace t_Q := (t_Q.up hb).alloc (.cells #[.int .i64 N_J, .slice s_J L_J.length c_J] 24)
  replace O_J := O_J.alloc (.cells #[.int .i64 N_J, .slice s_J L_J.length c_J] 24)
  have t_J := St.new w_J (.int .i64 N_J) (.slice s_J L_J.length c_J)
  clear hb
  obtain ⟨a0, a1, _, _⟩ := K.sa.cells
  obtain ⟨b0, b1, _, _⟩ := K.sb.cells
  obtain ⟨x0, x1, _, _⟩ := K.sx.cells
  go_wp2_with fail
  refine (meet_ans m n sB (some ⟨G, 0, none⟩) cB cG ys xs _ K.rb K.rf.front gl hl).mono ?_
  rintro e w_M ⟨N_M, E_M, L_M, s_M, c_M, rfl, O_M, hb⟩
  clear a0 a1 b0 b1 x0 x1
  replace K := (K.up hb).alloc (.cells #[.int .i64 N_M, .slice s_M L_M.length c_M] 24)
  have z_M := hb.size
  replace Bk := Below.thn (Below.thn Bk hb) (below_alloc _ (.cells #[.int .i64 N_M, .slice s_M L_M.length c_M] 24))
  replace O_P := (O_P.up hb).alloc (.cells #[.int .i64 N_M, .slice s_M L_M.length c_M] 24)
  replace t_P := (t_P.up hb).alloc (.cells #[.int .i64 N_M, .slice s_M L_M.length c_M] 24)
  replace O_Q := (O_Q.up hb).alloc (.cells #[.int .i64 N_M, .slice s_M L_M.length c_M] 24)
  replace t_Q := (t_Q.up hb).alloc (.cells #[.int .i64 N_M, .slice s_M L_M.length c_M] 24)
  replace O_J := (O_J.up hb).alloc (.cells #[.int .i64 N_M, .slice s_M L_M.length c_M] 24)
  replace t_J := (t_J.up hb).alloc (.cells #[.int .i64 N_M, .slice s_M L_M.length c_M] 24)
  replace O_M := O_M.alloc (.cells #[.int .i64 N_M, .slice s_M L_M.length c_M] 24)
  have t_M := St.new w_M (.int .i64 N_M) (.slice s_M L_M.length c_M)
  clear hb
  obtain ⟨a0, a1, _, _⟩ := K.sa.cells
  obtain ⟨b0, b1, _, _⟩ := K.sb.cells
  obtain ⟨x0, x1, _, _⟩ := K.sx.cells
  go_wp2_with fail
  refine (new_ans n _).mono ?_
  rintro e w_N ⟨N_N, E_N, L_N, s_N, c_N, rfl, O_N, hb⟩
  clear a0 a1 b0 b1 x0 x1
  replace K := (K.up hb).alloc (.cells #[.int .i64 N_N, .slice s_N L_N.length c_N] 24)
  have z_N := hb.size
  replace Bk := Below.thn (Below.thn Bk hb) (below_alloc _ (.cells #[.int .i64 N_N, .slice s_N L_N.length c_N] 24))
  replace O_P := (O_P.up hb).alloc (.cells #[.int .i64 N_N, .slice s_N L_N.length c_N] 24)
  replace t_P := (t_P.up hb).alloc (.cells #[.int .i64 N_N, .slice s_N L_N.length c_N] 24)
  replace O_Q := (O_Q.up hb).alloc (.cells #[.int .i64 N_N, .slice s_N L_N.length c_N] 24)
  replace t_Q := (t_Q.up hb).alloc (.cells #[.int .i64 N_N, .slice s_N L_N.length c_N] 24)
  replace O_J := (O_J.up hb).alloc (.cells #[.int .i64 N_N, .slice s_N L_N.length c_N] 24)
  replace t_J := (t_J.up hb).alloc (.cells #[.int .i64 N_N, .slice s_N L_N.length c_N] 24)
  replace O_M := (O_M.up hb).alloc (.cells #[.int .i64 N_N, .slice s_N L_N.length c_N] 24)
  replace t_M := (t_M.up hb).alloc (.cells #[.int .i64 N_N, .slice s_N L_N.length c_N] 24)
  replace O_N := O_N.alloc (.cells #[.int .i64 N_N, .slice s_N L_N.length c_N] 24)
  have t_N := St.new w_N (.int .i64 N_N) (.slice s_N L_N.length c_N)
  clear hb
  obtain ⟨a0, a1, _, _⟩ := K.sa.cells
  obtain ⟨b0, b1, _, _⟩ := K.sb.cells
  obtain ⟨x0, x1, _, _⟩ := K.sx.cells
  go_wp2_with fail
  refine (new_ans n _).mono ?_
  rintro e w_O ⟨N_O, E_O, L_O, s_O, c_O, rfl, O_O, hb⟩
  clear a0 a1 b0 b1 x0 x1
  replace K := (K.up hb).alloc (.cells #[.int .i64 N_O, .slice s_O L_O.length c_O] 24)
  have z_O := hb.size
  replace Bk := Below.thn (Below.thn Bk hb) (below_alloc _ (.cells #[.int .i64 N_O, .slice s_O L_O.length c_O] 24))
  replace O_P := (O_P.up hb).alloc (.cells #[.int .i64 N_O, .slice s_O L_O.length c_O] 24)
  replace t_P := (t_P.up hb).alloc (.cells #[.int .i64 N_O, .slice s_O L_O.length c_O] 24)
  replace O_Q := (O_Q.up hb).alloc (.cells #[.int .i64 N_O, .slice s_O L_O.length c_O] 24)
  replace t_Q := (t_Q.up hb).alloc (.cells #[.int .i64 N_O, .slice s_O L_O.length c_O] 24)
  replace O_J := (O_J.up hb).alloc (.cells #[.int .i64 N_O, .slice s_O L_O.length c_O] 24)
  replace t_J := (t_J.up hb).alloc (.cells #[.int .i64 N_O, .slice s_O L_O.length c_O] 24)
  replace O_M := (O_M.up hb).alloc (.cells #[.int .i64 N_O, .slice s_O L_O.length c_O] 24)
  replace t_M := (t_M.up hb).alloc (.cells #[.int .i64 N_O, .slice s_O L_O.length c_O] 24)
  replace O_N := (O_N.up hb).alloc (.cells #[.int .i64 N_O, .slice s_O L_O.length c_O] 24)
  replace t_N := (t_N.up hb).alloc (.cells #[.int .i64 N_O, .slice s_O L_O.length c_O] 24)
  replace O_O := O_O.alloc (.cells #[.int .i64 N_O, .slice s_O L_O.length c_O] 24)
  have t_O := St.new w_O (.int .i64 N_O) (.slice s_O L_O.length c_O)
  clear hb
  clear K
  obtain ⟨p0, p1, _, _⟩ := t_P.cells
  obtain ⟨q0, q1, _, _⟩ := t_Q.cells
  obtain ⟨j0, j1, _, _⟩ := t_J.cells
  obtain ⟨m0, m1, _, _⟩ := t_M.cells
  obtain ⟨n0, n1, _, _⟩ := t_N.cells
  obtain ⟨o0, o1, _, _⟩ := t_O.cells
  have S0 := sx_make Bk (.int .i64 N_P) (.int .i64 N_Q) (.int .i64 N_J) (.int .i64 N_M) (.int .i64 N_N) (.int .i64 N_O) O_P O_Q O_J O_M O_N O_O (Nat.le_refl _) z_P (by simp) z_Q (by simp) z_J (by simp) z_M (by simp) z_N (by simp) z_O (by simp)
  have hlen := pick6_len O_P.len O_Q.len O_J.len O_M.len O_N.len O_O.len
  clear t_P t_Q t_J t_M t_N t_O O_P O_Q O_J O_M O_N O_O z_P z_Q z_J z_M z_N z_O Bk
  go_wp2
  have eA : (w_O.alloc (.cells #[.int .i64 N_O, .slice s_O L_O.length c_O] 24)).heap.size = w_O.heap.size + 1 := by simp
  rw [eA] at S0
  generalize ((w_O.alloc (.cells #[.int .i64 N_O, .slice s_O L_O.length c_O] 24)).alloc _) = W1 at *
  generalize w_O.heap.size + 1 = A at *
  generalize (w5.alloc (.cells #[.int .i64 m, .slice sB ys.length cB] 24)) = W0 at *
  generalize (pick6 (Value.int .i64 N_P) _ _ _ _ _) = ns at *
  generalize (pick6 (Value.slice s_P L_P.length c_P) _ _ _ _ _) = vs0 at *
  generalize (pick6 L_P _ _ _ _ _) = Ls0 at *
  clear p0 p1 q0 q1 j0 j1 m0 m1 n0 n1 o0 o1 eA
  go_loopw [25] (fun vk wr => ∃ (k : Nat) (vs : Nat → Value) (Ls : Nat → List Nat), k ≤ 6 ∧ vk = .int .i64 k ∧ Sx W0.heap.size A W0 wr ns vs Ls ∧ (∀ j, j < k → Fil j (Ls j)) ∧ ∀ j, k ≤ j → j < 6 → (Ls j).length ≤ 128) (fun vk _ => 6 - (intOf vk).toNat)
  case atStart => exact ⟨0, vs0, Ls0, by omega, rfl, S0, fun j hj => absurd hj (by omega), fun j _ hj => hlen j hj⟩
  case round =>
    obtain ⟨k, vs, Ls, hk6, rfl, S, hfil, hshort⟩ := hrel
    clear S0 hlen
    by_cases hk : k < 6
    · have hk' : (k : Int) < 6 := by omega
      go_wp2
      obtain ⟨wo, rfl⟩ : ∃ wo : World, wo = wr := ⟨_, rfl⟩
      obtain ⟨N, hN⟩ : ∃ N, N = (Ls k).length := ⟨_, rfl⟩
      have hN1 : N ≤ 128 := by rw [hN]; exact hshort k (Nat.le_refl _) hk
      go_loopw [26] (fun vl wr => ∃ (l : Nat) (L : List Nat), l ≤ N ∧ vl = .int .i64 l ∧ Hid (L.length = N) ∧ Sx W0.heap.size A W0 wr ns vs (upd Ls k L) ∧ ∀ t, t < l → L.getD t 0 = 100 * k + t) (fun vl _ => N - (intOf vl).toNat)
      case atStart => exact ⟨0, Ls k, by omega, rfl, hN.symm, by rw [upd_self]; exact S, fun j hj => absurd hj (by omega)⟩
      case round =>
        obtain ⟨l, L, hlN, rfl, hL, S2, hdone⟩ := hrel
        clear S hN
        have V := S2.view hk
        have C := S2.at hk
        rw [upd_same, show L.length = N from hL] at V
        by_cases hlt : l < N
        · rcases V with ⟨_, e⟩ | ⟨g, cap, ev, hgA, hcell, hfree⟩
          · have hL' : L.length = N := hL
            rw [e] at hL'; simp at hL'; omega
          · rw [ev] at C
            obtain ⟨c0, c1⟩ := C
            have x0 := hcell l hlt
            have x1 := hfree l
            have hlt' : (l : Int) < N := by omega
            clear hcell hfree
            go_wp2
            refine ⟨⟨l + 1, L.set l (100 * k + l), by omega, by go_num, ?_, ?_, ?_⟩, ?_⟩
            · show (L.set l (100 * k + l)).length = N
              rw [List.length_set]; exact hL
            · have st := S2.store (g := g) (cap := cap) hk (by rw [ev, upd_same, show L.length = N from hL]) l (100 * k + l) (by rw [upd_same, show L.length = N from hL]; exact hlt)
              rw [upd_same, upd_upd, show ((100 * k + l : Nat) : Int) = 100 * (k : Int) + (l : Int) by omega] at st
              exact st
            · exact set_done hdone (by rw [show L.length = N from hL]; exact hlt)
            · simp only [intOf]; omega
        · have hle : l = N := by omega
          subst hle
          have hv : ∃ so cap, vs k = .slice so l cap := by
            rcases V with ⟨ev, e⟩ | ⟨g, cap, ev, _⟩
            · have hL' : L.length = l := hL
              rw [e] at hL'
              exact ⟨none, 0, by rw [ev]; simp only [List.length_nil] at hL'; rw [← hL']⟩
            · exact ⟨_, _, ev⟩
          obtain ⟨so, cap, ev⟩ := hv
          rw [ev] at C
          clear V
          obtain ⟨g', c', w', hr, c0', c1', S3⟩ := S2.append hk (9000 + k) (by rw [upd_same, show L.length = l from hL]; omega)
          rw [ev, upd_same, show L.length = l from hL] at hr
          rw [ev] at c0'
          rw [upd_same, upd_upd, show L.length = l from hL] at S3
          have HR : Hid (_ = _) := hr
          clear hr
          obtain ⟨c0, c1⟩ := C
          go_wp2_with (first
            | (at_builtin; refine wpList_append_run rfl _ _ 22 rfl rfl _ _ rfl rfl _ _ (show _ = _ from HR) ?_)
            | fail)
          refine ⟨⟨k + 1, _, _, by omega, by go_num, S3, ?_, ?_⟩, by simp only [intOf]; omega⟩
          · intro j hj
            by_cases e : j = k
            · subst e; rw [upd_same]; exact fil_end hdone hL
            · rw [upd_other _ _ e]; exact hfil j (by omega)
          · intro j hj hj6
            rw [upd_other _ _ (by omega)]; exact hshort j (by omega) hj6
    · have hk2 : k = 6 := by omega
      subst hk2
      clear hshort hk hk6
      go_wp2
      generalize wr = W2 at *
      go_loopw [27] (fun vk wr => ∃ k : Nat, k ≤ 6 ∧ vk = .int .i64 k ∧ wr = W2) (fun vk _ => 6 - (intOf vk).toNat)
      case atStart => exact ⟨0, by omega, rfl, rfl⟩
      case round =>
        obtain ⟨k, hk6, rfl, hw⟩ := hrel
        replace hw := hw.symm
        subst hw
        by_cases hk : k < 6
        · have hk' : (k : Int) < 6 := by omega
          obtain ⟨N, hN⟩ : ∃ N, N = (Ls k).length := ⟨_, rfl⟩
          have V := S.view hk
          obtain ⟨c0, c1⟩ := S.at hk
          have hF := hfil k hk
          have hN2 := S.len k hk
          unfold Fil at hF
          rw [← hN] at V hF hN2
          have hv : ∃ so cap, vs k = .slice so N cap := by
            rcases V with ⟨ev, e⟩ | ⟨g, cap, ev, _⟩
            · rw [e] at hN
              exact ⟨none, 0, by rw [ev, hN]; rfl⟩
            · exact ⟨_, _, ev⟩
          obtain ⟨so, cap, ev⟩ := hv
          rw [ev] at c0 V
          go_wp2
          go_loopw [28] (fun vl wr => ∃ l : Nat, l ≤ N ∧ vl = .int .i64 l ∧ wr = W2) (fun vl _ => N - (intOf vl).toNat)
          case atStart => exact ⟨0, by omega, rfl, rfl⟩
          case round =>
            obtain ⟨l, hlN, rfl, hw⟩ := hrel
            replace hw := hw.symm
            subst hw
            by_cases hlt : l + 1 < N
            · rcases V with ⟨e, _⟩ | ⟨g, cap', e, hgA, hcell, hfree⟩
              · simp only [Value.slice.injEq] at e; omega
              · simp only [Value.slice.injEq, true_and] at e
                obtain ⟨rfl, rfl⟩ := e
                have x0 := hcell l (by omega)
                rw [hF l hlt, show ((100 * k + l : Nat) : Int) = 100 * (k : Int) + (l : Int) by omega] at x0
                have hlt' : (l : Int) + 1 < N := by omega
                have hlt2 : (l : Int) < N := by omega
                clear hcell hfree
                go_wp2
                exact ⟨⟨l + 1, by omega, by go_num, trivial⟩, by simp only [intOf]; omega⟩
            · have hlt' : ¬ ((l : Int) + 1 < N) := by omega
              go_wp2
              exact ⟨⟨k + 1, by omega, by go_num, trivial⟩, by simp only [intOf]; omega⟩
        · have hk2 : k = 6 := by omega
          subst hk2
          have K := K0.up S.bel
          have Bz := Below.thn Bx S.bel
          clear S hfil hk hk6 K0 Bx
          obtain ⟨a0, a1, _, _⟩ := K.sa.cells
          obtain ⟨x0, x1, _, _⟩ := K.sx.cells
          have hsame := same_any n n (some ⟨G, 0, none⟩) ao cG ca xs xs _ K.rf.front K.rx hl hl
          rw [show sameR n n xs xs = true by simp [sameR]] at hsame
          go_wp2_with fail
          refine hsame.mono ?_
          rintro e w7 ⟨rfl, hb⟩
          clear hsame a0 a1 x0 x1
          replace K := K.up hb
          replace Bz := Below.thn Bz hb
          clear hb
          obtain ⟨b0, b1, _, _⟩ := K.sb.cells
          obtain ⟨y0, y1, _, _⟩ := K.sy.cells
          have hsame := same_any m m sB bo cB cb ys ys _ K.rb K.ry gl gl
          rw [show sameR m m ys ys = true by simp [sameR]] at hsame
          go_wp2_with fail
          refine hsame.mono ?_
          rintro e w8 ⟨rfl, hb⟩
          clear hsame b0 b1 y0 y1
          replace K := K.up hb
          replace Bz := Below.thn Bz hb
          clear hb
          obtain ⟨x0, x1, _, _⟩ := K.sx.cells
          obtain ⟨f0, f1⟩ := full_two K.rf
          clear K
          go_wp2
          go_ret
          exact ⟨rfl, Bz⟩
end Go.Proofs.Ytmckdefemdcknaa
