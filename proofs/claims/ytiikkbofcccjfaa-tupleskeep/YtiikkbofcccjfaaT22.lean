/-
  What stays while rows of the call's own are written; rows appended to.
-/
import Derived.Test.YtiikkbofcccjfaaT19
import Derived.Maps.AppendAt
namespace Go.Proofs.Ytiikkbofcccjfaa
open Go.RowKit
open Go.Lib
open RowsM
set_option maxRecDepth 100000

/-- All that lay there lies there still, but for the blocks of S. -/
structure ButS (S : Nat → Prop) (w w' : World) : Prop where
  os : w'.os = w.os
  tape : w'.tape = w.tape
  output : w'.output = w.output
  size : w.heap.size ≤ w'.heap.size
  block : ∀ k, k < w.heap.size → ¬ S k → w'.heap[k]? = w.heap[k]?
section
variable {S S' : Nat → Prop} {w w' w'' : World}
theorem ButS.refl (S : Nat → Prop) (w : World) : ButS S w w := ⟨rfl, rfl, rfl, Nat.le_refl _, fun _ _ _ => rfl⟩
theorem ButS.trans (h : ButS S w w') (k : ButS S w' w'') : ButS S w w'' :=
  ⟨k.os.trans h.os, k.tape.trans h.tape, k.output.trans h.output, Nat.le_trans h.size k.size, fun b hb hs => (k.block b (Nat.lt_of_lt_of_le hb h.size) hs).trans (h.block b hb hs)⟩
theorem ButS.mono (h : ButS S w w') (hs : ∀ b, S b → S' b) : ButS S' w w' := ⟨h.os, h.tape, h.output, h.size, fun b hb hn => h.block b hb fun k => hn (hs b k)⟩
theorem ButS.below (h : Below w.heap.size w w') : ButS S w w' := ⟨h.os, h.tape, h.output, h.size, fun b hb _ => h.block b hb⟩
theorem ButS.set (a : Addr) (u : Value) : ButS (· = a.block) w (w.setCell a u) := ⟨rfl, rfl, rfl, by simp [World.setCell], fun k _ hn => Below.heap_setCell _ _ _ _ hn⟩
theorem ButS.grownBy {b : Option Nat} (h : w.grownBy w' b) : ButS (fun k => b = some k) w w' := ⟨h.os, h.tape, h.output, h.size, fun k hk hn => h.block k hk fun e => hn e.symm⟩
theorem ButS.toBelow {B : Nat} (h : ButS S w w') (hB : B ≤ w.heap.size) (hs : ∀ b, S b → B ≤ b) : Below B w w' :=
  ⟨h.os, h.tape, h.output, h.size, fun k hk => h.block k (by omega) fun e => by have := hs k e; omega⟩
theorem S4.but {b : Nat} {x y z u : Value} (h : S4 w b x y z u) (hb : ButS S w w') (hn : ¬ S b) : S4 w' b x y z u := by
  unfold S4; rw [hb.block b h.lt hn]; exact h
theorem Iz.but {so : Option Addr} {ks : List Int} (h : Iz w so ks) (hb : ButS S w w') (hn : ks ≠ [] → ∀ b off, so = some ⟨b, off, none⟩ → ¬ S b) : Iz w' so ks := by
  intro hk
  obtain ⟨b, off, e, hc⟩ := h hk
  refine ⟨b, off, e, fun t ht => ?_⟩
  have h1 := hc t ht
  rw [← h1]
  exact World.cell?_of_block (hb.block b (cell_below h1) (hn hk b off e))
theorem Rd.but {so : Option Addr} {xs : List Nat} (h : Rd w so xs) (hb : ButS S w w') (hn : xs ≠ [] → ∀ b off, so = some ⟨b, off, none⟩ → ¬ S b) : Rd w' so xs := by
  refine ⟨h.lt, fun hk => ?_⟩
  obtain ⟨b, off, e, hc⟩ := h.pl hk
  refine ⟨b, off, e, fun t ht => ?_⟩
  have h1 := hc t ht
  rw [← h1]
  exact World.cell?_of_block (hb.block b (cell_below h1) (hn hk b off e))
end

/-- A row of ints that lies among the blocks from lo on, below hi. -/
structure IzL (w : World) (so : Option Addr) (ks : List Int) (lo hi : Nat) : Prop where
  iz : Iz w so ks
  loc : ks ≠ [] → ∀ b off, so = some ⟨b, off, none⟩ → lo ≤ b ∧ b < hi
structure RdL (w : World) (so : Option Addr) (xs : List Nat) (lo hi : Nat) : Prop where
  rd : Rd w so xs
  loc : xs ≠ [] → ∀ b off, so = some ⟨b, off, none⟩ → lo ≤ b ∧ b < hi
/-- A row of the call's own, whatever it holds. -/
structure Wr (w : World) (T : TypeId) (v : Value) (n lo hi : Nat) : Prop where
  own : ∃ vs, w.ownsRow 0 T 1 v n vs
  loc : ∀ g, v.ownBlock = some g → lo ≤ g ∧ g < hi
section
variable {S : Nat → Prop} {w w' : World} {so : Option Addr} {ks : List Int} {xs : List Nat} {lo hi : Nat}
theorem IzL.but (h : IzL w so ks lo hi) (hb : ButS S w w') (hn : ∀ b, lo ≤ b → b < hi → ¬ S b) : IzL w' so ks lo hi := ⟨h.iz.but hb fun hk b off e => hn b (h.loc hk b off e).1 (h.loc hk b off e).2, h.loc⟩
theorem RdL.but (h : RdL w so xs lo hi) (hb : ButS S w w') (hn : ∀ b, lo ≤ b → b < hi → ¬ S b) : RdL w' so xs lo hi := ⟨h.rd.but hb fun hk b off e => hn b (h.loc hk b off e).1 (h.loc hk b off e).2, h.loc⟩
theorem IzL.up (h : IzL w so ks lo hi) (hb : Below w.heap.size w w') : IzL w' so ks lo hi := ⟨h.iz.up hb, h.loc⟩
theorem RdL.up (h : RdL w so xs lo hi) (hb : Below w.heap.size w w') : RdL w' so xs lo hi := ⟨h.rd.up hb, h.loc⟩
theorem Iz.low0 (h : Iz w so ks) {B : Nat} (hB : w.heap.size ≤ B) : IzL w so ks 0 B := ⟨h, fun hk b off e => by subst e; have := h.lt hk; omega⟩
theorem Rd.low0 (h : Rd w so xs) {B : Nat} (hB : w.heap.size ≤ B) : RdL w so xs 0 B := ⟨h, fun hk b off e => by subst e; have := h.lt_block hk; omega⟩
theorem Wr.up {T : TypeId} {v : Value} {n : Nat} (h : Wr w T v n lo hi) (hb : Below w.heap.size w w') : Wr w' T v n lo hi := by
  obtain ⟨vs, ho⟩ := h.own
  exact ⟨⟨vs, owns_up ho hb⟩, h.loc⟩
theorem Wr.but {T : TypeId} {v : Value} {n : Nat} (h : Wr w T v n lo hi) (hb : ButS S w w') (hn : ∀ b, lo ≤ b → b < hi → ¬ S b) : Wr w' T v n lo hi := by
  obtain ⟨vs, ho⟩ := h.own
  refine ⟨⟨vs, ho.1, ?_⟩, h.loc⟩
  rcases id ho.2 with h2 | ⟨g, c, cur, h1, h2, h3, h4⟩
  · exact .inl h2
  · have hl : g < w.heap.size := (Array.getElem?_eq_some_iff.1 h3).1
    have hg := h.loc g (by rw [h1]; rfl)
    exact .inr ⟨g, c, cur, h1, h2, by rw [hb.block g hl (hn g hg.1 hg.2)]; exact h3, h4⟩
/-- A row of another element type stays, though its block be among those that may be written. -/
theorem Wr.kept {T U : TypeId} {v u : Value} {n m lo2 hi2 : Nat} (h : Wr w T v n lo hi) (g : Wr w U u m lo2 hi2) (hTU : T ≠ U) (hb : ButS (fun b => u.ownBlock = some b) w w') : Wr w' T v n lo hi := by
  obtain ⟨vs, ho⟩ := h.own
  obtain ⟨us, hu⟩ := g.own
  refine ⟨⟨vs, ho.1, ?_⟩, h.loc⟩
  rcases id ho.2 with h2 | ⟨b, c, cur, h1, h2, h3, h4⟩
  · exact .inl h2
  · have hl : b < w.heap.size := (Array.getElem?_eq_some_iff.1 h3).1
    have hne : ¬ u.ownBlock = some b := by
      intro e
      rcases hu.2 with ⟨rfl, _⟩ | ⟨b', c', cur', rfl, _, k3, _⟩
      · cases e
      · obtain rfl : b' = b := by simpa [Value.ownBlock] using e
        rw [h3] at k3
        simp only [Option.some.injEq, Obj.cells.injEq] at k3
        exact hTU k3.2.1
    exact .inr ⟨b, c, cur, h1, h2, by rw [hb.block b hl hne]; exact h3, h4⟩
/-- A struct's block is no row's block. -/
theorem S4.kept {b : Nat} {x y z u v : Value} {T : TypeId} {n : Nat} (h : S4 w b x y z u) (g : Wr w T v n lo hi) (hT : T ≠ 43) (hb : ButS (fun b => v.ownBlock = some b) w w') : S4 w' b x y z u := by
  refine h.but hb fun e => ?_
  obtain ⟨us, hu⟩ := g.own
  rcases hu.2 with ⟨rfl, _⟩ | ⟨b', c', cur', rfl, _, k3, _⟩
  · cases e
  · obtain rfl : b' = b := by simpa [Value.ownBlock] using e
    unfold S4 at h
    rw [h] at k3
    simp only [Option.some.injEq, Obj.cells.injEq] at k3
    exact hT k3.2.1.symm
theorem Wr.place {T : TypeId} {po : Option Addr} {n m c : Nat} (h : Wr w T (.slice po n c) m lo hi) {k : Nat} (hk : k < m) : ∃ g, po = some ⟨g, 0, none⟩ := by
  obtain ⟨vs, ho⟩ := h.own
  rcases ho.2 with ⟨_, h0⟩ | ⟨g, c', cur, h1, _⟩
  · omega
  · simp only [Value.slice.injEq] at h1
    exact ⟨g, h1.1⟩
theorem Wr.at {T : TypeId} {g n c : Nat} (h : Wr w T (.slice (some ⟨g, 0, none⟩) n c) n lo hi) {k : Nat} (hk : k < n) (u : Value) :
    (∃ y, w.cell? ⟨g, k, none⟩ = some y) ∧ w.frozen? ⟨g, k, none⟩ = false ∧ Wr (w.setCell ⟨g, k, none⟩ u) T (.slice (some ⟨g, 0, none⟩) n c) n lo hi ∧ ButS (fun b => (Value.slice (some ⟨g, 0, none⟩) n c).ownBlock = some b) w (w.setCell ⟨g, k, none⟩ u) := by
  obtain ⟨vs, ho⟩ := h.own
  refine ⟨?_, ho.frozenAt k, ⟨⟨_, (ho.stored k u).1⟩, h.loc⟩, (ButS.set _ _).mono fun b e => by subst e; rfl⟩
  rw [ho.cellAt k (by omega)]
  have hl := ho.1
  exact ⟨_, List.getElem?_eq_getElem (by omega)⟩
end

theorem own_izL {w' : World} {B : Nat} {T : TypeId} {po : Option Addr} {n c : Nat} {K : List Int} (hO : w'.ownsRow B T 1 (.slice po n c) n (K.map fun z => .int .i64 z)) (hn : n = K.length) : IzL w' po K B w'.heap.size ∧ Wr w' T (.slice po n c) n B w'.heap.size := by
  subst hn
  obtain ⟨ao, c', e, hi, _, hp⟩ := own_iz hO rfl
  simp only [Value.slice.injEq, true_and] at e
  obtain ⟨rfl, rfl⟩ := e
  refine ⟨⟨hi, fun hk b off e => ?_⟩, ⟨⟨_, owns_mono hO (Nat.zero_le _)⟩, fun g hg => hO.lt g hg⟩⟩
  obtain ⟨g, rfl, hg⟩ := hp hk
  simp only [Option.some.injEq, Addr.mk.injEq] at e
  have := hi.lt hk
  omega
theorem fresh_own {w w' : World} {so : Option Addr} {cap : Nat} {L : List Nat} (h : Fresh w w' so cap L) (hl : L.length ≤ maxLen) : RdL w' so L w.heap.size w'.heap.size ∧ Wr w' 68 (.slice so L.length cap) L.length w.heap.size w'.heap.size := by
  rcases id h.2 with ⟨rfl, rfl, rfl⟩ | ⟨g, rfl, rfl, ho, hg⟩
  · exact ⟨⟨h.rd, fun hk => absurd rfl hk⟩, ⟨⟨[], World.ownsRow_nil _ _ _ _⟩, fun g hg => by cases hg⟩⟩
  · have hgl := ho.lt
    refine ⟨⟨h.rd, fun _ b off e => by simp only [Option.some.injEq, Addr.mk.injEq] at e; omega⟩, ⟨⟨L.map fun z : Nat => .int .u64 z, by simp, .inr ⟨g, L.length, _, rfl, Nat.zero_le _, ho, Nat.le_refl _, hl, by simp, by simp [List.take_of_length_le]⟩⟩, fun b e => by simp [Value.ownBlock] at e; omega⟩⟩

/-- Words appended to a row of the call's own. -/
theorem words_app (w : World) (B : Nat) (v : Value) (ao : Option Addr) (c : Nat) (xs ys : List Nat) (h : w.ownsRow B 68 1 v xs.length (xs.map fun z : Nat => Value.int .u64 z)) (hB : B ≤ w.heap.size) (hy : Rd w ao ys) (hcap : ao = none → c = 0) (hsum : xs.length + ys.length ≤ 17592186044416) :
    ∃ v' w', (Builtin.append_ #[39, 39] 39 #[v, .slice ao ys.length c]).run Try.prog w = .ok v' w' ∧ w'.ownsRow B 68 1 v' (xs ++ ys).length ((xs ++ ys).map fun z : Nat => Value.int .u64 z) ∧ w.grownBy w' v.ownBlock := by
  obtain ⟨i0, hi, hz0, hz1, hz2⟩ := info_parts Try.infoW
  cases ao with
  | none =>
    obtain rfl := hcap rfl
    have hyn : ys = [] := by
      cases ys with
      | nil => rfl
      | cons y ys => obtain ⟨b, off, e, _⟩ := hy.pl (by simp); cases e
    subst hyn
    refine ⟨v, w, run_append_owned_none (P := Try.prog) (w := w) B 39 39 68 i0 1 Try.underS hi v xs.length _ h, ?_, ⟨rfl, rfl, rfl, Nat.le_refl _, fun _ _ _ => rfl⟩⟩
    rw [List.append_nil]
    exact h
  | some a =>
    have hnews : ∀ j u, (ys.map fun z : Nat => Value.int .u64 z)[j]? = some u → w.cell? (a.add j) = some u := by
      intro j u hj
      rw [List.getElem?_map] at hj
      cases hq : ys[j]? with
      | none => rw [hq] at hj; cases hj
      | some x =>
        rw [hq] at hj
        simp only [Option.map_some, Option.some.injEq] at hj
        subst hj
        have hjl : j < ys.length := (List.getElem?_eq_some_iff.1 hq).1
        obtain ⟨b, off, e, hc⟩ := hy.pl (by intro e; rw [e] at hjl; simp at hjl)
        cases e
        rw [Addr.add_lit, hc j hjl, List.getD_eq_getElem?_getD, hq]
        rfl
    obtain ⟨v', w', hr, ho, hgr, _⟩ := run_append_own (P := Try.prog) w B 39 39 68 i0 (.int .u64 0) 1 8 Try.underS hi hz0 hz1 hz2 rfl (by decide) v xs.length _ h a ys.length c (ys.map fun z : Nat => .int .u64 z) (by simp) hnews
      (by intro u hu; rw [List.mem_map] at hu; obtain ⟨c, _, rfl⟩ := hu; rfl) (by unfold maxLen; omega) (by omega) hB
    refine ⟨v', w', hr, ?_, hgr⟩
    rw [List.length_append, List.map_append]
    exact ho
theorem own_words {w : World} {B : Nat} {v : Value} {xs : List Nat} (h : w.ownsRow B 68 1 v xs.length (xs.map fun z : Nat => Value.int .u64 z)) (hx : ∀ z, z ∈ xs → z < 18446744073709551616) (hn : xs ≠ []) : ∃ g c, v = .slice (some ⟨g, 0, none⟩) xs.length c ∧ Rd w (some ⟨g, 0, none⟩) xs ∧ xs.length ≤ c ∧ B ≤ g ∧ g < w.heap.size := by
  rcases id h.2 with ⟨rfl, h0⟩ | ⟨g, cap, cur, rfl, hg, hb, h1, h2, h3, ht⟩
  · exact absurd (List.length_eq_zero_iff.1 h0) hn
  · refine ⟨g, cap, rfl, ⟨hx, fun _ => ⟨g, 0, rfl, fun t htl => ?_⟩⟩, h1, hg, (Array.getElem?_eq_some_iff.1 hb).1⟩
    have := World.ownsRow.cellAt h t (by omega)
    rw [Nat.zero_add, this, List.getElem?_map, List.getElem?_eq_getElem htl, List.getD_eq_getElem?_getD, List.getElem?_eq_getElem htl]
    rfl
theorem own_ints {w : World} {B : Nat} {T : TypeId} {v : Value} {xs : List Int} (h : w.ownsRow B T 1 v xs.length (xs.map fun z => Value.int .i64 z)) (hn : xs ≠ []) : ∃ g c, v = .slice (some ⟨g, 0, none⟩) xs.length c ∧ Iz w (some ⟨g, 0, none⟩) xs ∧ xs.length ≤ c ∧ B ≤ g ∧ g < w.heap.size := by
  obtain ⟨ao, c, rfl, hi, hc, hp⟩ := own_iz h rfl
  obtain ⟨g, rfl, hg⟩ := hp hn
  exact ⟨g, c, rfl, hi, hc, hg, hi.lt hn⟩
theorem Iz.front {w : World} {ao : Option Addr} {xs zs : List Int} (h : Iz w ao (xs ++ zs)) : Iz w ao xs := by
  intro hn
  obtain ⟨b, off, e, hc⟩ := h (by simp [hn])
  refine ⟨b, off, e, fun t ht => ?_⟩
  rw [hc t (by simp; omega), List.getD_eq_getElem?_getD, List.getElem?_append_left ht, ← List.getD_eq_getElem?_getD]
theorem Rd.front {w : World} {ao : Option Addr} {xs zs : List Nat} (h : Rd w ao (xs ++ zs)) : Rd w ao xs := by
  refine ⟨fun z hz => h.lt z (List.mem_append_left _ hz), fun hn => ?_⟩
  obtain ⟨b, off, e, hc⟩ := h.pl (by simp [hn])
  refine ⟨b, off, e, fun t ht => ?_⟩
  rw [hc t (by simp; omega), List.getD_eq_getElem?_getD, List.getElem?_append_left ht, ← List.getD_eq_getElem?_getD]
theorem Iz.last {w : World} {g : Nat} {xs : List Int} {z : Int} (h : Iz w (some ⟨g, 0, none⟩) (xs ++ [z])) : w.cell? ⟨g, xs.length, none⟩ = some (.int .i64 z) := by
  obtain ⟨b, off, e, hc⟩ := h (by simp)
  simp only [Option.some.injEq, Addr.mk.injEq, and_true] at e
  obtain ⟨rfl, rfl⟩ := e
  have := hc xs.length (by simp)
  rw [Nat.zero_add] at this
  rw [this]
  simp
theorem Rd.last {w : World} {g : Nat} {xs : List Nat} {z : Nat} (h : Rd w (some ⟨g, 0, none⟩) (xs ++ [z])) : w.cell? ⟨g, xs.length, none⟩ = some (.int .u64 (z : Nat)) := by
  obtain ⟨b, off, e, hc⟩ := h.pl (by simp)
  simp only [Option.some.injEq, Addr.mk.injEq, and_true] at e
  obtain ⟨rfl, rfl⟩ := e
  have := hc xs.length (by simp)
  rw [Nat.zero_add] at this
  rw [this]
  simp
end Go.Proofs.Ytiikkbofcccjfaa
