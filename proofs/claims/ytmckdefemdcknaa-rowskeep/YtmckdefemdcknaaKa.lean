/-
  Six rows in one block of memory, each with words of its own.
-/
import Derived.Test.YtmckdefemdcknaaCp
import Derived.Maps.AppendAt
namespace Go.Proofs.Ytmckdefemdcknaa
open Go.RowKit
open RowsM

def upd {α : Type} (f : Nat → α) (k : Nat) (x : α) : Nat → α := fun j => if j = k then x else f j
theorem upd_same {α : Type} (f : Nat → α) (k : Nat) (x : α) : upd f k x k = x := if_pos rfl
theorem upd_other {α : Type} (f : Nat → α) {k j : Nat} (x : α) (h : j ≠ k) : upd f k x j = f j := if_neg h

/-- The cells of six structs of two cells each. -/
def arr (ns vs : Nat → Value) : Array Value := #[ns 0, vs 0, ns 1, vs 1, ns 2, vs 2, ns 3, vs 3, ns 4, vs 4, ns 5, vs 5]

theorem six {k : Nat} (h : k < 6) : k = 0 ∨ k = 1 ∨ k = 2 ∨ k = 3 ∨ k = 4 ∨ k = 5 := by omega

theorem arr_get (ns vs : Nat → Value) {k : Nat} (hk : k < 6) : (arr ns vs)[k * 2 + 1]? = some (vs k) := by
  rcases six hk with rfl | rfl | rfl | rfl | rfl | rfl <;> rfl

theorem arr_set (ns vs : Nat → Value) {k : Nat} (hk : k < 6) (v : Value) : (arr ns vs).setIfInBounds (k * 2 + 1) v = arr ns (upd vs k v) := by
  rcases six hk with rfl | rfl | rfl | rfl | rfl | rfl <;> rfl

/-- Six slices in block A, each in a block of its own from B on; what lies below B is as in W. -/
structure Sx (B A : Nat) (W w : World) (ns vs : Nat → Value) (Ls : Nat → List Nat) : Prop where
  bel : Below B W w
  ba : B ≤ A
  blk : w.heap[A]? = some (.cells (arr ns vs) 24 (0, 0))
  own : ∀ j, j < 6 → w.ownsRow B 55 1 (vs j) (Ls j).length ((Ls j).map fun z : Nat => Value.int .u64 z)
  na : ∀ j, j < 6 → (vs j).ownBlock ≠ some A
  ap : ∀ i j g, i < 6 → j < 6 → (vs i).ownBlock = some g → (vs j).ownBlock = some g → i = j
  len : ∀ j, j < 6 → (Ls j).length ≤ 200

section
variable {B A : Nat} {W w : World} {ns vs : Nat → Value} {Ls : Nat → List Nat}

theorem Sx.drew (h : Sx B A W w ns vs Ls) : Sx B A W w.drew ns vs Ls := ⟨h.bel.drew, h.ba, h.blk, h.own, h.na, h.ap, h.len⟩
theorem Sx.drewN (h : Sx B A W w ns vs Ls) (n : Nat) : Sx B A W (w.drewN n) ns vs Ls := ⟨below_drewN h.bel n, h.ba, h.blk, h.own, h.na, h.ap, h.len⟩

theorem Sx.lt (h : Sx B A W w ns vs Ls) : A < w.heap.size := by
  rcases Nat.lt_or_ge A w.heap.size with k | k
  · exact k
  · have := h.blk; rw [Array.getElem?_eq_none k] at this; cases this

theorem Sx.at (h : Sx B A W w ns vs Ls) {k : Nat} (hk : k < 6) : w.cell? ⟨A, k * 2 + 1, none⟩ = some (vs k) ∧ w.frozen? ⟨A, k * 2 + 1, none⟩ = false := by
  refine ⟨?_, frozen_of_row w _ _ _ _ h.blk⟩
  rw [cell_of_row w A (k * 2 + 1) _ _ _ h.blk, arr_get ns vs hk]

/-- Nothing, or a block of its own. -/
theorem Sx.view (h : Sx B A W w ns vs Ls) {k : Nat} (hk : k < 6) : (vs k = .slice none 0 0 ∧ Ls k = []) ∨
    ∃ g cap, vs k = .slice (some ⟨g, 0, none⟩) (Ls k).length cap ∧ g ≠ A ∧ (∀ t, t < (Ls k).length → w.cell? ⟨g, t, none⟩ = some (.int .u64 ((Ls k).getD t 0 : Nat))) ∧ ∀ t, w.frozen? ⟨g, t, none⟩ = false := by
  rcases (h.own k hk).2 with ⟨h1, h2⟩ | ⟨g, cap, cur, h1, _, hg, _, _, hs, htake⟩
  · exact .inl ⟨h1, List.length_eq_zero_iff.1 h2⟩
  · refine .inr ⟨g, cap, h1, fun e => h.na k hk (by rw [h1, e]; rfl), fun t ht => ?_, fun t => frozen_of_row w g t _ _ hg⟩
    rw [cell_of_row w g t _ _ _ hg]
    have e : cur[t]? = (cur.toList.take ((Ls k).length * 1))[t]? := by rw [List.getElem?_take, if_pos (by omega)]; simp
    rw [e, htake]
    simp [ht]

theorem own_kept {w w' : World} {B e n : Nat} {v : Value} {xs : List Value} (h : w.ownsRow B e 1 v n xs) (hb : ∀ g, v.ownBlock = some g → w'.heap[g]? = w.heap[g]?) : w'.ownsRow B e 1 v n xs := by
  refine ⟨h.1, ?_⟩
  rcases h.2 with h2 | ⟨g, cap, cur, h1, h3, hg, h4⟩
  · exact .inl h2
  · refine .inr ⟨g, cap, cur, h1, h3, ?_, h4⟩
    rw [hb g (by rw [h1]; rfl), hg]

theorem Sx.store (h : Sx B A W w ns vs Ls) {k g cap : Nat} (hk : k < 6) (hv : vs k = .slice (some ⟨g, 0, none⟩) (Ls k).length cap) (t z : Nat) (ht : t < (Ls k).length) :
    Sx B A W (w.setCell ⟨g, t, none⟩ (.int .u64 z)) ns vs (upd Ls k ((Ls k).set t z)) := by
  have hob : (vs k).ownBlock = some g := by rw [hv]; rfl
  have hga : A ≠ g := fun e => h.na k hk (by rw [hob, e])
  have hBg : B ≤ g := ((h.own k hk).lt g hob).1
  refine ⟨h.bel.setCell hBg _, h.ba, ?_, ?_, h.na, h.ap, ?_⟩
  · rw [Below.heap_setCell _ _ _ _ hga]; exact h.blk
  · intro j hj
    by_cases e : j = k
    · subst e
      rw [upd_same, List.length_set]
      rcases (h.own j hj).2 with ⟨h1, h2⟩ | ⟨g', cap', cur, h1, h2, hg, h3, h4, h5, htake⟩
      · omega
      · rw [hv] at h1
        simp only [Value.slice.injEq, Option.some.injEq, Addr.mk.injEq, and_true, true_and] at h1
        obtain ⟨rfl, rfl⟩ := h1
        refine ⟨by simp, .inr ⟨g, cap, _, hv, h2, heap_setCell_same w g t _ _ _ hg, h3, h4, by simpa using h5, ?_⟩⟩
        rw [List.map_set, ← htake, Array.toList_setIfInBounds, List.take_set]
    · rw [upd_other _ _ e]
      refine own_kept (h.own j hj) fun g' hg' => Below.heap_setCell _ _ _ _ fun e2 => ?_
      have e3 : g' = g := e2
      subst e3
      exact e (h.ap j k g' hj hk hg' hob)
  · intro j hj
    by_cases e : j = k
    · subst e; rw [upd_same, List.length_set]; exact h.len j hj
    · rw [upd_other _ _ e]; exact h.len j hj

theorem Sx.alloc (h : Sx B A W w ns vs Ls) (o : Obj) : Sx B A W (w.alloc o) ns vs Ls := by
  have hA := h.lt
  have hba := h.ba
  refine ⟨h.bel.alloc (by omega) o, h.ba, ?_, fun j hj => own_kept (h.own j hj) fun g hg => Below.heap_alloc _ _ _ ((h.own j hj).lt g hg).2, h.na, h.ap, h.len⟩
  rw [Below.heap_alloc _ _ _ hA]; exact h.blk

theorem Sx.grown (h : Sx B A W w ns vs Ls) {k : Nat} (hk : k < 6) {w' : World} {v' : Value} {z : Nat} (hg : w.grownBy w' (vs k).ownBlock)
    (ho : w'.ownsRow B 55 1 v' ((Ls k).length + 1) (((Ls k).map fun z : Nat => Value.int .u64 z) ++ [.int .u64 z])) (hat : v'.ownBlock = (vs k).ownBlock ∨ v'.ownBlock = some w.heap.size) (hl : (Ls k).length < 200) :
    w'.cell? ⟨A, k * 2 + 1, none⟩ = some (vs k) ∧ w'.frozen? ⟨A, k * 2 + 1, none⟩ = false ∧ Sx B A W (w'.setCell ⟨A, k * 2 + 1, none⟩ v') ns (upd vs k v') (upd Ls k (Ls k ++ [z])) := by
  have hA := h.lt
  have hba := h.ba
  have hblk : w'.heap[A]? = some (.cells (arr ns vs) 24 (0, 0)) := by rw [hg.block A hA (fun e => h.na k hk e.symm)]; exact h.blk
  have hbl : Below B W w' := h.bel.grown hg (by omega) fun g' hg' => ((h.own k hk).lt g' hg').1
  have hvA : v'.ownBlock ≠ some A := by
    rcases hat with e | e
    · rw [e]; exact h.na k hk
    · rw [e]; intro e2; simp only [Option.some.injEq] at e2; omega
  refine ⟨?_, frozen_of_row w' _ _ _ _ hblk, ⟨hbl.setCell h.ba _, h.ba, ?_, ?_, ?_, ?_, ?_⟩⟩
  · rw [cell_of_row w' A (k * 2 + 1) _ _ _ hblk, arr_get ns vs hk]
  · rw [heap_setCell_same w' A (k * 2 + 1) _ _ _ hblk, arr_set ns vs hk]
  · intro j hj
    by_cases e : j = k
    · subst e
      rw [upd_same, upd_same, List.length_append, List.map_append]
      refine own_kept ho fun g' hg' => Below.heap_setCell _ _ _ _ fun e2 => hvA ?_
      rw [hg']; exact congrArg some e2
    · rw [upd_other _ _ e, upd_other _ _ e]
      refine own_kept (h.own j hj) fun g' hg' => ?_
      have h1 : g' ≠ A := fun e2 => h.na j hj (by rw [hg', e2])
      rw [Below.heap_setCell _ _ _ _ h1]
      exact hg.block g' ((h.own j hj).lt g' hg').2 fun e2 => e (h.ap j k g' hj hk hg' e2.symm)
  · intro j hj
    by_cases e : j = k
    · subst e; rw [upd_same]; exact hvA
    · rw [upd_other _ _ e]; exact h.na j hj
  · have key : ∀ j, j < 6 → j ≠ k → ∀ g, v'.ownBlock = some g → (vs j).ownBlock = some g → False := by
      intro j hj e g hg1 hg2
      rcases hat with e2 | e2
      · exact e (h.ap j k g hj hk hg2 (by rw [← e2]; exact hg1))
      · rw [hg1] at e2
        simp only [Option.some.injEq] at e2
        have := ((h.own j hj).lt g hg2).2
        omega
    intro i j g hi hj h1 h2
    by_cases ei : i = k
    · by_cases ej : j = k
      · rw [ei, ej]
      · rw [ei, upd_same] at h1
        rw [upd_other _ _ ej] at h2
        exact (key j hj ej g h1 h2).elim
    · by_cases ej : j = k
      · rw [ej, upd_same] at h2
        rw [upd_other _ _ ei] at h1
        exact (key i hi ei g h2 h1).elim
      · rw [upd_other _ _ ei] at h1
        rw [upd_other _ _ ej] at h2
        exact h.ap i j g hi hj h1 h2
  · intro j hj
    by_cases e : j = k
    · subst e; rw [upd_same, List.length_append]; simp; omega
    · rw [upd_other _ _ e]; exact h.len j hj
end
end Go.Proofs.Ytmckdefemdcknaa
