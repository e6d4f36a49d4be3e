/-
  Regions that draw their order, each of whose operations comes to one value, but for some, of which a relation tells. No dump.
-/
import Derived.Test.YtaneibojiamjeaaGreatDoorUe
namespace Go.Proofs.YtaneibojiamjeaaGreatDoor
open Go.RowKit
set_option maxRecDepth 100000

namespace Rv
theorem rel {P : Program} {ops : Array Oper} {Q : Exit → Act → World → Prop} {X0 : World} {a0 : Act} (N : Nat) (slot : Nat → Nat) (V : Nat → Value) (u : Nat → Bool) (G : Nat → Value → World → Prop) (hG : ∀ i v w w', Below w.heap.size w w' → G i v w → G i v w')
    (hN : ops.size = N) (hlow : ∀ i, i < N → ∀ j ∈ deps ops i, j < i) (hinj : ∀ i, i < N → ∀ j, j < N → j ≠ i → slot j ≠ slot i) (hsz : ∀ j, j < N → slot j < a0.tmps.size) {w0 : World} (hw : Below X0.heap.size X0 w0)
    (hstep : ∀ i a w, i < N → u i = false → Off N slot a0 a → Below X0.heap.size X0 w → (∀ j ∈ deps ops i, u j = false → ev a (slot j) = V j) → (∀ j ∈ deps ops i, u j = true → G j (ev a (slot j)) w) → wpOp P ops Q i (fun a' w' => a' = a.put (some (slot i)) (V i) ∧ Below w.heap.size w w') a w)
    (hcall : ∀ i a w, i < N → u i = true → Off N slot a0 a → Below X0.heap.size X0 w → (∀ j ∈ deps ops i, u j = false → ev a (slot j) = V j) → (∀ j ∈ deps ops i, u j = true → G j (ev a (slot j)) w) → wpOp P ops Q i (fun a' w' => ∃ v, a' = a.put (some (slot i)) v ∧ G i v w' ∧ Below w.heap.size w w') a w)
    (hQ : ∀ a w, Off N slot a0 a → Below X0.heap.size X0 w → (∀ j, j < N → u j = false → ev a (slot j) = V j) → (∀ j, j < N → u j = true → G j (ev a (slot j)) w) → Q .normal a w) : wpAny P .any ops Q N (Array.replicate N false) a0 w0 := by
  refine wpAny_inv (fun l a w => l.size = N ∧ Off N slot a0 a ∧ Below X0.heap.size X0 w ∧ (∀ j, j < N → l.getD j false = true → u j = false → ev a (slot j) = V j) ∧ (∀ j, j < N → l.getD j false = true → u j = true → G j (ev a (slot j)) w)) ?_ ?_ N _ _ _ (by simp) ⟨by simp, ⟨rfl, rfl, fun _ _ => rfl⟩, hw, ?_, ?_⟩
  · rintro l a w i hi ⟨hl, hO, hB, hf, hg⟩
    obtain ⟨hi1, hi2⟩ := ready_mem hi
    rw [hN] at hi2
    have hdn := deps_done hi
    have h1 : ∀ j ∈ deps ops i, u j = false → ev a (slot j) = V j := fun j hj => hf j (by have := hlow i hi2 j hj; omega) (hdn j hj)
    have h2 : ∀ j ∈ deps ops i, u j = true → G j (ev a (slot j)) w := fun j hj => hg j (by have := hlow i hi2 j hj; omega) (hdn j hj)
    have key : wpOp P ops Q i (fun a' w' => ∃ v, a' = a.put (some (slot i)) v ∧ (u i = false → v = V i) ∧ (u i = true → G i v w') ∧ Below w.heap.size w w') a w := by
      cases hu : u i with
      | false =>
        refine wpOp_mono ?_ (hstep i a w hi2 hu hO hB h1 h2)
        rintro a' w' ⟨rfl, hb⟩
        exact ⟨_, rfl, fun _ => rfl, fun h => (by cases h), hb⟩
      | true =>
        refine wpOp_mono ?_ (hcall i a w hi2 hu hO hB h1 h2)
        rintro a' w' ⟨v, rfl, hv, hb⟩
        exact ⟨_, rfl, fun h => (by cases h), fun _ => hv, hb⟩
    refine wpOp_mono ?_ key
    rintro a' w' ⟨v, rfl, hv, hvg, hb⟩
    have hs : slot i < a.tmps.size := by rw [hO.size]; exact hsz i hi2
    have hkeep : ∀ j, j < N → j ≠ i → ev (a.put (some (slot i)) v) (slot j) = ev a (slot j) := fun j hj e => by rw [ev_put a _ _ hs, if_neg (hinj i hi2 j hj e)]
    have hnew : ev (a.put (some (slot i)) v) (slot i) = v := by rw [ev_put a _ _ hs, if_pos rfl]
    have hold : ∀ j, j ≠ i → (l.setIfInBounds i true).getD j false = true → l.getD j false = true := fun j e hd => by
      have := congrFun (getD_set l i (by omega)) j
      rw [this] at hd
      exact upd_ne e hd
    refine ⟨by simp [hl], ⟨hO.def_, by rw [← hO.size]; simp [Act.put], fun k hk => ?_⟩, Below.thn hB hb, fun j hj hd huj => ?_, fun j hj hd huj => ?_⟩
    · rw [ev_put a _ _ hs, if_neg (hk i hi2)]
      exact hO.same k hk
    · by_cases e : j = i
      · subst e; rw [hnew]; exact hv huj
      · rw [hkeep j hj e]; exact hf j hj (hold j e hd) huj
    · by_cases e : j = i
      · subst e; rw [hnew]; exact hvg huj
      · rw [hkeep j hj e]; exact hG j _ w w' hb (hg j hj (hold j e hd) huj)
  · rintro l a w hr ⟨hl, hO, hB, hf, hg⟩
    have := all_done (by omega) (by rw [hN]; exact hlow) hr
    rw [hN] at this
    exact hQ a w hO hB (fun j hj => hf j hj (this j hj)) (fun j hj => hg j hj (this j hj))
  · intro j hj hd
    simp [hj] at hd
  · intro j hj hd
    simp [hj] at hd
end Rv
end Go.Proofs.YtaneibojiamjeaaGreatDoor
