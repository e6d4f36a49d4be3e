/-
  2 texts in one: what each proves stands at its head.
-/
import Derived.Test.YtkbglnhdbnijlaaUe
/-
  Regions in the text's order, each of whose operations comes to one value: by what is done. No dump.
-/
namespace Go.Proofs.Ytkbglnhdbnijlaa
open Go.RowKit
set_option maxRecDepth 100000

namespace Rv
section
variable {P : Program} {ops : Array Oper} {Q : Exit → Act → World → Prop} {X0 : World} {a0 : Act} (N : Nat) (slot : Nat → Nat) (V : Nat → Value)
theorem list (hN : ops.size = N) (hlow : ∀ i, i < N → ∀ j ∈ deps ops i, j < i) (hinj : ∀ i, i < N → ∀ j, j < N → j ≠ i → slot j ≠ slot i) (hsz : ∀ j, j < N → slot j < a0.tmps.size) {w0 : World} (hw : Below X0.heap.size X0 w0)
    (hstep : ∀ i a w, i < N → Off N slot a0 a → Below X0.heap.size X0 w → (∀ j ∈ deps ops i, ev a (slot j) = V j) → wpOp P ops Q i (fun a' w' => a' = a.put (some (slot i)) (V i) ∧ Below X0.heap.size X0 w') a w)
    (hQ : ∀ a w, Off N slot a0 a → Below X0.heap.size X0 w → (∀ j, j < N → ev a (slot j) = V j) → Q .normal a w) : wpList P ops Q ops.toList a0 w0 := by
  have key : ∀ m k a w, m + k = N → Off N slot a0 a → Below X0.heap.size X0 w → (∀ j, j < k → ev a (slot j) = V j) → wpList P ops Q (ops.toList.drop k) a w := by
    intro m
    induction m with
    | zero =>
      intro k a w hk hO hB hf
      have e : ops.toList.drop k = [] := by rw [List.drop_eq_nil_iff, Array.length_toList]; omega
      rw [e]
      exact hQ a w hO hB fun j hj => hf j (by omega)
    | succ m ih =>
      intro k a w hk hO hB hf
      have hkN : k < ops.size := by omega
      have hk2 : k < N := by omega
      have e : ops.toList.drop k = ops[k] :: ops.toList.drop (k + 1) := by
        rw [List.drop_eq_getElem_cons (by rw [Array.length_toList]; exact hkN), Array.getElem_toList]
      have ho : ops[k]? = some ops[k] := Array.getElem?_eq_getElem hkN
      rw [e]
      have h2 : wpOp P ops Q k (wpList P ops Q (ops.toList.drop (k + 1))) a w := by
        refine wpOp_mono ?_ (hstep k a w hk2 hO hB fun j hj => hf j (hlow k hk2 j hj))
        rintro a' w' ⟨rfl, hB'⟩
        have hs : slot k < a.tmps.size := by rw [hO.size]; exact hsz k hk2
        refine ih (k + 1) _ _ (by omega) ⟨hO.def_, by rw [← hO.size]; simp [Act.put], fun i hi => ?_⟩ hB' fun j hj => ?_
        · rw [ev_put a _ _ hs, if_neg (hi k hk2)]
          exact hO.same i hi
        · rw [ev_put a _ _ hs]
          by_cases e2 : j = k
          · subst e2
            exact if_pos rfl
          · rw [if_neg (hinj k hk2 j (by omega) e2)]
            exact hf j (by omega)
      unfold wpOp at h2
      rw [ho] at h2
      exact h2
  have := key N 0 a0 w0 (by omega) ⟨rfl, rfl, fun _ _ => rfl⟩ hw (fun j hj => absurd hj (Nat.not_lt_zero j))
  rwa [List.drop_zero] at this
/-- A guard that was passed by is none that holds. -/
theorem want_no {j s : Nat} {o o' : Oper} {a : Act} {b' : Bool} (hg : o.guard = some (j, b')) (ho : ops[j]? = some o') (hd : o'.dst = some s) (hs : s < a.tmps.size) (hv : ev a s = undef) : Region.wanted o (yielded ops a.tmps) = false := by
  have e2 := ev_some hv hs
  have e3 : yielded ops a.tmps j = none := by
    unfold yielded
    rw [ho]
    simp only [Option.bind_some, hd, e2]
    rfl
  unfold Region.wanted
  rw [hg]
  show (yielded ops a.tmps j == some b') = _
  rw [e3]
  rfl
end
end Rv
end Go.Proofs.Ytkbglnhdbnijlaa
/-
  Regions in the text's order whose operations change memory in stages: by what is done. No dump.
-/
namespace Go.Proofs.Ytkbglnhdbnijlaa
open Go.RowKit
set_option maxRecDepth 100000

namespace Rv
section
variable {P : Program} {ops : Array Oper} {Q : Exit → Act → World → Prop} {a0 : Act} (N : Nat) (slot : Nat → Nat) (V : Nat → Value) (J : Nat → World → Prop)
theorem listJ (hN : ops.size = N) (hinj : ∀ i, i < N → ∀ j, j < N → j ≠ i → slot j ≠ slot i) (hsz : ∀ j, j < N → slot j < a0.tmps.size) {w0 : World} (hw : J 0 w0)
    (hstep : ∀ i a w, i < N → Off N slot a0 a → J i w → (∀ j, j < i → ev a (slot j) = V j) → wpOp P ops Q i (fun a' w' => a' = a.put (some (slot i)) (V i) ∧ J (i + 1) w') a w)
    (hQ : ∀ a w, Off N slot a0 a → J N w → (∀ j, j < N → ev a (slot j) = V j) → Q .normal a w) : wpList P ops Q ops.toList a0 w0 := by
  have key : ∀ m k a w, m + k = N → Off N slot a0 a → J k w → (∀ j, j < k → ev a (slot j) = V j) → wpList P ops Q (ops.toList.drop k) a w := by
    intro m
    induction m with
    | zero =>
      intro k a w hk hO hB hf
      have e : ops.toList.drop k = [] := by rw [List.drop_eq_nil_iff, Array.length_toList]; omega
      have hkN : k = N := by omega
      rw [e]
      exact hQ a w hO (hkN ▸ hB) fun j hj => hf j (by omega)
    | succ m ih =>
      intro k a w hk hO hB hf
      have hkN : k < ops.size := by omega
      have hk2 : k < N := by omega
      have e : ops.toList.drop k = ops[k] :: ops.toList.drop (k + 1) := by
        rw [List.drop_eq_getElem_cons (by rw [Array.length_toList]; exact hkN), Array.getElem_toList]
      have ho : ops[k]? = some ops[k] := Array.getElem?_eq_getElem hkN
      rw [e]
      have h2 : wpOp P ops Q k (wpList P ops Q (ops.toList.drop (k + 1))) a w := by
        refine wpOp_mono ?_ (hstep k a w hk2 hO hB hf)
        rintro a' w' ⟨rfl, hB'⟩
        have hs : slot k < a.tmps.size := by rw [hO.size]; exact hsz k hk2
        refine ih (k + 1) _ _ (by omega) ⟨hO.def_, by rw [← hO.size]; simp [Act.put], fun i hi => ?_⟩ hB' fun j hj => ?_
        · rw [ev_put a _ _ hs, if_neg (hi k hk2)]
          exact hO.same i hi
        · rw [ev_put a _ _ hs]
          by_cases e2 : j = k
          · subst e2
            exact if_pos rfl
          · rw [if_neg (hinj k hk2 j (by omega) e2)]
            exact hf j (by omega)
      unfold wpOp at h2
      rw [ho] at h2
      exact h2
  have := key N 0 a0 w0 (by omega) ⟨rfl, rfl, fun _ _ => rfl⟩ hw (fun j hj => absurd hj (Nat.not_lt_zero j))
  rwa [List.drop_zero] at this
end
section
variable {P : Program} {ops : Array Oper} {Q : Exit → Act → World → Prop} {i : Nat} {o : Oper} {a : Act} {w w' : World} {v : Value} {s : Nat} {K : World → Prop}
theorem runJ (ho : ops[i]? = some o) (hd : o.dst = some s) (hw : Region.wanted o (yielded ops a.tmps) = true) (hr : (execOp a.eval o).run P w = .ok (.value v) w') (hK : K w') : wpOp P ops Q i (fun a' w' => a' = a.put (some s) v ∧ K w') a w := by
  refine wp ho hw ?_
  unfold Oper.wp
  rw [hr]
  show a.put o.dst v = _ ∧ _
  rw [hd]
  exact ⟨rfl, hK⟩
theorem callJ {f : Nat} {vs : Array Value} (ho : ops[i]? = some o) (hd : o.dst = some s) (hw : Region.wanted o (yielded ops a.tmps) = true) (hr : (execOp a.eval o).run P w = .ok (.enter f vs) w)
    (hc : Calls P f vs w fun e w' => e = .returned v ∧ K w') : wpOp P ops Q i (fun a' w' => a' = a.put (some s) v ∧ K w') a w := by
  refine wp ho hw ?_
  unfold Oper.wp
  rw [hr, Oper.upon_enter]
  refine hc.mono ?_
  rintro e w' ⟨rfl, hb⟩
  show a.put o.dst v = _ ∧ _
  rw [hd]
  exact ⟨rfl, hb⟩
end
end Rv
end Go.Proofs.Ytkbglnhdbnijlaa
