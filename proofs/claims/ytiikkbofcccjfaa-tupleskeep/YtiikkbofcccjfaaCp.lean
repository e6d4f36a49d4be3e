/-
  The walks of copied and told.
-/
import Derived.Test.YtiikkbofcccjfaaCt
import Derived.RegionTactic
import Derived.Laws.AppendOwnNone
import Derived.Deep.RegionLaw
namespace Go.Proofs.Ytiikkbofcccjfaa
open Go.RowKit
open RowsM

theorem Rd.other {w : World} {so : Option Addr} {xs : List Nat} (h : Rd w so xs) {a : Addr} (ha : xs ≠ [] → ∀ b off, so = some ⟨b, off, none⟩ → b ≠ a.block) (u : Value) : Rd (w.setCell a u) so xs := by
  refine ⟨h.lt, fun hn => ?_⟩
  obtain ⟨b, off, e, hc⟩ := h.pl hn
  refine ⟨b, off, e, fun t ht => ?_⟩
  rw [← hc t ht]
  exact World.cell?_of_block (w := w) (Below.heap_setCell _ _ _ _ (ha hn b off e))

/-- What an append to an empty slice of the call's own leaves. -/
theorem append_words (w : World) (g : Nat) (ao : Option Addr) (cap : Nat) (xs : List Nat) (hg : w.heap[g]? = some (.cells #[] 68 (0, 0))) (h : Rd w ao xs) (hl : xs.length ≤ 17592186043904) (hcap : ao = none → cap = 0) :
    ∃ so c w', (Builtin.append_ #[39, 39] 39 #[.slice (some ⟨g, 0, none⟩) 0 0, .slice ao xs.length cap]).run Try.prog w = .ok (.slice so xs.length c) w' ∧ Rd w' so xs ∧ Below g w w' ∧ (xs ≠ [] → ∀ b off, so = some ⟨b, off, none⟩ → g ≤ b) := by
  obtain ⟨i0, hi, hz0, hz1, hz2⟩ := info_parts Try.infoW
  have hown : w.ownsRow g 68 1 (.slice (some ⟨g, 0, none⟩) 0 0) 0 [] := ⟨rfl, .inr ⟨g, 0, #[], rfl, Nat.le_refl _, hg, Nat.le_refl _, by unfold maxLen; omega, rfl, rfl⟩⟩
  have hgl : g < w.heap.size := by
    rcases Nat.lt_or_ge g w.heap.size with k | k
    · exact k
    · rw [Array.getElem?_eq_none k] at hg; cases hg
  by_cases hz : xs = []
  · subst hz
    cases ao with
    | none =>
      have hc0 := hcap rfl
      subst hc0
      exact ⟨some ⟨g, 0, none⟩, 0, w, run_append_owned_none (P := Try.prog) (w := w) g 39 39 68 i0 1 Try.underS hi _ 0 [] hown, Rd.nil _ _, Below.refl _ _, fun h => absurd rfl h⟩
    | some a =>
      obtain ⟨v', w', hr, ho, hgr, _⟩ := run_append_own (P := Try.prog) w g 39 39 68 i0 (.int .u64 0) 1 8 Try.underS hi hz0 hz1 hz2 rfl (by decide) _ 0 [] hown a 0 cap [] rfl (by simp) (by simp) (by unfold maxLen; omega) (by omega) (by omega)
      have hb := (Below.refl g w).grown hgr (by omega) (by intro k hk; simp [Value.ownBlock] at hk; omega)
      rcases ho.2 with ⟨rfl, _⟩ | ⟨g', c, cur, rfl, _⟩
      · exact ⟨none, 0, w', hr, Rd.nil _ _, hb, fun h => absurd rfl h⟩
      · exact ⟨some ⟨g', 0, none⟩, c, w', hr, Rd.nil _ _, hb, fun h => absurd rfl h⟩
  · obtain ⟨b, off, rfl, hc⟩ := h.pl hz
    obtain ⟨v', w', hr, ho, hgr, _⟩ := run_append_own (P := Try.prog) w g 39 39 68 i0 (.int .u64 0) 1 8 Try.underS hi hz0 hz1 hz2 rfl (by decide) _ 0 [] hown ⟨b, off, none⟩ xs.length cap (xs.map fun z : Nat => Value.int .u64 z) (by simp) (src_cells hc) (one_cells xs) (by unfold maxLen; omega) (by omega) (by omega)
    rw [Nat.zero_add, List.nil_append] at ho
    rcases ho.2 with ⟨_, h0⟩ | ⟨g', c, cur, rfl, hgg, hcur, hle, _, hcs, htake⟩
    · exact absurd (List.length_eq_zero_iff.1 h0) hz
    · refine ⟨some ⟨g', 0, none⟩, c, w', hr, ⟨h.lt, fun _ => ⟨g', 0, rfl, fun t ht => ?_⟩⟩, ?_, fun _ b off e => ?_⟩
      · rw [Nat.zero_add, cell_of_row w' g' t _ _ _ hcur]
        have e : cur[t]? = (cur.toList.take (xs.length * 1))[t]? := by rw [List.getElem?_take, if_pos (by omega)]; simp
        rw [e, htake]
        simp [ht]
      · exact (Below.refl g w).grown hgr (by omega) (by intro k hk; simp [Value.ownBlock] at hk; omega)
      · simp only [Option.some.injEq, Addr.mk.injEq] at e
        omega

/-- An append whose run is known, as a step of a region that draws its order. -/
theorem step_append_run {P : Program} {ops : Array Oper} {o : Oper} {a : Act} {w : World} {K : Act → World → Prop} {Q : Exit → Act → World → Prop} {E : Prop}
    (hg : o.guard = none) (s x : Operand) (t : TypeId) (hop : o.op = Op.call { callee := Callee.builtin Builtin.append, args := #[s, x], argTypes := #[t, t] }) (hty : o.type = t)
    (v u : Value) (hs : a.eval s = v) (hx : a.eval x = u) (v' : Value) (w' : World) (hrun : (Builtin.append_ #[t, t] t #[v, u]).run P w = .ok v' w') (hK : K (a.put o.dst v') w') :
    if Region.wanted o (yielded ops a.tmps) = true then Oper.wp P o a w K Q else E := by
  have hw : Region.wanted o (yielded ops a.tmps) = true := by simp [Region.wanted, hg]
  rw [if_pos hw]
  rw [← hty] at hrun
  unfold Oper.wp
  rw [hty] at hrun
  simp [execOp, hop, resolve, invoke, builtin, hs, hx, hty, hrun, Result.andThen]
  exact hK

end Go.Proofs.Ytiikkbofcccjfaa
