/-
  An append to bytes of the call's own: what it leaves as it was.
-/
import Derived.Test.YtndgglhppoijnaaGreatDoorUM
import Derived.Test.YtndgglhppoijnaaGreatDoorUK
namespace Go.Proofs.YtndgglhppoijnaaGreatDoor
open Go.RowKit
set_option maxRecDepth 100000

theorem own_appG (w : World) (B : Nat) (v : Value) (xs : List UInt8) (h : Own w B v xs) (hB : B ≤ w.heap.size) (ao : Option Addr) (cap : Nat) (ys : List UInt8) (hy : Bd w ao ys) (hcap : ao = none → cap = 0) (hxy : xs.length + ys.length ≤ 140737488355328) :
    ∃ v' w', (Builtin.append_ #[22, 22] 22 #[v, .slice ao ys.length cap]).run Tryz.prog w = .ok v' w' ∧ Own w' B v' (xs ++ ys) ∧ Below B w w' ∧ w.grownBy w' v.ownBlock := by
  obtain ⟨i0, hi, hz0, hz1, hz2⟩ := info_parts Tryz.infoB
  cases ao with
  | none =>
    have hc0 := hcap rfl
    subst hc0
    have hyn : ys = [] := by
      by_cases e : ys = []
      · exact e
      · obtain ⟨b, off, e', _⟩ := hy.pl e
        cases e'
    subst hyn
    refine ⟨v, w, run_append_owned_none (P := Tryz.prog) (w := w) B 22 22 5 i0 1 Tryz.underBs hi v xs.length _ h, ?_, Below.refl _ _, rfl, rfl, rfl, Nat.le_refl _, fun _ _ _ => rfl⟩
    rw [List.append_nil]
    exact h
  | some a =>
    have hnews : ∀ j u, (ys.map byteV)[j]? = some u → w.cell? (a.add j) = some u := by
      intro j u hj
      rw [List.getElem?_map] at hj
      cases hq : ys[j]? with
      | none => rw [hq] at hj; cases hj
      | some x =>
        rw [hq] at hj
        simp only [Option.map_some, Option.some.injEq] at hj
        subst hj
        have hl : j < ys.length := (List.getElem?_eq_some_iff.1 hq).1
        obtain ⟨b, off, e, hc⟩ := hy.pl (by intro e; rw [e] at hl; simp at hl)
        cases e
        rw [Addr.add_mid, hc j hl, List.getD_eq_getElem?_getD, hq]
        rfl
    obtain ⟨v', w', hr, ho, hgr, _⟩ := run_append_own (P := Tryz.prog) w B 22 22 5 i0 (.int .u8 0) 1 1 Tryz.underBs hi hz0 hz1 hz2 rfl (by decide) v xs.length _ h a ys.length cap (ys.map byteV) (by simp) hnews
      (by intro u hu; rw [List.mem_map] at hu; obtain ⟨c, _, rfl⟩ := hu; rfl) (by unfold maxLen; omega) (by omega) hB
    refine ⟨v', w', hr, ?_, (Below.refl B w).grown hgr hB h.low, hgr⟩
    unfold Own
    rw [List.length_append, List.map_append]
    exact ho
theorem bk_grown {w w' : World} {b : Nat} {t : TypeId} {vs : List Value} {v : Value} (h : Bk w b t vs) (hg : w.grownBy w' v.ownBlock) (hn : v.ownBlock ≠ some b) : Bk w' b t vs := by
  have hl := h.lt
  unfold Bk at *
  rw [hg.block b hl fun e => hn e.symm]
  exact h
theorem own_low {w : World} {B : Nat} {v : Value} {xs : List UInt8} {b : Nat} (h : Own w B v xs) (hb : w.heap.size ≤ b) : v.ownBlock ≠ some b := fun e => by
  have := (owns_has h b e).2
  omega
end Go.Proofs.YtndgglhppoijnaaGreatDoor
