/-
  A text copied, however long it may be.
-/
import Derived.Test.YtflennpocpbbpaaGreatDoorUM
namespace Go.Proofs.YtflennpocpbbpaaGreatDoor
open Go.RowKit
set_option maxRecDepth 100000

/-- An append to bytes of the call's own, up to what memory may hold. -/
theorem own_appL (w : World) (B : Nat) (v : Value) (xs : List UInt8) (h : Own w B v xs) (hB : B ≤ w.heap.size) (ao : Option Addr) (cap : Nat) (ys : List UInt8) (hy : Bd w ao ys) (hcap : ao = none → cap = 0) (hxy : xs.length + ys.length ≤ 140737488355328) :
    ∃ v' w', (Builtin.append_ #[22, 22] 22 #[v, .slice ao ys.length cap]).run Tryz.prog w = .ok v' w' ∧ Own w' B v' (xs ++ ys) ∧ Below B w w' := by
  obtain ⟨i0, hi, hz0, hz1, hz2⟩ := info_parts Tryz.infoB
  cases ao with
  | none =>
    have hc0 := hcap rfl
    subst hc0
    have hyn : ys = [] := by
      by_cases e : ys = []
      · exact e
      · obtain ⟨b, off, e', _⟩ := hy.pl e
        cases e'
    subst hyn
    refine ⟨v, w, run_append_owned_none (P := Tryz.prog) (w := w) B 22 22 5 i0 1 Tryz.underBs hi v xs.length _ h, ?_, Below.refl _ _⟩
    rw [List.append_nil]
    exact h
  | some a =>
    have hnews : ∀ j u, (ys.map byteV)[j]? = some u → w.cell? (a.add j) = some u := by
      intro j u hj
      rw [List.getElem?_map] at hj
      cases hq : ys[j]? with
      | none => rw [hq] at hj; cases hj
      | some x =>
        rw [hq] at hj
        simp only [Option.map_some, Option.some.injEq] at hj
        subst hj
        have hl : j < ys.length := (List.getElem?_eq_some_iff.1 hq).1
        obtain ⟨b, off, e, hc⟩ := hy.pl (by intro e; rw [e] at hl; simp at hl)
        cases e
        rw [Addr.add_mid, hc j hl, List.getD_eq_getElem?_getD, hq]
        rfl
    obtain ⟨v', w', hr, ho, hgr, _⟩ := run_append_own (P := Tryz.prog) w B 22 22 5 i0 (.int .u8 0) 1 1 Tryz.underBs hi hz0 hz1 hz2 rfl (by decide) v xs.length _ h a ys.length cap (ys.map byteV) (by simp) hnews
      (by intro u hu; rw [List.mem_map] at hu; obtain ⟨c, _, rfl⟩ := hu; rfl) (by unfold maxLen; omega) (by omega) hB
    refine ⟨v', w', hr, ?_, (Below.refl B w).grown hgr hB h.low⟩
    unfold Own
    rw [List.length_append, List.map_append]
    exact ho

set_option maxHeartbeats 1000000 in
theorem copied4L_any (ao : Option Addr) (cap : Nat) (l : List UInt8) (hn : ao = none → cap = 0) (hl : l.length ≤ 140737488355328) (w : World) (hT : Bd w ao l) :
    Calls Tryz.prog 16 #[.slice ao l.length cap] w fun e w' => ∃ v, e = .returned v ∧ Own w' w.heap.size v l ∧ Below w.heap.size w w' := by
  obtain ⟨v', w', hr, ho, hb⟩ := own_appL _ _ _ _ (Own.new w) (by simp) ao cap l (hT.up (below_alloc _ _)) hn (by rw [List.length_nil, Nat.zero_add]; exact hl)
  rw [List.nil_append] at ho
  have HR : Hid (_ = _) := hr
  have hB := (below_alloc w (.cells #[] 5)).trans hb
  clear hr
  go_enter Tryz.func16, Tryz.ntmps16
  go_wp2_with (at_builtin; refine wpList_append_run rfl (.tmp 3) (.tmp 4) 22 rfl rfl _ _ rfl rfl _ _ (show _ = _ from HR) ?_)
  go_ret
  exact ⟨_, rfl, ho, hB⟩
end Go.Proofs.YtflennpocpbbpaaGreatDoor
