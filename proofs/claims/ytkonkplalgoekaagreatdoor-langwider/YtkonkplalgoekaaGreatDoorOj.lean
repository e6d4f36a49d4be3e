/-
  The walk of LangFaults: what it leans on.
-/
import Derived.Test.YtkonkplalgoekaaGreatDoorOi
import Derived.Test.YtkonkplalgoekaaGreatDoorBp
import Derived.Test.YtkonkplalgoekaaGreatDoorGw
import Derived.Deep.RegionLaw
namespace Go.Proofs.YtkonkplalgoekaaGreatDoor
open Go.RowKit
set_option maxRecDepth 100000

/-- Fuel that serves every text of this length. -/
theorem fuel_ok (l : List UInt8) (L : Lm) (f : Nat) (hf : 12 * (l.length + 1) + 9 ≤ f) (ms : List Mk) (hc : cut rdN l 0 = .ok ms) : progL (mf ms) L f [] 0 ≠ .out := by
  have hr := cut_row rdN _ _ _ hc
  have hfew := cut_few _ _ _ hc
  have hg := gd_prog (mf ms) L hr.ends f [] 0 hr.pos (by omega)
  intro e
  rw [e] at hg
  exact hg

/-- A program that is parsed has a definition. -/
theorem prog_some (M : Nat → Mk) (L : Lm) : ∀ f acc k gs j, progL M L f acc k = .ok gs j → 0 < gs.length := by
  intro f
  induction f with
  | zero => intro acc k gs j h; cases h
  | succ f ih =>
    intro acc k gs j h
    rw [progL] at h
    obtain ⟨g, k1, _, h2⟩ := bind_eq.1 h
    split at h2
    · cases h2; simp
    · exact ih _ _ _ _ h2

set_option maxHeartbeats 1000000 in
theorem copied4_any (ao : Option Addr) (cap : Nat) (l : List UInt8) (hn : ao = none → cap = 0) (hl : l.length ≤ 100000000) (w : World) (hT : Bd w ao l) :
    Calls Tryz.prog 14 #[.slice ao l.length cap] w fun e w' => ∃ v, e = .returned v ∧ Own w' w.heap.size v l ∧ Below w.heap.size w w' := by
  obtain ⟨v', w', hr, ho, hb⟩ := own_app _ _ _ _ (Own.new w) (by simp) ao cap l (hT.up (below_alloc _ _)) hn (by simp) hl
  rw [List.nil_append] at ho
  have HR : Hid (_ = _) := hr
  have hB := (below_alloc w (.cells #[] 5)).trans hb
  clear hr
  go_enter Tryz.func14, Tryz.ntmps14
  go_wp2_with (at_builtin; refine wpList_append_run rfl (.tmp 3) (.tmp 4) 22 rfl rfl _ _ rfl rfl _ _ (show _ = _ from HR) ?_)
  go_ret
  exact ⟨_, rfl, ho, hB⟩

/-- An append whose run is known, as a step of a region that draws its order. -/
theorem step_append_runU {P : Program} {ops : Array Oper} {o : Oper} {a : Act} {w : World} {K : Act → World → Prop} {Q : Exit → Act → World → Prop} {E : Prop}
    (hg : o.guard = none) (s x : Operand) (t u : TypeId) (hop : o.op = Op.call { callee := Callee.builtin Builtin.append, args := #[s, x], argTypes := #[t, u] }) (hty : o.type = t)
    (v y : Value) (hs : a.eval s = v) (hx : a.eval x = y) (v' : Value) (w' : World) (hrun : (Builtin.append_ #[t, u] t #[v, y]).run P w = .ok v' w') (hK : K (a.put o.dst v') w') :
    if Region.wanted o (yielded ops a.tmps) = true then Oper.wp P o a w K Q else E := by
  have hw : Region.wanted o (yielded ops a.tmps) = true := by simp [Region.wanted, hg]
  rw [if_pos hw]
  unfold Oper.wp
  rw [← hty] at hrun
  simp only [execOp, hop, resolve, invoke, builtin, Sem.run_bind, Sem.run_pure, Result.andThen_ok, List.map_toArray, List.map_cons, List.map_nil, hs, hx]
  rw [hty] at hrun ⊢
  rw [hrun]
  exact hK

theorem run_slice_hiB (b o len cap n : Nat) (h : n ≤ cap) (w : World) : (Instr.slice 22 (.slice (some ⟨b, o, none⟩) len cap) none (some (.int .i64 (n : Int))) none).run Tryz.prog w = .ok (.slice (some ⟨b, o, none⟩) n cap) w := by
  simp [Instr.slice, Instr.sliceBounds, Instr.sliceBound, asIntOf, h, run_underlying Tryz.underBs, go_sem]

theorem Bd.take {w : World} {b o : Nat} {l : List UInt8} (h : Bd w (some ⟨b, o, none⟩) l) (n : Nat) : Bd w (some ⟨b, o, none⟩) (l.take n) := by
  refine ⟨fun hne => ?_⟩
  have hl : l ≠ [] := by intro e; subst e; simp at hne
  obtain ⟨b', o', e, hc⟩ := h.pl hl
  refine ⟨b', o', e, fun t ht => ?_⟩
  rw [List.length_take] at ht
  rw [hc t (by omega)]
  simp [List.getD_eq_getElem?_getD, List.getElem?_take]
  rw [if_pos (by omega)]
end Go.Proofs.YtkonkplalgoekaaGreatDoor
