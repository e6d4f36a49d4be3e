/-
  1 texts in one: what each proves stands at its head.
-/
import Derived.Test.YtmfejllhlbnigaaGreatDoorUI
import Derived.Deep.RegionHeld2
import Derived.RegionTactic
/-
  Regions that draw their order, each of whose operations comes to one value whatever the order: by what is done. No dump.
-/
namespace Go.Proofs.YtmfejllhlbnigaaGreatDoor
open Go.RowKit
set_option maxRecDepth 100000

namespace Rv
def upd (d : Nat → Bool) (i : Nat) : Nat → Bool := fun j => j == i || d j
section
variable {P : Program} {ops : Array Oper} {Q : Exit → Act → World → Prop} {X0 : World} {a0 : Act} (N : Nat) (slot : Nat → Nat) (V : Nat → Value)
end

section
variable {P : Program} {ops : Array Oper} {Q : Exit → Act → World → Prop} {X0 : World} {i : Nat} {o : Oper} {a : Act} {w : World} {v : Value} {s : Nat}
theorem wp (ho : ops[i]? = some o) (hw : Region.wanted o (yielded ops a.tmps) = true) {K : Act → World → Prop} (h : Oper.wp P o a w K Q) : wpOp P ops Q i K a w := by
  unfold wpOp
  rw [ho]
  show if Region.wanted o (yielded ops a.tmps) = true then _ else _
  rw [if_pos hw]
  exact .inl h
/-- An operation that changes no memory. -/
theorem run (ho : ops[i]? = some o) (hd : o.dst = some s) (hw : Region.wanted o (yielded ops a.tmps) = true) (hr : (execOp a.eval o).run P w = .ok (.value v) w) (hB : Below X0.heap.size X0 w) : wpOp P ops Q i (fun a' w' => a' = a.put (some s) v ∧ Below X0.heap.size X0 w') a w := by
  refine wp ho hw ?_
  unfold Oper.wp
  rw [hr]
  show a.put o.dst v = _ ∧ _
  rw [hd]
  exact ⟨rfl, hB⟩
/-- A call that changes no memory that was there. -/
theorem call {f : Nat} {vs : Array Value} (ho : ops[i]? = some o) (hd : o.dst = some s) (hw : Region.wanted o (yielded ops a.tmps) = true) (hr : (execOp a.eval o).run P w = .ok (.enter f vs) w) (hB : Below X0.heap.size X0 w)
    (hc : Calls P f vs w fun e w' => e = .returned v ∧ Below w.heap.size w w') : wpOp P ops Q i (fun a' w' => a' = a.put (some s) v ∧ Below X0.heap.size X0 w') a w := by
  refine wp ho hw ?_
  unfold Oper.wp
  rw [hr, Oper.upon_enter]
  refine hc.mono ?_
  rintro e w' ⟨rfl, hb⟩
  show a.put o.dst v = _ ∧ _
  rw [hd]
  exact ⟨rfl, Below.thn hB hb⟩
/-- An operation behind a guard that doesn't hold. -/
theorem skip (ho : ops[i]? = some o) (hd : o.dst = some s) (hw : Region.wanted o (yielded ops a.tmps) = false) (hB : Below X0.heap.size X0 w) : wpOp P ops Q i (fun a' w' => a' = a.put (some s) undef ∧ Below X0.heap.size X0 w') a w := by
  unfold wpOp
  rw [ho]
  show if Region.wanted o (yielded ops a.tmps) = true then _ else _
  rw [if_neg (by rw [hw]; decide)]
  show a.put o.dst undef = _ ∧ _
  rw [hd]
  exact ⟨rfl, hB⟩
end
end Rv
end Go.Proofs.YtmfejllhlbnigaaGreatDoor
