/-
  All walks of expressions.
-/
import Derived.Test.YtkonkplalgoekaaGreatDoorNh
import Derived.Test.YtkonkplalgoekaaGreatDoorNj
import Derived.Test.YtkonkplalgoekaaGreatDoorNl
import Derived.Test.YtkonkplalgoekaaGreatDoorNo
import Derived.Test.YtkonkplalgoekaaGreatDoorNp
import Derived.Test.YtkonkplalgoekaaGreatDoorNr
namespace Go.Proofs.YtkonkplalgoekaaGreatDoor
open Go.RowKit
set_option maxRecDepth 100000

theorem allN (I : Rdi) (hE : Ends I.M I.n) (f : Nat) : AllN I f := by
  induction f using Nat.strongRecOn with
  | _ f ih =>
    cases f with
    | zero =>
      constructor
      all_goals
        intros
        exfalso
        rename_i hne
        apply hne
        first
        | rw [exprP]
        | rw [bindP]
        | rw [ifP]
        | rw [caseP]
        | rw [consP]
        | rw [compP]
        | rw [sumP]
        | rw [termP]
        | rw [unitP]
        | rw [namedP]
        | rw [wordedP]
        | rw [brackP]
        | rw [argsP]
    | succ f =>
      have ihs : ∀ g, g ≤ f → AllN I g := fun g hg => ih g (by omega)
      have ih1 := ihs f (Nat.le_refl _)
      exact ⟨expr_step I hE f ih1, bind_step I hE f ih1, choice_step I hE f ih1, look_step I hE f ih1, cons_step I hE f ihs, comp_step I hE f ih1, sum_step I hE f ihs, term_step I hE f ihs, unit_step I hE f ih1, named_step I hE f ih1, worded_step I hE f ih1, brack_step I hE f ih1, args_step I hE f ihs⟩
end Go.Proofs.YtkonkplalgoekaaGreatDoor
