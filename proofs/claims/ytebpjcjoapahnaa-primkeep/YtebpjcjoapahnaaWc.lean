/-
  The walk of the calls whose answers the document fixes.
-/
import Derived.Test.YtebpjcjoapahnaaWb
namespace Go.Proofs.Ytebpjcjoapahnaa
open Go.RowKit
open Ieee

theorem mul_fixed (w : World) : Calls Try.prog 24 #[.complex .f64 4611686018427387904 4613937818241073152, .complex .f64 4616189618054758400 13840687554816376832] w fun e w' => e = .returned (.tuple #[.complex .f64 4627167142146473984 4611686018427387904, .int .i64 0]) ∧ w' = w := by
  have := mul_any 4611686018427387904 4613937818241073152 4616189618054758400 13840687554816376832 w (by decide) (by decide) (by decide) (by decide)
  have e1 : opE mulX mulY 4611686018427387904 4613937818241073152 4616189618054758400 13840687554816376832 = 0 := by decide
  have e2 : opR mulX mulY 4611686018427387904 4613937818241073152 4616189618054758400 13840687554816376832 = 4627167142146473984 := by decide
  have e3 : opI mulX mulY 4611686018427387904 4613937818241073152 4616189618054758400 13840687554816376832 = 4611686018427387904 := by decide
  unfold opAns at this
  rw [e1, e2, e3] at this
  exact this

end Go.Proofs.Ytebpjcjoapahnaa
