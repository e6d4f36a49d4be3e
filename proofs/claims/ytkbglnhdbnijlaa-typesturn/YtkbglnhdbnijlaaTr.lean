/-
  A law's texts and parameters that came in, opened.
-/
import Derived.Test.YtkbglnhdbnijlaaUO
import Derived.Test.YtkbglnhdbnijlaaRows
import Derived.Test.YtkbglnhdbnijlaaChecked
import Derived.ProofKit
import Derived.OpenShut
import Derived.Lib.SmallJoins
import Derived.SizedLaws
import Derived.Carry
import Derived.SliceStrings
import Derived.Deep.Strs
import Derived.Deep.DeepHandedRow
namespace Go.Proofs.Ytkbglnhdbnijlaa
open Go.ChangeShapes Go.WideShapes Go.ChangeAt Go.RowKit Go.Joins
open Go.Lib
set_option maxRecDepth 100000
theorem own:ownKnob Try.prog.godebug=none:=by kernel_rfl
end Go.Proofs.Ytkbglnhdbnijlaa
