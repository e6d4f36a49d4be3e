/-
  The walks of bracketed, binding, choice, look.
-/
import Derived.Test.YtflennpocpbbpaaDoorUI
namespace Go.Proofs.YtflennpocpbbpaaDoor
open Go.RowKit
set_option maxRecDepth 100000

end Go.Proofs.YtflennpocpbbpaaDoor
