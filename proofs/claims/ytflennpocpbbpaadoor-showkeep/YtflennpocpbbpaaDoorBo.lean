/-
  A text copied, however long it may be.
-/
import Derived.Test.YtflennpocpbbpaaDoorUM
namespace Go.Proofs.YtflennpocpbbpaaDoor
open Go.RowKit
set_option maxRecDepth 100000

end Go.Proofs.YtflennpocpbbpaaDoor
