/-
  The walk of worded.
-/
import Derived.Test.YtflennpocpbbpaaDoorNg
import Derived.Test.YtflennpocpbbpaaDoorUJ
namespace Go.Proofs.YtflennpocpbbpaaDoor
open Go.RowKit
set_option maxRecDepth 100000

end Go.Proofs.YtflennpocpbbpaaDoor
