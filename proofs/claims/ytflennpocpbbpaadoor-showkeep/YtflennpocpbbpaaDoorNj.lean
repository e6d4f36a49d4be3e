/-
  The walk of term.
-/
import Derived.Test.YtflennpocpbbpaaDoorNi
import Derived.ScopeJumps
import Derived.Deep.RegionWith
namespace Go.Proofs.YtflennpocpbbpaaDoor
open Go.RowKit
set_option maxRecDepth 100000

end Go.Proofs.YtflennpocpbbpaaDoor
