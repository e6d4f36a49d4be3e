/-
  The walk of term.
-/
import Derived.Test.YtflennpocpbbpaaGreatDoorNi
import Derived.ScopeJumps
import Derived.Deep.RegionWith
namespace Go.Proofs.YtflennpocpbbpaaGreatDoor
open Go.RowKit
set_option maxRecDepth 100000

end Go.Proofs.YtflennpocpbbpaaGreatDoor
