/-
  The walk of comp.
-/
import Derived.Test.YtflennpocpbbpaaDoorUI
import Derived.Deep.RegionHeld2
namespace Go.Proofs.YtflennpocpbbpaaDoor
open Go.RowKit
set_option maxRecDepth 100000

end Go.Proofs.YtflennpocpbbpaaDoor
