/-
  The walk of comp.
-/
import Derived.Test.YtflennpocpbbpaaGreatDoorUI
import Derived.Deep.RegionHeld2
namespace Go.Proofs.YtflennpocpbbpaaGreatDoor
open Go.RowKit
set_option maxRecDepth 100000

end Go.Proofs.YtflennpocpbbpaaGreatDoor
