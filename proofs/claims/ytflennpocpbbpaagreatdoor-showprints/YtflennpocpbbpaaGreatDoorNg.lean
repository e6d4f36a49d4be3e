/-
  The walks of bracketed, binding, choice, look.
-/
import Derived.Test.YtflennpocpbbpaaGreatDoorUI
namespace Go.Proofs.YtflennpocpbbpaaGreatDoor
open Go.RowKit
set_option maxRecDepth 100000

end Go.Proofs.YtflennpocpbbpaaGreatDoor
