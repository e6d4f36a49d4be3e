/-
  A text copied, however long it may be.
-/
import Derived.Test.YtflennpocpbbpaaGreatDoorUM
namespace Go.Proofs.YtflennpocpbbpaaGreatDoor
open Go.RowKit
set_option maxRecDepth 100000

end Go.Proofs.YtflennpocpbbpaaGreatDoor
