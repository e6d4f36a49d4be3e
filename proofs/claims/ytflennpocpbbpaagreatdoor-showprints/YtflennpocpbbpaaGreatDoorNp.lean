/-
  The walk of worded.
-/
import Derived.Test.YtflennpocpbbpaaGreatDoorNg
import Derived.Test.YtflennpocpbbpaaGreatDoorUJ
namespace Go.Proofs.YtflennpocpbbpaaGreatDoor
open Go.RowKit
set_option maxRecDepth 100000

end Go.Proofs.YtflennpocpbbpaaGreatDoor
