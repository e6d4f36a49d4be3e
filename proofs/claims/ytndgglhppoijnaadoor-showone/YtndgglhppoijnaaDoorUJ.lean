/-
  3 texts in one: what each proves stands at its head.
-/
import Derived.Test.YtndgglhppoijnaaDoorUI
import Derived.Deep.RegionHeld2
import Derived.Test.YtndgglhppoijnaaDoorNg
/-
  The walk of unit.
-/
namespace Go.Proofs.YtndgglhppoijnaaDoor
open Go.RowKit
set_option maxRecDepth 100000

end Go.Proofs.YtndgglhppoijnaaDoor
/-
  The walk of named.
-/
namespace Go.Proofs.YtndgglhppoijnaaDoor
open Go.RowKit
set_option maxRecDepth 100000

end Go.Proofs.YtndgglhppoijnaaDoor
/-
  The walks of wordOp, unit, named.
-/
namespace Go.Proofs.YtndgglhppoijnaaDoor
open Go.RowKit
set_option maxRecDepth 100000

end Go.Proofs.YtndgglhppoijnaaDoor
