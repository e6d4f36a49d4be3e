/-
  The walk of comp.
-/
import Derived.Test.YtndgglhppoijnaaDoorUI
import Derived.Deep.RegionHeld2
namespace Go.Proofs.YtndgglhppoijnaaDoor
open Go.RowKit
set_option maxRecDepth 100000

end Go.Proofs.YtndgglhppoijnaaDoor
