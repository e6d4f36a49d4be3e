/-
  The walk of term.
-/
import Derived.Test.YtndgglhppoijnaaDoorNi
import Derived.ScopeJumps
import Derived.Deep.RegionWith
namespace Go.Proofs.YtndgglhppoijnaaDoor
open Go.RowKit
set_option maxRecDepth 100000

end Go.Proofs.YtndgglhppoijnaaDoor
