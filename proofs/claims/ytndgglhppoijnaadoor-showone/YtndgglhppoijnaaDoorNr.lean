/-
  The walk of cons.
-/
import Derived.Test.YtndgglhppoijnaaDoorUK
namespace Go.Proofs.YtndgglhppoijnaaDoor
open Go.RowKit
set_option maxRecDepth 100000

end Go.Proofs.YtndgglhppoijnaaDoor
