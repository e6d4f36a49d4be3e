/-
  A text copied, however long it may be.
-/
import Derived.Test.YtndgglhppoijnaaDoorUM
namespace Go.Proofs.YtndgglhppoijnaaDoor
open Go.RowKit
set_option maxRecDepth 100000

end Go.Proofs.YtndgglhppoijnaaDoor
