/-
  The walk of worded.
-/
import Derived.Test.YtndgglhppoijnaaDoorNg
import Derived.Test.YtndgglhppoijnaaDoorUJ
namespace Go.Proofs.YtndgglhppoijnaaDoor
open Go.RowKit
set_option maxRecDepth 100000

end Go.Proofs.YtndgglhppoijnaaDoor
