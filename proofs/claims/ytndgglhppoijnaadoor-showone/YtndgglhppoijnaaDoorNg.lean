/-
  The walks of bracketed, binding, choice, look.
-/
import Derived.Test.YtndgglhppoijnaaDoorUI
namespace Go.Proofs.YtndgglhppoijnaaDoor
open Go.RowKit
set_option maxRecDepth 100000

end Go.Proofs.YtndgglhppoijnaaDoor
