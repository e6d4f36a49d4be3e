/-
  Definitions anywhere in a row; the walk of Same there; Wide.
-/
import Derived.Test.YtdncofkjncanfaaGreatDoorSc
import Derived.Test.YtdncofkjncanfaaGreatDoorUV
import Derived.Test.YtdncofkjncanfaaGreatDoorUA
namespace Go.Proofs.YtdncofkjncanfaaGreatDoor
open Go.RowKit
set_option maxRecDepth 100000
set_option maxHeartbeats 1000000 in
theorem wide_any (w:World):Calls Tryz.prog 7 #[] w fun e w'=>e=.returned (.agg #[.int .i64 32768,.int .i64 32768,.int .i64 32768,.int .i64 32768])∧Below w.heap.size w w':=by
 go_enter Tryz.func7,Tryz.ntmps7
 go_wp2
 refine bodyPost_ret (v:=.agg #[.int .i64 32768,.int .i64 32768,.int .i64 32768,.int .i64 32768]) (by simp[results,Tryz.results7,go_sem]) rfl ⟨rfl,below_alloc _ _⟩
end Go.Proofs.YtdncofkjncanfaaGreatDoor
