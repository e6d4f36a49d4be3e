/-
  From the row's condition to the library's table of powers.
-/
import Derived.Test.YtmmcpganhfflmaaDoorTw
import Derived.Test.YtmmcpganhfflmaaDoorRows
import Derived.LaidSub
namespace Go.Proofs.YtmmcpganhfflmaaDoor
open Go.RowKit
set_option maxRecDepth 100000

theorem tab_of_list {l : List (String × DataW Unit)} {W : World} (h : laidMetH Tryd.prog l W)
    (e : (l.filter fun x => x.1 == "internal/strconv.uint64pow10") = [("internal/strconv.uint64pow10", Lib.tabData .u64 Lib.pow10Tab)]) : Tab W := by
  have h1 := h.filter (fun x => x.1 == "internal/strconv.uint64pow10")
  rw [e, MakeChecks.laidMetH_plain _ _ _ (by kernel_rfl)] at h1
  exact Lib.tabIs_of_head (g := 3) (t := 115) (e := 57) (n := 20) (by kernel_rfl) (by kernel_rfl) (by kernel_rfl) (by kernel_rfl) (by kernel_rfl) (by kernel_rfl) h1

theorem tab_back {W : World} (h : laidMetH Tryd.prog Rows.gaussBackRow.laid W) : Tab W := tab_of_list h (by kernel_rfl)
end Go.Proofs.YtmmcpganhfflmaaDoor
