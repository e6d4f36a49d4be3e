/-
  1 texts in one: what each proves stands at its head.
-/
import Derived.Test.YtaneibojiamjeaaGreatDoorUF
import Derived.Test.YtaneibojiamjeaaGreatDoorCards
import Derived.Test.YtaneibojiamjeaaGreatDoorTie
import Derived.ProofKit
import Derived.LaidMore
import Derived.LaidSub
import Derived.LaidLaws
import Derived.Lib.LaidTab
import Derived.Lib.LaidU8T
import Derived.OpenShut
import Derived.Stop.Joined
import Derived.SevenTiedAt
import Derived.Lib.SmallJoins
import Derived.SizedLaws
import Derived.Carry
import Derived.Deep.DeepHandedRow
/-
  From the row's condition to what lies in memory; a slice of bytes that came in, opened; how much of it there is.
-/
namespace Go.Proofs.YtaneibojiamjeaaGreatDoor
open Go.ChangeShapes Go.WideShapes Go.ChangeAt Go.RowKit Go.Joins
open Go.Lib
set_option maxRecDepth 100000

theorem own : ownKnob Tryz.prog.godebug = none := by kernel_rfl
theorem tab_of_list {l : List (String × DataW Unit)} {W : World} (h : laidMetH Tryz.prog l W)
    (e : (l.filter fun x => x.1 == "internal/strconv.uint64pow10") = [("internal/strconv.uint64pow10", Lib.tabData .u64 Lib.pow10Tab)]) : Tab W := by
  have h1 := h.filter (fun x => x.1 == "internal/strconv.uint64pow10")
  rw [e, MakeChecks.laidMetH_plain _ _ _ (by kernel_rfl)] at h1
  exact Lib.tabIs_of_head (g := 0) (t := 160) (e := 135) (n := 20) (by kernel_rfl) (by kernel_rfl) (by kernel_rfl) (by kernel_rfl) (by kernel_rfl) (by kernel_rfl) h1

end Go.Proofs.YtaneibojiamjeaaGreatDoor
