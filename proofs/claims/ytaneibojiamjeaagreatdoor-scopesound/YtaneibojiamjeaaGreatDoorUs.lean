/-
  2 texts in one: what each proves stands at its head.
-/
import Derived.Test.YtaneibojiamjeaaGreatDoorUe
import Derived.Test.YtaneibojiamjeaaGreatDoorUr
import Derived.Deep.DeepCutAuto
import Derived.BigQuiet
/-
  The region of the document's Check of names that draws its order.
-/
namespace Go.Proofs.YtaneibojiamjeaaGreatDoor
open Go.RowKit
set_option maxRecDepth 100000

def ef1 : Oper := { dst := some 15, op := Op.load 29 (Operand.tmp 14), type := 29, pos := "ref.go:115", after := #[{ on := 0, ground := Ground.data }], guard := none }
section
variable {Q : Exit → Act → World → Prop} {X0 w0 : World} {a0 : Act}
end
section
variable {Q : Exit → Act → World → Prop} {X0 w0 : World} {a0 : Act}
end
end Go.Proofs.YtaneibojiamjeaaGreatDoor
/-
  The document's Check of names.
-/
namespace Go.Proofs.YtaneibojiamjeaaGreatDoor
open Go.RowKit Go.Maps
set_option maxRecDepth 100000

end Go.Proofs.YtaneibojiamjeaaGreatDoor
