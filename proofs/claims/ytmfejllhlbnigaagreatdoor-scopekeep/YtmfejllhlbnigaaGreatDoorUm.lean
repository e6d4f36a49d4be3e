/-
  3 texts in one: what each proves stands at its head.
-/
import Derived.Test.YtmfejllhlbnigaaGreatDoorUl
/-
  A checker of types as it lies; the walks of what it asks at one expression.
-/
namespace Go.Proofs.YtmfejllhlbnigaaGreatDoor
open Go.RowKit Go.Maps
set_option maxRecDepth 100000

/-- A map that has at each name its type. -/
def Tn (w : World) (b n : Nat) (tf : List UInt8 → Int) : Prop := ∃ f, MapW Tryz.prog 9 w b n f ∧ ∀ s, (f s).getD (.int .i64 0) = .int .i64 (tf s)
end Go.Proofs.YtmfejllhlbnigaaGreatDoor
/-
  The walks of an expression's own type, and of what is wanted of its parts.
-/
namespace Go.Proofs.YtmfejllhlbnigaaGreatDoor
open Go.RowKit Go.Maps
set_option maxRecDepth 100000

end Go.Proofs.YtmfejllhlbnigaaGreatDoor
/-
  The walks of what is wanted of a part.
-/
namespace Go.Proofs.YtmfejllhlbnigaaGreatDoor
open Go.RowKit Go.Maps
set_option maxRecDepth 100000

end Go.Proofs.YtmfejllhlbnigaaGreatDoor
