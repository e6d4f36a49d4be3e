/-
  3 texts in one: what each proves stands at its head.
-/
import Derived.Test.YtaneibojiamjeaaGreatDoorUl
/-
  A checker of types as it lies; the walks of what it asks at one expression.
-/
namespace Go.Proofs.YtaneibojiamjeaaGreatDoor
open Go.RowKit Go.Maps
set_option maxRecDepth 100000

/-- A map that has at each name its type. -/
def Tn (w : World) (b n : Nat) (tf : List UInt8 → Int) : Prop := ∃ f, MapW Tryz.prog 9 w b n f ∧ ∀ s, (f s).getD (.int .i64 0) = .int .i64 (tf s)
theorem Tn.lt {w : World} {b n : Nat} {tf : List UInt8 → Int} (h : Tn w b n tf) : b < w.heap.size := by obtain ⟨f, h, _⟩ := h; exact h.lt
end Go.Proofs.YtaneibojiamjeaaGreatDoor
/-
  The walks of an expression's own type, and of what is wanted of its parts.
-/
namespace Go.Proofs.YtaneibojiamjeaaGreatDoor
open Go.RowKit Go.Maps
set_option maxRecDepth 100000

end Go.Proofs.YtaneibojiamjeaaGreatDoor
/-
  The walks of what is wanted of a part.
-/
namespace Go.Proofs.YtaneibojiamjeaaGreatDoor
open Go.RowKit Go.Maps
set_option maxRecDepth 100000

end Go.Proofs.YtaneibojiamjeaaGreatDoor
