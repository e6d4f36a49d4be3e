/-
  3 texts in one: what each proves stands at its head.
-/
import Derived.Test.YtflennpocpbbpaaGreatDoorUI
import Derived.Deep.RegionHeld2
import Derived.Test.YtflennpocpbbpaaGreatDoorNg
/-
  The walk of unit.
-/
namespace Go.Proofs.YtflennpocpbbpaaGreatDoor
open Go.RowKit
set_option maxRecDepth 100000

end Go.Proofs.YtflennpocpbbpaaGreatDoor
/-
  The walk of named.
-/
namespace Go.Proofs.YtflennpocpbbpaaGreatDoor
open Go.RowKit
set_option maxRecDepth 100000

theorem ElW.oth2 {w w' : World} {A : Nat → Prop} {g : Nat} {ao : Option Addr} {xs : List Ex} (h : ElW w A ao xs) (hU : Oth g w w') (hA : ∀ b, A b → b ≠ g) : ElW w' A ao xs := h.keep fun b hb _ => hU.block b (hA b hb)

end Go.Proofs.YtflennpocpbbpaaGreatDoor
/-
  The walks of wordOp, unit, named.
-/
namespace Go.Proofs.YtflennpocpbbpaaGreatDoor
open Go.RowKit
set_option maxRecDepth 100000

end Go.Proofs.YtflennpocpbbpaaGreatDoor
