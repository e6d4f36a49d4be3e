/-
  DERIVED. GIVEN WITH THE SEED: THE CARDS: each row of YtndgglhppoijnaaDoorRows.lean that lists a variable, with what it lists TIED to the program's text (the seventh form; the later family's looks); each row that meets fmt, with fmt's text TOLD by the authors' own Lean function (tested against real Go, not proved from fmt's source: count such statements apart). THE CARD IS WHAT COUNTS. Prove the row's statement (the work); the ties are given (YtndgglhppoijnaaDoorTie.lean); close each card by the builder's one call (the guide's Derived/Test/ToyasCard.lean, 'card_holds'). Laid BY PROGRAM, IN A SANDBOX (cutbox-door.mjs). By AI agents, Wed Nov 11 2026. No macro, syntax, notation, axiom, sorry.
-/
import Derived.Test.YtndgglhppoijnaaDoorRows
import GoSem.ClaimSeven
namespace Go.Proofs.YtndgglhppoijnaaDoor
namespace Rows

/-- THE TIED CARD OF 'fathomlaw05.ShowOne'. -/
def showOneCard : Claim7 := { stood := { row := showOneRow, standIns := [], harness := (true, "4a9db7552e153502ec61efb8b548e3dd7dc84324f3fdaae1e03196f3551c21cb"), looks := false }, kinds := [], alts := [], laidByText := true, laidKinds := [.data, .data, .data], laidTests := true, laidLooks := .later }
def ShowOneCardSaid : Prop := Claim7.holds Tryd.pinned (.plain (OpenSpec.ofChange showOneSpec)) showOneCard

/-- THE SECOND FORM's CARD OF 'fathomlaw05.ShowOne'. -/
def showOneUptoCard : Claim7 := { stood := { row := showOneUptoRow, standIns := [], harness := (true, "4a9db7552e153502ec61efb8b548e3dd7dc84324f3fdaae1e03196f3551c21cb"), looks := false }, kinds := [], alts := [], laidByText := true, laidKinds := [.data, .data, .data], laidTests := true, laidLooks := .later }
def ShowOneUptoCardSaid : Prop := Claim7.holds Tryd.pinned (.plain (OpenSpec.upto showOneSpec)) showOneUptoCard
end Rows
end Go.Proofs.YtndgglhppoijnaaDoor
