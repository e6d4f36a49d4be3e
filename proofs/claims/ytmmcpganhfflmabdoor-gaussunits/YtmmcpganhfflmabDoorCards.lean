/-
  DERIVED. GIVEN WITH THE SEED: THE CARDS: each row of YtmmcpganhfflmabDoorRows.lean that lists a variable, with what it lists TIED to the program's text (the seventh form; the later family's looks); each row that meets fmt, with fmt's text TOLD by the authors' own Lean function (tested against real Go, not proved from fmt's source: count such statements apart). THE CARD IS WHAT COUNTS. Prove the row's statement (the work); the ties are given (YtmmcpganhfflmabDoorTie.lean); close each card by the builder's one call (the guide's Derived/Test/ToyasCard.lean, 'card_holds'). Laid BY PROGRAM, IN A SANDBOX (cutbox-door.mjs). By AI agents, Wed Nov 11 2026. No macro, syntax, notation, axiom, sorry.
-/
import Derived.Test.YtmmcpganhfflmabDoorRows
import GoSem.ClaimSeven
namespace Go.Proofs.YtmmcpganhfflmabDoor
namespace Rows

/-- THE TIED CARD OF 'fathomlaw01.GaussThree'. -/
def gaussThreeCard : Claim7 := { stood := { row := gaussThreeRow, standIns := [], harness := (true, "2a4cbb11af15d00a27d43c00934df50ebee4f2ded769a86c21b81546da816b9e"), looks := false }, kinds := [], alts := [], laidByText := true, laidKinds := [.data, .data, .data], laidTests := true, laidLooks := .later }
def GaussThreeCardSaid : Prop := Claim7.holds Tryd.pinned (.plain (OpenSpec.ofChange gaussThreeSpec)) gaussThreeCard

/-- THE TIED CARD OF 'fathomlaw01.GaussUnits'. -/
def gaussUnitsCard : Claim7 := { stood := { row := gaussUnitsRow, standIns := [], harness := (true, "2a4cbb11af15d00a27d43c00934df50ebee4f2ded769a86c21b81546da816b9e"), looks := false }, kinds := [], alts := [], laidByText := true, laidKinds := [.data, .data, .data], laidTests := true, laidLooks := .later }
def GaussUnitsCardSaid : Prop := Claim7.holds Tryd.pinned (.plain (OpenSpec.ofChange gaussUnitsSpec)) gaussUnitsCard

/-- THE SECOND FORM's CARD OF 'fathomlaw01.GaussThree'. -/
def gaussThreeUptoCard : Claim7 := { stood := { row := gaussThreeUptoRow, standIns := [], harness := (true, "2a4cbb11af15d00a27d43c00934df50ebee4f2ded769a86c21b81546da816b9e"), looks := false }, kinds := [], alts := [], laidByText := true, laidKinds := [.data, .data, .data], laidTests := true, laidLooks := .later }
def GaussThreeUptoCardSaid : Prop := Claim7.holds Tryd.pinned (.plain (OpenSpec.upto gaussThreeSpec)) gaussThreeUptoCard

/-- THE SECOND FORM's CARD OF 'fathomlaw01.GaussUnits'. -/
def gaussUnitsUptoCard : Claim7 := { stood := { row := gaussUnitsUptoRow, standIns := [], harness := (true, "2a4cbb11af15d00a27d43c00934df50ebee4f2ded769a86c21b81546da816b9e"), looks := false }, kinds := [], alts := [], laidByText := true, laidKinds := [.data, .data, .data], laidTests := true, laidLooks := .later }
def GaussUnitsUptoCardSaid : Prop := Claim7.holds Tryd.pinned (.plain (OpenSpec.upto gaussUnitsSpec)) gaussUnitsUptoCard
end Rows
end Go.Proofs.YtmmcpganhfflmabDoor
