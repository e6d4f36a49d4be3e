/-
  DERIVED. GIVEN WITH THE SEED: THE CARDS: each row of YtndgglhppoijnaaGreatDoorRows.lean that lists a variable, with what it lists TIED to the program's text (the seventh form; the later family's looks); each row that meets fmt, with fmt's text TOLD by the authors' own Lean function (tested against real Go, not proved from fmt's source: count such statements apart). THE CARD IS WHAT COUNTS. Prove the row's statement (the work); the ties are given (YtndgglhppoijnaaGreatDoorTie.lean); close each card by the builder's one call (the guide's Derived/Test/ToyasCard.lean, 'card_holds'). Laid BY PROGRAM, IN A SANDBOX (cutbox-door.mjs). By AI agents, Wed Nov 11 2026. No macro, syntax, notation, axiom, sorry.
-/
import Derived.Test.YtndgglhppoijnaaGreatDoorRows
import GoSem.ClaimSeven
namespace Go.Proofs.YtndgglhppoijnaaGreatDoor
namespace Rows

/-- THE TIED CARD OF 'fathomlaw04.LangBracketed'. -/
def langBracketedCard : Claim7 := { stood := { row := langBracketedRow, standIns := [], harness := (true, "d1460dae203a682c8160fe4f379b278304abd10b656e3c63e4c9e1f7b9e694e2"), looks := true }, kinds := [], alts := [], laidByText := true, laidKinds := [.data, .data, .data, .data, .sentinel, .sentinel, .data, .data, .pinned], laidTests := true, laidLooks := .later }
def LangBracketedCardSaid : Prop := Claim7.holds Tryz.pinned (.plain (OpenSpec.ofChange langBracketedSpec)) langBracketedCard

/-- THE TIED CARD OF 'fathomlaw04.LangKeep'. -/
def langKeepCard : Claim7 := { stood := { row := langKeepRow, standIns := [], harness := (true, "d1460dae203a682c8160fe4f379b278304abd10b656e3c63e4c9e1f7b9e694e2"), looks := true }, kinds := [], alts := [], laidByText := true, laidKinds := [.data, .data, .data, .data, .sentinel, .sentinel, .data, .data, .pinned], laidTests := true, laidLooks := .later }
def LangKeepCardSaid : Prop := Claim7.holds Tryz.pinned (.plain (OpenSpec.ofChange langKeepSpec)) langKeepCard

/-- THE TIED CARD OF 'fathomlaw05.ShowBack'. -/
def showBackCard : Claim7 := { stood := { row := showBackRow, standIns := [], harness := (true, "d1460dae203a682c8160fe4f379b278304abd10b656e3c63e4c9e1f7b9e694e2"), looks := true }, kinds := [], alts := [], laidByText := true, laidKinds := [.data, .data, .data, .data, .sentinel, .sentinel, .data, .data, .pinned], laidTests := true, laidLooks := .later }
def ShowBackCardSaid : Prop := Claim7.holds Tryz.pinned (.plain (OpenSpec.ofChange showBackSpec)) showBackCard

/-- THE SECOND FORM's CARD OF 'fathomlaw04.LangBracketed'. -/
def langBracketedUptoCard : Claim7 := { stood := { row := langBracketedUptoRow, standIns := [], harness := (true, "d1460dae203a682c8160fe4f379b278304abd10b656e3c63e4c9e1f7b9e694e2"), looks := true }, kinds := [], alts := [], laidByText := true, laidKinds := [.data, .data, .data, .data, .sentinel, .sentinel, .data, .data, .pinned], laidTests := true, laidLooks := .later }
def LangBracketedUptoCardSaid : Prop := Claim7.holds Tryz.pinned (.plain (OpenSpec.upto langBracketedSpec)) langBracketedUptoCard

/-- THE SECOND FORM's CARD OF 'fathomlaw04.LangKeep'. -/
def langKeepUptoCard : Claim7 := { stood := { row := langKeepUptoRow, standIns := [], harness := (true, "d1460dae203a682c8160fe4f379b278304abd10b656e3c63e4c9e1f7b9e694e2"), looks := true }, kinds := [], alts := [], laidByText := true, laidKinds := [.data, .data, .data, .data, .sentinel, .sentinel, .data, .data, .pinned], laidTests := true, laidLooks := .later }
def LangKeepUptoCardSaid : Prop := Claim7.holds Tryz.pinned (.plain (OpenSpec.upto langKeepSpec)) langKeepUptoCard

/-- THE SECOND FORM's CARD OF 'fathomlaw05.ShowBack'. -/
def showBackUptoCard : Claim7 := { stood := { row := showBackUptoRow, standIns := [], harness := (true, "d1460dae203a682c8160fe4f379b278304abd10b656e3c63e4c9e1f7b9e694e2"), looks := true }, kinds := [], alts := [], laidByText := true, laidKinds := [.data, .data, .data, .data, .sentinel, .sentinel, .data, .data, .pinned], laidTests := true, laidLooks := .later }
def ShowBackUptoCardSaid : Prop := Claim7.holds Tryz.pinned (.plain (OpenSpec.upto showBackSpec)) showBackUptoCard
end Rows
end Go.Proofs.YtndgglhppoijnaaGreatDoor
