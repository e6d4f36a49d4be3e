/-
  DERIVED. GIVEN WITH THE SEED: THE CARDS: each row of YtdimjpakgbebcaaDoorRows.lean that lists a variable, with what it lists TIED to the program's text (the seventh form; the later family's looks); each row that meets fmt, with fmt's text TOLD by the authors' own Lean function (tested against real Go, not proved from fmt's source: count such statements apart). THE CARD IS WHAT COUNTS. Prove the row's statement (the work); the ties are given (YtdimjpakgbebcaaDoorTie.lean); close each card by the builder's one call (the guide's Derived/Test/ToyasCard.lean, 'card_holds'). Laid BY PROGRAM, IN A SANDBOX (cutbox-door.mjs). By AI agents, Wed Nov 11 2026. No macro, syntax, notation, axiom, sorry.
-/
import Derived.Test.YtdimjpakgbebcaaDoorRows
import GoSem.ClaimSeven
namespace Go.Proofs.YtdimjpakgbebcaaDoor
namespace Rows

/-- THE TIED CARD OF 'fathomlaw03.MarksSpaced'. -/
def marksSpacedCard : Claim7 := { stood := { row := marksSpacedRow, standIns := [], harness := (true, "3891bb0382d8189bcd0b0f7af9f72e3fc43d0e024d5b9d7886703a0918620253"), looks := true }, kinds := [], alts := [], laidByText := true, laidKinds := [.data, .data, .data, .data, .sentinel, .sentinel, .data, .data, .pinned], laidTests := true, laidLooks := .later }
def MarksSpacedCardSaid : Prop := Claim7.holds Tryd.pinned (.plain (OpenSpec.ofChange marksSpacedSpec)) marksSpacedCard

/-- THE TIED CARD OF 'fathomlaw03.MarksKeep'. -/
def marksKeepCard : Claim7 := { stood := { row := marksKeepRow, standIns := [], harness := (true, "3891bb0382d8189bcd0b0f7af9f72e3fc43d0e024d5b9d7886703a0918620253"), looks := true }, kinds := [], alts := [], laidByText := true, laidKinds := [.data, .data, .data, .data, .sentinel, .sentinel, .data, .data, .pinned], laidTests := true, laidLooks := .later }
def MarksKeepCardSaid : Prop := Claim7.holds Tryd.pinned (.plain (OpenSpec.ofChange marksKeepSpec)) marksKeepCard

/-- THE SECOND FORM's CARD OF 'fathomlaw03.MarksSpaced'. -/
def marksSpacedUptoCard : Claim7 := { stood := { row := marksSpacedUptoRow, standIns := [], harness := (true, "3891bb0382d8189bcd0b0f7af9f72e3fc43d0e024d5b9d7886703a0918620253"), looks := true }, kinds := [], alts := [], laidByText := true, laidKinds := [.data, .data, .data, .data, .sentinel, .sentinel, .data, .data, .pinned], laidTests := true, laidLooks := .later }
def MarksSpacedUptoCardSaid : Prop := Claim7.holds Tryd.pinned (.plain (OpenSpec.upto marksSpacedSpec)) marksSpacedUptoCard

/-- THE SECOND FORM's CARD OF 'fathomlaw03.MarksKeep'. -/
def marksKeepUptoCard : Claim7 := { stood := { row := marksKeepUptoRow, standIns := [], harness := (true, "3891bb0382d8189bcd0b0f7af9f72e3fc43d0e024d5b9d7886703a0918620253"), looks := true }, kinds := [], alts := [], laidByText := true, laidKinds := [.data, .data, .data, .data, .sentinel, .sentinel, .data, .data, .pinned], laidTests := true, laidLooks := .later }
def MarksKeepUptoCardSaid : Prop := Claim7.holds Tryd.pinned (.plain (OpenSpec.upto marksKeepSpec)) marksKeepUptoCard
end Rows
end Go.Proofs.YtdimjpakgbebcaaDoor
