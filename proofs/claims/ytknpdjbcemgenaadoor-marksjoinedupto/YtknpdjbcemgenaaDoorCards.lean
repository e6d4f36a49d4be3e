/-
  DERIVED. GIVEN WITH THE SEED: THE CARDS: each row of YtknpdjbcemgenaaDoorRows.lean that lists a variable, with what it lists TIED to the program's text (the seventh form; the later family's looks); each row that meets fmt, with fmt's text TOLD by the authors' own Lean function (tested against real Go, not proved from fmt's source: count such statements apart). THE CARD IS WHAT COUNTS. Prove the row's statement (the work); the ties are given (YtknpdjbcemgenaaDoorTie.lean); close each card by the builder's one call (the guide's Derived/Test/ToyasCard.lean, 'card_holds'). Laid BY PROGRAM, IN A SANDBOX (cutbox-door.mjs). By AI agents, Wed Nov 11 2026. No macro, syntax, notation, axiom, sorry.
-/
import Derived.Test.YtknpdjbcemgenaaDoorRows
import GoSem.ClaimSeven
namespace Go.Proofs.YtknpdjbcemgenaaDoor
namespace Rows

/-- THE TIED CARD OF 'fathomlaw03.MarksReads'. -/
def marksReadsCard : Claim7 := { stood := { row := marksReadsRow, standIns := [], harness := (true, "ffb2618d6691d6e30ab94e6cefc1afdf186a79f32c24e81073640f6030b2951f"), looks := true }, kinds := [], alts := [], laidByText := true, laidKinds := [.data, .data, .data, .data, .sentinel, .sentinel, .data, .data, .pinned], laidTests := true, laidLooks := .later }
def MarksReadsCardSaid : Prop := Claim7.holds Tryd.pinned (.plain (OpenSpec.ofChange marksReadsSpec)) marksReadsCard

/-- THE TIED CARD OF 'fathomlaw03.MarksWords'. -/
def marksWordsCard : Claim7 := { stood := { row := marksWordsRow, standIns := [], harness := (true, "ffb2618d6691d6e30ab94e6cefc1afdf186a79f32c24e81073640f6030b2951f"), looks := true }, kinds := [], alts := [], laidByText := true, laidKinds := [.data, .data, .data, .data, .sentinel, .sentinel, .data, .data, .pinned], laidTests := true, laidLooks := .later }
def MarksWordsCardSaid : Prop := Claim7.holds Tryd.pinned (.plain (OpenSpec.ofChange marksWordsSpec)) marksWordsCard

/-- THE TIED CARD OF 'fathomlaw03.MarksCover'. -/
def marksCoverCard : Claim7 := { stood := { row := marksCoverRow, standIns := [], harness := (true, "ffb2618d6691d6e30ab94e6cefc1afdf186a79f32c24e81073640f6030b2951f"), looks := true }, kinds := [], alts := [], laidByText := true, laidKinds := [.data, .data, .data, .data, .sentinel, .sentinel, .data, .data, .pinned], laidTests := true, laidLooks := .later }
def MarksCoverCardSaid : Prop := Claim7.holds Tryd.pinned (.plain (OpenSpec.ofChange marksCoverSpec)) marksCoverCard

/-- THE TIED CARD OF 'fathomlaw03.MarksJoined'. -/
def marksJoinedCard : Claim7 := { stood := { row := marksJoinedRow, standIns := [], harness := (true, "ffb2618d6691d6e30ab94e6cefc1afdf186a79f32c24e81073640f6030b2951f"), looks := true }, kinds := [], alts := [], laidByText := true, laidKinds := [.data, .data, .data, .data, .sentinel, .sentinel, .data, .data, .pinned], laidTests := true, laidLooks := .later }
def MarksJoinedCardSaid : Prop := Claim7.holds Tryd.pinned (.plain (OpenSpec.ofChange marksJoinedSpec)) marksJoinedCard

/-- THE TIED CARD OF 'fathomlaw03.MarksSpaced'. -/
def marksSpacedCard : Claim7 := { stood := { row := marksSpacedRow, standIns := [], harness := (true, "ffb2618d6691d6e30ab94e6cefc1afdf186a79f32c24e81073640f6030b2951f"), looks := true }, kinds := [], alts := [], laidByText := true, laidKinds := [.data, .data, .data, .data, .sentinel, .sentinel, .data, .data, .pinned], laidTests := true, laidLooks := .later }
def MarksSpacedCardSaid : Prop := Claim7.holds Tryd.pinned (.plain (OpenSpec.ofChange marksSpacedSpec)) marksSpacedCard

/-- THE TIED CARD OF 'fathomlaw03.MarksKeep'. -/
def marksKeepCard : Claim7 := { stood := { row := marksKeepRow, standIns := [], harness := (true, "ffb2618d6691d6e30ab94e6cefc1afdf186a79f32c24e81073640f6030b2951f"), looks := true }, kinds := [], alts := [], laidByText := true, laidKinds := [.data, .data, .data, .data, .sentinel, .sentinel, .data, .data, .pinned], laidTests := true, laidLooks := .later }
def MarksKeepCardSaid : Prop := Claim7.holds Tryd.pinned (.plain (OpenSpec.ofChange marksKeepSpec)) marksKeepCard

/-- THE SECOND FORM's CARD OF 'fathomlaw03.MarksReads'. -/
def marksReadsUptoCard : Claim7 := { stood := { row := marksReadsUptoRow, standIns := [], harness := (true, "ffb2618d6691d6e30ab94e6cefc1afdf186a79f32c24e81073640f6030b2951f"), looks := true }, kinds := [], alts := [], laidByText := true, laidKinds := [.data, .data, .data, .data, .sentinel, .sentinel, .data, .data, .pinned], laidTests := true, laidLooks := .later }
def MarksReadsUptoCardSaid : Prop := Claim7.holds Tryd.pinned (.plain (OpenSpec.upto marksReadsSpec)) marksReadsUptoCard

/-- THE SECOND FORM's CARD OF 'fathomlaw03.MarksWords'. -/
def marksWordsUptoCard : Claim7 := { stood := { row := marksWordsUptoRow, standIns := [], harness := (true, "ffb2618d6691d6e30ab94e6cefc1afdf186a79f32c24e81073640f6030b2951f"), looks := true }, kinds := [], alts := [], laidByText := true, laidKinds := [.data, .data, .data, .data, .sentinel, .sentinel, .data, .data, .pinned], laidTests := true, laidLooks := .later }
def MarksWordsUptoCardSaid : Prop := Claim7.holds Tryd.pinned (.plain (OpenSpec.upto marksWordsSpec)) marksWordsUptoCard

/-- THE SECOND FORM's CARD OF 'fathomlaw03.MarksCover'. -/
def marksCoverUptoCard : Claim7 := { stood := { row := marksCoverUptoRow, standIns := [], harness := (true, "ffb2618d6691d6e30ab94e6cefc1afdf186a79f32c24e81073640f6030b2951f"), looks := true }, kinds := [], alts := [], laidByText := true, laidKinds := [.data, .data, .data, .data, .sentinel, .sentinel, .data, .data, .pinned], laidTests := true, laidLooks := .later }
def MarksCoverUptoCardSaid : Prop := Claim7.holds Tryd.pinned (.plain (OpenSpec.upto marksCoverSpec)) marksCoverUptoCard

/-- THE SECOND FORM's CARD OF 'fathomlaw03.MarksJoined'. -/
def marksJoinedUptoCard : Claim7 := { stood := { row := marksJoinedUptoRow, standIns := [], harness := (true, "ffb2618d6691d6e30ab94e6cefc1afdf186a79f32c24e81073640f6030b2951f"), looks := true }, kinds := [], alts := [], laidByText := true, laidKinds := [.data, .data, .data, .data, .sentinel, .sentinel, .data, .data, .pinned], laidTests := true, laidLooks := .later }
def MarksJoinedUptoCardSaid : Prop := Claim7.holds Tryd.pinned (.plain (OpenSpec.upto marksJoinedSpec)) marksJoinedUptoCard

/-- THE SECOND FORM's CARD OF 'fathomlaw03.MarksSpaced'. -/
def marksSpacedUptoCard : Claim7 := { stood := { row := marksSpacedUptoRow, standIns := [], harness := (true, "ffb2618d6691d6e30ab94e6cefc1afdf186a79f32c24e81073640f6030b2951f"), looks := true }, kinds := [], alts := [], laidByText := true, laidKinds := [.data, .data, .data, .data, .sentinel, .sentinel, .data, .data, .pinned], laidTests := true, laidLooks := .later }
def MarksSpacedUptoCardSaid : Prop := Claim7.holds Tryd.pinned (.plain (OpenSpec.upto marksSpacedSpec)) marksSpacedUptoCard

/-- THE SECOND FORM's CARD OF 'fathomlaw03.MarksKeep'. -/
def marksKeepUptoCard : Claim7 := { stood := { row := marksKeepUptoRow, standIns := [], harness := (true, "ffb2618d6691d6e30ab94e6cefc1afdf186a79f32c24e81073640f6030b2951f"), looks := true }, kinds := [], alts := [], laidByText := true, laidKinds := [.data, .data, .data, .data, .sentinel, .sentinel, .data, .data, .pinned], laidTests := true, laidLooks := .later }
def MarksKeepUptoCardSaid : Prop := Claim7.holds Tryd.pinned (.plain (OpenSpec.upto marksKeepSpec)) marksKeepUptoCard
end Rows
end Go.Proofs.YtknpdjbcemgenaaDoor
