/-
  DERIVED. GIVEN WITH THE SEED: THE CARDS: each row of YtkonkplalgoekaaGreatDoorRows.lean that lists a variable, with what it lists TIED to the program's text (the seventh form; the later family's looks); each row that meets fmt, with fmt's text TOLD by the authors' own Lean function (tested against real Go, not proved from fmt's source: count such statements apart). THE CARD IS WHAT COUNTS. Prove the row's statement (the work); the ties are given (YtkonkplalgoekaaGreatDoorTie.lean); close each card by the builder's one call (the guide's Derived/Test/ToyasCard.lean, 'card_holds'). Laid BY PROGRAM, IN A SANDBOX (cutbox-door.mjs). By AI agents, Wed Nov 11 2026. No macro, syntax, notation, axiom, sorry.
-/
import Derived.Test.YtkonkplalgoekaaGreatDoorRows
import GoSem.ClaimSeven
namespace Go.Proofs.YtkonkplalgoekaaGreatDoor
namespace Rows

/-- THE TIED CARD OF 'fathomlaw04.LangParses'. -/
def langParsesCard : Claim7 := { stood := { row := langParsesRow, standIns := [], harness := (true, "0bf620f846174296f45be8e148958f40105090b848f52b1e828c102814ded0c4"), looks := true }, kinds := [], alts := [], laidByText := true, laidKinds := [.data, .data, .data, .data, .sentinel, .sentinel, .data, .data, .pinned], laidTests := true, laidLooks := .later }
def LangParsesCardSaid : Prop := Claim7.holds Tryz.pinned (.plain (OpenSpec.ofChange langParsesSpec)) langParsesCard

/-- THE TIED CARD OF 'fathomlaw04.LangFaults'. -/
def langFaultsCard : Claim7 := { stood := { row := langFaultsRow, standIns := [], harness := (true, "0bf620f846174296f45be8e148958f40105090b848f52b1e828c102814ded0c4"), looks := true }, kinds := [], alts := [], laidByText := true, laidKinds := [.data, .data, .data, .data, .sentinel, .sentinel, .data, .data, .pinned], laidTests := true, laidLooks := .later }
def LangFaultsCardSaid : Prop := Claim7.holds Tryz.pinned (.plain (OpenSpec.ofChange langFaultsSpec)) langFaultsCard

/-- THE TIED CARD OF 'fathomlaw04.LangWider'. -/
def langWiderCard : Claim7 := { stood := { row := langWiderRow, standIns := [], harness := (true, "0bf620f846174296f45be8e148958f40105090b848f52b1e828c102814ded0c4"), looks := true }, kinds := [], alts := [], laidByText := true, laidKinds := [.data, .data, .data, .data, .sentinel, .sentinel, .data, .data, .pinned], laidTests := true, laidLooks := .later }
def LangWiderCardSaid : Prop := Claim7.holds Tryz.pinned (.plain (OpenSpec.ofChange langWiderSpec)) langWiderCard

/-- THE TIED CARD OF 'fathomlaw04.LangSpaced'. -/
def langSpacedCard : Claim7 := { stood := { row := langSpacedRow, standIns := [], harness := (true, "0bf620f846174296f45be8e148958f40105090b848f52b1e828c102814ded0c4"), looks := true }, kinds := [], alts := [], laidByText := true, laidKinds := [.data, .data, .data, .data, .sentinel, .sentinel, .data, .data, .pinned], laidTests := true, laidLooks := .later }
def LangSpacedCardSaid : Prop := Claim7.holds Tryz.pinned (.plain (OpenSpec.ofChange langSpacedSpec)) langSpacedCard

/-- THE TIED CARD OF 'fathomlaw04.LangJoined'. -/
def langJoinedCard : Claim7 := { stood := { row := langJoinedRow, standIns := [], harness := (true, "0bf620f846174296f45be8e148958f40105090b848f52b1e828c102814ded0c4"), looks := true }, kinds := [], alts := [], laidByText := true, laidKinds := [.data, .data, .data, .data, .sentinel, .sentinel, .data, .data, .pinned], laidTests := true, laidLooks := .later }
def LangJoinedCardSaid : Prop := Claim7.holds Tryz.pinned (.plain (OpenSpec.ofChange langJoinedSpec)) langJoinedCard

/-- THE TIED CARD OF 'fathomlaw04.LangBracketed'. -/
def langBracketedCard : Claim7 := { stood := { row := langBracketedRow, standIns := [], harness := (true, "0bf620f846174296f45be8e148958f40105090b848f52b1e828c102814ded0c4"), looks := true }, kinds := [], alts := [], laidByText := true, laidKinds := [.data, .data, .data, .data, .sentinel, .sentinel, .data, .data, .pinned], laidTests := true, laidLooks := .later }
def LangBracketedCardSaid : Prop := Claim7.holds Tryz.pinned (.plain (OpenSpec.ofChange langBracketedSpec)) langBracketedCard

/-- THE SECOND FORM's CARD OF 'fathomlaw04.LangParses'. -/
def langParsesUptoCard : Claim7 := { stood := { row := langParsesUptoRow, standIns := [], harness := (true, "0bf620f846174296f45be8e148958f40105090b848f52b1e828c102814ded0c4"), looks := true }, kinds := [], alts := [], laidByText := true, laidKinds := [.data, .data, .data, .data, .sentinel, .sentinel, .data, .data, .pinned], laidTests := true, laidLooks := .later }
def LangParsesUptoCardSaid : Prop := Claim7.holds Tryz.pinned (.plain (OpenSpec.upto langParsesSpec)) langParsesUptoCard

/-- THE SECOND FORM's CARD OF 'fathomlaw04.LangFaults'. -/
def langFaultsUptoCard : Claim7 := { stood := { row := langFaultsUptoRow, standIns := [], harness := (true, "0bf620f846174296f45be8e148958f40105090b848f52b1e828c102814ded0c4"), looks := true }, kinds := [], alts := [], laidByText := true, laidKinds := [.data, .data, .data, .data, .sentinel, .sentinel, .data, .data, .pinned], laidTests := true, laidLooks := .later }
def LangFaultsUptoCardSaid : Prop := Claim7.holds Tryz.pinned (.plain (OpenSpec.upto langFaultsSpec)) langFaultsUptoCard

/-- THE SECOND FORM's CARD OF 'fathomlaw04.LangWider'. -/
def langWiderUptoCard : Claim7 := { stood := { row := langWiderUptoRow, standIns := [], harness := (true, "0bf620f846174296f45be8e148958f40105090b848f52b1e828c102814ded0c4"), looks := true }, kinds := [], alts := [], laidByText := true, laidKinds := [.data, .data, .data, .data, .sentinel, .sentinel, .data, .data, .pinned], laidTests := true, laidLooks := .later }
def LangWiderUptoCardSaid : Prop := Claim7.holds Tryz.pinned (.plain (OpenSpec.upto langWiderSpec)) langWiderUptoCard

/-- THE SECOND FORM's CARD OF 'fathomlaw04.LangSpaced'. -/
def langSpacedUptoCard : Claim7 := { stood := { row := langSpacedUptoRow, standIns := [], harness := (true, "0bf620f846174296f45be8e148958f40105090b848f52b1e828c102814ded0c4"), looks := true }, kinds := [], alts := [], laidByText := true, laidKinds := [.data, .data, .data, .data, .sentinel, .sentinel, .data, .data, .pinned], laidTests := true, laidLooks := .later }
def LangSpacedUptoCardSaid : Prop := Claim7.holds Tryz.pinned (.plain (OpenSpec.upto langSpacedSpec)) langSpacedUptoCard

/-- THE SECOND FORM's CARD OF 'fathomlaw04.LangJoined'. -/
def langJoinedUptoCard : Claim7 := { stood := { row := langJoinedUptoRow, standIns := [], harness := (true, "0bf620f846174296f45be8e148958f40105090b848f52b1e828c102814ded0c4"), looks := true }, kinds := [], alts := [], laidByText := true, laidKinds := [.data, .data, .data, .data, .sentinel, .sentinel, .data, .data, .pinned], laidTests := true, laidLooks := .later }
def LangJoinedUptoCardSaid : Prop := Claim7.holds Tryz.pinned (.plain (OpenSpec.upto langJoinedSpec)) langJoinedUptoCard

/-- THE SECOND FORM's CARD OF 'fathomlaw04.LangBracketed'. -/
def langBracketedUptoCard : Claim7 := { stood := { row := langBracketedUptoRow, standIns := [], harness := (true, "0bf620f846174296f45be8e148958f40105090b848f52b1e828c102814ded0c4"), looks := true }, kinds := [], alts := [], laidByText := true, laidKinds := [.data, .data, .data, .data, .sentinel, .sentinel, .data, .data, .pinned], laidTests := true, laidLooks := .later }
def LangBracketedUptoCardSaid : Prop := Claim7.holds Tryz.pinned (.plain (OpenSpec.upto langBracketedSpec)) langBracketedUptoCard
end Rows
end Go.Proofs.YtkonkplalgoekaaGreatDoor
