/-
  DERIVED. GIVEN WITH THE SEED: THE CARDS: each row of YtknpdjbcemgenabDoorRows.lean that lists a variable, with what it lists TIED to the program's text (the seventh form; the later family's looks); each row that meets fmt, with fmt's text TOLD by the authors' own Lean function (tested against real Go, not proved from fmt's source: count such statements apart). THE CARD IS WHAT COUNTS. Prove the row's statement (the work); the ties are given (YtknpdjbcemgenabDoorTie.lean); close each card by the builder's one call (the guide's Derived/Test/ToyasCard.lean, 'card_holds'). Laid BY PROGRAM, IN A SANDBOX (cutbox-door.mjs). By AI agents, Wed Nov 11 2026. No macro, syntax, notation, axiom, sorry.
-/
import Derived.Test.YtknpdjbcemgenabDoorRows
import GoSem.ClaimSeven
namespace Go.Proofs.YtknpdjbcemgenabDoor
namespace Rows

/-- THE TIED CARD OF 'fathomlaw03.MarksFaults'. -/
def marksFaultsCard : Claim7 := { stood := { row := marksFaultsRow, standIns := [], harness := (true, "dd4ff7e995cf8374ec63dd3ce7a422e886e53826984a9df4646f75dc084f3111"), looks := true }, kinds := [], alts := [], laidByText := true, laidKinds := [.data, .data, .data, .data, .sentinel, .sentinel, .data, .data, .pinned], laidTests := true, laidLooks := .later }
def MarksFaultsCardSaid : Prop := Claim7.holds Tryd.pinned (.plain (OpenSpec.ofChange marksFaultsSpec)) marksFaultsCard

/-- THE SECOND FORM's CARD OF 'fathomlaw03.MarksFaults'. -/
def marksFaultsUptoCard : Claim7 := { stood := { row := marksFaultsUptoRow, standIns := [], harness := (true, "dd4ff7e995cf8374ec63dd3ce7a422e886e53826984a9df4646f75dc084f3111"), looks := true }, kinds := [], alts := [], laidByText := true, laidKinds := [.data, .data, .data, .data, .sentinel, .sentinel, .data, .data, .pinned], laidTests := true, laidLooks := .later }
def MarksFaultsUptoCardSaid : Prop := Claim7.holds Tryd.pinned (.plain (OpenSpec.upto marksFaultsSpec)) marksFaultsUptoCard
end Rows
end Go.Proofs.YtknpdjbcemgenabDoor
