/-
  DERIVED. GIVEN WITH THE SEED: THE CARDS: each row of YtaneibojiamjeaaGreatDoorRows.lean that lists a variable, with what it lists TIED to the program's text (the seventh form; the later family's looks); each row that meets fmt, with fmt's text TOLD by the authors' own Lean function (tested against real Go, not proved from fmt's source: count such statements apart). THE CARD IS WHAT COUNTS. Prove the row's statement (the work); the ties are given (YtaneibojiamjeaaGreatDoorTie.lean); close each card by the builder's one call (the guide's Derived/Test/ToyasCard.lean, 'card_holds'). Laid BY PROGRAM, IN A SANDBOX (cutbox-door.mjs). By AI agents, Wed Nov 11 2026. No macro, syntax, notation, axiom, sorry.
-/
import Derived.Test.YtaneibojiamjeaaGreatDoorRows
import GoSem.ClaimSeven
namespace Go.Proofs.YtaneibojiamjeaaGreatDoor
namespace Rows

/-- THE TIED CARD OF 'fathomlaw06.ScopeChecks'. -/
def scopeChecksCard : Claim7 := { stood := { row := scopeChecksRow, standIns := [], harness := (true, "0348c6e2a99a2fe6e5a4929193861e372e0c7d027ad67165f0a52e8cd88ccce8"), looks := false }, kinds := [], alts := [], laidByText := true, laidKinds := [.data, .data, .data], laidTests := true, laidLooks := .later }
def ScopeChecksCardSaid : Prop := Claim7.holds Tryz.pinned (.plain (OpenSpec.ofChange scopeChecksSpec)) scopeChecksCard

/-- THE TIED CARD OF 'fathomlaw06.ScopeNames'. -/
def scopeNamesCard : Claim7 := { stood := { row := scopeNamesRow, standIns := [], harness := (true, "0348c6e2a99a2fe6e5a4929193861e372e0c7d027ad67165f0a52e8cd88ccce8"), looks := false }, kinds := [], alts := [], laidByText := true, laidKinds := [.data, .data, .data], laidTests := true, laidLooks := .later }
def ScopeNamesCardSaid : Prop := Claim7.holds Tryz.pinned (.plain (OpenSpec.ofChange scopeNamesSpec)) scopeNamesCard

/-- THE TIED CARD OF 'fathomlaw06.ScopeFresh'. -/
def scopeFreshCard : Claim7 := { stood := { row := scopeFreshRow, standIns := [], harness := (true, "0348c6e2a99a2fe6e5a4929193861e372e0c7d027ad67165f0a52e8cd88ccce8"), looks := false }, kinds := [], alts := [], laidByText := true, laidKinds := [.data, .data, .data], laidTests := true, laidLooks := .later }
def ScopeFreshCardSaid : Prop := Claim7.holds Tryz.pinned (.plain (OpenSpec.ofChange scopeFreshSpec)) scopeFreshCard

/-- THE TIED CARD OF 'fathomlaw06.ScopeBinds'. -/
def scopeBindsCard : Claim7 := { stood := { row := scopeBindsRow, standIns := [], harness := (true, "0348c6e2a99a2fe6e5a4929193861e372e0c7d027ad67165f0a52e8cd88ccce8"), looks := false }, kinds := [], alts := [], laidByText := true, laidKinds := [.data, .data, .data], laidTests := true, laidLooks := .later }
def ScopeBindsCardSaid : Prop := Claim7.holds Tryz.pinned (.plain (OpenSpec.ofChange scopeBindsSpec)) scopeBindsCard

/-- THE TIED CARD OF 'fathomlaw06.ScopeSound'. -/
def scopeSoundCard : Claim7 := { stood := { row := scopeSoundRow, standIns := [], harness := (true, "0348c6e2a99a2fe6e5a4929193861e372e0c7d027ad67165f0a52e8cd88ccce8"), looks := false }, kinds := [], alts := [], laidByText := true, laidKinds := [.data, .data, .data], laidTests := true, laidLooks := .later }
def ScopeSoundCardSaid : Prop := Claim7.holds Tryz.pinned (.plain (OpenSpec.ofChange scopeSoundSpec)) scopeSoundCard

/-- THE TIED CARD OF 'fathomlaw06.ScopeKeep'. -/
def scopeKeepCard : Claim7 := { stood := { row := scopeKeepRow, standIns := [], harness := (true, "0348c6e2a99a2fe6e5a4929193861e372e0c7d027ad67165f0a52e8cd88ccce8"), looks := false }, kinds := [], alts := [], laidByText := true, laidKinds := [.data, .data, .data], laidTests := true, laidLooks := .later }
def ScopeKeepCardSaid : Prop := Claim7.holds Tryz.pinned (.plain (OpenSpec.ofChange scopeKeepSpec)) scopeKeepCard

/-- THE SECOND FORM's CARD OF 'fathomlaw06.ScopeChecks'. -/
def scopeChecksUptoCard : Claim7 := { stood := { row := scopeChecksUptoRow, standIns := [], harness := (true, "0348c6e2a99a2fe6e5a4929193861e372e0c7d027ad67165f0a52e8cd88ccce8"), looks := false }, kinds := [], alts := [], laidByText := true, laidKinds := [.data, .data, .data], laidTests := true, laidLooks := .later }
def ScopeChecksUptoCardSaid : Prop := Claim7.holds Tryz.pinned (.plain (OpenSpec.upto scopeChecksSpec)) scopeChecksUptoCard

/-- THE SECOND FORM's CARD OF 'fathomlaw06.ScopeNames'. -/
def scopeNamesUptoCard : Claim7 := { stood := { row := scopeNamesUptoRow, standIns := [], harness := (true, "0348c6e2a99a2fe6e5a4929193861e372e0c7d027ad67165f0a52e8cd88ccce8"), looks := false }, kinds := [], alts := [], laidByText := true, laidKinds := [.data, .data, .data], laidTests := true, laidLooks := .later }
def ScopeNamesUptoCardSaid : Prop := Claim7.holds Tryz.pinned (.plain (OpenSpec.upto scopeNamesSpec)) scopeNamesUptoCard

/-- THE SECOND FORM's CARD OF 'fathomlaw06.ScopeFresh'. -/
def scopeFreshUptoCard : Claim7 := { stood := { row := scopeFreshUptoRow, standIns := [], harness := (true, "0348c6e2a99a2fe6e5a4929193861e372e0c7d027ad67165f0a52e8cd88ccce8"), looks := false }, kinds := [], alts := [], laidByText := true, laidKinds := [.data, .data, .data], laidTests := true, laidLooks := .later }
def ScopeFreshUptoCardSaid : Prop := Claim7.holds Tryz.pinned (.plain (OpenSpec.upto scopeFreshSpec)) scopeFreshUptoCard

/-- THE SECOND FORM's CARD OF 'fathomlaw06.ScopeBinds'. -/
def scopeBindsUptoCard : Claim7 := { stood := { row := scopeBindsUptoRow, standIns := [], harness := (true, "0348c6e2a99a2fe6e5a4929193861e372e0c7d027ad67165f0a52e8cd88ccce8"), looks := false }, kinds := [], alts := [], laidByText := true, laidKinds := [.data, .data, .data], laidTests := true, laidLooks := .later }
def ScopeBindsUptoCardSaid : Prop := Claim7.holds Tryz.pinned (.plain (OpenSpec.upto scopeBindsSpec)) scopeBindsUptoCard

/-- THE SECOND FORM's CARD OF 'fathomlaw06.ScopeSound'. -/
def scopeSoundUptoCard : Claim7 := { stood := { row := scopeSoundUptoRow, standIns := [], harness := (true, "0348c6e2a99a2fe6e5a4929193861e372e0c7d027ad67165f0a52e8cd88ccce8"), looks := false }, kinds := [], alts := [], laidByText := true, laidKinds := [.data, .data, .data], laidTests := true, laidLooks := .later }
def ScopeSoundUptoCardSaid : Prop := Claim7.holds Tryz.pinned (.plain (OpenSpec.upto scopeSoundSpec)) scopeSoundUptoCard

/-- THE SECOND FORM's CARD OF 'fathomlaw06.ScopeKeep'. -/
def scopeKeepUptoCard : Claim7 := { stood := { row := scopeKeepUptoRow, standIns := [], harness := (true, "0348c6e2a99a2fe6e5a4929193861e372e0c7d027ad67165f0a52e8cd88ccce8"), looks := false }, kinds := [], alts := [], laidByText := true, laidKinds := [.data, .data, .data], laidTests := true, laidLooks := .later }
def ScopeKeepUptoCardSaid : Prop := Claim7.holds Tryz.pinned (.plain (OpenSpec.upto scopeKeepSpec)) scopeKeepUptoCard
end Rows
end Go.Proofs.YtaneibojiamjeaaGreatDoor
