/-
  DERIVED. GIVEN WITH THE SEED: THE CARDS: each row of YtpfoclpgcbjjoaaGreatDoorRows.lean that lists a variable, with what it lists TIED to the program's text (the seventh form; the later family's looks); each row that meets fmt, with fmt's text TOLD by the authors' own Lean function (tested against real Go, not proved from fmt's source: count such statements apart). THE CARD IS WHAT COUNTS. Prove the row's statement (the work); the ties are given (YtpfoclpgcbjjoaaGreatDoorTie.lean); close each card by the builder's one call (the guide's Derived/Test/ToyasCard.lean, 'card_holds'). Laid BY PROGRAM, IN A SANDBOX (cutbox-door.mjs). By AI agents, Wed Nov 11 2026. No macro, syntax, notation, axiom, sorry.
-/
import Derived.Test.YtpfoclpgcbjjoaaGreatDoorRows
import GoSem.ClaimSeven
namespace Go.Proofs.YtpfoclpgcbjjoaaGreatDoor
namespace Rows

/-- THE TIED CARD OF 'merlonlaw06.SyntaxPrints'. -/
def syntaxPrintsCard : Claim7 := { stood := { row := syntaxPrintsRow, standIns := [], harness := (true, "5975eb26446c3e5b7329ddff758cc836d5fb8ed6e0d1b1d3de770eb94b3602ad"), looks := true }, kinds := [], alts := [], laidByText := true, laidKinds := [.data, .data, .data, .handle, .sentinel, .sentinel], laidTests := true, laidLooks := .later }
def SyntaxPrintsCardSaid : Prop := Claim7.holds Tryz.pinned (.plain (OpenSpec.ofChange syntaxPrintsSpec)) syntaxPrintsCard

/-- THE TIED CARD OF 'merlonlaw06.SyntaxBack'. -/
def syntaxBackCard : Claim7 := { stood := { row := syntaxBackRow, standIns := [], harness := (true, "5975eb26446c3e5b7329ddff758cc836d5fb8ed6e0d1b1d3de770eb94b3602ad"), looks := true }, kinds := [], alts := [], laidByText := true, laidKinds := [.data, .data, .data, .handle, .sentinel, .sentinel], laidTests := true, laidLooks := .later }
def SyntaxBackCardSaid : Prop := Claim7.holds Tryz.pinned (.plain (OpenSpec.ofChange syntaxBackSpec)) syntaxBackCard

/-- THE TIED CARD OF 'merlonlaw07.ScopeChecks'. -/
def scopeChecksCard : Claim7 := { stood := { row := scopeChecksRow, standIns := [], harness := (true, "5975eb26446c3e5b7329ddff758cc836d5fb8ed6e0d1b1d3de770eb94b3602ad"), looks := true }, kinds := [], alts := [], laidByText := true, laidKinds := [.handle], laidTests := true, laidLooks := .later }
def ScopeChecksCardSaid : Prop := Claim7.holds Tryz.pinned (.plain (OpenSpec.ofChange scopeChecksSpec)) scopeChecksCard

/-- THE TIED CARD OF 'merlonlaw07.ScopeTurns'. -/
def scopeTurnsCard : Claim7 := { stood := { row := scopeTurnsRow, standIns := [], harness := (true, "5975eb26446c3e5b7329ddff758cc836d5fb8ed6e0d1b1d3de770eb94b3602ad"), looks := true }, kinds := [], alts := [], laidByText := true, laidKinds := [.handle], laidTests := true, laidLooks := .later }
def ScopeTurnsCardSaid : Prop := Claim7.holds Tryz.pinned (.plain (OpenSpec.ofChange scopeTurnsSpec)) scopeTurnsCard

/-- THE TIED CARD OF 'merlonlaw07.ScopeLess'. -/
def scopeLessCard : Claim7 := { stood := { row := scopeLessRow, standIns := [], harness := (true, "5975eb26446c3e5b7329ddff758cc836d5fb8ed6e0d1b1d3de770eb94b3602ad"), looks := true }, kinds := [], alts := [], laidByText := true, laidKinds := [.handle], laidTests := true, laidLooks := .later }
def ScopeLessCardSaid : Prop := Claim7.holds Tryz.pinned (.plain (OpenSpec.ofChange scopeLessSpec)) scopeLessCard

/-- THE SECOND FORM's CARD OF 'merlonlaw06.SyntaxPrints'. -/
def syntaxPrintsUptoCard : Claim7 := { stood := { row := syntaxPrintsUptoRow, standIns := [], harness := (true, "5975eb26446c3e5b7329ddff758cc836d5fb8ed6e0d1b1d3de770eb94b3602ad"), looks := true }, kinds := [], alts := [], laidByText := true, laidKinds := [.data, .data, .data, .handle, .sentinel, .sentinel], laidTests := true, laidLooks := .later }
def SyntaxPrintsUptoCardSaid : Prop := Claim7.holds Tryz.pinned (.plain (OpenSpec.upto syntaxPrintsSpec)) syntaxPrintsUptoCard

/-- THE SECOND FORM's CARD OF 'merlonlaw06.SyntaxBack'. -/
def syntaxBackUptoCard : Claim7 := { stood := { row := syntaxBackUptoRow, standIns := [], harness := (true, "5975eb26446c3e5b7329ddff758cc836d5fb8ed6e0d1b1d3de770eb94b3602ad"), looks := true }, kinds := [], alts := [], laidByText := true, laidKinds := [.data, .data, .data, .handle, .sentinel, .sentinel], laidTests := true, laidLooks := .later }
def SyntaxBackUptoCardSaid : Prop := Claim7.holds Tryz.pinned (.plain (OpenSpec.upto syntaxBackSpec)) syntaxBackUptoCard

/-- THE SECOND FORM's CARD OF 'merlonlaw07.ScopeChecks'. -/
def scopeChecksUptoCard : Claim7 := { stood := { row := scopeChecksUptoRow, standIns := [], harness := (true, "5975eb26446c3e5b7329ddff758cc836d5fb8ed6e0d1b1d3de770eb94b3602ad"), looks := true }, kinds := [], alts := [], laidByText := true, laidKinds := [.handle], laidTests := true, laidLooks := .later }
def ScopeChecksUptoCardSaid : Prop := Claim7.holds Tryz.pinned (.plain (OpenSpec.upto scopeChecksSpec)) scopeChecksUptoCard

/-- THE SECOND FORM's CARD OF 'merlonlaw07.ScopeTurns'. -/
def scopeTurnsUptoCard : Claim7 := { stood := { row := scopeTurnsUptoRow, standIns := [], harness := (true, "5975eb26446c3e5b7329ddff758cc836d5fb8ed6e0d1b1d3de770eb94b3602ad"), looks := true }, kinds := [], alts := [], laidByText := true, laidKinds := [.handle], laidTests := true, laidLooks := .later }
def ScopeTurnsUptoCardSaid : Prop := Claim7.holds Tryz.pinned (.plain (OpenSpec.upto scopeTurnsSpec)) scopeTurnsUptoCard

/-- THE SECOND FORM's CARD OF 'merlonlaw07.ScopeLess'. -/
def scopeLessUptoCard : Claim7 := { stood := { row := scopeLessUptoRow, standIns := [], harness := (true, "5975eb26446c3e5b7329ddff758cc836d5fb8ed6e0d1b1d3de770eb94b3602ad"), looks := true }, kinds := [], alts := [], laidByText := true, laidKinds := [.handle], laidTests := true, laidLooks := .later }
def ScopeLessUptoCardSaid : Prop := Claim7.holds Tryz.pinned (.plain (OpenSpec.upto scopeLessSpec)) scopeLessUptoCard
end Rows
end Go.Proofs.YtpfoclpgcbjjoaaGreatDoor
