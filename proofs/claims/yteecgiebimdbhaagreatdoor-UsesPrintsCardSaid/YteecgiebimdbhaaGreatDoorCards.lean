/-
  DERIVED. GIVEN WITH THE SEED: THE CARDS: each row of YteecgiebimdbhaaGreatDoorRows.lean that lists a variable, with what it lists TIED to the program's text (the seventh form; the later family's looks); each row that meets fmt, with fmt's text TOLD by the authors' own Lean function (tested against real Go, not proved from fmt's source: count such statements apart). THE CARD IS WHAT COUNTS. Prove the row's statement (the work); the ties are given (YteecgiebimdbhaaGreatDoorTie.lean); close each card by the builder's one call (the guide's Derived/Test/ToyasCard.lean, 'card_holds'). Laid BY PROGRAM, IN A SANDBOX (cutbox-door.mjs). By AI agents, Wed Nov 11 2026. No macro, syntax, notation, axiom, sorry.
-/
import Derived.Test.YteecgiebimdbhaaGreatDoorRows
import GoSem.ClaimSeven
namespace Go.Proofs.YteecgiebimdbhaaGreatDoor
namespace Rows

/-- THE TIED CARD OF 'merlonlaw11.UsesPrints'. -/
def usesPrintsCard : Claim7 := { stood := { row := usesPrintsRow, standIns := [], harness := (true, "556962e5241e046afb0167d6267b1a20d56723c1dfd489a44a7d4ac960f3b982"), looks := true }, kinds := [], alts := [], laidByText := true, laidKinds := [.data, .data, .data, .handle, .sentinel, .sentinel], laidTests := true, laidLooks := .later }
def UsesPrintsCardSaid : Prop := Claim7.holds Tryz.pinned (.plain (OpenSpec.ofChange usesPrintsSpec)) usesPrintsCard

/-- THE TIED CARD OF 'merlonlaw11.UsesParses'. -/
def usesParsesCard : Claim7 := { stood := { row := usesParsesRow, standIns := [], harness := (true, "556962e5241e046afb0167d6267b1a20d56723c1dfd489a44a7d4ac960f3b982"), looks := true }, kinds := [], alts := [], laidByText := true, laidKinds := [.data, .data, .data, .handle, .sentinel, .sentinel], laidTests := true, laidLooks := .later }
def UsesParsesCardSaid : Prop := Claim7.holds Tryz.pinned (.plain (OpenSpec.ofChange usesParsesSpec)) usesParsesCard

/-- THE TIED CARD OF 'merlonlaw11.UsesChecks'. -/
def usesChecksCard : Claim7 := { stood := { row := usesChecksRow, standIns := [], harness := (true, "556962e5241e046afb0167d6267b1a20d56723c1dfd489a44a7d4ac960f3b982"), looks := true }, kinds := [], alts := [], laidByText := true, laidKinds := [.data, .data, .data, .handle, .sentinel, .sentinel], laidTests := true, laidLooks := .later }
def UsesChecksCardSaid : Prop := Claim7.holds Tryz.pinned (.plain (OpenSpec.ofChange usesChecksSpec)) usesChecksCard

/-- THE TIED CARD OF 'merlonlaw11.UsesLess'. -/
def usesLessCard : Claim7 := { stood := { row := usesLessRow, standIns := [], harness := (true, "556962e5241e046afb0167d6267b1a20d56723c1dfd489a44a7d4ac960f3b982"), looks := true }, kinds := [], alts := [], laidByText := true, laidKinds := [.data, .data, .data, .handle, .sentinel, .sentinel], laidTests := true, laidLooks := .later }
def UsesLessCardSaid : Prop := Claim7.holds Tryz.pinned (.plain (OpenSpec.ofChange usesLessSpec)) usesLessCard

/-- THE SECOND FORM's CARD OF 'merlonlaw11.UsesPrints'. -/
def usesPrintsUptoCard : Claim7 := { stood := { row := usesPrintsUptoRow, standIns := [], harness := (true, "556962e5241e046afb0167d6267b1a20d56723c1dfd489a44a7d4ac960f3b982"), looks := true }, kinds := [], alts := [], laidByText := true, laidKinds := [.data, .data, .data, .handle, .sentinel, .sentinel], laidTests := true, laidLooks := .later }
def UsesPrintsUptoCardSaid : Prop := Claim7.holds Tryz.pinned (.plain (OpenSpec.upto usesPrintsSpec)) usesPrintsUptoCard

/-- THE SECOND FORM's CARD OF 'merlonlaw11.UsesParses'. -/
def usesParsesUptoCard : Claim7 := { stood := { row := usesParsesUptoRow, standIns := [], harness := (true, "556962e5241e046afb0167d6267b1a20d56723c1dfd489a44a7d4ac960f3b982"), looks := true }, kinds := [], alts := [], laidByText := true, laidKinds := [.data, .data, .data, .handle, .sentinel, .sentinel], laidTests := true, laidLooks := .later }
def UsesParsesUptoCardSaid : Prop := Claim7.holds Tryz.pinned (.plain (OpenSpec.upto usesParsesSpec)) usesParsesUptoCard

/-- THE SECOND FORM's CARD OF 'merlonlaw11.UsesChecks'. -/
def usesChecksUptoCard : Claim7 := { stood := { row := usesChecksUptoRow, standIns := [], harness := (true, "556962e5241e046afb0167d6267b1a20d56723c1dfd489a44a7d4ac960f3b982"), looks := true }, kinds := [], alts := [], laidByText := true, laidKinds := [.data, .data, .data, .handle, .sentinel, .sentinel], laidTests := true, laidLooks := .later }
def UsesChecksUptoCardSaid : Prop := Claim7.holds Tryz.pinned (.plain (OpenSpec.upto usesChecksSpec)) usesChecksUptoCard

/-- THE SECOND FORM's CARD OF 'merlonlaw11.UsesLess'. -/
def usesLessUptoCard : Claim7 := { stood := { row := usesLessUptoRow, standIns := [], harness := (true, "556962e5241e046afb0167d6267b1a20d56723c1dfd489a44a7d4ac960f3b982"), looks := true }, kinds := [], alts := [], laidByText := true, laidKinds := [.data, .data, .data, .handle, .sentinel, .sentinel], laidTests := true, laidLooks := .later }
def UsesLessUptoCardSaid : Prop := Claim7.holds Tryz.pinned (.plain (OpenSpec.upto usesLessSpec)) usesLessUptoCard
end Rows
end Go.Proofs.YteecgiebimdbhaaGreatDoor
