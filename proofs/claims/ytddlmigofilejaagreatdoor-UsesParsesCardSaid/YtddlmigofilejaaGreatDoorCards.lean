/-
  DERIVED. GIVEN WITH THE SEED: THE CARDS: each row of YtddlmigofilejaaGreatDoorRows.lean that lists a variable, with what it lists TIED to the program's text (the seventh form; the later family's looks); each row that meets fmt, with fmt's text TOLD by the authors' own Lean function (tested against real Go, not proved from fmt's source: count such statements apart). THE CARD IS WHAT COUNTS. Prove the row's statement (the work); the ties are given (YtddlmigofilejaaGreatDoorTie.lean); close each card by the builder's one call (the guide's Derived/Test/ToyasCard.lean, 'card_holds'). Laid BY PROGRAM, IN A SANDBOX (cutbox-door.mjs). By AI agents, Wed Nov 11 2026. No macro, syntax, notation, axiom, sorry.
-/
import Derived.Test.YtddlmigofilejaaGreatDoorRows
import GoSem.ClaimSeven
namespace Go.Proofs.YtddlmigofilejaaGreatDoor
namespace Rows

/-- THE TIED CARD OF 'merlonlaw11.UsesParses'. -/
def usesParsesCard : Claim7 := { stood := { row := usesParsesRow, standIns := [], harness := (true, "9be969fdc66fd19c25785e9e9b9154e22477fa6fdddb3fc84cb6b709e534b8e9"), looks := true }, kinds := [], alts := [], laidByText := true, laidKinds := [.data, .data, .data, .handle, .sentinel, .sentinel], laidTests := true, laidLooks := .later }
def UsesParsesCardSaid : Prop := Claim7.holds Tryz.pinned (.plain (OpenSpec.ofChange usesParsesSpec)) usesParsesCard

/-- THE TIED CARD OF 'merlonlaw11.UsesChecks'. -/
def usesChecksCard : Claim7 := { stood := { row := usesChecksRow, standIns := [], harness := (true, "9be969fdc66fd19c25785e9e9b9154e22477fa6fdddb3fc84cb6b709e534b8e9"), looks := true }, kinds := [], alts := [], laidByText := true, laidKinds := [.data, .data, .data, .handle, .sentinel, .sentinel], laidTests := true, laidLooks := .later }
def UsesChecksCardSaid : Prop := Claim7.holds Tryz.pinned (.plain (OpenSpec.ofChange usesChecksSpec)) usesChecksCard

/-- THE SECOND FORM's CARD OF 'merlonlaw11.UsesParses'. -/
def usesParsesUptoCard : Claim7 := { stood := { row := usesParsesUptoRow, standIns := [], harness := (true, "9be969fdc66fd19c25785e9e9b9154e22477fa6fdddb3fc84cb6b709e534b8e9"), looks := true }, kinds := [], alts := [], laidByText := true, laidKinds := [.data, .data, .data, .handle, .sentinel, .sentinel], laidTests := true, laidLooks := .later }
def UsesParsesUptoCardSaid : Prop := Claim7.holds Tryz.pinned (.plain (OpenSpec.upto usesParsesSpec)) usesParsesUptoCard

/-- THE SECOND FORM's CARD OF 'merlonlaw11.UsesChecks'. -/
def usesChecksUptoCard : Claim7 := { stood := { row := usesChecksUptoRow, standIns := [], harness := (true, "9be969fdc66fd19c25785e9e9b9154e22477fa6fdddb3fc84cb6b709e534b8e9"), looks := true }, kinds := [], alts := [], laidByText := true, laidKinds := [.data, .data, .data, .handle, .sentinel, .sentinel], laidTests := true, laidLooks := .later }
def UsesChecksUptoCardSaid : Prop := Claim7.holds Tryz.pinned (.plain (OpenSpec.upto usesChecksSpec)) usesChecksUptoCard
end Rows
end Go.Proofs.YtddlmigofilejaaGreatDoor
