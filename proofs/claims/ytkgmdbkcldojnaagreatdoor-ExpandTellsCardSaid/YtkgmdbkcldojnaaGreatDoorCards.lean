/-
  DERIVED. GIVEN WITH THE SEED: THE CARDS: each row of YtkgmdbkcldojnaaGreatDoorRows.lean that lists a variable, with what it lists TIED to the program's text (the seventh form; the later family's looks); each row that meets fmt, with fmt's text TOLD by the authors' own Lean function (tested against real Go, not proved from fmt's source: count such statements apart). THE CARD IS WHAT COUNTS. Prove the row's statement (the work); the ties are given (YtkgmdbkcldojnaaGreatDoorTie.lean); close each card by the builder's one call (the guide's Derived/Test/ToyasCard.lean, 'card_holds'). Laid BY PROGRAM, IN A SANDBOX (cutbox-door.mjs). By AI agents, Wed Nov 11 2026. No macro, syntax, notation, axiom, sorry.
-/
import Derived.Test.YtkgmdbkcldojnaaGreatDoorRows
import GoSem.ClaimSeven
namespace Go.Proofs.YtkgmdbkcldojnaaGreatDoor
namespace Rows

/-- THE TIED CARD OF 'merlonlaw08.ExpandTells'. -/
def expandTellsCard : Claim7 := { stood := { row := expandTellsRow, standIns := [], harness := (true, "fbff243fe3226cb092c84d62c72c7bed4106fa55988e50672a6aeeaf52715a26"), looks := true }, kinds := [], alts := [], laidByText := true, laidKinds := [.data, .data, .data], laidTests := true, laidLooks := .later }
def ExpandTellsCardSaid : Prop := Claim7.holds Tryz.pinned (.plain (OpenSpec.ofChange expandTellsSpec)) expandTellsCard

/-- THE TIED CARD OF 'merlonlaw08.ExpandPlain'. -/
def expandPlainCard : Claim7 := { stood := { row := expandPlainRow, standIns := [], harness := (true, "fbff243fe3226cb092c84d62c72c7bed4106fa55988e50672a6aeeaf52715a26"), looks := true }, kinds := [], alts := [], laidByText := true, laidKinds := [.data, .data, .data], laidTests := true, laidLooks := .later }
def ExpandPlainCardSaid : Prop := Claim7.holds Tryz.pinned (.plain (OpenSpec.ofChange expandPlainSpec)) expandPlainCard

/-- THE TIED CARD OF 'merlonlaw08.ExpandParts'. -/
def expandPartsCard : Claim7 := { stood := { row := expandPartsRow, standIns := [], harness := (true, "fbff243fe3226cb092c84d62c72c7bed4106fa55988e50672a6aeeaf52715a26"), looks := true }, kinds := [], alts := [], laidByText := true, laidKinds := [.data, .data, .data], laidTests := true, laidLooks := .later }
def ExpandPartsCardSaid : Prop := Claim7.holds Tryz.pinned (.plain (OpenSpec.ofChange expandPartsSpec)) expandPartsCard

/-- THE SECOND FORM's CARD OF 'merlonlaw08.ExpandTells'. -/
def expandTellsUptoCard : Claim7 := { stood := { row := expandTellsUptoRow, standIns := [], harness := (true, "fbff243fe3226cb092c84d62c72c7bed4106fa55988e50672a6aeeaf52715a26"), looks := true }, kinds := [], alts := [], laidByText := true, laidKinds := [.data, .data, .data], laidTests := true, laidLooks := .later }
def ExpandTellsUptoCardSaid : Prop := Claim7.holds Tryz.pinned (.plain (OpenSpec.upto expandTellsSpec)) expandTellsUptoCard

/-- THE SECOND FORM's CARD OF 'merlonlaw08.ExpandPlain'. -/
def expandPlainUptoCard : Claim7 := { stood := { row := expandPlainUptoRow, standIns := [], harness := (true, "fbff243fe3226cb092c84d62c72c7bed4106fa55988e50672a6aeeaf52715a26"), looks := true }, kinds := [], alts := [], laidByText := true, laidKinds := [.data, .data, .data], laidTests := true, laidLooks := .later }
def ExpandPlainUptoCardSaid : Prop := Claim7.holds Tryz.pinned (.plain (OpenSpec.upto expandPlainSpec)) expandPlainUptoCard

/-- THE SECOND FORM's CARD OF 'merlonlaw08.ExpandParts'. -/
def expandPartsUptoCard : Claim7 := { stood := { row := expandPartsUptoRow, standIns := [], harness := (true, "fbff243fe3226cb092c84d62c72c7bed4106fa55988e50672a6aeeaf52715a26"), looks := true }, kinds := [], alts := [], laidByText := true, laidKinds := [.data, .data, .data], laidTests := true, laidLooks := .later }
def ExpandPartsUptoCardSaid : Prop := Claim7.holds Tryz.pinned (.plain (OpenSpec.upto expandPartsSpec)) expandPartsUptoCard
end Rows
end Go.Proofs.YtkgmdbkcldojnaaGreatDoor
