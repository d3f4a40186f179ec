/-
  DERIVED. GIVEN WITH THE SEED: THE CARDS: each row of YtcdmgcgjonndpaaGreatDoorRows.lean that lists a variable, with what it lists TIED to the program's text (the seventh form; the later family's looks); each row that meets fmt, with fmt's text TOLD by the authors' own Lean function (tested against real Go, not proved from fmt's source: count such statements apart). THE CARD IS WHAT COUNTS. Prove the row's statement (the work); the ties are given (YtcdmgcgjonndpaaGreatDoorTie.lean); close each card by the builder's one call (the guide's Derived/Test/ToyasCard.lean, 'card_holds'). Laid BY PROGRAM, IN A SANDBOX (cutbox-door.mjs). By AI agents, Wed Nov 11 2026. No macro, syntax, notation, axiom, sorry.
-/
import Derived.Test.YtcdmgcgjonndpaaGreatDoorRows
import GoSem.ClaimSeven
namespace Go.Proofs.YtcdmgcgjonndpaaGreatDoor
namespace Rows

/-- THE TIED CARD OF 'merlonlaw10.IfaceBuilds'. -/
def ifaceBuildsCard : Claim7 := { stood := { row := ifaceBuildsRow, standIns := [], harness := (true, "d8ecb2fb9ddb633fa45486a57be6054d4316bf922ee98d38a56221eff00bf3b6"), looks := true }, kinds := [], alts := [], laidByText := true, laidKinds := [.handle], laidTests := true, laidLooks := .later }
def IfaceBuildsCardSaid : Prop := Claim7.holds Tryz.pinned (.plain (OpenSpec.ofChange ifaceBuildsSpec)) ifaceBuildsCard

/-- THE SECOND FORM's CARD OF 'merlonlaw10.IfaceBuilds'. -/
def ifaceBuildsUptoCard : Claim7 := { stood := { row := ifaceBuildsUptoRow, standIns := [], harness := (true, "d8ecb2fb9ddb633fa45486a57be6054d4316bf922ee98d38a56221eff00bf3b6"), looks := true }, kinds := [], alts := [], laidByText := true, laidKinds := [.handle], laidTests := true, laidLooks := .later }
def IfaceBuildsUptoCardSaid : Prop := Claim7.holds Tryz.pinned (.plain (OpenSpec.upto ifaceBuildsSpec)) ifaceBuildsUptoCard
end Rows
end Go.Proofs.YtcdmgcgjonndpaaGreatDoor
