/-
  DERIVED. GIVEN WITH THE SEED: THE CARDS: each row of YtihaggghmanamaaDoorRows.lean that lists a variable, with what it lists TIED to the program's text (the seventh form; the later family's looks); each row that meets fmt, with fmt's text TOLD by the authors' own Lean function (tested against real Go, not proved from fmt's source: count such statements apart). THE CARD IS WHAT COUNTS. Prove the row's statement (the work); the ties are given (YtihaggghmanamaaDoorTie.lean); close each card by the builder's one call (the guide's Derived/Test/ToyasCard.lean, 'card_holds'). Laid BY PROGRAM, IN A SANDBOX (cutbox-door.mjs). By AI agents, Wed Nov 11 2026. No macro, syntax, notation, axiom, sorry.
-/
import Derived.Test.YtihaggghmanamaaDoorRows
import GoSem.ClaimSeven
namespace Go.Proofs.YtihaggghmanamaaDoor
namespace Rows

/-- THE TIED CARD OF 'merlonlaw01.SemverTexts'. -/
def semverTextsCard : Claim7 := { stood := { row := semverTextsRow, standIns := [], harness := (true, "60860c17c8437e756ddec2f26c1d42299f287e9644eb8df0825370390169fd77"), looks := true }, kinds := [], alts := [], laidByText := true, laidKinds := [.data, .data, .data], laidTests := true, laidLooks := .later }
def SemverTextsCardSaid : Prop := Claim7.holds Tryd.pinned (.plain (OpenSpec.ofChange semverTextsSpec)) semverTextsCard

/-- THE TIED CARD OF 'merlonlaw01.SemverRanges'. -/
def semverRangesCard : Claim7 := { stood := { row := semverRangesRow, standIns := [], harness := (true, "60860c17c8437e756ddec2f26c1d42299f287e9644eb8df0825370390169fd77"), looks := true }, kinds := [], alts := [], laidByText := true, laidKinds := [.data, .data, .data], laidTests := true, laidLooks := .later }
def SemverRangesCardSaid : Prop := Claim7.holds Tryd.pinned (.plain (OpenSpec.ofChange semverRangesSpec)) semverRangesCard

/-- THE TIED CARD OF 'merlonlaw01.SemverBack'. -/
def semverBackCard : Claim7 := { stood := { row := semverBackRow, standIns := [], harness := (true, "60860c17c8437e756ddec2f26c1d42299f287e9644eb8df0825370390169fd77"), looks := true }, kinds := [], alts := [], laidByText := true, laidKinds := [.data, .data, .data], laidTests := true, laidLooks := .later }
def SemverBackCardSaid : Prop := Claim7.holds Tryd.pinned (.plain (OpenSpec.ofChange semverBackSpec)) semverBackCard

/-- THE SECOND FORM's CARD OF 'merlonlaw01.SemverTexts'. -/
def semverTextsUptoCard : Claim7 := { stood := { row := semverTextsUptoRow, standIns := [], harness := (true, "60860c17c8437e756ddec2f26c1d42299f287e9644eb8df0825370390169fd77"), looks := true }, kinds := [], alts := [], laidByText := true, laidKinds := [.data, .data, .data], laidTests := true, laidLooks := .later }
def SemverTextsUptoCardSaid : Prop := Claim7.holds Tryd.pinned (.plain (OpenSpec.upto semverTextsSpec)) semverTextsUptoCard

/-- THE SECOND FORM's CARD OF 'merlonlaw01.SemverRanges'. -/
def semverRangesUptoCard : Claim7 := { stood := { row := semverRangesUptoRow, standIns := [], harness := (true, "60860c17c8437e756ddec2f26c1d42299f287e9644eb8df0825370390169fd77"), looks := true }, kinds := [], alts := [], laidByText := true, laidKinds := [.data, .data, .data], laidTests := true, laidLooks := .later }
def SemverRangesUptoCardSaid : Prop := Claim7.holds Tryd.pinned (.plain (OpenSpec.upto semverRangesSpec)) semverRangesUptoCard

/-- THE SECOND FORM's CARD OF 'merlonlaw01.SemverBack'. -/
def semverBackUptoCard : Claim7 := { stood := { row := semverBackUptoRow, standIns := [], harness := (true, "60860c17c8437e756ddec2f26c1d42299f287e9644eb8df0825370390169fd77"), looks := true }, kinds := [], alts := [], laidByText := true, laidKinds := [.data, .data, .data], laidTests := true, laidLooks := .later }
def SemverBackUptoCardSaid : Prop := Claim7.holds Tryd.pinned (.plain (OpenSpec.upto semverBackSpec)) semverBackUptoCard
end Rows
end Go.Proofs.YtihaggghmanamaaDoor
