/-
  DERIVED. GIVEN WITH THE SEED: THE CARDS: each row of YtekekhgjobahaaaGreatDoorRows.lean that lists a variable, with what it lists TIED to the program's text (the seventh form; the later family's looks); each row that meets fmt, with fmt's text TOLD by the authors' own Lean function (tested against real Go, not proved from fmt's source: count such statements apart). THE CARD IS WHAT COUNTS. Prove the row's statement (the work); the ties are given (YtekekhgjobahaaaGreatDoorTie.lean); close each card by the builder's one call (the guide's Derived/Test/ToyasCard.lean, 'card_holds'). Laid BY PROGRAM, IN A SANDBOX (cutbox-door.mjs). By AI agents, Wed Nov 11 2026. No macro, syntax, notation, axiom, sorry.
-/
import Derived.Test.YtekekhgjobahaaaGreatDoorRows
import GoSem.ClaimSeven
namespace Go.Proofs.YtekekhgjobahaaaGreatDoor
namespace Rows

/-- THE TIED CARD OF 'socagelaw26.ReportBad'. -/
def reportBadCard : Claim7 := { stood := { row := reportBadRow, standIns := [], harness := (true, "b4454ae638d3e85e2816e6cbae457ae296d4cbef74555fafb2d71309e3e63276"), looks := true }, kinds := [], alts := [], laidByText := true, laidKinds := [.data, .data, .data, .data, .sentinel, .sentinel, .data, .pinned], laidTests := true, laidLooks := .later }
def ReportBadCardSaid : Prop := Claim7.holds Tryz.pinned (.plain (OpenSpec.ofChange reportBadSpec)) reportBadCard

/-- THE TIED CARD OF 'socagelaw26.ReportLines'. -/
def reportLinesCard : Claim7 := { stood := { row := reportLinesRow, standIns := [], harness := (true, "b4454ae638d3e85e2816e6cbae457ae296d4cbef74555fafb2d71309e3e63276"), looks := true }, kinds := [], alts := [], laidByText := true, laidKinds := [.data, .data, .data, .data, .sentinel, .sentinel, .data, .pinned], laidTests := true, laidLooks := .later }
def ReportLinesCardSaid : Prop := Claim7.holds Tryz.pinned (.plain (OpenSpec.ofChange reportLinesSpec)) reportLinesCard

/-- THE SECOND FORM's CARD OF 'socagelaw26.ReportBad'. -/
def reportBadUptoCard : Claim7 := { stood := { row := reportBadUptoRow, standIns := [], harness := (true, "b4454ae638d3e85e2816e6cbae457ae296d4cbef74555fafb2d71309e3e63276"), looks := true }, kinds := [], alts := [], laidByText := true, laidKinds := [.data, .data, .data, .data, .sentinel, .sentinel, .data, .pinned], laidTests := true, laidLooks := .later }
def ReportBadUptoCardSaid : Prop := Claim7.holds Tryz.pinned (.plain (OpenSpec.upto reportBadSpec)) reportBadUptoCard

/-- THE SECOND FORM's CARD OF 'socagelaw26.ReportLines'. -/
def reportLinesUptoCard : Claim7 := { stood := { row := reportLinesUptoRow, standIns := [], harness := (true, "b4454ae638d3e85e2816e6cbae457ae296d4cbef74555fafb2d71309e3e63276"), looks := true }, kinds := [], alts := [], laidByText := true, laidKinds := [.data, .data, .data, .data, .sentinel, .sentinel, .data, .pinned], laidTests := true, laidLooks := .later }
def ReportLinesUptoCardSaid : Prop := Claim7.holds Tryz.pinned (.plain (OpenSpec.upto reportLinesSpec)) reportLinesUptoCard
end Rows
end Go.Proofs.YtekekhgjobahaaaGreatDoor
