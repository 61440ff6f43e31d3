/-
  DERIVED. GIVEN WITH THE SEED: THE CARDS: each row of YtapgagfeghfooaaDoorRows.lean that lists a variable, with what it lists TIED to the program's text (the seventh form; the later family's looks); each row that meets fmt, with fmt's text TOLD by the authors' own Lean function (tested against real Go, not proved from fmt's source: count such statements apart). THE CARD IS WHAT COUNTS. Prove the row's statement (the work); the ties are given (YtapgagfeghfooaaDoorTie.lean); close each card by the builder's one call (the guide's Derived/Test/ToyasCard.lean, 'card_holds'). Laid BY PROGRAM, IN A SANDBOX (cutbox-door.mjs). By AI agents, Wed Nov 11 2026. No macro, syntax, notation, axiom, sorry.
-/
import Derived.Test.YtapgagfeghfooaaDoorRows
import GoSem.ClaimSeven
namespace Go.Proofs.YtapgagfeghfooaaDoor
namespace Rows

/-- THE TIED CARD OF 'socagelaw05.ImageDecodes'. -/
def imageDecodesCard : Claim7 := { stood := { row := imageDecodesRow, standIns := [], harness := (true, "f87cec61412bf30040df10ff46d2e99440c1db3356728aaf74ee7959bc293d0a"), looks := false }, kinds := [], alts := [], laidByText := true, laidKinds := [.data, .pinned], laidTests := true, laidLooks := .later }
def ImageDecodesCardSaid : Prop := Claim7.holds Tryd.pinned (.plain (OpenSpec.ofChange imageDecodesSpec)) imageDecodesCard

/-- THE TIED CARD OF 'socagetop.WholeImages'. -/
def wholeImagesCard : Claim7 := { stood := { row := wholeImagesRow, standIns := [], harness := (true, "f87cec61412bf30040df10ff46d2e99440c1db3356728aaf74ee7959bc293d0a"), looks := false }, kinds := [], alts := [], laidByText := true, laidKinds := [.data, .pinned], laidTests := true, laidLooks := .later }
def WholeImagesCardSaid : Prop := Claim7.holds Tryd.pinned (.plain (OpenSpec.ofChange wholeImagesSpec)) wholeImagesCard

/-- THE SECOND FORM's CARD OF 'socagelaw05.ImageDecodes'. -/
def imageDecodesUptoCard : Claim7 := { stood := { row := imageDecodesUptoRow, standIns := [], harness := (true, "f87cec61412bf30040df10ff46d2e99440c1db3356728aaf74ee7959bc293d0a"), looks := false }, kinds := [], alts := [], laidByText := true, laidKinds := [.data, .pinned], laidTests := true, laidLooks := .later }
def ImageDecodesUptoCardSaid : Prop := Claim7.holds Tryd.pinned (.plain (OpenSpec.upto imageDecodesSpec)) imageDecodesUptoCard

/-- THE SECOND FORM's CARD OF 'socagetop.WholeImages'. -/
def wholeImagesUptoCard : Claim7 := { stood := { row := wholeImagesUptoRow, standIns := [], harness := (true, "f87cec61412bf30040df10ff46d2e99440c1db3356728aaf74ee7959bc293d0a"), looks := false }, kinds := [], alts := [], laidByText := true, laidKinds := [.data, .pinned], laidTests := true, laidLooks := .later }
def WholeImagesUptoCardSaid : Prop := Claim7.holds Tryd.pinned (.plain (OpenSpec.upto wholeImagesSpec)) wholeImagesUptoCard
end Rows
end Go.Proofs.YtapgagfeghfooaaDoor
