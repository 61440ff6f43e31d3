/-
  DERIVED. GIVEN WITH THE SEED: THE CARDS: each row of YtmmpceodhadipaaDoorRows.lean that lists a variable, with what it lists TIED to the program's text (the seventh form; the later family's looks); each row that meets fmt, with fmt's text TOLD by the authors' own Lean function (tested against real Go, not proved from fmt's source: count such statements apart). THE CARD IS WHAT COUNTS. Prove the row's statement (the work); the ties are given (YtmmpceodhadipaaDoorTie.lean); close each card by the builder's one call (the guide's Derived/Test/ToyasCard.lean, 'card_holds'). Laid BY PROGRAM, IN A SANDBOX (cutbox-door.mjs). By AI agents, Wed Nov 11 2026. No macro, syntax, notation, axiom, sorry.
-/
import Derived.Test.YtmmpceodhadipaaDoorRows
import GoSem.ClaimSeven
namespace Go.Proofs.YtmmpceodhadipaaDoor
namespace Rows

/-- THE TIED CARD OF 'socagelaw08.SeenAll'. -/
def seenAllCard : Claim7 := { stood := { row := seenAllRow, standIns := [], harness := (true, "12dc8b645d1253495631e2bfde6f3d7ff2725ccaf2f8bf4c9f85b452df489e10"), looks := true }, kinds := [], alts := [], laidByText := true, laidKinds := [.data, .pinned], laidTests := true, laidLooks := .later }
def SeenAllCardSaid : Prop := Claim7.holds Tryd.pinned (.plain (OpenSpec.ofChange seenAllSpec)) seenAllCard

/-- THE TIED CARD OF 'socagelaw08.SeenOne'. -/
def seenOneCard : Claim7 := { stood := { row := seenOneRow, standIns := [], harness := (true, "12dc8b645d1253495631e2bfde6f3d7ff2725ccaf2f8bf4c9f85b452df489e10"), looks := true }, kinds := [], alts := [], laidByText := true, laidKinds := [.data, .pinned], laidTests := true, laidLooks := .later }
def SeenOneCardSaid : Prop := Claim7.holds Tryd.pinned (.plain (OpenSpec.ofChange seenOneSpec)) seenOneCard

/-- THE TIED CARD OF 'socagetop.WholeUpper'. -/
def wholeUpperCard : Claim7 := { stood := { row := wholeUpperRow, standIns := [], harness := (true, "12dc8b645d1253495631e2bfde6f3d7ff2725ccaf2f8bf4c9f85b452df489e10"), looks := true }, kinds := [], alts := [], laidByText := true, laidKinds := [.data, .pinned], laidTests := true, laidLooks := .later }
def WholeUpperCardSaid : Prop := Claim7.holds Tryd.pinned (.plain (OpenSpec.ofChange wholeUpperSpec)) wholeUpperCard

/-- THE TIED CARD OF 'socagelaw05.ImageDecodes'. -/
def imageDecodesCard : Claim7 := { stood := { row := imageDecodesRow, standIns := [], harness := (true, "12dc8b645d1253495631e2bfde6f3d7ff2725ccaf2f8bf4c9f85b452df489e10"), looks := true }, kinds := [], alts := [], laidByText := true, laidKinds := [.data, .pinned], laidTests := true, laidLooks := .later }
def ImageDecodesCardSaid : Prop := Claim7.holds Tryd.pinned (.plain (OpenSpec.ofChange imageDecodesSpec)) imageDecodesCard

/-- THE TIED CARD OF 'socagelaw06.BranchReads'. -/
def branchReadsCard : Claim7 := { stood := { row := branchReadsRow, standIns := [], harness := (true, "12dc8b645d1253495631e2bfde6f3d7ff2725ccaf2f8bf4c9f85b452df489e10"), looks := true }, kinds := [], alts := [], laidByText := true, laidKinds := [.data, .pinned], laidTests := true, laidLooks := .later }
def BranchReadsCardSaid : Prop := Claim7.holds Tryd.pinned (.plain (OpenSpec.ofChange branchReadsSpec)) branchReadsCard

/-- THE TIED CARD OF 'socagetop.WholeImages'. -/
def wholeImagesCard : Claim7 := { stood := { row := wholeImagesRow, standIns := [], harness := (true, "12dc8b645d1253495631e2bfde6f3d7ff2725ccaf2f8bf4c9f85b452df489e10"), looks := true }, kinds := [], alts := [], laidByText := true, laidKinds := [.data, .pinned], laidTests := true, laidLooks := .later }
def WholeImagesCardSaid : Prop := Claim7.holds Tryd.pinned (.plain (OpenSpec.ofChange wholeImagesSpec)) wholeImagesCard

/-- THE TIED CARD OF 'socagelaw10.MergePages'. -/
def mergePagesCard : Claim7 := { stood := { row := mergePagesRow, standIns := [], harness := (true, "12dc8b645d1253495631e2bfde6f3d7ff2725ccaf2f8bf4c9f85b452df489e10"), looks := true }, kinds := [], alts := [], laidByText := true, laidKinds := [.data, .pinned], laidTests := true, laidLooks := .later }
def MergePagesCardSaid : Prop := Claim7.holds Tryd.pinned (.plain (OpenSpec.ofChange mergePagesSpec)) mergePagesCard

/-- THE TIED CARD OF 'socagelaw10.MergeOdd'. -/
def mergeOddCard : Claim7 := { stood := { row := mergeOddRow, standIns := [], harness := (true, "12dc8b645d1253495631e2bfde6f3d7ff2725ccaf2f8bf4c9f85b452df489e10"), looks := true }, kinds := [], alts := [], laidByText := true, laidKinds := [.data, .pinned], laidTests := true, laidLooks := .later }
def MergeOddCardSaid : Prop := Claim7.holds Tryd.pinned (.plain (OpenSpec.ofChange mergeOddSpec)) mergeOddCard

/-- THE SECOND FORM's CARD OF 'socagelaw08.SeenAll'. -/
def seenAllUptoCard : Claim7 := { stood := { row := seenAllUptoRow, standIns := [], harness := (true, "12dc8b645d1253495631e2bfde6f3d7ff2725ccaf2f8bf4c9f85b452df489e10"), looks := true }, kinds := [], alts := [], laidByText := true, laidKinds := [.data, .pinned], laidTests := true, laidLooks := .later }
def SeenAllUptoCardSaid : Prop := Claim7.holds Tryd.pinned (.plain (OpenSpec.upto seenAllSpec)) seenAllUptoCard

/-- THE SECOND FORM's CARD OF 'socagelaw08.SeenOne'. -/
def seenOneUptoCard : Claim7 := { stood := { row := seenOneUptoRow, standIns := [], harness := (true, "12dc8b645d1253495631e2bfde6f3d7ff2725ccaf2f8bf4c9f85b452df489e10"), looks := true }, kinds := [], alts := [], laidByText := true, laidKinds := [.data, .pinned], laidTests := true, laidLooks := .later }
def SeenOneUptoCardSaid : Prop := Claim7.holds Tryd.pinned (.plain (OpenSpec.upto seenOneSpec)) seenOneUptoCard

/-- THE SECOND FORM's CARD OF 'socagetop.WholeUpper'. -/
def wholeUpperUptoCard : Claim7 := { stood := { row := wholeUpperUptoRow, standIns := [], harness := (true, "12dc8b645d1253495631e2bfde6f3d7ff2725ccaf2f8bf4c9f85b452df489e10"), looks := true }, kinds := [], alts := [], laidByText := true, laidKinds := [.data, .pinned], laidTests := true, laidLooks := .later }
def WholeUpperUptoCardSaid : Prop := Claim7.holds Tryd.pinned (.plain (OpenSpec.upto wholeUpperSpec)) wholeUpperUptoCard

/-- THE SECOND FORM's CARD OF 'socagelaw05.ImageDecodes'. -/
def imageDecodesUptoCard : Claim7 := { stood := { row := imageDecodesUptoRow, standIns := [], harness := (true, "12dc8b645d1253495631e2bfde6f3d7ff2725ccaf2f8bf4c9f85b452df489e10"), looks := true }, kinds := [], alts := [], laidByText := true, laidKinds := [.data, .pinned], laidTests := true, laidLooks := .later }
def ImageDecodesUptoCardSaid : Prop := Claim7.holds Tryd.pinned (.plain (OpenSpec.upto imageDecodesSpec)) imageDecodesUptoCard

/-- THE SECOND FORM's CARD OF 'socagelaw06.BranchReads'. -/
def branchReadsUptoCard : Claim7 := { stood := { row := branchReadsUptoRow, standIns := [], harness := (true, "12dc8b645d1253495631e2bfde6f3d7ff2725ccaf2f8bf4c9f85b452df489e10"), looks := true }, kinds := [], alts := [], laidByText := true, laidKinds := [.data, .pinned], laidTests := true, laidLooks := .later }
def BranchReadsUptoCardSaid : Prop := Claim7.holds Tryd.pinned (.plain (OpenSpec.upto branchReadsSpec)) branchReadsUptoCard

/-- THE SECOND FORM's CARD OF 'socagetop.WholeImages'. -/
def wholeImagesUptoCard : Claim7 := { stood := { row := wholeImagesUptoRow, standIns := [], harness := (true, "12dc8b645d1253495631e2bfde6f3d7ff2725ccaf2f8bf4c9f85b452df489e10"), looks := true }, kinds := [], alts := [], laidByText := true, laidKinds := [.data, .pinned], laidTests := true, laidLooks := .later }
def WholeImagesUptoCardSaid : Prop := Claim7.holds Tryd.pinned (.plain (OpenSpec.upto wholeImagesSpec)) wholeImagesUptoCard

/-- THE SECOND FORM's CARD OF 'socagelaw10.MergePages'. -/
def mergePagesUptoCard : Claim7 := { stood := { row := mergePagesUptoRow, standIns := [], harness := (true, "12dc8b645d1253495631e2bfde6f3d7ff2725ccaf2f8bf4c9f85b452df489e10"), looks := true }, kinds := [], alts := [], laidByText := true, laidKinds := [.data, .pinned], laidTests := true, laidLooks := .later }
def MergePagesUptoCardSaid : Prop := Claim7.holds Tryd.pinned (.plain (OpenSpec.upto mergePagesSpec)) mergePagesUptoCard

/-- THE SECOND FORM's CARD OF 'socagelaw10.MergeOdd'. -/
def mergeOddUptoCard : Claim7 := { stood := { row := mergeOddUptoRow, standIns := [], harness := (true, "12dc8b645d1253495631e2bfde6f3d7ff2725ccaf2f8bf4c9f85b452df489e10"), looks := true }, kinds := [], alts := [], laidByText := true, laidKinds := [.data, .pinned], laidTests := true, laidLooks := .later }
def MergeOddUptoCardSaid : Prop := Claim7.holds Tryd.pinned (.plain (OpenSpec.upto mergeOddSpec)) mergeOddUptoCard
end Rows
end Go.Proofs.YtmmpceodhadipaaDoor
