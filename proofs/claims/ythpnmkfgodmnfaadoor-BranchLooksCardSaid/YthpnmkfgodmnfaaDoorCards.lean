/-
  DERIVED. GIVEN WITH THE SEED: THE CARDS: each row of YthpnmkfgodmnfaaDoorRows.lean that lists a variable, with what it lists TIED to the program's text (the seventh form; the later family's looks); each row that meets fmt, with fmt's text TOLD by the authors' own Lean function (tested against real Go, not proved from fmt's source: count such statements apart). THE CARD IS WHAT COUNTS. Prove the row's statement (the work); the ties are given (YthpnmkfgodmnfaaDoorTie.lean); close each card by the builder's one call (the guide's Derived/Test/ToyasCard.lean, 'card_holds'). Laid BY PROGRAM, IN A SANDBOX (cutbox-door.mjs). By AI agents, Wed Nov 11 2026. No macro, syntax, notation, axiom, sorry.
-/
import Derived.Test.YthpnmkfgodmnfaaDoorRows
import GoSem.ClaimSeven
namespace Go.Proofs.YthpnmkfgodmnfaaDoor
namespace Rows

/-- THE TIED CARD OF 'socagelaw05.ImageEncodes'. -/
def imageEncodesCard : Claim7 := { stood := { row := imageEncodesRow, standIns := [], harness := (true, "66e67f78eddfe4d1e8811ff0690b4ea48a8313d90fa3fa2c23673da2073ca809"), looks := false }, kinds := [], alts := [], laidByText := true, laidKinds := [.data, .pinned], laidTests := true, laidLooks := .later }
def ImageEncodesCardSaid : Prop := Claim7.holds Tryd.pinned (.plain (OpenSpec.ofChange imageEncodesSpec)) imageEncodesCard

/-- THE TIED CARD OF 'socagelaw05.ImageDecodes'. -/
def imageDecodesCard : Claim7 := { stood := { row := imageDecodesRow, standIns := [], harness := (true, "66e67f78eddfe4d1e8811ff0690b4ea48a8313d90fa3fa2c23673da2073ca809"), looks := false }, kinds := [], alts := [], laidByText := true, laidKinds := [.data, .pinned], laidTests := true, laidLooks := .later }
def ImageDecodesCardSaid : Prop := Claim7.holds Tryd.pinned (.plain (OpenSpec.ofChange imageDecodesSpec)) imageDecodesCard

/-- THE TIED CARD OF 'socagelaw05.ImageCuts'. -/
def imageCutsCard : Claim7 := { stood := { row := imageCutsRow, standIns := [], harness := (true, "66e67f78eddfe4d1e8811ff0690b4ea48a8313d90fa3fa2c23673da2073ca809"), looks := false }, kinds := [], alts := [], laidByText := true, laidKinds := [.data, .pinned], laidTests := true, laidLooks := .later }
def ImageCutsCardSaid : Prop := Claim7.holds Tryd.pinned (.plain (OpenSpec.ofChange imageCutsSpec)) imageCutsCard

/-- THE TIED CARD OF 'socagelaw06.BranchNodes'. -/
def branchNodesCard : Claim7 := { stood := { row := branchNodesRow, standIns := [], harness := (true, "66e67f78eddfe4d1e8811ff0690b4ea48a8313d90fa3fa2c23673da2073ca809"), looks := false }, kinds := [], alts := [], laidByText := true, laidKinds := [.data, .pinned], laidTests := true, laidLooks := .later }
def BranchNodesCardSaid : Prop := Claim7.holds Tryd.pinned (.plain (OpenSpec.ofChange branchNodesSpec)) branchNodesCard

/-- THE TIED CARD OF 'socagelaw06.BranchLooks'. -/
def branchLooksCard : Claim7 := { stood := { row := branchLooksRow, standIns := [], harness := (true, "66e67f78eddfe4d1e8811ff0690b4ea48a8313d90fa3fa2c23673da2073ca809"), looks := false }, kinds := [], alts := [], laidByText := true, laidKinds := [.data, .pinned], laidTests := true, laidLooks := .later }
def BranchLooksCardSaid : Prop := Claim7.holds Tryd.pinned (.plain (OpenSpec.ofChange branchLooksSpec)) branchLooksCard

/-- THE TIED CARD OF 'socagelaw06.BranchReads'. -/
def branchReadsCard : Claim7 := { stood := { row := branchReadsRow, standIns := [], harness := (true, "66e67f78eddfe4d1e8811ff0690b4ea48a8313d90fa3fa2c23673da2073ca809"), looks := false }, kinds := [], alts := [], laidByText := true, laidKinds := [.data, .pinned], laidTests := true, laidLooks := .later }
def BranchReadsCardSaid : Prop := Claim7.holds Tryd.pinned (.plain (OpenSpec.ofChange branchReadsSpec)) branchReadsCard

/-- THE TIED CARD OF 'socagetop.WholeFiles'. -/
def wholeFilesCard : Claim7 := { stood := { row := wholeFilesRow, standIns := [], harness := (true, "66e67f78eddfe4d1e8811ff0690b4ea48a8313d90fa3fa2c23673da2073ca809"), looks := false }, kinds := [], alts := [], laidByText := true, laidKinds := [.data, .pinned], laidTests := true, laidLooks := .later }
def WholeFilesCardSaid : Prop := Claim7.holds Tryd.pinned (.plain (OpenSpec.ofChange wholeFilesSpec)) wholeFilesCard

/-- THE TIED CARD OF 'socagetop.WholeImages'. -/
def wholeImagesCard : Claim7 := { stood := { row := wholeImagesRow, standIns := [], harness := (true, "66e67f78eddfe4d1e8811ff0690b4ea48a8313d90fa3fa2c23673da2073ca809"), looks := false }, kinds := [], alts := [], laidByText := true, laidKinds := [.data, .pinned], laidTests := true, laidLooks := .later }
def WholeImagesCardSaid : Prop := Claim7.holds Tryd.pinned (.plain (OpenSpec.ofChange wholeImagesSpec)) wholeImagesCard

/-- THE SECOND FORM's CARD OF 'socagelaw05.ImageEncodes'. -/
def imageEncodesUptoCard : Claim7 := { stood := { row := imageEncodesUptoRow, standIns := [], harness := (true, "66e67f78eddfe4d1e8811ff0690b4ea48a8313d90fa3fa2c23673da2073ca809"), looks := false }, kinds := [], alts := [], laidByText := true, laidKinds := [.data, .pinned], laidTests := true, laidLooks := .later }
def ImageEncodesUptoCardSaid : Prop := Claim7.holds Tryd.pinned (.plain (OpenSpec.upto imageEncodesSpec)) imageEncodesUptoCard

/-- THE SECOND FORM's CARD OF 'socagelaw05.ImageDecodes'. -/
def imageDecodesUptoCard : Claim7 := { stood := { row := imageDecodesUptoRow, standIns := [], harness := (true, "66e67f78eddfe4d1e8811ff0690b4ea48a8313d90fa3fa2c23673da2073ca809"), looks := false }, kinds := [], alts := [], laidByText := true, laidKinds := [.data, .pinned], laidTests := true, laidLooks := .later }
def ImageDecodesUptoCardSaid : Prop := Claim7.holds Tryd.pinned (.plain (OpenSpec.upto imageDecodesSpec)) imageDecodesUptoCard

/-- THE SECOND FORM's CARD OF 'socagelaw05.ImageCuts'. -/
def imageCutsUptoCard : Claim7 := { stood := { row := imageCutsUptoRow, standIns := [], harness := (true, "66e67f78eddfe4d1e8811ff0690b4ea48a8313d90fa3fa2c23673da2073ca809"), looks := false }, kinds := [], alts := [], laidByText := true, laidKinds := [.data, .pinned], laidTests := true, laidLooks := .later }
def ImageCutsUptoCardSaid : Prop := Claim7.holds Tryd.pinned (.plain (OpenSpec.upto imageCutsSpec)) imageCutsUptoCard

/-- THE SECOND FORM's CARD OF 'socagelaw06.BranchNodes'. -/
def branchNodesUptoCard : Claim7 := { stood := { row := branchNodesUptoRow, standIns := [], harness := (true, "66e67f78eddfe4d1e8811ff0690b4ea48a8313d90fa3fa2c23673da2073ca809"), looks := false }, kinds := [], alts := [], laidByText := true, laidKinds := [.data, .pinned], laidTests := true, laidLooks := .later }
def BranchNodesUptoCardSaid : Prop := Claim7.holds Tryd.pinned (.plain (OpenSpec.upto branchNodesSpec)) branchNodesUptoCard

/-- THE SECOND FORM's CARD OF 'socagelaw06.BranchLooks'. -/
def branchLooksUptoCard : Claim7 := { stood := { row := branchLooksUptoRow, standIns := [], harness := (true, "66e67f78eddfe4d1e8811ff0690b4ea48a8313d90fa3fa2c23673da2073ca809"), looks := false }, kinds := [], alts := [], laidByText := true, laidKinds := [.data, .pinned], laidTests := true, laidLooks := .later }
def BranchLooksUptoCardSaid : Prop := Claim7.holds Tryd.pinned (.plain (OpenSpec.upto branchLooksSpec)) branchLooksUptoCard

/-- THE SECOND FORM's CARD OF 'socagelaw06.BranchReads'. -/
def branchReadsUptoCard : Claim7 := { stood := { row := branchReadsUptoRow, standIns := [], harness := (true, "66e67f78eddfe4d1e8811ff0690b4ea48a8313d90fa3fa2c23673da2073ca809"), looks := false }, kinds := [], alts := [], laidByText := true, laidKinds := [.data, .pinned], laidTests := true, laidLooks := .later }
def BranchReadsUptoCardSaid : Prop := Claim7.holds Tryd.pinned (.plain (OpenSpec.upto branchReadsSpec)) branchReadsUptoCard

/-- THE SECOND FORM's CARD OF 'socagetop.WholeFiles'. -/
def wholeFilesUptoCard : Claim7 := { stood := { row := wholeFilesUptoRow, standIns := [], harness := (true, "66e67f78eddfe4d1e8811ff0690b4ea48a8313d90fa3fa2c23673da2073ca809"), looks := false }, kinds := [], alts := [], laidByText := true, laidKinds := [.data, .pinned], laidTests := true, laidLooks := .later }
def WholeFilesUptoCardSaid : Prop := Claim7.holds Tryd.pinned (.plain (OpenSpec.upto wholeFilesSpec)) wholeFilesUptoCard

/-- THE SECOND FORM's CARD OF 'socagetop.WholeImages'. -/
def wholeImagesUptoCard : Claim7 := { stood := { row := wholeImagesUptoRow, standIns := [], harness := (true, "66e67f78eddfe4d1e8811ff0690b4ea48a8313d90fa3fa2c23673da2073ca809"), looks := false }, kinds := [], alts := [], laidByText := true, laidKinds := [.data, .pinned], laidTests := true, laidLooks := .later }
def WholeImagesUptoCardSaid : Prop := Claim7.holds Tryd.pinned (.plain (OpenSpec.upto wholeImagesSpec)) wholeImagesUptoCard
end Rows
end Go.Proofs.YthpnmkfgodmnfaaDoor
