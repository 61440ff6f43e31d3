/-
  DERIVED. GIVEN WITH THE SEED: THE CARDS: each row of YtniklphdnakehaaDoorRows.lean that lists a variable, with what it lists TIED to the program's text (the seventh form; the later family's looks); each row that meets fmt, with fmt's text TOLD by the authors' own Lean function (tested against real Go, not proved from fmt's source: count such statements apart). THE CARD IS WHAT COUNTS. Prove the row's statement (the work); the ties are given (YtniklphdnakehaaDoorTie.lean); close each card by the builder's one call (the guide's Derived/Test/ToyasCard.lean, 'card_holds'). Laid BY PROGRAM, IN A SANDBOX (cutbox-door.mjs). By AI agents, Wed Nov 11 2026. No macro, syntax, notation, axiom, sorry.
-/
import Derived.Test.YtniklphdnakehaaDoorRows
import GoSem.ClaimSeven
namespace Go.Proofs.YtniklphdnakehaaDoor
namespace Rows

/-- THE TIED CARD OF 'socagelaw05.ImageDecodes'. -/
def imageDecodesCard : Claim7 := { stood := { row := imageDecodesRow, standIns := [], harness := (true, "ec190260e7d1c87fec1350cd9ddb91b43a5630969f113220ae692c11c8d976be"), looks := false }, kinds := [], alts := [], laidByText := true, laidKinds := [.data, .pinned], laidTests := true, laidLooks := .later }
def ImageDecodesCardSaid : Prop := Claim7.holds Tryd.pinned (.plain (OpenSpec.ofChange imageDecodesSpec)) imageDecodesCard

/-- THE TIED CARD OF 'socagelaw06.BranchReads'. -/
def branchReadsCard : Claim7 := { stood := { row := branchReadsRow, standIns := [], harness := (true, "ec190260e7d1c87fec1350cd9ddb91b43a5630969f113220ae692c11c8d976be"), looks := false }, kinds := [], alts := [], laidByText := true, laidKinds := [.data, .pinned], laidTests := true, laidLooks := .later }
def BranchReadsCardSaid : Prop := Claim7.holds Tryd.pinned (.plain (OpenSpec.ofChange branchReadsSpec)) branchReadsCard

/-- THE TIED CARD OF 'socagelaw07.StackDoes'. -/
def stackDoesCard : Claim7 := { stood := { row := stackDoesRow, standIns := [], harness := (true, "ec190260e7d1c87fec1350cd9ddb91b43a5630969f113220ae692c11c8d976be"), looks := false }, kinds := [], alts := [], laidByText := true, laidKinds := [.data, .pinned], laidTests := true, laidLooks := .later }
def StackDoesCardSaid : Prop := Claim7.holds Tryd.pinned (.plain (OpenSpec.ofChange stackDoesSpec)) stackDoesCard

/-- THE TIED CARD OF 'socagelaw07.StackOf'. -/
def stackOfCard : Claim7 := { stood := { row := stackOfRow, standIns := [], harness := (true, "ec190260e7d1c87fec1350cd9ddb91b43a5630969f113220ae692c11c8d976be"), looks := false }, kinds := [], alts := [], laidByText := true, laidKinds := [.data, .pinned], laidTests := true, laidLooks := .later }
def StackOfCardSaid : Prop := Claim7.holds Tryd.pinned (.plain (OpenSpec.ofChange stackOfSpec)) stackOfCard

/-- THE TIED CARD OF 'socagelaw08.SeenAll'. -/
def seenAllCard : Claim7 := { stood := { row := seenAllRow, standIns := [], harness := (true, "ec190260e7d1c87fec1350cd9ddb91b43a5630969f113220ae692c11c8d976be"), looks := false }, kinds := [], alts := [], laidByText := true, laidKinds := [.data, .pinned], laidTests := true, laidLooks := .later }
def SeenAllCardSaid : Prop := Claim7.holds Tryd.pinned (.plain (OpenSpec.ofChange seenAllSpec)) seenAllCard

/-- THE TIED CARD OF 'socagelaw08.SeenOne'. -/
def seenOneCard : Claim7 := { stood := { row := seenOneRow, standIns := [], harness := (true, "ec190260e7d1c87fec1350cd9ddb91b43a5630969f113220ae692c11c8d976be"), looks := false }, kinds := [], alts := [], laidByText := true, laidKinds := [.data, .pinned], laidTests := true, laidLooks := .later }
def SeenOneCardSaid : Prop := Claim7.holds Tryd.pinned (.plain (OpenSpec.ofChange seenOneSpec)) seenOneCard

/-- THE TIED CARD OF 'socagetop.WholeImages'. -/
def wholeImagesCard : Claim7 := { stood := { row := wholeImagesRow, standIns := [], harness := (true, "ec190260e7d1c87fec1350cd9ddb91b43a5630969f113220ae692c11c8d976be"), looks := false }, kinds := [], alts := [], laidByText := true, laidKinds := [.data, .pinned], laidTests := true, laidLooks := .later }
def WholeImagesCardSaid : Prop := Claim7.holds Tryd.pinned (.plain (OpenSpec.ofChange wholeImagesSpec)) wholeImagesCard

/-- THE TIED CARD OF 'socagetop.WholeUpper'. -/
def wholeUpperCard : Claim7 := { stood := { row := wholeUpperRow, standIns := [], harness := (true, "ec190260e7d1c87fec1350cd9ddb91b43a5630969f113220ae692c11c8d976be"), looks := false }, kinds := [], alts := [], laidByText := true, laidKinds := [.data, .pinned], laidTests := true, laidLooks := .later }
def WholeUpperCardSaid : Prop := Claim7.holds Tryd.pinned (.plain (OpenSpec.ofChange wholeUpperSpec)) wholeUpperCard

/-- THE SECOND FORM's CARD OF 'socagelaw05.ImageDecodes'. -/
def imageDecodesUptoCard : Claim7 := { stood := { row := imageDecodesUptoRow, standIns := [], harness := (true, "ec190260e7d1c87fec1350cd9ddb91b43a5630969f113220ae692c11c8d976be"), looks := false }, kinds := [], alts := [], laidByText := true, laidKinds := [.data, .pinned], laidTests := true, laidLooks := .later }
def ImageDecodesUptoCardSaid : Prop := Claim7.holds Tryd.pinned (.plain (OpenSpec.upto imageDecodesSpec)) imageDecodesUptoCard

/-- THE SECOND FORM's CARD OF 'socagelaw06.BranchReads'. -/
def branchReadsUptoCard : Claim7 := { stood := { row := branchReadsUptoRow, standIns := [], harness := (true, "ec190260e7d1c87fec1350cd9ddb91b43a5630969f113220ae692c11c8d976be"), looks := false }, kinds := [], alts := [], laidByText := true, laidKinds := [.data, .pinned], laidTests := true, laidLooks := .later }
def BranchReadsUptoCardSaid : Prop := Claim7.holds Tryd.pinned (.plain (OpenSpec.upto branchReadsSpec)) branchReadsUptoCard

/-- THE SECOND FORM's CARD OF 'socagelaw07.StackDoes'. -/
def stackDoesUptoCard : Claim7 := { stood := { row := stackDoesUptoRow, standIns := [], harness := (true, "ec190260e7d1c87fec1350cd9ddb91b43a5630969f113220ae692c11c8d976be"), looks := false }, kinds := [], alts := [], laidByText := true, laidKinds := [.data, .pinned], laidTests := true, laidLooks := .later }
def StackDoesUptoCardSaid : Prop := Claim7.holds Tryd.pinned (.plain (OpenSpec.upto stackDoesSpec)) stackDoesUptoCard

/-- THE SECOND FORM's CARD OF 'socagelaw07.StackOf'. -/
def stackOfUptoCard : Claim7 := { stood := { row := stackOfUptoRow, standIns := [], harness := (true, "ec190260e7d1c87fec1350cd9ddb91b43a5630969f113220ae692c11c8d976be"), looks := false }, kinds := [], alts := [], laidByText := true, laidKinds := [.data, .pinned], laidTests := true, laidLooks := .later }
def StackOfUptoCardSaid : Prop := Claim7.holds Tryd.pinned (.plain (OpenSpec.upto stackOfSpec)) stackOfUptoCard

/-- THE SECOND FORM's CARD OF 'socagelaw08.SeenAll'. -/
def seenAllUptoCard : Claim7 := { stood := { row := seenAllUptoRow, standIns := [], harness := (true, "ec190260e7d1c87fec1350cd9ddb91b43a5630969f113220ae692c11c8d976be"), looks := false }, kinds := [], alts := [], laidByText := true, laidKinds := [.data, .pinned], laidTests := true, laidLooks := .later }
def SeenAllUptoCardSaid : Prop := Claim7.holds Tryd.pinned (.plain (OpenSpec.upto seenAllSpec)) seenAllUptoCard

/-- THE SECOND FORM's CARD OF 'socagelaw08.SeenOne'. -/
def seenOneUptoCard : Claim7 := { stood := { row := seenOneUptoRow, standIns := [], harness := (true, "ec190260e7d1c87fec1350cd9ddb91b43a5630969f113220ae692c11c8d976be"), looks := false }, kinds := [], alts := [], laidByText := true, laidKinds := [.data, .pinned], laidTests := true, laidLooks := .later }
def SeenOneUptoCardSaid : Prop := Claim7.holds Tryd.pinned (.plain (OpenSpec.upto seenOneSpec)) seenOneUptoCard

/-- THE SECOND FORM's CARD OF 'socagetop.WholeImages'. -/
def wholeImagesUptoCard : Claim7 := { stood := { row := wholeImagesUptoRow, standIns := [], harness := (true, "ec190260e7d1c87fec1350cd9ddb91b43a5630969f113220ae692c11c8d976be"), looks := false }, kinds := [], alts := [], laidByText := true, laidKinds := [.data, .pinned], laidTests := true, laidLooks := .later }
def WholeImagesUptoCardSaid : Prop := Claim7.holds Tryd.pinned (.plain (OpenSpec.upto wholeImagesSpec)) wholeImagesUptoCard

/-- THE SECOND FORM's CARD OF 'socagetop.WholeUpper'. -/
def wholeUpperUptoCard : Claim7 := { stood := { row := wholeUpperUptoRow, standIns := [], harness := (true, "ec190260e7d1c87fec1350cd9ddb91b43a5630969f113220ae692c11c8d976be"), looks := false }, kinds := [], alts := [], laidByText := true, laidKinds := [.data, .pinned], laidTests := true, laidLooks := .later }
def WholeUpperUptoCardSaid : Prop := Claim7.holds Tryd.pinned (.plain (OpenSpec.upto wholeUpperSpec)) wholeUpperUptoCard
end Rows
end Go.Proofs.YtniklphdnakehaaDoor
