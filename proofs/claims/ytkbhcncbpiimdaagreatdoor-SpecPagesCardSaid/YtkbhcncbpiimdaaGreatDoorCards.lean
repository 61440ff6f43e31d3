/-
  DERIVED. GIVEN WITH THE SEED: THE CARDS: each row of YtkbhcncbpiimdaaGreatDoorRows.lean that lists a variable, with what it lists TIED to the program's text (the seventh form; the later family's looks); each row that meets fmt, with fmt's text TOLD by the authors' own Lean function (tested against real Go, not proved from fmt's source: count such statements apart). THE CARD IS WHAT COUNTS. Prove the row's statement (the work); the ties are given (YtkbhcncbpiimdaaGreatDoorTie.lean); close each card by the builder's one call (the guide's Derived/Test/ToyasCard.lean, 'card_holds'). Laid BY PROGRAM, IN A SANDBOX (cutbox-door.mjs). By AI agents, Wed Nov 11 2026. No macro, syntax, notation, axiom, sorry.
-/
import Derived.Test.YtkbhcncbpiimdaaGreatDoorRows
import GoSem.ClaimSeven
namespace Go.Proofs.YtkbhcncbpiimdaaGreatDoor
namespace Rows

/-- THE TIED CARD OF 'socagelaw12.UnionLists'. -/
def unionListsCard : Claim7 := { stood := { row := unionListsRow, standIns := [], harness := (true, "1f0fba504448c0a31da4e5c05c50fd91cbacb5355f12e27a6368b3df6b8399a6"), looks := true }, kinds := [], alts := [], laidByText := true, laidKinds := [.data, .pinned], laidTests := true, laidLooks := .later }
def UnionListsCardSaid : Prop := Claim7.holds Tryz.pinned (.plain (OpenSpec.ofChange unionListsSpec)) unionListsCard

/-- THE TIED CARD OF 'socagelaw12.UnionParts'. -/
def unionPartsCard : Claim7 := { stood := { row := unionPartsRow, standIns := [], harness := (true, "1f0fba504448c0a31da4e5c05c50fd91cbacb5355f12e27a6368b3df6b8399a6"), looks := true }, kinds := [], alts := [], laidByText := true, laidKinds := [.data, .pinned], laidTests := true, laidLooks := .later }
def UnionPartsCardSaid : Prop := Claim7.holds Tryz.pinned (.plain (OpenSpec.ofChange unionPartsSpec)) unionPartsCard

/-- THE TIED CARD OF 'socagetop.WholePaths'. -/
def wholePathsCard : Claim7 := { stood := { row := wholePathsRow, standIns := [], harness := (true, "1f0fba504448c0a31da4e5c05c50fd91cbacb5355f12e27a6368b3df6b8399a6"), looks := true }, kinds := [], alts := [], laidByText := true, laidKinds := [.data, .pinned], laidTests := true, laidLooks := .later }
def WholePathsCardSaid : Prop := Claim7.holds Tryz.pinned (.plain (OpenSpec.ofChange wholePathsSpec)) wholePathsCard

/-- THE TIED CARD OF 'socagelaw20.SpecDoes'. -/
def specDoesCard : Claim7 := { stood := { row := specDoesRow, standIns := [], harness := (true, "1f0fba504448c0a31da4e5c05c50fd91cbacb5355f12e27a6368b3df6b8399a6"), looks := true }, kinds := [], alts := [], laidByText := true, laidKinds := [.data, .pinned], laidTests := true, laidLooks := .later }
def SpecDoesCardSaid : Prop := Claim7.holds Tryz.pinned (.plain (OpenSpec.ofChange specDoesSpec)) specDoesCard

/-- THE TIED CARD OF 'socagelaw20.SpecPages'. -/
def specPagesCard : Claim7 := { stood := { row := specPagesRow, standIns := [], harness := (true, "1f0fba504448c0a31da4e5c05c50fd91cbacb5355f12e27a6368b3df6b8399a6"), looks := true }, kinds := [], alts := [], laidByText := true, laidKinds := [.data, .pinned], laidTests := true, laidLooks := .later }
def SpecPagesCardSaid : Prop := Claim7.holds Tryz.pinned (.plain (OpenSpec.ofChange specPagesSpec)) specPagesCard

/-- THE TIED CARD OF 'socagelaw20.SpecParts'. -/
def specPartsCard : Claim7 := { stood := { row := specPartsRow, standIns := [], harness := (true, "1f0fba504448c0a31da4e5c05c50fd91cbacb5355f12e27a6368b3df6b8399a6"), looks := true }, kinds := [], alts := [], laidByText := true, laidKinds := [.data, .pinned], laidTests := true, laidLooks := .later }
def SpecPartsCardSaid : Prop := Claim7.holds Tryz.pinned (.plain (OpenSpec.ofChange specPartsSpec)) specPartsCard

/-- THE SECOND FORM's CARD OF 'socagelaw12.UnionLists'. -/
def unionListsUptoCard : Claim7 := { stood := { row := unionListsUptoRow, standIns := [], harness := (true, "1f0fba504448c0a31da4e5c05c50fd91cbacb5355f12e27a6368b3df6b8399a6"), looks := true }, kinds := [], alts := [], laidByText := true, laidKinds := [.data, .pinned], laidTests := true, laidLooks := .later }
def UnionListsUptoCardSaid : Prop := Claim7.holds Tryz.pinned (.plain (OpenSpec.upto unionListsSpec)) unionListsUptoCard

/-- THE SECOND FORM's CARD OF 'socagelaw12.UnionParts'. -/
def unionPartsUptoCard : Claim7 := { stood := { row := unionPartsUptoRow, standIns := [], harness := (true, "1f0fba504448c0a31da4e5c05c50fd91cbacb5355f12e27a6368b3df6b8399a6"), looks := true }, kinds := [], alts := [], laidByText := true, laidKinds := [.data, .pinned], laidTests := true, laidLooks := .later }
def UnionPartsUptoCardSaid : Prop := Claim7.holds Tryz.pinned (.plain (OpenSpec.upto unionPartsSpec)) unionPartsUptoCard

/-- THE SECOND FORM's CARD OF 'socagetop.WholePaths'. -/
def wholePathsUptoCard : Claim7 := { stood := { row := wholePathsUptoRow, standIns := [], harness := (true, "1f0fba504448c0a31da4e5c05c50fd91cbacb5355f12e27a6368b3df6b8399a6"), looks := true }, kinds := [], alts := [], laidByText := true, laidKinds := [.data, .pinned], laidTests := true, laidLooks := .later }
def WholePathsUptoCardSaid : Prop := Claim7.holds Tryz.pinned (.plain (OpenSpec.upto wholePathsSpec)) wholePathsUptoCard

/-- THE SECOND FORM's CARD OF 'socagelaw20.SpecDoes'. -/
def specDoesUptoCard : Claim7 := { stood := { row := specDoesUptoRow, standIns := [], harness := (true, "1f0fba504448c0a31da4e5c05c50fd91cbacb5355f12e27a6368b3df6b8399a6"), looks := true }, kinds := [], alts := [], laidByText := true, laidKinds := [.data, .pinned], laidTests := true, laidLooks := .later }
def SpecDoesUptoCardSaid : Prop := Claim7.holds Tryz.pinned (.plain (OpenSpec.upto specDoesSpec)) specDoesUptoCard

/-- THE SECOND FORM's CARD OF 'socagelaw20.SpecPages'. -/
def specPagesUptoCard : Claim7 := { stood := { row := specPagesUptoRow, standIns := [], harness := (true, "1f0fba504448c0a31da4e5c05c50fd91cbacb5355f12e27a6368b3df6b8399a6"), looks := true }, kinds := [], alts := [], laidByText := true, laidKinds := [.data, .pinned], laidTests := true, laidLooks := .later }
def SpecPagesUptoCardSaid : Prop := Claim7.holds Tryz.pinned (.plain (OpenSpec.upto specPagesSpec)) specPagesUptoCard

/-- THE SECOND FORM's CARD OF 'socagelaw20.SpecParts'. -/
def specPartsUptoCard : Claim7 := { stood := { row := specPartsUptoRow, standIns := [], harness := (true, "1f0fba504448c0a31da4e5c05c50fd91cbacb5355f12e27a6368b3df6b8399a6"), looks := true }, kinds := [], alts := [], laidByText := true, laidKinds := [.data, .pinned], laidTests := true, laidLooks := .later }
def SpecPartsUptoCardSaid : Prop := Claim7.holds Tryz.pinned (.plain (OpenSpec.upto specPartsSpec)) specPartsUptoCard
end Rows
end Go.Proofs.YtkbhcncbpiimdaaGreatDoor
