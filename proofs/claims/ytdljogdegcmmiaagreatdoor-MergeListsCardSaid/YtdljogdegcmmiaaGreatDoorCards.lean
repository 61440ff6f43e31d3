/-
  DERIVED. GIVEN WITH THE SEED: THE CARDS: each row of YtdljogdegcmmiaaGreatDoorRows.lean that lists a variable, with what it lists TIED to the program's text (the seventh form; the later family's looks); each row that meets fmt, with fmt's text TOLD by the authors' own Lean function (tested against real Go, not proved from fmt's source: count such statements apart). THE CARD IS WHAT COUNTS. Prove the row's statement (the work); the ties are given (YtdljogdegcmmiaaGreatDoorTie.lean); close each card by the builder's one call (the guide's Derived/Test/ToyasCard.lean, 'card_holds'). Laid BY PROGRAM, IN A SANDBOX (cutbox-door.mjs). By AI agents, Wed Nov 11 2026. No macro, syntax, notation, axiom, sorry.
-/
import Derived.Test.YtdljogdegcmmiaaGreatDoorRows
import GoSem.ClaimSeven
namespace Go.Proofs.YtdljogdegcmmiaaGreatDoor
namespace Rows

/-- THE TIED CARD OF 'socagelaw10.MergeLists'. -/
def mergeListsCard : Claim7 := { stood := { row := mergeListsRow, standIns := [], harness := (true, "2058dcd28649a0b313e40e41c9e467d079634c7da00188927c16449596b3cdab"), looks := true }, kinds := [], alts := [], laidByText := true, laidKinds := [.data, .pinned], laidTests := true, laidLooks := .later }
def MergeListsCardSaid : Prop := Claim7.holds Tryz.pinned (.plain (OpenSpec.ofChange mergeListsSpec)) mergeListsCard

/-- THE TIED CARD OF 'socagelaw11.WalkLeads'. -/
def walkLeadsCard : Claim7 := { stood := { row := walkLeadsRow, standIns := [], harness := (true, "2058dcd28649a0b313e40e41c9e467d079634c7da00188927c16449596b3cdab"), looks := true }, kinds := [], alts := [], laidByText := true, laidKinds := [.data, .pinned], laidTests := true, laidLooks := .later }
def WalkLeadsCardSaid : Prop := Claim7.holds Tryz.pinned (.plain (OpenSpec.ofChange walkLeadsSpec)) walkLeadsCard

/-- THE TIED CARD OF 'socagelaw11.WalkSteps'. -/
def walkStepsCard : Claim7 := { stood := { row := walkStepsRow, standIns := [], harness := (true, "2058dcd28649a0b313e40e41c9e467d079634c7da00188927c16449596b3cdab"), looks := true }, kinds := [], alts := [], laidByText := true, laidKinds := [.data, .pinned], laidTests := true, laidLooks := .later }
def WalkStepsCardSaid : Prop := Claim7.holds Tryz.pinned (.plain (OpenSpec.ofChange walkStepsSpec)) walkStepsCard

/-- THE TIED CARD OF 'socagelaw11.WalkOwn'. -/
def walkOwnCard : Claim7 := { stood := { row := walkOwnRow, standIns := [], harness := (true, "2058dcd28649a0b313e40e41c9e467d079634c7da00188927c16449596b3cdab"), looks := true }, kinds := [], alts := [], laidByText := true, laidKinds := [.data, .pinned], laidTests := true, laidLooks := .later }
def WalkOwnCardSaid : Prop := Claim7.holds Tryz.pinned (.plain (OpenSpec.ofChange walkOwnSpec)) walkOwnCard

/-- THE TIED CARD OF 'socagelaw12.UnionDoes'. -/
def unionDoesCard : Claim7 := { stood := { row := unionDoesRow, standIns := [], harness := (true, "2058dcd28649a0b313e40e41c9e467d079634c7da00188927c16449596b3cdab"), looks := true }, kinds := [], alts := [], laidByText := true, laidKinds := [.data, .pinned], laidTests := true, laidLooks := .later }
def UnionDoesCardSaid : Prop := Claim7.holds Tryz.pinned (.plain (OpenSpec.ofChange unionDoesSpec)) unionDoesCard

/-- THE TIED CARD OF 'socagelaw12.UnionLists'. -/
def unionListsCard : Claim7 := { stood := { row := unionListsRow, standIns := [], harness := (true, "2058dcd28649a0b313e40e41c9e467d079634c7da00188927c16449596b3cdab"), looks := true }, kinds := [], alts := [], laidByText := true, laidKinds := [.data, .pinned], laidTests := true, laidLooks := .later }
def UnionListsCardSaid : Prop := Claim7.holds Tryz.pinned (.plain (OpenSpec.ofChange unionListsSpec)) unionListsCard

/-- THE TIED CARD OF 'socagelaw12.UnionParts'. -/
def unionPartsCard : Claim7 := { stood := { row := unionPartsRow, standIns := [], harness := (true, "2058dcd28649a0b313e40e41c9e467d079634c7da00188927c16449596b3cdab"), looks := true }, kinds := [], alts := [], laidByText := true, laidKinds := [.data, .pinned], laidTests := true, laidLooks := .later }
def UnionPartsCardSaid : Prop := Claim7.holds Tryz.pinned (.plain (OpenSpec.ofChange unionPartsSpec)) unionPartsCard

/-- THE TIED CARD OF 'socagetop.WholeListed'. -/
def wholeListedCard : Claim7 := { stood := { row := wholeListedRow, standIns := [], harness := (true, "2058dcd28649a0b313e40e41c9e467d079634c7da00188927c16449596b3cdab"), looks := true }, kinds := [], alts := [], laidByText := true, laidKinds := [.data, .pinned], laidTests := true, laidLooks := .later }
def WholeListedCardSaid : Prop := Claim7.holds Tryz.pinned (.plain (OpenSpec.ofChange wholeListedSpec)) wholeListedCard

/-- THE TIED CARD OF 'socagetop.WholePaths'. -/
def wholePathsCard : Claim7 := { stood := { row := wholePathsRow, standIns := [], harness := (true, "2058dcd28649a0b313e40e41c9e467d079634c7da00188927c16449596b3cdab"), looks := true }, kinds := [], alts := [], laidByText := true, laidKinds := [.data, .pinned], laidTests := true, laidLooks := .later }
def WholePathsCardSaid : Prop := Claim7.holds Tryz.pinned (.plain (OpenSpec.ofChange wholePathsSpec)) wholePathsCard

/-- THE SECOND FORM's CARD OF 'socagelaw10.MergeLists'. -/
def mergeListsUptoCard : Claim7 := { stood := { row := mergeListsUptoRow, standIns := [], harness := (true, "2058dcd28649a0b313e40e41c9e467d079634c7da00188927c16449596b3cdab"), looks := true }, kinds := [], alts := [], laidByText := true, laidKinds := [.data, .pinned], laidTests := true, laidLooks := .later }
def MergeListsUptoCardSaid : Prop := Claim7.holds Tryz.pinned (.plain (OpenSpec.upto mergeListsSpec)) mergeListsUptoCard

/-- THE SECOND FORM's CARD OF 'socagelaw11.WalkLeads'. -/
def walkLeadsUptoCard : Claim7 := { stood := { row := walkLeadsUptoRow, standIns := [], harness := (true, "2058dcd28649a0b313e40e41c9e467d079634c7da00188927c16449596b3cdab"), looks := true }, kinds := [], alts := [], laidByText := true, laidKinds := [.data, .pinned], laidTests := true, laidLooks := .later }
def WalkLeadsUptoCardSaid : Prop := Claim7.holds Tryz.pinned (.plain (OpenSpec.upto walkLeadsSpec)) walkLeadsUptoCard

/-- THE SECOND FORM's CARD OF 'socagelaw11.WalkSteps'. -/
def walkStepsUptoCard : Claim7 := { stood := { row := walkStepsUptoRow, standIns := [], harness := (true, "2058dcd28649a0b313e40e41c9e467d079634c7da00188927c16449596b3cdab"), looks := true }, kinds := [], alts := [], laidByText := true, laidKinds := [.data, .pinned], laidTests := true, laidLooks := .later }
def WalkStepsUptoCardSaid : Prop := Claim7.holds Tryz.pinned (.plain (OpenSpec.upto walkStepsSpec)) walkStepsUptoCard

/-- THE SECOND FORM's CARD OF 'socagelaw11.WalkOwn'. -/
def walkOwnUptoCard : Claim7 := { stood := { row := walkOwnUptoRow, standIns := [], harness := (true, "2058dcd28649a0b313e40e41c9e467d079634c7da00188927c16449596b3cdab"), looks := true }, kinds := [], alts := [], laidByText := true, laidKinds := [.data, .pinned], laidTests := true, laidLooks := .later }
def WalkOwnUptoCardSaid : Prop := Claim7.holds Tryz.pinned (.plain (OpenSpec.upto walkOwnSpec)) walkOwnUptoCard

/-- THE SECOND FORM's CARD OF 'socagelaw12.UnionDoes'. -/
def unionDoesUptoCard : Claim7 := { stood := { row := unionDoesUptoRow, standIns := [], harness := (true, "2058dcd28649a0b313e40e41c9e467d079634c7da00188927c16449596b3cdab"), looks := true }, kinds := [], alts := [], laidByText := true, laidKinds := [.data, .pinned], laidTests := true, laidLooks := .later }
def UnionDoesUptoCardSaid : Prop := Claim7.holds Tryz.pinned (.plain (OpenSpec.upto unionDoesSpec)) unionDoesUptoCard

/-- THE SECOND FORM's CARD OF 'socagelaw12.UnionLists'. -/
def unionListsUptoCard : Claim7 := { stood := { row := unionListsUptoRow, standIns := [], harness := (true, "2058dcd28649a0b313e40e41c9e467d079634c7da00188927c16449596b3cdab"), looks := true }, kinds := [], alts := [], laidByText := true, laidKinds := [.data, .pinned], laidTests := true, laidLooks := .later }
def UnionListsUptoCardSaid : Prop := Claim7.holds Tryz.pinned (.plain (OpenSpec.upto unionListsSpec)) unionListsUptoCard

/-- THE SECOND FORM's CARD OF 'socagelaw12.UnionParts'. -/
def unionPartsUptoCard : Claim7 := { stood := { row := unionPartsUptoRow, standIns := [], harness := (true, "2058dcd28649a0b313e40e41c9e467d079634c7da00188927c16449596b3cdab"), looks := true }, kinds := [], alts := [], laidByText := true, laidKinds := [.data, .pinned], laidTests := true, laidLooks := .later }
def UnionPartsUptoCardSaid : Prop := Claim7.holds Tryz.pinned (.plain (OpenSpec.upto unionPartsSpec)) unionPartsUptoCard

/-- THE SECOND FORM's CARD OF 'socagetop.WholeListed'. -/
def wholeListedUptoCard : Claim7 := { stood := { row := wholeListedUptoRow, standIns := [], harness := (true, "2058dcd28649a0b313e40e41c9e467d079634c7da00188927c16449596b3cdab"), looks := true }, kinds := [], alts := [], laidByText := true, laidKinds := [.data, .pinned], laidTests := true, laidLooks := .later }
def WholeListedUptoCardSaid : Prop := Claim7.holds Tryz.pinned (.plain (OpenSpec.upto wholeListedSpec)) wholeListedUptoCard

/-- THE SECOND FORM's CARD OF 'socagetop.WholePaths'. -/
def wholePathsUptoCard : Claim7 := { stood := { row := wholePathsUptoRow, standIns := [], harness := (true, "2058dcd28649a0b313e40e41c9e467d079634c7da00188927c16449596b3cdab"), looks := true }, kinds := [], alts := [], laidByText := true, laidKinds := [.data, .pinned], laidTests := true, laidLooks := .later }
def WholePathsUptoCardSaid : Prop := Claim7.holds Tryz.pinned (.plain (OpenSpec.upto wholePathsSpec)) wholePathsUptoCard
end Rows
end Go.Proofs.YtdljogdegcmmiaaGreatDoor
