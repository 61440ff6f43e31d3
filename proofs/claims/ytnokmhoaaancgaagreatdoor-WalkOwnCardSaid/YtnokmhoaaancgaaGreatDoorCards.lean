/-
  DERIVED. GIVEN WITH THE SEED: THE CARDS: each row of YtnokmhoaaancgaaGreatDoorRows.lean that lists a variable, with what it lists TIED to the program's text (the seventh form; the later family's looks); each row that meets fmt, with fmt's text TOLD by the authors' own Lean function (tested against real Go, not proved from fmt's source: count such statements apart). THE CARD IS WHAT COUNTS. Prove the row's statement (the work); the ties are given (YtnokmhoaaancgaaGreatDoorTie.lean); close each card by the builder's one call (the guide's Derived/Test/ToyasCard.lean, 'card_holds'). Laid BY PROGRAM, IN A SANDBOX (cutbox-door.mjs). By AI agents, Wed Nov 11 2026. No macro, syntax, notation, axiom, sorry.
-/
import Derived.Test.YtnokmhoaaancgaaGreatDoorRows
import GoSem.ClaimSeven
namespace Go.Proofs.YtnokmhoaaancgaaGreatDoor
namespace Rows

/-- THE TIED CARD OF 'socagelaw11.WalkLeads'. -/
def walkLeadsCard : Claim7 := { stood := { row := walkLeadsRow, standIns := [], harness := (true, "a606419542e7adfa2858e41db90ba53ce2abf502bdb59c5dfc2cea8e92ccad4b"), looks := true }, kinds := [], alts := [], laidByText := true, laidKinds := [.data, .pinned], laidTests := true, laidLooks := .later }
def WalkLeadsCardSaid : Prop := Claim7.holds Tryz.pinned (.plain (OpenSpec.ofChange walkLeadsSpec)) walkLeadsCard

/-- THE TIED CARD OF 'socagelaw11.WalkSteps'. -/
def walkStepsCard : Claim7 := { stood := { row := walkStepsRow, standIns := [], harness := (true, "a606419542e7adfa2858e41db90ba53ce2abf502bdb59c5dfc2cea8e92ccad4b"), looks := true }, kinds := [], alts := [], laidByText := true, laidKinds := [.data, .pinned], laidTests := true, laidLooks := .later }
def WalkStepsCardSaid : Prop := Claim7.holds Tryz.pinned (.plain (OpenSpec.ofChange walkStepsSpec)) walkStepsCard

/-- THE TIED CARD OF 'socagelaw11.WalkOwn'. -/
def walkOwnCard : Claim7 := { stood := { row := walkOwnRow, standIns := [], harness := (true, "a606419542e7adfa2858e41db90ba53ce2abf502bdb59c5dfc2cea8e92ccad4b"), looks := true }, kinds := [], alts := [], laidByText := true, laidKinds := [.data, .pinned], laidTests := true, laidLooks := .later }
def WalkOwnCardSaid : Prop := Claim7.holds Tryz.pinned (.plain (OpenSpec.ofChange walkOwnSpec)) walkOwnCard

/-- THE TIED CARD OF 'socagelaw12.UnionDoes'. -/
def unionDoesCard : Claim7 := { stood := { row := unionDoesRow, standIns := [], harness := (true, "a606419542e7adfa2858e41db90ba53ce2abf502bdb59c5dfc2cea8e92ccad4b"), looks := true }, kinds := [], alts := [], laidByText := true, laidKinds := [.data, .pinned], laidTests := true, laidLooks := .later }
def UnionDoesCardSaid : Prop := Claim7.holds Tryz.pinned (.plain (OpenSpec.ofChange unionDoesSpec)) unionDoesCard

/-- THE TIED CARD OF 'socagelaw12.UnionLists'. -/
def unionListsCard : Claim7 := { stood := { row := unionListsRow, standIns := [], harness := (true, "a606419542e7adfa2858e41db90ba53ce2abf502bdb59c5dfc2cea8e92ccad4b"), looks := true }, kinds := [], alts := [], laidByText := true, laidKinds := [.data, .pinned], laidTests := true, laidLooks := .later }
def UnionListsCardSaid : Prop := Claim7.holds Tryz.pinned (.plain (OpenSpec.ofChange unionListsSpec)) unionListsCard

/-- THE TIED CARD OF 'socagelaw12.UnionParts'. -/
def unionPartsCard : Claim7 := { stood := { row := unionPartsRow, standIns := [], harness := (true, "a606419542e7adfa2858e41db90ba53ce2abf502bdb59c5dfc2cea8e92ccad4b"), looks := true }, kinds := [], alts := [], laidByText := true, laidKinds := [.data, .pinned], laidTests := true, laidLooks := .later }
def UnionPartsCardSaid : Prop := Claim7.holds Tryz.pinned (.plain (OpenSpec.ofChange unionPartsSpec)) unionPartsCard

/-- THE TIED CARD OF 'socagetop.WholePaths'. -/
def wholePathsCard : Claim7 := { stood := { row := wholePathsRow, standIns := [], harness := (true, "a606419542e7adfa2858e41db90ba53ce2abf502bdb59c5dfc2cea8e92ccad4b"), looks := true }, kinds := [], alts := [], laidByText := true, laidKinds := [.data, .pinned], laidTests := true, laidLooks := .later }
def WholePathsCardSaid : Prop := Claim7.holds Tryz.pinned (.plain (OpenSpec.ofChange wholePathsSpec)) wholePathsCard

/-- THE SECOND FORM's CARD OF 'socagelaw11.WalkLeads'. -/
def walkLeadsUptoCard : Claim7 := { stood := { row := walkLeadsUptoRow, standIns := [], harness := (true, "a606419542e7adfa2858e41db90ba53ce2abf502bdb59c5dfc2cea8e92ccad4b"), looks := true }, kinds := [], alts := [], laidByText := true, laidKinds := [.data, .pinned], laidTests := true, laidLooks := .later }
def WalkLeadsUptoCardSaid : Prop := Claim7.holds Tryz.pinned (.plain (OpenSpec.upto walkLeadsSpec)) walkLeadsUptoCard

/-- THE SECOND FORM's CARD OF 'socagelaw11.WalkSteps'. -/
def walkStepsUptoCard : Claim7 := { stood := { row := walkStepsUptoRow, standIns := [], harness := (true, "a606419542e7adfa2858e41db90ba53ce2abf502bdb59c5dfc2cea8e92ccad4b"), looks := true }, kinds := [], alts := [], laidByText := true, laidKinds := [.data, .pinned], laidTests := true, laidLooks := .later }
def WalkStepsUptoCardSaid : Prop := Claim7.holds Tryz.pinned (.plain (OpenSpec.upto walkStepsSpec)) walkStepsUptoCard

/-- THE SECOND FORM's CARD OF 'socagelaw11.WalkOwn'. -/
def walkOwnUptoCard : Claim7 := { stood := { row := walkOwnUptoRow, standIns := [], harness := (true, "a606419542e7adfa2858e41db90ba53ce2abf502bdb59c5dfc2cea8e92ccad4b"), looks := true }, kinds := [], alts := [], laidByText := true, laidKinds := [.data, .pinned], laidTests := true, laidLooks := .later }
def WalkOwnUptoCardSaid : Prop := Claim7.holds Tryz.pinned (.plain (OpenSpec.upto walkOwnSpec)) walkOwnUptoCard

/-- THE SECOND FORM's CARD OF 'socagelaw12.UnionDoes'. -/
def unionDoesUptoCard : Claim7 := { stood := { row := unionDoesUptoRow, standIns := [], harness := (true, "a606419542e7adfa2858e41db90ba53ce2abf502bdb59c5dfc2cea8e92ccad4b"), looks := true }, kinds := [], alts := [], laidByText := true, laidKinds := [.data, .pinned], laidTests := true, laidLooks := .later }
def UnionDoesUptoCardSaid : Prop := Claim7.holds Tryz.pinned (.plain (OpenSpec.upto unionDoesSpec)) unionDoesUptoCard

/-- THE SECOND FORM's CARD OF 'socagelaw12.UnionLists'. -/
def unionListsUptoCard : Claim7 := { stood := { row := unionListsUptoRow, standIns := [], harness := (true, "a606419542e7adfa2858e41db90ba53ce2abf502bdb59c5dfc2cea8e92ccad4b"), looks := true }, kinds := [], alts := [], laidByText := true, laidKinds := [.data, .pinned], laidTests := true, laidLooks := .later }
def UnionListsUptoCardSaid : Prop := Claim7.holds Tryz.pinned (.plain (OpenSpec.upto unionListsSpec)) unionListsUptoCard

/-- THE SECOND FORM's CARD OF 'socagelaw12.UnionParts'. -/
def unionPartsUptoCard : Claim7 := { stood := { row := unionPartsUptoRow, standIns := [], harness := (true, "a606419542e7adfa2858e41db90ba53ce2abf502bdb59c5dfc2cea8e92ccad4b"), looks := true }, kinds := [], alts := [], laidByText := true, laidKinds := [.data, .pinned], laidTests := true, laidLooks := .later }
def UnionPartsUptoCardSaid : Prop := Claim7.holds Tryz.pinned (.plain (OpenSpec.upto unionPartsSpec)) unionPartsUptoCard

/-- THE SECOND FORM's CARD OF 'socagetop.WholePaths'. -/
def wholePathsUptoCard : Claim7 := { stood := { row := wholePathsUptoRow, standIns := [], harness := (true, "a606419542e7adfa2858e41db90ba53ce2abf502bdb59c5dfc2cea8e92ccad4b"), looks := true }, kinds := [], alts := [], laidByText := true, laidKinds := [.data, .pinned], laidTests := true, laidLooks := .later }
def WholePathsUptoCardSaid : Prop := Claim7.holds Tryz.pinned (.plain (OpenSpec.upto wholePathsSpec)) wholePathsUptoCard
end Rows
end Go.Proofs.YtnokmhoaaancgaaGreatDoor
