/-
  DERIVED. GIVEN WITH THE SEED: THE CARDS: each row of YtckjkndegjklnaaGreatDoorRows.lean that lists a variable, with what it lists TIED to the program's text (the seventh form; the later family's looks); each row that meets fmt, with fmt's text TOLD by the authors' own Lean function (tested against real Go, not proved from fmt's source: count such statements apart). THE CARD IS WHAT COUNTS. Prove the row's statement (the work); the ties are given (YtckjkndegjklnaaGreatDoorTie.lean); close each card by the builder's one call (the guide's Derived/Test/ToyasCard.lean, 'card_holds'). Laid BY PROGRAM, IN A SANDBOX (cutbox-door.mjs). By AI agents, Wed Nov 11 2026. No macro, syntax, notation, axiom, sorry.
-/
import Derived.Test.YtckjkndegjklnaaGreatDoorRows
import GoSem.ClaimSeven
namespace Go.Proofs.YtckjkndegjklnaaGreatDoor
namespace Rows

/-- THE TIED CARD OF 'socagelaw21.ServerLocks'. -/
def serverLocksCard : Claim7 := { stood := { row := serverLocksRow, standIns := [], harness := (true, "702e5126c4c84a4f812d048bc2143946cf8db5d888d92c5fc3440670b39509a9"), looks := true }, kinds := [], alts := [], laidByText := true, laidKinds := [.data, .pinned], laidTests := true, laidLooks := .later }
def ServerLocksCardSaid : Prop := Claim7.holds Tryz.pinned (.plain (OpenSpec.ofChange serverLocksSpec)) serverLocksCard

/-- THE TIED CARD OF 'socagelaw21.ServerSees'. -/
def serverSeesCard : Claim7 := { stood := { row := serverSeesRow, standIns := [], harness := (true, "702e5126c4c84a4f812d048bc2143946cf8db5d888d92c5fc3440670b39509a9"), looks := true }, kinds := [], alts := [], laidByText := true, laidKinds := [.data, .pinned], laidTests := true, laidLooks := .later }
def ServerSeesCardSaid : Prop := Claim7.holds Tryz.pinned (.plain (OpenSpec.ofChange serverSeesSpec)) serverSeesCard

/-- THE TIED CARD OF 'socagelaw21.ServerLists'. -/
def serverListsCard : Claim7 := { stood := { row := serverListsRow, standIns := [], harness := (true, "702e5126c4c84a4f812d048bc2143946cf8db5d888d92c5fc3440670b39509a9"), looks := true }, kinds := [], alts := [], laidByText := true, laidKinds := [.data, .pinned], laidTests := true, laidLooks := .later }
def ServerListsCardSaid : Prop := Claim7.holds Tryz.pinned (.plain (OpenSpec.ofChange serverListsSpec)) serverListsCard

/-- THE SECOND FORM's CARD OF 'socagelaw21.ServerLocks'. -/
def serverLocksUptoCard : Claim7 := { stood := { row := serverLocksUptoRow, standIns := [], harness := (true, "702e5126c4c84a4f812d048bc2143946cf8db5d888d92c5fc3440670b39509a9"), looks := true }, kinds := [], alts := [], laidByText := true, laidKinds := [.data, .pinned], laidTests := true, laidLooks := .later }
def ServerLocksUptoCardSaid : Prop := Claim7.holds Tryz.pinned (.plain (OpenSpec.upto serverLocksSpec)) serverLocksUptoCard

/-- THE SECOND FORM's CARD OF 'socagelaw21.ServerSees'. -/
def serverSeesUptoCard : Claim7 := { stood := { row := serverSeesUptoRow, standIns := [], harness := (true, "702e5126c4c84a4f812d048bc2143946cf8db5d888d92c5fc3440670b39509a9"), looks := true }, kinds := [], alts := [], laidByText := true, laidKinds := [.data, .pinned], laidTests := true, laidLooks := .later }
def ServerSeesUptoCardSaid : Prop := Claim7.holds Tryz.pinned (.plain (OpenSpec.upto serverSeesSpec)) serverSeesUptoCard

/-- THE SECOND FORM's CARD OF 'socagelaw21.ServerLists'. -/
def serverListsUptoCard : Claim7 := { stood := { row := serverListsUptoRow, standIns := [], harness := (true, "702e5126c4c84a4f812d048bc2143946cf8db5d888d92c5fc3440670b39509a9"), looks := true }, kinds := [], alts := [], laidByText := true, laidKinds := [.data, .pinned], laidTests := true, laidLooks := .later }
def ServerListsUptoCardSaid : Prop := Claim7.holds Tryz.pinned (.plain (OpenSpec.upto serverListsSpec)) serverListsUptoCard
end Rows
end Go.Proofs.YtckjkndegjklnaaGreatDoor
