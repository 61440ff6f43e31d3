/-
  DERIVED. GIVEN WITH THE SEED: THE CARDS: each row of YtkjpgheealfedaaGreatDoorRows.lean that lists a variable, with what it lists TIED to the program's text (the seventh form; the later family's looks); each row that meets fmt, with fmt's text TOLD by the authors' own Lean function (tested against real Go, not proved from fmt's source: count such statements apart). THE CARD IS WHAT COUNTS. Prove the row's statement (the work); the ties are given (YtkjpgheealfedaaGreatDoorTie.lean); close each card by the builder's one call (the guide's Derived/Test/ToyasCard.lean, 'card_holds'). Laid BY PROGRAM, IN A SANDBOX (cutbox-door.mjs). By AI agents, Wed Nov 11 2026. No macro, syntax, notation, axiom, sorry.
-/
import Derived.Test.YtkjpgheealfedaaGreatDoorRows
import GoSem.ClaimSeven
namespace Go.Proofs.YtkjpgheealfedaaGreatDoor
namespace Rows

/-- THE TIED CARD OF 'socagelaw21.ServerLists'. -/
def serverListsCard : Claim7 := { stood := { row := serverListsRow, standIns := [], harness := (true, "63a13b85221090f94bb010b2c1474a0b8dd0aa6dd7e357631ee79ac7a0ac9a99"), looks := true }, kinds := [], alts := [], laidByText := true, laidKinds := [.data, .pinned], laidTests := true, laidLooks := .later }
def ServerListsCardSaid : Prop := Claim7.holds Tryz.pinned (.plain (OpenSpec.ofChange serverListsSpec)) serverListsCard

/-- THE SECOND FORM's CARD OF 'socagelaw21.ServerLists'. -/
def serverListsUptoCard : Claim7 := { stood := { row := serverListsUptoRow, standIns := [], harness := (true, "63a13b85221090f94bb010b2c1474a0b8dd0aa6dd7e357631ee79ac7a0ac9a99"), looks := true }, kinds := [], alts := [], laidByText := true, laidKinds := [.data, .pinned], laidTests := true, laidLooks := .later }
def ServerListsUptoCardSaid : Prop := Claim7.holds Tryz.pinned (.plain (OpenSpec.upto serverListsSpec)) serverListsUptoCard
end Rows
end Go.Proofs.YtkjpgheealfedaaGreatDoor
