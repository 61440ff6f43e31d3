/-
  DERIVED. GIVEN WITH THE SEED: THE CARDS: each row of YtcoimjbhoiipoaaGreatDoorRows.lean that lists a variable, with what it lists TIED to the program's text (the seventh form; the later family's looks); each row that meets fmt, with fmt's text TOLD by the authors' own Lean function (tested against real Go, not proved from fmt's source: count such statements apart). THE CARD IS WHAT COUNTS. Prove the row's statement (the work); the ties are given (YtcoimjbhoiipoaaGreatDoorTie.lean); close each card by the builder's one call (the guide's Derived/Test/ToyasCard.lean, 'card_holds'). Laid BY PROGRAM, IN A SANDBOX (cutbox-door.mjs). By AI agents, Wed Nov 11 2026. No macro, syntax, notation, axiom, sorry.
-/
import Derived.Test.YtcoimjbhoiipoaaGreatDoorRows
import GoSem.ClaimSeven
namespace Go.Proofs.YtcoimjbhoiipoaaGreatDoor
namespace Rows

/-- THE TIED CARD OF 'socagelaw25.ScriptStacks'. -/
def scriptStacksCard : Claim7 := { stood := { row := scriptStacksRow, standIns := [], harness := (true, "e2a81d751336d33a03257635fd830192e6b74185b9513babb5163e4e96de5c57"), looks := true }, kinds := [], alts := [], laidByText := true, laidKinds := [.data, .data, .data, .data, .sentinel, .sentinel, .data, .pinned], laidTests := true, laidLooks := .later }
def ScriptStacksCardSaid : Prop := Claim7.holds Tryz.pinned (.plain (OpenSpec.ofChange scriptStacksSpec)) scriptStacksCard

/-- THE SECOND FORM's CARD OF 'socagelaw25.ScriptStacks'. -/
def scriptStacksUptoCard : Claim7 := { stood := { row := scriptStacksUptoRow, standIns := [], harness := (true, "e2a81d751336d33a03257635fd830192e6b74185b9513babb5163e4e96de5c57"), looks := true }, kinds := [], alts := [], laidByText := true, laidKinds := [.data, .data, .data, .data, .sentinel, .sentinel, .data, .pinned], laidTests := true, laidLooks := .later }
def ScriptStacksUptoCardSaid : Prop := Claim7.holds Tryz.pinned (.plain (OpenSpec.upto scriptStacksSpec)) scriptStacksUptoCard
end Rows
end Go.Proofs.YtcoimjbhoiipoaaGreatDoor
