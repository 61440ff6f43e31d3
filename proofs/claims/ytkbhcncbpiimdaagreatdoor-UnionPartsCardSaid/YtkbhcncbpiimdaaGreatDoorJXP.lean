/- That walk speaks: a link to itself, a file, and a link to that. Condition: the library's MaxLen holds a number. -/
import Derived.Test.YtkbhcncbpiimdaaGreatDoorJXJ
import Derived.Test.YtkbhcncbpiimdaaGreatDoorJH2
namespace Go.Proofs.YtkbhcncbpiimdaaGreatDoor.wlk
set_option maxRecDepth 100000
open Go.RowKit Go.Proofs.YtkbhcncbpiimdaaGreatDoor.words Go.Proofs.YtkbhcncbpiimdaaGreatDoor.ext Go.Proofs.YtkbhcncbpiimdaaGreatDoor.name Go.Proofs.YtkbhcncbpiimdaaGreatDoor.tre Go.Proofs.YtkbhcncbpiimdaaGreatDoor.stk Go.Proofs.YtkbhcncbpiimdaaGreatDoor.seen

def sb : ByteArray := ⟨#[47, 98]⟩
def spT : Nd := dirN [ab, bb, cb] [linkN ab, textN seen.xb, linkN sb]
theorem ab_dd : ab ≠ dd := by decide
theorem trees_1 {w W : World} {x : Nd} {rx : Raw} (hW : W = w.alloc (.cells (rawCells x rx) 99)) (hx : NdAt w w.heap.size x rx) : Trees W W.heap.size (some ⟨w.heap.size, 0, none⟩) [x] (fun _ => rx) := by
  have hb : Below w.heap.size w W := by rw [hW]; exact (Below.refl _ _).alloc (Nat.le_refl _) _
  have hk : W.heap[w.heap.size]? = some (.cells (rawCells x rx) 99 (0, 0)) := by rw [hW]; exact heap_alloc_new w _
  intro i z hz
  rcases i with _ | i
  · obtain rfl : x = z := by simpa using hz
    refine ⟨⟨_, 0, rfl, lt_of_some hk, fun j v hj => ?_⟩, hx.later hb⟩
    rw [cell_of_blk hk, show 0 + 0 * 7 + j = j by omega]
    exact hj
  · simp at hz
/-- The stack, in memory. -/
structure SpM (w : World) (A : Option Addr) (c : Nat) (g : Nat) (L : List (Nat × Int)) : Prop where
  stk : StkM w A L (tabs [spT])
  len : L.length = 1
  box : w.heap[g]? = some (.cells #[.slice A 1 c, .int .i64 1] 27 (0, 0))
theorem SpM.later {w w' : World} {A : Option Addr} {c g : Nat} {L : List (Nat × Int)} (h : SpM w A c g L) (hb : Below w.heap.size w w') : SpM w' A c g L :=
  ⟨h.stk.later hb, h.len, (hb.block _ (lt_of_some h.box)).trans h.box⟩
end Go.Proofs.YtkbhcncbpiimdaaGreatDoor.wlk
