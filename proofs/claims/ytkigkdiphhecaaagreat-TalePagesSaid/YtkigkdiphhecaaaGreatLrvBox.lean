/- A block whose cells are all written, one behind the other ('setsV'). No program, no condition. -/
import Derived.Test.YtkigkdiphhecaaaGreatLruRow
namespace Go.Proofs.YtkigkdiphhecaaaGreat.lru
set_option maxRecDepth 100000
open Go.RowKit Go.Proofs.YtkigkdiphhecaaaGreat.words

/-- The cells of block b from o on, written one behind the other. -/
def setsV (w : World) (b : Nat) : Nat → List Value → World
  | _, [] => w
  | o, v :: vs => setsV (w.setCell ⟨b, o, none⟩ v) b (o + 1) vs
theorem setsV_other (b k : Nat) (hk : k ≠ b) : ∀ (vs : List Value) (o : Nat) (w : World), (setsV w b o vs).heap[k]? = w.heap[k]?
  | [], _, _ => rfl
  | v :: vs, o, w => (setsV_other b k hk vs (o + 1) _).trans (Below.heap_setCell w ⟨b, o, none⟩ v k hk)
theorem setsV_tn (b : Nat) {S : Nat → Prop} {a : World} (hb : a.heap.size ≤ b ∨ S b) : ∀ (vs : List Value) (o : Nat) (w : World), Tn S a w → Tn S a (setsV w b o vs)
  | [], _, _, h => h
  | v :: vs, o, _, h => setsV_tn b hb vs (o + 1) _ (h.setCell (p := ⟨b, o, none⟩) hb v)
theorem setsV_blk {t : TypeId} (b : Nat) : ∀ (vs : List Value) (o : Nat) (w : World) (cur : List Value), w.heap[b]? = some (.cells cur.toArray t (0, 0)) → o + vs.length ≤ cur.length →
    (setsV w b o vs).heap[b]? = some (.cells (cur.take o ++ vs ++ cur.drop (o + vs.length)).toArray t (0, 0))
  | [], o, w, cur, h, _ => by simpa [setsV] using h
  | v :: vs, o, w, cur, h, hl => by
    have hs : (w.setCell ⟨b, o, none⟩ v).heap[b]? = some (.cells (cur.set o v).toArray t (0, 0)) := by
      have := heap_setCell_same w b o cur.toArray t v h
      rw [this]
      simp
    have := setsV_blk b vs (o + 1) _ _ hs (by rw [List.length_set]; simp at hl; omega)
    unfold setsV
    rw [this]
    congr 3
    have ho : o < cur.length := by simp at hl; omega
    apply List.ext_getElem?
    intro j
    rw [List.drop_set_of_lt (by omega), List.take_set, List.length_cons]
    have e1 : (cur.take (o + 1)).set o v = cur.take o ++ [v] := by
      rw [List.take_succ_eq_append_getElem ho, List.set_append_right _ _ (by simp [Nat.min_eq_left (Nat.le_of_lt ho)])]
      simp [Nat.min_eq_left (Nat.le_of_lt ho)]
    rw [e1, show o + 1 + vs.length = o + (vs.length + 1) by omega]
    simp
/-- All of a block's cells are written. -/
theorem setsV_all {t : TypeId} {b : Nat} {vs : List Value} {w : World} {cur : Array Value} (h : w.heap[b]? = some (.cells cur t (0, 0))) (hl : vs.length = cur.size) : (setsV w b 0 vs).heap[b]? = some (.cells vs.toArray t (0, 0)) := by
  have := setsV_blk (t := t) b vs 0 w cur.toList (by simpa using h) (by simp; omega)
  rw [this]
  congr 2
  simp [hl]
end Go.Proofs.YtkigkdiphhecaaaGreat.lru
