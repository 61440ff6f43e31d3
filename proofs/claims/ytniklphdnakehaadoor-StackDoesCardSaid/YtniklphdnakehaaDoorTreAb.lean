/- Three short texts, and directories of one or two entries. Condition: what they are made of was read. -/
import Derived.Test.YtniklphdnakehaaDoorTreMakes
namespace Go.Proofs.YtniklphdnakehaaDoor.tre
set_option maxRecDepth 100000
open Go.RowKit Go.Proofs.YtniklphdnakehaaDoor.words Go.Proofs.YtniklphdnakehaaDoor.ext Go.Proofs.YtniklphdnakehaaDoor.name

def ab : ByteArray := ⟨#[97]⟩
def bb : ByteArray := ⟨#[98]⟩
def xb : ByteArray := ⟨#[120]⟩
def As (n : Nd) (v : Raw → Value) (w : World) (e : Ending) (w' : World) : Prop := ∃ r', e = .returned (v r') ∧ NdAt w' w'.heap.size n r' ∧ Below w.heap.size w w'
theorem Built.as {n : Nd} {w w' : World} {e : Ending} {v : Raw → Value} (hv : ∀ r, ndV n r = v r) (h : Built n w e w') : As n v w e w' := by
  obtain ⟨r', h1, h2, h3⟩ := h
  exact ⟨r', by rw [h1, hv], h2, h3⟩
theorem txts_two (w : World) (a b : ByteArray) (ha : a.size ≤ 140737488355328) (hb : b.size ≤ 140737488355328) :
    Txts (w.alloc (.cells #[.string a, .string b] 9)) (w.alloc (.cells #[.string a, .string b] 9)).heap.size (some ⟨w.heap.size, 0, none⟩) [a, b] := fun i x hx => by
  have hlt := (List.getElem?_eq_some_iff.1 hx).1
  have : i = 0 ∨ i = 1 := by simp at hlt; omega
  rcases this with rfl | rfl
  · obtain rfl : a = x := by simpa using hx
    exact ⟨⟨w.heap.size, 0, rfl, by simp, by simp⟩, ha⟩
  · obtain rfl : b = x := by simpa using hx
    exact ⟨⟨w.heap.size, 0, rfl, by simp, by simp⟩, hb⟩
def pick2 (rx ry : Raw) : Nat → Raw
  | 0 => rx
  | _ + 1 => ry
theorem pair_dir (a b : ByteArray) (x y : Nd) (rx ry : Raw) (t : Nat) (w3 W4 : World) (hW4 : W4 = w3.alloc (.cells ((rawCells x rx).toList ++ ((rawCells y ry).toList ++ [])).toArray 27)) (hT : Txts W4 W4.heap.size (some ⟨t, 0, none⟩) [a, b])
    (hx : NdAt w3 w3.heap.size x rx) (hy : NdAt w3 w3.heap.size y ry) :
    Calls Tryd.prog 29 #[.slice (some ⟨t, 0, none⟩) 2 2, .slice (some ⟨w3.heap.size, 0, none⟩) 2 2] W4 (Built (dirN [a, b] [x, y]) W4) := by
  have hb : Below w3.heap.size w3 W4 := by rw [hW4]; exact (Below.refl _ _).alloc (Nat.le_refl _) _
  have hblk : W4.heap[w3.heap.size]? = some (.cells ((rawCells x rx).toList ++ ((rawCells y ry).toList ++ [])).toArray 27 (0, 0)) := by rw [hW4]; exact heap_alloc_new w3 _
  refine dir_any (some ⟨t, 0, none⟩) (some ⟨w3.heap.size, 0, none⟩) 2 2 [a, b] [x, y] (pick2 rx ry) W4 hT (fun j u hu => ?_) (fun i z hz => ?_) (show 2 * 16 ≤ 140737488355328 by decide) (show 2 * 112 ≤ 140737488355328 by decide) (fun h => by cases h) (fun h => by cases h)
  · refine ⟨w3.heap.size, 0, rfl, lt_of_some hblk, ?_⟩
    rw [Nat.zero_add]
    have hu' : ((rawCells x rx).toList ++ ((rawCells y ry).toList ++ []))[j]? = some u := hu
    unfold World.cell?
    rw [hblk]
    simpa using hu'
  · have hlt := (List.getElem?_eq_some_iff.1 hz).1
    have : i = 0 ∨ i = 1 := by simp at hlt; omega
    rcases this with rfl | rfl
    · obtain rfl : x = z := by simpa using hz
      exact hx.later hb
    · obtain rfl : y = z := by simpa using hz
      exact hy.later hb
theorem txts_one (w : World) (a : ByteArray) (ha : a.size ≤ 140737488355328) :
    Txts (w.alloc (.cells #[.string a] 9)) (w.alloc (.cells #[.string a] 9)).heap.size (some ⟨w.heap.size, 0, none⟩) [a] := fun i x hx => by
  have hlt := (List.getElem?_eq_some_iff.1 hx).1
  have : i = 0 := by simp at hlt; omega
  subst this
  obtain rfl : a = x := by simpa using hx
  exact ⟨⟨w.heap.size, 0, rfl, by simp, by simp⟩, ha⟩
theorem one_dir (a : ByteArray) (x : Nd) (rx : Raw) (t : Nat) (w3 W4 : World) (hW4 : W4 = w3.alloc (.cells (rawCells x rx) 27)) (hT : Txts W4 W4.heap.size (some ⟨t, 0, none⟩) [a]) (hx : NdAt w3 w3.heap.size x rx) :
    Calls Tryd.prog 29 #[.slice (some ⟨t, 0, none⟩) 1 1, .slice (some ⟨w3.heap.size, 0, none⟩) 1 1] W4 (Built (dirN [a] [x]) W4) := by
  have hb : Below w3.heap.size w3 W4 := by rw [hW4]; exact (Below.refl _ _).alloc (Nat.le_refl _) _
  have hblk : W4.heap[w3.heap.size]? = some (.cells (rawCells x rx) 27 (0, 0)) := by rw [hW4]; exact heap_alloc_new w3 _
  refine dir_any (some ⟨t, 0, none⟩) (some ⟨w3.heap.size, 0, none⟩) 1 1 [a] [x] (fun _ => rx) W4 hT (fun j u hu => ?_) (fun i z hz => ?_) (show 1 * 16 ≤ 140737488355328 by decide) (show 1 * 112 ≤ 140737488355328 by decide) (fun h => by cases h) (fun h => by cases h)
  · refine ⟨w3.heap.size, 0, rfl, lt_of_some hblk, ?_⟩
    rw [Nat.zero_add]
    have hu' : ((rawCells x rx).toList ++ [])[j]? = some u := hu
    rw [List.append_nil] at hu'
    unfold World.cell?
    rw [hblk]
    simpa using hu'
  · have hlt := (List.getElem?_eq_some_iff.1 hz).1
    have : i = 0 := by simp at hlt; omega
    subst this
    obtain rfl : x = z := by simpa using hz
    exact hx.later hb
end Go.Proofs.YtniklphdnakehaaDoor.tre
