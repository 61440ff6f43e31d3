/- What extent.Read answers of extents that are right: the bytes of the document. Conditions: the numbers are ints. -/
import Derived.Test.YtapgagfeghfooaaDoorJExtLay
import Derived.Lib.BufferRead
import Derived.Laws.MakeOwn
import Derived.Laws.Small
namespace Go.Proofs.YtapgagfeghfooaaDoor.ext
set_option maxRecDepth 100000
open Go.RowKit Go.Proofs.YtapgagfeghfooaaDoor.words

theorem Exts.cut {w : World} {B : Nat} {A : Option Addr} {L : List Ex} {cap : Nat} (h : Exts w B A L) (i : Nat) (hc : L.length ≤ cap) : Exts w B (if cap = i then A else A.map (·.add (i * 2))) (L.drop i) := fun j x hx => by
  rw [List.getElem?_drop] at hx
  have hlt : i + j < L.length := (List.getElem?_eq_some_iff.1 hx).1
  obtain ⟨⟨b, off, hA, hB, c0, c1⟩, h1⟩ := h (i + j) x hx
  subst hA
  rw [if_neg (by omega)]
  have add0 : (⟨b, off, none⟩ : Addr).add (i * 2) = ⟨b, off + i * 2, none⟩ := by
    unfold Addr.add
    split <;> simp_all
  rw [show off + (i + j) * 2 = off + i * 2 + j * 2 by omega] at c0 c1
  exact ⟨⟨b, off + i * 2, by rw [Option.map_some, add0], hB, c0, c1⟩, h1⟩
theorem infoExt : (Tryd.prog.info? 58).map (fun i => (i.zero, i.size, i.bytes)) = some (some (.agg #[.int .i64 0, .string ⟨#[]⟩]), 2, 24) := by kernel_rfl
theorem infoByte : (Tryd.prog.info? 5).map (fun i => (i.zero, i.size, i.bytes)) = some (some (.int .u8 0), 1, 1) := by kernel_rfl
theorem run_cut (A : Option Addr) (n cap i : Nat) (h : i ≤ n) (wx : World) :
    (Instr.slice 25 (.slice A n cap) (some (.int .i64 (i : Int))) none none).run Tryd.prog wx = .ok (.slice (if cap = i then A else A.map (·.add (i * 2))) (n - i) (cap - i)) wx := by
  obtain ⟨i0, hi, hz0, hz1, hz2⟩ := info_parts infoExt
  have he : Tryd.prog.elem 25 = 58 := by kernel_rfl
  rw [run_slice_l (P := Tryd.prog) wx 25 A n cap (by kernel_rfl) .i64 (i : Int) (by omega) (by omega), he]
  simp [sizeOf, typeInfo, hi, hz1, Result.andThen, sliced]
theorem Buf.conv {w : World} {g : Nat} {l : List UInt8} (h : Buf w g l) {m : Nat} (hm : l.length = m) (hm2 : m ≤ 1048576) :
    (convert 59 9 (.slice (some ⟨g, 0, none⟩) m m)).run Tryd.prog w = .ok (.string ⟨l.toArray⟩) w := by
  subst hm
  refine run_convert_bytes_back (P := Tryd.prog) w 59 9 5 ⟨g, 0, none⟩ l.length l Tryd.underlying59 Tryd.underlying5 Tryd.underlying9
    (Lib.bytes_of_row h (by simp only []; rw [List.take_of_length_le (by rw [Lib.byteCells_length]; exact Nat.le_refl _)]))
theorem lay_read {L : List Ex} (hp : L.Pairwise fun x y => x.O + (x.D.size : Int) ≤ y.O) {off : Int} {m k : Nat} {x : Ex} (hx : L[k]? = some x) : layB (readL (L.take k) off m) off x = readL (L.take (k + 1)) off m := by
  refine List.ext_getElem? fun i => ?_
  by_cases hi : i < m
  · rw [layB_at (by rw [readL_length]; exact hi), readL_at hi, atB_more hp hx, List.getD_eq_getElem?_getD, readL_at hi]
    rfl
  · rw [List.getElem?_eq_none (by rw [layB_length, readL_length]; omega), List.getElem?_eq_none (by rw [readL_length]; omega)]

end Go.Proofs.YtapgagfeghfooaaDoor.ext
