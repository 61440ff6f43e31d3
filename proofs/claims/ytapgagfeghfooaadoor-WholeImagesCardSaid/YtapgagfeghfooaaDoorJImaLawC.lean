/- An image that is cut, or has more behind it, is none. Conditions: the node was read; the library's MaxLen holds a number. -/
import Derived.Test.YtapgagfeghfooaaDoorJImaSpeaks
import Derived.Test.YtapgagfeghfooaaDoorJH
namespace Go.Proofs.YtapgagfeghfooaaDoor.ima
set_option maxRecDepth 100000
open Go.RowKit Go.Proofs.YtapgagfeghfooaaDoor.words Go.Proofs.YtapgagfeghfooaaDoor.ext Go.Proofs.YtapgagfeghfooaaDoor.name Go.Proofs.YtapgagfeghfooaaDoor.tre

theorem extract_list (s : ByteArray) (k : Nat) : (s.extract 0 k).data.toList = s.data.toList.take k := by
  rw [ByteArray.data_extract, Array.toList_extract]
  simp
theorem decode_none {s : ByteArray} {m : Int} {w : World} (hm : w.cell? ⟨0, 0, none⟩ = some (.int .i64 m)) (hs : s.size ≤ 140737488355328)
    (hd : ∀ n c, nodeP 4097 0 (Lib.trimPrefix s.data.toList magic.data.toList) = some (n, [], c) → depth n ≤ 1000) (hn : decB s = none) :
    Calls Tryd.prog 6 #[.string s] w fun e w' => e = .returned (.tuple #[ndV nd0 raw0, .int .i64 1]) ∧ Below w.heap.size w w' := by
  refine (decode_any s m w hm hs hd).mono ?_
  rintro e w' ⟨⟨n, r, h, _⟩ | ⟨_, he⟩, hb⟩
  · rw [hn] at h
    cases h
  · exact ⟨he, hb⟩
theorem decL_no {l : List UInt8} (h : ∀ m c, nodeP 4097 0 l ≠ some (m, [], c)) : decL l = none := by
  rcases hd : nodeP 4097 0 l with _ | ⟨n, l', c⟩
  · exact decL_none1 hd
  · rcases l' with _ | ⟨x, l'⟩
    · exact absurd hd (h n c)
    · exact decL_none2 hd (by simp)
/-- Of an image that is cut. -/
theorem cut_none {n : Nd} {k : Nat} (h : treeB n = true) (hc : count n ≤ 4096) (hk : k < (imgB n).size) :
    decB ((imgB n).extract 0 k) = none ∧ ∀ x c, nodeP 4097 0 (Lib.trimPrefix ((imgB n).extract 0 k).data.toList magic.data.toList) = some (x, [], c) → depth x ≤ 1000 := by
  have hl : ((imgB n).extract 0 k).data.toList = (magic.data.toList ++ nb n).take k := by rw [extract_list, imgB_list]
  have hz := imgB_size n
  have hm7 : magic.data.toList.length = 7 := rfl
  rcases Nat.lt_or_ge k 7 with h7 | h7
  · have hp : Lib.hasPrefix ((imgB n).extract 0 k).data.toList magic.data.toList = false := by
      rcases hp : Lib.hasPrefix ((imgB n).extract 0 k).data.toList magic.data.toList with _ | _
      · rfl
      · have := (List.isPrefixOf_iff_prefix.1 hp).length_le
        rw [hl, List.length_take, hm7] at this
        omega
    refine ⟨by unfold decB; rw [hp, if_neg (fun h => by cases h.1)], fun x c hx => ?_⟩
    have h1 := nodeP_inv 4097 _ _ _ _ _ hx
    have h2 : (Lib.trimPrefix ((imgB n).extract 0 k).data.toList magic.data.toList).length < 7 := by
      unfold Lib.trimPrefix
      rw [hp]
      show (((imgB n).extract 0 k).data.toList).length < 7
      rw [hl, List.length_take]
      omega
    rw [h1.1, List.length_append] at h2
    have := h1.2
    omega
  · have e : (magic.data.toList ++ nb n).take k = magic.data.toList ++ (nb n).take (k - 7) := by
      rw [List.take_append, hm7, List.take_of_length_le (by rw [hm7]; exact h7)]
    have ht : Lib.trimPrefix ((imgB n).extract 0 k).data.toList magic.data.toList = (nb n).take (k - 7) := by rw [hl, e, trimPrefix_app]
    have hcut := decL_cut h hc (List.take_append_drop (k - 7) (nb n)) (by
      intro h0
      have := congrArg List.length h0
      rw [List.length_drop] at this
      simp at this
      omega)
    refine ⟨?_, fun x c hx => ?_⟩
    · unfold decB
      rw [ht]
      split
      · exact decL_no hcut
      · rfl
    · rw [ht] at hx
      exact absurd hx (hcut x c)
/-- Of an image with more behind it. -/
theorem more_none {n : Nd} {r : ByteArray} (h : treeB n = true) (hc : count n ≤ 4096) (hr : r.size ≠ 0) :
    decB (imgB n ++ r) = none ∧ ∀ x c, nodeP 4097 0 (Lib.trimPrefix (imgB n ++ r).data.toList magic.data.toList) = some (x, [], c) → depth x ≤ 1000 := by
  have ht : Lib.trimPrefix (imgB n ++ r).data.toList magic.data.toList = nb n ++ r.data.toList := by
    rw [ByteArray.data_append, Array.toList_append, imgB_list, List.append_assoc, trimPrefix_app]
  have hm := decL_more (n := n) (r := r.data.toList) h hc (by
    intro h0
    have := congrArg List.length h0
    rw [ext.size_list] at this
    exact hr this)
  refine ⟨?_, fun x c hx => ?_⟩
  · unfold decB
    rw [ht]
    split
    · exact decL_no hm
    · rfl
  · rw [ht] at hx
    exact absurd hx (hm x c)
theorem not_empty {q : ByteArray} (h : 0 < q.size) : q.toList.isEmpty = false := by
  rw [List.isEmpty_eq_false_iff]
  intro e
  have : q.toList.length = 0 := by rw [e]; rfl
  rw [ext.to_list, ext.size_list] at this
  omega
theorem imgB_pos (n : Nd) : 0 < (imgB n).size := by rw [imgB_size]; omega
end Go.Proofs.YtapgagfeghfooaaDoor.ima
