/- What the image's reference reads of a directory whose head is none. Condition: a text of a hundred thousand bytes at most. -/
import Derived.Test.YtapgagfeghfooaaDoorJImaGetJoin
namespace Go.Proofs.YtapgagfeghfooaaDoor.ima
set_option maxRecDepth 100000
open Go.RowKit Go.Proofs.YtapgagfeghfooaaDoor.words Go.Proofs.YtapgagfeghfooaaDoor.ext Go.Proofs.YtapgagfeghfooaaDoor.name Go.Proofs.YtapgagfeghfooaaDoor.tre

theorem numB_one {s : ByteArray} (h : 1 < s.size) : numB s 1 1 = (s[1].toNat : Int) := by
  have hl : s.data.toList.length = s.size := rfl
  rw [numB_yes (by omega)]
  have h2 : (s.data.toList.drop 1).take 1 = [s[1]] := by
    have h3 : s.data.toList[1]? = some s[1] := by
      rw [Array.getElem?_toList]
      exact Array.getElem?_eq_getElem (by exact h)
    have h4 : 1 < s.data.toList.length := by omega
    rw [List.getElem?_eq_getElem h4] at h3
    rw [List.drop_eq_getElem_cons h4, List.take_succ_cons, List.take_zero]
    congr 1
  rw [h2]
  simp [num]
set_option maxHeartbeats 6400000 in
theorem get_dir_no (s : ByteArray) (d : Int) (w : World) (h1 : ¬ 15 < d) (h2 : 0 < s.size) (hkk : s[0].toNat = 2) (hno : numB s 2 2 < 0 ∨ 1 < numB s 1 1) :
    Calls Tryd.prog 23 #[.string s, .int .i64 d] w fun e w' => e = .returned gotN ∧ Below w.heap.size w w' := by
  obtain ⟨q, hq⟩ : ∃ q, numB s 2 2 = q := ⟨_, rfl⟩
  have hqb := numB_bounds s 2 2 (by decide)
  obtain ⟨W2, hW2⟩ : ∃ W2, W2 = (w.alloc (.cells got0 54)).alloc (.cells gotM 54) := ⟨_, rfl⟩
  have hG : GotM w w.heap.size W2 := by rw [hW2]; exact GotM.start w
  have HG := Lib.hid hG
  obtain ⟨g, hg⟩ : ∃ g, g = w.heap.size := ⟨_, rfl⟩
  have hs2 : W2.heap.size = w.heap.size + 2 := by rw [hW2]; simp
  unfold got0 gotM at hW2
  have HW2 := Lib.hid hW2
  clear hG hW2
  go_enter Tryd.func23, Tryd.ntmps23
  go_upto_region 2 with fail
  rw [← HW2.out]
  rw [← hg] at HG hs2 ⊢
  clear HW2 hg
  have l1 : ¬ (s.size : Int) < 1 := by omega
  have l2 : (0 : Int) < (s.size : Int) := by omega
  have hu : (s[0].toNat : Int) < 256 := by have := s[0].toNat_lt; omega
  go_upto_region 6 with fail
  obtain ⟨W3, hW3⟩ : ∃ W3, W3 = W2.alloc (.cells #[.int .i64 2, .bool false, .slice none 0 0, .slice none 0 0, .int .i64 0, .slice none 0 0, .string ⟨#[]⟩] 27) := ⟨_, rfl⟩
  rw [← hW3]
  have hb3 : Below W2.heap.size W2 W3 := by rw [hW3]; exact (Below.refl _ _).alloc (Nat.le_refl _) _
  have hk3 : W3.heap[W2.heap.size]? = some (.cells #[.int .i64 2, .bool false, .slice none 0 0, .slice none 0 0, .int .i64 0, .slice none 0 0, .string ⟨#[]⟩] 27 (0, 0)) := by rw [hW3]; exact heap_alloc_new W2 _
  rw [hs2] at hk3
  replace HG := Lib.hid (HG.out.later hb3)
  have HK := Lib.hid hk3
  clear hW3 hb3 hk3 hs2 hu
  clear hkk
  have HN1 := Lib.hid (show Calls Tryd.prog 49 #[.string s, .int .i64 2, .int .i64 2] W3 _ from number_any s 2 2 W3 (by decide) (by decide))
  rw [hq] at HN1 hqb hno
  obtain ⟨hq0, hq1⟩ := hqb
  have HQ := Lib.hid hq
  have HNo := Lib.hid hno
  clear hq hno
  have b0 := cell_of_blk HK.out 0
  have b1 := cell_of_blk HK.out 1
  have b2 := cell_of_blk HK.out 2
  have b3 := cell_of_blk HK.out 3
  have b4 := cell_of_blk HK.out 4
  have b5 := cell_of_blk HK.out 5
  have b6 := cell_of_blk HK.out 6
  obtain ⟨n0, n1, n2, n3, n4, n5, n6, n7⟩ := HG.out.nons
  obtain ⟨a0, a1, a2, a3, a4, a5, a6, a7⟩ := HG.out.anss
  have z0 := HG.out.free 0
  have z1 := HG.out.free 1
  have z2 := HG.out.free 2
  have z3 := HG.out.free 3
  have z4 := HG.out.free 4
  have z5 := HG.out.free 5
  have z6 := HG.out.free 6
  have z7 := HG.out.free 7
  go_wp2_with fail
  refine HN1.out.mono ?_
  rintro e w4 ⟨rfl, rfl⟩
  clear HN1
  by_cases hneg : q < 0
  · clear HNo HQ
    go_wp2_with fail
    obtain ⟨Wd, hWd, hbd, hkd⟩ := HG.out.none
    have p0 := cell_of_blk hkd 0
    have p1 := cell_of_blk hkd 1
    have p2 := cell_of_blk hkd 2
    have p3 := cell_of_blk hkd 3
    have p4 := cell_of_blk hkd 4
    have p5 := cell_of_blk hkd 5
    have p6 := cell_of_blk hkd 6
    have p7 := cell_of_blk hkd 7
    unfold set8 at hWd
    unfold gotM at p0 p1 p2 p3 p4 p5 p6 p7
    rw [← hWd]
    exact bodyPost_ret (v := gotN) (by simp [results, Tryd.results23, go_sem, gotN, p0, p1, p2, p3, p4, p5, p6, p7]) rfl ⟨rfl, hbd⟩
  · have hs4 : 4 ≤ s.size := by
      rcases Nat.lt_or_ge s.size 4 with h | h
      · have := HQ.out; rw [numB_no (by omega)] at this; omega
      · exact h
    have hs1 : 1 < s.size := by omega
    have l3 : (1 : Int) < (s.size : Int) := by omega
    have hu1 : (1 : Int) < (s[1].toNat : Int) := by
      rw [← numB_one hs1]
      rcases HNo.out with h | h
      · omega
      · exact h
    have hu2 : 1 < s[1].toNat := by omega
    clear HNo HQ hs4
    go_wp2_with fail
    obtain ⟨Wd, hWd, hbd, hkd⟩ := HG.out.none
    have p0 := cell_of_blk hkd 0
    have p1 := cell_of_blk hkd 1
    have p2 := cell_of_blk hkd 2
    have p3 := cell_of_blk hkd 3
    have p4 := cell_of_blk hkd 4
    have p5 := cell_of_blk hkd 5
    have p6 := cell_of_blk hkd 6
    have p7 := cell_of_blk hkd 7
    unfold set8 at hWd
    unfold gotM at p0 p1 p2 p3 p4 p5 p6 p7
    rw [← hWd]
    exact bodyPost_ret (v := gotN) (by simp [results, Tryd.results23, go_sem, gotN, p0, p1, p2, p3, p4, p5, p6, p7]) rfl ⟨rfl, hbd⟩
end Go.Proofs.YtapgagfeghfooaaDoor.ima
