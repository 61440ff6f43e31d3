/- What has not an image's first bytes is no branch; a page of a cursor that is stale, or none. Conditions: the State lies in memory. -/
import Derived.Test.YtkbhcncbpiimdaaGreatDoorJS2
import Derived.Test.YtkbhcncbpiimdaaGreatDoorBShelf
namespace Go.Proofs.YtkbhcncbpiimdaaGreatDoor.spc
set_option maxRecDepth 100000
open Go.RowKit Go.Proofs.YtkbhcncbpiimdaaGreatDoor.words Go.Proofs.YtkbhcncbpiimdaaGreatDoor.ext Go.Proofs.YtkbhcncbpiimdaaGreatDoor.name Go.Proofs.YtkbhcncbpiimdaaGreatDoor.tre Go.Proofs.YtkbhcncbpiimdaaGreatDoor.stk Go.Proofs.YtkbhcncbpiimdaaGreatDoor.seen Go.Proofs.YtkbhcncbpiimdaaGreatDoor.wlk Go.Proofs.YtkbhcncbpiimdaaGreatDoor.uni

def st7 (w : World) (g : Nat) (u0 u1 u2 u3 u4 u5 u6 : Value) : World := ((((((w.setCell ⟨g, 0, none⟩ u0).setCell ⟨g, 1, none⟩ u1).setCell ⟨g, 2, none⟩ u2).setCell ⟨g, 3, none⟩ u3).setCell ⟨g, 4, none⟩ u4).setCell ⟨g, 5, none⟩ u5).setCell ⟨g, 6, none⟩ u6
theorem ov7 {w : World} {g : Nat} {T : TypeId} {c0 c1 c2 c3 c4 c5 c6 u0 u1 u2 u3 u4 u5 u6 : Value} (h : w.heap[g]? = some (.cells #[c0, c1, c2, c3, c4, c5, c6] T (0, 0))) : (st7 w g u0 u1 u2 u3 u4 u5 u6).heap[g]? = some (.cells #[u0, u1, u2, u3, u4, u5, u6] T (0, 0)) := by
  simp [st7, World.setCell, Array.getElem?_modify, h]
theorem bl7 {B g : Nat} {a b : World} (h : Below B a b) (hg : B ≤ g) (u0 u1 u2 u3 u4 u5 u6 : Value) : Below B a (st7 b g u0 u1 u2 u3 u4 u5 u6) :=
  ((((((h.setCell (p := ⟨g, 0, none⟩) hg u0).setCell (p := ⟨g, 1, none⟩) hg u1).setCell (p := ⟨g, 2, none⟩) hg u2).setCell (p := ⟨g, 3, none⟩) hg u3).setCell (p := ⟨g, 4, none⟩) hg u4).setCell (p := ⟨g, 5, none⟩) hg u5).setCell (p := ⟨g, 6, none⟩) hg u6
theorem decode_bad (s : ByteArray) (w : World) (hp : Lib.hasPrefix s.data.toList [115, 111, 99, 97, 103, 101, 49] = false) :
    Calls Tryz.prog 146 #[.string s] w fun e w' => e = .returned (.tuple #[.agg #[.int .i64 0, .bool false, .slice none 0 0, .slice none 0 0, .int .i64 0, .slice none 0 0, .string ⟨#[]⟩], .int .i64 1]) ∧ Below w.heap.size w w' := by
  obtain ⟨W1, hW1⟩ : ∃ W1, W1 = w.alloc (.cells #[.int .i64 0, .bool false, .slice none 0 0, .slice none 0 0, .int .i64 0, .slice none 0 0, .string ⟨#[]⟩] 99) := ⟨_, rfl⟩
  have hb1 : Below w.heap.size w W1 := by rw [hW1]; exact (Below.refl _ _).alloc (Nat.le_refl _) _
  have hx1 : W1.heap[w.heap.size]? = some (.cells #[.int .i64 0, .bool false, .slice none 0 0, .slice none 0 0, .int .i64 0, .slice none 0 0, .string ⟨#[]⟩] 99 (0, 0)) := by rw [hW1]; exact heap_alloc_new w _
  have HC := Lib.hid (show Calls Tryz.prog 170 #[.string s, .string ⟨#[115, 111, 99, 97, 103, 101, 49]⟩] W1 fun e w' => (∃ q, e = .returned (.tuple #[.string q, .bool false])) ∧ w' = W1 by
    have h0 := Tryz.strings_CutPrefix s ⟨#[115, 111, 99, 97, 103, 101, 49]⟩ W1
    have e0 : Lib.hasPrefix s.data.toList (⟨#[115, 111, 99, 97, 103, 101, 49]⟩ : ByteArray).data.toList = false := hp
    rw [e0] at h0
    refine h0.mono ?_
    rintro e w' ⟨rfl, h2⟩
    exact ⟨⟨_, rfl⟩, h2⟩)
  have y0 := cell_of_blk hx1 0
  have z0 := free_of_blk hx1 0
  have y1 := cell_of_blk hx1 1
  have z1 := free_of_blk hx1 1
  have y2 := cell_of_blk hx1 2
  have z2 := free_of_blk hx1 2
  have y3 := cell_of_blk hx1 3
  have z3 := free_of_blk hx1 3
  have y4 := cell_of_blk hx1 4
  have z4 := free_of_blk hx1 4
  have y5 := cell_of_blk hx1 5
  have z5 := free_of_blk hx1 5
  have y6 := cell_of_blk hx1 6
  have z6 := free_of_blk hx1 6
  obtain ⟨W2, hW2⟩ : ∃ W2, W2 = st7 W1 w.heap.size (.int .i64 0) (.bool false) (.slice none 0 0) (.slice none 0 0) (.int .i64 0) (.slice none 0 0) (.string ⟨#[]⟩) := ⟨_, rfl⟩
  have ho : W2.heap[w.heap.size]? = some (.cells #[.int .i64 0, .bool false, .slice none 0 0, .slice none 0 0, .int .i64 0, .slice none 0 0, .string ⟨#[]⟩] 99 (0, 0)) := by rw [hW2]; exact ov7 hx1
  have p0 := cell_of_blk ho 0
  have p1 := cell_of_blk ho 1
  have p2 := cell_of_blk ho 2
  have p3 := cell_of_blk ho 3
  have p4 := cell_of_blk ho 4
  have p5 := cell_of_blk ho 5
  have p6 := cell_of_blk ho 6
  have HB := Lib.hid (show Below w.heap.size w W2 by rw [hW2]; exact bl7 hb1 (Nat.le_refl _) _ _ _ _ _ _ _)
  have HW1 := Lib.hid hW1
  unfold st7 at hW2
  have HW2 := Lib.hid hW2
  clear hW1 hb1 hx1 hW2 ho hp
  go_enter Tryz.func146, Tryz.ntmps146
  go_upto_region 1 with fail
  rw [← HW1.out]
  go_wp2_with fail
  refine HC.out.mono ?_
  rintro e w2 ⟨⟨q, rfl⟩, rfl⟩
  go_wp2_with fail
  rw [← HW2.out]
  exact bodyPost_ret (v := .tuple #[.agg #[.int .i64 0, .bool false, .slice none 0 0, .slice none 0 0, .int .i64 0, .slice none 0 0, .string ⟨#[]⟩], .int .i64 1]) (by simp [results, Tryz.results146, go_sem, p0, p1, p2, p3, p4, p5, p6]) rfl ⟨rfl, HB.out⟩
theorem bopen_bad (s : ByteArray) (w : World) (hp : Lib.hasPrefix s.data.toList [115, 111, 99, 97, 103, 101, 49] = false) :
    Calls Tryz.prog 110 #[.string s] w fun e w' => e = .returned (.tuple #[.pointer none, .int .i64 1]) ∧ Below w.heap.size w w' := by
  have HD := Lib.hid (decode_bad s w hp)
  clear hp
  go_enter Tryz.func110, Tryz.ntmps110
  go_wp2_with fail
  refine HD.out.mono ?_
  rintro e w1 ⟨rfl, hb1⟩
  obtain ⟨W2, hW2⟩ : ∃ W2, W2 = w1.alloc (.cells #[.int .i64 0, .bool false, .slice none 0 0, .slice none 0 0, .int .i64 0, .slice none 0 0, .string ⟨#[]⟩] 99) := ⟨_, rfl⟩
  have hb2 : Below w1.heap.size w1 W2 := by rw [hW2]; exact (Below.refl _ _).alloc (Nat.le_refl _) _
  have HB := Lib.hid (hb1.trans (hb2.mono hb1.size))
  have HW2 := Lib.hid hW2
  clear hW2 hb1 hb2 HD
  go_upto_region 2 with fail
  rw [← HW2.out]
  go_wp2_with fail
  exact bodyPost_ret (v := .tuple #[.pointer none, .int .i64 1]) (by simp [results, Tryz.results110, go_sem]) rfl ⟨rfl, HB.out⟩
set_option maxHeartbeats 3200000 in
theorem page_err {B s t m : Nat} {A : Option Addr} {c : Nat} {L : List (Nat × Int)} {ad ep r n : Int} {C : cur.Cs} {w : World} (k : Int) (p : ByteArray) (o N id : Int) (img : ByteArray) (er : Int) (h : Sp B s t m A c L ad ep r n C w) (hx : mpi.Fits id) (hc : stC C ep id = cur.c0) (he : stE C ep id = er) (hn : er ≠ 0) :
    Calls Tryz.prog 66 #[.pointer (some ⟨s, 0, none⟩), opV k p o N id img] w (SO B s t m (resP er 0 none 0 0 false) A c L ad ep r n C w) := by
  obtain ⟨g1, W1, hW1, eg1, hxo, hxr, hb1, lg1⟩ := two_boxes w (.cells #[.int .i64 k, .string p, .int .i64 o, .int .i64 N, .int .i64 id, .string img] 47) (.cells #[.int .i64 0, .int .i64 0, .int .i64 0, .int .i64 0, .int .i64 0, .string ⟨#[]⟩, .slice none 0 0, .bool false] 44)
  have HO := Lib.hid hxo
  have HR := Lib.hid (show W1.heap[g1]? = some zx8 from hxr)
  have HP1 := Lib.hid (h.later hb1)
  have HB1 := Lib.hid hb1
  have HG1 := Lib.hid (show w.heap.size < g1 by omega)
  have HLt := Lib.hid h.lt
  have HW1 := Lib.hid hW1
  have HEG := Lib.hid eg1
  have HSt := Lib.hid (stale_any id (h.later hb1) hx)
  rw [hc, he] at HSt
  have gn : (er != 0) = true := by rw [bne_iff_ne]; exact hn
  clear hW1 eg1 hxo hxr hb1 lg1 h hx hc he hn
  unfold opV
  have c4 := cell_of_blk HO.out 4
  go_enter Tryz.func66, Tryz.ntmps66
  go_upto_region 1 with fail
  rw [HW1.out]
  simp only [HEG.out]
  clear HW1 HEG
  go_wp2_with fail
  refine HSt.out.mono ?_
  rintro e w2 ⟨rfl, hb2⟩
  unfold cur.c0
  obtain ⟨W3, hW3⟩ : ∃ W3, W3 = w2.alloc (.cells #[.int .i64 0, .string ⟨#[]⟩, .int .i64 0] 91) := ⟨_, rfl⟩
  have hb3 : Below w2.heap.size w2 W3 := by rw [hW3]; exact (Below.refl _ _).alloc (Nat.le_refl _) _
  have hb13 := hb2.trans (hb3.mono hb2.size)
  have HB3 := Lib.hid (HB1.out.trans (hb13.mono HB1.out.size))
  have ezx := ((hb13.block _ (lt_of_some HR.out)).trans HR.out)
  have HPut := Lib.hid (putS (rb := g1) (HP1.out.later hb13) (lru.Tn.of_below HB3.out _) HLt.out (Nat.le_of_lt HG1.out) ezx er 0 none 0 0 false)
  have y0 := cell_of_blk ezx 0
  have z0 := free_of_blk ezx 0
  have y1 := cell_of_blk ezx 1
  have z1 := free_of_blk ezx 1
  have y2 := cell_of_blk ezx 2
  have z2 := free_of_blk ezx 2
  have y3 := cell_of_blk ezx 3
  have z3 := free_of_blk ezx 3
  have y4 := cell_of_blk ezx 4
  have z4 := free_of_blk ezx 4
  have y5 := cell_of_blk ezx 5
  have z5 := free_of_blk ezx 5
  have y6 := cell_of_blk ezx 6
  have z6 := free_of_blk ezx 6
  have y7 := cell_of_blk ezx 7
  have z7 := free_of_blk ezx 7
  clear ezx
  have HW3 := Lib.hid hW3
  clear hW3 hb3 hb2 hb13 HSt c4
  go_upto_region 2 with fail
  rw [← HW3.out]
  go_wp2_with fail
  obtain ⟨p0, p1, p2, p3, p4, p5, p6, p7, HE, hbP⟩ := HPut.out _ rfl
  unfold set8 at p0 p1 p2 p3 p4 p5 p6 p7 HE hbP
  exact bodyPost_ret (v := resP er 0 none 0 0 false) (by unfold resP; simp [results, Tryz.results66, go_sem, p0, p1, p2, p3, p4, p5, p6, p7]) rfl HE
end Go.Proofs.YtkbhcncbpiimdaaGreatDoor.spc
