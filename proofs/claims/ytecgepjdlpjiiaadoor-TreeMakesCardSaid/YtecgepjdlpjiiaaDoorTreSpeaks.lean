/- What the law's own check of one tree answers: true, and it leaves all that was as it was. Condition: the library's MaxLen holds a number. -/
import Derived.Test.YtecgepjdlpjiiaaDoorTreMakes
namespace Go.Proofs.YtecgepjdlpjiiaaDoor.tre
open Go.RowKit Go.Proofs.YtecgepjdlpjiiaaDoor.words Go.Proofs.YtecgepjdlpjiiaaDoor.ext Go.Proofs.YtecgepjdlpjiiaaDoor.name

def ab : ByteArray := ⟨#[97]⟩
def bb : ByteArray := ⟨#[98]⟩
def xb : ByteArray := ⟨#[120]⟩
def d1 : Nd := dirN [ab, bb] [textN xb, whiteN]
def d2 : Nd := dirN [bb, ab] [whiteN, whiteN]
theorem d1_right : treeB d1 = true := by decide +kernel
theorem d2_right : treeB d2 = false := by decide +kernel
theorem d1_count : countC d1 = 3 := by decide +kernel
theorem d1_asc : Asc d1.N := riseB_asc (by decide +kernel)
theorem xb_one : (ofB xb).length = 1 := by decide +kernel
theorem d1_depth : depth d1 ≤ 1000 := by decide +kernel
theorem d2_depth : depth d2 ≤ 1000 := by decide +kernel
theorem xb_size : (xb.size : Int) = 1 := rfl
def As (n : Nd) (v : Raw → Value) (w : World) (e : Ending) (w' : World) : Prop := ∃ r', e = .returned (v r') ∧ NdAt w' w'.heap.size n r' ∧ Below w.heap.size w w'
theorem Built.as {n : Nd} {w w' : World} {e : Ending} {v : Raw → Value} (hv : ∀ r, ndV n r = v r) (h : Built n w e w') : As n v w e w' := by
  obtain ⟨r', h1, h2, h3⟩ := h
  exact ⟨r', by rw [h1, hv], h2, h3⟩
def dV (r : Raw) : Value := .agg #[.int .i64 2, .bool false, .slice r.An 2 r.cn, .slice r.Ai 2 r.ci, .int .i64 0, .slice r.Ae 0 r.ce, .string ⟨#[]⟩]
def xV (r : Raw) : Value := .agg #[.int .i64 1, .bool false, .slice r.An 0 r.cn, .slice r.Ai 0 r.ci, .int .i64 1, .slice r.Ae 1 r.ce, .string ⟨#[]⟩]
def wV (r : Raw) : Value := .agg #[.int .i64 4, .bool false, .slice r.An 0 r.cn, .slice r.Ai 0 r.ci, .int .i64 0, .slice r.Ae 0 r.ce, .string ⟨#[]⟩]
theorem d1_v (r : Raw) : ndV d1 r = dV r := rfl
theorem d2_v (r : Raw) : ndV d2 r = dV r := rfl
theorem w_v (r : Raw) : ndV whiteN r = wV r := rfl
theorem x_v (r : Raw) : ndV (textN xb) r = xV r := by
  unfold ndV xV rawCells
  rw [show (textN xb).E.length = 1 from xb_one]
  rfl
theorem txts_two (w : World) (a b : ByteArray) (ha : a.size ≤ 140737488355328) (hb : b.size ≤ 140737488355328) :
    Txts (w.alloc (.cells #[.string a, .string b] 9)) (w.alloc (.cells #[.string a, .string b] 9)).heap.size (some ⟨w.heap.size, 0, none⟩) [a, b] := fun i x hx => by
  have hlt := (List.getElem?_eq_some_iff.1 hx).1
  have : i = 0 ∨ i = 1 := by simp at hlt; omega
  rcases this with rfl | rfl
  · obtain rfl : a = x := by simpa using hx
    exact ⟨⟨w.heap.size, 0, rfl, by simp, by simp⟩, ha⟩
  · obtain rfl : b = x := by simpa using hx
    exact ⟨⟨w.heap.size, 0, rfl, by simp, by simp⟩, hb⟩
def pick2 (rx ry : Raw) : Nat → Raw
  | 0 => rx
  | _ + 1 => ry
theorem pair_dir (a b : ByteArray) (x y : Nd) (rx ry : Raw) (t : Nat) (w3 W4 : World) (hW4 : W4 = w3.alloc (.cells ((rawCells x rx).toList ++ ((rawCells y ry).toList ++ [])).toArray 26)) (hT : Txts W4 W4.heap.size (some ⟨t, 0, none⟩) [a, b])
    (hx : NdAt w3 w3.heap.size x rx) (hy : NdAt w3 w3.heap.size y ry) :
    Calls Tryd.prog 22 #[.slice (some ⟨t, 0, none⟩) 2 2, .slice (some ⟨w3.heap.size, 0, none⟩) 2 2] W4 (Built (dirN [a, b] [x, y]) W4) := by
  have hb : Below w3.heap.size w3 W4 := by rw [hW4]; exact (Below.refl _ _).alloc (Nat.le_refl _) _
  have hblk : W4.heap[w3.heap.size]? = some (.cells ((rawCells x rx).toList ++ ((rawCells y ry).toList ++ [])).toArray 26 (0, 0)) := by rw [hW4]; exact heap_alloc_new w3 _
  refine dir_any (some ⟨t, 0, none⟩) (some ⟨w3.heap.size, 0, none⟩) 2 2 [a, b] [x, y] (pick2 rx ry) W4 hT (fun j u hu => ?_) (fun i z hz => ?_) (show 2 * 16 ≤ 140737488355328 by decide) (show 2 * 112 ≤ 140737488355328 by decide) (fun h => by cases h) (fun h => by cases h)
  · refine ⟨w3.heap.size, 0, rfl, lt_of_some hblk, ?_⟩
    rw [Nat.zero_add]
    have hu' : ((rawCells x rx).toList ++ ((rawCells y ry).toList ++ []))[j]? = some u := hu
    unfold World.cell?
    rw [hblk]
    simpa using hu'
  · have hlt := (List.getElem?_eq_some_iff.1 hz).1
    have : i = 0 ∨ i = 1 := by simp at hlt; omega
    rcases this with rfl | rfl
    · obtain rfl : x = z := by simpa using hz
      exact hx.later hb
    · obtain rfl : y = z := by simpa using hz
      exact hy.later hb
theorem x_cells (r : Raw) : (rawCells (textN xb) r).toList = [.int .i64 1, .bool false, .slice r.An 0 r.cn, .slice r.Ai 0 r.ci, .int .i64 1, .slice r.Ae 1 r.ce, .string ⟨#[]⟩] := by
  unfold rawCells
  rw [show (textN xb).E.length = 1 from xb_one]
  rfl
def FoundX (w : World) (e : Ending) (w' : World) : Prop := ∃ r' : Raw, e = .returned (.tuple #[.agg #[.int .i64 1, .bool false, .slice r'.An 0 r'.cn, .slice r'.Ai 0 r'.ci, .int .i64 1, .slice r'.Ae 1 r'.ce, .string ⟨#[]⟩], .bool true]) ∧ Below w.heap.size w w'
theorem find_x (r : Raw) (w : World) (hN : NdAt w w.heap.size d1 r) : Calls Tryd.prog 16 #[dV r, .string ⟨#[97]⟩] w (FoundX w) :=
  (find_any d1 r ab w hN d1_asc rfl d1_depth).mono fun e w' h => by
    obtain ⟨⟨i, x, r', hi, hx, rfl, _⟩ | ⟨_, hno⟩, hb⟩ := h
    · have hlt := (List.getElem?_eq_some_iff.1 hx).1
      have : i = 0 ∨ i = 1 := by
        have : i < 2 := hlt
        omega
      rcases this with rfl | rfl
      · obtain rfl : textN xb = x := Option.some.inj hx
        exact ⟨r', by rw [x_v]; rfl, hb⟩
      · have : bb = ab := Option.some.inj hi
        exact absurd this (by decide)
    · exact absurd rfl (hno 0)
theorem rightv_is (b : Bool) (n : Nd) (v : Raw → Value) (hv : ∀ r, ndV n r = v r) (r : Raw) (m : Int) (w : World) (hN : NdAt w w.heap.size n r) (hm : w.cell? ⟨0, 0, none⟩ = some (.int .i64 m)) (hd : depth n ≤ 1000) (hb : treeB n = b) :
    Calls Tryd.prog 9 #[v r] w fun e w' => e = .returned (.bool b) ∧ Below w.heap.size w w' := by
  rw [← hv]
  exact (treeright_any n r m w hN hm hd).mono fun _ _ ⟨he, hw⟩ => ⟨by rw [he, hb], hw⟩
theorem countv_is (c : Int) (n : Nd) (v : Raw → Value) (hv : ∀ r, ndV n r = v r) (r : Raw) (w : World) (hN : NdAt w w.heap.size n r) (hd : depth n ≤ 1000) (hb : countC n = c) :
    Calls Tryd.prog 11 #[v r] w fun e w' => e = .returned (.int .i64 c) ∧ Below w.heap.size w w' := by
  rw [← hv]
  exact (treecount_any n r w hN hd).mono fun _ _ ⟨he, hw⟩ => ⟨by rw [he, hb], hw⟩
theorem samev_is (b : Bool) (n m : Nd) (v u : Raw → Value) (hv : ∀ r, ndV n r = v r) (hu : ∀ r, ndV m r = u r) (r q : Raw) (w : World) (hN : NdAt w w.heap.size n r) (hM : NdAt w w.heap.size m q) (hd : depth n ≤ 1000) (hb : sameB n m = b) :
    Calls Tryd.prog 13 #[v r, u q] w fun e w' => e = .returned (.bool b) ∧ Below w.heap.size w w' := by
  rw [← hv, ← hu]
  exact (treesame_any n m r q w hN hM hd).mono fun _ _ ⟨he, hw⟩ => ⟨by rw [he, hb], hw⟩

theorem d1_cells {w : World} {g : Nat} {r : Raw} (h : Box w g d1 r) : w.cell? ⟨g, 0, none⟩ = some (.int .i64 2) ∧ w.cell? ⟨g, 1, none⟩ = some (.bool false) ∧ w.cell? ⟨g, 2, none⟩ = some (.slice r.An 2 r.cn) ∧
    w.cell? ⟨g, 3, none⟩ = some (.slice r.Ai 2 r.ci) ∧ w.cell? ⟨g, 4, none⟩ = some (.int .i64 0) ∧ w.cell? ⟨g, 5, none⟩ = some (.slice r.Ae 0 r.ce) ∧ w.cell? ⟨g, 6, none⟩ = some (.string ⟨#[]⟩) := h.cells
structure Sp (w W : World) (g g2 : Nat) (r : Raw) (m : Int) : Prop where
  b : Below w.heap.size w W
  x : Box W g d1 r
  n : NdAt W W.heap.size d1 r
  s : W.cell? ⟨g2, 4, none⟩ = some (.int .i64 1)
  m : W.cell? ⟨0, 0, none⟩ = some (.int .i64 m)
theorem Sp.later {w W W' : World} {g g2 : Nat} {r : Raw} {m : Int} (h : Sp w W g g2 r m) (hb : Below W.heap.size W W') : Sp w W' g g2 r m :=
  ⟨h.b.trans (hb.mono h.b.size), h.x.below hb, h.n.later hb, below_cell h.s hb, below_cell h.m hb⟩

set_option maxRecDepth 100000 in
set_option maxHeartbeats 3200000 in
theorem speaks_any (m : Int) (w : World) (hm : w.cell? ⟨0, 0, none⟩ = some (.int .i64 m)) : Calls Tryd.prog 7 #[] w fun e w' => e = .returned (.bool true) ∧ Below w.heap.size w w' := by
  obtain ⟨W1, hW1⟩ : ∃ W1, W1 = w.alloc (.cells #[.string ab, .string bb] 9) := ⟨_, rfl⟩
  have HB1 : Hid (Below w.heap.size w W1) := by rw [hW1]; exact Lib.hid ((Below.refl _ _).alloc (Nat.le_refl _) _)
  have HT1 : Hid (Txts W1 W1.heap.size (some ⟨w.heap.size, 0, none⟩) [ab, bb]) := by rw [hW1]; exact Lib.hid (txts_two w ab bb (by decide) (by decide))
  have hW1' : W1 = w.alloc (.cells #[.string ⟨#[97]⟩, .string ⟨#[98]⟩] 9) := hW1
  have HW1 := Lib.hid hW1'
  have HM := Lib.hid hm
  clear hW1 hW1' hm
  go_enter Tryd.func7, Tryd.ntmps7
  go_wp2_with fail
  rw [← HW1.out]
  refine ((text_any xb W1 (by decide)).mono fun _ _ h => h.as x_v).mono ?_
  rintro e w2 ⟨r2, rfl, hn2, hb2⟩
  have HN2 := Lib.hid hn2
  have HB2 := Lib.hid hb2
  clear hn2 hb2
  unfold xV
  go_wp2_with fail
  refine ((white_any w2).mono fun _ _ h => h.as w_v).mono ?_
  rintro e w3 ⟨r3, rfl, hn3, hb3⟩
  have HN3 := Lib.hid hn3
  have HB3 := Lib.hid hb3
  clear hn3 hb3
  unfold wV
  go_wp2_with fail
  obtain ⟨W4, hW4⟩ : ∃ W4, W4 = w3.alloc (.cells ((rawCells (textN xb) r2).toList ++ ((rawCells whiteN r3).toList ++ [])).toArray 26) := ⟨_, rfl⟩
  have HB4 : Hid (Below w3.heap.size w3 W4) := by rw [hW4]; exact Lib.hid ((Below.refl _ _).alloc (Nat.le_refl _) _)
  have HBa := Lib.hid ((HB2.out.trans (HB3.out.mono HB2.out.size)).trans (HB4.out.mono (HB2.out.trans (HB3.out.mono HB2.out.size)).size))
  have HP := Lib.hid (pair_dir ab bb (textN xb) whiteN r2 r3 w.heap.size w3 W4 hW4 ((HT1.out.keep HBa.out).more HBa.out.size) ((HN2.out.keep HB3.out).more HB3.out.size) HN3.out)
  have hW4' := hW4
  rw [x_cells] at hW4'
  have hW4'' : W4 = w3.alloc (.cells #[.int .i64 1, .bool false, .slice r2.An 0 r2.cn, .slice r2.Ai 0 r2.ci, .int .i64 1, .slice r2.Ae 1 r2.ce, .string ⟨#[]⟩, .int .i64 4, .bool false, .slice r3.An 0 r3.cn, .slice r3.Ai 0 r3.ci, .int .i64 0, .slice r3.Ae 0 r3.ce, .string ⟨#[]⟩] 26) := hW4'
  rw [← hW4'']
  have HM4 := Lib.hid (below_cell HM.out (HB1.out.trans (HBa.out.mono HB1.out.size)))
  have HBb := Lib.hid (HB1.out.trans (HBa.out.mono HB1.out.size))
  clear hW4 hW4' hW4'' HN2 HN3 HT1 HW1 HB2 HB3 HB4 HBa HM HB1
  refine (HP.out.mono fun _ _ h => h.as d1_v).mono ?_
  rintro e w5 ⟨r5, rfl, hn5, hb5⟩
  obtain ⟨W6, hW6⟩ : ∃ W6, W6 = w5.alloc (.cells (rawCells d1 r5) 26) := ⟨_, rfl⟩
  have hb6 : Below w5.heap.size w5 W6 := by rw [hW6]; exact (Below.refl _ _).alloc (Nat.le_refl _) _
  have HX6 : Hid (Box W6 w5.heap.size d1 r5) := by rw [hW6]; exact Lib.hid (Box.new w5 d1 r5)
  have HN6 := Lib.hid (hn5.later hb6)
  have HB6 := Lib.hid ((HBb.out.trans (hb5.mono HBb.out.size)).trans (hb6.mono (HBb.out.trans (hb5.mono HBb.out.size)).size))
  have HM6 := Lib.hid (below_cell HM4.out (hb5.trans (hb6.mono hb5.size)))
  have HW6 : Hid (W6 = w5.alloc (.cells #[.int .i64 2, .bool false, .slice r5.An 2 r5.cn, .slice r5.Ai 2 r5.ci, .int .i64 0, .slice r5.Ae 0 r5.ce, .string ⟨#[]⟩] 26)) := Lib.hid hW6
  clear hn5 hb5 hb6 hW6 HP HBb HM4
  unfold dV
  go_upto_region 2 with fail
  rw [← HW6.out]
  obtain ⟨b0, b1, b2, b3, b4, b5, b6⟩ := d1_cells HX6.out
  have hfx := find_x r5 W6 HN6.out
  unfold dV at hfx
  have HFX := Lib.hid hfx
  clear hfx
  go_wp2_with fail
  refine HFX.out.mono ?_
  rintro e w7 ⟨r7, rfl, hb7⟩
  obtain ⟨W8, hW8⟩ : ∃ W8, W8 = w7.alloc (.cells #[.int .i64 1, .bool false, .slice r7.An 0 r7.cn, .slice r7.Ai 0 r7.ci, .int .i64 1, .slice r7.Ae 1 r7.ce, .string ⟨#[]⟩] 26) := ⟨_, rfl⟩
  have hb8 : Below W6.heap.size W6 W8 := by rw [hW8]; exact hb7.alloc hb7.size _
  have hs8 : W8.cell? ⟨w7.heap.size, 4, none⟩ = some (.int .i64 1) := by rw [hW8]; exact cell_of_blk (heap_alloc_new w7 _) 4
  have HS8 : Hid (Sp w W8 w5.heap.size w7.heap.size r5 m) := Lib.hid ⟨HB6.out.trans (hb8.mono HB6.out.size), HX6.out.below hb8, HN6.out.later hb8, hs8, below_cell HM6.out hb8⟩
  have HW8 := Lib.hid hW8
  clear hb7 hW8 hb8 hs8 HFX HX6 HN6 HB6 HM6 HW6 b0 b1 b2 b3 b4 b5 b6
  go_upto_region 3 with fail
  rw [← HW8.out]
  obtain ⟨b0, b1, b2, b3, b4, b5, b6⟩ := d1_cells HS8.out.x
  have hr8 := rightv_is true d1 dV d1_v r5 m W8 HS8.out.n HS8.out.m d1_depth d1_right
  unfold dV at hr8
  have HR8 := Lib.hid hr8
  clear hr8 HW8
  go_wp2_with fail
  refine HR8.out.mono ?_
  rintro e w9 ⟨rfl, hb9⟩
  have HS9 := Lib.hid (HS8.out.later hb9)
  clear hb9 HR8 HS8 b0 b1 b2 b3 b4 b5 b6
  obtain ⟨W10, hW10⟩ : ∃ W10, W10 = w9.alloc (.cells #[.string bb, .string ab] 9) := ⟨_, rfl⟩
  have hb10 : Below w9.heap.size w9 W10 := by rw [hW10]; exact (Below.refl _ _).alloc (Nat.le_refl _) _
  have HT10 : Hid (Txts W10 W10.heap.size (some ⟨w9.heap.size, 0, none⟩) [bb, ab]) := by rw [hW10]; exact Lib.hid (txts_two w9 bb ab (by decide) (by decide))
  have HS10 := Lib.hid (HS9.out.later hb10)
  have HW10 : Hid (W10 = w9.alloc (.cells #[.string ⟨#[98]⟩, .string ⟨#[97]⟩] 9)) := Lib.hid hW10
  clear hb10 hW10 HS9
  go_wp2_with fail
  rw [← HW10.out]
  refine ((white_any W10).mono fun _ _ h => h.as w_v).mono ?_
  rintro e w11 ⟨r11, rfl, hn11, hb11⟩
  have HN11 := Lib.hid hn11
  have HB11 := Lib.hid hb11
  clear hn11 hb11
  unfold wV
  go_wp2_with fail
  refine ((white_any w11).mono fun _ _ h => h.as w_v).mono ?_
  rintro e w12 ⟨r12, rfl, hn12, hb12⟩
  have HN12 := Lib.hid hn12
  have HB12 := Lib.hid hb12
  clear hn12 hb12
  unfold wV
  go_wp2_with fail
  obtain ⟨W13, hW13⟩ : ∃ W13, W13 = w12.alloc (.cells ((rawCells whiteN r11).toList ++ ((rawCells whiteN r12).toList ++ [])).toArray 26) := ⟨_, rfl⟩
  have hb13 : Below w12.heap.size w12 W13 := by rw [hW13]; exact (Below.refl _ _).alloc (Nat.le_refl _) _
  have hb14 := (HB11.out.trans (HB12.out.mono HB11.out.size)).trans (hb13.mono (HB11.out.trans (HB12.out.mono HB11.out.size)).size)
  have HP := Lib.hid (pair_dir bb ab whiteN whiteN r11 r12 w9.heap.size w12 W13 hW13 ((HT10.out.keep hb14).more hb14.size) (HN11.out.later HB12.out) HN12.out)
  have HS13 := Lib.hid (HS10.out.later hb14)
  have hW13' : W13 = w12.alloc (.cells #[.int .i64 4, .bool false, .slice r11.An 0 r11.cn, .slice r11.Ai 0 r11.ci, .int .i64 0, .slice r11.Ae 0 r11.ce, .string ⟨#[]⟩, .int .i64 4, .bool false, .slice r12.An 0 r12.cn, .slice r12.Ai 0 r12.ci, .int .i64 0, .slice r12.Ae 0 r12.ce, .string ⟨#[]⟩] 26) := hW13
  rw [← hW13']
  clear hW13 hW13' hb13 hb14 HB11 HB12 HN11 HN12 HT10 HS10 HW10
  refine (HP.out.mono fun _ _ h => h.as d2_v).mono ?_
  rintro e w14 ⟨r14, rfl, hn14, hb14⟩
  have HS14 := Lib.hid (HS13.out.later hb14)
  have hr14 := rightv_is false d2 dV d2_v r14 m w14 hn14 HS14.out.m d2_depth d2_right
  have HR14 := Lib.hid hr14
  clear hr14 hb14 hn14 HP HS13
  go_wp2_with fail
  refine HR14.out.mono ?_
  rintro e w15 ⟨rfl, hb15⟩
  have HS15 := Lib.hid (HS14.out.later hb15)
  clear hb15 HR14 HS14
  obtain ⟨b0, b1, b2, b3, b4, b5, b6⟩ := d1_cells HS15.out.x
  have hs15 := HS15.out.s
  have hc15 := countv_is 3 d1 dV d1_v r5 w15 HS15.out.n d1_depth d1_count
  unfold dV at hc15
  have HC15 := Lib.hid hc15
  clear hc15
  unfold dV
  go_wp2_with fail
  refine HC15.out.mono ?_
  rintro e w16 ⟨rfl, hb16⟩
  have HS16 := Lib.hid (HS15.out.later hb16)
  clear hb16 HC15 HS15 b0 b1 b2 b3 b4 b5 b6 hs15
  obtain ⟨b0, b1, b2, b3, b4, b5, b6⟩ := d1_cells HS16.out.x
  have hs16 := samev_is true d1 d1 dV dV d1_v d1_v r5 r5 w16 HS16.out.n HS16.out.n d1_depth (sameB_self d1)
  unfold dV at hs16
  have HE16 := Lib.hid hs16
  clear hs16
  go_wp2_with fail
  refine HE16.out.mono ?_
  rintro e w17 ⟨rfl, hb17⟩
  have HB17 := Lib.hid (HS16.out.later hb17).b
  clear hb17 HE16 HS16 b0 b1 b2 b3 b4 b5 b6
  go_wp2_with fail
  go_ret
  exact ⟨rfl, HB17.out⟩
end Go.Proofs.YtecgepjdlpjiiaaDoor.tre
