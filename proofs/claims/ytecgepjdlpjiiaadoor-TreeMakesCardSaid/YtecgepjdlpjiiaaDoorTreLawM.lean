/- What the law TreeMakes answers: true. Conditions: the texts are such as were read; the library's MaxLen holds a number. -/
import Derived.Test.YtecgepjdlpjiiaaDoorTreDirIn
namespace Go.Proofs.YtecgepjdlpjiiaaDoor.tre
open Go.RowKit Go.Proofs.YtecgepjdlpjiiaaDoor.words Go.Proofs.YtecgepjdlpjiiaaDoor.ext Go.Proofs.YtecgepjdlpjiiaaDoor.name

theorem text_same {x y : ByteArray} (h : x.data.toList = y.data.toList) : x = y := by
  obtain ⟨⟨a⟩⟩ := x
  obtain ⟨⟨b⟩⟩ := y
  simp only at h
  subst h
  rfl
theorem read_whole (s : ByteArray) (A : Option Addr) (c : Nat) (w : World) (hI : Exts w w.heap.size A (ofB s)) (hs : s.size ≤ 200) :
    Calls Tryd.prog 19 #[.int .i64 (s.size : Int), .slice A (ofB s).length c, .int .i64 0, .int .i64 (s.size : Int)] w fun e w' => e = .returned (.string s) ∧ Below w.heap.size w w' :=
  (refread_any (s.size : Int) 0 (s.size : Int) A c (ofB s) w hI (by have := ofB_length s; omega) (ofB_right s (by omega)) (by omega) (by omega) (by omega) (by omega) (by omega)).mono fun _ _ ⟨⟨r, he, hx⟩, hb⟩ => ⟨by rw [he, text_same (hx.trans (ofB_read s))], hb⟩
theorem textN_one (s : ByteArray) (hs : s.size ≤ 1048576) : oneB (textN s) = true := by
  rw [oneB_1 rfl]
  show (true && true && rightB (s.size : Int) (ofB s)) = true
  rw [ofB_right s hs]
  rfl

set_option maxHeartbeats 800000 in
theorem white_raw (w : World) : Calls Tryd.prog 21 #[] w fun e w' => e = .returned (.agg #[.int .i64 4, .bool false, .slice none 0 0, .slice none 0 0, .int .i64 0, .slice none 0 0, .string ⟨#[]⟩]) ∧ Below w.heap.size w w' := by
  go_enter Tryd.func21, Tryd.ntmps21
  go_wp2_with fail
  obtain ⟨Wd, hWd⟩ : ∃ Wd, Wd = w.alloc (.cells (rawCells whiteN raw0) 26) := ⟨_, rfl⟩
  have hB : Below w.heap.size w Wd := by rw [hWd]; exact (Below.refl _ _).alloc (Nat.le_refl _) _
  have hX : Box Wd w.heap.size whiteN raw0 := by rw [hWd]; exact Box.new w whiteN raw0
  obtain ⟨p0, p1, p2, p3, p4, p5, p6⟩ := hX.cells
  have hWd' : w.alloc (.cells #[.int .i64 4, .bool false, .slice none 0 0, .slice none 0 0, .int .i64 0, .slice none 0 0, .string ⟨#[]⟩] 26) = Wd := hWd.symm
  rw [hWd']
  exact bodyPost_ret (v := ndV whiteN raw0) (by unfold ndV rawCells; simp [results, Tryd.results21, go_sem, p0, p1, p2, p3, p4, p5, p6]) rfl ⟨rfl, hB⟩
theorem own_later {w w' : World} {B size n : Nat} {E : TypeId} {v : Value} {xs : List Value} (h : w.ownsRow B E size v n xs) (hb : Below w.heap.size w w') : w'.ownsRow B E size v n xs := by
  refine ⟨h.1, ?_⟩
  rcases h.2 with h0 | ⟨g, cap, cur, h1, h2, h3, h4⟩
  · exact .inl h0
  · exact .inr ⟨g, cap, cur, h1, h2, (hb.block g (lt_of_some h3)).trans h3, h4⟩
theorem rowCells_snoc : ∀ (L : List Nd) (x : Nd), rowCells (L ++ [x]) (fun _ => raw0) = rowCells L (fun _ => raw0) ++ (rawCells x raw0).toList
  | [], x => by
    show rowCells [x] _ = [] ++ _
    rw [rowCells, rowCells, List.append_nil, List.nil_append]
  | y :: L, x => by
    show rowCells (y :: (L ++ [x])) _ = _
    rw [rowCells, rowCells_snoc L x, rowCells, List.append_assoc]
def wCells : Array Value := #[.int .i64 4, .bool false, .slice none 0 0, .slice none 0 0, .int .i64 0, .slice none 0 0, .string ⟨#[]⟩]

set_option maxRecDepth 100000 in
set_option maxHeartbeats 6400000 in
theorem law_makes (s : ByteArray) (A : Option Addr) (cap : Nat) (Q : List ByteArray) (k : Nat) (mx : Int) (w : World) (hQ : Txts w w.heap.size A Q) (hz : A = none → Q.length = 0 ∧ cap = 0) (hl : Q.length * 16 ≤ 140737488355328) (hcap : Q.length ≤ cap) (hm : w.cell? ⟨0, 0, none⟩ = some (.int .i64 mx)) (hs : s.size ≤ 140737488355328) (hk2 : k ≤ 255) :
    Calls Tryd.prog 5 #[.string s, .slice A Q.length cap, .int .u8 (k : Int)] w fun e w' => e = .returned (.bool true) ∧ Below w.heap.size w w' := by
  have HQ := Lib.hid hQ
  have HM := Lib.hid hm
  have HZ := Lib.hid hz
  clear hQ hm hz
  go_enter Tryd.func5, Tryd.ntmps5
  go_wp2_with fail
  refine (speaks_any mx w HM.out).mono ?_
  rintro e w2 ⟨rfl, hb2⟩
  have HB2 := Lib.hid hb2
  clear hb2
  go_upto_region 3 with fail
  by_cases h1 : 200 < s.size
  · have g1 : (200 : Int) < (s.size : Int) := by omega
    go_wp2_with fail
    go_ret
    exact ⟨rfl, HB2.out⟩
  have g1 : ¬ (200 : Int) < (s.size : Int) := by omega
  by_cases h2 : 20 < Q.length
  · have g2 : (20 : Int) < (Q.length : Int) := by omega
    clear h1
    go_wp2_with fail
    go_ret
    exact ⟨rfl, HB2.out⟩
  have g2 : ¬ (20 : Int) < (Q.length : Int) := by omega
  have hs2 : s.size ≤ 200 := by omega
  have hq2 : Q.length ≤ 20 := by omega
  clear h1 h2
  go_upto_region 5 with fail
  go_wp2_with fail
  refine (text_any s w2 (by omega)).mono ?_
  rintro e w5 ⟨r5, rfl, hn5, hb5⟩
  obtain ⟨W6, hW6⟩ : ∃ W6, W6 = w5.alloc (.cells (rawCells (textN s) r5) 26) := ⟨_, rfl⟩
  have hb6 : Below w5.heap.size w5 W6 := by rw [hW6]; exact (Below.refl _ _).alloc (Nat.le_refl _) _
  have HX6 : Hid (Box W6 w5.heap.size (textN s) r5) := by rw [hW6]; exact Lib.hid (Box.new w5 (textN s) r5)
  have HN6 := Lib.hid (hn5.later hb6)
  have HB6 := Lib.hid ((HB2.out.trans (hb5.mono HB2.out.size)).trans (hb6.mono (HB2.out.trans (hb5.mono HB2.out.size)).size))
  have hW6' : W6 = w5.alloc (.cells #[.int .i64 1, .bool false, .slice r5.An 0 r5.cn, .slice r5.Ai 0 r5.ci, .int .i64 (s.size : Int), .slice r5.Ae (ofB s).length r5.ce, .string ⟨#[]⟩] 26) := hW6
  have HW6 := Lib.hid hW6'
  have z5 : ndV (textN s) r5 = .agg #[.int .i64 1, .bool false, .slice r5.An 0 r5.cn, .slice r5.Ai 0 r5.ci, .int .i64 (s.size : Int), .slice r5.Ae (ofB s).length r5.ce, .string ⟨#[]⟩] := rfl
  rw [z5]
  clear hn5 hb5 hb6 hW6 hW6' HB2 z5
  go_upto_region 6 with fail
  rw [← HW6.out]
  have hx6 := HX6.out.cells
  have b0 : W6.cell? ⟨w5.heap.size, 0, none⟩ = some (.int .i64 1) := hx6.1
  have b1 : W6.cell? ⟨w5.heap.size, 1, none⟩ = some (.bool false) := hx6.2.1
  have b2 : W6.cell? ⟨w5.heap.size, 2, none⟩ = some (.slice r5.An 0 r5.cn) := hx6.2.2.1
  have b3 : W6.cell? ⟨w5.heap.size, 3, none⟩ = some (.slice r5.Ai 0 r5.ci) := hx6.2.2.2.1
  have b4 : W6.cell? ⟨w5.heap.size, 4, none⟩ = some (.int .i64 (s.size : Int)) := hx6.2.2.2.2.1
  have b5 : W6.cell? ⟨w5.heap.size, 5, none⟩ = some (.slice r5.Ae (ofB s).length r5.ce) := hx6.2.2.2.2.2.1
  have b6 : W6.cell? ⟨w5.heap.size, 6, none⟩ = some (.string ⟨#[]⟩) := hx6.2.2.2.2.2.2
  have H1 := Lib.hid (read_whole s r5.Ae r5.ce W6 HN6.out.exts hs2)
  clear hx6 HW6
  go_wp2_with fail
  refine H1.out.mono ?_
  rintro e w7 ⟨rfl, hb7⟩
  have HB7 := Lib.hid (HB6.out.trans (hb7.mono HB6.out.size))
  have HX7 := Lib.hid (HX6.out.below hb7)
  have HN7 := Lib.hid (HN6.out.later hb7)
  clear hb7 H1 HX6 HN6 HB6 b0 b1 b2 b3 b4 b5 b6
  have hx7 := HX7.out.cells
  have b0 : w7.cell? ⟨w5.heap.size, 0, none⟩ = some (.int .i64 1) := hx7.1
  have b1 : w7.cell? ⟨w5.heap.size, 1, none⟩ = some (.bool false) := hx7.2.1
  have b2 : w7.cell? ⟨w5.heap.size, 2, none⟩ = some (.slice r5.An 0 r5.cn) := hx7.2.2.1
  have b3 : w7.cell? ⟨w5.heap.size, 3, none⟩ = some (.slice r5.Ai 0 r5.ci) := hx7.2.2.2.1
  have b4 : w7.cell? ⟨w5.heap.size, 4, none⟩ = some (.int .i64 (s.size : Int)) := hx7.2.2.2.2.1
  have b5 : w7.cell? ⟨w5.heap.size, 5, none⟩ = some (.slice r5.Ae (ofB s).length r5.ce) := hx7.2.2.2.2.2.1
  have b6 : w7.cell? ⟨w5.heap.size, 6, none⟩ = some (.string ⟨#[]⟩) := hx7.2.2.2.2.2.2
  have h2 : Calls Tryd.prog 15 #[.agg #[.int .i64 1, .bool false, .slice r5.An 0 r5.cn, .slice r5.Ai 0 r5.ci, .int .i64 (s.size : Int), .slice r5.Ae (ofB s).length r5.ce, .string ⟨#[]⟩]] w7 fun e w' => e = .returned (.bool true) ∧ Below w7.heap.size w7 w' :=
    one_is true (textN s) r5 w7 HN7.out (textN_one s (by omega))
  have H2 := Lib.hid h2
  clear h2 hx7
  go_wp2_with fail
  refine H2.out.mono ?_
  rintro e w8 ⟨rfl, hb8⟩
  have HB8 := Lib.hid (HB7.out.trans (hb8.mono HB7.out.size))
  clear hb8 H2 HX7 HN7 HB7 b0 b1 b2 b3 b4 b5 b6
  go_wp2_with fail
  refine (link_any s w8 hs).mono ?_
  rintro e w9 ⟨r9, rfl, hn9, hb9⟩
  have HB9 := Lib.hid (HB8.out.trans (hb9.mono HB8.out.size))
  have z9 : ndV (linkN s) r9 = .agg #[.int .i64 3, .bool false, .slice r9.An 0 r9.cn, .slice r9.Ai 0 r9.ci, .int .i64 0, .slice r9.Ae 0 r9.ce, .string s] := rfl
  rw [z9]
  have h3 : Calls Tryd.prog 14 #[.agg #[.int .i64 3, .bool false, .slice r9.An 0 r9.cn, .slice r9.Ai 0 r9.ci, .int .i64 0, .slice r9.Ae 0 r9.ce, .string s], .agg #[.int .i64 3, .bool false, .slice none 0 0, .slice none 0 0, .int .i64 0, .slice none 0 0, .string s]] w9 fun e w' => e = .returned (.bool true) ∧ Below w9.heap.size w9 w' :=
    (rsame_at w9 1 (linkN s) (linkN s) r9 raw0 w9 (by show depth (linkN s) < 1; rw [depth_eq]; show depthL [] < 1; rw [depthL_nil]; decide) hn9 (bare_at _ _ _ _ (fit0 3 s (by decide) (by decide) hs)) (Below.refl _ _)).mono fun _ _ ⟨he, hw⟩ => ⟨by rw [he, sameB_self], hw⟩
  have H3 := Lib.hid h3
  clear hn9 hb9 h3 z9 HB8
  go_wp2_with fail
  refine H3.out.mono ?_
  rintro e w10 ⟨rfl, hb10⟩
  have HB10 := Lib.hid (HB9.out.trans (hb10.mono HB9.out.size))
  clear hb10 H3 HB9
  go_upto_region 8 with fail
  go_wp2_with fail
  have hi0 : (Tryd.prog.info? 26).map (fun i => (i.zero, i.size, i.bytes)) = some (some (.agg #[.int .i64 0, .bool false, .slice none 0 0, .slice none 0 0, .int .i64 0, .slice none 0 0, .string ⟨#[]⟩]), 7, 112) := by kernel_rfl
  obtain ⟨i0, hi, hz0, hz1, hz2⟩ := info_parts hi0
  clear hi0
  go_loopw [8, 60] (fun v8 v60 wr => ∃ (j : Nat) (A8 : Option Addr) (c8 : Nat), j ≤ Q.length ∧ v60 = .int .i64 j ∧ v8 = .slice A8 j c8 ∧ Hid (wr.ownsRow w10.heap.size 26 7 (.slice A8 j c8) j (rowCells (whites j) (fun _ => raw0))) ∧ Hid (Below w10.heap.size w10 wr)) (fun _ v60 _ => Q.length - (intOf v60).toNat)
  case atStart => exact ⟨0, none, 0, Nat.zero_le _, rfl, rfl, Lib.hid (World.ownsRow_nil _ _ _ _), Lib.hid (Below.refl _ _)⟩
  case round =>
    obtain ⟨j, A8, c8, hj, rfl, rfl, HOw, HBr⟩ := hrel
    by_cases hlt : j < Q.length
    · go_wp2_with fail
      refine (white_raw wr).mono ?_
      rintro e w11 ⟨rfl, hb11⟩
      have hb12 : Below wr.heap.size wr (w11.alloc (.cells #[.int .i64 4, .bool false, .slice none 0 0, .slice none 0 0, .int .i64 0, .slice none 0 0, .string ⟨#[]⟩] 26)) := hb11.alloc hb11.size _
      have HO12 := Lib.hid (own_later HOw.out hb12)
      have HB12 := Lib.hid (HBr.out.trans (hb12.mono HBr.out.size))
      have hsz : w10.heap.size ≤ w11.heap.size := Nat.le_trans HBr.out.size hb11.size
      have hnews : Hid (∀ (i : Nat) (u : Value), (rawCells whiteN raw0).toList[i]? = some u → (w11.alloc (.cells #[.int .i64 4, .bool false, .slice none 0 0, .slice none 0 0, .int .i64 0, .slice none 0 0, .string ⟨#[]⟩] 26)).cell? ((⟨w11.heap.size, 0, none⟩ : Addr).add i) = some u) := Lib.hid fun i u hu => by
        rw [add_place, Nat.zero_add, cell_of_blk (heap_alloc_new w11 _) i, ← Array.getElem?_toList]
        exact hu
      have hone : Hid (∀ u ∈ (rawCells whiteN raw0).toList, u.oneCell' = true) := Lib.hid (by
        have := rowCells_one [whiteN] (fun _ => raw0)
        rw [rowCells, rowCells, List.append_nil] at this
        exact this)
      clear hb11 hb12 HOw HBr
      go_wp2_with (at_builtin; refine wpList_append_own _ rfl (.tmp 62) (.tmp 64) 23 rfl w10.heap.size 26 i0 _ 7 112 Tryd.underlying23 hi hz0 hz1 hz2 rfl (by omega) (.slice A8 j c8) j (rowCells (whites j) (fun _ => raw0)) rfl HO12.out ⟨w11.heap.size, 0, none⟩ 1 1 (rawCells whiteN raw0).toList rfl rfl hnews.out hone.out (by simp only [maxLen]; omega) (by omega) (by simp; omega) ?_; intro v4 w4 hown4 hgrow hnil4)
      have hB4 := keep_grown (S := w10.heap.size) HB12.out HO12.out hgrow (Nat.le_refl _) (Nat.le_refl _)
      rw [← rowCells_snoc, whites_more] at hown4
      obtain ⟨A4, c4, rfl, _, _⟩ := own_facts hown4
      have HO4 := Lib.hid hown4
      have HB4 := Lib.hid hB4
      clear hown4 hgrow hnil4 hB4 HO12 HB12 hnews hone
      go_wp2_with fail
      go_roundw
      case rel => exact ⟨j + 1, A4, c4, by omega, by go_num, rfl, HO4, HB4⟩
      case measure => simp [intOf]; omega
    · obtain rfl : j = Q.length := by omega
      go_wp2_with fail
      obtain ⟨d, hd⟩ : ∃ d, d = dirN Q (whites Q.length) := ⟨_, rfl⟩
      have hbr : Below w.heap.size w wr := HB10.out.trans (HBr.out.mono HB10.out.size)
      obtain ⟨A', c', hv, hn8, hz8⟩ := own_facts HOw.out
      injection hv with hA' _ hc'
      subst hA' hc'
      have hT : Txts wr wr.heap.size A Q := (HQ.out.keep hbr).more hbr.size
      have hIt : ∀ (i : Nat) (x : Nd), (whites Q.length)[i]? = some x → NdAt wr wr.heap.size x raw0 := fun i x hx => by
        rw [whites_at hx]
        exact bare_at _ _ _ _ (fit0 4 ⟨#[]⟩ (by decide) (by decide) (by decide))
      have hLi : Lies wr A8 (rowCells (whites Q.length) (fun _ => raw0)) := fun i u hu => by
        obtain ⟨g, cur, g1, _, g3, _, g5⟩ := own_cell HOw.out hu
        exact ⟨g, 0, g1, g3, by rw [Nat.zero_add]; exact g5⟩
      have hlw : (whites Q.length).length * 112 ≤ 140737488355328 := by rw [whites_length]; omega
      have hdir := dir_any A A8 cap c8 Q (whites Q.length) (fun _ => raw0) wr hT hLi hIt hl hlw HZ.out (by rw [whites_length]; exact hz8)
      have hnq : NdAt wr wr.heap.size d ⟨A, cap, A8, c8, none, 0⟩ := by
        rw [hd]
        refine .mk (fun _ => raw0) (fitD Q (whites Q.length) A A8 cap c8 hl hlw hcap (by rw [whites_length]; exact hn8) HZ.out (by rw [whites_length]; exact hz8)) hT (fun _ _ hx => (no_at hx).elim) (fun i x hx => ?_) hIt
        obtain ⟨g, cur, g1, _, g3, _, _⟩ := own_cell HOw.out (rowCells_at (rs := fun _ => raw0) hx 0 _ rfl)
        refine ⟨g, 0, g1, g3, fun k v hk => ?_⟩
        obtain ⟨g', _, g1', _, _, _, g5'⟩ := own_cell HOw.out (rowCells_at (rs := fun _ => raw0) hx k v hk)
        rw [g1] at g1'
        injection g1' with g1'
        injection g1' with g1'
        subst g1'
        rw [show 0 + i * 7 + k = i * 7 + k by omega]
        exact g5'
      rw [whites_length, ← hd] at hdir
      have hvd : ∀ r13 : Raw, ndV d r13 = .agg #[.int .i64 2, .bool false, .slice r13.An Q.length r13.cn, .slice r13.Ai Q.length r13.ci, .int .i64 0, .slice r13.Ae 0 r13.ce, .string ⟨#[]⟩] := fun r13 => by
        rw [hd]
        unfold ndV rawCells
        rw [show (dirN Q (whites Q.length)).I.length = Q.length from whites_length _]
        rfl
      have hvo : ∀ r13 : Raw, ndV (opaqueN d) r13 = .agg #[.int .i64 2, .bool true, .slice r13.An Q.length r13.cn, .slice r13.Ai Q.length r13.ci, .int .i64 0, .slice r13.Ae 0 r13.ce, .string ⟨#[]⟩] := fun r13 => by
        rw [hd]
        unfold ndV rawCells
        rw [show (opaqueN (dirN Q (whites Q.length))).I.length = Q.length from whites_length _]
        rfl
      have hsm : smallB d = true := by rw [hd]; exact dir_small Q Q.length hq2 hq2
      have HVd := Lib.hid hvd
      have HVo := Lib.hid hvo
      have HSm := Lib.hid hsm
      have HNq := Lib.hid hnq
      have HBw := Lib.hid hbr
      have HDir := Lib.hid (hdir.mono fun _ _ h => h.as hvd)
      clear hdir hvd hvo hsm hnq hbr hT hLi hIt hlw hn8 hz8 hd HBr HOw
      refine HDir.out.mono ?_
      rintro e w13 ⟨r13, rfl, hn13, hb13⟩
      obtain ⟨W14, hW14⟩ : ∃ W14, W14 = w13.alloc (.cells #[.int .i64 2, .bool false, .slice r13.An Q.length r13.cn, .slice r13.Ai Q.length r13.ci, .int .i64 0, .slice r13.Ae 0 r13.ce, .string ⟨#[]⟩] 26) := ⟨_, rfl⟩
      have hb14 : Below w13.heap.size w13 W14 := by rw [hW14]; exact (Below.refl _ _).alloc (Nat.le_refl _) _
      have hX14 : W14.heap[w13.heap.size]? = some (.cells #[.int .i64 2, .bool false, .slice r13.An Q.length r13.cn, .slice r13.Ai Q.length r13.ci, .int .i64 0, .slice r13.Ae 0 r13.ce, .string ⟨#[]⟩] 26 (0, 0)) := by rw [hW14]; exact heap_alloc_new w13 _
      have HN14 := Lib.hid (hn13.later hb14)
      have HQ14 := Lib.hid ((HNq.out.later hb13).later hb14)
      have HB14 := Lib.hid ((HBw.out.trans (hb13.mono HBw.out.size)).trans (hb14.mono (HBw.out.trans (hb13.mono HBw.out.size)).size))
      have HM14 := Lib.hid (below_cell HM.out HB14.out)
      have HS : Hid (∀ w' : World, Below W14.heap.size W14 w' → ((w'.cell? ⟨w13.heap.size, 0, none⟩ = some (.int .i64 2) ∧ w'.cell? ⟨w13.heap.size, 1, none⟩ = some (.bool false) ∧ w'.cell? ⟨w13.heap.size, 2, none⟩ = some (.slice r13.An Q.length r13.cn) ∧ w'.cell? ⟨w13.heap.size, 3, none⟩ = some (.slice r13.Ai Q.length r13.ci) ∧ w'.cell? ⟨w13.heap.size, 4, none⟩ = some (.int .i64 0) ∧ w'.cell? ⟨w13.heap.size, 5, none⟩ = some (.slice r13.Ae 0 r13.ce) ∧ w'.cell? ⟨w13.heap.size, 6, none⟩ = some (.string ⟨#[]⟩)) ∧ Below W14.heap.size W14 w')) := Lib.hid fun w' hb => by
        have hx := (hb.block _ (lt_of_some hX14)).trans hX14
        exact ⟨⟨cell_of_blk hx 0, cell_of_blk hx 1, cell_of_blk hx 2, cell_of_blk hx 3, cell_of_blk hx 4, cell_of_blk hx 5, cell_of_blk hx 6⟩, hb⟩
      have hdp := smallB_depth HSm.out
      obtain ⟨t, ht⟩ : ∃ t, t = treeB d := ⟨_, rfl⟩
      have htr : refB d = t := by rw [ht, tree_same HSm.out HN14.out.tame]
      have J1 : Hid (∀ w' : World, Below W14.heap.size W14 w' → Calls Tryd.prog 14 #[.agg #[.int .i64 2, .bool false, .slice r13.An Q.length r13.cn, .slice r13.Ai Q.length r13.ci, .int .i64 0, .slice r13.Ae 0 r13.ce, .string ⟨#[]⟩], .agg #[.int .i64 2, .bool false, .slice A Q.length cap, .slice A8 Q.length c8, .int .i64 0, .slice none 0 0, .string ⟨#[]⟩]] w' fun e w'' => e = .returned (.bool true) ∧ Below W14.heap.size W14 w'') := Lib.hid fun w' hb => by
        have h := (rsame_at w' 31 d d r13 ⟨A, cap, A8, c8, none, 0⟩ w' (by omega) (HN14.out.later hb) (HQ14.out.later hb) (Below.refl _ _))
        rw [HVd.out, HVd.out] at h
        exact h.mono fun _ _ ⟨he, hw⟩ => ⟨by rw [he, sameB_self], hb.trans (hw.mono hb.size)⟩
      have J2 : Hid (∀ w' : World, Below W14.heap.size W14 w' → Calls Tryd.prog 23 #[.agg #[.int .i64 2, .bool false, .slice r13.An Q.length r13.cn, .slice r13.Ai Q.length r13.ci, .int .i64 0, .slice r13.Ae 0 r13.ce, .string ⟨#[]⟩]] w' fun e w'' => e = .returned (.agg #[.int .i64 2, .bool true, .slice r13.An Q.length r13.cn, .slice r13.Ai Q.length r13.ci, .int .i64 0, .slice r13.Ae 0 r13.ce, .string ⟨#[]⟩]) ∧ Below W14.heap.size W14 w'') := Lib.hid fun w' hb => by
        have h := opaque_any d r13 w'
        rw [HVd.out, HVo.out] at h
        exact h.mono fun _ _ ⟨he, hw⟩ => ⟨he, hb.trans (hw.mono hb.size)⟩
      have J3 : Hid (∀ w' : World, Below W14.heap.size W14 w' → Calls Tryd.prog 9 #[.agg #[.int .i64 2, .bool false, .slice r13.An Q.length r13.cn, .slice r13.Ai Q.length r13.ci, .int .i64 0, .slice r13.Ae 0 r13.ce, .string ⟨#[]⟩]] w' fun e w'' => e = .returned (.bool t) ∧ Below W14.heap.size W14 w'') := Lib.hid fun w' hb => by
        have h := treeright_any d r13 mx w' (HN14.out.later hb) (below_cell HM14.out hb) (by omega)
        rw [HVd.out] at h
        exact h.mono fun _ _ ⟨he, hw⟩ => ⟨by rw [he, ht], hb.trans (hw.mono hb.size)⟩
      have J4 : Hid (∀ w' : World, Below W14.heap.size W14 w' → Calls Tryd.prog 10 #[.agg #[.int .i64 2, .bool false, .slice r13.An Q.length r13.cn, .slice r13.Ai Q.length r13.ci, .int .i64 0, .slice r13.Ae 0 r13.ce, .string ⟨#[]⟩]] w' fun e w'' => e = .returned (.bool t) ∧ Below W14.heap.size W14 w'') := Lib.hid fun w' hb => by
        have h := refright_node d r13 w' (HN14.out.later hb) (by omega)
        rw [HVd.out] at h
        exact h.mono fun _ _ ⟨he, hw⟩ => ⟨by rw [he, htr], hb.trans (hw.mono hb.size)⟩
      have HW14 := Lib.hid hW14
      have HSd := Lib.hid (HS.out _ (Below.refl W14.heap.size W14).drew)
      clear hn13 hb13 hb14 hX14 hW14 ht htr HDir HN14 HQ14 HVd HVo HSm HNq HBw
      have hfd : ∀ w' : World, Sem.run Tryd.prog (Instr.field 26 (.agg #[.int .i64 2, .bool true, .slice r13.An Q.length r13.cn, .slice r13.Ai Q.length r13.ci, .int .i64 0, .slice r13.Ae 0 r13.ce, .string ⟨#[]⟩]) 1) w' = .ok (.bool true) w' := fun _ => by kernel_rfl
      go_upto_region 14 with fail
      rw [← HW14.out]
      refine wp_region_held_drew (S := fun w' => (w'.cell? ⟨w13.heap.size, 0, none⟩ = some (.int .i64 2) ∧ w'.cell? ⟨w13.heap.size, 1, none⟩ = some (.bool false) ∧ w'.cell? ⟨w13.heap.size, 2, none⟩ = some (.slice r13.An Q.length r13.cn) ∧ w'.cell? ⟨w13.heap.size, 3, none⟩ = some (.slice r13.Ai Q.length r13.ci) ∧ w'.cell? ⟨w13.heap.size, 4, none⟩ = some (.int .i64 0) ∧ w'.cell? ⟨w13.heap.size, 5, none⟩ = some (.slice r13.Ae 0 r13.ce) ∧ w'.cell? ⟨w13.heap.size, 6, none⟩ = some (.string ⟨#[]⟩)) ∧ Below W14.heap.size W14 w') (by kernel_rfl) HSd.out (fun hHeld => ?_)
      refine wpAnyH_take (i := 0) (oi := ⟨some 70, _, _, _, _, _⟩) (v := ?_) rfl (by kernel_rfl) (by kernel_rfl) (by kernel_rfl) (fun _ _ _ h => h) (Or.inl ⟨by kernel_rfl, ?_⟩) (by assumption) ?_
      rotate_left 1
      focus (intro w' hSw; (try dsimp only at hSw); go_simp; (try with_reducible rfl))
      try simp only [Act.put, List.setIfInBounds_toArray, List.set_cons_zero, List.set_cons_succ]
      refine wpAnyH_take (i := 1) (oi := ⟨some 71, _, _, _, _, _⟩) (v := ?_) rfl (by kernel_rfl) (by kernel_rfl) (by kernel_rfl) (fun _ _ _ h => h) (Or.inl ⟨by kernel_rfl, ?_⟩) (by assumption) ?_
      rotate_left 1
      focus (intro w' hSw; (try dsimp only at hSw); go_simp; (try with_reducible rfl))
      try simp only [Act.put, List.setIfInBounds_toArray, List.set_cons_zero, List.set_cons_succ]
      refine wpAnyH_take (i := 2) (oi := ⟨some 72, _, _, _, _, _⟩) (v := ?_) rfl (by kernel_rfl) (by kernel_rfl) (by kernel_rfl) (fun _ _ _ h => h) (Or.inl ⟨by kernel_rfl, ?_⟩) (by assumption) ?_
      rotate_left 1
      focus (intro w' hSw; (try dsimp only at hSw); go_simp; (try with_reducible rfl))
      try simp only [Act.put, List.setIfInBounds_toArray, List.set_cons_zero, List.set_cons_succ]
      refine wpAnyH_take (i := 3) (oi := ⟨some 73, _, _, _, _, _⟩) (v := ?_) rfl (by kernel_rfl) (by kernel_rfl) (by kernel_rfl) (fun _ _ _ h => h) (Or.inl ⟨by kernel_rfl, ?_⟩) (by assumption) ?_
      rotate_left 1
      focus (intro w' hSw; (try dsimp only at hSw); go_simp; (try with_reducible rfl))
      try simp only [Act.put, List.setIfInBounds_toArray, List.set_cons_zero, List.set_cons_succ]
      refine wpAnyH_ready (rs := [4]) (by kernel_rfl) (by simp) ?_
      refine AllReadyH.cons rfl (fun K hK => ?_) AllReadyH.nil
      go_simp
      go_at_call 14
      refine (J1.out _ (Below.refl W14.heap.size W14).drew).mono ?_
      rintro e v1 ⟨rfl, hv1⟩
      clear hHeld
      refine hK.out _ _ (HS.out _ hv1) (fun hHeld => ?_)
      clear hK
      try simp only [Act.put, List.setIfInBounds_toArray, List.set_cons_zero, List.set_cons_succ]
      refine wpAnyH_take (i := 5) (oi := ⟨some 75, _, _, _, _, _⟩) (v := ?_) rfl (by kernel_rfl) (by kernel_rfl) (by kernel_rfl) (fun _ _ _ h => h) (Or.inl ⟨by kernel_rfl, ?_⟩) (by assumption) ?_
      rotate_left 1
      focus (intro w' hSw; (try dsimp only at hSw); go_simp; (try with_reducible rfl))
      try simp only [Act.put, List.setIfInBounds_toArray, List.set_cons_zero, List.set_cons_succ]
      refine wpAnyH_take (i := 6) (oi := ⟨some 76, _, _, _, _, _⟩) (v := ?_) rfl (by kernel_rfl) (by kernel_rfl) (by kernel_rfl) (fun _ _ _ h => h) (Or.inl ⟨by kernel_rfl, ?_⟩) (by assumption) ?_
      rotate_left 1
      focus (intro w' hSw; (try dsimp only at hSw); go_simp; (try with_reducible rfl))
      try simp only [Act.put, List.setIfInBounds_toArray, List.set_cons_zero, List.set_cons_succ]
      refine wpAnyH_take (i := 7) (oi := ⟨some 77, _, _, _, _, _⟩) (v := ?_) rfl (by kernel_rfl) (by kernel_rfl) (by kernel_rfl) (fun _ _ _ h => h) (Or.inl ⟨by kernel_rfl, ?_⟩) (by assumption) ?_
      rotate_left 1
      focus (intro w' hSw; (try dsimp only at hSw); go_simp; (try with_reducible rfl))
      try simp only [Act.put, List.setIfInBounds_toArray, List.set_cons_zero, List.set_cons_succ]
      refine wpAnyH_ready (rs := [8]) (by kernel_rfl) (by simp) ?_
      refine AllReadyH.cons rfl (fun K hK => ?_) AllReadyH.nil
      go_simp
      go_at_call 23
      refine (J2.out _ hv1).mono ?_
      rintro e v2 ⟨rfl, hv2⟩
      clear hHeld
      refine hK.out _ _ (HS.out _ hv2) (fun hHeld => ?_)
      clear hK
      try simp only [Act.put, List.setIfInBounds_toArray, List.set_cons_zero, List.set_cons_succ]
      refine wpAnyH_take (i := 9) (oi := ⟨some 79, _, _, _, _, _⟩) (v := ?_) rfl (by kernel_rfl) (by kernel_rfl) (by kernel_rfl) (fun _ _ _ h => h) (Or.inl ⟨by kernel_rfl, ?_⟩) (by assumption) ?_
      rotate_left 1
      focus (intro w' hSw; (try dsimp only at hSw); go_simp; (try with_reducible rfl))
      try simp only [Act.put, List.setIfInBounds_toArray, List.set_cons_zero, List.set_cons_succ]
      refine wpAnyH_take (i := 10) (oi := ⟨some 80, _, _, _, _, _⟩) (v := ?_) rfl (by kernel_rfl) (by kernel_rfl) (by kernel_rfl) (fun _ _ _ h => h) (Or.inl ⟨by kernel_rfl, ?_⟩) (by assumption) ?_
      rotate_left 1
      focus (intro w' hSw; (try dsimp only at hSw); go_simp; (try with_reducible rfl))
      try simp only [Act.put, List.setIfInBounds_toArray, List.set_cons_zero, List.set_cons_succ]
      refine wpAnyH_take (i := 11) (oi := ⟨some 81, _, _, _, _, _⟩) (v := ?_) rfl (by kernel_rfl) (by kernel_rfl) (by kernel_rfl) (fun _ _ _ h => h) (Or.inl ⟨by kernel_rfl, ?_⟩) (by assumption) ?_
      rotate_left 1
      focus (intro w' hSw; (try dsimp only at hSw); go_simp; (try with_reducible rfl))
      try simp only [Act.put, List.setIfInBounds_toArray, List.set_cons_zero, List.set_cons_succ]
      refine wpAnyH_take (i := 12) (oi := ⟨some 82, _, _, _, _, _⟩) (v := ?_) rfl (by kernel_rfl) (by kernel_rfl) (by kernel_rfl) (fun _ _ _ h => h) (Or.inl ⟨by kernel_rfl, ?_⟩) (by assumption) ?_
      rotate_left 1
      focus (intro w' hSw; (try dsimp only at hSw); go_simp; (try with_reducible rfl))
      try simp only [Act.put, List.setIfInBounds_toArray, List.set_cons_zero, List.set_cons_succ]
      refine wpAnyH_take (i := 13) (oi := ⟨some 83, _, _, _, _, _⟩) (v := ?_) rfl (by kernel_rfl) (by kernel_rfl) (by kernel_rfl) (fun _ _ _ h => h) (Or.inl ⟨by kernel_rfl, ?_⟩) (by assumption) ?_
      rotate_left 1
      focus (intro w' hSw; (try dsimp only at hSw); go_simp; (try with_reducible rfl))
      try simp only [Act.put, List.setIfInBounds_toArray, List.set_cons_zero, List.set_cons_succ]
      refine wpAnyH_take (i := 14) (oi := ⟨some 84, _, _, _, _, _⟩) (v := ?_) rfl (by kernel_rfl) (by kernel_rfl) (by kernel_rfl) (fun _ _ _ h => h) (Or.inl ⟨by kernel_rfl, ?_⟩) (by assumption) ?_
      rotate_left 1
      focus (intro w' hSw; (try dsimp only at hSw); go_simp; (try with_reducible rfl))
      try simp only [Act.put, List.setIfInBounds_toArray, List.set_cons_zero, List.set_cons_succ]
      refine wpAnyH_take (i := 15) (oi := ⟨some 85, _, _, _, _, _⟩) (v := ?_) rfl (by kernel_rfl) (by kernel_rfl) (by kernel_rfl) (fun _ _ _ h => h) (Or.inl ⟨by kernel_rfl, ?_⟩) (by assumption) ?_
      rotate_left 1
      focus (intro w' hSw; (try dsimp only at hSw); go_simp; (try with_reducible rfl))
      try simp only [Act.put, List.setIfInBounds_toArray, List.set_cons_zero, List.set_cons_succ]
      refine wpAnyH_take (i := 16) (oi := ⟨some 86, _, _, _, _, _⟩) (v := ?_) rfl (by kernel_rfl) (by kernel_rfl) (by kernel_rfl) (fun _ _ _ h => h) (Or.inl ⟨by kernel_rfl, ?_⟩) (by assumption) ?_
      rotate_left 1
      focus (intro w' hSw; (try dsimp only at hSw); go_simp; (try with_reducible rfl))
      try simp only [Act.put, List.setIfInBounds_toArray, List.set_cons_zero, List.set_cons_succ]
      refine wpAnyH_take (i := 17) (oi := ⟨some 87, _, _, _, _, _⟩) (v := ?_) rfl (by kernel_rfl) (by kernel_rfl) (by kernel_rfl) (fun _ _ _ h => h) (Or.inl ⟨by kernel_rfl, ?_⟩) (by assumption) ?_
      rotate_left 1
      focus (intro w' hSw; (try dsimp only at hSw); go_simp; (try with_reducible rfl))
      try simp only [Act.put, List.setIfInBounds_toArray, List.set_cons_zero, List.set_cons_succ]
      refine wpAnyH_take (i := 19) (oi := ⟨some 89, _, _, _, _, _⟩) (v := ?_) rfl (by kernel_rfl) (by kernel_rfl) (by kernel_rfl) (fun _ _ _ h => h) (Or.inl ⟨by kernel_rfl, ?_⟩) (by assumption) ?_
      rotate_left 1
      focus (intro w' hSw; (try dsimp only at hSw); go_simp; (try with_reducible rfl))
      try simp only [Act.put, List.setIfInBounds_toArray, List.set_cons_zero, List.set_cons_succ]
      refine wpAnyH_ready (rs := [18]) (by kernel_rfl) (by simp) ?_
      refine AllReadyH.cons rfl (fun K hK => ?_) AllReadyH.nil
      go_simp
      go_at_call 9
      refine (J3.out _ hv2).mono ?_
      rintro e v3 ⟨rfl, hv3⟩
      clear hHeld
      refine hK.out _ _ (HS.out _ hv3) (fun hHeld => ?_)
      clear hK
      try simp only [Act.put, List.setIfInBounds_toArray, List.set_cons_zero, List.set_cons_succ]
      refine wpAnyH_ready (rs := [20]) (by kernel_rfl) (by simp) ?_
      refine AllReadyH.cons rfl (fun K hK => ?_) AllReadyH.nil
      go_simp
      go_at_call 10
      refine (J4.out _ hv3).mono ?_
      rintro e v4 ⟨rfl, hv4⟩
      clear hHeld
      refine hK.out _ _ (HS.out _ hv4) (fun hHeld => ?_)
      clear hK
      try simp only [Act.put, List.setIfInBounds_toArray, List.set_cons_zero, List.set_cons_succ]
      refine wpAnyH_take (i := 21) (oi := ⟨some 91, _, _, _, _, _⟩) (v := ?_) rfl (by kernel_rfl) (by kernel_rfl) (by kernel_rfl) (fun _ _ _ h => h) (Or.inl ⟨by kernel_rfl, ?_⟩) (by assumption) ?_
      rotate_left 1
      focus (intro w' hSw; (try dsimp only at hSw); go_simp; (try with_reducible rfl))
      try simp only [Act.put, List.setIfInBounds_toArray, List.set_cons_zero, List.set_cons_succ]
      refine wpAnyH_take (i := 22) (oi := ⟨some 92, _, _, _, _, _⟩) (v := ?_) rfl (by kernel_rfl) (by kernel_rfl) (by kernel_rfl) (fun _ _ _ h => h) (Or.inl ⟨by kernel_rfl, ?_⟩) (by assumption) ?_
      rotate_left 1
      focus (intro w' hSw; (try dsimp only at hSw); go_simp; (try with_reducible rfl))
      try simp only [Act.put, List.setIfInBounds_toArray, List.set_cons_zero, List.set_cons_succ]
      refine wpAnyH_done (by kernel_rfl) ?_ _
      have HB15 := Lib.hid (HB14.out.trans (hv4.mono HB14.out.size))
      clear hv1 hv2 hv3 hv4 HS HSd J1 J2 J3 J4 HB14 HM14 hHeld HW14
      go_upto_region 16 with fail
      have h16 := dir_in (fun _ => False) none none 0 0 [] [] (fun _ => raw0) v4 (fun _ _ hx => (no_at hx).elim) (fun _ _ hx => (no_at hx).elim) (fun _ _ hx => (no_at hx).elim) (fun _ h => h.elim) (by decide) (by decide) (fun _ => ⟨rfl, rfl⟩) (fun _ => ⟨rfl, rfl⟩)
      have H16 := Lib.hid h16
      clear h16
      obtain ⟨K, hK⟩ : ∃ K : Nat, (k : Int) % 24 = (K : Int) := ⟨k % 24, by omega⟩
      have hK24 : K < 24 := by omega
      have HK := Lib.hid hK
      clear hK
      go_wp2_with fail
      refine H16.out.mono ?_
      rintro e w16 ⟨r16, rfl, hn16, hb16⟩
      obtain ⟨W17, hW17⟩ : ∃ W17, W17 = w16.alloc (.cells (rawCells (dirN [] []) r16) 26) := ⟨_, rfl⟩
      have hb17 : Below w16.heap.size w16 W17 := by rw [hW17]; exact (Below.refl _ _).alloc (Nat.le_refl _) _
      have HX17 : Hid (Box W17 w16.heap.size (nest 0) r16) := by rw [hW17]; exact Lib.hid (Box.new w16 (dirN [] []) r16)
      have HN17 : Hid (NdIn W17 (fun b => b ≠ w16.heap.size ∧ b < W17.heap.size) (nest 0) r16) := Lib.hid (hn16.keep fun b hb => by
        rcases hb with hb | hb
        · exact hb.elim
        · exact ⟨hb17.block b hb.2, by omega, Nat.lt_of_lt_of_le hb.2 hb17.size⟩)
      have HB17 := Lib.hid ((HB15.out.trans (hb16.mono HB15.out.size)).trans (hb17.mono (HB15.out.trans (hb16.mono HB15.out.size)).size))
      have hg0 : w.heap.size ≤ w16.heap.size := (HB15.out.trans (hb16.mono HB15.out.size)).size
      unfold rawCells at hW17
      have HW17 := Lib.hid hW17
      clear H16 hn16 hb16 hb17 hW17 HB15
      unfold ndV rawCells
      go_upto_region 17 with fail
      rw [← HW17.out, HK.out]
      clear HW17
      go_wp2_with fail
      go_loopw [98] (fun v98 wr => ∃ (j : Nat) (rj : Raw), j ≤ K ∧ v98 = .int .i64 j ∧ Hid (Box wr w16.heap.size (nest j) rj) ∧ Hid (NdIn wr (fun b => b ≠ w16.heap.size ∧ b < wr.heap.size) (nest j) rj) ∧ Hid (Below w.heap.size w wr)) (fun v98 _ => K - (intOf v98).toNat)
      case atStart => exact ⟨0, r16, Nat.zero_le _, rfl, HX17, HN17, HB17⟩
      case round =>
        obtain ⟨j, rj, hj, rfl, HX, HN, HB⟩ := hrel
        obtain ⟨nj, hnj⟩ : ∃ nj, nj = nest j := ⟨_, rfl⟩
        have HNj := Lib.hid hnj
        rw [← hnj] at HX HN
        clear hnj
        obtain ⟨b0, b1, b2, b3, b4, b5, b6⟩ := HX.out.cells
        by_cases hlt : j < K
        · have hg2 := HX.out.lt
          obtain ⟨W20, hW20⟩ : ∃ W20, W20 = wr.alloc (.cells #[.string ab] 9) := ⟨_, rfl⟩
          obtain ⟨W21, hW21⟩ : ∃ W21, W21 = W20.alloc (.cells (rawCells nj rj) 26) := ⟨_, rfl⟩
          have hb20 : Below wr.heap.size wr W20 := by rw [hW20]; exact (Below.refl _ _).alloc (Nat.le_refl _) _
          have hz20 : wr.heap.size < W20.heap.size := by rw [hW20]; simp
          have hb21' : Below W20.heap.size W20 W21 := by rw [hW21]; exact (Below.refl _ _).alloc (Nat.le_refl _) _
          have hb21 : Below wr.heap.size wr W21 := hb20.trans (hb21'.mono hb20.size)
          have hblk0 : W20.heap[wr.heap.size]? = some (.cells #[.string ab] 9 (0, 0)) := by rw [hW20]; exact heap_alloc_new wr _
          have hblk1 := (hb21'.block _ hz20).trans hblk0
          have hblk : W21.heap[W20.heap.size]? = some (.cells (rawCells nj rj) 26 (0, 0)) := by rw [hW21]; exact heap_alloc_new W20 _
          have hz21 := lt_of_some hblk
          have hd := dir_in (fun b => b ≠ w16.heap.size ∧ b < wr.heap.size) (some ⟨wr.heap.size, 0, none⟩) (some ⟨W20.heap.size, 0, none⟩) 1 1 [ab] [nj] (fun _ => rj) W21
            (fun i x hx => by
              have hi : i = 0 := by have := (List.getElem?_eq_some_iff.1 hx).1; simp at this; omega
              subst hi
              obtain rfl : ab = x := by simpa using hx
              exact ⟨⟨wr.heap.size, 0, rfl, by omega, cell_of_blk hblk1 0⟩, by decide⟩)
            (fun i u hu => ⟨W20.heap.size, 0, rfl, hz21, by
              have hu' : ((rawCells nj rj).toList ++ [])[i]? = some u := hu
              rw [List.append_nil, Array.getElem?_toList] at hu'
              rw [Nat.zero_add, cell_of_blk hblk i]
              exact hu'⟩)
            (fun i x hx => by
              have hi : i = 0 := by have := (List.getElem?_eq_some_iff.1 hx).1; simp at this; omega
              subst hi
              obtain rfl : nj = x := by simpa using hx
              exact HN.out.keep fun b hb => ⟨hb21.block b hb.2, hb⟩)
            (fun b hb => Nat.lt_of_lt_of_le hb.2 hb21.size) (show 1 * 16 ≤ 140737488355328 by decide) (show 1 * 112 ≤ 140737488355328 by decide) (fun h => by cases h) (fun h => by cases h)
          have hs20 : W20.heap.size = wr.heap.size + 1 := by rw [hW20]; simp
          rw [hs20] at hd
          obtain ⟨nn, hnn⟩ : ∃ nn, nn = dirN [ab] [nj] := ⟨_, rfl⟩
          rw [← hnn] at hd
          have HNn := Lib.hid hnn
          have HD := Lib.hid hd
          have HX21 := Lib.hid (HX.out.below hb21)
          have HB21 := Lib.hid (HB.out.trans (hb21.mono HB.out.size))
          have hsz := hb21.size
          have hW20' : W20 = wr.alloc (.cells #[.string ⟨#[97]⟩] 9) := hW20
          have HW20 := Lib.hid hW20'
          unfold rawCells at hW21
          have HW21 := Lib.hid hW21
          rw [hW20'] at HW21
          clear hd hnn hb20 hb21 hb21' hblk0 hblk1 hblk hW20 hW20' hW21 HX HB
          go_wp2_with fail
          rw [← HW21.out]
          refine HD.out.mono ?_
          rintro e w22 ⟨r22, rfl, hn22, hb22⟩
          have hX22 := HX21.out.below hb22
          have z0 := free_of_blk hX22 0
          have z1 := free_of_blk hX22 1
          have z2 := free_of_blk hX22 2
          have z3 := free_of_blk hX22 3
          have z4 := free_of_blk hX22 4
          have z5 := free_of_blk hX22 5
          have z6 := free_of_blk hX22 6
          clear b0 b1 b2 b3 b4 b5 b6
          obtain ⟨b0, b1, b2, b3, b4, b5, b6⟩ := hX22.cells
          have hob := hX22.over (m := nn) (q := r22)
          have hsw := size_setCells w16.heap.size (rawCells nn r22).toList 0 w22
          have hB22 : Below w.heap.size w w22 := HB21.out.trans (hb22.mono HB21.out.size)
          obtain ⟨Wd, hWd⟩ : ∃ Wd, Wd = w22.setCells w16.heap.size 0 (rawCells nn r22).toList := ⟨_, rfl⟩
          have hsz22 := hb22.size
          have hNd : NdIn Wd (fun b => b ≠ w16.heap.size ∧ b < Wd.heap.size) nn r22 := hn22.keep fun b hb => by
            have hne : b ≠ w16.heap.size ∧ b < w22.heap.size := by
              rcases hb with hb | hb
              · exact ⟨hb.1, by omega⟩
              · exact ⟨by omega, hb.2⟩
            rw [hWd]
            exact ⟨World.heap_setCells_other w22 _ _ _ hne.2 hne.1, hne.1, by rw [hsw]; exact hne.2⟩
          have hBd : Below w.heap.size w Wd := by
            rw [hWd]
            exact below_setCells hg0 (rawCells nn r22).toList 0 w22 hB22
          rw [← hWd] at hob
          have hWd' := (set_all w22 w16.heap.size nn r22).trans hWd.symm
          have HWd := Lib.hid hWd'
          have HO := Lib.hid hob
          have HNd := Lib.hid hNd
          have HBd := Lib.hid hBd
          clear hX22 hob hsw hB22 hWd hNd hBd hWd' hn22 hb22 HD HX21 HB21 HN HW21 HW20 hsz hsz22 hz20 hz21 hs20
          unfold ndV rawCells
          go_wp2_with fail
          rw [HWd.out]
          go_roundw
          case rel =>
            have hnn := HNn.out
            rw [HNj.out] at hnn
            rw [hnn] at HO HNd
            exact ⟨j + 1, r22, by omega, by go_num, HO, HNd, HBd⟩
          case measure => simp [intOf]; omega
        · obtain rfl : j = K := by omega
          have hN := HN.out.at_ (B := wr.heap.size) fun b hb => hb.2
          have hd1 : depth nj ≤ 1000 := by rw [HNj.out]; exact nest_depth j hK24
          have hr : treeB nj = decide (j ≤ 15) := by rw [HNj.out]; exact nest_right j hK24
          have hc : countC nj = (j : Int) + 1 := by rw [HNj.out]; exact nest_count j hK24
          have h1 := treeright_any nj rj mx wr hN (below_cell HM.out HB.out) hd1
          rw [hr] at h1
          unfold ndV rawCells at h1
          have HR := Lib.hid h1
          have HN' := Lib.hid hN
          have HC := Lib.hid hc
          clear h1 hr hc hN HN HNj
          rcases h15 : decide (j ≤ 15) with _ | _
          · have g15 : ¬ (j : Int) ≤ 15 := by have := of_decide_eq_false h15; omega
            rw [h15] at HR
            clear h15
            go_wp2_with fail
            refine HR.out.mono ?_
            rintro e w23 ⟨rfl, hb23⟩
            have h2 := treecount_any nj rj w23 (HN'.out.later hb23) hd1
            rw [HC.out] at h2
            unfold ndV rawCells at h2
            have H2 := Lib.hid h2
            have HB23 := Lib.hid (HB.out.trans (hb23.mono HB.out.size))
            have hX23 := HX.out.below hb23
            clear b0 b1 b2 b3 b4 b5 b6 h2 hb23 HR
            obtain ⟨b0, b1, b2, b3, b4, b5, b6⟩ := hX23.cells
            go_wp2_with fail
            refine H2.out.mono ?_
            rintro e w24 ⟨rfl, hb24⟩
            have HB24 := Lib.hid (HB23.out.trans (hb24.mono HB23.out.size))
            clear hb24 H2 HB23 b0 b1 b2 b3 b4 b5 b6 hX23
            go_wp2_with fail
            go_ret
            exact ⟨by simp; omega, HB24.out⟩
          · have g15 : (j : Int) ≤ 15 := by have := of_decide_eq_true h15; omega
            rw [h15] at HR
            clear h15
            go_wp2_with fail
            refine HR.out.mono ?_
            rintro e w23 ⟨rfl, hb23⟩
            have h2 := treecount_any nj rj w23 (HN'.out.later hb23) hd1
            rw [HC.out] at h2
            unfold ndV rawCells at h2
            have H2 := Lib.hid h2
            have HB23 := Lib.hid (HB.out.trans (hb23.mono HB.out.size))
            have hX23 := HX.out.below hb23
            clear b0 b1 b2 b3 b4 b5 b6 h2 hb23 HR
            obtain ⟨b0, b1, b2, b3, b4, b5, b6⟩ := hX23.cells
            go_wp2_with fail
            refine H2.out.mono ?_
            rintro e w24 ⟨rfl, hb24⟩
            have HB24 := Lib.hid (HB23.out.trans (hb24.mono HB23.out.size))
            clear hb24 H2 HB23 b0 b1 b2 b3 b4 b5 b6 hX23
            go_wp2_with fail
            go_ret
            exact ⟨by simp, HB24.out⟩
end Go.Proofs.YtecgepjdlpjiiaaDoor.tre
