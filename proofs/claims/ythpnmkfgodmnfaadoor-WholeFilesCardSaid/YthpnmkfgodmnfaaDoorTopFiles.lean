/- What the law WholeFiles answers: true. Conditions: the texts are such as were read; the library's MaxLen holds a number. -/
import Derived.Test.YthpnmkfgodmnfaaDoorTopWords
namespace Go.Proofs.YthpnmkfgodmnfaaDoor.tre
set_option maxRecDepth 100000
open Go.RowKit Go.Proofs.YthpnmkfgodmnfaaDoor.words Go.Proofs.YthpnmkfgodmnfaaDoor.ext Go.Proofs.YthpnmkfgodmnfaaDoor.name

def ab2 : ByteArray := ⟨#[97, 98]⟩
theorem ab2_len : (ofB ab2).length = 1 := by decide +kernel
theorem ab2_read : readB 2 (ofB ab2) 1 9 = [98] := by decide +kernel
theorem read_ab (A : Option Addr) (c : Nat) (w : World) (hI : Exts w w.heap.size A (ofB ab2)) (hc : 1 ≤ c) :
    Calls Tryd.prog 36 #[.int .i64 2, .slice A 1 c, .int .i64 1, .int .i64 9] w fun e w' => e = .returned (.string ⟨#[98]⟩) ∧ Below w.heap.size w w' := by
  have h := read_any 2 1 9 A c (ofB ab2) w hI (by rw [ab2_len]; decide) (by rw [ab2_len]; exact hc) (ofB_right ab2 (by decide)) (by decide) (by decide) (by decide) (by decide)
  rw [ab2_len] at h
  exact h.mono fun _ _ ⟨⟨r, he, hx⟩, hb⟩ => ⟨by rw [he, text_same (y := ⟨#[98]⟩) (hx.trans ab2_read)], hb⟩
theorem infoStr : (Tryd.prog.info? 9).map (fun i => (i.zero, i.size, i.bytes)) = some (some (.string ⟨#[]⟩), 1, 16) := by kernel_rfl
theorem infoNd : (Tryd.prog.info? 26).map (fun i => (i.zero, i.size, i.bytes)) = some (some (.agg #[.int .i64 0, .bool false, .slice none 0 0, .slice none 0 0, .int .i64 0, .slice none 0 0, .string ⟨#[]⟩]), 7, 112) := by kernel_rfl
theorem run_letter (i : Nat) (h : i < 26) (wx : World) : (Instr.slice 9 (.string alpha) (some (.int .i64 (i : Int))) (some (.int .i64 ((i : Int) + 1))) none).run Tryd.prog wx = .ok (.string (letter i)) wx := by
  have hz : alpha.size = 26 := rfl
  rw [run_slice_string_if (P := Tryd.prog) (w := wx) 9 alpha .i64 .i64 i (i + 1) Tryd.underlying9, if_pos ⟨by omega, by omega⟩, if_pos ⟨by omega, by omega⟩]
  rfl
theorem own_later {w w' : World} {B size n : Nat} {E : TypeId} {v : Value} {xs : List Value} (h : w.ownsRow B E size v n xs) (hb : Below w.heap.size w w') : w'.ownsRow B E size v n xs := by
  refine ⟨h.1, ?_⟩
  rcases h.2 with h0 | ⟨g, cap, cur, h1, h2, h3, h4⟩
  · exact .inl h0
  · exact .inr ⟨g, cap, cur, h1, h2, (hb.block g (lt_of_some h3)).trans h3, h4⟩
/-- The two rows of the loop. -/
def Rows2 (w : World) (B : Nat) (Q : List ByteArray) (j : Nat) (A5 A6 : Option Addr) (c5 c6 : Nat) : Prop :=
  w.ownsRow B 9 1 (.slice A5 j c5) j ((letters j).map Value.string) ∧ ∃ rs, w.ownsRow B 26 7 (.slice A6 j c6) j (rowCells (filesN (Q.take j)) rs) ∧ Files w (Q.take j) rs
theorem take_len {Q : List ByteArray} {j : Nat} (h : j ≤ Q.length) : (Q.take j).length = j := by rw [List.length_take]; omega

set_option maxHeartbeats 6400000 in
theorem law_files (A : Option Addr) (cap : Nat) (Q : List ByteArray) (k : Nat) (mx : Int) (w : World) (hQ : Txts w w.heap.size A Q) (hl : Q.length * 16 ≤ 140737488355328) (hm : w.cell? ⟨0, 0, none⟩ = some (.int .i64 mx)) (hk2 : k ≤ 255) :
    Calls Tryd.prog 9 #[.slice A Q.length cap, .int .u8 (k : Int)] w fun e w' => e = .returned (.bool true) ∧ Below w.heap.size w w' := by
  have HQ := Lib.hid hQ
  have HM := Lib.hid hm
  clear hQ hm
  go_enter Tryd.func9, Tryd.ntmps9
  go_wp2_with fail
  refine (text_any ab2 w (by decide)).mono ?_
  rintro e w5 ⟨r5, rfl, hn5, hb5⟩
  obtain ⟨W6, hW6⟩ : ∃ W6, W6 = w5.alloc (.cells (rawCells (textN ab2) r5) 26) := ⟨_, rfl⟩
  have hb6 : Below w5.heap.size w5 W6 := by rw [hW6]; exact (Below.refl _ _).alloc (Nat.le_refl _) _
  have hx6 : Box W6 w5.heap.size (textN ab2) r5 := by rw [hW6]; exact Box.new w5 (textN ab2) r5
  have hn6 := hn5.later hb6
  have HB6 := Lib.hid (hb5.trans (hb6.mono hb5.size))
  have hle : (ofB ab2).length ≤ r5.ce := hn5.fit.ce
  have hrc : rawCells (textN ab2) r5 = #[.int .i64 1, .bool false, .slice r5.An 0 r5.cn, .slice r5.Ai 0 r5.ci, .int .i64 2, .slice r5.Ae 1 r5.ce, .string ⟨#[]⟩] := by
    unfold rawCells
    rw [show (textN ab2).E = ofB ab2 from rfl, ab2_len]
    rfl
  have H1 := Lib.hid (read_ab r5.Ae r5.ce W6 hn6.exts (by rw [ab2_len] at hle; exact hle))
  rw [hrc] at hW6
  have HW6 := Lib.hid hW6
  have b4 : W6.cell? ⟨w5.heap.size, 4, none⟩ = some (.int .i64 2) := hx6.cells.2.2.2.2.1
  have b5 : W6.cell? ⟨w5.heap.size, 5, none⟩ = some (.slice r5.Ae 1 r5.ce) := by
    have := hx6.cells.2.2.2.2.2.1
    rw [show (textN ab2).E = ofB ab2 from rfl, ab2_len] at this
    exact this
  have hz5 : ndV (textN ab2) r5 = .agg #[.int .i64 1, .bool false, .slice r5.An 0 r5.cn, .slice r5.Ai 0 r5.ci, .int .i64 2, .slice r5.Ae 1 r5.ce, .string ⟨#[]⟩] := by unfold ndV; rw [hrc]
  rw [hz5]
  clear hn5 hb5 hb6 hx6 hn6 hle hrc hW6 hz5
  go_upto_region 4 with fail
  rw [← HW6.out]
  go_wp2_with fail
  refine H1.out.mono ?_
  rintro e w7 ⟨rfl, hb7⟩
  have HB7 := Lib.hid (HB6.out.trans (hb7.mono HB6.out.size))
  clear hb7 H1 HB6 b4 b5 HW6
  go_upto_region 6 with fail
  by_cases h2 : 26 < Q.length
  · have g2 : (26 : Int) < (Q.length : Int) := by omega
    go_wp2_with fail
    go_ret
    exact ⟨rfl, HB7.out⟩
  have g2 : ¬ (26 : Int) < (Q.length : Int) := by omega
  have hq2 : Q.length ≤ 26 := by omega
  clear h2
  obtain ⟨is, his, sz0, sz1, sz2⟩ := info_parts infoStr
  obtain ⟨i0, hi, hz0, hz1, hz2⟩ := info_parts infoNd
  go_upto_region 8 with fail
  go_wp2_with fail
  go_loopw [5, 6, 33] (fun v5 v6 v33 wr => ∃ (j : Nat) (A5 A6 : Option Addr) (c5 c6 : Nat), j ≤ Q.length ∧ v33 = .int .i64 j ∧ v5 = .slice A5 j c5 ∧ v6 = .slice A6 j c6 ∧ Hid (Rows2 wr w7.heap.size Q j A5 A6 c5 c6) ∧ Hid (Below w7.heap.size w7 wr) ∧ Hid (∀ s ∈ Q.take j, s.size ≤ 1000)) (fun _ _ v33 _ => Q.length - (intOf v33).toNat)
  case atStart => exact ⟨0, none, none, 0, 0, Nat.zero_le _, rfl, rfl, rfl, Lib.hid ⟨World.ownsRow_nil _ _ _ _, fun _ => raw0, World.ownsRow_nil _ _ _ _, fun i x hx => (no_at hx).elim⟩, Lib.hid (Below.refl _ _), Lib.hid (fun s hs => by simp at hs)⟩
  case round =>
    obtain ⟨j, A5, A6, c5, c6, hj, rfl, rfl, rfl, HR, HBr, HS⟩ := hrel
    by_cases hlt : j < Q.length
    · obtain ⟨s, hs⟩ : ∃ s, Q[j]? = some s := ⟨_, List.getElem?_eq_getElem hlt⟩
      have hbr : Below w.heap.size w wr := HB7.out.trans (HBr.out.mono HB7.out.size)
      obtain ⟨⟨b, off, hA, hB, c0⟩, hsz⟩ := (HQ.out.keep hbr) j s hs
      subst hA
      have i0' : (0 : Int) ≤ (j : Int) := by omega
      have i1' : (j : Int) < (Q.length : Int) := by omega
      clear hbr
      by_cases h1 : 1000 < s.size
      · have g1 : (1000 : Int) < (s.size : Int) := by omega
        go_wp2_with fail
        go_ret
        exact ⟨rfl, HB7.out.trans (HBr.out.mono HB7.out.size)⟩
      have g1 : ¬ (1000 : Int) < (s.size : Int) := by omega
      have hs1 : s.size ≤ 1000 := by omega
      clear h1
      have hlet : ∀ wx : World, (Instr.slice 9 (.string ⟨#[97, 98, 99, 100, 101, 102, 103, 104, 105, 106, 107, 108, 109, 110, 111, 112, 113, 114, 115, 116, 117, 118, 119, 120, 121, 122]⟩) (some (.int .i64 (j : Int))) (some (.int .i64 ((j : Int) + 1))) none).run Tryd.prog wx = .ok (.string (letter j)) wx := run_letter j (by omega)
      have q1 : IntKind.i64.wrap ((j : Int) + 1) = (j : Int) + 1 := IntWalk.i64_in _ (by omega)
      obtain ⟨x, hx⟩ : ∃ x, x = letter j := ⟨_, rfl⟩
      rw [← hx] at hlet
      go_upto_region 13 with fail
      obtain ⟨W10, hW10⟩ : ∃ W10, W10 = wr.alloc (.cells #[.string x] 9) := ⟨_, rfl⟩
      have hb10 : Below wr.heap.size wr W10 := by rw [hW10]; exact (Below.refl _ _).alloc (Nat.le_refl _) _
      obtain ⟨ho5, rs, ho6, hfs⟩ := HR.out
      have ho5' := own_later ho5 hb10
      have hnews : ∀ (i : Nat) (u : Value), ([.string x] : List Value)[i]? = some u → W10.cell? ((⟨wr.heap.size, 0, none⟩ : Addr).add i) = some u := fun i u hu => by
        rw [add_place, Nat.zero_add, hW10, cell_of_blk (heap_alloc_new wr _) i, ← Array.getElem?_toList]
        exact hu
      have hzz : W10.heap.size = wr.heap.size + 1 := by rw [hW10]; simp
      have HO5 := Lib.hid ho5'
      have HO6 := Lib.hid (own_later ho6 hb10)
      have HF := Lib.hid (hfs.later hb10)
      have HN := Lib.hid hnews
      have HB10 := Lib.hid (HBr.out.trans (hb10.mono HBr.out.size))
      have HX := Lib.hid hx
      have hsz7 := HBr.out.size
      clear ho5 ho5' ho6 hfs hnews hb10 hx hzz HBr HR
      subst hW10
      go_wp2_with (at_builtin; refine wpList_append_own _ rfl (.tmp 41) (.tmp 46) 22 rfl w7.heap.size 9 is _ 1 16 Tryd.underlying22 his sz0 sz1 sz2 rfl (by omega) (.slice A5 j c5) j ((letters j).map Value.string) rfl HO5.out ⟨wr.heap.size, 0, none⟩ 1 1 [.string x] rfl rfl HN.out (by simp [Value.oneCell']) (by simp only [maxLen]; omega) (by omega) (by simp; omega) ?_; intro v4 w4 hown4 hgrow4 hnil4)
      have hB4 := keep_grown (S := w7.heap.size) HB10.out HO5.out hgrow4 (Nat.le_refl _) (Nat.le_refl _)
      have ho64 := own_grown HO6.out hgrow4 HO5.out (by decide)
      have hf4 := HF.out.grown hgrow4 HO5.out (by decide)
      have he4 : (letters j).map Value.string ++ [.string x] = (letters (j + 1)).map Value.string := by rw [letters_more, List.map_append, HX.out]; rfl
      rw [he4] at hown4
      obtain ⟨A7, c7, rfl, _, _⟩ := own_facts hown4
      have HO57 := Lib.hid hown4
      have HO67 := Lib.hid ho64
      have HF7 := Lib.hid hf4
      have HB7' := Lib.hid hB4
      clear hown4 ho64 hf4 hB4 hgrow4 hnil4 he4 HO5 HO6 HF HN HB10 HX hlet hsz7
      go_wp2_with fail
      refine (text_ty s w4 (by omega)).mono ?_
      rintro e w11 ⟨r11, rfl, hn11, hb11⟩
      obtain ⟨W12, hW12⟩ : ∃ W12, W12 = w11.alloc (.cells (rawCells (textN s) r11) 26) := ⟨_, rfl⟩
      have hb12 : Below w11.heap.size w11 W12 := by rw [hW12]; exact (Below.refl _ _).alloc (Nat.le_refl _) _
      have hb412 : Below w4.heap.size w4 W12 := hb11.trans (hb12.mono hb11.size)
      have hnews : ∀ (i : Nat) (u : Value), (rawCells (textN s) r11).toList[i]? = some u → W12.cell? ((⟨w11.heap.size, 0, none⟩ : Addr).add i) = some u := fun i u hu => by
        rw [add_place, Nat.zero_add, hW12, cell_of_blk (heap_alloc_new w11 _) i, ← Array.getElem?_toList]
        exact hu
      have hone : ∀ u ∈ (rawCells (textN s) r11).toList, u.oneCell' = true := by
        have := rowCells_one [textN s] (fun _ => r11)
        rw [rowCells, rowCells, List.append_nil] at this
        exact this
      have hn12 : NdIn W12 (Ty W12 86) (textN s) r11 := hn11.keep fun _ hb => ty_later hb hb12
      have HO58 := Lib.hid (own_later HO57.out hb412)
      have HO68 := Lib.hid (own_later HO67.out hb412)
      have HF8 := Lib.hid (HF7.out.later hb412)
      have HB8 := Lib.hid (HB7'.out.trans (hb412.mono HB7'.out.size))
      have HN8 := Lib.hid hn12
      have HNs := Lib.hid hnews
      have HOn := Lib.hid hone
      have hsz12 : w7.heap.size ≤ w11.heap.size := Nat.le_trans HB7'.out.size hb11.size
      have hW12' : W12 = w11.alloc (.cells #[.int .i64 1, .bool false, .slice r11.An 0 r11.cn, .slice r11.Ai 0 r11.ci, .int .i64 (s.size : Int), .slice r11.Ae (ofB s).length r11.ce, .string ⟨#[]⟩] 26) := hW12
      have z11 : ndV (textN s) r11 = .agg #[.int .i64 1, .bool false, .slice r11.An 0 r11.cn, .slice r11.Ai 0 r11.ci, .int .i64 (s.size : Int), .slice r11.Ae (ofB s).length r11.ce, .string ⟨#[]⟩] := rfl
      rw [z11]
      clear hn11 hb11 hb12 hb412 hnews hone hn12 hW12 z11 HO57 HO67 HF7 HB7'
      subst hW12'
      go_wp2_with (at_builtin; refine wpList_append_own _ rfl (.tmp 48) (.tmp 51) 23 rfl w7.heap.size 26 i0 _ 7 112 Tryd.underlying23 hi hz0 hz1 hz2 rfl (by omega) (.slice A6 j c6) j (rowCells (filesN (Q.take j)) rs) rfl HO68.out ⟨w11.heap.size, 0, none⟩ 1 1 (rawCells (textN s) r11).toList rfl rfl HNs.out HOn.out (by simp only [maxLen]; omega) (by omega) (by simp; omega) ?_; intro v9 w9 hown9 hgrow9 hnil9)
      have hB9 := keep_grown (S := w7.heap.size) HB8.out HO68.out hgrow9 (Nat.le_refl _) (Nat.le_refl _)
      have ho59 := own_grown HO58.out hgrow9 HO68.out (by decide)
      have hf9 := (HF8.out.grown hgrow9 HO68.out (by decide)).put (HN8.out.keep fun _ hb => ty_grown hb hgrow9 HO68.out (by decide))
      have htk : Q.take (j + 1) = Q.take j ++ [s] := by rw [List.take_add_one, hs]; rfl
      have hln : (Q.take j).length = j := take_len hj
      have he9 : rowCells (filesN (Q.take j)) rs ++ (rawCells (textN s) r11).toList = rowCells (filesN (Q.take (j + 1))) (rawPut rs j r11) := by
        have h := rowCells_put (filesN (Q.take j)) (textN s) rs r11
        rw [filesN_length, hln] at h
        rw [← h, htk]
        unfold filesN
        rw [List.map_append]
        rfl
      rw [he9] at hown9
      rw [hln, ← htk] at hf9
      obtain ⟨A9, c9, rfl, _, _⟩ := own_facts hown9
      have HR9 : Hid (Rows2 w9 w7.heap.size Q (j + 1) A7 A9 c7 c9) := Lib.hid ⟨ho59, _, hown9, hf9⟩
      have HB9 := Lib.hid hB9
      have HS9 : Hid (∀ s' ∈ Q.take (j + 1), s'.size ≤ 1000) := Lib.hid fun s' h' => by
        rw [htk] at h'
        rcases List.mem_append.1 h' with h' | h'
        · exact HS.out s' h'
        · rw [List.mem_singleton.1 h']; exact hs1
      clear hown9 hgrow9 hnil9 hB9 ho59 hf9 he9 HO58 HO68 HF8 HB8 HN8 HNs HOn
      go_wp2_with fail
      go_roundw
      case rel => exact ⟨j + 1, A7, A9, c7, c9, by omega, by go_num, rfl, rfl, HR9, HB9, HS9⟩
      case measure => simp [intOf]; omega
    · obtain rfl : j = Q.length := by omega
      have hbr : Below w.heap.size w wr := HB7.out.trans (HBr.out.mono HB7.out.size)
      obtain ⟨ho5, rs, ho6, hfs⟩ := HR.out
      rw [List.take_length] at ho6 hfs
      have hT5 : Txts wr wr.heap.size A5 (letters Q.length) := (own_txt ho5 fun i y hy => letters_small hy).txts fun b hb => hb.2
      have hIt : ∀ (i : Nat) (y : Nd), (filesN Q)[i]? = some y → NdAt wr wr.heap.size y (rs i) := fun i y hy => (hfs i y hy).at_ fun b ⟨_, hc⟩ => lt_of_some hc
      have hLi : Lies wr A6 (rowCells (filesN Q) rs) := fun i u hu => by
        obtain ⟨g, cur, g1, _, g3, _, g5⟩ := own_cell ho6 hu
        exact ⟨g, 0, g1, g3, by rw [Nat.zero_add]; exact g5⟩
      obtain ⟨A', c', hv, hn5, hz5⟩ := own_facts ho5
      injection hv with hA' _ hc'
      subst hA' hc'
      obtain ⟨A', c', hv, hn6, hz6⟩ := own_facts ho6
      injection hv with hA' _ hc'
      subst hA' hc'
      have hdir := dir_any A5 A6 c5 c6 (letters Q.length) (filesN Q) rs wr hT5 hLi hIt (by rw [letters_length]; omega) (by rw [filesN_length]; omega) (by rw [letters_length]; exact hz5) (by rw [filesN_length]; exact hz6)
      rw [letters_length, filesN_length] at hdir
      obtain ⟨d, hd⟩ : ∃ d, d = dirN (letters Q.length) (filesN Q) := ⟨_, rfl⟩
      rw [← hd] at hdir
      have hvd : ∀ r13 : Raw, ndV d r13 = .agg #[.int .i64 2, .bool false, .slice r13.An Q.length r13.cn, .slice r13.Ai Q.length r13.ci, .int .i64 0, .slice r13.Ae 0 r13.ce, .string ⟨#[]⟩] := fun r13 => by
        rw [hd]
        unfold ndV rawCells
        rw [show (dirN (letters Q.length) (filesN Q)).N.length = Q.length from letters_length _, show (dirN (letters Q.length) (filesN Q)).I.length = Q.length from filesN_length _]
        rfl
      have HD := Lib.hid hd
      have HVd := Lib.hid hvd
      have HDir := Lib.hid hdir
      have HT5 := Lib.hid hT5
      have HBw := Lib.hid hbr
      clear ho5 ho6 hfs hT5 hIt hLi hn5 hz5 hn6 hz6 hdir hd hvd hbr HBr HR his sz0 sz1 sz2 hi hz0 hz1 hz2
      go_wp2_with fail
      refine HDir.out.mono ?_
      rintro e w13 ⟨r13, rfl, hn13, hb13⟩
      rw [HVd.out]
      obtain ⟨W14, hW14⟩ : ∃ W14, W14 = w13.alloc (.cells #[.int .i64 2, .bool false, .slice r13.An Q.length r13.cn, .slice r13.Ai Q.length r13.ci, .int .i64 0, .slice r13.Ae 0 r13.ce, .string ⟨#[]⟩] 26) := ⟨_, rfl⟩
      have hb14 : Below w13.heap.size w13 W14 := by rw [hW14]; exact (Below.refl _ _).alloc (Nat.le_refl _) _
      have hX14 : W14.heap[w13.heap.size]? = some (.cells #[.int .i64 2, .bool false, .slice r13.An Q.length r13.cn, .slice r13.Ai Q.length r13.ci, .int .i64 0, .slice r13.Ae 0 r13.ce, .string ⟨#[]⟩] 26 (0, 0)) := by rw [hW14]; exact heap_alloc_new w13 _
      have hbw14 : Below wr.heap.size wr W14 := hb13.trans (hb14.mono hb13.size)
      have HN14 := Lib.hid (hn13.later hb14)
      have HB14 := Lib.hid (HBw.out.trans (hbw14.mono HBw.out.size))
      have HT14 := Lib.hid ((HT5.out.keep hbw14).more hbw14.size)
      have HM14 := Lib.hid (below_cell HM.out HB14.out)
      have HR7 : Hid (∀ w' : World, Below W14.heap.size W14 w' → (w'.cell? ⟨w13.heap.size, 0, none⟩ = some (.int .i64 2) ∧ w'.cell? ⟨w13.heap.size, 1, none⟩ = some (.bool false) ∧ w'.cell? ⟨w13.heap.size, 2, none⟩ = some (.slice r13.An Q.length r13.cn) ∧ w'.cell? ⟨w13.heap.size, 3, none⟩ = some (.slice r13.Ai Q.length r13.ci) ∧ w'.cell? ⟨w13.heap.size, 4, none⟩ = some (.int .i64 0) ∧ w'.cell? ⟨w13.heap.size, 5, none⟩ = some (.slice r13.Ae 0 r13.ce) ∧ w'.cell? ⟨w13.heap.size, 6, none⟩ = some (.string ⟨#[]⟩))) := Lib.hid fun w' hb => by
        have hx := (hb.block _ (lt_of_some hX14)).trans hX14
        exact ⟨cell_of_blk hx 0, cell_of_blk hx 1, cell_of_blk hx 2, cell_of_blk hx 3, cell_of_blk hx 4, cell_of_blk hx 5, cell_of_blk hx 6⟩
      have hsz : ∀ s ∈ Q, s.size ≤ 1000 := fun s hs => HS.out s (by rw [List.take_length]; exact hs)
      have HSz := Lib.hid hsz
      have HDp : Hid (depth d ≤ 1000) := by rw [HD.out]; exact Lib.hid (files_depth Q)
      have htr : treeB d = true := by rw [HD.out]; exact files_right Q hq2 fun s hs => Nat.le_trans (hsz s hs) (by decide)
      have hct : countC d = (Q.length : Int) + 1 := by rw [HD.out]; exact files_count Q hq2
      have J1 := treeright_any d r13 mx W14 HN14.out HM14.out HDp.out
      rw [HVd.out, htr] at J1
      have J2 : ∀ w' : World, Below W14.heap.size W14 w' → Calls Tryd.prog 39 #[.agg #[.int .i64 2, .bool false, .slice r13.An Q.length r13.cn, .slice r13.Ai Q.length r13.ci, .int .i64 0, .slice r13.Ae 0 r13.ce, .string ⟨#[]⟩]] w' fun e w'' => e = .returned (.int .i64 ((Q.length : Int) + 1)) ∧ Below w'.heap.size w' w'' := fun w' hb => by
        have h := treecount_any d r13 w' (HN14.out.later hb) HDp.out
        rwa [HVd.out, hct] at h
      have J1 := Lib.hid J1
      have J2 := Lib.hid J2
      have HW14 := Lib.hid hW14
      have q2 : IntKind.i64.wrap ((Q.length : Int) + 1) = (Q.length : Int) + 1 := IntWalk.i64_in _ (by omega)
      clear hn13 hb13 hb14 hX14 hbw14 hsz htr hct hW14 HDir HT5 HBw HS
      go_upto_region 17 with fail
      rw [← HW14.out]
      obtain ⟨b0, b1, b2, b3, b4, b5, b6⟩ := HR7.out _ (Below.refl _ _)
      go_wp2_with fail
      refine J1.out.mono ?_
      rintro e w17 ⟨rfl, hb17⟩
      have HB17 := Lib.hid hb17
      clear b0 b1 b2 b3 b4 b5 b6 hb17 HW14
      obtain ⟨b0, b1, b2, b3, b4, b5, b6⟩ := HR7.out _ HB17.out
      go_wp2_with fail
      refine (J2.out _ HB17.out).mono ?_
      rintro e w18 ⟨rfl, hb18⟩
      have HB18 := Lib.hid (HB17.out.trans (hb18.mono HB17.out.size))
      clear b0 b1 b2 b3 b4 b5 b6 hb18 HB17 J1 J2
      go_upto_region 19 with fail
      go_wp2_with fail
      rename World => wo
      go_loopw [70] (fun v70 wr => ∃ j : Nat, j ≤ Q.length ∧ v70 = .int .i64 j ∧ Hid (Below W14.heap.size W14 wr)) (fun v70 _ => Q.length - (intOf v70).toNat)
      case atStart => exact ⟨0, Nat.zero_le _, rfl, HB18⟩
      case round =>
        obtain ⟨j, hj, rfl, HBr⟩ := hrel
        by_cases hlt : j < Q.length
        · obtain ⟨s, hs⟩ : ∃ s, Q[j]? = some s := ⟨_, List.getElem?_eq_getElem hlt⟩
          have hs1 : s.size ≤ 1000 := HSz.out s (List.mem_of_getElem? hs)
          obtain ⟨⟨b, off, hA, hB, c0⟩, _⟩ := (HQ.out.keep (HB14.out.trans (HBr.out.mono HB14.out.size))) j s hs
          subst hA
          obtain ⟨x, hx⟩ : ∃ x, x = letter j := ⟨_, rfl⟩
          have hxj : (letters Q.length)[j]? = some x := by rw [hx]; exact letters_at hlt
          obtain ⟨⟨g5, o5, hA5, hB5, c5'⟩, _⟩ := HT14.out j x hxj
          subst hA5
          have i0' : (0 : Int) ≤ (j : Int) := by omega
          have i1' : (j : Int) < (Q.length : Int) := by omega
          have HS : Hid (∀ w' : World, Below W14.heap.size W14 w' → ((w'.cell? ⟨w13.heap.size, 0, none⟩ = some (.int .i64 2) ∧ w'.cell? ⟨w13.heap.size, 1, none⟩ = some (.bool false) ∧ w'.cell? ⟨w13.heap.size, 2, none⟩ = some (.slice r13.An Q.length r13.cn) ∧ w'.cell? ⟨w13.heap.size, 3, none⟩ = some (.slice r13.Ai Q.length r13.ci) ∧ w'.cell? ⟨w13.heap.size, 4, none⟩ = some (.int .i64 0) ∧ w'.cell? ⟨w13.heap.size, 5, none⟩ = some (.slice r13.Ae 0 r13.ce) ∧ w'.cell? ⟨w13.heap.size, 6, none⟩ = some (.string ⟨#[]⟩)) ∧ w'.cell? ⟨g5, o5 + j, none⟩ = some (.string x) ∧ Below W14.heap.size W14 w')) := Lib.hid fun w' hb => ⟨HR7.out w' hb, (hb.cell (p := ⟨g5, o5 + j, none⟩) hB5).trans c5', hb⟩
          have HSd := Lib.hid (HS.out _ HBr.out.drew)
          have JF : Hid (∀ w' : World, Below W14.heap.size W14 w' → Calls Tryd.prog 40 #[.agg #[.int .i64 2, .bool false, .slice r13.An Q.length r13.cn, .slice r13.Ai Q.length r13.ci, .int .i64 0, .slice r13.Ae 0 r13.ce, .string ⟨#[]⟩], .string x] w' fun e w'' => ∃ r' : Raw, e = .returned (.tuple #[.agg #[.int .i64 1, .bool false, .slice r'.An 0 r'.cn, .slice r'.Ai 0 r'.ci, .int .i64 (s.size : Int), .slice r'.Ae (ofB s).length r'.ce, .string ⟨#[]⟩], .bool true]) ∧ NdIn w'' (fun b => w'.heap.size ≤ b ∧ b < w''.heap.size) (textN s) r' ∧ Below w'.heap.size w' w'') := Lib.hid fun w' hb => by
            have hrise : riseB d.N = true := by rw [HD.out]; exact letters_rise _ (by omega)
            have h := find_any d r13 x w' (HN14.out.later hb) (riseB_asc hrise) (by rw [HD.out]; exact (letters_length _).trans (filesN_length _).symm) HDp.out
            rw [HVd.out] at h
            refine h.mono fun e w'' hf => ?_
            obtain ⟨⟨i, y, r', h1, h2, rfl, h3⟩ | ⟨_, hno⟩, hb'⟩ := hf
            · have hdj : d.N[j]? = some x := by rw [HD.out]; exact hxj
              obtain rfl : i = j := (riseB_asc hrise).one h1 hdj
              have hy : d.I[i]? = some (textN s) := by rw [HD.out]; exact filesN_at hs
              rw [hy] at h2
              obtain rfl : textN s = y := Option.some.inj h2
              exact ⟨r', rfl, h3, hb'⟩
            · exact (hno j (by rw [HD.out]; exact hxj)).elim
          have HX := Lib.hid hx
          clear hx hxj
          go_upto_region 22 with fail
          refine wp_region_held_drew (S := fun w' => (w'.cell? ⟨w13.heap.size, 0, none⟩ = some (.int .i64 2) ∧ w'.cell? ⟨w13.heap.size, 1, none⟩ = some (.bool false) ∧ w'.cell? ⟨w13.heap.size, 2, none⟩ = some (.slice r13.An Q.length r13.cn) ∧ w'.cell? ⟨w13.heap.size, 3, none⟩ = some (.slice r13.Ai Q.length r13.ci) ∧ w'.cell? ⟨w13.heap.size, 4, none⟩ = some (.int .i64 0) ∧ w'.cell? ⟨w13.heap.size, 5, none⟩ = some (.slice r13.Ae 0 r13.ce) ∧ w'.cell? ⟨w13.heap.size, 6, none⟩ = some (.string ⟨#[]⟩)) ∧ w'.cell? ⟨g5, o5 + j, none⟩ = some (.string x) ∧ Below W14.heap.size W14 w') (by kernel_rfl) HSd.out (fun hHeld => ?_)
          refine wpAnyH_take (i := 0) (oi := ⟨some 76, _, _, _, _, _⟩) (v := ?_) rfl (by kernel_rfl) (by kernel_rfl) (by kernel_rfl) (fun _ _ _ h => h) (Or.inl ⟨by kernel_rfl, ?_⟩) (by assumption) ?_
          rotate_left 1
          focus (intro w' hSw; (try dsimp only at hSw); go_simp; (try with_reducible rfl))
          try simp only [Act.put, List.setIfInBounds_toArray, List.set_cons_zero, List.set_cons_succ]
          refine wpAnyH_take (i := 1) (oi := ⟨some 77, _, _, _, _, _⟩) (v := ?_) rfl (by kernel_rfl) (by kernel_rfl) (by kernel_rfl) (fun _ _ _ h => h) (Or.inl ⟨by kernel_rfl, ?_⟩) (by assumption) ?_
          rotate_left 1
          focus (intro w' hSw; (try dsimp only at hSw); go_simp; (try with_reducible rfl))
          try simp only [Act.put, List.setIfInBounds_toArray, List.set_cons_zero, List.set_cons_succ]
          refine wpAnyH_take (i := 2) (oi := ⟨some 78, _, _, _, _, _⟩) (v := ?_) rfl (by kernel_rfl) (by kernel_rfl) (by kernel_rfl) (fun _ _ _ h => h) (Or.inl ⟨by kernel_rfl, ?_⟩) (by assumption) ?_
          rotate_left 1
          focus (intro w' hSw; (try dsimp only at hSw); go_simp; (try with_reducible rfl))
          try simp only [Act.put, List.setIfInBounds_toArray, List.set_cons_zero, List.set_cons_succ]
          refine wpAnyH_take (i := 3) (oi := ⟨some 79, _, _, _, _, _⟩) (v := ?_) rfl (by kernel_rfl) (by kernel_rfl) (by kernel_rfl) (fun _ _ _ h => h) (Or.inl ⟨by kernel_rfl, ?_⟩) (by assumption) ?_
          rotate_left 1
          focus (intro w' hSw; (try dsimp only at hSw); go_simp; (try with_reducible rfl))
          try simp only [Act.put, List.setIfInBounds_toArray, List.set_cons_zero, List.set_cons_succ]
          refine wpAnyH_take (i := 4) (oi := ⟨some 80, _, _, _, _, _⟩) (v := ?_) rfl (by kernel_rfl) (by kernel_rfl) (by kernel_rfl) (fun _ _ _ h => h) (Or.inl ⟨by kernel_rfl, ?_⟩) (by assumption) ?_
          rotate_left 1
          focus (intro w' hSw; (try dsimp only at hSw); go_simp; (try with_reducible rfl))
          try simp only [Act.put, List.setIfInBounds_toArray, List.set_cons_zero, List.set_cons_succ]
          refine wpAnyH_ready (rs := [5, 9]) (by kernel_rfl) (by simp) ?_
          refine AllReadyH.cons rfl (fun K hK => ?_) (AllReadyH.cons rfl (fun K hK => ?_) AllReadyH.nil)
          go_simp
          go_at_call 40
          refine (JF.out _ HBr.out.drew).mono ?_
          rintro e v1 ⟨rn, rfl, hn1, hv1⟩
          have hb1 := HBr.out.drew.trans (hv1.mono HBr.out.drew.size)
          clear hHeld
          refine hK.out _ _ (HS.out _ hb1) (fun hHeld => ?_)
          clear hK
          refine wpAnyH_take (i := 6) (oi := ⟨some 75, _, _, _, _, _⟩) (v := ?_) rfl (by kernel_rfl) (by kernel_rfl) (by kernel_rfl) (fun _ _ _ h => h) (Or.inl ⟨by kernel_rfl, ?_⟩) (by assumption) ?_
          rotate_left 1
          focus (intro w' hSw; (try dsimp only at hSw); go_simp; (try with_reducible rfl))
          try simp only [Act.put, List.setIfInBounds_toArray, List.set_cons_zero, List.set_cons_succ]
          refine wpAnyH_take (i := 7) (oi := ⟨some 82, _, _, _, _, _⟩) (v := ?_) rfl (by kernel_rfl) (by kernel_rfl) (by kernel_rfl) (fun _ _ _ h => h) (Or.inl ⟨by kernel_rfl, ?_⟩) (by assumption) ?_
          rotate_left 1
          focus (intro w' hSw; (try dsimp only at hSw); go_simp; (try with_reducible rfl))
          try simp only [Act.put, List.setIfInBounds_toArray, List.set_cons_zero, List.set_cons_succ]
          refine wpAnyH_take (i := 8) (oi := ⟨some 83, _, _, _, _, _⟩) (v := ?_) rfl (by kernel_rfl) (by kernel_rfl) (by kernel_rfl) (fun _ _ _ h => h) (Or.inl ⟨by kernel_rfl, ?_⟩) (by assumption) ?_
          rotate_left 1
          focus (intro w' hSw; (try dsimp only at hSw); go_simp; (try with_reducible rfl))
          try simp only [Act.put, List.setIfInBounds_toArray, List.set_cons_zero, List.set_cons_succ]
          refine wpAnyH_ready (rs := [9]) (by kernel_rfl) (by simp) ?_
          refine AllReadyH.cons rfl (fun K hK => ?_) AllReadyH.nil
          go_simp
          obtain ⟨W23, hW23⟩ : ∃ W23, W23 = v1.alloc (.cells (rawCells nd0 raw0) 26) := ⟨_, rfl⟩
          have hx23 : Box W23 v1.heap.size nd0 raw0 := by rw [hW23]; exact Box.new v1 nd0 raw0
          have hb23 : Below v1.heap.size v1 W23 := by rw [hW23]; exact (Below.refl _ _).alloc (Nat.le_refl _) _
          have hn23 : NdIn W23 (fun b => b ≠ v1.heap.size ∧ b < W23.heap.size) (textN s) rn := hn1.keep fun b hb => ⟨hb23.block b hb.2, by omega, Nat.lt_of_lt_of_le hb.2 hb23.size⟩
          have hbb := hb1.trans (hb23.mono hb1.size)
          have hW23' : W23 = v1.alloc (.cells #[.int .i64 0, .bool false, .slice none 0 0, .slice none 0 0, .int .i64 0, .slice none 0 0, .string ⟨#[]⟩] 26) := hW23
          rw [← hW23']
          obtain ⟨gn, hgn⟩ : ∃ gn, gn = v1.heap.size := ⟨_, rfl⟩
          have hge : W14.heap.size ≤ gn := by rw [hgn]; exact hb1.size
          rw [← hgn] at hx23 hn23 ⊢
          clear hW23 hW23' hn1 hv1 hb1 hb23 hgn
          clear hHeld
          refine hK.out _ _ (HS.out _ hbb) (fun hHeld => ?_)
          clear hK
          have z0 := free_of_blk hx23 0
          have z1 := free_of_blk hx23 1
          have z2 := free_of_blk hx23 2
          have z3 := free_of_blk hx23 3
          have z4 := free_of_blk hx23 4
          have z5 := free_of_blk hx23 5
          have z6 := free_of_blk hx23 6
          obtain ⟨d0, d1, d2, d3, d4, d5, d6⟩ := hx23.cells
          refine wpAnyH_ready (rs := [10]) (by kernel_rfl) (by simp) ?_
          refine AllReadyH.cons rfl (fun K hK => ?_) AllReadyH.nil
          go_simp
          have hob := hx23.over (m := textN s) (q := rn)
          have hsz24 := size_setCells gn (rawCells (textN s) rn).toList 0 W23
          have hb24 := below_setCells (w := W14) (B := W14.heap.size) hge (rawCells (textN s) rn).toList 0 W23 hbb
          obtain ⟨Wn, hWn⟩ : ∃ Wn, Wn = W23.setCells gn 0 (rawCells (textN s) rn).toList := ⟨_, rfl⟩
          rw [← hWn] at hob hsz24 hb24
          have hWn' : ((((((W23.setCell ⟨gn, 0, none⟩ (.int .i64 1)).setCell ⟨gn, 1, none⟩ (.bool false)).setCell ⟨gn, 2, none⟩ (.slice rn.An 0 rn.cn)).setCell ⟨gn, 3, none⟩ (.slice rn.Ai 0 rn.ci)).setCell ⟨gn, 4, none⟩ (.int .i64 (s.size : Int))).setCell ⟨gn, 5, none⟩ (.slice rn.Ae (ofB s).length rn.ce)).setCell ⟨gn, 6, none⟩ (.string ⟨#[]⟩) = Wn := (set_all W23 gn (textN s) rn).trans hWn.symm
          have hn24 : NdAt Wn Wn.heap.size (textN s) rn := (hn23.keep (P' := fun b => b < Wn.heap.size) fun b hb => ⟨by rw [hWn]; exact World.heap_setCells_other W23 gn 0 _ hb.2 hb.1, by rw [hsz24]; exact hb.2⟩).at_ fun b hb => hb
          rw [hWn']
          refine hK.out _ _ (HS.out _ hb24) (fun hHeld => ?_)
          clear hK hWn hWn' hsz24 hn23 hbb hge hx23 z0 z1 z2 z3 z4 z5 z6 d0 d1 d2 d3 d4 d5 d6
          refine wpAnyH_take (i := 11) (oi := ⟨some 14, _, _, _, _, _⟩) (v := ?_) rfl (by kernel_rfl) (by kernel_rfl) (by kernel_rfl) (fun _ _ _ h => h) (Or.inl ⟨by kernel_rfl, ?_⟩) (by assumption) ?_
          rotate_left 1
          focus (intro w' hSw; (try dsimp only at hSw); go_simp; (try with_reducible rfl))
          try simp only [Act.put, List.setIfInBounds_toArray, List.set_cons_zero, List.set_cons_succ]
          refine wpAnyH_done (by kernel_rfl) ?_ _
          rotate_left 1
          go_simp
          obtain ⟨W22, hW22⟩ : ∃ W22, W22 = (wr.alloc (.cells (rawCells nd0 raw0) 26)).drew := ⟨_, rfl⟩
          have hx22 : Box W22 wr.heap.size nd0 raw0 := by rw [hW22]; exact Box.new wr nd0 raw0
          have hb22 : Below W14.heap.size W14 W22 := by rw [hW22]; exact (HBr.out.alloc HBr.out.size _).drew
          have hW22' : W22 = (wr.alloc (.cells #[.int .i64 0, .bool false, .slice none 0 0, .slice none 0 0, .int .i64 0, .slice none 0 0, .string ⟨#[]⟩] 26)).drew := hW22
          rw [← hW22']
          obtain ⟨gn, hgn⟩ : ∃ gn, gn = wr.heap.size := ⟨_, rfl⟩
          have hge : W14.heap.size ≤ gn := by rw [hgn]; exact HBr.out.size
          rw [← hgn] at hx22 ⊢
          clear hHeld
          refine hK.out _ _ (HS.out _ hb22) (fun hHeld => ?_)
          clear hK hW22 hW22' hgn
          refine wpAnyH_ready (rs := [5]) (by kernel_rfl) (by simp) ?_
          refine AllReadyH.cons rfl (fun K hK => ?_) AllReadyH.nil
          go_simp
          go_at_call 40
          refine (JF.out _ hb22).mono ?_
          rintro e W23 ⟨rn, rfl, hn1, hv1⟩
          have hbb := hb22.trans (hv1.mono hb22.size)
          have hx23 := hx22.below hv1
          have hlt22 := hx22.lt
          have hn23 : NdIn W23 (fun b => b ≠ gn ∧ b < W23.heap.size) (textN s) rn := hn1.keep fun b hb => ⟨rfl, by omega, hb.2⟩
          clear hHeld
          refine hK.out _ _ (HS.out _ hbb) (fun hHeld => ?_)
          clear hK hn1 hv1 hx22 hb22 hlt22
          refine wpAnyH_take (i := 6) (oi := ⟨some 75, _, _, _, _, _⟩) (v := ?_) rfl (by kernel_rfl) (by kernel_rfl) (by kernel_rfl) (fun _ _ _ h => h) (Or.inl ⟨by kernel_rfl, ?_⟩) (by assumption) ?_
          rotate_left 1
          focus (intro w' hSw; (try dsimp only at hSw); go_simp; (try with_reducible rfl))
          try simp only [Act.put, List.setIfInBounds_toArray, List.set_cons_zero, List.set_cons_succ]
          refine wpAnyH_take (i := 7) (oi := ⟨some 82, _, _, _, _, _⟩) (v := ?_) rfl (by kernel_rfl) (by kernel_rfl) (by kernel_rfl) (fun _ _ _ h => h) (Or.inl ⟨by kernel_rfl, ?_⟩) (by assumption) ?_
          rotate_left 1
          focus (intro w' hSw; (try dsimp only at hSw); go_simp; (try with_reducible rfl))
          try simp only [Act.put, List.setIfInBounds_toArray, List.set_cons_zero, List.set_cons_succ]
          refine wpAnyH_take (i := 8) (oi := ⟨some 83, _, _, _, _, _⟩) (v := ?_) rfl (by kernel_rfl) (by kernel_rfl) (by kernel_rfl) (fun _ _ _ h => h) (Or.inl ⟨by kernel_rfl, ?_⟩) (by assumption) ?_
          rotate_left 1
          focus (intro w' hSw; (try dsimp only at hSw); go_simp; (try with_reducible rfl))
          try simp only [Act.put, List.setIfInBounds_toArray, List.set_cons_zero, List.set_cons_succ]
          have z0 := free_of_blk hx23 0
          have z1 := free_of_blk hx23 1
          have z2 := free_of_blk hx23 2
          have z3 := free_of_blk hx23 3
          have z4 := free_of_blk hx23 4
          have z5 := free_of_blk hx23 5
          have z6 := free_of_blk hx23 6
          obtain ⟨d0, d1, d2, d3, d4, d5, d6⟩ := hx23.cells
          refine wpAnyH_ready (rs := [10]) (by kernel_rfl) (by simp) ?_
          refine AllReadyH.cons rfl (fun K hK => ?_) AllReadyH.nil
          go_simp
          have hob := hx23.over (m := textN s) (q := rn)
          have hsz24 := size_setCells gn (rawCells (textN s) rn).toList 0 W23
          have hb24 := below_setCells (w := W14) (B := W14.heap.size) hge (rawCells (textN s) rn).toList 0 W23 hbb
          obtain ⟨Wn, hWn⟩ : ∃ Wn, Wn = W23.setCells gn 0 (rawCells (textN s) rn).toList := ⟨_, rfl⟩
          rw [← hWn] at hob hsz24 hb24
          have hWn' : ((((((W23.setCell ⟨gn, 0, none⟩ (.int .i64 1)).setCell ⟨gn, 1, none⟩ (.bool false)).setCell ⟨gn, 2, none⟩ (.slice rn.An 0 rn.cn)).setCell ⟨gn, 3, none⟩ (.slice rn.Ai 0 rn.ci)).setCell ⟨gn, 4, none⟩ (.int .i64 (s.size : Int))).setCell ⟨gn, 5, none⟩ (.slice rn.Ae (ofB s).length rn.ce)).setCell ⟨gn, 6, none⟩ (.string ⟨#[]⟩) = Wn := (set_all W23 gn (textN s) rn).trans hWn.symm
          have hn24 : NdAt Wn Wn.heap.size (textN s) rn := (hn23.keep (P' := fun b => b < Wn.heap.size) fun b hb => ⟨by rw [hWn]; exact World.heap_setCells_other W23 gn 0 _ hb.2 hb.1, by rw [hsz24]; exact hb.2⟩).at_ fun b hb => hb
          rw [hWn']
          refine hK.out _ _ (HS.out _ hb24) (fun hHeld => ?_)
          clear hK hWn hWn' hsz24 hn23 hbb hge hx23 z0 z1 z2 z3 z4 z5 z6 d0 d1 d2 d3 d4 d5 d6
          refine wpAnyH_take (i := 11) (oi := ⟨some 14, _, _, _, _, _⟩) (v := ?_) rfl (by kernel_rfl) (by kernel_rfl) (by kernel_rfl) (fun _ _ _ h => h) (Or.inl ⟨by kernel_rfl, ?_⟩) (by assumption) ?_
          rotate_left 1
          focus (intro w' hSw; (try dsimp only at hSw); go_simp; (try with_reducible rfl))
          try simp only [Act.put, List.setIfInBounds_toArray, List.set_cons_zero, List.set_cons_succ]
          refine wpAnyH_done (by kernel_rfl) ?_ _
          all_goals
            have HXn := Lib.hid hob
            have HNn := Lib.hid hn24
            have HBn := Lib.hid hb24
            clear hob hn24 hb24 hHeld HS HSd JF HX
            obtain ⟨m, hm1, hm2⟩ : ∃ m : Nat, min (k : Int) (s.size : Int) = (m : Int) ∧ m ≤ s.size := ⟨min k s.size, by omega, Nat.min_le_right _ _⟩
            have HS : Hid (∀ w' : World, Below Wn.heap.size Wn w' → ((w'.cell? ⟨gn, 0, none⟩ = some (.int .i64 1) ∧ w'.cell? ⟨gn, 1, none⟩ = some (.bool false) ∧ w'.cell? ⟨gn, 2, none⟩ = some (.slice rn.An 0 rn.cn) ∧ w'.cell? ⟨gn, 3, none⟩ = some (.slice rn.Ai 0 rn.ci) ∧ w'.cell? ⟨gn, 4, none⟩ = some (.int .i64 (s.size : Int)) ∧ w'.cell? ⟨gn, 5, none⟩ = some (.slice rn.Ae (ofB s).length rn.ce) ∧ w'.cell? ⟨gn, 6, none⟩ = some (.string ⟨#[]⟩)) ∧ Below Wn.heap.size Wn w')) := Lib.hid fun w' hb => by
              obtain ⟨b0, b1, b2, b3, b4, b5, b6⟩ := (HXn.out.below hb).cells
              exact ⟨⟨b0, b1, b2, b3, b4, b5, b6⟩, hb⟩
            have HSd := Lib.hid (HS.out _ (Below.refl Wn.heap.size Wn).drew)
            have hln := ofB_length s
            have hce : (ofB s).length ≤ rn.ce := HNn.out.fit.ce
            obtain ⟨ra, hra⟩ : ∃ r : ByteArray, r.data.toList = readB (s.size : Int) (ofB s) 0 (m : Int) := ⟨⟨(readB (s.size : Int) (ofB s) 0 (m : Int)).toArray⟩, rfl⟩
            obtain ⟨rb, hrb⟩ : ∃ r : ByteArray, r.data.toList = readB (s.size : Int) (ofB s) (m : Int) (s.size : Int) := ⟨⟨(readB (s.size : Int) (ofB s) (m : Int) (s.size : Int)).toArray⟩, rfl⟩
            have hab : ra ++ rb = s := parts_read s ra rb m hm2 hra hrb
            have J1 : Hid (∀ w' : World, Below Wn.heap.size Wn w' → Calls Tryd.prog 41 #[.int .i64 (s.size : Int), .slice rn.Ae (ofB s).length rn.ce] w' fun e w'' => e = .returned (.bool true) ∧ Below Wn.heap.size Wn w'') := Lib.hid fun w' hb =>
              (right_any (s.size : Int) rn.Ae rn.ce (ofB s) w' ((HNn.out.later hb).exts) (by omega) (by omega) (by omega)).mono fun _ _ ⟨he, hw⟩ => ⟨by rw [he, ofB_right s (by omega)], hb.trans (hw.mono hb.size)⟩
            have J2 : Hid (∀ w' : World, Below Wn.heap.size Wn w' → Calls Tryd.prog 36 #[.int .i64 (s.size : Int), .slice rn.Ae (ofB s).length rn.ce, .int .i64 0, .int .i64 (m : Int)] w' fun e w'' => e = .returned (.string ra) ∧ Below Wn.heap.size Wn w'') := Lib.hid fun w' hb =>
              (read_any (s.size : Int) 0 (m : Int) rn.Ae rn.ce (ofB s) w' ((HNn.out.later hb).exts) (by omega) hce (ofB_right s (by omega)) (by omega) (by omega) (by omega) (by omega)).mono fun _ _ ⟨⟨r, he, hx⟩, hw⟩ => ⟨by rw [he, text_same (hx.trans hra.symm)], hb.trans (hw.mono hb.size)⟩
            have J3 : Hid (∀ w' : World, Below Wn.heap.size Wn w' → Calls Tryd.prog 36 #[.int .i64 (s.size : Int), .slice rn.Ae (ofB s).length rn.ce, .int .i64 (m : Int), .int .i64 (s.size : Int)] w' fun e w'' => e = .returned (.string rb) ∧ Below Wn.heap.size Wn w'') := Lib.hid fun w' hb =>
              (read_any (s.size : Int) (m : Int) (s.size : Int) rn.Ae rn.ce (ofB s) w' ((HNn.out.later hb).exts) (by omega) hce (ofB_right s (by omega)) (by omega) (by omega) (by omega) (by omega)).mono fun _ _ ⟨⟨r, he, hx⟩, hw⟩ => ⟨by rw [he, text_same (hx.trans hrb.symm)], hb.trans (hw.mono hb.size)⟩
            have hcat : ¬ 9223372036854775807 < ra.size + rb.size := by
              have := congrArg ByteArray.size hab
              rw [ByteArray.size_append] at this
              omega
            have Hab := Lib.hid hab
            have Hm1 := Lib.hid hm1
            clear hra hrb hab hm1 hm2
            have qk : IntKind.i64.wrap (k : Int) = (k : Int) := IntWalk.i64_in _ (by omega)
            go_wp2_with fail
            rw [Hm1.out]
            refine wp_region_held_drew (S := fun w' => (w'.cell? ⟨gn, 0, none⟩ = some (.int .i64 1) ∧ w'.cell? ⟨gn, 1, none⟩ = some (.bool false) ∧ w'.cell? ⟨gn, 2, none⟩ = some (.slice rn.An 0 rn.cn) ∧ w'.cell? ⟨gn, 3, none⟩ = some (.slice rn.Ai 0 rn.ci) ∧ w'.cell? ⟨gn, 4, none⟩ = some (.int .i64 (s.size : Int)) ∧ w'.cell? ⟨gn, 5, none⟩ = some (.slice rn.Ae (ofB s).length rn.ce) ∧ w'.cell? ⟨gn, 6, none⟩ = some (.string ⟨#[]⟩)) ∧ Below Wn.heap.size Wn w') (by kernel_rfl) HSd.out (fun hHeld => ?_)
            refine wpAnyH_take (i := 0) (oi := ⟨some 89, _, _, _, _, _⟩) (v := ?_) rfl (by kernel_rfl) (by kernel_rfl) (by kernel_rfl) (fun _ _ _ h => h) (Or.inl ⟨by kernel_rfl, ?_⟩) (by assumption) ?_
            rotate_left 1
            focus (intro w' hSw; (try dsimp only at hSw); go_simp; (try with_reducible rfl))
            try simp only [Act.put, List.setIfInBounds_toArray, List.set_cons_zero, List.set_cons_succ]
            refine wpAnyH_take (i := 1) (oi := ⟨some 90, _, _, _, _, _⟩) (v := ?_) rfl (by kernel_rfl) (by kernel_rfl) (by kernel_rfl) (fun _ _ _ h => h) (Or.inl ⟨by kernel_rfl, ?_⟩) (by assumption) ?_
            rotate_left 1
            focus (intro w' hSw; (try dsimp only at hSw); go_simp; (try with_reducible rfl))
            try simp only [Act.put, List.setIfInBounds_toArray, List.set_cons_zero, List.set_cons_succ]
            refine wpAnyH_take (i := 2) (oi := ⟨some 91, _, _, _, _, _⟩) (v := ?_) rfl (by kernel_rfl) (by kernel_rfl) (by kernel_rfl) (fun _ _ _ h => h) (Or.inl ⟨by kernel_rfl, ?_⟩) (by assumption) ?_
            rotate_left 1
            focus (intro w' hSw; (try dsimp only at hSw); go_simp; (try with_reducible rfl))
            try simp only [Act.put, List.setIfInBounds_toArray, List.set_cons_zero, List.set_cons_succ]
            refine wpAnyH_take (i := 3) (oi := ⟨some 92, _, _, _, _, _⟩) (v := ?_) rfl (by kernel_rfl) (by kernel_rfl) (by kernel_rfl) (fun _ _ _ h => h) (Or.inl ⟨by kernel_rfl, ?_⟩) (by assumption) ?_
            rotate_left 1
            focus (intro w' hSw; (try dsimp only at hSw); go_simp; (try with_reducible rfl))
            try simp only [Act.put, List.setIfInBounds_toArray, List.set_cons_zero, List.set_cons_succ]
            refine wpAnyH_take (i := 4) (oi := ⟨some 93, _, _, _, _, _⟩) (v := ?_) rfl (by kernel_rfl) (by kernel_rfl) (by kernel_rfl) (fun _ _ _ h => h) (Or.inl ⟨by kernel_rfl, ?_⟩) (by assumption) ?_
            rotate_left 1
            focus (intro w' hSw; (try dsimp only at hSw); go_simp; (try with_reducible rfl))
            try simp only [Act.put, List.setIfInBounds_toArray, List.set_cons_zero, List.set_cons_succ]
            refine wpAnyH_take (i := 5) (oi := ⟨some 94, _, _, _, _, _⟩) (v := ?_) rfl (by kernel_rfl) (by kernel_rfl) (by kernel_rfl) (fun _ _ _ h => h) (Or.inl ⟨by kernel_rfl, ?_⟩) (by assumption) ?_
            rotate_left 1
            focus (intro w' hSw; (try dsimp only at hSw); go_simp; (try with_reducible rfl))
            try simp only [Act.put, List.setIfInBounds_toArray, List.set_cons_zero, List.set_cons_succ]
            refine wpAnyH_take (i := 6) (oi := ⟨some 95, _, _, _, _, _⟩) (v := ?_) rfl (by kernel_rfl) (by kernel_rfl) (by kernel_rfl) (fun _ _ _ h => h) (Or.inl ⟨by kernel_rfl, ?_⟩) (by assumption) ?_
            rotate_left 1
            focus (intro w' hSw; (try dsimp only at hSw); go_simp; (try with_reducible rfl))
            try simp only [Act.put, List.setIfInBounds_toArray, List.set_cons_zero, List.set_cons_succ]
            refine wpAnyH_ready (rs := [7]) (by kernel_rfl) (by simp) ?_
            refine AllReadyH.cons rfl (fun K hK => ?_) AllReadyH.nil
            go_simp
            go_at_call 41
            refine (J1.out _ (Below.refl Wn.heap.size Wn).drew).mono ?_
            rintro e v1 ⟨rfl, hv1⟩
            clear hHeld
            refine hK.out _ _ (HS.out _ hv1) (fun hHeld => ?_)
            clear hK
            refine wpAnyH_take (i := 8) (oi := ⟨some 97, _, _, _, _, _⟩) (v := ?_) rfl (by kernel_rfl) (by kernel_rfl) (by kernel_rfl) (fun _ _ _ h => h) (Or.inl ⟨by kernel_rfl, ?_⟩) (by assumption) ?_
            rotate_left 1
            focus (intro w' hSw; (try dsimp only at hSw); go_simp; (try with_reducible rfl))
            try simp only [Act.put, List.setIfInBounds_toArray, List.set_cons_zero, List.set_cons_succ]
            refine wpAnyH_take (i := 9) (oi := ⟨some 98, _, _, _, _, _⟩) (v := ?_) rfl (by kernel_rfl) (by kernel_rfl) (by kernel_rfl) (fun _ _ _ h => h) (Or.inl ⟨by kernel_rfl, ?_⟩) (by assumption) ?_
            rotate_left 1
            focus (intro w' hSw; (try dsimp only at hSw); go_simp; (try with_reducible rfl))
            try simp only [Act.put, List.setIfInBounds_toArray, List.set_cons_zero, List.set_cons_succ]
            refine wpAnyH_take (i := 10) (oi := ⟨some 99, _, _, _, _, _⟩) (v := ?_) rfl (by kernel_rfl) (by kernel_rfl) (by kernel_rfl) (fun _ _ _ h => h) (Or.inl ⟨by kernel_rfl, ?_⟩) (by assumption) ?_
            rotate_left 1
            focus (intro w' hSw; (try dsimp only at hSw); go_simp; (try with_reducible rfl))
            try simp only [Act.put, List.setIfInBounds_toArray, List.set_cons_zero, List.set_cons_succ]
            refine wpAnyH_take (i := 11) (oi := ⟨some 100, _, _, _, _, _⟩) (v := ?_) rfl (by kernel_rfl) (by kernel_rfl) (by kernel_rfl) (fun _ _ _ h => h) (Or.inl ⟨by kernel_rfl, ?_⟩) (by assumption) ?_
            rotate_left 1
            focus (intro w' hSw; (try dsimp only at hSw); go_simp; (try with_reducible rfl))
            try simp only [Act.put, List.setIfInBounds_toArray, List.set_cons_zero, List.set_cons_succ]
            refine wpAnyH_take (i := 12) (oi := ⟨some 101, _, _, _, _, _⟩) (v := ?_) rfl (by kernel_rfl) (by kernel_rfl) (by kernel_rfl) (fun _ _ _ h => h) (Or.inl ⟨by kernel_rfl, ?_⟩) (by assumption) ?_
            rotate_left 1
            focus (intro w' hSw; (try dsimp only at hSw); go_simp; (try with_reducible rfl))
            try simp only [Act.put, List.setIfInBounds_toArray, List.set_cons_zero, List.set_cons_succ]
            refine wpAnyH_take (i := 13) (oi := ⟨some 102, _, _, _, _, _⟩) (v := ?_) rfl (by kernel_rfl) (by kernel_rfl) (by kernel_rfl) (fun _ _ _ h => h) (Or.inl ⟨by kernel_rfl, ?_⟩) (by assumption) ?_
            rotate_left 1
            focus (intro w' hSw; (try dsimp only at hSw); go_simp; (try with_reducible rfl))
            try simp only [Act.put, List.setIfInBounds_toArray, List.set_cons_zero, List.set_cons_succ]
            refine wpAnyH_take (i := 14) (oi := ⟨some 103, _, _, _, _, _⟩) (v := ?_) rfl (by kernel_rfl) (by kernel_rfl) (by kernel_rfl) (fun _ _ _ h => h) (Or.inl ⟨by kernel_rfl, ?_⟩) (by assumption) ?_
            rotate_left 1
            focus (intro w' hSw; (try dsimp only at hSw); go_simp; (try with_reducible rfl))
            try simp only [Act.put, List.setIfInBounds_toArray, List.set_cons_zero, List.set_cons_succ]
            refine wpAnyH_take (i := 15) (oi := ⟨some 104, _, _, _, _, _⟩) (v := ?_) rfl (by kernel_rfl) (by kernel_rfl) (by kernel_rfl) (fun _ _ _ h => h) (Or.inl ⟨by kernel_rfl, ?_⟩) (by assumption) ?_
            rotate_left 1
            focus (intro w' hSw; (try dsimp only at hSw); go_simp; (try with_reducible rfl))
            try simp only [Act.put, List.setIfInBounds_toArray, List.set_cons_zero, List.set_cons_succ]
            refine wpAnyH_take (i := 17) (oi := ⟨some 106, _, _, _, _, _⟩) (v := ?_) rfl (by kernel_rfl) (by kernel_rfl) (by kernel_rfl) (fun _ _ _ h => h) (Or.inl ⟨by kernel_rfl, ?_⟩) (by assumption) ?_
            rotate_left 1
            focus (intro w' hSw; (try dsimp only at hSw); go_simp; (try with_reducible rfl))
            try simp only [Act.put, List.setIfInBounds_toArray, List.set_cons_zero, List.set_cons_succ]
            refine wpAnyH_take (i := 18) (oi := ⟨some 107, _, _, _, _, _⟩) (v := ?_) rfl (by kernel_rfl) (by kernel_rfl) (by kernel_rfl) (fun _ _ _ h => h) (Or.inl ⟨by kernel_rfl, ?_⟩) (by assumption) ?_
            rotate_left 1
            focus (intro w' hSw; (try dsimp only at hSw); go_simp; (try with_reducible rfl))
            try simp only [Act.put, List.setIfInBounds_toArray, List.set_cons_zero, List.set_cons_succ]
            refine wpAnyH_take (i := 19) (oi := ⟨some 108, _, _, _, _, _⟩) (v := ?_) rfl (by kernel_rfl) (by kernel_rfl) (by kernel_rfl) (fun _ _ _ h => h) (Or.inl ⟨by kernel_rfl, ?_⟩) (by assumption) ?_
            rotate_left 1
            focus (intro w' hSw; (try dsimp only at hSw); go_simp; (try with_reducible rfl))
            try simp only [Act.put, List.setIfInBounds_toArray, List.set_cons_zero, List.set_cons_succ]
            refine wpAnyH_take (i := 20) (oi := ⟨some 109, _, _, _, _, _⟩) (v := ?_) rfl (by kernel_rfl) (by kernel_rfl) (by kernel_rfl) (fun _ _ _ h => h) (Or.inl ⟨by kernel_rfl, ?_⟩) (by assumption) ?_
            rotate_left 1
            focus (intro w' hSw; (try dsimp only at hSw); go_simp; (try with_reducible rfl))
            try simp only [Act.put, List.setIfInBounds_toArray, List.set_cons_zero, List.set_cons_succ]
            refine wpAnyH_take (i := 21) (oi := ⟨some 110, _, _, _, _, _⟩) (v := ?_) rfl (by kernel_rfl) (by kernel_rfl) (by kernel_rfl) (fun _ _ _ h => h) (Or.inl ⟨by kernel_rfl, ?_⟩) (by assumption) ?_
            rotate_left 1
            focus (intro w' hSw; (try dsimp only at hSw); go_simp; (try with_reducible rfl))
            try simp only [Act.put, List.setIfInBounds_toArray, List.set_cons_zero, List.set_cons_succ]
            refine wpAnyH_take (i := 22) (oi := ⟨some 111, _, _, _, _, _⟩) (v := ?_) rfl (by kernel_rfl) (by kernel_rfl) (by kernel_rfl) (fun _ _ _ h => h) (Or.inl ⟨by kernel_rfl, ?_⟩) (by assumption) ?_
            rotate_left 1
            focus (intro w' hSw; (try dsimp only at hSw); go_simp; (try with_reducible rfl))
            try simp only [Act.put, List.setIfInBounds_toArray, List.set_cons_zero, List.set_cons_succ]
            refine wpAnyH_take (i := 23) (oi := ⟨some 112, _, _, _, _, _⟩) (v := ?_) rfl (by kernel_rfl) (by kernel_rfl) (by kernel_rfl) (fun _ _ _ h => h) (Or.inl ⟨by kernel_rfl, ?_⟩) (by assumption) ?_
            rotate_left 1
            focus (intro w' hSw; (try dsimp only at hSw); go_simp; (try with_reducible rfl))
            try simp only [Act.put, List.setIfInBounds_toArray, List.set_cons_zero, List.set_cons_succ]
            refine wpAnyH_take (i := 26) (oi := ⟨some 115, _, _, _, _, _⟩) (v := ?_) rfl (by kernel_rfl) (by kernel_rfl) (by kernel_rfl) (fun _ _ _ h => h) (Or.inl ⟨by kernel_rfl, ?_⟩) (by assumption) ?_
            rotate_left 1
            focus (intro w' hSw; (try dsimp only at hSw); go_simp; (try with_reducible rfl))
            try simp only [Act.put, List.setIfInBounds_toArray, List.set_cons_zero, List.set_cons_succ]
            refine wpAnyH_ready (rs := [16]) (by kernel_rfl) (by simp) ?_
            refine AllReadyH.cons rfl (fun K hK => ?_) AllReadyH.nil
            go_simp
            go_at_call 36
            refine (J2.out _ hv1).mono ?_
            rintro e v2 ⟨rfl, hv2⟩
            clear hHeld
            refine hK.out _ _ (HS.out _ hv2) (fun hHeld => ?_)
            clear hK
            refine wpAnyH_ready (rs := [24]) (by kernel_rfl) (by simp) ?_
            refine AllReadyH.cons rfl (fun K hK => ?_) AllReadyH.nil
            go_simp
            go_at_call 36
            refine (J3.out _ hv2).mono ?_
            rintro e v3 ⟨rfl, hv3⟩
            clear hHeld
            refine hK.out _ _ (HS.out _ hv3) (fun hHeld => ?_)
            clear hK
            refine wpAnyH_take (i := 25) (oi := ⟨some 114, _, _, _, _, _⟩) (v := ?_) rfl (by kernel_rfl) (by kernel_rfl) (by kernel_rfl) (fun _ _ _ h => h) (Or.inl ⟨by kernel_rfl, ?_⟩) (by assumption) ?_
            rotate_left 1
            focus (intro w' hSw; (try dsimp only at hSw); go_simp; (try with_reducible rfl))
            try simp only [Act.put, List.setIfInBounds_toArray, List.set_cons_zero, List.set_cons_succ]
            refine wpAnyH_take (i := 27) (oi := ⟨some 116, _, _, _, _, _⟩) (v := ?_) rfl (by kernel_rfl) (by kernel_rfl) (by kernel_rfl) (fun _ _ _ h => h) (Or.inl ⟨by kernel_rfl, ?_⟩) (by assumption) ?_
            rotate_left 1
            focus (intro w' hSw; (try dsimp only at hSw); go_simp; (try with_reducible rfl))
            try simp only [Act.put, List.setIfInBounds_toArray, List.set_cons_zero, List.set_cons_succ]
            refine wpAnyH_take (i := 28) (oi := ⟨some 117, _, _, _, _, _⟩) (v := ?_) rfl (by kernel_rfl) (by kernel_rfl) (by kernel_rfl) (fun _ _ _ h => h) (Or.inl ⟨by kernel_rfl, ?_⟩) (by assumption) ?_
            rotate_left 1
            focus (intro w' hSw; (try dsimp only at hSw); go_simp; (try with_reducible rfl))
            try simp only [Act.put, List.setIfInBounds_toArray, List.set_cons_zero, List.set_cons_succ]
            refine wpAnyH_done (by kernel_rfl) ?_ _
            have HBe := Lib.hid (HBn.out.trans (hv3.mono HBn.out.size))
            rw [Hab.out]
            have hne : (s.toList == s.toList) = true := by simp
            rw [hne]
            clear hHeld hv1 hv2 hv3 J1 J2 J3 HS HSd HXn HNn HBn Hm1
            go_wp2_with fail
            go_roundw
            case rel => exact ⟨j + 1, by omega, by go_num, HBe⟩
            case measure => simp [intOf]; omega
        · obtain rfl : j = Q.length := by omega
          go_wp2_with fail
          go_ret
          exact ⟨rfl, HB14.out.trans (HBr.out.mono HB14.out.size)⟩
end Go.Proofs.YthpnmkfgodmnfaaDoor.tre
