/- The law CallTexts. Condition: what the listed variables hold. -/
import Derived.Test.YtblhicfllomdlaaDoorCalSpeak
namespace Go.Proofs.YtblhicfllomdlaaDoor.cal
set_option maxRecDepth 100000
open Go.RowKit Go.Proofs.YtblhicfllomdlaaDoor.words

theorem text_bytes {k o n i : Int} {p g : ByteArray} (hf : OpFit o n i p g) (h : p.size + g.size ≤ 3000) : (textM (opM k p o n i g)).length ≤ 1000000 := by
  have h1 := word_len k
  have h2 := Lib.itoa_length_le o hf.o.1 hf.o.2
  have h3 := Lib.itoa_length_le n hf.n.1 hf.n.2
  have h4 := Lib.itoa_length_le i hf.i.1 hf.i.2
  have h5 := hexL_len g.data.toList
  rw [size_list] at h5
  have h8 := size_list p
  unfold textM
  split
  · simp
  unfold restM opM
  simp only
  split
  · rw [join_len4]; omega
  · split
    · rw [joinM_three]; simp; omega
    · split
      · rw [joinM_two]; simp; omega
      · split
        · rw [joinM_two]; simp; omega
        · rw [joinM_two]; simp; omega
set_option maxHeartbeats 12800000 in
theorem law_texts (m : Int) (k : Int) (p : ByteArray) (o n i : Int) (g : ByteArray) (w : World) (hE : Env m w) (ho : I64 o) (hn : I64 n) (hi : I64 i) (hp : p.size ≤ 140737488355328) (hg : g.size ≤ 140737488355328) : Calls Tryd.prog 4 #[opV k p o n i g] w (AnsB true w) := by
  obtain ⟨W1, hW1⟩ : ∃ W1, W1 = w.alloc (.cells #[.int .i64 k, .string p, .int .i64 o, .int .i64 n, .int .i64 i, .string g] 31) := ⟨_, rfl⟩
  have hb1 : Below w.heap.size w W1 := by rw [hW1]; exact (Below.refl _ _).alloc (Nat.le_refl _) _
  have hx : W1.heap[w.heap.size]? = some (opB k p o n i g) := by rw [hW1]; exact heap_alloc_new w _
  have HX := Lib.hid hx
  have HE := Lib.hid (hE.later hb1)
  have HB1 := Lib.hid hb1
  have HW := Lib.hid hW1.symm
  have HSp := Lib.hid (speaks_any m W1 HE.out)
  clear hW1 hb1 hx hE
  unfold opV
  go_enter Tryd.func4, Tryd.ntmps4
  go_upto_region 1 with fail
  rw [HW.out]
  clear HW
  go_wp2_with fail
  refine HSp.out.mono ?_
  rintro e w2 ⟨rfl, hb2⟩
  have HB2 := Lib.hid hb2
  have e2 := (hb2.block _ (lt_of_some HX.out)).trans HX.out
  unfold opB at e2
  have a20 : w2.cell? ⟨w.heap.size, 0, none⟩ = some (.int .i64 k) := cell_of_blk e2 0
  have a21 : w2.cell? ⟨w.heap.size, 1, none⟩ = some (.string p) := cell_of_blk e2 1
  have a22 : w2.cell? ⟨w.heap.size, 2, none⟩ = some (.int .i64 o) := cell_of_blk e2 2
  have a23 : w2.cell? ⟨w.heap.size, 3, none⟩ = some (.int .i64 n) := cell_of_blk e2 3
  have a24 : w2.cell? ⟨w.heap.size, 4, none⟩ = some (.int .i64 i) := cell_of_blk e2 4
  have a25 : w2.cell? ⟨w.heap.size, 5, none⟩ = some (.string g) := cell_of_blk e2 5
  clear hb2 HSp e2
  by_cases hs : 3000 < p.size + g.size
  · have g1 : (3000 : Int) < (p.size : Int) + (g.size : Int) := by omega
    go_wp2_with fail
    go_ret
    exact ⟨rfl, HB1.out.trans (HB2.out.mono HB1.out.size)⟩
  have g1 : ¬ (3000 : Int) < (p.size : Int) + (g.size : Int) := by omega
  have hf : OpFit o n i p g := ⟨ho, hn, hi, by omega, by omega⟩
  have HT := Lib.hid (text_any m k p o n i g w2 (HE.out.later HB2.out) hf)
  have HF := Lib.hid hf
  unfold opV at HT
  clear ho hn hi hf
  go_wp2_with fail
  refine HT.out.mono ?_
  rintro e w3 ⟨⟨t, rfl, ht⟩, hb3⟩
  have HB3 := Lib.hid (HB2.out.trans (hb3.mono HB2.out.size))
  have e3 := (HB3.out.block _ (lt_of_some HX.out)).trans HX.out
  unfold opB at e3
  have a30 : w3.cell? ⟨w.heap.size, 0, none⟩ = some (.int .i64 k) := cell_of_blk e3 0
  have a31 : w3.cell? ⟨w.heap.size, 1, none⟩ = some (.string p) := cell_of_blk e3 1
  have a32 : w3.cell? ⟨w.heap.size, 2, none⟩ = some (.int .i64 o) := cell_of_blk e3 2
  have a33 : w3.cell? ⟨w.heap.size, 3, none⟩ = some (.int .i64 n) := cell_of_blk e3 3
  have a34 : w3.cell? ⟨w.heap.size, 4, none⟩ = some (.int .i64 i) := cell_of_blk e3 4
  have a35 : w3.cell? ⟨w.heap.size, 5, none⟩ = some (.string g) := cell_of_blk e3 5
  have HO := Lib.hid (only_any k p o n i g w3 (by omega))
  have HTx := Lib.hid ht
  unfold opV at HO
  clear hb3 e3 ht HT
  go_wp2_with fail
  refine HO.out.mono ?_
  rintro e w4 ⟨rfl, hb4⟩
  have HB4 := Lib.hid (HB3.out.trans (hb4.mono HB3.out.size))
  have e4 := (HB4.out.block _ (lt_of_some HX.out)).trans HX.out
  unfold opB at e4
  have a40 : w4.cell? ⟨w.heap.size, 0, none⟩ = some (.int .i64 k) := cell_of_blk e4 0
  have a41 : w4.cell? ⟨w.heap.size, 1, none⟩ = some (.string p) := cell_of_blk e4 1
  have a42 : w4.cell? ⟨w.heap.size, 2, none⟩ = some (.int .i64 o) := cell_of_blk e4 2
  have a43 : w4.cell? ⟨w.heap.size, 3, none⟩ = some (.int .i64 n) := cell_of_blk e4 3
  have a44 : w4.cell? ⟨w.heap.size, 4, none⟩ = some (.int .i64 i) := cell_of_blk e4 4
  have a45 : w4.cell? ⟨w.heap.size, 5, none⟩ = some (.string g) := cell_of_blk e4 5
  have HR := Lib.hid ((reftext_any k p o n i g w4 HF.out).mono fun _ _ h => str_of HTx.out h)
  unfold opV at HR
  have g2 : (t.toList == t.toList) = true := beq_self_eq_true _
  clear hb4 e4 HO
  go_wp2_with fail
  refine HR.out.mono ?_
  rintro e w5 ⟨rfl, hb5⟩
  have HB5 := Lib.hid (HB4.out.trans (hb5.mono HB4.out.size))
  have e5 := (HB5.out.block _ (lt_of_some HX.out)).trans HX.out
  unfold opB at e5
  have a50 : w5.cell? ⟨w.heap.size, 0, none⟩ = some (.int .i64 k) := cell_of_blk e5 0
  have a51 : w5.cell? ⟨w.heap.size, 1, none⟩ = some (.string p) := cell_of_blk e5 1
  have a52 : w5.cell? ⟨w.heap.size, 2, none⟩ = some (.int .i64 o) := cell_of_blk e5 2
  have a53 : w5.cell? ⟨w.heap.size, 3, none⟩ = some (.int .i64 n) := cell_of_blk e5 3
  have a54 : w5.cell? ⟨w.heap.size, 4, none⟩ = some (.int .i64 i) := cell_of_blk e5 4
  have a55 : w5.cell? ⟨w.heap.size, 5, none⟩ = some (.string g) := cell_of_blk e5 5
  have HRg := Lib.hid (right_any m k p o n i g w5 (HE.out.later HB5.out))
  rw [right_only] at HRg
  unfold opV at HRg
  clear hb5 e5 HR
  have hsz : t.size ≤ 1000000 := by
    have h1 := text_bytes (k := k) HF.out (by omega)
    rw [← HTx.out, size_list] at h1
    exact h1
  cases hon : onlyM (opM k p o n i g) with
  | false =>
    rw [hon] at HRg
    go_wp2_with fail
    refine HRg.out.mono ?_
    rintro e w6 ⟨rfl, hb6⟩
    have HB6 := Lib.hid (HB5.out.trans (hb6.mono HB5.out.size))
    have HP := Lib.hid (parse_any m t w6 hsz (HE.out.later HB6.out))
    clear hb6 HRg hon
    go_wp2_with fail
    refine HP.out.mono ?_
    rintro e w7 ⟨ho, hb7⟩
    obtain ⟨k', p', o', n', i', g', f', rfl⟩ : ∃ k' p' o' n' i' g' f', e = .returned (.tuple #[.agg #[.int .i64 k', .string p', .int .i64 o', .int .i64 n', .int .i64 i', .string g'], .bool f']) := by
      rcases ho with ⟨k', p', o', n', i', g', rfl, _⟩ | ⟨_, rfl⟩
      · exact ⟨_, _, _, _, _, _, _, rfl⟩
      · exact ⟨_, _, _, _, _, _, _, rfl⟩
    have HFn : Hid (∀ o : Obj, Below w.heap.size w (w7.alloc o)) := Lib.hid fun o => HB1.out.trans ((HB6.out.trans ((hb7.trans ((Below.refl _ _).alloc (Nat.le_refl _) o |>.mono hb7.size)).mono HB6.out.size)).mono HB1.out.size)
    clear ho hb7 HP
    go_wp2_with fail
    go_ret
    exact ⟨rfl, HFn.out _⟩
  | true =>
    rw [hon] at HRg
    go_wp2_with fail
    refine HRg.out.mono ?_
    rintro e w6 ⟨rfl, hb6⟩
    have HB6 := Lib.hid (HB5.out.trans (hb6.mono HB5.out.size))
    have hpt : parseM t.data.toList = some (opM k p o n i g) := by
      rw [HTx.out]
      exact parse_text _ (by rw [right_only]; exact hon) HF.out.fit
    have HP := Lib.hid ((parse_any m t w6 hsz (HE.out.later HB6.out)).mono fun _ _ h => parse_of hpt h)
    unfold opV at HP
    clear hb6 HRg hon hpt
    go_wp2_with fail
    refine HP.out.mono ?_
    rintro e w7 ⟨rfl, hb7⟩
    obtain ⟨W8, hW8⟩ : ∃ W8, W8 = w7.alloc (.cells #[.int .i64 k, .string p, .int .i64 o, .int .i64 n, .int .i64 i, .string g] 31) := ⟨_, rfl⟩
    have hb8 : Below w7.heap.size w7 W8 := by rw [hW8]; exact (Below.refl _ _).alloc (Nat.le_refl _) _
    obtain ⟨q, hq⟩ : ∃ q, q = w7.heap.size := ⟨_, rfl⟩
    have hx8 : W8.heap[q]? = some (opB k p o n i g) := by rw [hW8, hq]; exact heap_alloc_new w7 _
    have hb18 := HB6.out.trans ((hb7.trans (hb8.mono hb7.size)).mono HB6.out.size)
    have HFn := Lib.hid (HB1.out.trans (hb18.mono HB1.out.size))
    have e8 := (hb18.block _ (lt_of_some HX.out)).trans HX.out
    unfold opB at hx8 e8
    have b80 : W8.cell? ⟨q, 0, none⟩ = some (.int .i64 k) := cell_of_blk hx8 0
    have b81 : W8.cell? ⟨q, 1, none⟩ = some (.string p) := cell_of_blk hx8 1
    have b82 : W8.cell? ⟨q, 2, none⟩ = some (.int .i64 o) := cell_of_blk hx8 2
    have b83 : W8.cell? ⟨q, 3, none⟩ = some (.int .i64 n) := cell_of_blk hx8 3
    have b84 : W8.cell? ⟨q, 4, none⟩ = some (.int .i64 i) := cell_of_blk hx8 4
    have b85 : W8.cell? ⟨q, 5, none⟩ = some (.string g) := cell_of_blk hx8 5
    have f80 : W8.cell? ⟨w.heap.size, 0, none⟩ = some (.int .i64 k) := cell_of_blk e8 0
    have f81 : W8.cell? ⟨w.heap.size, 1, none⟩ = some (.string p) := cell_of_blk e8 1
    have f82 : W8.cell? ⟨w.heap.size, 2, none⟩ = some (.int .i64 o) := cell_of_blk e8 2
    have f83 : W8.cell? ⟨w.heap.size, 3, none⟩ = some (.int .i64 n) := cell_of_blk e8 3
    have f84 : W8.cell? ⟨w.heap.size, 4, none⟩ = some (.int .i64 i) := cell_of_blk e8 4
    have f85 : W8.cell? ⟨w.heap.size, 5, none⟩ = some (.string g) := cell_of_blk e8 5
    have heq : ∀ w' : World, (binOp .eql 31 (.agg #[.int .i64 k, .string p, .int .i64 o, .int .i64 n, .int .i64 i, .string g]) (.agg #[.int .i64 k, .string p, .int .i64 o, .int .i64 n, .int .i64 i, .string g])).run Tryd.prog w' = .ok (.bool true) w' := fun w' => by
      rw [op_eql]
      unfold opI
      rw [decide_eq_true rfl]
    have HW8 := Lib.hid hW8.symm
    have HQ := Lib.hid hq.symm
    clear hW8 hb8 hq hx8 hb18 e8 hb7 HP
    go_upto_region 10 with fail
    rw [HW8.out]
    simp only [HQ.out]
    clear HW8 HQ
    go_wp2_with fail
    go_ret
    exact ⟨rfl, HFn.out⟩
end Go.Proofs.YtblhicfllomdlaaDoor.cal
