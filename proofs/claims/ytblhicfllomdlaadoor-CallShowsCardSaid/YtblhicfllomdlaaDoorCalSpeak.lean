/- That call speaks. Condition: what the listed variables hold. -/
import Derived.Test.YtblhicfllomdlaaDoorCalRefS
import Derived.Test.YtblhicfllomdlaaDoorCalOnly
namespace Go.Proofs.YtblhicfllomdlaaDoor.cal
set_option maxRecDepth 100000
open Go.RowKit Go.Proofs.YtblhicfllomdlaaDoor.words

def ln1 : ByteArray := ⟨#[114, 101, 97, 100, 32, 48, 32, 57, 32, 47, 97, 32, 98]⟩
def ln2 : ByteArray := ⟨#[114, 101, 97, 100, 32, 48, 32, 47, 97, 32, 98]⟩
def pt1 : ByteArray := ⟨#[47, 97, 32, 98]⟩
def ans1 : ByteArray := ⟨#[111, 107, 32, 101, 110, 100, 32, 54, 49]⟩
theorem text1 : textM (opM 4 pt1 0 9 0 ⟨#[]⟩) = ln1.data.toList := by
  unfold textM
  rw [if_neg (by decide)]
  unfold restM opM
  simp only
  rw [if_pos trivial, itoa_one (by decide) (by decide), itoa_one (by decide) (by decide)]
  rfl
theorem fit1 : OpFit 0 9 0 pt1 ⟨#[]⟩ := ⟨i64_0, by unfold I64; omega, i64_0, by decide, by decide⟩
theorem parse1 : parseM ln1.data.toList = some (opM 4 pt1 0 9 0 ⟨#[]⟩) := by
  rw [← text1]
  exact parse_text _ (by decide +kernel) fit1.fit
theorem parse2 : parseM ln2.data.toList = none := by
  have e1 : cutL ln2.data.toList = ([114, 101, 97, 100], [48, 32, 47, 97, 32, 98], true) := by decide +kernel
  have e2 : cutL [48, 32, 47, 97, 32, 98] = ([48], [47, 97, 32, 98], true) := by decide +kernel
  have e3 : cutL [47, 97, 32, 98] = ([47, 97], [98], true) := by decide +kernel
  have e4 : numP [47, 97] = none := by decide +kernel
  have e5 : kindL [114, 101, 97, 100] = 4 := by decide +kernel
  unfold parseM
  rw [e1]
  simp only [e5, if_true]
  have e6 : readM 4 [48, 32, 47, 97, 32, 98] = none := by
    rw [read_4]
    unfold atM
    rw [e2]
    simp only [e3]
    unfold numsM
    rw [e4]
    cases numP [48] <;> rfl
  rw [e6]
theorem parse_of {s : ByteArray} {k o n i : Int} {p g : ByteArray} {w w' : World} {e : Ending} (hp : parseM s.data.toList = some (opM k p o n i g)) (h : ParseO s w e w') : e = .returned (.tuple #[opV k p o n i g, .bool true]) ∧ Below w.heap.size w w' := by
  obtain ⟨⟨k', p', o', n', i', g', rfl, h1, _⟩ | ⟨h1, _⟩, hb⟩ := h
  · rw [hp] at h1
    injection h1 with h1
    unfold opM at h1
    injection h1 with e1 e2 e3 e4 e5 e6
    rw [← e1, ← e3, ← e4, ← e5, data_inj e2, data_inj e6]
    exact ⟨rfl, hb⟩
  · rw [hp] at h1; cases h1
theorem parse_not {s : ByteArray} {w w' : World} {e : Ending} (hp : parseM s.data.toList = none) (h : ParseO s w e w') : e = .returned (.tuple #[opV 0 ⟨#[]⟩ 0 0 0 ⟨#[]⟩, .bool false]) ∧ Below w.heap.size w w' := by
  obtain ⟨⟨k', p', o', n', i', g', rfl, h1, _⟩ | ⟨_, rfl⟩, hb⟩ := h
  · rw [hp] at h1; cases h1
  · exact ⟨rfl, hb⟩
theorem str_of {l : List UInt8} {s : ByteArray} {w w' : World} {e : Ending} (hs : s.data.toList = l) (h : StrOut l w e w') : e = .returned (.string s) ∧ Below w.heap.size w w' := by
  obtain ⟨⟨r, rfl, hr⟩, hb⟩ := h
  rw [data_inj (hr.trans hs.symm)]
  exact ⟨rfl, hb⟩
theorem fitR : ResFit 0 0 0 0 0 ⟨#[]⟩ [⟨#[97]⟩] := ⟨i64_0, i64_0, i64_0, i64_0, i64_0, by decide, ⟨by decide, fun x hx => by
  obtain rfl : x = ⟨#[97]⟩ := by simpa using hx
  decide⟩⟩
set_option maxHeartbeats 6400000 in
theorem speaks_any (m : Int) (w : World) (hE : Env m w) : Calls Tryd.prog 7 #[] w (AnsB true w) := by
  have HE := Lib.hid hE
  have HP1 := Lib.hid ((parse_any m ln1 w (by decide) hE).mono fun _ _ h => parse_of parse1 h)
  clear hE
  unfold ln1 opV pt1 at HP1
  go_enter Tryd.func7, Tryd.ntmps7
  go_wp2_with fail
  refine HP1.out.mono ?_
  rintro e w2 ⟨rfl, hb2⟩
  obtain ⟨W3, hW3⟩ : ∃ W3, W3 = w2.alloc (.cells #[.int .i64 4, .string ⟨#[47, 97, 32, 98]⟩, .int .i64 0, .int .i64 9, .int .i64 0, .string ⟨#[]⟩] 31) := ⟨_, rfl⟩
  obtain ⟨q, hq⟩ : ∃ q, q = w2.heap.size := ⟨_, rfl⟩
  have hx3 : W3.heap[q]? = some (.cells #[.int .i64 4, .string ⟨#[47, 97, 32, 98]⟩, .int .i64 0, .int .i64 9, .int .i64 0, .string ⟨#[]⟩] 31 (0, 0)) := by rw [hW3, hq]; exact heap_alloc_new w2 _
  have hb3 : Below w.heap.size w W3 := by rw [hW3]; exact hb2.trans ((Below.refl _ _).alloc (Nat.le_refl _) _ |>.mono hb2.size)
  have HX3 := Lib.hid hx3
  have HB3 := Lib.hid hb3
  have HP2 := Lib.hid ((parse_any m ln2 W3 (by decide) (HE.out.later hb3)).mono fun _ _ h => parse_not parse2 h)
  have HW3 := Lib.hid hW3.symm
  have HQ := Lib.hid hq.symm
  clear hW3 hq hx3 hb3 hb2 HP1
  unfold ln2 opV at HP2
  go_upto_region 2 with fail
  rw [HW3.out]
  simp only [HQ.out]
  clear HW3 HQ
  go_wp2_with fail
  refine HP2.out.mono ?_
  rintro e w4 ⟨rfl, hb4⟩
  obtain ⟨W5, hW5⟩ : ∃ W5, W5 = w4.alloc (.cells #[.int .i64 0, .string ⟨#[]⟩, .int .i64 0, .int .i64 0, .int .i64 0, .string ⟨#[]⟩] 31) := ⟨_, rfl⟩
  have hb45 : Below w4.heap.size w4 W5 := by rw [hW5]; exact (Below.refl _ _).alloc (Nat.le_refl _) _
  have hb35 : Below W3.heap.size W3 W5 := hb4.trans (hb45.mono hb4.size)
  have hx5 := (hb35.block _ (lt_of_some HX3.out)).trans HX3.out
  have HX5 := Lib.hid hx5
  have hb5 := HB3.out.trans (hb35.mono HB3.out.size)
  have HB5 := Lib.hid hb5
  have HT := Lib.hid ((text_any m 4 pt1 0 9 0 ⟨#[]⟩ W5 (HE.out.later hb5) fit1).mono fun _ _ h => str_of text1.symm h)
  unfold ln1 opV pt1 at HT
  have HW5 := Lib.hid hW5.symm
  have heq : ∀ w' : World, (binOp .eql 31 (.agg #[.int .i64 4, .string ⟨#[47, 97, 32, 98]⟩, .int .i64 0, .int .i64 9, .int .i64 0, .string ⟨#[]⟩]) (.agg #[.int .i64 4, .string ⟨#[47, 97, 32, 98]⟩, .int .i64 0, .int .i64 9, .int .i64 0, .string ⟨#[]⟩])).run Tryd.prog w' = .ok (.bool true) w' := fun w' => by
    rw [op_eql]
    rfl
  have a0 : W5.cell? ⟨q, 0, none⟩ = some (.int .i64 4) := cell_of_blk hx5 0
  have a1 : W5.cell? ⟨q, 1, none⟩ = some (.string ⟨#[47, 97, 32, 98]⟩) := cell_of_blk hx5 1
  have a2 : W5.cell? ⟨q, 2, none⟩ = some (.int .i64 0) := cell_of_blk hx5 2
  have a3 : W5.cell? ⟨q, 3, none⟩ = some (.int .i64 9) := cell_of_blk hx5 3
  have a4 : W5.cell? ⟨q, 4, none⟩ = some (.int .i64 0) := cell_of_blk hx5 4
  have a5 : W5.cell? ⟨q, 5, none⟩ = some (.string ⟨#[]⟩) := cell_of_blk hx5 5
  clear hW5 hb45 hb35 hx5 hb5 hb4 HP2
  go_upto_region 3 with fail
  rw [HW5.out]
  clear HW5
  go_wp2_with fail
  refine HT.out.mono ?_
  rintro e w6 ⟨rfl, hb6⟩
  obtain ⟨W7, hW7⟩ : ∃ W7, W7 = w6.alloc (.cells #[.string ⟨#[97]⟩] 9) := ⟨_, rfl⟩
  have hb67 : Below w6.heap.size w6 W7 := by rw [hW7]; exact (Below.refl _ _).alloc (Nat.le_refl _) _
  have hb7 := HB5.out.trans ((hb6.trans (hb67.mono hb6.size)).mono HB5.out.size)
  have hsl : Sl W7 (some ⟨w6.heap.size, 0, none⟩) [⟨#[97]⟩] := by rw [hW7]; exact sl_new w6 [⟨#[97]⟩]
  have hsh := (show_any m 6 0 0 0 0 0 ⟨#[]⟩ (some ⟨w6.heap.size, 0, none⟩) [⟨#[97]⟩] 1 true W7 (HE.out.later hb7) hsl fitR).mono fun _ _ h => str_of (s := ans1) (by decide +kernel) h
  have HSh := Lib.hid hsh
  unfold ans1 resV at HSh
  have t1 : ([⟨#[97]⟩] : List ByteArray).length = 1 := rfl
  rw [t1] at HSh
  have HB7 := Lib.hid hb7
  have HW7 := Lib.hid hW7.symm
  clear hW7 hb67 hb7 hsl hsh hb6 HT a0 a1 a2 a3 a4 a5 t1
  go_wp2_with fail
  rw [HW7.out]
  refine HSh.out.mono ?_
  rintro e w8 ⟨rfl, hb8⟩
  have HF := Lib.hid (HB7.out.trans (hb8.mono HB7.out.size))
  clear hb8 HSh
  go_wp2_with fail
  go_ret
  exact ⟨rfl, HF.out⟩
end Go.Proofs.YtblhicfllomdlaaDoor.cal
