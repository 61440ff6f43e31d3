/- The law CallParses. Condition: what the listed variables hold. -/
import Derived.Test.YtblhicfllomdlaaDoorCalSpeak
namespace Go.Proofs.YtblhicfllomdlaaDoor.cal
set_option maxRecDepth 100000
open Go.RowKit Go.Proofs.YtblhicfllomdlaaDoor.words

set_option maxHeartbeats 6400000 in
theorem law_parses (m : Int) (s : ByteArray) (w : World) (hE : Env m w) : Calls Tryd.prog 5 #[.string s] w (AnsB true w) := by
  have HE := Lib.hid hE
  have HSp := Lib.hid (speaks_any m w hE)
  clear hE
  go_enter Tryd.func5, Tryd.ntmps5
  go_wp2_with fail
  refine HSp.out.mono ?_
  rintro e w2 ⟨rfl, hb2⟩
  have HB2 := Lib.hid hb2
  clear hb2 HSp
  by_cases hs : 2000 < s.size
  · have g : (2000 : Int) < (s.size : Int) := by omega
    go_wp2_with fail
    go_ret
    exact ⟨rfl, HB2.out⟩
  have g : ¬ (2000 : Int) < (s.size : Int) := by omega
  have HP := Lib.hid (parse_any m s w2 (by omega) (HE.out.later HB2.out))
  go_wp2_with fail
  refine HP.out.mono ?_
  rintro e w3 ⟨ho, hb3⟩
  have HB3 := Lib.hid (HB2.out.trans (hb3.mono HB2.out.size))
  clear hb3 HP
  rcases ho with ⟨k, p, o, n, i, gg, rfl, hp, hf⟩ | ⟨hp, rfl⟩
  · obtain ⟨hr, ht⟩ := parse_some hp
    obtain ⟨W4, hW4⟩ : ∃ W4, W4 = w3.alloc (.cells #[.int .i64 k, .string p, .int .i64 o, .int .i64 n, .int .i64 i, .string gg] 31) := ⟨_, rfl⟩
    have hb4 : Below w3.heap.size w3 W4 := by rw [hW4]; exact (Below.refl _ _).alloc (Nat.le_refl _) _
    obtain ⟨q, hq⟩ : ∃ q, q = w3.heap.size := ⟨_, rfl⟩
    have hx : W4.heap[q]? = some (opB k p o n i gg) := by rw [hW4, hq]; exact heap_alloc_new w3 _
    have HX := Lib.hid hx
    have HO := Lib.hid (only_any k p o n i gg W4 (by have := hf.p; omega))
    rw [← right_only, hr] at HO
    have HB4 := Lib.hid (HB3.out.trans (hb4.mono HB3.out.size))
    have HFt := Lib.hid hf
    have HT := Lib.hid ht
    have HW4 := Lib.hid hW4.symm
    have HQ := Lib.hid hq.symm
    unfold opB at hx
    have c0 : W4.cell? ⟨q, 0, none⟩ = some (.int .i64 k) := cell_of_blk hx 0
    have c1 : W4.cell? ⟨q, 1, none⟩ = some (.string p) := cell_of_blk hx 1
    have c2 : W4.cell? ⟨q, 2, none⟩ = some (.int .i64 o) := cell_of_blk hx 2
    have c3 : W4.cell? ⟨q, 3, none⟩ = some (.int .i64 n) := cell_of_blk hx 3
    have c4 : W4.cell? ⟨q, 4, none⟩ = some (.int .i64 i) := cell_of_blk hx 4
    have c5 : W4.cell? ⟨q, 5, none⟩ = some (.string gg) := cell_of_blk hx 5
    clear hp hf hr ht hW4 hb4 hq hx
    unfold opV at HO ⊢
    go_upto_region 6 with fail
    rw [HW4.out]
    simp only [HQ.out]
    clear HW4 HQ
    go_wp2_with fail
    refine HO.out.mono ?_
    rintro e w5 ⟨rfl, hb5⟩
    have hx5 := (hb5.block _ (lt_of_some HX.out)).trans HX.out
    have HR := Lib.hid ((reftext_any k p o n i gg w5 HFt.out).mono fun _ _ h => str_of HT.out.symm h)
    have HB5 := Lib.hid (HB4.out.trans (hb5.mono HB4.out.size))
    unfold opB at hx5
    have d0 : w5.cell? ⟨q, 0, none⟩ = some (.int .i64 k) := cell_of_blk hx5 0
    have d1 : w5.cell? ⟨q, 1, none⟩ = some (.string p) := cell_of_blk hx5 1
    have d2 : w5.cell? ⟨q, 2, none⟩ = some (.int .i64 o) := cell_of_blk hx5 2
    have d3 : w5.cell? ⟨q, 3, none⟩ = some (.int .i64 n) := cell_of_blk hx5 3
    have d4 : w5.cell? ⟨q, 4, none⟩ = some (.int .i64 i) := cell_of_blk hx5 4
    have d5 : w5.cell? ⟨q, 5, none⟩ = some (.string gg) := cell_of_blk hx5 5
    have g1 : (s.toList == s.toList) = true := beq_self_eq_true _
    clear hx5 hb5 HO c0 c1 c2 c3 c4 c5
    unfold opV at HR
    go_wp2_with fail
    refine HR.out.mono ?_
    rintro e w6 ⟨rfl, hb6⟩
    have HFn := Lib.hid (HB5.out.trans (hb6.mono HB5.out.size))
    clear hb6 HR
    go_wp2_with fail
    go_ret
    exact ⟨rfl, HFn.out⟩
  · obtain ⟨W4, hW4⟩ : ∃ W4, W4 = w3.alloc (.cells #[.int .i64 0, .string ⟨#[]⟩, .int .i64 0, .int .i64 0, .int .i64 0, .string ⟨#[]⟩] 31) := ⟨_, rfl⟩
    have hb4 : Below w3.heap.size w3 W4 := by rw [hW4]; exact (Below.refl _ _).alloc (Nat.le_refl _) _
    have HFn := Lib.hid (HB3.out.trans (hb4.mono HB3.out.size))
    have hx : W4.heap[w3.heap.size]? = some (opB 0 ⟨#[]⟩ 0 0 0 ⟨#[]⟩) := by rw [hW4]; exact heap_alloc_new w3 _
    unfold opB at hx
    have heq : ∀ w' : World, (binOp .eql 31 (.agg #[.int .i64 0, .string ⟨#[]⟩, .int .i64 0, .int .i64 0, .int .i64 0, .string ⟨#[]⟩]) (.agg #[.int .i64 0, .string ⟨#[]⟩, .int .i64 0, .int .i64 0, .int .i64 0, .string ⟨#[]⟩])).run Tryd.prog w' = .ok (.bool true) w' := fun w' => by
      rw [op_eql]
      rfl
    have c0 : W4.cell? ⟨w3.heap.size, 0, none⟩ = some (.int .i64 0) := cell_of_blk hx 0
    have c1 : W4.cell? ⟨w3.heap.size, 1, none⟩ = some (.string ⟨#[]⟩) := cell_of_blk hx 1
    have c2 : W4.cell? ⟨w3.heap.size, 2, none⟩ = some (.int .i64 0) := cell_of_blk hx 2
    have c3 : W4.cell? ⟨w3.heap.size, 3, none⟩ = some (.int .i64 0) := cell_of_blk hx 3
    have c4 : W4.cell? ⟨w3.heap.size, 4, none⟩ = some (.int .i64 0) := cell_of_blk hx 4
    have c5 : W4.cell? ⟨w3.heap.size, 5, none⟩ = some (.string ⟨#[]⟩) := cell_of_blk hx 5
    have HW4 := Lib.hid hW4.symm
    clear hp hW4 hb4 hx
    unfold opV
    go_upto_region 6 with fail
    rw [HW4.out]
    clear HW4
    go_wp2_with fail
    go_ret
    exact ⟨rfl, HFn.out⟩
end Go.Proofs.YtblhicfllomdlaaDoor.cal
