/- What Dir hands back, with the blocks that it lies in. Condition: the rows are such as were read. -/
import Derived.Test.YthpnmkfgodmnfaaDoorTreSees
import Derived.Test.YthpnmkfgodmnfaaDoorTreNest
namespace Go.Proofs.YthpnmkfgodmnfaaDoor.tre
set_option maxRecDepth 100000
open Go.RowKit Go.Proofs.YthpnmkfgodmnfaaDoor.words Go.Proofs.YthpnmkfgodmnfaaDoor.ext Go.Proofs.YthpnmkfgodmnfaaDoor.name

def BuiltIn (P : Nat → Prop) (n : Nd) (w : World) (e : Ending) (w' : World) : Prop := ∃ r', e = .returned (ndV n r') ∧ NdIn w' (fun b => P b ∨ (w.heap.size ≤ b ∧ b < w'.heap.size)) n r' ∧ Below w.heap.size w w'
set_option maxHeartbeats 3200000 in
theorem dir_in (P : Nat → Prop) (A1 A2 : Option Addr) (c1 c2 : Nat) (N : List ByteArray) (I : List Nd) (rs : Nat → Raw) (w : World) (hT : Txts w w.heap.size A1 N) (hL : Lies w A2 (rowCells I rs)) (hI : ∀ (i : Nat) (x : Nd), I[i]? = some x → NdIn w P x (rs i)) (hP : ∀ b, P b → b < w.heap.size)
    (h1 : N.length * 16 ≤ 140737488355328) (h2 : I.length * 112 ≤ 140737488355328) (hz1 : A1 = none → N.length = 0 ∧ c1 = 0) (hz2 : A2 = none → I.length = 0 ∧ c2 = 0) :
    Calls Tryd.prog 37 #[.slice A1 N.length c1, .slice A2 I.length c2] w (BuiltIn P (dirN N I) w) := by
  obtain ⟨W1, hW1⟩ : ∃ W1, W1 = w.alloc (.cells (rawCells nd0 raw0) 26) := ⟨_, rfl⟩
  have hb1 : Below w.heap.size w W1 := by rw [hW1]; exact (Below.refl _ _).alloc (Nat.le_refl _) _
  have hX1 : Box W1 w.heap.size nd0 raw0 := by rw [hW1]; exact Box.new w nd0 raw0
  have hW1' : W1 = w.alloc (.cells #[.int .i64 0, .bool false, .slice none 0 0, .slice none 0 0, .int .i64 0, .slice none 0 0, .string ⟨#[]⟩] 26) := hW1
  have HW1 := Lib.hid hW1'
  have HX1 := Lib.hid hX1
  have HB1 := Lib.hid hb1
  have HL1 := Lib.hid (copy_txt A1 N.length c1 _ W1 (lies_txt ((hT.keep hb1).more hb1.size)) hz1 h1 (by rw [List.length_map, Nat.mul_one]) (txtCells_one N))
  have HL := Lib.hid hL
  have HI := Lib.hid hI
  have HT := Lib.hid hT
  clear hW1 hW1' hX1 hb1 hL hI hT
  go_enter Tryd.func37, Tryd.ntmps37
  go_upto_region 1 with fail
  rw [← HW1.out]
  go_wp2_with fail
  refine (HL1.out.mono fun _ _ h => own_of h).mono ?_
  rintro e w2 ⟨A3, c3, rfl, h31, h32, hown3, hb2⟩
  have hB2 : Below w.heap.size w w2 := HB1.out.trans (hb2.mono HB1.out.size)
  have HL2 := Lib.hid (copy_nd A2 I.length c2 _ w2 (Below.lies HL.out hB2) hz2 h2 (rowCells_length I rs) (rowCells_one I rs))
  have HO3 := Lib.hid hown3
  have HB2 := Lib.hid hb2
  have HH := Lib.hid (And.intro h31 h32)
  clear hown3 hb2 hB2 h31 h32
  go_wp2_with fail
  refine (HL2.out.mono fun _ _ h => own_of h).mono ?_
  rintro e w4 ⟨A4, c4, rfl, h41, h42, hown4, hb4⟩
  have hO4 : Box w4 w.heap.size nd0 raw0 := (HX1.out.below HB2.out).below hb4
  have hB4 : Below w.heap.size w w4 := (HB1.out.trans (HB2.out.mono HB1.out.size)).trans (hb4.mono (HB1.out.trans (HB2.out.mono HB1.out.size)).size)
  have hl1 := HX1.out.lt
  have hl2 := HB2.out.size
  have z0 := free_of_blk hO4 0
  have z1 := free_of_blk hO4 1
  have z2 := free_of_blk hO4 2
  have z3 := free_of_blk hO4 3
  have z4 := free_of_blk hO4 4
  have z5 := free_of_blk hO4 5
  have z6 := free_of_blk hO4 6
  obtain ⟨d0, d1, d2, d3, d4, d5, d6⟩ := hO4.cells
  obtain ⟨q, hq⟩ : ∃ q : Raw, q = ⟨A3, c3, A4, c4, none, 0⟩ := ⟨_, rfl⟩
  have hob := hO4.over (m := dirN N I) (q := q)
  have hs4 := size_setCells w.heap.size (rawCells (dirN N I) q).toList 0 w4
  have hBd := below_setCells (w := w) (B := w.heap.size) (g := w.heap.size) (Nat.le_refl _) (rawCells (dirN N I) q).toList 0 w4 hB4
  obtain ⟨Wd, hWd⟩ : ∃ Wd, Wd = w4.setCells w.heap.size 0 (rawCells (dirN N I) q).toList := ⟨_, rfl⟩
  rw [← hWd] at hob hs4 hBd
  have oth : ∀ b, b < w4.heap.size → b ≠ w.heap.size → Wd.heap[b]? = w4.heap[b]? := fun b k1 k2 => by rw [hWd]; exact World.heap_setCells_other w4 _ _ _ k1 k2
  have hl4 := hb4.size
  have hNm : TxtIn Wd (fun b => P b ∨ (w.heap.size ≤ b ∧ b < Wd.heap.size)) A3 N := (own_txt HO3.out (fun i x hx => (HT.out i x hx).2)).keep fun b hk => ⟨(oth b (by omega) (by omega)).trans (hb4.block b hk.2), .inr ⟨by omega, by omega⟩⟩
  have hN : NdIn Wd (fun b => P b ∨ (w.heap.size ≤ b ∧ b < Wd.heap.size)) (dirN N I) q := by
    rw [hq]
    refine .mk rs (fitD N I A3 A4 c3 c4 h1 h2 HH.out.1 h41 HH.out.2 h42) hNm (fun _ _ hx => (no_at hx).elim) (fun i x hx => ?_) (fun i x hx => (HI.out i x hx).keep fun b hb => ⟨hBd.block b (hP b hb), .inl hb⟩)
    have h0 := rowCells_at (rs := rs) hx 0 _ rfl
    obtain ⟨g, cur, g1, g2, g3, g4, g5⟩ := own_cell hown4 h0
    refine ⟨g, 0, g1, .inr ⟨by omega, by omega⟩, fun j v hj => ?_⟩
    obtain ⟨g', _, g1', _, _, _, g5'⟩ := own_cell hown4 (rowCells_at (rs := rs) hx j v hj)
    rw [g1] at g1'
    injection g1' with g1'
    injection g1' with g1'
    subst g1'
    rw [show 0 + i * 7 + j = i * 7 + j by omega]
    exact (World.cell?_of_block (a := ⟨g, i * 7 + j, none⟩) (oth g g3 (by omega))).trans g5'
  obtain ⟨p0, p1, p2, p3, p4, p5, p6⟩ := hob.cells
  have hWd' : ((((((w4.setCell ⟨w.heap.size, 0, none⟩ (.int .i64 2)).setCell ⟨w.heap.size, 1, none⟩ (.bool false)).setCell ⟨w.heap.size, 2, none⟩ (.slice A3 N.length c3)).setCell ⟨w.heap.size, 3, none⟩ (.slice A4 I.length c4)).setCell ⟨w.heap.size, 4, none⟩ (.int .i64 0)).setCell ⟨w.heap.size, 5, none⟩ (.slice none 0 0)).setCell ⟨w.heap.size, 6, none⟩ (.string ⟨#[]⟩) = Wd := by rw [hWd, hq]; rfl
  have HWd := Lib.hid hWd'
  have HN := Lib.hid hN
  have HBd := Lib.hid hBd
  clear hWd hWd' hN hNm hBd hq hown4 hb4 hob hs4 oth h41 h42
  go_wp2_with fail
  rw [HWd.out]
  exact bodyPost_ret (v := ndV (dirN N I) q) (by unfold ndV rawCells; simp [results, Tryd.results37, go_sem, p0, p1, p2, p3, p4, p5, p6]) rfl ⟨q, rfl, HN.out, HBd.out⟩

end Go.Proofs.YthpnmkfgodmnfaaDoor.tre
