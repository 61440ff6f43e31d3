/- What Text, White and Dir hand back: nodes. Conditions: a text is no longer than a million; the rows are such as were read. -/
import Derived.Test.YtniklphdnakehaaDoorTreFind
import Derived.Test.YtniklphdnakehaaDoorExtOf
namespace Go.Proofs.YtniklphdnakehaaDoor.tre
set_option maxRecDepth 100000
open Go.RowKit Go.Proofs.YtniklphdnakehaaDoor.words Go.Proofs.YtniklphdnakehaaDoor.ext Go.Proofs.YtniklphdnakehaaDoor.name

def Built (n : Nd) (w : World) (e : Ending) (w' : World) : Prop := ∃ r', e = .returned (ndV n r') ∧ NdAt w' w'.heap.size n r' ∧ Below w.heap.size w w'
theorem TxtIn.txts {w : World} {P : Nat → Prop} {B : Nat} {A : Option Addr} {Q : List ByteArray} (h : TxtIn w P A Q) (hP : ∀ b, P b → b < B) : Txts w B A Q := fun i x hx => by
  obtain ⟨⟨b, off, h1, h2, h3⟩, h4⟩ := h i x hx
  exact ⟨⟨b, off, h1, hP b h2, h3⟩, h4⟩
theorem ExtIn.exts {w : World} {P : Nat → Prop} {B : Nat} {A : Option Addr} {L : List Ex} (h : ExtIn w P A L) (hP : ∀ b, P b → b < B) : Exts w B A L := fun i x hx => by
  obtain ⟨⟨b, off, h1, h2, h3, h3'⟩, h4⟩ := h i x hx
  exact ⟨⟨b, off, h1, hP b h2, h3, h3'⟩, h4⟩
theorem no_at {α : Type} {i : Nat} {x : α} (h : ([] : List α)[i]? = some x) : False := by simp at h
def whiteN : Nd := .mk 4 false [] [] 0 [] ⟨#[]⟩
def linkN (t : ByteArray) : Nd := .mk 3 false [] [] 0 [] t
def textN (s : ByteArray) : Nd := .mk 1 false [] [] (s.size : Int) (ofB s) ⟨#[]⟩
def dirN (N : List ByteArray) (I : List Nd) : Nd := .mk 2 false N I 0 [] ⟨#[]⟩
def opaqueN : Nd → Nd | .mk K _ N I S E T => .mk K true N I S E T
theorem fit0 (K : Int) (t : ByteArray) (h1 : -9223372036854775808 ≤ K) (h2 : K ≤ 9223372036854775807) (ht : t.size ≤ 140737488355328) : Fit (.mk K false [] [] 0 [] t) raw0 :=
  ⟨h1, h2, show (-9223372036854775808 : Int) ≤ 0 by decide, show (0 : Int) ≤ 9223372036854775807 by decide, ht, show 0 * 16 ≤ 140737488355328 by decide, show 0 * 112 ≤ 140737488355328 by decide, show 0 * 24 ≤ 140737488355328 by decide, Nat.zero_le _, Nat.zero_le _, Nat.zero_le _, fun _ => ⟨rfl, rfl⟩, fun _ => ⟨rfl, rfl⟩, fun _ => ⟨rfl, rfl⟩⟩
theorem bare_at (w : World) (B : Nat) (K : Int) (t : ByteArray) (h : Fit (.mk K false [] [] 0 [] t) raw0) : NdAt w B (.mk K false [] [] 0 [] t) raw0 :=
  .mk (fun _ => raw0) h (fun _ _ hx => (no_at hx).elim) (fun _ _ hx => (no_at hx).elim) (fun _ _ hx => (no_at hx).elim) (fun _ _ hx => (no_at hx).elim)

/-- The end of a function that hands back a node in a cell of its own. -/
theorem set_all (w : World) (g : Nat) (n : Nd) (q : Raw) : ((((((w.setCell ⟨g, 0, none⟩ (.int .i64 n.K)).setCell ⟨g, 1, none⟩ (.bool n.O)).setCell ⟨g, 2, none⟩ (.slice q.An n.N.length q.cn)).setCell ⟨g, 3, none⟩ (.slice q.Ai n.I.length q.ci)).setCell ⟨g, 4, none⟩ (.int .i64 n.S)).setCell ⟨g, 5, none⟩ (.slice q.Ae n.E.length q.ce)).setCell ⟨g, 6, none⟩ (.string n.T) = w.setCells g 0 (rawCells n q).toList := rfl

set_option maxHeartbeats 800000 in
theorem white_any (w : World) : Calls Tryd.prog 60 #[] w (Built whiteN w) := by
  go_enter Tryd.func60, Tryd.ntmps60
  go_wp2_with fail
  obtain ⟨Wd, hWd⟩ : ∃ Wd, Wd = w.alloc (.cells (rawCells whiteN raw0) 27) := ⟨_, rfl⟩
  have hB : Below w.heap.size w Wd := by rw [hWd]; exact (Below.refl _ _).alloc (Nat.le_refl _) _
  have hX : Box Wd w.heap.size whiteN raw0 := by rw [hWd]; exact Box.new w whiteN raw0
  obtain ⟨p0, p1, p2, p3, p4, p5, p6⟩ := hX.cells
  have hWd' : w.alloc (.cells #[.int .i64 4, .bool false, .slice none 0 0, .slice none 0 0, .int .i64 0, .slice none 0 0, .string ⟨#[]⟩] 27) = Wd := hWd.symm
  rw [hWd']
  exact bodyPost_ret (v := ndV whiteN raw0) (by unfold ndV rawCells; simp [results, Tryd.results60, go_sem, p0, p1, p2, p3, p4, p5, p6]) rfl ⟨raw0, rfl, bare_at _ _ _ _ (fit0 4 ⟨#[]⟩ (by decide) (by decide) (by decide)), hB⟩
theorem ofB_in (s : ByteArray) (hs : s.size ≤ 1000000) : ∀ (i : Nat) (x : Ex), (ofB s)[i]? = some x → -9223372036854775808 ≤ x.O ∧ x.O ≤ 9223372036854775807 ∧ x.D.size ≤ 140737488355328 := fun i x hx => by
  have := (((ofB_inv s).row x (List.mem_of_getElem? hx)).1).facts
  omega
theorem fitT (s : ByteArray) (A : Option Addr) (c : Nat) (h0 : s.size ≤ 1000000) (h : (ofB s).length * 24 ≤ 140737488355328) (hnc : (ofB s).length ≤ c) (hnz : A = none → (ofB s).length = 0 ∧ c = 0) : Fit (textN s) ⟨none, 0, none, 0, A, c⟩ :=
  ⟨show (-9223372036854775808 : Int) ≤ 1 by decide, show (1 : Int) ≤ 9223372036854775807 by decide, show -9223372036854775808 ≤ (s.size : Int) by omega, show (s.size : Int) ≤ 9223372036854775807 by omega, show (⟨#[]⟩ : ByteArray).size ≤ 140737488355328 by decide, show 0 * 16 ≤ 140737488355328 by decide, show 0 * 112 ≤ 140737488355328 by decide, h, Nat.zero_le _, Nat.zero_le _, hnc, fun _ => ⟨rfl, rfl⟩, fun _ => ⟨rfl, rfl⟩, hnz⟩
theorem fitD (N : List ByteArray) (I : List Nd) (A B : Option Addr) (c d : Nat) (h1 : N.length * 16 ≤ 140737488355328) (h2 : I.length * 112 ≤ 140737488355328) (hc : N.length ≤ c) (hd : I.length ≤ d) (hz : A = none → N.length = 0 ∧ c = 0) (hy : B = none → I.length = 0 ∧ d = 0) : Fit (dirN N I) ⟨A, c, B, d, none, 0⟩ :=
  ⟨show (-9223372036854775808 : Int) ≤ 2 by decide, show (2 : Int) ≤ 9223372036854775807 by decide, show (-9223372036854775808 : Int) ≤ 0 by decide, show (0 : Int) ≤ 9223372036854775807 by decide, show (⟨#[]⟩ : ByteArray).size ≤ 140737488355328 by decide, h1, h2, show 0 * 24 ≤ 140737488355328 by decide, hc, hd, Nat.zero_le _, hz, hy, fun _ => ⟨rfl, rfl⟩⟩
set_option maxHeartbeats 1600000 in
theorem text_any (s : ByteArray) (w : World) (hs : s.size ≤ 1000000) : Calls Tryd.prog 61 #[.string s] w (Built (textN s) w) := by
  obtain ⟨W1, hW1⟩ : ∃ W1, W1 = w.alloc (.cells (rawCells nd0 raw0) 27) := ⟨_, rfl⟩
  have hb1 : Below w.heap.size w W1 := by rw [hW1]; exact (Below.refl _ _).alloc (Nat.le_refl _) _
  have hX1 : Box W1 w.heap.size nd0 raw0 := by rw [hW1]; exact Box.new w nd0 raw0
  have hW1' : W1 = w.alloc (.cells #[.int .i64 0, .bool false, .slice none 0 0, .slice none 0 0, .int .i64 0, .slice none 0 0, .string ⟨#[]⟩] 27) := hW1
  have HW1 := Lib.hid hW1'
  have HX1 := Lib.hid hX1
  have HB1 := Lib.hid hb1
  clear hW1 hW1' hX1 hb1
  go_enter Tryd.func61, Tryd.ntmps61
  go_upto_region 1 with fail
  rw [← HW1.out]
  go_wp2_with fail
  refine (of_any s W1 hs).mono ?_
  rintro e w4 ⟨⟨A, c, rfl, hown⟩, hb4⟩
  have hO4 : Box w4 w.heap.size nd0 raw0 := HX1.out.below hb4
  have hB4 : Below w.heap.size w w4 := HB1.out.trans (hb4.mono HB1.out.size)
  have hl1 := HX1.out.lt
  have z0 := free_of_blk hO4 0
  have z1 := free_of_blk hO4 1
  have z2 := free_of_blk hO4 2
  have z3 := free_of_blk hO4 3
  have z4 := free_of_blk hO4 4
  have z5 := free_of_blk hO4 5
  have z6 := free_of_blk hO4 6
  obtain ⟨d0, d1, d2, d3, d4, d5, d6⟩ := hO4.cells
  obtain ⟨q, hq⟩ : ∃ q : Raw, q = ⟨none, 0, none, 0, A, c⟩ := ⟨_, rfl⟩
  have hob := hO4.over (m := textN s) (q := q)
  have hs4 := size_setCells w.heap.size (rawCells (textN s) q).toList 0 w4
  have hBd := below_setCells (w := w) (B := w.heap.size) (g := w.heap.size) (Nat.le_refl _) (rawCells (textN s) q).toList 0 w4 hB4
  obtain ⟨Wd, hWd⟩ : ∃ Wd, Wd = w4.setCells w.heap.size 0 (rawCells (textN s) q).toList := ⟨_, rfl⟩
  rw [← hWd] at hob hs4 hBd
  obtain ⟨A', c', hv, hnc, hnz⟩ := own_facts hown
  injection hv with hA' _ hc'
  subst hA' hc'
  have hln := ofB_length s
  have hE : Exts Wd Wd.heap.size A (ofB s) := ((own_ext hown (ofB_in s hs)).keep (P' := fun b => b < Wd.heap.size) fun b hk => ⟨by rw [hWd]; exact World.heap_setCells_other w4 _ _ _ hk.2 (by omega), by rw [hs4]; exact hk.2⟩).exts fun b hk => hk
  have hN : NdAt Wd Wd.heap.size (textN s) q := by
    rw [hq]
    exact .mk (fun _ => raw0) (fitT s A c (by omega) (by omega) hnc hnz)
      (fun _ _ hx => (no_at hx).elim) hE (fun _ _ hx => (no_at hx).elim) (fun _ _ hx => (no_at hx).elim)
  obtain ⟨p0, p1, p2, p3, p4, p5, p6⟩ := hob.cells
  have hWd' : ((((((w4.setCell ⟨w.heap.size, 0, none⟩ (.int .i64 1)).setCell ⟨w.heap.size, 1, none⟩ (.bool false)).setCell ⟨w.heap.size, 2, none⟩ (.slice none 0 0)).setCell ⟨w.heap.size, 3, none⟩ (.slice none 0 0)).setCell ⟨w.heap.size, 4, none⟩ (.int .i64 (s.size : Int))).setCell ⟨w.heap.size, 5, none⟩ (.slice A (ofB s).length c)).setCell ⟨w.heap.size, 6, none⟩ (.string ⟨#[]⟩) = Wd := by rw [hWd, hq]; rfl
  have HWd := Lib.hid hWd'
  have HN := Lib.hid hN
  have HBd := Lib.hid hBd
  clear hWd hWd' hN hE hBd hq hown hb4 hob hs4 hnc hnz
  go_wp2_with fail
  rw [HWd.out]
  exact bodyPost_ret (v := ndV (textN s) q) (by unfold ndV rawCells; simp [results, Tryd.results61, go_sem, p0, p1, p2, p3, p4, p5, p6]) rfl ⟨q, rfl, HN.out, HBd.out⟩

set_option maxHeartbeats 3200000 in
theorem dir_any (A1 A2 : Option Addr) (c1 c2 : Nat) (N : List ByteArray) (I : List Nd) (rs : Nat → Raw) (w : World) (hT : Txts w w.heap.size A1 N) (hL : Lies w A2 (rowCells I rs)) (hI : ∀ (i : Nat) (x : Nd), I[i]? = some x → NdAt w w.heap.size x (rs i))
    (h1 : N.length * 16 ≤ 140737488355328) (h2 : I.length * 112 ≤ 140737488355328) (hz1 : A1 = none → N.length = 0 ∧ c1 = 0) (hz2 : A2 = none → I.length = 0 ∧ c2 = 0) :
    Calls Tryd.prog 29 #[.slice A1 N.length c1, .slice A2 I.length c2] w (Built (dirN N I) w) := by
  obtain ⟨W1, hW1⟩ : ∃ W1, W1 = w.alloc (.cells (rawCells nd0 raw0) 27) := ⟨_, rfl⟩
  have hb1 : Below w.heap.size w W1 := by rw [hW1]; exact (Below.refl _ _).alloc (Nat.le_refl _) _
  have hX1 : Box W1 w.heap.size nd0 raw0 := by rw [hW1]; exact Box.new w nd0 raw0
  have hW1' : W1 = w.alloc (.cells #[.int .i64 0, .bool false, .slice none 0 0, .slice none 0 0, .int .i64 0, .slice none 0 0, .string ⟨#[]⟩] 27) := hW1
  have HW1 := Lib.hid hW1'
  have HX1 := Lib.hid hX1
  have HB1 := Lib.hid hb1
  have HL1 := Lib.hid (copy_txt A1 N.length c1 _ W1 (lies_txt ((hT.keep hb1).more hb1.size)) hz1 h1 (by rw [List.length_map, Nat.mul_one]) (txtCells_one N))
  have HL := Lib.hid hL
  have HI := Lib.hid hI
  have HT := Lib.hid hT
  clear hW1 hW1' hX1 hb1 hL hI hT
  go_enter Tryd.func29, Tryd.ntmps29
  go_upto_region 1 with fail
  rw [← HW1.out]
  go_wp2_with fail
  refine (HL1.out.mono fun _ _ h => own_of h).mono ?_
  rintro e w2 ⟨A3, c3, rfl, h31, h32, hown3, hb2⟩
  have hB2 : Below w.heap.size w w2 := HB1.out.trans (hb2.mono HB1.out.size)
  have HL2 := Lib.hid (copy_nd A2 I.length c2 _ w2 (Below.lies HL.out hB2) hz2 h2 (rowCells_length I rs) (rowCells_one I rs))
  have HO3 := Lib.hid hown3
  have HB2 := Lib.hid hb2
  have HH := Lib.hid (And.intro h31 h32)
  clear hown3 hb2 hB2 h31 h32
  go_wp2_with fail
  refine (HL2.out.mono fun _ _ h => own_of h).mono ?_
  rintro e w4 ⟨A4, c4, rfl, h41, h42, hown4, hb4⟩
  have hO4 : Box w4 w.heap.size nd0 raw0 := (HX1.out.below HB2.out).below hb4
  have hB4 : Below w.heap.size w w4 := (HB1.out.trans (HB2.out.mono HB1.out.size)).trans (hb4.mono (HB1.out.trans (HB2.out.mono HB1.out.size)).size)
  have hl1 := HX1.out.lt
  have hl2 := HB2.out.size
  have z0 := free_of_blk hO4 0
  have z1 := free_of_blk hO4 1
  have z2 := free_of_blk hO4 2
  have z3 := free_of_blk hO4 3
  have z4 := free_of_blk hO4 4
  have z5 := free_of_blk hO4 5
  have z6 := free_of_blk hO4 6
  obtain ⟨d0, d1, d2, d3, d4, d5, d6⟩ := hO4.cells
  obtain ⟨q, hq⟩ : ∃ q : Raw, q = ⟨A3, c3, A4, c4, none, 0⟩ := ⟨_, rfl⟩
  have hob := hO4.over (m := dirN N I) (q := q)
  have hs4 := size_setCells w.heap.size (rawCells (dirN N I) q).toList 0 w4
  have hBd := below_setCells (w := w) (B := w.heap.size) (g := w.heap.size) (Nat.le_refl _) (rawCells (dirN N I) q).toList 0 w4 hB4
  obtain ⟨Wd, hWd⟩ : ∃ Wd, Wd = w4.setCells w.heap.size 0 (rawCells (dirN N I) q).toList := ⟨_, rfl⟩
  rw [← hWd] at hob hs4 hBd
  have oth : ∀ b, b < w4.heap.size → b ≠ w.heap.size → Wd.heap[b]? = w4.heap[b]? := fun b k1 k2 => by rw [hWd]; exact World.heap_setCells_other w4 _ _ _ k1 k2
  have hl4 := hb4.size
  have hNm : Txts Wd Wd.heap.size A3 N := ((own_txt HO3.out (fun i x hx => (HT.out i x hx).2)).keep (P' := fun b => b < Wd.heap.size) fun b hk => ⟨(oth b (by omega) (by omega)).trans (hb4.block b hk.2), by omega⟩).txts fun b hk => hk
  have hN : NdAt Wd Wd.heap.size (dirN N I) q := by
    rw [hq]
    refine .mk rs (fitD N I A3 A4 c3 c4 h1 h2 HH.out.1 h41 HH.out.2 h42) hNm (fun _ _ hx => (no_at hx).elim) (fun i x hx => ?_) (fun i x hx => ((HI.out i x hx).keep hBd).more hBd.size)
    have h0 := rowCells_at (rs := rs) hx 0 _ rfl
    obtain ⟨g, cur, g1, g2, g3, g4, g5⟩ := own_cell hown4 h0
    refine ⟨g, 0, g1, by omega, fun j v hj => ?_⟩
    obtain ⟨g', _, g1', _, _, _, g5'⟩ := own_cell hown4 (rowCells_at (rs := rs) hx j v hj)
    rw [g1] at g1'
    injection g1' with g1'
    injection g1' with g1'
    subst g1'
    rw [show 0 + i * 7 + j = i * 7 + j by omega]
    exact (World.cell?_of_block (a := ⟨g, i * 7 + j, none⟩) (oth g g3 (by omega))).trans g5'
  obtain ⟨p0, p1, p2, p3, p4, p5, p6⟩ := hob.cells
  have hWd' : ((((((w4.setCell ⟨w.heap.size, 0, none⟩ (.int .i64 2)).setCell ⟨w.heap.size, 1, none⟩ (.bool false)).setCell ⟨w.heap.size, 2, none⟩ (.slice A3 N.length c3)).setCell ⟨w.heap.size, 3, none⟩ (.slice A4 I.length c4)).setCell ⟨w.heap.size, 4, none⟩ (.int .i64 0)).setCell ⟨w.heap.size, 5, none⟩ (.slice none 0 0)).setCell ⟨w.heap.size, 6, none⟩ (.string ⟨#[]⟩) = Wd := by rw [hWd, hq]; rfl
  have HWd := Lib.hid hWd'
  have HN := Lib.hid hN
  have HBd := Lib.hid hBd
  clear hWd hWd' hN hNm hBd hq hown4 hb4 hob hs4 oth h41 h42
  go_wp2_with fail
  rw [HWd.out]
  exact bodyPost_ret (v := ndV (dirN N I) q) (by unfold ndV rawCells; simp [results, Tryd.results29, go_sem, p0, p1, p2, p3, p4, p5, p6]) rfl ⟨q, rfl, HN.out, HBd.out⟩

end Go.Proofs.YtniklphdnakehaaDoor.tre
