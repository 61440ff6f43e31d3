/- What Find hands back of a node's name: the entry's node in memory of its own, or that there is none. Conditions: the node is one that was read, its names rise, there is an entry for each name, and it is no deeper than a thousand. -/
import Derived.Test.YthpnmkfgodmnfaaDoorTreSearch
namespace Go.Proofs.YthpnmkfgodmnfaaDoor.tre
set_option maxRecDepth 100000
open Go.RowKit Go.Proofs.YthpnmkfgodmnfaaDoor.words Go.Proofs.YthpnmkfgodmnfaaDoor.ext Go.Proofs.YthpnmkfgodmnfaaDoor.name

def Found (n : Nd) (s : ByteArray) (w : World) (e : Ending) (w' : World) : Prop :=
  ((∃ (i : Nat) (x : Nd) (r' : Raw), n.N[i]? = some s ∧ n.I[i]? = some x ∧ e = .returned (.tuple #[ndV x r', .bool true]) ∧ NdIn w' (fun b => w.heap.size ≤ b ∧ b < w'.heap.size) x r') ∨
    (e = .returned (.tuple #[ndV nd0 raw0, .bool false]) ∧ ∀ j : Nat, n.N[j]? ≠ some s)) ∧ Below w.heap.size w w'
theorem ends_is (n : Nd) (r : Raw) (w : World) (hN : NdAt w w.heap.size n r) (hd : depth n ≤ 1000) :
    Calls Tryd.prog 70 #[ndV n r] w fun e w' => e = .returned (.bool true) ∧ Below w.heap.size w w' :=
  (ends_node n r w hN hd).mono fun _ _ ⟨he, hw⟩ => ⟨by rw [he, each_ends n 0 0 (by omega)], hw⟩
theorem below_setCells {w : World} {B g : Nat} (hg : B ≤ g) : ∀ (vs : List Value) (o : Nat) (w1 : World), Below B w w1 → Below B w (w1.setCells g o vs)
  | [], _, _, h => h
  | v :: vs, o, w1, h => by
    rw [World.setCells]
    exact below_setCells hg vs (o + 1) _ (h.setCell (p := ⟨g, o, none⟩) hg v)

set_option maxRecDepth 100000 in
set_option maxHeartbeats 3200000 in
theorem find_any (n : Nd) (r : Raw) (s : ByteArray) (w : World) (hN : NdAt w w.heap.size n r) (hasc : Asc n.N) (hlen : n.N.length = n.I.length) (hd : depth n ≤ 1000) :
    Calls Tryd.prog 40 #[ndV n r, .string s] w (Found n s w) := by
  have f1 := hN.fit.ln
  have f2 := hN.fit.li
  obtain ⟨W1, hW1⟩ : ∃ W1, W1 = (w.alloc (.cells (rawCells n r) 26)).alloc (.cells (rawCells nd0 raw0) 26) := ⟨_, rfl⟩
  have hT := Two.new w n r nd0 raw0
  rw [← hW1] at hT
  have HT := Lib.hid hT
  have hz1 : w.heap.size + 1 < W1.heap.size := hT.y.lt
  have HN := Lib.hid (hN.later hT.b)
  have HA := Lib.hid hasc
  have HD := Lib.hid hd
  have HLn := Lib.hid hlen
  have hW1' : W1 = (w.alloc (.cells #[.int .i64 n.K, .bool n.O, .slice r.An n.N.length r.cn, .slice r.Ai n.I.length r.ci, .int .i64 n.S, .slice r.Ae n.E.length r.ce, .string n.T] 26)).alloc (.cells #[.int .i64 0, .bool false, .slice none 0 0, .slice none 0 0, .int .i64 0, .slice none 0 0, .string ⟨#[]⟩] 26) := hW1
  have HW1 := Lib.hid hW1'
  clear hN hT hW1 hW1' hasc hd hlen
  unfold ndV rawCells
  go_enter Tryd.func40, Tryd.ntmps40
  go_upto_region 1 with fail
  rw [← HW1.out]
  obtain ⟨b0, b1, b2, b3, b4, b5, b6⟩ := HT.out.x.cells
  have hto := HT.out.y
  have z0 := free_of_blk hto 0
  have z1 := free_of_blk hto 1
  have z2 := free_of_blk hto 2
  have z3 := free_of_blk hto 3
  have z4 := free_of_blk hto 4
  have z5 := free_of_blk hto 5
  have z6 := free_of_blk hto 6
  obtain ⟨d0, d1, d2, d3, d4, d5, d6⟩ := hto.cells
  clear hto
  go_wp2_with fail
  refine (search_txt r.An r.cn n.N s W1 HN.out.names (by omega) HA.out).mono ?_
  rintro e w2 ⟨⟨i, rfl, hi⟩ | ⟨i, rfl, hno⟩, rfl⟩
  · have hlt := (List.getElem?_eq_some_iff.1 hi).1
    have hlt2 : i < n.I.length := by have := HLn.out; omega
    obtain ⟨x, hx⟩ : ∃ x, n.I[i]? = some x := ⟨_, List.getElem?_eq_getElem hlt2⟩
    obtain ⟨rx, hrx, b, off, hA, hB, c0, c1, c2, c3, c4, c5, c6⟩ := HN.out.entry hx (Below.refl _ _)
    have hdx : depth x ≤ 1000 := by have := depth_at hx; have := depth_eq n; have := HD.out; omega
    have HI := Lib.hid hi
    have HX := Lib.hid hx
    have HE := Lib.hid (ends_is x rx W1 hrx hdx)
    unfold ndV rawCells at HE
    have HRx := Lib.hid hrx
    have i0 : (0 : Int) ≤ (i : Int) := by omega
    have i1 : (i : Int) < (n.I.length : Int) := by omega
    have i2 : ¬ (n.I.length : Int) ≤ (i : Int) := by omega
    have g5 : decide (n.I.length ≤ i) = false := by simp; omega
    rw [hA] at b3
    clear hi hx hrx hA hlt hlt2
    go_wp2_with fail
    refine HE.out.mono ?_
    rintro e w3 ⟨rfl, hb3⟩
    have HT3 := Lib.hid (HT.out.later hb3)
    have HB3 := Lib.hid hb3
    have hz3 := hb3.size
    clear b0 b1 b2 b3 b4 b5 b6 c0 c1 c2 c3 c4 c5 c6 d0 d1 d2 d3 d4 d5 d6 z0 z1 z2 z3 z4 z5 z6 HE hb3
    obtain ⟨b0, b1, b2, b3, b4, b5, b6⟩ := HT3.out.x.cells
    obtain ⟨ry, hry, b', off', hA, hB', c0, c1, c2, c3, c4, c5, c6⟩ := HN.out.entry HX.out HB3.out
    have HC := Lib.hid (clone_at (depth x + 1) x ry w3 (Nat.lt_succ_self _) ((hry.keep HB3.out).more HB3.out.size))
    unfold ndV rawCells at HC
    rw [hA] at b3
    clear hry hA
    go_wp2_with fail
    refine HC.out.mono ?_
    rintro e w4 ⟨r', rfl, hn4, hb4⟩
    have hO4 : Box w4 (w.heap.size + 1) nd0 raw0 := HT3.out.y.below hb4
    have hB4 : Below w.heap.size w w4 := HT3.out.b.trans (hb4.mono HT3.out.b.size)
    have z0 := free_of_blk hO4 0
    have z1 := free_of_blk hO4 1
    have z2 := free_of_blk hO4 2
    have z3 := free_of_blk hO4 3
    have z4 := free_of_blk hO4 4
    have z5 := free_of_blk hO4 5
    have z6 := free_of_blk hO4 6
    obtain ⟨d0, d1, d2, d3, d4, d5, d6⟩ := hO4.cells
    have hob := hO4.over (m := x) (q := r')
    have hs := size_setCells (w.heap.size + 1) (rawCells x r').toList 0 w4
    have hNI : NdIn (w4.setCells (w.heap.size + 1) 0 (rawCells x r').toList) (fun b => w.heap.size ≤ b ∧ b < (w4.setCells (w.heap.size + 1) 0 (rawCells x r').toList).heap.size) x r' :=
      hn4.keep fun b hk => ⟨World.heap_setCells_other w4 _ _ _ hk.2 (by omega), by omega, by rw [hs]; exact hk.2⟩
    have hBd := below_setCells (w := w) (B := w.heap.size) (g := w.heap.size + 1) (Nat.le_succ _) (rawCells x r').toList 0 w4 hB4
    have HNI := Lib.hid hNI
    have HBd := Lib.hid hBd
    clear hO4 hB4 hn4 hb4 hs hNI hBd b0 b1 b2 b3 b4 b5 b6 c0 c1 c2 c3 c4 c5 c6 HC
    unfold ndV rawCells
    go_wp2_with fail
    obtain ⟨Wd, hWd⟩ : ∃ Wd, Wd = w4.setCells (w.heap.size + 1) 0 (rawCells x r').toList := ⟨_, rfl⟩
    rw [← hWd] at HNI HBd hob
    obtain ⟨p0, p1, p2, p3, p4, p5, p6⟩ := hob.cells
    have hWd' : ((((((w4.setCell ⟨w.heap.size + 1, 0, none⟩ (.int .i64 x.K)).setCell ⟨w.heap.size + 1, 1, none⟩ (.bool x.O)).setCell ⟨w.heap.size + 1, 2, none⟩ (.slice r'.An x.N.length r'.cn)).setCell ⟨w.heap.size + 1, 3, none⟩ (.slice r'.Ai x.I.length r'.ci)).setCell ⟨w.heap.size + 1, 4, none⟩ (.int .i64 x.S)).setCell ⟨w.heap.size + 1, 5, none⟩ (.slice r'.Ae x.E.length r'.ce)).setCell ⟨w.heap.size + 1, 6, none⟩ (.string x.T) = Wd := hWd.symm
    rw [hWd']
    exact bodyPost_ret (v := .tuple #[ndV x r', .bool true]) (by unfold ndV rawCells; simp [results, Tryd.results40, go_sem, p0, p1, p2, p3, p4, p5, p6]) rfl ⟨.inl ⟨i, x, r', HI.out, HX.out, rfl, HNI.out⟩, HBd.out⟩
  · have HF := Lib.hid hno
    clear hno
    have hob := HT.out.y.over (m := nd0) (q := raw0)
    have hBd := below_setCells (w := w) (B := w.heap.size) (g := w.heap.size + 1) (Nat.le_succ _) (rawCells nd0 raw0).toList 0 W1 HT.out.b
    go_wp2_with fail
    obtain ⟨Wd, hWd⟩ : ∃ Wd, Wd = W1.setCells (w.heap.size + 1) 0 (rawCells nd0 raw0).toList := ⟨_, rfl⟩
    rw [← hWd] at hBd hob
    obtain ⟨p0, p1, p2, p3, p4, p5, p6⟩ := hob.cells
    have hWd' : ((((((W1.setCell ⟨w.heap.size + 1, 0, none⟩ (.int .i64 0)).setCell ⟨w.heap.size + 1, 1, none⟩ (.bool false)).setCell ⟨w.heap.size + 1, 2, none⟩ (.slice none 0 0)).setCell ⟨w.heap.size + 1, 3, none⟩ (.slice none 0 0)).setCell ⟨w.heap.size + 1, 4, none⟩ (.int .i64 0)).setCell ⟨w.heap.size + 1, 5, none⟩ (.slice none 0 0)).setCell ⟨w.heap.size + 1, 6, none⟩ (.string ⟨#[]⟩) = Wd := hWd.symm
    rw [hWd']
    exact bodyPost_ret (v := .tuple #[ndV nd0 raw0, .bool false]) (by unfold ndV rawCells; simp [results, Tryd.results40, go_sem, p0, p1, p2, p3, p4, p5, p6]) rfl ⟨.inr ⟨rfl, HF.out⟩, hBd⟩
end Go.Proofs.YthpnmkfgodmnfaaDoor.tre
