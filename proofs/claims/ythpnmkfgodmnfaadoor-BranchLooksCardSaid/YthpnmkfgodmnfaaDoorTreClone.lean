/- What clone hands back of a node: the same node, in memory of its own. Condition: the node is one that was read. -/
import Derived.Test.YthpnmkfgodmnfaaDoorTreCell
import Derived.Deep.RegionHeld3
namespace Go.Proofs.YthpnmkfgodmnfaaDoor.tre
set_option maxRecDepth 100000
open Go.RowKit Go.Proofs.YthpnmkfgodmnfaaDoor.words Go.Proofs.YthpnmkfgodmnfaaDoor.ext Go.Proofs.YthpnmkfgodmnfaaDoor.name

def Cloned (n : Nd) (w : World) (e : Ending) (w' : World) : Prop :=
  ∃ r', e = .returned (ndV n r') ∧ NdIn w' (fun b => w.heap.size ≤ b ∧ b < w'.heap.size) n r' ∧ Below w.heap.size w w'
def Round (g : Nat) (W5 : World) (x : Nd) (e : Ending) (w' : World) : Prop :=
  ∃ r', e = .returned (.agg #[.int .i64 x.K, .bool x.O, .slice r'.An x.N.length r'.cn, .slice r'.Ai x.I.length r'.ci, .int .i64 x.S, .slice r'.Ae x.E.length r'.ce, .string x.T]) ∧ NdIn w' (fun b => g < b ∧ b < w'.heap.size) x r' ∧ Below W5.heap.size W5 w'
/-- What Clone hands back, at a slice. -/
def Own (E : TypeId) (size n : Nat) (xs : List Value) (w : World) (e : Ending) (w' : World) : Prop :=
  ∃ A c, e = .returned (.slice A n c) ∧ n ≤ c ∧ (A = none → n = 0 ∧ c = 0) ∧ w'.ownsRow w.heap.size E size (.slice A n c) n xs ∧ Below w.heap.size w w'
theorem own_of {E : TypeId} {size n : Nat} {xs : List Value} {w w' : World} {e : Ending} (h : Copied E size n xs w e w') : Own E size n xs w e w' := by
  obtain ⟨⟨A, c, h1, h2, h3, h4⟩, h5⟩ := h
  exact ⟨A, c, h1, h2, h3, h4, h5⟩
theorem NdAt.items_lie {w : World} {n : Nd} {r : Raw} (h : NdAt w w.heap.size n r) :
    ∃ rs, Lies w r.Ai (rowCells n.I rs) ∧ ∀ i x, n.I[i]? = some x → NdAt w w.heap.size x (rs i) := by
  cases h with
  | mk rs fit names exts cells items =>
    refine ⟨rs, fun j u hu => ?_, items⟩
    obtain ⟨i, x, k, hx, rfl, hk⟩ := rowCells_split hu
    obtain ⟨b, off, h1, h2, h3⟩ := cells i x hx
    exact ⟨b, off, h1, h2, by rw [← Nat.add_assoc]; exact h3 k u hk⟩
theorem Below.lies {w w' : World} {A : Option Addr} {xs : List Value} (h : Lies w A xs) (hb : Below w.heap.size w w') : Lies w' A xs := fun j u hu => by
  obtain ⟨b, off, h1, h2, h3⟩ := h j u hu
  exact ⟨b, off, h1, Nat.lt_of_lt_of_le h2 hb.size, (hb.cell (p := ⟨b, off + j, none⟩) h2).trans h3⟩
/-- A field of a box written. -/
theorem Box.set {w : World} {g : Nat} {n : Nd} {r : Raw} (h : Box w g n r) (i : Nat) (v : Value) (r' : Raw) (he : (rawCells n r).setIfInBounds i v = rawCells n r') : Box (w.setCell ⟨g, i, none⟩ v) g n r' := by
  unfold Box
  rw [← he]
  exact heap_setCell_same w g i _ _ v h
theorem Box.far {w : World} {g : Nat} {n : Nd} {r : Raw} (h : Box w g n r) (p : Addr) (v : Value) (hne : g ≠ p.block) : Box (w.setCell p v) g n r :=
  (heap_setCell_other w p g v hne).trans h
theorem Box.over {w : World} {g : Nat} {n m : Nd} {r q : Raw} (h : Box w g n r) : Box (w.setCells g 0 (rawCells m q).toList) g m q := by
  have h0 := heap_setCell_same w g 0 _ _ (.int .i64 m.K) h
  have h1 := heap_setCell_same _ g 1 _ _ (.bool m.O) h0
  have h2 := heap_setCell_same _ g 2 _ _ (.slice q.An m.N.length q.cn) h1
  have h3 := heap_setCell_same _ g 3 _ _ (.slice q.Ai m.I.length q.ci) h2
  have h4 := heap_setCell_same _ g 4 _ _ (.int .i64 m.S) h3
  have h5 := heap_setCell_same _ g 5 _ _ (.slice q.Ae m.E.length q.ce) h4
  have h6 := heap_setCell_same _ g 6 _ _ (.string m.T) h5
  have he : w.setCells g 0 (rawCells m q).toList = ((((((w.setCell ⟨g, 0, none⟩ (.int .i64 m.K)).setCell ⟨g, 1, none⟩ (.bool m.O)).setCell ⟨g, 2, none⟩ (.slice q.An m.N.length q.cn)).setCell ⟨g, 3, none⟩ (.slice q.Ai m.I.length q.ci)).setCell ⟨g, 4, none⟩ (.int .i64 m.S)).setCell ⟨g, 5, none⟩ (.slice q.Ae m.E.length q.ce)).setCell ⟨g, 6, none⟩ (.string m.T) := by
    unfold rawCells
    simp only [World.setCells, Nat.reduceAdd, Nat.zero_add]
  unfold Box
  rw [he, h6]
  unfold rawCells
  simp
theorem Kept.start {w w3 W3 : World} {n : Nd} {q : Raw} {A : Option Addr} {c : Nat} {rs : Nat → Raw} {w2 : World}
    (hbox : Box W3 w.heap.size n q) (hout : Box W3 (w.heap.size + 1) nd0 raw0) (hb : Below w.heap.size w W3) (hsz : w.heap.size + 1 < w2.heap.size) (hle : w2.heap.size ≤ w3.heap.size)
    (hW : W3 = w3.setCell ⟨w.heap.size, 3, none⟩ (.slice A n.I.length c)) (hq : q.Ai = A)
    (hnames : TxtIn W3 (fun b => w.heap.size + 1 < b ∧ b < w2.heap.size) q.An n.N) (hexts : ExtIn W3 (fun b => w.heap.size + 1 < b ∧ b < w2.heap.size) q.Ae n.E)
    (hown : w3.ownsRow w2.heap.size 26 7 (.slice A n.I.length c) n.I.length (rowCells n.I rs)) (hit : ∀ i x, n.I[i]? = some x → NdAt w w.heap.size x (rs i)) (hfit : Fit n q) :
    ∃ g, Kept w W3 n q g 0 := by
  have hs : W3.heap.size = w3.heap.size := by rw [hW, World.size_setCell]
  have oth : ∀ b, b ≠ w.heap.size → W3.heap[b]? = w3.heap[b]? := fun b hb => by rw [hW]; exact heap_setCell_other w3 _ b _ hb
  rcases hown.2 with ⟨_, h0⟩ | ⟨g, cap, cur, hv, h1, h2, _, _, _, _⟩
  · exact ⟨w2.heap.size, hbox, hout, hb, hsz, by omega, hnames, hexts, fun i x hx => by have := (List.getElem?_eq_some_iff.1 hx).1; omega, hfit⟩
  · injection hv with hA
    have hg := lt_of_some h2
    refine ⟨g, hbox, hout, hb, by omega, by omega, hnames.keep fun b hk => ⟨rfl, hk.1, by omega⟩, hexts.keep fun b hk => ⟨rfl, hk.1, by omega⟩, fun i x hx => ?_, hfit⟩
    refine ⟨hq.trans hA, ⟨cur, (oth g (by omega)).trans h2⟩, rs i, fun h => by omega, fun _ => hit i x hx, fun k v hk => ?_⟩
    obtain ⟨g', cur', h1', _, _, h2', h3'⟩ := own_cell hown (rowCells_at (rs := rs) hx k v hk)
    rw [hA] at h1'
    injection h1' with h1'
    injection h1' with h1'
    subst h1'
    exact (World.cell?_of_block (a := ⟨g, i * 7 + k, none⟩) (oth g (by omega))).trans h3'

set_option maxRecDepth 100000 in
set_option maxHeartbeats 6400000 in
theorem clone_at : ∀ (k : Nat) (n : Nd) (r : Raw) (w : World), depth n < k → NdAt w w.heap.size n r →
    Calls Tryd.prog 71 #[ndV n r] w (Cloned n w) := by
  intro k
  induction k with
  | zero => intro n r w hk; omega
  | succ k ih =>
    intro n r w hk hN
    have IH := Lib.hid ih
    have fit := hN.fit
    have HFit := Lib.hid fit
    have HN := Lib.hid hN
    have hdn := depth_eq n
    have hdk : depthL n.I ≤ k := by omega
    obtain ⟨rs, hlie, hit⟩ := hN.items_lie
    have HL := Lib.hid hlie
    have HIt := Lib.hid hit
    have f1 := fit.ln
    have f2 := fit.li
    have f3 := fit.le
    obtain ⟨W1, hW1⟩ : ∃ W1, W1 = (w.alloc (.cells (rawCells n r) 26)).alloc (.cells (rawCells nd0 raw0) 26) := ⟨_, rfl⟩
    have hT := Two.new w n r nd0 raw0
    rw [← hW1] at hT
    have HT := Lib.hid hT
    have hz1 : w.heap.size + 1 < W1.heap.size := hT.y.lt
    have HL1 := Lib.hid (copy_txt r.An n.N.length r.cn _ W1 (lies_txt (hN.later hT.b).names) fit.zn f1 (by rw [List.length_map, Nat.mul_one]) (txtCells_one n.N))
    have hW1' : W1 = (w.alloc (.cells #[.int .i64 n.K, .bool n.O, .slice r.An n.N.length r.cn, .slice r.Ai n.I.length r.ci, .int .i64 n.S, .slice r.Ae n.E.length r.ce, .string n.T] 26)).alloc (.cells #[.int .i64 0, .bool false, .slice none 0 0, .slice none 0 0, .int .i64 0, .slice none 0 0, .string ⟨#[]⟩] 26) := hW1
    clear hW1
    have hW1 := hW1'
    clear hW1'
    have HW1 := Lib.hid hW1
    clear hN hlie hit hW1 ih hdn hT fit
    unfold ndV rawCells
    go_enter Tryd.func71, Tryd.ntmps71
    go_upto_region 1 with fail
    rw [← HW1.out]
    obtain ⟨b0, b1, b2, b3, b4, b5, b6⟩ := HT.out.x.cells
    go_wp2_with fail
    refine (HL1.out.mono fun _ _ h => own_of h).mono ?_
    rintro e w2 ⟨A1, c1, rfl, h11, h12, hown1, hb1⟩
    have hX2 : Box w2 w.heap.size n r := HT.out.x.below hb1
    have hO2 : Box w2 (w.heap.size + 1) nd0 raw0 := HT.out.y.below hb1
    have hB2 : Below w.heap.size w w2 := HT.out.b.trans (hb1.mono HT.out.b.size)
    have z2 : w2.frozen? ⟨w.heap.size, 2, none⟩ = false := free_of_blk hX2 2
    clear b0 b1 b2 b3 b4 b5 b6
    obtain ⟨b0, b1, b2, b3, b4, b5, b6⟩ := hX2.cells
    obtain ⟨W2, hW2⟩ : ∃ W2, W2 = w2.setCell ⟨w.heap.size, 2, none⟩ (.slice A1 n.N.length c1) := ⟨_, rfl⟩
    have hs2 : W2.heap.size = w2.heap.size := by rw [hW2, World.size_setCell]
    have HX2 : Hid (Box W2 w.heap.size n { r with An := A1, cn := c1 }) := by rw [hW2]; exact Lib.hid (hX2.set 2 _ _ rfl)
    have HO2 : Hid (Box W2 (w.heap.size + 1) nd0 raw0) := by rw [hW2]; exact Lib.hid (hO2.far _ _ (by show w.heap.size + 1 ≠ w.heap.size; omega))
    have HB2 : Hid (Below w.heap.size w W2) := by rw [hW2]; exact Lib.hid (hB2.setCell (p := ⟨w.heap.size, 2, none⟩) (Nat.le_refl _) _)
    have HN2 : Hid (TxtIn W2 (fun b => w.heap.size + 1 < b ∧ b < W2.heap.size) A1 n.N) := Lib.hid ((own_txt hown1 (fun i x hx => (HN.out.names i x hx).2)).keep fun b hk => ⟨by rw [hW2]; exact heap_setCell_other w2 _ b _ (by show b ≠ w.heap.size; omega), by omega, by omega⟩)
    have hz2 : w.heap.size + 1 < W2.heap.size := by have := hb1.size; omega
    have HL2 := Lib.hid (copy_ext r.Ae n.E.length r.ce _ W2 (lies_ext (HN.out.later HB2.out).exts) HFit.out.ze f3 (exCells_length n.E) (exCells_one n.E))
    have HW2 := Lib.hid hW2
    clear hX2 hO2 hB2 hb1 hown1 hW2 HT HL1 HW1
    go_upto_region 2 with fail
    rw [← HW2.out]
    clear b0 b1 b2 b3 b4 b5 b6
    obtain ⟨b0, b1, b2, b3, b4, b5, b6⟩ := HX2.out.cells
    go_wp2_with fail
    refine (HL2.out.mono fun _ _ h => own_of h).mono ?_
    rintro e w3 ⟨A2, c2, rfl, h21, h22, hown2, hb2⟩
    have hX3 : Box w3 w.heap.size n { r with An := A1, cn := c1 } := HX2.out.below hb2
    have hO3 : Box w3 (w.heap.size + 1) nd0 raw0 := HO2.out.below hb2
    have hB3 : Below w.heap.size w w3 := HB2.out.trans (hb2.mono HB2.out.size)
    have z3 : w3.frozen? ⟨w.heap.size, 5, none⟩ = false := free_of_blk hX3 5
    clear b0 b1 b2 b3 b4 b5 b6
    obtain ⟨b0, b1, b2, b3, b4, b5, b6⟩ := hX3.cells
    obtain ⟨W3, hW3⟩ : ∃ W3, W3 = w3.setCell ⟨w.heap.size, 5, none⟩ (.slice A2 n.E.length c2) := ⟨_, rfl⟩
    have hs3 : W3.heap.size = w3.heap.size := by rw [hW3, World.size_setCell]
    have hz3 : w.heap.size + 1 < W3.heap.size := by have := hb2.size; omega
    have HX3 : Hid (Box W3 w.heap.size n { r with An := A1, cn := c1, Ae := A2, ce := c2 }) := by rw [hW3]; exact Lib.hid (hX3.set 5 _ _ rfl)
    have HO3 : Hid (Box W3 (w.heap.size + 1) nd0 raw0) := by rw [hW3]; exact Lib.hid (hO3.far _ _ (by show w.heap.size + 1 ≠ w.heap.size; omega))
    have HB3 : Hid (Below w.heap.size w W3) := by rw [hW3]; exact Lib.hid (hB3.setCell (p := ⟨w.heap.size, 5, none⟩) (Nat.le_refl _) _)
    have HN3 : Hid (TxtIn W3 (fun b => w.heap.size + 1 < b ∧ b < W3.heap.size) A1 n.N) := Lib.hid (HN2.out.keep fun b hk => ⟨(by rw [hW3]; exact (heap_setCell_other w3 _ b _ (by show b ≠ w.heap.size; omega)).trans (hb2.block b hk.2)), by omega, by have := hb2.size; omega⟩)
    have HE3 : Hid (ExtIn W3 (fun b => w.heap.size + 1 < b ∧ b < W3.heap.size) A2 n.E) := Lib.hid ((own_ext hown2 (fun i x hx => (HN.out.exts i x hx).2)).keep fun b hk => ⟨by rw [hW3]; exact heap_setCell_other w3 _ b _ (by show b ≠ w.heap.size; omega), by omega, by omega⟩)
    have HL3 := Lib.hid (copy_nd r.Ai n.I.length r.ci _ W3 (Below.lies HL.out HB3.out) HFit.out.zi f2 (rowCells_length n.I rs) (rowCells_one n.I rs))
    have HW3 := Lib.hid hW3
    clear hX3 hO3 hB3 hb2 hown2 hW3 HL2 HW2 HX2 HO2 HB2 HN2 z2
    go_upto_region 3 with fail
    rw [← HW3.out]
    clear b0 b1 b2 b3 b4 b5 b6
    obtain ⟨b0, b1, b2, b3, b4, b5, b6⟩ := HX3.out.cells
    go_wp2_with fail
    refine (HL3.out.mono fun _ _ h => own_of h).mono ?_
    rintro e w4 ⟨A3, c3, rfl, h31, h32, hown3, hb3⟩
    have hX4 : Box w4 w.heap.size n { r with An := A1, cn := c1, Ae := A2, ce := c2 } := HX3.out.below hb3
    have hO4 : Box w4 (w.heap.size + 1) nd0 raw0 := HO3.out.below hb3
    have hB4 : Below w.heap.size w w4 := HB3.out.trans (hb3.mono HB3.out.size)
    have z4 : w4.frozen? ⟨w.heap.size, 3, none⟩ = false := free_of_blk hX4 3
    clear b0 b1 b2 b3 b4 b5 b6
    obtain ⟨b0, b1, b2, b3, b4, b5, b6⟩ := hX4.cells
    obtain ⟨W4, hW4⟩ : ∃ W4, W4 = w4.setCell ⟨w.heap.size, 3, none⟩ (.slice A3 n.I.length c3) := ⟨_, rfl⟩
    obtain ⟨q, hq⟩ : ∃ q : Raw, q = ⟨A1, c1, A3, c3, A2, c2⟩ := ⟨_, rfl⟩
    have hXs : Box W4 w.heap.size n q := by rw [hW4, hq]; exact hX4.set 3 _ _ rfl
    have hOs : Box W4 (w.heap.size + 1) nd0 raw0 := by rw [hW4]; exact hO4.far _ _ (by show w.heap.size + 1 ≠ w.heap.size; omega)
    have hBs : Below w.heap.size w W4 := by rw [hW4]; exact hB4.setCell (p := ⟨w.heap.size, 3, none⟩) (Nat.le_refl _) _
    have hNs : TxtIn W4 (fun b => w.heap.size + 1 < b ∧ b < W3.heap.size) q.An n.N := by rw [hq]; exact HN3.out.keep fun b hk => ⟨(by rw [hW4]; exact (heap_setCell_other w4 _ b _ (by show b ≠ w.heap.size; omega)).trans (hb3.block b hk.2)), hk⟩
    have hEs : ExtIn W4 (fun b => w.heap.size + 1 < b ∧ b < W3.heap.size) q.Ae n.E := by rw [hq]; exact HE3.out.keep fun b hk => ⟨(by rw [hW4]; exact (heap_setCell_other w4 _ b _ (by show b ≠ w.heap.size; omega)).trans (hb3.block b hk.2)), hk⟩
    have ff := HFit.out
    have hF : Fit n q := by rw [hq]; exact ⟨ff.k1, ff.k2, ff.s1, ff.s2, ff.t, ff.ln, ff.li, ff.le, h11, h31, h21, h12, h32, h22⟩
    obtain ⟨g, hk0⟩ := Kept.start hXs hOs hBs hz3 hb3.size hW4 (by rw [hq]) hNs hEs hown3 HIt.out hF
    have HK0 := Lib.hid hk0
    have HQ : Hid (q.Ai = A3 ∧ q.ci = c3) := Lib.hid (by rw [hq]; exact ⟨rfl, rfl⟩)
    have HW4 := Lib.hid hW4
    clear hX4 hO4 hB4 hXs hOs hBs hNs hEs ff hF hk0 hq hb3 hown3 hW4 HL3 HW3 HX3 HO3 HB3 HN3 HE3 z3 h11 h12 h21 h22 h31 h32 HL HIt HFit
    go_upto_region 4 with fail
    rw [← HW4.out]
    clear b0 b1 b2 b3 b4 b5 b6
    obtain ⟨b0, b1, b2, b3, b4, b5, b6⟩ := HK0.out.box.cells
    rw [HQ.out.1, HQ.out.2] at b3
    go_wp2_with fail
    clear b0 b1 b2 b3 b4 b5 b6
    go_loopw [20] (fun v wr => ∃ j : Nat, j ≤ n.I.length ∧ v = .int .i64 j ∧ Kept w wr n q g j) (fun v _ => n.I.length - (intOf v).toNat)
    case atStart => exact ⟨0, Nat.zero_le _, rfl, HK0.out⟩
    case round =>
      obtain ⟨j, hj, rfl, hkr⟩ := hrel
      have HK := Lib.hid hkr
      clear hkr
      by_cases hlt : j < n.I.length
      · obtain ⟨x, hx⟩ : ∃ x, n.I[j]? = some x := ⟨_, List.getElem?_eq_getElem hlt⟩
        obtain ⟨hA, ⟨cur, hcur⟩, rx, _, hrx, hcx⟩ := HK.out.row j x hx
        rw [HQ.out.1] at hA
        have HX := Lib.hid hx
        have HRx := Lib.hid (hrx (Nat.le_refl _))
        have hdx : depth x < k := by have := depth_at hx; omega
        have hg := lt_of_some hcur
        have c0 : wr.cell? ⟨g, j * 7, none⟩ = some (.int .i64 x.K) := hcx 0 _ rfl
        have c1' : wr.cell? ⟨g, j * 7 + 1, none⟩ = some (.bool x.O) := hcx 1 _ rfl
        have c2' : wr.cell? ⟨g, j * 7 + 2, none⟩ = some (.slice rx.An x.N.length rx.cn) := hcx 2 _ rfl
        have c3' : wr.cell? ⟨g, j * 7 + 3, none⟩ = some (.slice rx.Ai x.I.length rx.ci) := hcx 3 _ rfl
        have c4 : wr.cell? ⟨g, j * 7 + 4, none⟩ = some (.int .i64 x.S) := hcx 4 _ rfl
        have c5 : wr.cell? ⟨g, j * 7 + 5, none⟩ = some (.slice rx.Ae x.E.length rx.ce) := hcx 5 _ rfl
        have c6 : wr.cell? ⟨g, j * 7 + 6, none⟩ = some (.string x.T) := hcx 6 _ rfl
        obtain ⟨b0, b1, b2, b3, b4, b5, b6⟩ := HK.out.box.cells
        have i0 : (0 : Int) ≤ (j : Int) := by omega
        have i1 : (j : Int) < (n.I.length : Int) := by omega
        subst hA
        clear hx hrx hcx hcur
        go_upto_region 7 with fail
        obtain ⟨W5, hW5⟩ : ∃ W5, W5 = wr.alloc (.cells (rawCells x rx) 26) := ⟨_, rfl⟩
        have hb5 : Below wr.heap.size wr W5 := by rw [hW5]; exact (Below.refl _ _).alloc (Nat.le_refl _) _
        have hx5 : Box W5 wr.heap.size x rx := by rw [hW5]; exact Box.new wr x rx
        have hK5 : Kept w W5 n q g j := HK.out.later hb5
        have hg5 : g < W5.heap.size := Nat.lt_of_lt_of_le hg hb5.size
        have HS : Hid (∀ w' : World, Below W5.heap.size W5 w' → (w'.cell? ⟨w.heap.size, 3, none⟩ = some (.slice (some ⟨g, 0, none⟩) n.I.length c3) ∧
            (w'.cell? ⟨wr.heap.size, 0, none⟩ = some (.int .i64 x.K) ∧ w'.cell? ⟨wr.heap.size, 1, none⟩ = some (.bool x.O) ∧ w'.cell? ⟨wr.heap.size, 2, none⟩ = some (.slice rx.An x.N.length rx.cn) ∧ w'.cell? ⟨wr.heap.size, 3, none⟩ = some (.slice rx.Ai x.I.length rx.ci) ∧ w'.cell? ⟨wr.heap.size, 4, none⟩ = some (.int .i64 x.S) ∧ w'.cell? ⟨wr.heap.size, 5, none⟩ = some (.slice rx.Ae x.E.length rx.ce) ∧ w'.cell? ⟨wr.heap.size, 6, none⟩ = some (.string x.T)) ∧
            (w'.cell? ⟨g, j * 7, none⟩ = some (.int .i64 x.K) ∧ w'.cell? ⟨g, j * 7 + 1, none⟩ = some (.bool x.O) ∧ w'.cell? ⟨g, j * 7 + 2, none⟩ = some (.slice rx.An x.N.length rx.cn) ∧ w'.cell? ⟨g, j * 7 + 3, none⟩ = some (.slice rx.Ai x.I.length rx.ci) ∧ w'.cell? ⟨g, j * 7 + 4, none⟩ = some (.int .i64 x.S) ∧ w'.cell? ⟨g, j * 7 + 5, none⟩ = some (.slice rx.Ae x.E.length rx.ce) ∧ w'.cell? ⟨g, j * 7 + 6, none⟩ = some (.string x.T)) ∧
            (w'.frozen? ⟨g, j * 7, none⟩ = false ∧ w'.frozen? ⟨g, j * 7 + 1, none⟩ = false ∧ w'.frozen? ⟨g, j * 7 + 2, none⟩ = false ∧ w'.frozen? ⟨g, j * 7 + 3, none⟩ = false ∧ w'.frozen? ⟨g, j * 7 + 4, none⟩ = false ∧ w'.frozen? ⟨g, j * 7 + 5, none⟩ = false ∧ w'.frozen? ⟨g, j * 7 + 6, none⟩ = false) ∧ Below W5.heap.size W5 w')) :=
          Lib.hid fun w' hb => by
            obtain ⟨e0, e1, e2, e3, e4, e5, e6⟩ := (hx5.below hb).cells
            obtain ⟨h0, h1, h2, h3, h4, h5, h6⟩ := (hK5.later hb).box.cells
            obtain ⟨_, ⟨cu, hcu⟩, _⟩ := (hK5.later hb).row j x HX.out
            have hbb := hb5.trans (hb.mono hb5.size)
            have cc := fun o => hbb.cell (p := ⟨g, o, none⟩) hg
            rw [HQ.out.1, HQ.out.2] at h3
            exact ⟨h3, ⟨e0, e1, e2, e3, e4, e5, e6⟩, ⟨(cc _).trans c0, (cc _).trans c1', (cc _).trans c2', (cc _).trans c3', (cc _).trans c4, (cc _).trans c5, (cc _).trans c6⟩,
              ⟨free_of_blk hcu _, free_of_blk hcu _, free_of_blk hcu _, free_of_blk hcu _, free_of_blk hcu _, free_of_blk hcu _, free_of_blk hcu _⟩, hb⟩
        have HI : Hid (∀ w' : World, Below W5.heap.size W5 w' → Calls Tryd.prog 71 #[ndV x rx] w' (Round g W5 x)) := Lib.hid fun w' hb =>
          (IH.out x rx w' hdx ((HRx.out.later (HK.out.below.trans (hb5.mono HK.out.below.size))).later hb)).mono fun e w'' h => by
            obtain ⟨r', h1, h2, h3⟩ := h
            exact ⟨r', h1, h2.keep fun b hk => ⟨rfl, by have := hb.size; omega, hk.2⟩, hb.trans (h3.mono hb.size)⟩
        have HK5 := Lib.hid hK5
        unfold rawCells at hW5
        unfold ndV rawCells at HI
        have HW5 := Lib.hid hW5
        rw [← HW5.out]
        clear hb5 hx5 hK5 hg5 hW5 c0 c1' c2' c3' c4 c5 c6 b0 b1 b2 b3 b4 b5 b6
        have H8 : Hid (∀ w' : World, Below W5.heap.size W5 w' → (w'.cell? ⟨w.heap.size, 3, none⟩ = some (.slice (some ⟨g, 0, none⟩) n.I.length c3) ∧ (w'.cell? ⟨wr.heap.size, 0, none⟩ = some (.int .i64 x.K) ∧ w'.cell? ⟨wr.heap.size, 1, none⟩ = some (.bool x.O) ∧ w'.cell? ⟨wr.heap.size, 2, none⟩ = some (.slice rx.An x.N.length rx.cn) ∧ w'.cell? ⟨wr.heap.size, 3, none⟩ = some (.slice rx.Ai x.I.length rx.ci) ∧ w'.cell? ⟨wr.heap.size, 4, none⟩ = some (.int .i64 x.S) ∧ w'.cell? ⟨wr.heap.size, 5, none⟩ = some (.slice rx.Ae x.E.length rx.ce) ∧ w'.cell? ⟨wr.heap.size, 6, none⟩ = some (.string x.T)))) := Lib.hid fun w' hb => ⟨(HS.out w' hb).1, (HS.out w' hb).2.1⟩
        have H8d := Lib.hid (H8.out _ (Below.refl W5.heap.size W5).drew)
        have HId := Lib.hid (HI.out _ (Below.refl W5.heap.size W5).drew)
        have ne1 : g ≠ w.heap.size := by have := HK5.out.big; omega
        have ne2 : g ≠ wr.heap.size := by omega
        go_region_held3 (fun w' => w'.cell? ⟨w.heap.size, 3, none⟩ = some (.slice (some ⟨g, 0, none⟩) n.I.length c3) ∧ (w'.cell? ⟨wr.heap.size, 0, none⟩ = some (.int .i64 x.K) ∧ w'.cell? ⟨wr.heap.size, 1, none⟩ = some (.bool x.O) ∧ w'.cell? ⟨wr.heap.size, 2, none⟩ = some (.slice rx.An x.N.length rx.cn) ∧ w'.cell? ⟨wr.heap.size, 3, none⟩ = some (.slice rx.Ai x.I.length rx.ci) ∧ w'.cell? ⟨wr.heap.size, 4, none⟩ = some (.int .i64 x.S) ∧ w'.cell? ⟨wr.heap.size, 5, none⟩ = some (.slice rx.Ae x.E.length rx.ce) ∧ w'.cell? ⟨wr.heap.size, 6, none⟩ = some (.string x.T)))
          (first | with_reducible exact H8d.out | with_reducible exact H8.out _ hb' | go_keep)
          (first | (go_at_call 71; refine HId.out.mono ?_; rintro e w' ⟨r', rfl, hn', hb'⟩; obtain ⟨_, _, ⟨s0, s1, s2, s3, s4, s5, s6⟩, ⟨t0, t1, t2, t3, t4, t5, t6⟩, _⟩ := HS.out w' hb'))
        have HKe := Lib.hid ((HK5.out.later hb').store HX.out hn')
        have he : w'.setCells g (j * 7) (rawCells x r').toList = ((((((w'.setCell ⟨g, j * 7, none⟩ (.int .i64 x.K)).setCell ⟨g, j * 7 + 1, none⟩ (.bool x.O)).setCell ⟨g, j * 7 + 2, none⟩ (.slice r'.An x.N.length r'.cn)).setCell ⟨g, j * 7 + 3, none⟩ (.slice r'.Ai x.I.length r'.ci)).setCell ⟨g, j * 7 + 4, none⟩ (.int .i64 x.S)).setCell ⟨g, j * 7 + 5, none⟩ (.slice r'.Ae x.E.length r'.ce)).setCell ⟨g, j * 7 + 6, none⟩ (.string x.T) := by
          unfold rawCells
          simp only [World.setCells, Nat.add_assoc, Nat.reduceAdd]
        rw [he] at HKe
        have HE := Lib.hid he
        clear he hn' hb' s0 s1 s2 s3 s4 s5 s6 t0 t1 t2 t3 t4 t5 t6 ne1 ne2 H8 H8d HId HI HS HK5 HW5 HK
        obtain ⟨We, hWe⟩ : ∃ We, We = w'.setCells g (j * 7) (rawCells x r').toList := ⟨_, rfl⟩
        rw [HE.out] at hWe
        rw [← hWe] at HKe ⊢
        clear HE hWe
        go_wp2_with fail
        go_roundw
        case rel => exact ⟨j + 1, by omega, by go_num, HKe.out⟩
        case measure => simp [intOf]; omega
      · obtain ⟨b0, b1, b2, b3, b4, b5, b6⟩ := HK.out.box.cells
        have ho := HK.out.out
        have z0 := free_of_blk ho 0
        have z1 := free_of_blk ho 1
        have z2 := free_of_blk ho 2
        have z3 := free_of_blk ho 3
        have z4 := free_of_blk ho 4
        have z5 := free_of_blk ho 5
        have z6 := free_of_blk ho 6
        obtain ⟨d0, d1, d2, d3, d4, d5, d6⟩ := ho.cells
        clear ho
        have HD := Lib.hid (HK.out.done (by omega))
        have hob := HK.out.out.over (m := n) (q := q)
        go_wp2_with fail
        obtain ⟨Wd, hWd⟩ : ∃ Wd, Wd = wr.setCells (w.heap.size + 1) 0 (rawCells n q).toList := ⟨_, rfl⟩
        rw [← hWd] at HD hob
        obtain ⟨p0, p1, p2, p3, p4, p5, p6⟩ := hob.cells
        have hWd' : ((((((wr.setCell ⟨w.heap.size + 1, 0, none⟩ (.int .i64 n.K)).setCell ⟨w.heap.size + 1, 1, none⟩ (.bool n.O)).setCell ⟨w.heap.size + 1, 2, none⟩ (.slice q.An n.N.length q.cn)).setCell ⟨w.heap.size + 1, 3, none⟩ (.slice q.Ai n.I.length q.ci)).setCell ⟨w.heap.size + 1, 4, none⟩ (.int .i64 n.S)).setCell ⟨w.heap.size + 1, 5, none⟩ (.slice q.Ae n.E.length q.ce)).setCell ⟨w.heap.size + 1, 6, none⟩ (.string n.T) = Wd := hWd.symm
        rw [hWd']
        exact bodyPost_ret (v := ndV n q) (by unfold ndV rawCells; simp [results, Tryd.results71, go_sem, p0, p1, p2, p3, p4, p5, p6]) rfl ⟨q, rfl, HD.out.1, HD.out.2⟩
end Go.Proofs.YthpnmkfgodmnfaaDoor.tre
