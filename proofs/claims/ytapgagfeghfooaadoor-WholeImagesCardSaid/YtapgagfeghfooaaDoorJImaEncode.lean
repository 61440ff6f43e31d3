/- Plain words for images: a node's bytes. No program, no condition. What the image's writer does with a node: its bytes are put behind those that are there, as there is room. Conditions: the node was read, and may be; it is no deeper than k; there is room. What the image's writer does with a file, behind its kind. Conditions: the file was read, and may be; there is room. What the image's writer does with a node: its bytes are put behind those that are there. Conditions: the node was read, and may be; there are no more than 4096 nodes; there is room. What the image's writer does with a node: its bytes are put behind those that are there. Conditions: the node was read, and may be; there are no more than 4096 nodes; there is room. What image.Encode answers: a tree's image, where there is room; or that it has none, as it may not be. Conditions: the node was read; the library's MaxLen holds a number. -/
import Derived.Test.YtapgagfeghfooaaDoorJA
import Derived.Test.YtapgagfeghfooaaDoorJImaTake
import Derived.Test.YtapgagfeghfooaaDoorJBraEntry
namespace Go.Proofs.YtapgagfeghfooaaDoor.ima
set_option maxRecDepth 100000
open Go.RowKit Go.Proofs.YtapgagfeghfooaaDoor.ext Go.Proofs.YtapgagfeghfooaaDoor.name Go.Proofs.YtapgagfeghfooaaDoor.tre

def exB (E : List Ex) : List UInt8 := E.flatMap fun x => be x.O 4 ++ (be (x.D.size : Int) 4 ++ x.D.data.toList)
theorem exB_snoc (E : List Ex) (x : Ex) : exB (E ++ [x]) = exB E ++ (be x.O 4 ++ (be (x.D.size : Int) 4 ++ x.D.data.toList)) := by simp [exB]
theorem exB_length (E : List Ex) : E.length * 8 ≤ (exB E).length := by
  induction E with
  | nil => exact Nat.zero_le _
  | cons x E ih =>
    show _ ≤ ((be x.O 4 ++ (be (x.D.size : Int) 4 ++ x.D.data.toList)) ++ exB E).length
    rw [List.length_append, List.length_append, List.length_append, be_length, be_length, List.length_cons]
    omega
mutual
def nb : Nd → List UInt8
  | .mk K O N I S E T => be K 1 ++ (if K = 1 then be S 4 ++ (be (E.length : Int) 4 ++ exB E) else if K = 2 then be (if O then 1 else 0) 1 ++ (be (I.length : Int) 2 ++ itB N I) else if K = 3 then be (T.size : Int) 2 ++ T.data.toList else [])
def itB : List ByteArray → List Nd → List UInt8
  | s :: N, x :: I => be (s.size : Int) 1 ++ (s.data.toList ++ nb x) ++ itB N I
  | _, _ => []
end
def bodyB (n : Nd) : List UInt8 := if n.K = 1 then be n.S 4 ++ (be (n.E.length : Int) 4 ++ exB n.E) else if n.K = 2 then be (if n.O then 1 else 0) 1 ++ (be (n.I.length : Int) 2 ++ itB n.N n.I) else if n.K = 3 then be (n.T.size : Int) 2 ++ n.T.data.toList else []
theorem nb_eq (n : Nd) : nb n = be n.K 1 ++ bodyB n := by cases n; rw [nb]; rfl
theorem itB_nil (N : List ByteArray) : itB N [] = [] := by cases N <;> rw [itB]; all_goals (intros; simp_all)
theorem itB_cons (s : ByteArray) (N : List ByteArray) (x : Nd) (I : List Nd) : itB (s :: N) (x :: I) = be (s.size : Int) 1 ++ (s.data.toList ++ nb x) ++ itB N I := by rw [itB]
theorem itB_snoc : ∀ (N : List ByteArray) (I : List Nd) (s : ByteArray) (x : Nd), N.length = I.length → itB (N ++ [s]) (I ++ [x]) = itB N I ++ (be (s.size : Int) 1 ++ (s.data.toList ++ nb x))
  | [], [], s, x, _ => by
    simp [itB_cons, itB_nil]
  | [], _ :: _, _, _, h => by simp at h
  | _ :: _, [], _, _, h => by simp at h
  | t :: N, y :: I, s, x, h => by
    rw [List.cons_append, List.cons_append, itB_cons, itB_cons, itB_snoc N I s x (by simpa using h)]
    simp only [List.append_assoc]
theorem itB_length : ∀ (N : List ByteArray) (I : List Nd) (j : Nat), (itB (N.take j) (I.take j)).length ≤ (itB N I).length
  | [], _, _ => by simp [itB]
  | _ :: _, [], _ => by simp [itB_nil]
  | t :: N, y :: I, 0 => by rw [List.take_zero, List.take_zero, itB_nil]; exact Nat.zero_le _
  | t :: N, y :: I, j + 1 => by
    rw [List.take_succ_cons, List.take_succ_cons, itB_cons, itB_cons]
    have := itB_length N I j
    simp only [List.length_append]
    omega
theorem exB_take (E : List Ex) (j : Nat) : (exB (E.take j)).length ≤ (exB E).length := by
  have e : exB E = exB (E.take j) ++ exB (E.drop j) := by
    unfold exB
    rw [← List.flatMap_append, List.take_append_drop]
  rw [e, List.length_append]
  omega
theorem body_1 {n : Nd} (h : n.K = 1) : bodyB n = be n.S 4 ++ (be (n.E.length : Int) 4 ++ exB n.E) := by unfold bodyB; rw [if_pos h]
theorem body_2 {n : Nd} (h : n.K = 2) : bodyB n = be (if n.O then 1 else 0) 1 ++ (be (n.I.length : Int) 2 ++ itB n.N n.I) := by unfold bodyB; rw [if_neg (by omega), if_pos h]
theorem body_3 {n : Nd} (h : n.K = 3) : bodyB n = be (n.T.size : Int) 2 ++ n.T.data.toList := by unfold bodyB; rw [if_neg (by omega), if_neg (by omega), if_pos h]
theorem body_4 {n : Nd} (h : n.K ≠ 1) (h2 : n.K ≠ 2) (h3 : n.K ≠ 3) : bodyB n = [] := by unfold bodyB; rw [if_neg h, if_neg h2, if_neg h3]
end Go.Proofs.YtapgagfeghfooaaDoor.ima

namespace Go.Proofs.YtapgagfeghfooaaDoor.ima
set_option maxRecDepth 100000
open Go.RowKit Go.Proofs.YtapgagfeghfooaaDoor.words Go.Proofs.YtapgagfeghfooaaDoor.ext Go.Proofs.YtapgagfeghfooaaDoor.name Go.Proofs.YtapgagfeghfooaaDoor.tre

def rm (room : Int) : List Value := [.int .i64 room]
/-- What was put. -/
def Put (B g : Nat) (room : Int) (bs ds : List UInt8) (w : World) (e : Ending) (w' : World) : Prop := e = .returned (.bool true) ∧ Wx (rm (room - (ds.length : Int))) B g (bs ++ ds) w' ∧ words.Kept Ws B w w'
theorem Wx.room {room room' : Int} {B g : Nat} {bs : List UInt8} {w : World} (h : Wx (rm room) B g bs w) : Wx (rm room') B g bs (w.setCell ⟨g, 1, none⟩ (.int .i64 room')) ∧ words.Kept Ws B w (w.setCell ⟨g, 1, none⟩ (.int .i64 room')) := by
  obtain ⟨h1, v, h2, h3⟩ := h
  have h4 := heap_setCell_same w g 1 _ _ (.int .i64 room') h2
  refine ⟨⟨h1, v, ?_, own_setCell h3 (own_ne h3 h2 (by decide)) _⟩, (words.Kept.refl Ws B w).setCell (p := ⟨g, 1, none⟩) h1 ⟨_, _, _, h2, .inl rfl⟩ _⟩
  rw [h4]
  rfl
theorem Wx.cells {room : Int} {B g : Nat} {bs : List UInt8} {w : World} (h : Wx (rm room) B g bs w) : w.cell? ⟨g, 1, none⟩ = some (.int .i64 room) ∧ w.frozen? ⟨g, 1, none⟩ = false := by
  obtain ⟨_, v, h2, _⟩ := h
  exact ⟨cell_of_blk h2 1, free_of_blk h2 1⟩
set_option maxHeartbeats 800000 in
theorem iput (n room : Int) (s g B : Nat) (bs : List UInt8) (w : World) (hw : Wx (rm room) B g bs w) (hf : fits n (s : Int) = true) (hr : (s : Int) ≤ room) (hr2 : room ≤ 4194304) (hlen : bs.length ≤ 1000000000) :
    Calls Tryd.prog 50 #[.pointer (some ⟨g, 0, none⟩), .int .i64 n, .int .i64 (s : Int)] w (Put B g room bs (be n s) w) := by
  obtain ⟨c1, f1⟩ := hw.cells
  have q1 : IntKind.i64.wrap (room - (s : Int)) = room - (s : Int) := IntWalk.i64_in _ (by omega)
  have H1 := Lib.hid (hw.room (room' := room - (s : Int)))
  obtain ⟨W1, hW1⟩ : ∃ W1, W1 = w.setCell ⟨g, 1, none⟩ (.int .i64 (room - (s : Int))) := ⟨_, rfl⟩
  rw [← hW1] at H1
  have HW1 := Lib.hid hW1
  have HF := Lib.hid hf
  clear hw hW1 hf
  go_enter Tryd.func50, Tryd.ntmps50
  go_upto_region 2 with fail
  rw [← HW1.out]
  clear c1 f1
  obtain ⟨c1, f1⟩ := H1.out.1.cells
  have g1 : decide (0 ≤ room - (s : Int)) = true := by simp; omega
  go_wp2_with fail
  refine (put_yes (rm (room - (s : Int))) n s g B bs W1 H1.out.1 HF.out hlen).mono ?_
  rintro e w2 ⟨rfl, hw2, hk2⟩
  have HP := Lib.hid (And.intro hw2 (H1.out.2.trans hk2))
  clear hw2 hk2 c1 f1 HW1
  go_wp2_with fail
  go_ret
  refine ⟨rfl, ?_, HP.out.2⟩
  have := HP.out.1
  rw [Int.toNat_natCast] at this
  rw [be_length]
  exact this
set_option maxHeartbeats 800000 in
theorem itext (t : ByteArray) (room : Int) (s g B : Nat) (bs : List UInt8) (w : World) (hw : Wx (rm room) B g bs w) (hf : fits (t.size : Int) (s : Int) = true) (hr : (s : Int) + (t.size : Int) ≤ room) (hr2 : room ≤ 4194304) (hlen : bs.length ≤ 1000000000) :
    Calls Tryd.prog 53 #[.pointer (some ⟨g, 0, none⟩), .string t, .int .i64 (s : Int)] w (Put B g room bs (be (t.size : Int) s ++ t.data.toList) w) := by
  obtain ⟨c1, f1⟩ := hw.cells
  have q0 : IntKind.i64.wrap ((s : Int) + (t.size : Int)) = (s : Int) + (t.size : Int) := IntWalk.i64_in _ (by omega)
  have q1 : IntKind.i64.wrap (room - ((s : Int) + (t.size : Int))) = room - ((s : Int) + (t.size : Int)) := IntWalk.i64_in _ (by omega)
  have H1 := Lib.hid (hw.room (room' := room - ((s : Int) + (t.size : Int))))
  obtain ⟨W1, hW1⟩ : ∃ W1, W1 = w.setCell ⟨g, 1, none⟩ (.int .i64 (room - ((s : Int) + (t.size : Int)))) := ⟨_, rfl⟩
  rw [← hW1] at H1
  have HW1 := Lib.hid hW1
  have HF := Lib.hid hf
  clear hw hW1 hf
  go_enter Tryd.func53, Tryd.ntmps53
  go_upto_region 2 with fail
  rw [← HW1.out]
  clear c1 f1
  obtain ⟨c1, f1⟩ := H1.out.1.cells
  have g1 : decide (0 ≤ room - ((s : Int) + (t.size : Int))) = true := by simp; omega
  go_wp2_with fail
  refine (text_yes (rm (room - ((s : Int) + (t.size : Int)))) t s g B bs W1 H1.out.1 HF.out hlen (by omega)).mono ?_
  rintro e w2 ⟨rfl, hw2, hk2⟩
  have HP := Lib.hid (And.intro hw2 (H1.out.2.trans hk2))
  clear hw2 hk2 c1 f1 HW1
  go_wp2_with fail
  go_ret
  refine ⟨rfl, ?_, HP.out.2⟩
  have := HP.out.1
  rw [Int.toNat_natCast, List.append_assoc] at this
  rw [List.length_append, be_length, show t.data.toList.length = t.size from ext.size_list t, Int.natCast_add]
  exact this
end Go.Proofs.YtapgagfeghfooaaDoor.ima

namespace Go.Proofs.YtapgagfeghfooaaDoor.ima
set_option maxRecDepth 100000
open Go.RowKit Go.Proofs.YtapgagfeghfooaaDoor.words Go.Proofs.YtapgagfeghfooaaDoor.ext Go.Proofs.YtapgagfeghfooaaDoor.name Go.Proofs.YtapgagfeghfooaaDoor.tre

theorem Wx.frame {R : List Value} {B g : Nat} {bs : List UInt8} {w w' : World} (h : Wx R B g bs w) (hk : ∀ k, k < w.heap.size → w'.heap[k]? = w.heap[k]?) : Wx R B g bs w' := by
  obtain ⟨h1, v, h2, h3⟩ := h
  refine ⟨h1, v, (hk g (lt_of_some h2)).trans h2, h3.1, ?_⟩
  rcases h3.2 with h0 | ⟨b, cap, cur, e1, e2, e3, e4⟩
  · exact .inl h0
  · exact .inr ⟨b, cap, cur, e1, e2, (hk b (lt_of_some e3)).trans e3, e4⟩
theorem Wx.later {R : List Value} {B g : Nat} {bs : List UInt8} {w w' : World} (h : Wx R B g bs w) (hb : Below w.heap.size w w') : Wx R B g bs w' := h.frame hb.block
theorem Wx.lt {R : List Value} {B g : Nat} {bs : List UInt8} {w : World} (h : Wx R B g bs w) : B < w.heap.size := by
  obtain ⟨h1, v, h2, _⟩ := h
  exact Nat.lt_of_le_of_lt h1 (lt_of_some h2)
/-- The writer behind the bytes D. -/
def At (B g : Nat) (room : Int) (bs D : List UInt8) (w wr : World) : Prop := Wx (rm (room - (D.length : Int))) B g (bs ++ D) wr ∧ words.Kept Ws B w wr
theorem At.start {B g : Nat} {room : Int} {bs : List UInt8} {w : World} (h : Wx (rm room) B g bs w) : At B g room bs [] w w := by
  refine ⟨?_, words.Kept.refl _ _ _⟩
  rw [List.append_nil, show room - (([] : List UInt8).length : Int) = room by simp]
  exact h
theorem At.later {B g : Nat} {room : Int} {bs D : List UInt8} {w wr w' : World} (h : At B g room bs D w wr) (hb : Below wr.heap.size wr w') : At B g room bs D w w' := ⟨h.1.later hb, h.2.trans (words.Kept.of_below hb _ _)⟩
theorem At.add {B g : Nat} {room : Int} {bs D d : List UInt8} {w wr w' : World} {e : Ending} (h : At B g room bs D w wr) (hp : Put B g (room - (D.length : Int)) (bs ++ D) d wr e w') : At B g room bs (D ++ d) w w' := by
  refine ⟨?_, h.2.trans hp.2.2⟩
  have h2 := hp.2.1
  rw [List.length_append, Int.natCast_add, ← List.append_assoc, show room - ((D.length : Int) + (d.length : Int)) = room - (D.length : Int) - (d.length : Int) by omega]
  exact h2
theorem At.below {B g : Nat} {room : Int} {bs D : List UInt8} {W0 w wr : World} (h : At B g room bs D w wr) (hb : Below B W0 w) (hB : B ≤ w.heap.size) : Below B W0 wr := hb.trans (h.2.below hB)
theorem At.put {B g : Nat} {room : Int} {bs D : List UInt8} {w wr : World} (h : At B g room bs D w wr) : Put B g room bs D w (.returned (.bool true)) wr := ⟨rfl, h.1, h.2⟩
theorem box_kept {B : Nat} {w w' : World} {g : Nat} {n : Nd} {r : Raw} (h : Box w g n r) (hk : words.Kept Ws B w w') : Box w' g n r := hk.blk h (by decide)
/-- Below the branch, and the nodes that were read. -/
theorem fits_of {n : Int} {s : Nat} (h1 : 1 ≤ s) (h2 : s ≤ 4) (h3 : 0 ≤ n) (h4 : n < 2 ^ (8 * s)) : fits n (s : Int) = true := fits_mk h1 h2 h3 h4

set_option maxHeartbeats 6400000 in
theorem file_any (W0 : World) (B : Nat) (n : Nd) (r : Raw) (w : World) (g : Nat) (room : Int) (bs : List UInt8) (hN : NdAt W0 B n r) (hr : rightB n.S n.E = true) (hb : Below B W0 w) (hw : Wx (rm room) B g bs w) (hl : ((be n.S 4 ++ (be (n.E.length : Int) 4 ++ exB n.E)).length : Int) ≤ room) (hr2 : room ≤ 4194304) (hlen : bs.length ≤ 100000000) :
    Calls Tryd.prog 51 #[.pointer (some ⟨g, 0, none⟩), ndV n r] w (Put B g room bs (be n.S 4 ++ (be (n.E.length : Int) 4 ++ exB n.E)) w) := by
  have hR := rightB_iff.1 hr
  have hS := hR.1
  have hEx := hR.2.1
  have hle := exB_length n.E
  have hlen2 : (be n.S 4 ++ (be (n.E.length : Int) 4 ++ exB n.E)).length = 8 + (exB n.E).length := by simp only [List.length_append, be_length]; omega
  rw [hlen2] at hl
  have hBw := hw.lt
  obtain ⟨W1, hW1⟩ : ∃ W1, W1 = w.alloc (.cells (rawCells n r) 27) := ⟨_, rfl⟩
  have hb1 : Below w.heap.size w W1 := by rw [hW1]; exact (Below.refl _ _).alloc (Nat.le_refl _) _
  have hx1 : Box W1 w.heap.size n r := by rw [hW1]; exact Box.new w n r
  have h1 := (At.start hw).later hb1
  have p1 : Calls Tryd.prog 50 #[.pointer (some ⟨g, 0, none⟩), .int .i64 n.S, .int .i64 4] W1 (Put B g (room - (([] : List UInt8).length : Int)) (bs ++ []) (be n.S 4) W1) :=
    iput n.S _ 4 g B _ W1 h1.1 (fits_of (by omega) (by omega) hS.1 (by omega)) (by simp; omega) (by simp; omega) (by simp; omega)
  have HP1 := Lib.hid p1
  have HA1 := Lib.hid h1
  have HX1 := Lib.hid hx1
  have HExs := Lib.hid hN.exts
  have HEx := Lib.hid hEx
  have HB := Lib.hid hb
  unfold rawCells at hW1
  have HW1 := Lib.hid hW1
  obtain ⟨b0, b1, b2, b3, b4, b5, b6⟩ := hx1.cells
  clear hN hr hR hEx hb hw hW1 hb1 hx1 h1 p1 hlen2
  unfold ndV rawCells
  go_enter Tryd.func51, Tryd.ntmps51
  go_upto_region 1 with fail
  rw [← HW1.out]
  go_wp2_with fail
  refine HP1.out.mono ?_
  rintro e w2 hp2
  have h2 := HA1.out.add hp2
  have hx2 := box_kept HX1.out hp2.2.2
  obtain ⟨rfl, _, _⟩ := hp2
  rw [List.nil_append] at h2
  have p2 : Calls Tryd.prog 50 #[.pointer (some ⟨g, 0, none⟩), .int .i64 (n.E.length : Int), .int .i64 4] w2 (Put B g (room - ((be n.S 4).length : Int)) (bs ++ be n.S 4) (be (n.E.length : Int) 4) w2) :=
    iput _ _ 4 g B _ w2 h2.1 (fits_of (by omega) (by omega) (by omega) (by omega)) (by rw [be_length]; omega) (by rw [be_length]; omega) (by rw [List.length_append, be_length]; omega)
  have HP2 := Lib.hid p2
  have HA2 := Lib.hid h2
  have HX2 := Lib.hid hx2
  clear b0 b1 b2 b3 b4 b5 b6 h2 hx2 p2 HP1 HA1 HX1 HW1
  obtain ⟨b0, b1, b2, b3, b4, b5, b6⟩ := HX2.out.cells
  go_wp2_with fail
  refine HP2.out.mono ?_
  rintro e w3 hp3
  have h3 := HA2.out.add hp3
  have hx3 := box_kept HX2.out hp3.2.2
  obtain ⟨rfl, _, _⟩ := hp3
  have HA3 := Lib.hid h3
  have HX3 := Lib.hid hx3
  clear b0 b1 b2 b3 b4 b5 b6 h3 hx3 HP2 HA2 HX2
  obtain ⟨b0, b1, b2, b3, b4, b5, b6⟩ := HX3.out.cells
  go_upto_region 3 with fail
  go_wp2_with fail
  go_loopw [23] (fun v23 wr => ∃ j : Nat, j ≤ n.E.length ∧ v23 = .int .i64 j ∧ Hid (At B g room bs (be n.S 4 ++ (be (n.E.length : Int) 4 ++ exB (n.E.take j))) w wr)) (fun v23 _ => n.E.length - (intOf v23).toNat)
  case atStart =>
    refine ⟨0, Nat.zero_le _, rfl, Lib.hid ?_⟩
    rw [List.take_zero, show exB [] = [] from rfl, List.append_nil]
    exact HA3.out
  case round =>
    obtain ⟨j, hj, rfl, HA⟩ := hrel
    by_cases hlt : j < n.E.length
    · obtain ⟨x, hx⟩ : ∃ x, n.E[j]? = some x := ⟨_, List.getElem?_eq_getElem hlt⟩
      obtain ⟨x1, x2, x3⟩ := HEx.out x (List.mem_of_getElem? hx)
      have hbr := HA.out.below HB.out (Nat.le_of_lt hBw)
      obtain ⟨⟨b, off, hA, hBb, c0, c1⟩, _, _, _⟩ := (HExs.out.keep hbr) j x hx
      have i0 : (0 : Int) ≤ (j : Int) := by omega
      have i1 : (j : Int) < (n.E.length : Int) := by omega
      have htk := exB_take n.E (j + 1)
      rw [take_at hx, exB_snoc] at htk
      simp only [List.length_append, be_length, ext.size_list] at htk
      obtain ⟨D, hD⟩ : ∃ D, D = be n.S 4 ++ (be (n.E.length : Int) 4 ++ exB (n.E.take j)) := ⟨_, rfl⟩
      have hDl : D.length = 8 + (exB (n.E.take j)).length := by rw [hD]; simp only [List.length_append, be_length]; omega
      have hD1 : D ++ be x.O 4 ++ (be (x.D.size : Int) 4 ++ x.D.data.toList) = be n.S 4 ++ (be (n.E.length : Int) 4 ++ exB (n.E.take (j + 1))) := by
        rw [hD, take_at hx, exB_snoc]
        simp only [List.append_assoc]
      rw [← hD] at HA
      obtain ⟨W5, hW5⟩ : ∃ W5, W5 = wr.alloc (.cells #[.int .i64 x.O, .string x.D] 58) := ⟨_, rfl⟩
      have hb5 : Below wr.heap.size wr W5 := by rw [hW5]; exact (Below.refl _ _).alloc (Nat.le_refl _) _
      have hx5 : W5.heap[wr.heap.size]? = some (.cells #[.int .i64 x.O, .string x.D] 58 (0, 0)) := by rw [hW5]; exact heap_alloc_new wr _
      have h5 := HA.out.later hb5
      have p5 : Calls Tryd.prog 50 #[.pointer (some ⟨g, 0, none⟩), .int .i64 x.O, .int .i64 4] W5 (Put B g (room - (D.length : Int)) (bs ++ D) (be x.O 4) W5) :=
        iput _ _ 4 g B _ W5 h5.1 (fits_of (by omega) (by omega) (by omega) (by omega)) (by omega) (by omega) (by rw [List.length_append]; omega)
      have e0 : W5.cell? ⟨wr.heap.size, 0, none⟩ = some (.int .i64 x.O) := cell_of_blk hx5 0
      have e1 : W5.cell? ⟨wr.heap.size, 1, none⟩ = some (.string x.D) := cell_of_blk hx5 1
      have HP5 := Lib.hid p5
      have HA5 := Lib.hid h5
      have HX5 := Lib.hid hx5
      have HW5 := Lib.hid hW5
      have HD1 := Lib.hid hD1
      rw [hA]
      clear hx hbr hA hD hb5 hx5 h5 p5 hW5 hD1
      go_upto_region 6 with fail
      rw [← HW5.out]
      clear c0 c1 b0 b1 b2 b3 b4 b5 b6
      go_wp2_with fail
      refine HP5.out.mono ?_
      rintro e w6 hp6
      have h6 := HA5.out.add hp6
      have hx6 := hp6.2.2.blk HX5.out (by decide)
      obtain ⟨rfl, _, _⟩ := hp6
      have p6 : Calls Tryd.prog 53 #[.pointer (some ⟨g, 0, none⟩), .string x.D, .int .i64 4] w6 (Put B g (room - ((D ++ be x.O 4).length : Int)) (bs ++ (D ++ be x.O 4)) (be (x.D.size : Int) 4 ++ x.D.data.toList) w6) :=
        itext x.D _ 4 g B _ w6 h6.1 (fits_of (by omega) (by omega) (by omega) (by omega)) (by rw [List.length_append, be_length]; omega) (by rw [List.length_append, be_length]; omega) (by rw [List.length_append, List.length_append, be_length]; omega)
      have HP6 := Lib.hid p6
      have HA6 := Lib.hid h6
      clear e0 e1 h6 p6 HP5 HA5 HX5 HW5
      have e0 : w6.cell? ⟨wr.heap.size, 0, none⟩ = some (.int .i64 x.O) := cell_of_blk hx6 0
      have e1 : w6.cell? ⟨wr.heap.size, 1, none⟩ = some (.string x.D) := cell_of_blk hx6 1
      clear hx6
      go_wp2_with fail
      refine HP6.out.mono ?_
      rintro e w7 hp7
      have h7 := HA6.out.add hp7
      obtain ⟨rfl, _, _⟩ := hp7
      rw [HD1.out] at h7
      have HA7 := Lib.hid h7
      clear h7 HP6 HA6 e0 e1
      go_wp2_with fail
      go_roundw
      case rel => exact ⟨j + 1, by omega, by go_num, HA7⟩
      case measure => simp [intOf]; omega
    · obtain rfl : j = n.E.length := by omega
      go_wp2_with fail
      go_ret
      have h := HA.out
      rw [List.take_length] at h
      exact h.put
end Go.Proofs.YtapgagfeghfooaaDoor.ima

namespace Go.Proofs.YtapgagfeghfooaaDoor.ima
set_option maxRecDepth 100000
open Go.RowKit Go.Proofs.YtapgagfeghfooaaDoor.words Go.Proofs.YtapgagfeghfooaaDoor.ext Go.Proofs.YtapgagfeghfooaaDoor.name Go.Proofs.YtapgagfeghfooaaDoor.tre

theorem right_short64 {l : List UInt8} (h : right l = true) : l.length ≤ 64 := by
  unfold right at h
  simp only [Bool.and_eq_true, decide_eq_true_eq] at h
  exact h.1.1.1.1.2
theorem riseFrom_short : ∀ {N : List ByteArray} {p : Option ByteArray}, riseFrom p N = true → ∀ s ∈ N, s.size ≤ 64
  | [], _, _, s, hs => by cases hs
  | t :: N, p, h, s, hs => by
    unfold riseFrom at h
    simp only [Bool.and_eq_true] at h
    rcases List.mem_cons.1 hs with rfl | hs
    · have := right_short64 h.1.1
      rwa [ext.size_list] at this
    · exact riseFrom_short h.2 s hs
theorem one_2 {n : Nd} (h : oneB n = true) (h2 : n.K = 2) : n.N.length = n.I.length ∧ ∀ s ∈ n.N, s.size ≤ 64 := by
  rw [oneB_2 h2] at h
  simp only [Bool.and_eq_true, beq_iff_eq] at h
  exact ⟨h.2.1, riseFrom_short h.2.2⟩
theorem one_3 {n : Nd} (h : oneB n = true) (h3 : n.K = 3) : n.T.size ≤ 256 := by
  rw [oneB_3 h3] at h
  simp only [Bool.and_eq_true] at h
  have := h.2
  unfold pathB at this
  simp only [Bool.and_eq_true, decide_eq_true_eq] at this
  exact this.2
theorem one_K {n : Nd} (h : oneB n = true) : n.K = 1 ∨ n.K = 2 ∨ n.K = 3 ∨ n.K = 4 := by
  by_cases h1 : n.K = 1
  · exact .inl h1
  by_cases h2 : n.K = 2
  · exact .inr (.inl h2)
  by_cases h3 : n.K = 3
  · exact .inr (.inr (.inl h3))
  by_cases h4 : n.K = 4
  · exact .inr (.inr (.inr h4))
  rw [oneB_0 h1 h2 h3 h4] at h
  cases h
theorem allL_at : ∀ {L : List Nd} {j : Nat} {x : Nd}, allL L = true → L[j]? = some x → allB x = true
  | [], _, _, _, h => by simp at h
  | y :: L, 0, x, ha, h => by
    obtain rfl : y = x := by simpa using h
    rw [allL_cons] at ha
    exact (Bool.and_eq_true _ _ ▸ ha).1
  | y :: L, j + 1, x, ha, h => by
    rw [allL_cons] at ha
    exact allL_at (Bool.and_eq_true _ _ ▸ ha).2 (by simpa using h)
theorem truth_any (b : Bool) (w : World) : Calls Tryd.prog 69 #[.bool b] w fun e w' => e = .returned (.int .i64 (if b then 1 else 0)) ∧ w = w' := by
  cases b
  all_goals
    go_enter Tryd.func69, Tryd.ntmps69
    go_wp2_with fail
    go_ret
    exact ⟨rfl, rfl⟩
/-- What node does, at all nodes that are less deep than k. -/
def NodePut (W0 : World) (B g : Nat) (bs0 : Nat) (k : Nat) : Prop := ∀ (n : Nd) (r : Raw) (w : World) (room : Int) (bs : List UInt8), depth n < k → NdAt W0 B n r → allB n = true → count n ≤ 4096 → Below B W0 w → Wx (rm room) B g bs w → ((nb n).length : Int) ≤ room → room ≤ 4194304 → bs.length + (nb n).length ≤ bs0 →
  Calls Tryd.prog 25 #[.pointer (some ⟨g, 0, none⟩), ndV n r] w (Put B g room bs (nb n) w)

set_option maxHeartbeats 6400000 in
theorem dir_step (W0 : World) (B g : Nat) (k : Nat) (ih : NodePut W0 B g 100000000 k) (n : Nd) (r : Raw) (w : World) (room : Int) (bs : List UInt8) (hdp : depth n ≤ k) (hN : NdAt W0 B n r) (hk2 : n.K = 2) (ha : allB n = true) (hc : count n ≤ 4096) (hb : Below B W0 w) (hw : Wx (rm room) B g bs w) (hl : ((bodyB n).length : Int) ≤ room) (hr2 : room ≤ 4194304) (hlen : bs.length + (bodyB n).length ≤ 100000000) :
    Calls Tryd.prog 52 #[.pointer (some ⟨g, 0, none⟩), ndV n r] w (Put B g room bs (bodyB n) w) := by
  have hone := one_2 (allB_one ha) hk2
  have hal : allL n.I = true := by rw [allB_eq] at ha; exact (Bool.and_eq_true _ _ ▸ ha).1
  rw [body_2 hk2] at hl hlen ⊢
  have hcl := count_eq n
  have hcI := countL_len n.I
  have hdn := depth_eq n
  obtain ⟨o, ho⟩ : ∃ o : Int, o = if n.O then 1 else 0 := ⟨_, rfl⟩
  have ho01 : 0 ≤ o ∧ o ≤ 1 := by rw [ho]; split <;> omega
  have hlen2 : (be o 1 ++ (be (n.I.length : Int) 2 ++ itB n.N n.I)).length = 3 + (itB n.N n.I).length := by simp only [List.length_append, be_length]; omega
  rw [← ho] at hl hlen ⊢
  rw [hlen2] at hl hlen
  have hBw := hw.lt
  obtain ⟨W1, hW1⟩ : ∃ W1, W1 = w.alloc (.cells (rawCells n r) 27) := ⟨_, rfl⟩
  have hb1 : Below w.heap.size w W1 := by rw [hW1]; exact (Below.refl _ _).alloc (Nat.le_refl _) _
  have hx1 : Box W1 w.heap.size n r := by rw [hW1]; exact Box.new w n r
  have h1 := (At.start hw).later hb1
  have p1 : Calls Tryd.prog 50 #[.pointer (some ⟨g, 0, none⟩), .int .i64 o, .int .i64 1] W1 (Put B g (room - (([] : List UInt8).length : Int)) (bs ++ []) (be o 1) W1) :=
    iput o _ 1 g B _ W1 h1.1 (fits_of (by omega) (by omega) ho01.1 (by omega)) (by simp; omega) (by simp; omega) (by simp; omega)
  have t1 : Calls Tryd.prog 69 #[.bool n.O] W1 fun e w' => e = .returned (.int .i64 o) ∧ W1 = w' := (truth_any n.O W1).mono fun _ _ ⟨he, hw⟩ => ⟨by rw [he, ho], hw⟩
  have HT1 := Lib.hid t1
  have HP1 := Lib.hid p1
  have HA1 := Lib.hid h1
  have HX1 := Lib.hid hx1
  have HN := Lib.hid hN
  have HB := Lib.hid hb
  have HOne := Lib.hid hone
  have HAl := Lib.hid hal
  have IH := Lib.hid ih
  unfold rawCells at hW1
  have HW1 := Lib.hid hW1
  obtain ⟨b0, b1, b2, b3, b4, b5, b6⟩ := hx1.cells
  have hIl : n.I.length ≤ 4096 := by omega
  clear hN hb hw hW1 hb1 hx1 h1 p1 t1 hlen2 ho hone hal ih ha hk2
  unfold ndV rawCells
  go_enter Tryd.func52, Tryd.ntmps52
  go_upto_region 1 with fail
  rw [← HW1.out]
  go_wp2_with fail
  refine HT1.out.mono ?_
  rintro e w' ⟨rfl, rfl⟩
  go_wp2_with fail
  refine HP1.out.mono ?_
  rintro e w2 hp2
  have h2 := HA1.out.add hp2
  have hx2 := box_kept HX1.out hp2.2.2
  obtain ⟨rfl, _, _⟩ := hp2
  rw [List.nil_append] at h2
  have p2 : Calls Tryd.prog 50 #[.pointer (some ⟨g, 0, none⟩), .int .i64 (n.I.length : Int), .int .i64 2] w2 (Put B g (room - ((be o 1).length : Int)) (bs ++ be o 1) (be (n.I.length : Int) 2) w2) :=
    iput _ _ 2 g B _ w2 h2.1 (fits_of (by omega) (by omega) (by omega) (by omega)) (by rw [be_length]; omega) (by rw [be_length]; omega) (by rw [List.length_append, be_length]; omega)
  have HP2 := Lib.hid p2
  have HA2 := Lib.hid h2
  have HX2 := Lib.hid hx2
  clear b0 b1 b2 b3 b4 b5 b6 h2 hx2 p2 HP1 HA1 HX1 HW1 HT1
  obtain ⟨b0, b1, b2, b3, b4, b5, b6⟩ := HX2.out.cells
  go_wp2_with fail
  refine HP2.out.mono ?_
  rintro e w3 hp3
  have h3 := HA2.out.add hp3
  have hx3 := box_kept HX2.out hp3.2.2
  obtain ⟨rfl, _, _⟩ := hp3
  have HA3 := Lib.hid (And.intro h3 hx3)
  clear b0 b1 b2 b3 b4 b5 b6 h3 hx3 HP2 HA2 HX2
  obtain ⟨b0, b1, b2, b3, b4, b5, b6⟩ := HA3.out.2.cells
  go_upto_region 3 with fail
  go_wp2_with fail
  go_loopw [24] (fun v24 wr => ∃ j : Nat, j ≤ n.I.length ∧ v24 = .int .i64 j ∧ Hid (At B g room bs (be o 1 ++ (be (n.I.length : Int) 2 ++ itB (n.N.take j) (n.I.take j))) w wr ∧ Box wr w.heap.size n r)) (fun v24 _ => n.I.length - (intOf v24).toNat)
  case atStart =>
    refine ⟨0, Nat.zero_le _, rfl, Lib.hid ?_⟩
    rw [List.take_zero, List.take_zero, itB_nil, List.append_nil]
    exact HA3.out
  case round =>
    obtain ⟨j, hj, rfl, HA⟩ := hrel
    by_cases hlt : j < n.I.length
    · obtain ⟨x, hx⟩ : ∃ x, n.I[j]? = some x := ⟨_, List.getElem?_eq_getElem hlt⟩
      have hltN : j < n.N.length := by have := HOne.out.1; omega
      obtain ⟨s, hs⟩ : ∃ s, n.N[j]? = some s := ⟨_, List.getElem?_eq_getElem hltN⟩
      have hss := HOne.out.2 s (List.mem_of_getElem? hs)
      have hbr := HA.out.1.below HB.out (Nat.le_of_lt hBw)
      obtain ⟨rx, hrx, b, off, hA, hBb, c0, c1, c2, c3, c4, c5, c6⟩ := HN.out.entry hx hbr
      obtain ⟨⟨bn, on, hAn, hBn, cn⟩, _⟩ := (HN.out.names.keep hbr) j s hs
      have i0 : (0 : Int) ≤ (j : Int) := by omega
      have i1 : (j : Int) < (n.I.length : Int) := by omega
      have i2 : (j : Int) < (n.N.length : Int) := by omega
      have htk := itB_length n.N n.I (j + 1)
      have hsn : itB (n.N.take (j + 1)) (n.I.take (j + 1)) = itB (n.N.take j) (n.I.take j) ++ (be (s.size : Int) 1 ++ (s.data.toList ++ nb x)) := by
        rw [take_at hx, take_at hs, itB_snoc _ _ _ _ (by rw [List.length_take, List.length_take]; omega)]
      rw [hsn] at htk
      simp only [List.length_append, be_length, ext.size_list] at htk
      obtain ⟨D, hD⟩ : ∃ D, D = be o 1 ++ (be (n.I.length : Int) 2 ++ itB (n.N.take j) (n.I.take j)) := ⟨_, rfl⟩
      have hDl : D.length = 3 + (itB (n.N.take j) (n.I.take j)).length := by rw [hD]; simp only [List.length_append, be_length]; omega
      have hD1 : D ++ (be (s.size : Int) 1 ++ s.data.toList) ++ nb x = be o 1 ++ (be (n.I.length : Int) 2 ++ itB (n.N.take (j + 1)) (n.I.take (j + 1))) := by
        rw [hD, hsn]
        simp only [List.append_assoc]
      rw [← hD] at HA
      obtain ⟨W5, hW5⟩ : ∃ W5, W5 = wr.alloc (.cells (rawCells x rx) 27) := ⟨_, rfl⟩
      have hb5 : Below wr.heap.size wr W5 := by rw [hW5]; exact (Below.refl _ _).alloc (Nat.le_refl _) _
      have hx5 : Box W5 wr.heap.size x rx := by rw [hW5]; exact Box.new wr x rx
      have hy5 : Box W5 w.heap.size n r := HA.out.2.below hb5
      have h5 := HA.out.1.later hb5
      have cn5 : W5.cell? ⟨bn, on + j, none⟩ = some (.string s) := below_cell cn hb5
      have p5 : Calls Tryd.prog 53 #[.pointer (some ⟨g, 0, none⟩), .string s, .int .i64 1] W5 (Put B g (room - (D.length : Int)) (bs ++ D) (be (s.size : Int) 1 ++ s.data.toList) W5) :=
        itext s _ 1 g B _ W5 h5.1 (fits_of (by omega) (by omega) (by omega) (by omega)) (by omega) (by omega) (by rw [List.length_append]; omega)
      have hax := allL_at HAl.out hx
      have hdx := depth_at hx
      have hcx := count_take hx
      have HP5 := Lib.hid p5
      have HA5 := Lib.hid h5
      have HX5 := Lib.hid hx5
      have HY5 := Lib.hid hy5
      unfold rawCells at hW5
      have HW5 := Lib.hid hW5
      have HD1 := Lib.hid hD1
      have HRx := Lib.hid hrx
      have HAx := Lib.hid hax
      obtain ⟨y0, y1, y2, y3, y4, y5, y6⟩ := hy5.cells
      rw [hAn] at y2
      rw [hA]
      clear hx hbr hA hAn hD hb5 hx5 hy5 h5 p5 hW5 hD1 hrx hs hsn hax cn
      go_upto_region 6 with fail
      rw [← HW5.out]
      clear c0 c1 c2 c3 c4 c5 c6 b0 b1 b2 b3 b4 b5 b6
      go_wp2_with fail
      refine HP5.out.mono ?_
      rintro e w6 hp6
      have h6 := HA5.out.add hp6
      have hx6 := box_kept HX5.out hp6.2.2
      have hy6 := box_kept HY5.out hp6.2.2
      obtain ⟨rfl, _, _⟩ := hp6
      have p6 := IH.out x rx w6 (room - ((D ++ (be (s.size : Int) 1 ++ s.data.toList)).length : Int)) _ (by omega) HRx.out HAx.out (by omega) (h6.below HB.out (Nat.le_of_lt hBw)) h6.1 (by simp only [List.length_append, be_length, ext.size_list]; omega) (by omega) (by simp only [List.length_append, be_length, ext.size_list]; omega)
      unfold ndV rawCells at p6
      have HP6 := Lib.hid p6
      have HA6 := Lib.hid (And.intro h6 hy6)
      clear h6 hy6 p6 HP5 HA5 HX5 HY5 HW5 y0 y1 y2 y3 y4 y5 y6 cn5
      obtain ⟨b0, b1, b2, b3, b4, b5, b6⟩ := hx6.cells
      clear hx6
      go_wp2_with fail
      refine HP6.out.mono ?_
      rintro e w7 hp7
      have h7 := HA6.out.1.add hp7
      have hy7 := box_kept HA6.out.2 hp7.2.2
      obtain ⟨rfl, _, _⟩ := hp7
      rw [HD1.out] at h7
      have HA7 := Lib.hid (And.intro h7 hy7)
      clear h7 hy7 HP6 HA6 b0 b1 b2 b3 b4 b5 b6
      go_wp2_with fail
      go_roundw
      case rel => exact ⟨j + 1, by omega, by go_num, HA7⟩
      case measure => simp [intOf]; omega
    · obtain rfl : j = n.I.length := by omega
      go_wp2_with fail
      go_ret
      have h := HA.out.1
      rw [List.take_length, List.take_of_length_le (by have := HOne.out.1; omega)] at h
      exact h.put
end Go.Proofs.YtapgagfeghfooaaDoor.ima

namespace Go.Proofs.YtapgagfeghfooaaDoor.ima
set_option maxRecDepth 100000
open Go.RowKit Go.Proofs.YtapgagfeghfooaaDoor.words Go.Proofs.YtapgagfeghfooaaDoor.ext Go.Proofs.YtapgagfeghfooaaDoor.name Go.Proofs.YtapgagfeghfooaaDoor.tre

set_option maxHeartbeats 1600000 in
theorem node_put (W0 : World) (B g : Nat) : ∀ k : Nat, NodePut W0 B g 100000000 k := by
  intro k
  induction k with
  | zero => intro n r w room bs hk; omega
  | succ k ih =>
    intro n r w room bs hk hN ha hc hb hw hl hr2 hlen
    have hone := allB_one ha
    have hK := one_K hone
    rw [nb_eq] at hl hlen ⊢
    rw [List.length_append, be_length] at hl hlen
    have hBw := hw.lt
    obtain ⟨W1, hW1⟩ : ∃ W1, W1 = w.alloc (.cells (rawCells n r) 27) := ⟨_, rfl⟩
    have hb1 : Below w.heap.size w W1 := by rw [hW1]; exact (Below.refl _ _).alloc (Nat.le_refl _) _
    have hx1 : Box W1 w.heap.size n r := by rw [hW1]; exact Box.new w n r
    have h1 := (At.start hw).later hb1
    have p1 : Calls Tryd.prog 50 #[.pointer (some ⟨g, 0, none⟩), .int .i64 n.K, .int .i64 1] W1 (Put B g (room - (([] : List UInt8).length : Int)) (bs ++ []) (be n.K 1) W1) :=
      iput n.K _ 1 g B _ W1 h1.1 (fits_of (by omega) (by omega) (by omega) (by omega)) (by simp; omega) (by simp; omega) (by simp; omega)
    have HP1 := Lib.hid p1
    have HA1 := Lib.hid h1
    have HX1 := Lib.hid hx1
    have HN := Lib.hid hN
    have HB := Lib.hid hb
    have IH := Lib.hid ih
    have HAll := Lib.hid ha
    have HOne := Lib.hid hone
    unfold rawCells at hW1
    have HW1 := Lib.hid hW1
    obtain ⟨b0, b1, b2, b3, b4, b5, b6⟩ := hx1.cells
    clear hN hb hw hW1 hb1 hx1 h1 p1 ih ha hone
    unfold ndV rawCells
    go_enter Tryd.func25, Tryd.ntmps25
    go_upto_region 1 with fail
    rw [← HW1.out]
    go_wp2_with fail
    refine HP1.out.mono ?_
    rintro e w2 hp2
    have h2 := HA1.out.add hp2
    have hx2 := box_kept HX1.out hp2.2.2
    obtain ⟨rfl, _, _⟩ := hp2
    rw [List.nil_append] at h2
    have HA2 := Lib.hid h2
    have HX2 := Lib.hid hx2
    have HB2 := Lib.hid (h2.below HB.out (Nat.le_of_lt hBw))
    clear b0 b1 b2 b3 b4 b5 b6 h2 hx2 HP1 HA1 HX1 HW1
    obtain ⟨b0, b1, b2, b3, b4, b5, b6⟩ := HX2.out.cells
    rcases hK with hK | hK | hK | hK
    · have hr : rightB n.S n.E = true := (one_right HOne.out).2.2
      rw [body_1 hK] at hl hlen ⊢
      have p2 := file_any W0 B n r w2 g (room - ((be n.K 1).length : Int)) _ HN.out hr HB2.out HA2.out.1 (by rw [be_length]; omega) (by omega) (by rw [List.length_append, be_length]; omega)
      have hv : ndV n r = .agg #[.int .i64 1, .bool n.O, .slice r.An n.N.length r.cn, .slice r.Ai n.I.length r.ci, .int .i64 n.S, .slice r.Ae n.E.length r.ce, .string n.T] := by unfold ndV rawCells; rw [hK]
      rw [hv] at p2
      have HP2 := Lib.hid p2
      rw [hK] at b0
      clear p2 hv
      have HK := Lib.hid hK
      clear hK
      go_wp2_with fail
      refine HP2.out.mono ?_
      rintro e w3 hp3
      have h3 := HA2.out.add hp3
      obtain ⟨rfl, _, _⟩ := hp3
      have HA3 := Lib.hid h3
      clear h3 HP2 HA2 HX2 b0 b1 b2 b3 b4 b5 b6
      go_wp2_with fail
      go_ret
      rw [body_1 HK.out]
      exact HA3.out.put
    · have p2 := dir_step W0 B g k IH.out n r w2 (room - ((be n.K 1).length : Int)) _ (by omega) HN.out hK HAll.out hc HB2.out HA2.out.1 (by rw [be_length]; omega) (by omega) (by rw [List.length_append, be_length]; omega)
      have hv : ndV n r = .agg #[.int .i64 2, .bool n.O, .slice r.An n.N.length r.cn, .slice r.Ai n.I.length r.ci, .int .i64 n.S, .slice r.Ae n.E.length r.ce, .string n.T] := by unfold ndV rawCells; rw [hK]
      rw [hv] at p2
      have HP2 := Lib.hid p2
      rw [hK] at b0
      clear p2 hv
      have HK := Lib.hid hK
      clear hK
      go_wp2_with fail
      refine HP2.out.mono ?_
      rintro e w3 hp3
      have h3 := HA2.out.add hp3
      obtain ⟨rfl, _, _⟩ := hp3
      have HA3 := Lib.hid h3
      clear h3 HP2 HA2 HX2 b0 b1 b2 b3 b4 b5 b6
      go_wp2_with fail
      go_ret
      exact HA3.out.put
    · have ht := one_3 HOne.out hK
      rw [body_3 hK] at hl hlen ⊢
      rw [List.length_append, be_length, ext.size_list] at hl hlen
      have p2 : Calls Tryd.prog 53 #[.pointer (some ⟨g, 0, none⟩), .string n.T, .int .i64 2] w2 (Put B g (room - ((be n.K 1).length : Int)) (bs ++ be n.K 1) (be (n.T.size : Int) 2 ++ n.T.data.toList) w2) :=
        itext n.T _ 2 g B _ w2 HA2.out.1 (fits_of (by omega) (by omega) (by omega) (by omega)) (by rw [be_length]; omega) (by omega) (by rw [List.length_append, be_length]; omega)
      have HP2 := Lib.hid p2
      rw [hK] at b0
      clear p2
      have HK := Lib.hid hK
      clear hK
      go_wp2_with fail
      refine HP2.out.mono ?_
      rintro e w3 hp3
      have h3 := HA2.out.add hp3
      obtain ⟨rfl, _, _⟩ := hp3
      have HA3 := Lib.hid h3
      clear h3 HP2 HA2 HX2 b0 b1 b2 b3 b4 b5 b6
      go_wp2_with fail
      go_ret
      rw [body_3 HK.out]
      exact HA3.out.put
    · rw [body_4 (by omega) (by omega) (by omega), List.append_nil]
      rw [hK] at b0
      have HK := Lib.hid hK
      clear hK
      go_wp2_with fail
      go_ret
      rw [body_4 (by rw [HK.out]; decide) (by rw [HK.out]; decide) (by rw [HK.out]; decide), List.append_nil]
      exact HA2.out.put
end Go.Proofs.YtapgagfeghfooaaDoor.ima

namespace Go.Proofs.YtapgagfeghfooaaDoor.ima
set_option maxRecDepth 100000
open Go.RowKit Go.Proofs.YtapgagfeghfooaaDoor.words Go.Proofs.YtapgagfeghfooaaDoor.ext Go.Proofs.YtapgagfeghfooaaDoor.name Go.Proofs.YtapgagfeghfooaaDoor.tre

def magic : ByteArray := ⟨#[115, 111, 99, 97, 103, 101, 49]⟩
/-- A tree's image. -/
def imgB (n : Nd) : ByteArray := magic ++ ⟨(nb n).toArray⟩
theorem imgB_size (n : Nd) : (imgB n).size = 7 + (nb n).length := by
  unfold imgB
  rw [ByteArray.size_append]
  rfl
set_option maxHeartbeats 3200000 in
theorem encode_no (n : Nd) (r : Raw) (m : Int) (w : World) (hN : NdAt w w.heap.size n r) (hm : w.cell? ⟨0, 0, none⟩ = some (.int .i64 m)) (hd : depth n ≤ 1000) (ht : treeB n = false) :
    Calls Tryd.prog 9 #[ndV n r] w fun e w' => e = .returned (.tuple #[.string ⟨#[]⟩, .int .i64 1]) ∧ Below w.heap.size w w' := by
  obtain ⟨W1, hW1⟩ : ∃ W1, W1 = (w.alloc (.cells (rawCells n r) 27)).alloc (.cells #[.slice none 0 0, .int .i64 4194297] 63) := ⟨_, rfl⟩
  have ha : Below w.heap.size w (w.alloc (.cells (rawCells n r) 27)) := (Below.refl _ _).alloc (Nat.le_refl _) _
  have hb1 : Below w.heap.size w W1 := by rw [hW1]; exact ha.alloc ha.size _
  have hx1 : Box W1 w.heap.size n r := by rw [hW1]; exact (Box.new w n r).alloc _
  have hr := treeright_any n r m W1 (hN.later hb1) (below_cell hm hb1) hd
  rw [ht] at hr
  unfold ndV rawCells at hr
  have HR := Lib.hid hr
  unfold rawCells at hW1
  have HW1 := Lib.hid hW1
  have HB1 := Lib.hid hb1
  obtain ⟨b0, b1, b2, b3, b4, b5, b6⟩ := hx1.cells
  clear hN hm hr hW1 hb1 hx1 ha
  unfold ndV rawCells
  go_enter Tryd.func9, Tryd.ntmps9
  go_upto_region 2 with fail
  rw [← HW1.out]
  go_wp2_with fail
  refine HR.out.mono ?_
  rintro e w2 ⟨rfl, hb2⟩
  have HB2 := Lib.hid (HB1.out.trans (hb2.mono HB1.out.size))
  clear hb2 HR HW1 b0 b1 b2 b3 b4 b5 b6
  go_wp2_with fail
  go_ret2
  exact ⟨rfl, HB2.out⟩
set_option maxHeartbeats 3200000 in
theorem encode_yes (n : Nd) (r : Raw) (m : Int) (w : World) (hN : NdAt w w.heap.size n r) (hm : w.cell? ⟨0, 0, none⟩ = some (.int .i64 m)) (hd : depth n ≤ 1000) (ht : treeB n = true) (ha : allB n = true) (hc : count n ≤ 4096) (hl : (nb n).length ≤ 4194297) :
    Calls Tryd.prog 9 #[ndV n r] w fun e w' => e = .returned (.tuple #[.string (imgB n), .int .i64 0]) ∧ Below w.heap.size w w' := by
  obtain ⟨Wa, hWa⟩ : ∃ Wa, Wa = w.alloc (.cells (rawCells n r) 27) := ⟨_, rfl⟩
  obtain ⟨W1, hW1⟩ : ∃ W1, W1 = Wa.alloc (.cells #[.slice none 0 0, .int .i64 4194297] 63) := ⟨_, rfl⟩
  have hza : Wa.heap.size = w.heap.size + 1 := by rw [hWa]; simp
  have hba : Below w.heap.size w Wa := by rw [hWa]; exact (Below.refl _ _).alloc (Nat.le_refl _) _
  have hb1 : Below w.heap.size w W1 := by rw [hW1]; exact hba.alloc hba.size _
  have hx1 : Box W1 w.heap.size n r := by rw [hW1, hWa]; exact (Box.new w n r).alloc _
  have hw1 : Wx (rm 4194297) w.heap.size (w.heap.size + 1) [] W1 := ⟨by omega, .slice none 0 0, by rw [hW1, ← hza]; exact heap_alloc_new Wa _, World.ownsRow_nil _ _ _ _⟩
  have hr := treeright_any n r m W1 (hN.later hb1) (below_cell hm hb1) hd
  rw [ht] at hr
  unfold ndV rawCells at hr
  have HR := Lib.hid hr
  rw [hWa] at hW1
  unfold rawCells at hW1
  have HW1 := Lib.hid hW1
  have HB1 := Lib.hid hb1
  have HX1 := Lib.hid hx1
  have HWx := Lib.hid hw1
  have HN := Lib.hid hN
  have HA := Lib.hid ha
  obtain ⟨b0, b1, b2, b3, b4, b5, b6⟩ := hx1.cells
  clear hN hm hr hW1 hWa hb1 hba hx1 hw1 ha ht
  unfold ndV rawCells
  go_enter Tryd.func9, Tryd.ntmps9
  go_upto_region 2 with fail
  rw [← HW1.out]
  go_wp2_with fail
  refine HR.out.mono ?_
  rintro e w2 ⟨rfl, hb2⟩
  have hB2 := HB1.out.trans (hb2.mono HB1.out.size)
  have p2 := node_put w w.heap.size (w.heap.size + 1) (depth n + 1) n r w2 4194297 [] (Nat.lt_succ_self _) HN.out HA.out hc hB2 (HWx.out.later hb2) (by omega) (by omega) (by simp; omega)
  unfold ndV rawCells at p2
  have HP2 := Lib.hid p2
  have HX2 := Lib.hid (HX1.out.below hb2)
  have HB2 := Lib.hid hB2
  clear hb2 hB2 p2 HR HW1 HX1 HWx b0 b1 b2 b3 b4 b5 b6
  obtain ⟨b0, b1, b2, b3, b4, b5, b6⟩ := HX2.out.cells
  go_wp2_with fail
  refine HP2.out.mono ?_
  rintro e w3 ⟨rfl, hw3, hk3⟩
  rw [List.nil_append] at hw3
  have HBy := Lib.hid (bytes_any (rm (4194297 - ((nb n).length : Int))) (w.heap.size + 1) w.heap.size (nb n) w3 hw3)
  have HB3 := Lib.hid (HB2.out.trans (hk3.below HB2.out.size))
  have hsz : (⟨(nb n).toArray⟩ : ByteArray).size = (nb n).length := rfl
  obtain ⟨q, hq⟩ : ∃ q : ByteArray, q = ⟨(nb n).toArray⟩ := ⟨_, rfl⟩
  rw [← hq] at HBy hsz
  have hcat : ¬ 9223372036854775807 < 7 + q.size := by omega
  have Hq := Lib.hid hq
  clear hw3 hk3 HP2 HX2 b0 b1 b2 b3 b4 b5 b6 hq
  go_wp2_with fail
  refine HBy.out.mono ?_
  rintro e w4 ⟨rfl, rfl⟩
  go_wp2_with fail
  go_ret2
  exact ⟨by unfold imgB; rw [← Hq.out]; rfl, HB3.out⟩
end Go.Proofs.YtapgagfeghfooaaDoor.ima
