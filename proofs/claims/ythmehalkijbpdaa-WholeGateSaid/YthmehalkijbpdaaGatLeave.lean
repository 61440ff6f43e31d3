/- A gate's Leave; the first law's speaks. Condition: the gate lies in memory. -/
import Derived.Test.YthmehalkijbpdaaGatOps
namespace Go.Proofs.Ythmehalkijbpdaa.gat
set_option maxRecDepth 100000
open Go.RowKit Go.Proofs.Ythmehalkijbpdaa.words Go.Proofs.Ythmehalkijbpdaa.lru Go.Proofs.Ythmehalkijbpdaa.mpi

/-- Those who are left. -/
def less (R : List Int) (x : Int) : List Int := R.filter fun y => !(y == x)
section
variable (B g : Nat) (v1 v2 : Value) (R : List Int) (o : Option Int) (W : List Int) (q x : Int) (w : World)
theorem leave_no (h : Gt w B g v1 v2 R o W q) (hx : Fits x) (hin : inB R o x = false) :
    Calls Try.prog 13 #[.pointer (some ⟨g, 0, none⟩), .int .i64 x] w fun e w' => e = .returned (.bool false) ∧ w = w' := by
  have HI := Lib.hid (in_any B g v1 v2 R o W q x w h hx)
  rw [hin] at HI
  clear h hin
  go_enter Try.func13, Try.ntmps13
  go_wp2_with fail
  refine HI.out.mono ?_
  rintro e w1 ⟨rfl, e1⟩
  subst e1
  go_wp2
  go_ret
  exact ⟨rfl, rfl⟩
def LeftIn (w : World) (B g : Nat) (v1 v2 : Value) (R W : List Int) (q x : Int) (e : Ending) (w' : World) : Prop := e = .returned (.bool true) ∧ Left w B g v1 v2 (less R x) none W q w'
theorem leave_yes (h : Gt w B g v1 v2 R o W q) (hx : Fits x) (hin : inB R o x = true) :
    Calls Try.prog 13 #[.pointer (some ⟨g, 0, none⟩), .int .i64 x] w (LeftIn w B g v1 v2 R W q x) := by
  have HI := Lib.hid (in_any B g v1 v2 R o W q x w h hx)
  rw [hin] at HI
  obtain ⟨h0, ⟨y, hb, hy⟩, h1, h2, h3⟩ := h
  have c2 := cell_of_blk hb 2
  have f2 := free_of_blk hb 2
  obtain ⟨W2, hW2⟩ : ∃ W2, W2 = w.setCell ⟨g, 2, none⟩ (.bool false) := ⟨_, rfl⟩
  have hgn1 : ¬ At v1 g := fun e => (h1.lt g e).2.2 _ _ _ hb
  have hgn2 : ¬ At v2 g := fun e => (h2.lt g e).2.2 _ _ _ hb
  have hb2 := heap_setCell_same w g 2 _ _ (.bool false) hb
  rw [← hW2] at hb2
  have ht2 : Tn (fun j => j = g) w W2 := by rw [hW2]; exact (Tn.refl (fun j => j = g) w).setCell (p := ⟨g, 2, none⟩) (.inr rfl) _
  have k1 := h1.tn ht2 fun j hj e => hgn1 (e ▸ hj)
  have k2 := h2.tn ht2 fun j hj e => hgn2 (e ▸ hj)
  have d0 := cell_of_blk hb2 0
  have HM := Lib.hid k1
  have HX := Lib.hid hx
  have HFIN : Hid (∀ w3, MapO w3 Try.prog 3 B v1 (delL (rR R) x) → Tn (At v1) W2 w3 → LeftIn w B g v1 v2 R W q x (.returned (.bool true)) w3) := Lib.hid fun w3 hm ht => ⟨rfl, ⟨v1, v2, ⟨h0, ⟨y, (ht.block g (lt_of_some hb2) hgn1).trans hb2, fun z hz => by cases hz⟩, by rw [rR_del] at hm; exact hm, k2.tn ht fun j hj hk => h3 j hk hj, h3⟩, fun j hj => .inl hj⟩, (ht2.mono fun j hj => .inl hj).trans (ht.mono fun j hj => .inr (.inl hj))⟩
  clear h1 h2 h3 hy hb hb2 h0 hin hgn1 hgn2 ht2 k1 k2 hx
  go_enter Try.func13, Try.ntmps13
  go_wp2_with fail
  refine HI.out.mono ?_
  rintro e w1 ⟨rfl, e1⟩
  subst e1
  go_upto_region 4 with fail
  rw [← hW2]
  clear hW2 c2 f2
  go_wp2_with (at_delete; refine wpList_drop rfl _ _ 24 3 rfl 4 Try.underlying3 Try.underlying24 B v1 (rR R) rfl HM.out x rfl HX.out ?_; intro w3 hm3 ht3; have HE := Lib.hid (HFIN.out w3 hm3 ht3); clear hm3 ht3)
  go_ret
  exact HE.out
end

theorem fit_small {x : Int} (h1 : 0 ≤ x) (h2 : x ≤ 1000000) : Fits x := fits_of (by omega) (by omega)
theorem left_below {w w' : World} {B g : Nat} {v1 v2 : Value} {R R' : List Int} {o o' : Option Int} {W W' : List Int} {q q' : Int} (h' : Left w B g v1 v2 R' o' W' q' w') (h : Gt w B g v1 v2 R o W q) (hB : B ≤ w.heap.size) : Below B w w' := h'.tn.below (fun k hk => (h.lt k hk).1) hB
theorem speaks_any (w : World) : Calls Try.prog 8 #[] w fun e w' => e = .returned (.bool true) ∧ Below w.heap.size w w' := by
  obtain ⟨W0, hW0⟩ : ∃ W0, W0 = w.alloc (.cells #[.map none, .int .i64 0, .bool false, .map none, .int .i64 0] 27) := ⟨_, rfl⟩
  have hg0 := Gt.new w w.heap.size (Nat.le_refl _)
  rw [← hW0] at hg0
  obtain ⟨g, hg⟩ : ∃ g, g = w.heap.size := ⟨_, rfl⟩
  have hb0 : Below w.heap.size w W0 := by rw [hW0]; exact (Below.refl _ _).alloc (Nat.le_refl _) _
  have HG0 := Lib.hid hg0
  have HB0 := Lib.hid hb0
  have HW0 := Lib.hid hW0
  have HZ : Hid (w.heap.size = g) := Lib.hid hg.symm
  clear hg0 hb0 hW0 hg
  go_enter Try.func8, Try.ntmps8
  go_upto_region 2 with fail
  rw [← HW0.out, HZ.out]
  rw [HZ.out] at HG0 HB0
  go_wp2_with fail
  refine (read_yes _ _ _ _ [] _ 1 W0 HG0.out (fit_small (by decide) (by decide)) rfl (by decide) (HZ.out ▸ HB0.out.size)).mono ?_
  rintro e w1 ⟨rfl, h1⟩
  have HB1 := Lib.hid (HB0.out.trans (left_below h1 HG0.out (HZ.out ▸ HB0.out.size)))
  obtain ⟨a1, a2, hg1, _⟩ := h1.ex
  have HG1 := Lib.hid hg1
  clear h1 hg1
  go_wp2_with fail
  refine (write_wait _ _ _ _ _ _ _ _ 2 w1 HG1.out (fit_small (by decide) (by decide)) rfl (.inr (.inr (by simp))) (by decide) (by decide) (HZ.out ▸ HB1.out.size)).mono ?_
  rintro e w2 ⟨rfl, h1⟩
  have HB2 := Lib.hid (HB1.out.trans (left_below h1 HG1.out (HZ.out ▸ HB1.out.size)))
  obtain ⟨a3, a4, hg1, _⟩ := h1.ex
  have HG2 := Lib.hid hg1
  clear h1 hg1
  go_wp2_with fail
  refine (read_no _ _ _ _ _ _ _ _ 3 w2 HG2.out (fit_small (by decide) (by decide)) (.inr (.inr (by decide)))).mono ?_
  rintro e wx ⟨rfl, e1⟩
  subst e1
  go_wp2_with fail
  refine (leave_yes _ _ _ _ _ _ _ _ 1 w2 HG2.out (fit_small (by decide) (by decide)) rfl).mono ?_
  rintro e w3 ⟨rfl, h1⟩
  have HB3 := Lib.hid (HB2.out.trans (left_below h1 HG2.out (HZ.out ▸ HB2.out.size)))
  obtain ⟨a5, a6, hg1, _⟩ := h1.ex
  have HG3 := Lib.hid hg1
  clear h1 hg1
  go_wp2_with fail
  refine (write_go _ _ _ _ [2] 0 2 w3 [] HG3.out (fit_small (by decide) (by decide)) rfl (by decide) (by decide) (HZ.out ▸ HB3.out.size)).mono ?_
  rintro e w4 ⟨rfl, h1⟩
  have HB4 := Lib.hid (HB3.out.trans (left_below h1 HG3.out (HZ.out ▸ HB3.out.size)))
  obtain ⟨a7, a8, hg1, _⟩ := h1.ex
  have HG4 := Lib.hid hg1
  clear h1 hg1
  go_wp2_with fail
  refine (in_any _ _ _ _ _ _ _ _ 2 w4 HG4.out (fit_small (by decide) (by decide))).mono ?_
  rintro e wx ⟨rfl, e1⟩
  subst e1
  rw [show inB [] (some 2) 2 = true from rfl]
  go_wp2_with fail
  refine (writers_any _ _ _ _ _ _ _ _ w4 HG4.out).mono ?_
  rintro e wx ⟨rfl, e1⟩
  subst e1
  go_wp2_with fail
  refine (waiting_any _ _ _ _ _ _ _ _ w4 HG4.out).mono ?_
  rintro e wx ⟨rfl, e1⟩
  subst e1
  go_wp2_with fail
  refine (readers_any _ _ _ _ _ _ _ _ w4 HG4.out).mono ?_
  rintro e wx ⟨rfl, e1⟩
  subst e1
  go_wp2
  go_ret
  exact ⟨rfl, HZ.out ▸ HB4.out⟩
end Go.Proofs.Ythmehalkijbpdaa.gat
