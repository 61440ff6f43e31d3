/- What script's room and picks answer, of a reader in memory. Conditions: at most a million bytes; what the listed variables hold. -/
import Derived.Test.YtfbgnafnpeeonaaDoorScrRdr
import Derived.BigRegion
import Derived.RegionTactic
namespace Go.Proofs.YtfbgnafnpeeonaaDoor.scr
set_option maxRecDepth 100000
open Go.RowKit Go.Proofs.YtfbgnafnpeeonaaDoor.words Go.Proofs.YtfbgnafnpeeonaaDoor.cal

def rdB (s : ScB) (vi vc vp : Value) (k : Int) : Obj := .cells #[.int .i64 s.sh, .int .i64 s.rm, .int .i64 s.cu, vi, vc, vp, .int .i64 k] 58 (0, 0)
theorem set_at {w : World} {g j : Nat} {cs : Array Value} {t : TypeId} (h : w.heap[g]? = some (.cells cs t (0, 0))) (u : Value) : (w.setCell ⟨g, j, none⟩ u).heap[g]? = some (.cells (cs.setIfInBounds j u) t (0, 0)) := heap_setCell_same w g j cs t u h
/-- The box alone. -/
def RB (t : TypeId) : Prop := t = 58
section
variable {w w' : World} {B g : Nat} {s : ScB} {k : Nat} {vi vc vp : Value}
theorem Rdr.kept {S : TypeId → Prop} {B' : Nat} (h : Rdr w B g s k vi vc vp) (hk : Kept S B' w w') (h0 : ¬ S 58) (h1 : ¬ S 9) (h2 : ¬ S 43) (h3 : ¬ S 45) (h4 : ¬ S 3) : Rdr w' B g s k vi vc vp :=
  ⟨h.ge, hk.blk h.blk h0, hk.own h.im h1, h.cl.kept hk h2 h3, hk.own h.pk h4⟩
/-- A world in which the box alone has turned. -/
theorem Rdr.box (h : Rdr w B g s k vi vc vp) {s' : ScB} {k' : Nat} (hk : Kept RB B w w') (hb : w'.heap[g]? = some (rdB s' vi vc vp k')) (h1 : s'.im = s.im) (h2 : s'.cl = s.cl) (h3 : s'.pk = s.pk) : Rdr w' B g s' k' vi vc vp :=
  ⟨h.ge, hb, by rw [h1]; exact hk.own h.im (by unfold RB; decide), by rw [h2]; exact h.cl.kept hk (by unfold RB; decide) (by unfold RB; decide), by rw [h3]; exact hk.own h.pk (by unfold RB; decide)⟩
end
theorem rt_of {B : Nat} {w w' : World} {S : TypeId → Prop} (h : Kept S B w w') (hS : ∀ t, S t → RT t) : Kept RT B w w' :=
  ⟨h.os, h.tape, h.output, h.size, fun k hk hc => h.block k hk (hc.imp id fun hc cs t f hw hs => hc cs t f hw (hS t hs))⟩
def RoomO (l : ByteArray) (B g : Nat) (S : ScB) (vi vc vp : Value) (w : World) (e : Ending) (w' : World) : Prop :=
  ((∃ a b c, numsM l.data.toList = some [a, b, c] ∧ e = .returned (.bool true) ∧ Rdr w' B g { S with sh := a, rm := b, cu := c } 1 vi vc vp) ∨ ((∀ a b c, numsM l.data.toList ≠ some [a, b, c]) ∧ e = .returned (.bool false))) ∧ Kept RT B w w'
set_option maxHeartbeats 3200000 in
theorem room_any (m : Int) (l : ByteArray) (B g : Nat) (S : ScB) (vi vc vp : Value) (w : World) (hl : l.size ≤ 1000000) (hE : Env m w) (hB : B ≤ w.heap.size) (h : Rdr w B g S 0 vi vc vp) :
    Calls Tryd.prog 36 #[.pointer (some ⟨g, 0, none⟩), .string l] w (RoomO l B g S vi vc vp w) := by
  have HN := Lib.hid (numbers_any m l w hl hE)
  have H := Lib.hid h
  have HB := Lib.hid hB
  clear h hE hB hl
  go_enter Tryd.func36, Tryd.ntmps36
  go_wp2_with fail
  refine HN.out.mono ?_
  rintro e w2 ⟨ho, hb2⟩
  have HK2 : Hid (Kept RT B w w2) := Lib.hid (Kept.of_below hb2 RT B)
  have H2 := Lib.hid (H.out.later hb2)
  clear HN hb2
  rcases ho with ⟨ns, A, c, hn, rfl, hown⟩ | ⟨hn, rfl⟩
  · by_cases h3 : ns.length = 3
    · obtain ⟨x0, x1, x2, rfl⟩ : ∃ a b c, ns = [a, b, c] := by
        rcases ns with _ | ⟨a, _ | ⟨b, _ | ⟨c, _ | ⟨d, r⟩⟩⟩⟩ <;> simp at h3
        exact ⟨a, b, c, rfl⟩
      obtain ⟨q, c', hA, _, _, d0⟩ := lru.own_at hown (j := 0) (u := .int .i64 x0) rfl
      obtain ⟨q1, c1, hA1, _, _, d1⟩ := lru.own_at hown (j := 1) (u := .int .i64 x1) rfl
      obtain ⟨q2, c2, hA2, _, _, d2⟩ := lru.own_at hown (j := 2) (u := .int .i64 x2) rfl
      injection hA with hA _ hc
      injection hA1 with hA1 _ _
      injection hA2 with hA2 _ _
      rw [hA] at hA1 hA2
      injection hA1 with hA1
      injection hA1 with hA1
      injection hA2 with hA2
      injection hA2 with hA2
      subst hA1 hA2 hA hc
      have hqg : q ≠ g := fun e => by
        obtain ⟨cs, f, h1⟩ := own_at_some (b := q) hown rfl
        rw [e, H2.out.blk] at h1
        injection h1 with h1
        injection h1 with _ h1
        revert h1
        decide
      have b2 := H2.out.blk
      obtain ⟨W1, hW1⟩ : ∃ W1, W1 = w2.setCell ⟨g, 6, none⟩ (.int .i64 1) := ⟨_, rfl⟩
      have b1 : W1.heap[g]? = some (rdB S vi vc vp 1) := by rw [hW1]; exact set_at b2 _
      have hk1 : Kept RT B w2 W1 := by rw [hW1]; exact (Kept.refl RT B w2).setCell H2.out.ge ⟨_, _, _, b2, .inl rfl⟩ _
      have e0 : W1.cell? ⟨q, 0, none⟩ = some (.int .i64 x0) := by rw [hW1]; exact (World.cell?_of_block (Below.heap_setCell _ _ _ _ hqg)).trans d0
      have e1 : W1.cell? ⟨q, 1, none⟩ = some (.int .i64 x1) := by rw [hW1]; exact (World.cell?_of_block (Below.heap_setCell _ _ _ _ hqg)).trans d1
      have e2 : W1.cell? ⟨q, 2, none⟩ = some (.int .i64 x2) := by rw [hW1]; exact (World.cell?_of_block (Below.heap_setCell _ _ _ _ hqg)).trans d2
      have b3 : (W1.setCell ⟨g, 0, none⟩ (.int .i64 x0)).heap[g]? = some (rdB { S with sh := x0 } vi vc vp 1) := set_at b1 _
      have b4 : ((W1.setCell ⟨g, 0, none⟩ (.int .i64 x0)).setCell ⟨g, 1, none⟩ (.int .i64 x1)).heap[g]? = some (rdB { S with sh := x0, rm := x1 } vi vc vp 1) := set_at b3 _
      have b5 : (((W1.setCell ⟨g, 0, none⟩ (.int .i64 x0)).setCell ⟨g, 1, none⟩ (.int .i64 x1)).setCell ⟨g, 2, none⟩ (.int .i64 x2)).heap[g]? = some (rdB { S with sh := x0, rm := x1, cu := x2 } vi vc vp 1) := set_at b4 _
      have hk5 : Kept RB B W1 (((W1.setCell ⟨g, 0, none⟩ (.int .i64 x0)).setCell ⟨g, 1, none⟩ (.int .i64 x1)).setCell ⟨g, 2, none⟩ (.int .i64 x2)) :=
        (((Kept.refl RB B W1).setCell H2.out.ge ⟨_, _, _, b1, rfl⟩ _).setCell (p := ⟨g, 1, none⟩) H2.out.ge ⟨_, _, _, b3, rfl⟩ _).setCell (p := ⟨g, 2, none⟩) H2.out.ge ⟨_, _, _, b4, rfl⟩ _
      have hk0 : Kept RB B w2 W1 := by rw [hW1]; exact (Kept.refl RB B w2).setCell (p := ⟨g, 6, none⟩) H2.out.ge ⟨_, _, _, b2, rfl⟩ _
      have HF : Hid (RoomO l B g S vi vc vp w (.returned (.bool true)) (((W1.setCell ⟨g, 0, none⟩ (.int .i64 x0)).setCell ⟨g, 1, none⟩ (.int .i64 x1)).setCell ⟨g, 2, none⟩ (.int .i64 x2)).drew) := Lib.hid
        ⟨.inl ⟨x0, x1, x2, hn, rfl, (H2.out.box (hk0.trans hk5) b5 rfl rfl rfl).later (Below.refl _ _).drew⟩, (HK2.out.trans (rt_of (hk0.trans hk5) fun t ht => .inl ht)).drew⟩
      have y6 := cell_of_blk b2 6
      have z6 := free_of_blk b2 6
      unfold rdB at b1 b3 b4
      have y0 := cell_of_blk b1 0
      have z0 := free_of_blk b1 0
      have y1 := cell_of_blk b3 1
      have z1 := free_of_blk b3 1
      have y2 := cell_of_blk b4 2
      have z2 := free_of_blk b4 2
      have HW1 := Lib.hid hW1
      have g3 : (((3 : Nat) : Int) != 3) = false := rfl
      have l3 : ([x0, x1, x2] : List Int).length = 3 := rfl
      rw [l3]
      clear hW1 b1 b2 b3 b4 b5 hk1 hk5 hk0 hqg hown h3 d0 d1 d2 hn H2 l3
      go_wp2_with fail
      rw [← HW1.out]
      go_region
      go_wp2_with fail
      go_ret
      exact HF.out
    · have g3 : ((ns.length : Int) != 3) = true := by rw [bne_iff_ne]; omega
      have HF : Hid (RoomO l B g S vi vc vp w (.returned (.bool false)) w2) := Lib.hid ⟨.inr ⟨fun a b c e => (by rw [hn] at e; injection e with e; rw [e] at h3; exact h3 rfl), rfl⟩, HK2.out⟩
      clear hown h3 hn H2
      go_wp2_with fail
      go_ret
      exact HF.out
  · have HF : Hid (RoomO l B g S vi vc vp w (.returned (.bool false)) w2) := Lib.hid ⟨.inr ⟨fun a b c e => (by rw [hn] at e; cases e), rfl⟩, HK2.out⟩
    clear hn H2
    go_wp2_with fail
    go_ret
    exact HF.out
/-- A world behind that in which the reader was made. -/
def Cx (m : Int) (B : Nat) (w : World) : Prop := ∃ w0 : World, B = w0.heap.size ∧ Kept RT B w0 w ∧ Env m w0
theorem Cx.le {m : Int} {B : Nat} {w : World} (h : Cx m B w) : B ≤ w.heap.size := by obtain ⟨w0, h1, h2, _⟩ := h; rw [h1]; exact h2.size
theorem Cx.env {m : Int} {B : Nat} {w : World} (h : Cx m B w) : Env m w := by
  obtain ⟨w0, h1, h2, h3⟩ := h
  exact h3.later ((h2.below (by omega)).mono (by omega))
theorem Cx.next {m : Int} {B : Nat} {w w' : World} (h : Cx m B w) (hk : Kept RT B w w') : Cx m B w' := by
  obtain ⟨w0, h1, h2, h3⟩ := h
  exact ⟨w0, h1, h2.trans hk, h3⟩
theorem Cx.later {m : Int} {B : Nat} {w w' : World} (h : Cx m B w) (hb : Below w.heap.size w w') : Cx m B w' := h.next (Kept.of_below hb RT B)
def PicksO (l : ByteArray) (B g : Nat) (S : ScB) (vi vc : Value) (w : World) (e : Ending) (w' : World) : Prop :=
  ((∃ ns vp, numsM l.data.toList = some ns ∧ e = .returned (.bool true) ∧ Rdr w' B g { S with pk := ns } 3 vi vc vp) ∨ (numsM l.data.toList = none ∧ e = .returned (.bool false))) ∧ Kept RT B w w'
set_option maxHeartbeats 3200000 in
theorem picks_any (m : Int) (l : ByteArray) (B g : Nat) (S : ScB) (k : Nat) (vi vc vp : Value) (w : World) (hl : l.size ≤ 1000000) (hC : Cx m B w) (h : Rdr w B g S k vi vc vp) :
    Calls Tryd.prog 38 #[.pointer (some ⟨g, 0, none⟩), .string l] w (PicksO l B g S vi vc w) := by
  have H := Lib.hid h
  have HB := Lib.hid hC.le
  obtain ⟨W1, hW1⟩ : ∃ W1, W1 = w.setCell ⟨g, 6, none⟩ (.int .i64 3) := ⟨_, rfl⟩
  have b0 := h.blk
  have b1 : W1.heap[g]? = some (rdB S vi vc vp 3) := by rw [hW1]; exact set_at b0 _
  have hk1 : Kept RB B w W1 := by rw [hW1]; exact (Kept.refl RB B w).setCell (p := ⟨g, 6, none⟩) h.ge ⟨_, _, _, b0, rfl⟩ _
  have HE1 : Hid (Env m W1) := Lib.hid (hC.next (rt_of hk1 fun t ht => .inl ht)).env
  have HN := Lib.hid (numbers_any m l W1 hl HE1.out)
  have HK1 := Lib.hid hk1
  have HW1 := Lib.hid hW1
  have y6 := cell_of_blk b0 6
  have z6 := free_of_blk b0 6
  have HX1 := Lib.hid b1
  clear hW1 b0 b1 hk1 h hC hl
  go_enter Tryd.func38, Tryd.ntmps38
  go_upto_region 2 with fail
  rw [← HW1.out]
  clear HW1 y6 z6
  go_wp2_with fail
  refine HN.out.mono ?_
  rintro e w2 ⟨ho, hb2⟩
  have x2 := (hb2.block _ (lt_of_some HX1.out)).trans HX1.out
  unfold rdB at x2
  have y5 := cell_of_blk x2 5
  have z5 := free_of_blk x2 5
  have hk2 : Kept RB B w w2 := HK1.out.trans (Kept.of_below hb2 RB B)
  rcases ho with ⟨ns, A, c, hn, rfl, hown⟩ | ⟨hn, rfl⟩
  · have hx := set_at (j := 5) x2 (.slice A ns.length c)
    have hk3 : Kept RB B w (w2.setCell ⟨g, 5, none⟩ (.slice A ns.length c)) := hk2.setCell (p := ⟨g, 5, none⟩) H.out.ge ⟨_, _, _, x2, rfl⟩ _
    have hBW : B ≤ W1.heap.size := by have := HB.out; have := HK1.out.size; omega
    have HF : Hid (PicksO l B g S vi vc w (.returned (.bool true)) (w2.setCell ⟨g, 5, none⟩ (.slice A ns.length c))) := Lib.hid
      ⟨.inl ⟨ns, .slice A ns.length c, hn, rfl, H.out.ge, hx, hk3.own H.out.im (by unfold RB; decide), H.out.cl.kept hk3 (by unfold RB; decide) (by unfold RB; decide), lru.own_mono (((Kept.refl RB B w2).setCell (p := ⟨g, 5, none⟩) H.out.ge ⟨_, _, _, x2, rfl⟩ _).own hown (by unfold RB; decide)) hBW⟩, rt_of hk3 fun t ht => .inl ht⟩
    clear hn hown hx hk3 hBW hk2 hb2 HN x2
    go_wp2_with fail
    go_ret
    exact HF.out
  · have HF : Hid (PicksO l B g S vi vc w (.returned (.bool false)) (w2.setCell ⟨g, 5, none⟩ (.slice none 0 0))) := Lib.hid
      ⟨.inr ⟨hn, rfl⟩, rt_of (hk2.setCell (p := ⟨g, 5, none⟩) H.out.ge ⟨_, _, _, x2, rfl⟩ _) fun t ht => .inl ht⟩
    clear hn hk2 hb2 HN x2
    go_wp2_with fail
    go_ret
    exact HF.out
end Go.Proofs.YtfbgnafnpeeonaaDoor.scr
