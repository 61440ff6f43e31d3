/- What socagelaw24's speaks answers. No condition. -/
import Derived.Test.YtkigkdiphhecaaaGreatTlKept
namespace Go.Proofs.YtkigkdiphhecaaaGreat.tal
set_option maxRecDepth 100000
open Go.RowKit Go.Proofs.YtkigkdiphhecaaaGreat.words

def aR : Rc := ⟨0, 0, 7, ⟨#[]⟩, 0, 0, 0, ⟨#[]⟩, 9, 0, 0, 0, 0, ⟨#[]⟩, [], false, 1, 1, 1, none, 0⟩
def bR : Rc := ⟨0, 0, 9, ⟨#[]⟩, 0, 0, 0, ⟨#[]⟩, 2, 0, 0, 0, 0, ⟨#[]⟩, [], false, 2, 4, 5, none, 0⟩
def cR : Rc := ⟨0, 0, 9, ⟨#[]⟩, 0, 0, 0, ⟨#[]⟩, 0, 0, 0, 0, 0, ⟨#[]⟩, [], false, 2, 4, 5, none, 0⟩
theorem do_a (s t m : Nat) : DoT s t m (.agg #[.int .i64 aR.k, .string aR.p, .int .i64 aR.o, .int .i64 aR.n, .int .i64 aR.i, .string aR.g]) (.agg #[.int .i64 9, .int .i64 0, .int .i64 0, .int .i64 0, .int .i64 0, .string ⟨#[]⟩, .slice none 0 0, .bool false]) := fun w h => by
  refine (do_close (h := h) aR.p aR.o aR.n aR.i aR.g rfl (by unfold mpi.Fits; decide) rfl).mono ?_
  rintro e w' ⟨rfl, hb⟩
  exact ⟨rfl, h.later hb, lru.Tn.of_below hb _⟩
theorem do_b (s t m : Nat) : DoT s t m (.agg #[.int .i64 bR.k, .string bR.p, .int .i64 bR.o, .int .i64 bR.n, .int .i64 bR.i, .string bR.g]) (.agg #[.int .i64 2, .int .i64 0, .int .i64 0, .int .i64 0, .int .i64 0, .string ⟨#[]⟩, .slice none 0 0, .bool false]) := fun w h => by
  refine (do_rem (h := h) bR.p bR.o bR.n bR.i bR.g rfl (fun w' h' => remove_no (h := h') bR.i (fun w2 _ => srem_none 0 bR.i w2))).mono ?_
  rintro e w' ⟨rfl, h1, h2⟩
  exact ⟨rfl, h1, h2⟩
theorem two_new (w : World) (x y : Rc) : Two (w.alloc (.cells #[.int .i64 x.cl, .int .i64 x.ix, .int .i64 x.k, .string x.p, .int .i64 x.o, .int .i64 x.n, .int .i64 x.i, .string x.g, .int .i64 x.e, .int .i64 x.rk, .int .i64 x.z, .int .i64 x.wh, .int .i64 x.id, .string x.x, .slice x.A x.N.length x.c, .bool x.fin, .int .i64 x.ca, .int .i64 x.ma, .int .i64 x.re, .int .i64 y.cl, .int .i64 y.ix, .int .i64 y.k, .string y.p, .int .i64 y.o, .int .i64 y.n, .int .i64 y.i, .string y.g, .int .i64 y.e, .int .i64 y.rk, .int .i64 y.z, .int .i64 y.wh, .int .i64 y.id, .string y.x, .slice y.A y.N.length y.c, .bool y.fin, .int .i64 y.ca, .int .i64 y.ma, .int .i64 y.re] 32)) w.heap.size x y := by
  refine ⟨_, heap_alloc_new w _, by show 38 ≤ 38; omega, ?_⟩
  rfl
theorem recs_two {w : World} {g : Nat} {x y : Rc} (h : Two w g x y) : Recs w (some ⟨g, 0, none⟩) [x, y] := fun i r hr => by
  match i, hr with
  | 0, hr =>
    obtain rfl := Option.some.inj hr
    exact ⟨g, 0, rfl, h.lt, by rw [show 0 + 0 * 19 = 0 from rfl]; exact h.at_.1⟩
  | 1, hr =>
    obtain rfl := Option.some.inj hr
    exact ⟨g, 0, rfl, h.lt, by rw [show 0 + 1 * 19 = 19 from rfl]; exact h.at_.2⟩
theorem kept_ba (g c : Nat) (w : World) (h : Two w g bR aR) : Calls Tryz.prog 8 #[.slice (some ⟨g, 0, none⟩) 2 c] w fun e w' => e = .returned (.bool false) ∧ Below w.heap.size w w' := by
  refine (kept_any (some ⟨g, 0, none⟩) c [bR, aR] w (recs_two h) (by decide)).mono ?_
  rintro e w' ⟨⟨b, rfl, hb⟩, hb2⟩
  refine ⟨?_, hb2⟩
  rcases b with _ | _
  · rfl
  · exact absurd (show aR.re < bR.ca by decide) ((hb.1 rfl) 1 0 aR bR (by omega) rfl rfl)
theorem wrong_ab (g c : Nat) (w : World) (h : Two w g aR bR) : Calls Tryz.prog 14 #[.agg #[.slice none 0 0, .int .i64 0], .int .i64 1, .slice (some ⟨g, 0, none⟩) 2 c] w fun e w' => e = .returned (.int .i64 (-1)) ∧ Below w.heap.size w w' :=
  wrong_two true aR bR g 0 c 9 2 w h.at_.1 h.at_.2 ⟨by decide, by decide, by decide⟩ ⟨by decide, by decide, by decide⟩ rfl rfl do_a (by decide) do_b (by decide)
theorem wrong_ac (g c : Nat) (w : World) (h : Two w g aR cR) : Calls Tryz.prog 14 #[.agg #[.slice none 0 0, .int .i64 0], .int .i64 1, .slice (some ⟨g, 0, none⟩) 2 c] w fun e w' => e = .returned (.int .i64 1) ∧ Below w.heap.size w w' :=
  wrong_two false aR cR g 0 c 9 2 w h.at_.1 h.at_.2 ⟨by decide, by decide, by decide⟩ ⟨by decide, by decide, by decide⟩ rfl rfl do_a (by decide) do_b (by decide)
theorem order_ba (g c : Nat) (w : World) (h : Two w g bR aR) : Calls Tryz.prog 13 #[.slice (some ⟨g, 0, none⟩) 2 c] w fun e w' => (∃ g c, e = .returned (.slice (some ⟨g, 0, none⟩) 2 c) ∧ w'.cell? ⟨g, 17, none⟩ = some (.int .i64 1) ∧ g < w'.heap.size) ∧ Below w.heap.size w w' := by
  refine (order_two g 0 c bR aR w rfl rfl h.at_.1 h.at_.2).mono ?_
  rintro e w' ⟨⟨g', c', rfl, hg, ht⟩, hb⟩
  have e1 : srt bR aR = (aR, bR) := by unfold srt; rw [if_pos (by decide)]
  rw [e1] at ht
  refine ⟨⟨g', c', rfl, ?_, ht.lt⟩, hb⟩
  have := ht.at_.1 17 _ rfl
  rwa [Nat.zero_add] at this
set_option maxHeartbeats 12800000 in
theorem speaks_any (w : World) : Calls Tryz.prog 5 #[] w fun e w' => e = .returned (.bool true) ∧ Below w.heap.size w w' := by
  obtain ⟨W1, hW1⟩ : ∃ W1, W1 = w.alloc (.cells #[.slice none 0 0, .int .i64 0] 42) := ⟨_, rfl⟩
  obtain ⟨W2, hW2⟩ : ∃ W2, W2 = W1.alloc (.cells #[.int .i64 aR.cl, .int .i64 aR.ix, .int .i64 aR.k, .string aR.p, .int .i64 aR.o, .int .i64 aR.n, .int .i64 aR.i, .string aR.g, .int .i64 aR.e, .int .i64 aR.rk, .int .i64 aR.z, .int .i64 aR.wh, .int .i64 aR.id, .string aR.x, .slice aR.A aR.N.length aR.c, .bool aR.fin, .int .i64 aR.ca, .int .i64 aR.ma, .int .i64 aR.re] 32) := ⟨_, rfl⟩
  obtain ⟨W3, hW3⟩ : ∃ W3, W3 = W2.alloc (.cells #[.int .i64 bR.cl, .int .i64 bR.ix, .int .i64 bR.k, .string bR.p, .int .i64 bR.o, .int .i64 bR.n, .int .i64 bR.i, .string bR.g, .int .i64 bR.e, .int .i64 bR.rk, .int .i64 bR.z, .int .i64 bR.wh, .int .i64 bR.id, .string bR.x, .slice bR.A bR.N.length bR.c, .bool bR.fin, .int .i64 bR.ca, .int .i64 bR.ma, .int .i64 bR.re] 32) := ⟨_, rfl⟩
  obtain ⟨W4, hW4⟩ : ∃ W4, W4 = W3.alloc (.cells #[.int .i64 bR.cl, .int .i64 bR.ix, .int .i64 bR.k, .string bR.p, .int .i64 bR.o, .int .i64 bR.n, .int .i64 bR.i, .string bR.g, .int .i64 bR.e, .int .i64 bR.rk, .int .i64 bR.z, .int .i64 bR.wh, .int .i64 bR.id, .string bR.x, .slice bR.A bR.N.length bR.c, .bool bR.fin, .int .i64 bR.ca, .int .i64 bR.ma, .int .i64 bR.re] 32) := ⟨_, rfl⟩
  obtain ⟨g2, hg2⟩ : ∃ g2, g2 = W1.heap.size := ⟨_, rfl⟩
  obtain ⟨g3, hg3⟩ : ∃ g3, g3 = W2.heap.size := ⟨_, rfl⟩
  obtain ⟨g4, hg4⟩ : ∃ g4, g4 = W3.heap.size := ⟨_, rfl⟩
  obtain ⟨W5, hW5⟩ : ∃ W5, W5 = W4.setCell ⟨g4, 8, none⟩ (.int .i64 0) := ⟨_, rfl⟩
  have b1 : Below w.heap.size w W1 := by rw [hW1]; exact (Below.refl _ _).alloc (Nat.le_refl _) _
  have b2 : Below W1.heap.size W1 W2 := by rw [hW2]; exact (Below.refl _ _).alloc (Nat.le_refl _) _
  have b3 : Below W2.heap.size W2 W3 := by rw [hW3]; exact (Below.refl _ _).alloc (Nat.le_refl _) _
  have b4 : Below W3.heap.size W3 W4 := by rw [hW4]; exact (Below.refl _ _).alloc (Nat.le_refl _) _
  have b5 : Below W3.heap.size W3 W5 := by rw [hW5, hg4]; exact b4.setCell (p := ⟨W3.heap.size, 8, none⟩) (Nat.le_refl _) _
  have x1 : W1.heap[w.heap.size]? = some (.cells #[.slice none 0 0, .int .i64 0] 42 (0, 0)) := by rw [hW1]; exact heap_alloc_new w _
  have x2 : W2.heap[g2]? = some (.cells #[.int .i64 aR.cl, .int .i64 aR.ix, .int .i64 aR.k, .string aR.p, .int .i64 aR.o, .int .i64 aR.n, .int .i64 aR.i, .string aR.g, .int .i64 aR.e, .int .i64 aR.rk, .int .i64 aR.z, .int .i64 aR.wh, .int .i64 aR.id, .string aR.x, .slice aR.A aR.N.length aR.c, .bool aR.fin, .int .i64 aR.ca, .int .i64 aR.ma, .int .i64 aR.re] 32 (0, 0)) := by rw [hW2, hg2]; exact heap_alloc_new W1 _
  have x3 : W3.heap[g3]? = some (.cells #[.int .i64 bR.cl, .int .i64 bR.ix, .int .i64 bR.k, .string bR.p, .int .i64 bR.o, .int .i64 bR.n, .int .i64 bR.i, .string bR.g, .int .i64 bR.e, .int .i64 bR.rk, .int .i64 bR.z, .int .i64 bR.wh, .int .i64 bR.id, .string bR.x, .slice bR.A bR.N.length bR.c, .bool bR.fin, .int .i64 bR.ca, .int .i64 bR.ma, .int .i64 bR.re] 32 (0, 0)) := by rw [hW3, hg3]; exact heap_alloc_new W2 _
  have x4 : W4.heap[g4]? = some (.cells #[.int .i64 bR.cl, .int .i64 bR.ix, .int .i64 bR.k, .string bR.p, .int .i64 bR.o, .int .i64 bR.n, .int .i64 bR.i, .string bR.g, .int .i64 bR.e, .int .i64 bR.rk, .int .i64 bR.z, .int .i64 bR.wh, .int .i64 bR.id, .string bR.x, .slice bR.A bR.N.length bR.c, .bool bR.fin, .int .i64 bR.ca, .int .i64 bR.ma, .int .i64 bR.re] 32 (0, 0)) := by rw [hW4, hg4]; exact heap_alloc_new W3 _
  have x5 : W5.heap[g4]? = some (.cells #[.int .i64 cR.cl, .int .i64 cR.ix, .int .i64 cR.k, .string cR.p, .int .i64 cR.o, .int .i64 cR.n, .int .i64 cR.i, .string cR.g, .int .i64 cR.e, .int .i64 cR.rk, .int .i64 cR.z, .int .i64 cR.wh, .int .i64 cR.id, .string cR.x, .slice cR.A cR.N.length cR.c, .bool cR.fin, .int .i64 cR.ca, .int .i64 cR.ma, .int .i64 cR.re] 32 (0, 0)) := by
    rw [hW5]
    simp [World.setCell, Array.getElem?_modify, x4]
    repeat' constructor
  have y2 : W5.heap[g2]? = some (.cells #[.int .i64 aR.cl, .int .i64 aR.ix, .int .i64 aR.k, .string aR.p, .int .i64 aR.o, .int .i64 aR.n, .int .i64 aR.i, .string aR.g, .int .i64 aR.e, .int .i64 aR.rk, .int .i64 aR.z, .int .i64 aR.wh, .int .i64 aR.id, .string aR.x, .slice aR.A aR.N.length aR.c, .bool aR.fin, .int .i64 aR.ca, .int .i64 aR.ma, .int .i64 aR.re] 32 (0, 0)) := (b5.block _ (by rw [hg2]; exact Nat.lt_of_lt_of_le (by have := lt_of_some x2; rw [hg2] at this; exact this) b3.size)).trans ((b3.block _ (lt_of_some x2)).trans x2)
  have y3 : W5.heap[g3]? = some (.cells #[.int .i64 bR.cl, .int .i64 bR.ix, .int .i64 bR.k, .string bR.p, .int .i64 bR.o, .int .i64 bR.n, .int .i64 bR.i, .string bR.g, .int .i64 bR.e, .int .i64 bR.rk, .int .i64 bR.z, .int .i64 bR.wh, .int .i64 bR.id, .string bR.x, .slice bR.A bR.N.length bR.c, .bool bR.fin, .int .i64 bR.ca, .int .i64 bR.ma, .int .i64 bR.re] 32 (0, 0)) := (b5.block _ (lt_of_some x3)).trans x3
  have y1 : W5.heap[w.heap.size]? = some (.cells #[.slice none 0 0, .int .i64 0] 42 (0, 0)) := (b5.block _ (Nat.lt_of_lt_of_le (lt_of_some x1) (Nat.le_trans b2.size b3.size))).trans ((b3.block _ (Nat.lt_of_lt_of_le (lt_of_some x1) b2.size)).trans ((b2.block _ (lt_of_some x1)).trans x1))
  have HB5 : Hid (Below w.heap.size w W5) := Lib.hid (b1.trans ((b2.trans ((b3.trans (b5.mono b3.size)).mono b2.size)).mono b1.size))
  have HF : Hid (∀ w', Below W5.heap.size W5 w' → w'.rangeAt g2 0 aR.cs ∧ w'.rangeAt g3 0 bR.cs ∧ w'.rangeAt g4 0 cR.cs ∧ w'.cell? ⟨w.heap.size, 0, none⟩ = some (.slice none 0 0) ∧ w'.cell? ⟨w.heap.size, 1, none⟩ = some (.int .i64 0)) := Lib.hid fun w' hb => ⟨range_box ((hb.block _ (lt_of_some y2)).trans y2), range_box ((hb.block _ (lt_of_some y3)).trans y3), range_box ((hb.block _ (lt_of_some x5)).trans x5), cell_of_blk ((hb.block _ (lt_of_some y1)).trans y1) 0, cell_of_blk ((hb.block _ (lt_of_some y1)).trans y1) 1⟩
  have HR3 : Hid (W3.rangeAt g3 0 bR.cs) := Lib.hid (range_box x3)
  have z8 := cell_of_blk x4 8
  have f8 := free_of_blk x4 8
  have HW1 := Lib.hid hW1
  have HW2 := Lib.hid hW2
  have HW3 := Lib.hid hW3
  have HW4 := Lib.hid hW4
  have HW5 := Lib.hid hW5
  have HG2 := Lib.hid hg2
  have HG3 := Lib.hid hg3
  have HG4 := Lib.hid hg4
  have HRf := Lib.hid (Below.refl W5.heap.size W5)
  clear hW1 hW2 hW3 hW4 hW5 hg2 hg3 hg4 b1 b2 b3 b4 b5 x1 x2 x3 x4 x5 y1 y2 y3
  go_enter Tryz.func5, Tryz.ntmps5
  go_upto_region 2 with fail
  rw [← HW1.out]
  clear HW1
  go_upto_region 3 with (refine wl_put (r := aR) rfl rfl rfl rfl rfl ?_)
  rw [← HW2.out]
  simp only [← HG2.out]
  clear HW2 HG2
  go_upto_region 4 with (refine wl_put (r := bR) rfl rfl rfl rfl rfl ?_)
  rw [← HW3.out]
  simp only [← HG3.out]
  clear HW3 HG3
  go_upto_region 5 with (first | (refine wl_load rfl rfl rfl HR3.out ?_) | (refine wl_put (r := bR) rfl rfl rfl rfl rfl ?_))
  rw [← HW4.out]
  simp only [← HG4.out]
  clear HW4 HG4 HR3
  go_upto_region 6 with fail
  rw [← HW5.out]
  clear HW5 z8 f8
  obtain ⟨V1, hV1⟩ : ∃ V1, V1 = W5.alloc (.cells #[.int .i64 bR.cl, .int .i64 bR.ix, .int .i64 bR.k, .string bR.p, .int .i64 bR.o, .int .i64 bR.n, .int .i64 bR.i, .string bR.g, .int .i64 bR.e, .int .i64 bR.rk, .int .i64 bR.z, .int .i64 bR.wh, .int .i64 bR.id, .string bR.x, .slice bR.A bR.N.length bR.c, .bool bR.fin, .int .i64 bR.ca, .int .i64 bR.ma, .int .i64 bR.re, .int .i64 aR.cl, .int .i64 aR.ix, .int .i64 aR.k, .string aR.p, .int .i64 aR.o, .int .i64 aR.n, .int .i64 aR.i, .string aR.g, .int .i64 aR.e, .int .i64 aR.rk, .int .i64 aR.z, .int .i64 aR.wh, .int .i64 aR.id, .string aR.x, .slice aR.A aR.N.length aR.c, .bool aR.fin, .int .i64 aR.ca, .int .i64 aR.ma, .int .i64 aR.re] 32) := ⟨_, rfl⟩
  have HT1 : Hid (Two V1 W5.heap.size bR aR) := Lib.hid (by rw [hV1]; exact two_new W5 bR aR)
  have HBn1 : Hid (Below W5.heap.size W5 V1) := Lib.hid (by rw [hV1]; exact (Below.refl _ _).alloc (Nat.le_refl _) _)
  have HV1 := Lib.hid hV1
  clear hV1
  have HO := Lib.hid (order_ba W5.heap.size 2 V1 HT1.out)
  go_wp2_with (first | (refine wl_load rfl rfl rfl (HF.out W5 HRf.out).1 ?_) | (refine wl_load rfl rfl rfl (HF.out W5 HRf.out).2.1 ?_) | (rw [← HV1.out]; clear HV1; refine HO.out.mono ?_))
  rintro e v1 ⟨⟨g6, c6, rfl, hm, hg6⟩, hb1⟩
  have HB1 : Hid (Below W5.heap.size W5 v1) := Lib.hid (HBn1.out.trans (hb1.mono HBn1.out.size))
  clear hb1 HO HT1 HBn1
  have k0 := (HF.out v1 HB1.out).2.2.2.1
  have k1 := (HF.out v1 HB1.out).2.2.2.2
  obtain ⟨V2, hV2⟩ : ∃ V2, V2 = v1.alloc (.cells #[.int .i64 aR.cl, .int .i64 aR.ix, .int .i64 aR.k, .string aR.p, .int .i64 aR.o, .int .i64 aR.n, .int .i64 aR.i, .string aR.g, .int .i64 aR.e, .int .i64 aR.rk, .int .i64 aR.z, .int .i64 aR.wh, .int .i64 aR.id, .string aR.x, .slice aR.A aR.N.length aR.c, .bool aR.fin, .int .i64 aR.ca, .int .i64 aR.ma, .int .i64 aR.re, .int .i64 bR.cl, .int .i64 bR.ix, .int .i64 bR.k, .string bR.p, .int .i64 bR.o, .int .i64 bR.n, .int .i64 bR.i, .string bR.g, .int .i64 bR.e, .int .i64 bR.rk, .int .i64 bR.z, .int .i64 bR.wh, .int .i64 bR.id, .string bR.x, .slice bR.A bR.N.length bR.c, .bool bR.fin, .int .i64 bR.ca, .int .i64 bR.ma, .int .i64 bR.re] 32) := ⟨_, rfl⟩
  have HT2 : Hid (Two V2 v1.heap.size aR bR) := Lib.hid (by rw [hV2]; exact two_new v1 aR bR)
  have HBn2 : Hid (Below v1.heap.size v1 V2) := Lib.hid (by rw [hV2]; exact (Below.refl _ _).alloc (Nat.le_refl _) _)
  have HV2 := Lib.hid hV2
  clear hV2
  have HO2 := Lib.hid (wrong_ab v1.heap.size 2 V2 HT2.out)
  go_wp2_with (first | (refine wl_any rfl (by kernel_rfl) rfl (HF.out v1 HB1.out).1 ?_) | (refine wl_any rfl (by kernel_rfl) rfl (HF.out v1 HB1.out).2.1 ?_) | (refine wl_any rfl (by kernel_rfl) rfl (HF.out v1 HB1.out).2.2.1 ?_) | (rw [← HV2.out]; clear HV2; refine HO2.out.mono ?_))
  rintro e v2 ⟨rfl, hb2⟩
  have HB2 : Hid (Below W5.heap.size W5 v2) := Lib.hid (HB1.out.trans ((HBn2.out.trans (hb2.mono HBn2.out.size)).mono HB1.out.size))
  clear hb2 HO2 HT2 HBn2 k0 k1 hm hg6
  have k0 := (HF.out v2 HB2.out).2.2.2.1
  have k1 := (HF.out v2 HB2.out).2.2.2.2
  obtain ⟨V3, hV3⟩ : ∃ V3, V3 = v2.alloc (.cells #[.int .i64 aR.cl, .int .i64 aR.ix, .int .i64 aR.k, .string aR.p, .int .i64 aR.o, .int .i64 aR.n, .int .i64 aR.i, .string aR.g, .int .i64 aR.e, .int .i64 aR.rk, .int .i64 aR.z, .int .i64 aR.wh, .int .i64 aR.id, .string aR.x, .slice aR.A aR.N.length aR.c, .bool aR.fin, .int .i64 aR.ca, .int .i64 aR.ma, .int .i64 aR.re, .int .i64 cR.cl, .int .i64 cR.ix, .int .i64 cR.k, .string cR.p, .int .i64 cR.o, .int .i64 cR.n, .int .i64 cR.i, .string cR.g, .int .i64 cR.e, .int .i64 cR.rk, .int .i64 cR.z, .int .i64 cR.wh, .int .i64 cR.id, .string cR.x, .slice cR.A cR.N.length cR.c, .bool cR.fin, .int .i64 cR.ca, .int .i64 cR.ma, .int .i64 cR.re] 32) := ⟨_, rfl⟩
  have HT3 : Hid (Two V3 v2.heap.size aR cR) := Lib.hid (by rw [hV3]; exact two_new v2 aR cR)
  have HBn3 : Hid (Below v2.heap.size v2 V3) := Lib.hid (by rw [hV3]; exact (Below.refl _ _).alloc (Nat.le_refl _) _)
  have HV3 := Lib.hid hV3
  clear hV3
  have HO3 := Lib.hid (wrong_ac v2.heap.size 2 V3 HT3.out)
  go_wp2_with (first | (refine wl_any rfl (by kernel_rfl) rfl (HF.out v2 HB2.out).1 ?_) | (refine wl_any rfl (by kernel_rfl) rfl (HF.out v2 HB2.out).2.1 ?_) | (refine wl_any rfl (by kernel_rfl) rfl (HF.out v2 HB2.out).2.2.1 ?_) | (rw [← HV3.out]; clear HV3; refine HO3.out.mono ?_))
  rintro e v3 ⟨rfl, hb3⟩
  have HB3 : Hid (Below W5.heap.size W5 v3) := Lib.hid (HB2.out.trans ((HBn3.out.trans (hb3.mono HBn3.out.size)).mono HB2.out.size))
  clear hb3 HO3 HT3 HBn3 k0 k1
  have HBf : Hid (Calls Tryz.prog 7 #[.agg #[.int .i64 aR.cl, .int .i64 aR.ix, .int .i64 aR.k, .string aR.p, .int .i64 aR.o, .int .i64 aR.n, .int .i64 aR.i, .string aR.g, .int .i64 aR.e, .int .i64 aR.rk, .int .i64 aR.z, .int .i64 aR.wh, .int .i64 aR.id, .string aR.x, .slice aR.A aR.N.length aR.c, .bool aR.fin, .int .i64 aR.ca, .int .i64 aR.ma, .int .i64 aR.re], .agg #[.int .i64 bR.cl, .int .i64 bR.ix, .int .i64 bR.k, .string bR.p, .int .i64 bR.o, .int .i64 bR.n, .int .i64 bR.i, .string bR.g, .int .i64 bR.e, .int .i64 bR.rk, .int .i64 bR.z, .int .i64 bR.wh, .int .i64 bR.id, .string bR.x, .slice bR.A bR.N.length bR.c, .bool bR.fin, .int .i64 bR.ca, .int .i64 bR.ma, .int .i64 bR.re]] v3 fun e w' => e = .returned (.bool true) ∧ Below v3.heap.size v3 w') := Lib.hid (before_any aR bR v3)
  go_wp2_with (first | (refine wl_any rfl (by kernel_rfl) rfl (HF.out v3 HB3.out).1 ?_) | (refine wl_any rfl (by kernel_rfl) rfl (HF.out v3 HB3.out).2.1 ?_) | (refine HBf.out.mono ?_))
  rintro e v4 ⟨rfl, hb4⟩
  have HB4 : Hid (Below W5.heap.size W5 v4) := Lib.hid (HB3.out.trans (hb4.mono HB3.out.size))
  clear hb4 HBf
  obtain ⟨V5, hV5⟩ : ∃ V5, V5 = v4.alloc (.cells #[.int .i64 bR.cl, .int .i64 bR.ix, .int .i64 bR.k, .string bR.p, .int .i64 bR.o, .int .i64 bR.n, .int .i64 bR.i, .string bR.g, .int .i64 bR.e, .int .i64 bR.rk, .int .i64 bR.z, .int .i64 bR.wh, .int .i64 bR.id, .string bR.x, .slice bR.A bR.N.length bR.c, .bool bR.fin, .int .i64 bR.ca, .int .i64 bR.ma, .int .i64 bR.re, .int .i64 aR.cl, .int .i64 aR.ix, .int .i64 aR.k, .string aR.p, .int .i64 aR.o, .int .i64 aR.n, .int .i64 aR.i, .string aR.g, .int .i64 aR.e, .int .i64 aR.rk, .int .i64 aR.z, .int .i64 aR.wh, .int .i64 aR.id, .string aR.x, .slice aR.A aR.N.length aR.c, .bool aR.fin, .int .i64 aR.ca, .int .i64 aR.ma, .int .i64 aR.re] 32) := ⟨_, rfl⟩
  have HT5 : Hid (Two V5 v4.heap.size bR aR) := Lib.hid (by rw [hV5]; exact two_new v4 bR aR)
  have HBn5 : Hid (Below v4.heap.size v4 V5) := Lib.hid (by rw [hV5]; exact (Below.refl _ _).alloc (Nat.le_refl _) _)
  have HV5 := Lib.hid hV5
  clear hV5
  have HO5 := Lib.hid (kept_ba v4.heap.size 2 V5 HT5.out)
  go_wp2_with (first | (refine wl_any rfl (by kernel_rfl) rfl (HF.out v4 HB4.out).1 ?_) | (refine wl_any rfl (by kernel_rfl) rfl (HF.out v4 HB4.out).2.1 ?_) | (rw [← HV5.out]; clear HV5; refine HO5.out.mono ?_))
  rintro e v5 ⟨rfl, hb5⟩
  have HBe : Hid (Below w.heap.size w v5) := Lib.hid (HB5.out.trans ((HB4.out.trans ((HBn5.out.trans (hb5.mono HBn5.out.size)).mono HB4.out.size)).mono HB5.out.size))
  clear hb5 HO5 HT5 HBn5
  go_wp2_with fail
  go_ret
  exact ⟨rfl, HBe.out⟩
end Go.Proofs.YtkigkdiphhecaaaGreat.tal
