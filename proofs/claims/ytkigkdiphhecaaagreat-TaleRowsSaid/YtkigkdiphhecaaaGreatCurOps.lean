/- A table's Open, Move, Close. Condition: the table lies in memory. -/
import Derived.Test.YtkigkdiphhecaaaGreatCurMem
namespace Go.Proofs.YtkigkdiphhecaaaGreat.cur
set_option maxRecDepth 100000
open Go.RowKit Go.Proofs.YtkigkdiphhecaaaGreat.words Go.Proofs.YtkigkdiphhecaaaGreat.lru Go.Proofs.YtkigkdiphhecaaaGreat.mpi

section
variable {w w' : World} {B t m : Nat} {r n n' : Int} {L L' : Cs}
theorem Tb.stored (h : Tb w B t m r n L) (hm : MapL w' Tryz.prog 3 m (cR L')) (ht : Tn (fun j => j = m) w w') : Tb w' B t m r n L' :=
  ⟨h.1, h.2.1, (ht.block t (lt_of_some h.2.2.1) h.ne).trans h.2.2.1, hm⟩
theorem Tb.opened (h : Tb w B t m r n L) (hw : w' = w.setCell ⟨t, 1, none⟩ (.int .i64 n')) : Tb w' B t m r n' L ∧ Tn (fun j => j = t) w w' := by
  have ht : Tn (fun j => j = t) w w' := by rw [hw]; exact (Tn.refl (fun j => j = t) w).setCell (p := ⟨t, 1, none⟩) (.inr rfl) _
  refine ⟨⟨h.1, h.2.1, ?_, h.2.2.2.of_block (ht.block m h.2.2.2.lt (fun e => h.ne e.symm))⟩, ht⟩
  rw [hw]
  exact heap_setCell_same w t 1 _ _ _ h.2.2.1
theorem below_drewN (w : World) (n : Nat) : Below w.heap.size w (w.drewN n) := ⟨rfl, rfl, rfl, Nat.le_refl _, fun _ _ => rfl⟩
end
section
variable (B t m : Nat) (r n : Int) (L : Cs) (x : Int) (w : World)
theorem open_full (ep : Int) (dr : ByteArray) (h : Tb w B t m r n L) (hr : r ≤ (L.length : Int)) :
    Calls Tryz.prog 71 #[.pointer (some ⟨t, 0, none⟩), .int .i64 ep, .string dr] w fun e w' => e = .returned (.tuple #[.int .i64 0, .int .i64 7]) ∧ ∃ k, w' = w.drewN k := by
  have d0 := cell_of_blk h.2.2.1 0
  have d2 := cell_of_blk h.2.2.1 2
  have hl : ∀ ty k, (Builtin.len_ #[65] ty #[.map (some m)]).run Tryz.prog (w.drewN k) = .ok (.int .i64 (L.length : Int)) (w.drewN k) := fun ty k => by
    have := (h.2.2.2.of_block (w' := w.drewN k) rfl).len Tryz.underlying65 ty
    rwa [cR_len] at this
  have hl0 : ∀ ty, (Builtin.len_ #[65] ty #[.map (some m)]).run Tryz.prog w = .ok (.int .i64 (L.length : Int)) w := fun ty => by
    have := h.2.2.2.len Tryz.underlying65 ty
    rwa [cR_len] at this
  have hd : decide (r ≤ (L.length : Int)) = true := by simpa using hr
  clear h
  go_enter Tryz.func71, Tryz.ntmps71
  go_upto_region 1 with fail
  go_quiet (fail)
  go_wp2
  go_ret2
  exact ⟨rfl, _, rfl⟩
def OpenIn (w : World) (B t m : Nat) (r n ep : Int) (dr : ByteArray) (L : Cs) (e : Ending) (w' : World) : Prop := e = .returned (.tuple #[.int .i64 (n + 1), .int .i64 0]) ∧ Kept w B t m r (n + 1) (L ++ [(n + 1, ⟨ep, dr, 0⟩)]) w'
set_option maxHeartbeats 800000 in
theorem open_yes (ep : Int) (dr : ByteArray) (h : Tb w B t m r n L) (hr : (L.length : Int) < r) (hl9 : L.length ≤ 2000) (hn0 : 0 ≤ n) (hn : n ≤ 1000000) (hno : valC L (n + 1) = none) :
    Calls Tryz.prog 71 #[.pointer (some ⟨t, 0, none⟩), .int .i64 ep, .string dr] w (OpenIn w B t m r n ep dr L) := by
  have d0 := cell_of_blk h.2.2.1 0
  have d2 := cell_of_blk h.2.2.1 2
  have hl : ∀ ty k, (Builtin.len_ #[65] ty #[.map (some m)]).run Tryz.prog (w.drewN k) = .ok (.int .i64 (L.length : Int)) (w.drewN k) := fun ty k => by
    have := (h.2.2.2.of_block (w' := w.drewN k) rfl).len Tryz.underlying65 ty
    rwa [cR_len] at this
  have hl0 : ∀ ty, (Builtin.len_ #[65] ty #[.map (some m)]).run Tryz.prog w = .ok (.int .i64 (L.length : Int)) w := fun ty => by
    have := h.2.2.2.len Tryz.underlying65 ty
    rwa [cR_len] at this
  have hd : decide (r ≤ (L.length : Int)) = false := by simp; omega
  obtain ⟨n1, hn1⟩ : ∃ n1, n1 = n + 1 := ⟨_, rfl⟩
  have hwr : IntKind.i64.wrap (n + 1) = n1 := by rw [hn1]; exact IntWalk.i64_in _ (by omega)
  have hx : Fits n1 := fits_of (by omega) (by omega)
  rw [← hn1] at hno
  have H := Lib.hid h
  have HX := Lib.hid hx
  have HNO : Hid (valP (cR L) n1 = none) := Lib.hid (by rw [cR_val, hno]; rfl)
  have HLL : Hid ((cR L).length < maxLen) := Lib.hid (by rw [cR_len]; simp only [maxLen]; omega)
  have HN1 := Lib.hid hn1
  clear h hr hn hno hn1 hx
  go_enter Tryz.func71, Tryz.ntmps71
  go_upto_region 1 with fail
  go_quiet (fail)
  obtain ⟨w1, hw1⟩ : ∃ w1, w1 = w.drewN nq := ⟨_, rfl⟩
  rw [← hw1]
  have ht1 : Tn (fun _ => False) w w1 := by rw [hw1]; exact (Tn.refl _ _).drewN nq
  have h1 := H.out.quiet ht1
  have e1 := cell_of_blk h1.2.2.1 1
  have f1 := free_of_blk h1.2.2.1 1
  obtain ⟨w2, hw2⟩ : ∃ w2, w2 = w1.setCell ⟨t, 1, none⟩ (.int .i64 n1) := ⟨_, rfl⟩
  obtain ⟨k1, k2⟩ := h1.opened hw2
  have HT2 := Lib.hid k1
  have HTN2 : Hid (Tn (Bk t m) w w2) := Lib.hid ((ht1.mono fun _ h => h.elim).trans (k2.mono fun j hj => .inl hj))
  have a1 := cell_of_blk k1.2.2.1 1
  have a2 := cell_of_blk k1.2.2.1 2
  have HW2 := Lib.hid hw2
  clear ht1 h1 k1 k2 hw1 hw2 hl hl0 d0 d2
  go_upto_region 4 with fail
  rw [← HW2.out]
  clear e1 f1
  go_still_tail 11, (by kernel_rfl)
  change wpList _ _ _ _ _ w2.drew
  generalize hw3 : w2.drew = w3
  have ht3 : Tn (fun _ => False) w2 w3 := by rw [← hw3]; exact (Tn.refl _ _).drew
  have HT3 := Lib.hid (HT2.out.quiet ht3)
  have HTN3 : Hid (Tn (Bk t m) w w3) := Lib.hid (HTN2.out.trans (ht3.mono fun _ h => h.elim))
  clear ht3 hw3 a1 a2
  go_wp2_with (at_mapUpdate; refine wpList_new rfl _ _ _ 65 rfl 3 97 Tryz.underlying3 Tryz.underlying65 m (cR L) rfl HT3.out.2.2.2 HLL.out n1 (curV ⟨ep, dr, 0⟩) rfl rfl HX.out HNO.out ?_; intro w4 hm4 ht4; have hT4 := HT3.out.stored (L' := L ++ [(n1, ⟨ep, dr, 0⟩)]) (by rw [cR_snoc]; exact hm4) ht4; have b1 := cell_of_blk hT4.2.2.1 1; have HE : Hid (OpenIn w B t m r n ep dr L (.returned (.tuple #[.int .i64 n1, .int .i64 0])) w4) := Lib.hid ⟨by rw [HN1.out], by rw [← HN1.out]; exact ⟨hT4, HTN3.out.trans (ht4.mono fun j hj => .inr hj)⟩⟩; clear hT4 hm4 ht4)
  go_ret2
  exact HE.out

def GoneC (w : World) (k : Int) (e : Ending) (w' : World) : Prop := e = .returned (.int .i64 k) ∧ Below w.heap.size w w'
theorem move_no (nn : Int) (h : Tb w B t m r n L) (hx : Fits x) (hno : valC L x = none) :
    Calls Tryz.prog 73 #[.pointer (some ⟨t, 0, none⟩), .int .i64 x, .int .i64 nn] w (GoneC w 9) := by
  have hg := get_any B t m r n L x w h hx
  have ek : gotE L x = 9 := by unfold gotE; rw [hno]; rfl
  rw [ek] at hg
  have HG := Lib.hid hg
  clear h hg hno ek hx
  go_enter Tryz.func73, Tryz.ntmps73
  go_wp2_with fail
  refine HG.out.mono ?_
  rintro e w1 ⟨rfl, hb1⟩
  have HB := Lib.hid hb1
  clear hb1
  go_wp2
  go_ret
  exact ⟨rfl, HB.out.trans ((Below.refl _ _).alloc HB.out.size _)⟩
theorem close_no (h : Tb w B t m r n L) (hx : Fits x) (hno : valC L x = none) :
    Calls Tryz.prog 53 #[.pointer (some ⟨t, 0, none⟩), .int .i64 x] w (GoneC w 9) := by
  have hg := get_any B t m r n L x w h hx
  have ek : gotE L x = 9 := by unfold gotE; rw [hno]; rfl
  rw [ek] at hg
  have HG := Lib.hid hg
  clear h hg hno ek hx
  go_enter Tryz.func53, Tryz.ntmps53
  go_wp2_with fail
  refine HG.out.mono ?_
  rintro e w1 ⟨rfl, hb1⟩
  have HB := Lib.hid hb1
  clear hb1
  go_wp2
  go_ret
  exact ⟨rfl, HB.out.trans ((Below.refl _ _).alloc HB.out.size _)⟩
def KeptIn (w : World) (B t m : Nat) (r n : Int) (L : Cs) (e : Ending) (w' : World) : Prop := e = .returned (.int .i64 0) ∧ Kept w B t m r n L w'
theorem close_yes (c : Cu) (h : Tb w B t m r n L) (hx : Fits x) (hyes : valC L x = some c) :
    Calls Tryz.prog 53 #[.pointer (some ⟨t, 0, none⟩), .int .i64 x] w (KeptIn w B t m r n (delC L x)) := by
  have hg := get_any B t m r n L x w h hx
  have ek : gotE L x = 0 := by unfold gotE; rw [hyes]; rfl
  have ec : gotC L x = c := by unfold gotC; rw [hyes]; rfl
  rw [ek, ec] at hg
  have HG := Lib.hid hg
  have H := Lib.hid h
  have HX := Lib.hid hx
  clear h hg hyes ek ec hx
  go_enter Tryz.func53, Tryz.ntmps53
  go_wp2_with fail
  refine HG.out.mono ?_
  rintro e w1 ⟨rfl, hb1⟩
  obtain ⟨W2, hW2⟩ : ∃ W2, W2 = w1.alloc (.cells #[.int .i64 c.ep, .string c.dr, .int .i64 c.at_] 97) := ⟨_, rfl⟩
  have hb2 : Below w.heap.size w W2 := by rw [hW2]; exact hb1.trans ((Below.refl _ _).alloc hb1.size _)
  have hT2 := H.out.later hb2
  have d2 := cell_of_blk hT2.2.2.1 2
  have HT2 := Lib.hid hT2
  have HB2 := Lib.hid hb2
  have HW2 := Lib.hid hW2
  clear hb1 hb2 hT2 hW2
  go_upto_region 2 with fail
  rw [← HW2.out]
  go_wp2_with (at_delete; refine wpList_drop rfl _ _ 65 3 rfl 97 Tryz.underlying3 Tryz.underlying65 B (.map (some m)) (cR L) rfl (.inr ⟨m, rfl, HT2.out.2.1, HT2.out.2.2.2⟩) x rfl HX.out ?_; intro w3 hm3 ht3; have HM3 := Lib.hid hm3; have HT3 := Lib.hid ht3; clear hm3 ht3)
  have hm3 : MapL w3 Tryz.prog 3 m (cR (delC L x)) := by
    rcases HM3.out with ⟨h, _⟩ | ⟨b, h, _, hm⟩
    · cases h
    · injection h with h
      injection h with h
      subst h
      rw [cR_del]
      exact hm
  have ht3 : Tn (fun j => j = m) W2 w3 := HT3.out.mono fun j hj => by
    unfold At at hj
    injection hj with hj
    injection hj with hj
    exact hj.symm
  have HE : Hid (KeptIn w B t m r n (delC L x) (.returned (.int .i64 0)) w3) := Lib.hid ⟨rfl, HT2.out.stored hm3 ht3, (Tn.of_below HB2.out _).trans (ht3.mono fun j hj => .inr hj)⟩
  clear hm3 ht3
  go_ret
  exact HE.out
set_option maxHeartbeats 800000 in
theorem move_yes (nn a' : Int) (c : Cu) (h : Tb w B t m r n L) (hx : Fits x) (hyes : valC L x = some c) (ha : IntKind.i64.wrap (c.at_ + nn) = a') (hl9 : L.length ≤ 2000) :
    Calls Tryz.prog 73 #[.pointer (some ⟨t, 0, none⟩), .int .i64 x, .int .i64 nn] w (KeptIn w B t m r n (setC L x ⟨c.ep, c.dr, a'⟩)) := by
  have hg := get_any B t m r n L x w h hx
  have ek : gotE L x = 0 := by unfold gotE; rw [hyes]; rfl
  have ec : gotC L x = c := by unfold gotC; rw [hyes]; rfl
  rw [ek, ec] at hg
  have HG := Lib.hid hg
  have H := Lib.hid h
  have HX := Lib.hid hx
  have HY : Hid ((valP (cR L) x).isSome = true) := Lib.hid (by rw [cR_val, hyes]; rfl)
  have HLL : Hid ((cR L).length < maxLen) := Lib.hid (by rw [cR_len]; simp only [maxLen]; omega)
  clear h hg hyes ek ec hx hl9
  go_enter Tryz.func73, Tryz.ntmps73
  go_wp2_with fail
  refine HG.out.mono ?_
  rintro e w1 ⟨rfl, hb1⟩
  obtain ⟨W2, hW2⟩ : ∃ W2, W2 = w1.alloc (.cells #[.int .i64 c.ep, .string c.dr, .int .i64 c.at_] 97) := ⟨_, rfl⟩
  have hb2 : Below w.heap.size w W2 := by rw [hW2]; exact hb1.trans ((Below.refl _ _).alloc hb1.size _)
  have hk2 : W2.heap[w1.heap.size]? = some (.cells #[.int .i64 c.ep, .string c.dr, .int .i64 c.at_] 97 (0, 0)) := by rw [hW2]; exact heap_alloc_new w1 _
  have u2 := cell_of_blk hk2 2
  have fu2 := free_of_blk hk2 2
  have hT2 := H.out.later hb2
  obtain ⟨W3, hW3⟩ : ∃ W3, W3 = W2.setCell ⟨w1.heap.size, 2, none⟩ (.int .i64 a') := ⟨_, rfl⟩
  have hk3 : W3.heap[w1.heap.size]? = some (.cells #[.int .i64 c.ep, .string c.dr, .int .i64 a'] 97 (0, 0)) := by rw [hW3]; exact heap_setCell_same W2 _ 2 _ _ _ hk2
  have ht3 : Tn (fun j => j = w1.heap.size) W2 W3 := by rw [hW3]; exact (Tn.refl (fun j => j = w1.heap.size) W2).setCell (p := ⟨w1.heap.size, 2, none⟩) (.inr rfl) _
  have hb3 : Below w.heap.size w W3 := ((Tn.of_below hb2 (fun j => j = w1.heap.size)).trans ht3).below (fun k hk => by have := hb1.size; omega) (Nat.le_refl _)
  have hT3 := H.out.later hb3
  have v0 := cell_of_blk hk3 0
  have v1 := cell_of_blk hk3 1
  have v2 := cell_of_blk hk3 2
  have d2 := cell_of_blk hT3.2.2.1 2
  have HT3 := Lib.hid hT3
  have HB3 := Lib.hid hb3
  have HW2 := Lib.hid hW2
  have HW3 := Lib.hid hW3
  clear hb1 hb2 hT2 hW2 hk2 hT3 hb3 hk3 ht3 hW3
  go_upto_region 2 with fail
  rw [← HW2.out]
  go_upto_region 5 with fail
  rw [← HW3.out]
  clear u2 fu2
  go_still_tail 6, (by kernel_rfl)
  change wpList _ _ _ _ _ W3.drew
  generalize hw4 : W3.drew = w4
  have ht4 : Tn (fun _ => False) W3 w4 := by rw [← hw4]; exact (Tn.refl _ _).drew
  have HT4 := Lib.hid (HT3.out.quiet ht4)
  have HTN4 : Hid (Tn (Bk t m) w w4) := Lib.hid ((Tn.of_below HB3.out _).trans (ht4.mono fun _ h => h.elim))
  clear ht4 hw4 v0 v1 v2 d2
  go_wp2_with (at_mapUpdate; refine wpList_old rfl _ _ _ 65 rfl 3 97 Tryz.underlying3 Tryz.underlying65 m (cR L) rfl HT4.out.2.2.2 HLL.out x (curV ⟨c.ep, c.dr, a'⟩) rfl rfl HX.out HY.out ?_; intro w5 hm5 ht5; have HE : Hid (KeptIn w B t m r n (setC L x ⟨c.ep, c.dr, a'⟩) (.returned (.int .i64 0)) w5) := Lib.hid ⟨rfl, HT4.out.stored (by rw [cR_set]; exact hm5) ht5, HTN4.out.trans (ht5.mono fun j hj => .inr hj)⟩; clear hm5 ht5)
  go_ret
  exact HE.out
end
end Go.Proofs.YtkigkdiphhecaaaGreat.cur
