/- A cache's New, Len, Get, Put, where values are structs. Condition: the cache lies in memory. -/
import Derived.Test.YthhcbmljckgncaaLrdPlace
import Derived.Test.YthhcbmljckgncaaLrvBox
import Derived.Lib.MinMax
namespace Go.Proofs.Ythhcbmljckgncaa.lrd
set_option maxRecDepth 100000
open Go.RowKit Go.Proofs.Ythhcbmljckgncaa.words Go.Proofs.Ythhcbmljckgncaa.lru

theorem new_any (r : Nat) (room : Int) (w : World) (hr : (r : Int) = max room 1) :
    Calls Try.prog 57 #[.int .i64 room] w fun e w' => e = .returned (.pointer (some ⟨w.heap.size, 0, none⟩)) ∧ w' = w.alloc (.cells #[.int .i64 (r : Int), .slice none 0 0] 125) := by
  have hm : max room 1 = (r : Int) := hr.symm
  clear hr
  go_enter Try.func57, Try.ntmps57
  go_wp2
  go_ret
  exact ⟨rfl, rfl⟩
theorem new_lru (w : World) (B r : Nat) (hB : B ≤ w.heap.size) : Lru (w.alloc (.cells #[.int .i64 (r : Int), .slice none 0 0] 125)) B w.heap.size none r [] :=
  ⟨hB, .slice none 0 0, rfl, heap_alloc_new w _, World.ownsRow_nil _ _ _ _⟩
theorem len_any (B g : Nat) (bo : Option Nat) (r : Nat) (L : List (ByteArray × Ent)) (w : World) (h : Lru w B g bo r L) :
    Calls Try.prog 48 #[.pointer (some ⟨g, 0, none⟩)] w fun e w' => e = .returned (.int .i64 (L.length : Int)) ∧ w = w' := by
  obtain ⟨A, c, hc⟩ := h.cells
  have c1 := hc.c1
  clear hc h
  go_enter Try.func48, Try.ntmps48
  go_wp2
  go_ret
  exact ⟨rfl, rfl⟩
/-- What Get answers: the value, or the zero one. -/
def gotI (L : List (ByteArray × Ent)) (k : ByteArray) : Ent := (val L k).getD e0
def gotB (L : List (ByteArray × Ent)) (k : ByteArray) : Bool := (val L k).isSome
def Got (w : World) (B g r : Nat) (bo : Option Nat) (L : List (ByteArray × Ent)) (k : ByteArray) (e : Ending) (w' : World) : Prop :=
  e = .returned (.tuple #[.agg #[.int .i64 (gotI L k).ep, .bool (gotI L k).th, .int .i64 (gotI L k).kd, .int .i64 (gotI L k).lv, .int .i64 (gotI L k).nd, .slice (gotI L k).da (gotI L k).dn (gotI L k).dc, .string (gotI L k).tg], .bool (gotB L k)]) ∧ Left w B g r bo (getL L k) w'
def PutIn (w : World) (B g r : Nat) (bo : Option Nat) (L : List (ByteArray × Ent)) (k : ByteArray) (v : Ent) (e : Ending) (w' : World) : Prop :=
  e = .returned (.tuple #[.string (goneK L r k (⟨#[]⟩ : ByteArray)), .bool (goneB L r k)]) ∧ Left w B g r bo (putL L r k v) w'
theorem Left.of_same {w w1 w' : World} {B g r : Nat} {bo : Option Nat} {L : List (ByteArray × Ent)} (h1 : Tn (fun _ => False) w w1) (h : Lru w' B g bo r L) (h2 : Tn (Its g bo) w1 w') : Left w B g r bo L w' :=
  ⟨⟨bo, h, fun _ hb => .inl hb⟩, (h1.mono fun _ hc => hc.elim).trans h2⟩
/-- A block of the call's own, beside the cache, is written. -/
theorem Left.over {w W0 w3 w4 : World} {B g r q : Nat} {bo : Option Nat} {L L0 : List (ByteArray × Ent)} (h : Left W0 B g r bo L w3) (h0 : Below w.heap.size w W0) (hl : Lru w B g bo r L0) (hq : w.heap.size ≤ q) (hq0 : q < W0.heap.size) (h4 : Tn (fun k => k = q) w3 w4) : Left w B g r bo L w4 := by
  obtain ⟨bo', h1, h2⟩ := h.ex
  have hlt := hl.lt
  refine ⟨⟨bo', h1.tn h4 fun k hk e => ?_, fun b hb => (h2 b hb).imp_right fun hx => Nat.le_trans h0.size hx⟩, ?_⟩
  · subst e
    rcases hk with rfl | hk
    · omega
    · rcases h2 k hk.symm with hb | hb
      · have := (hlt.2.2 k hb).2.1; omega
      · omega
  · have h3 : Tn (Its g bo) w w3 := (Tn.of_below h0 _).trans h.tn
    exact h3.then h4 fun k hk e => by omega
/-- Behind an alloc of the call's own. -/
theorem Left.under {w W0 w3 : World} {B g r : Nat} {bo : Option Nat} {L : List (ByteArray × Ent)} (h : Left W0 B g r bo L w3) (h0 : Below w.heap.size w W0) : Left w B g r bo L w3 := by
  obtain ⟨bo', h1, h2⟩ := h.ex
  exact ⟨⟨bo', h1, fun b hb => (h2 b hb).imp_right fun hx => Nat.le_trans h0.size hx⟩, (Tn.of_below h0 _).trans h.tn⟩
set_option maxHeartbeats 3200000 in
theorem get_any (B g : Nat) (bo : Option Nat) (r : Nat) (L : List (ByteArray × Ent)) (k : ByteArray) (w : World) (h : Lru w B g bo r L) (hok : Ok L r) (hl : L.length ≤ 1000) :
    Calls Try.prog 58 #[.pointer (some ⟨g, 0, none⟩), .string k] w (Got w B g r bo L k) := by
  obtain ⟨W0, hW0⟩ : ∃ W0, W0 = w.alloc (.cells #[.int .i64 0, .bool false, .int .i64 0, .int .i64 0, .int .i64 0, .slice none 0 0, .string ⟨#[]⟩] 50) := ⟨_, rfl⟩
  have hb0 : Below w.heap.size w W0 := by rw [hW0]; exact (Below.refl _ _).alloc (Nat.le_refl _) _
  have hz0 : W0.heap[w.heap.size]? = some (.cells #[.int .i64 0, .bool false, .int .i64 0, .int .i64 0, .int .i64 0, .slice none 0 0, .string ⟨#[]⟩] 50 (0, 0)) := by rw [hW0]; exact heap_alloc_new w _
  have h0 : Lru W0 B g bo r L := h.quiet (Tn.of_below hb0 _)
  have hq0 : w.heap.size < W0.heap.size := lt_of_some hz0
  rcases there L k with ⟨i, x, hi⟩ | hn
  · obtain ⟨hv, hg⟩ := got_at hok hi
    have hlt : i < L.length := (List.getElem?_eq_some_iff.1 hi).1
    have HAT := Lib.hid (at_yes B g i bo r L k x W0 h0 hi hok.nd hl)
    have e1 : gotI L k = x := by unfold gotI; rw [hv]; rfl
    have e2 : gotB L k = true := by unfold gotB; rw [hv]; rfl
    unfold Got
    rw [e1, e2, hg]
    have H := Lib.hid h
    have H0 := Lib.hid h0
    have HI := Lib.hid hi
    have HB0 := Lib.hid hb0
    have HZ0 := Lib.hid hz0
    have HQ0 := Lib.hid hq0
    have HW0 := Lib.hid hW0
    have i0 : ¬ (i : Int) < 0 := by omega
    have i00 : (0 : Int) ≤ (i : Int) := by omega
    have i1 : (i : Int) < (L.length : Int) := by omega
    clear h h0 hv hg hi hok e1 e2 hb0 hz0 hW0 hq0
    go_enter Try.func58, Try.ntmps58
    go_upto_region 1 with fail
    rw [← HW0.out]
    go_wp2_with fail
    refine HAT.out.mono ?_
    rintro e w1 ⟨rfl, ht⟩
    have h1 := H0.out.quiet ht
    obtain ⟨A, c, hc⟩ := h1.cells
    obtain ⟨b, hA, hbl, d0, d1, d2, d3, d4, d5, d6, d7⟩ := hc.at_ i (k, x) HI.out
    subst hA
    have c1 := hc.c1
    obtain ⟨W2, hW2⟩ : ∃ W2, W2 = w1.alloc (.cells #[.string k, .int .i64 x.ep, .bool x.th, .int .i64 x.kd, .int .i64 x.lv, .int .i64 x.nd, .slice x.da x.dn x.dc, .string x.tg] 131) := ⟨_, rfl⟩
    have ht2 : Tn (fun _ => False) w1 W2 := by rw [hW2]; exact (Tn.refl _ _).alloc _
    have hbk : W2.heap[w1.heap.size]? = some (.cells #[.string k, .int .i64 x.ep, .bool x.th, .int .i64 x.kd, .int .i64 x.lv, .int .i64 x.nd, .slice x.da x.dn x.dc, .string x.tg] 131 (0, 0)) := by rw [hW2]; exact heap_alloc_new w1 _
    have q0 := cell_of_blk hbk 0
    have q1 := cell_of_blk hbk 1
    have q2 := cell_of_blk hbk 2
    have q3 := cell_of_blk hbk 3
    have q4 := cell_of_blk hbk 4
    have q5 := cell_of_blk hbk 5
    have q6 := cell_of_blk hbk 6
    have q7 := cell_of_blk hbk 7
    have HAH := Lib.hid (ahead_any B g i bo r L (k, x) W2 (h1.quiet ht2) hlt hl)
    have HT2 := Lib.hid ((ht.trans ht2))
    have HS1 := Lib.hid ht.size
    have HW2 := Lib.hid hW2
    have HBK := Lib.hid hbk
    clear hW2 hbk hc h1 ht ht2
    go_upto_region 6 with fail
    rw [← HW2.out]
    go_wp2_with fail
    refine HAH.out.mono ?_
    rintro e w3 ⟨⟨u, rfl⟩, hf1, hf2⟩
    have hE := Left.of_same HT2.out hf1 hf2
    have hfar : ∀ q, w.heap.size ≤ q → ¬ Its g bo q := fun q hq hc => by
      rcases hc with hc | hc
      · have := H.out.lt.2.1; omega
      · have := H.out.lt.2.2 _ hc.symm; omega
    have hq : w3.heap[w1.heap.size]? = some (.cells #[.string k, .int .i64 x.ep, .bool x.th, .int .i64 x.kd, .int .i64 x.lv, .int .i64 x.nd, .slice x.da x.dn x.dc, .string x.tg] 131 (0, 0)) := (hf2.block _ (lt_of_some HBK.out) (hfar _ (Nat.le_trans (Nat.le_of_lt HQ0.out) HS1.out))).trans HBK.out
    have hzb : w3.heap[w.heap.size]? = some (.cells #[.int .i64 0, .bool false, .int .i64 0, .int .i64 0, .int .i64 0, .slice none 0 0, .string ⟨#[]⟩] 50 (0, 0)) := (hE.tn.block _ HQ0.out (hfar _ (Nat.le_refl _))).trans HZ0.out
    have s0 := cell_of_blk hq 0
    have s1 := cell_of_blk hq 1
    have s2 := cell_of_blk hq 2
    have s3 := cell_of_blk hq 3
    have s4 := cell_of_blk hq 4
    have s5 := cell_of_blk hq 5
    have s6 := cell_of_blk hq 6
    have s7 := cell_of_blk hq 7
    have z0 := cell_of_blk hzb 0
    have fz0 := free_of_blk hzb 0
    have z1 := cell_of_blk hzb 1
    have fz1 := free_of_blk hzb 1
    have z2 := cell_of_blk hzb 2
    have fz2 := free_of_blk hzb 2
    have z3 := cell_of_blk hzb 3
    have fz3 := free_of_blk hzb 3
    have z4 := cell_of_blk hzb 4
    have fz4 := free_of_blk hzb 4
    have z5 := cell_of_blk hzb 5
    have fz5 := free_of_blk hzb 5
    have z6 := cell_of_blk hzb 6
    have fz6 := free_of_blk hzb 6
    have HZB := Lib.hid hzb
    have HE := Lib.hid hE
    clear hE hf1 hf2 hq hzb hfar
    go_wp2_with fail
    obtain ⟨W9, hW9⟩ : ∃ W9, W9 = (((((((w3.setCell ⟨w.heap.size, 0, none⟩ (.int .i64 x.ep)).setCell ⟨w.heap.size, 1, none⟩ (.bool x.th)).setCell ⟨w.heap.size, 2, none⟩ (.int .i64 x.kd)).setCell ⟨w.heap.size, 3, none⟩ (.int .i64 x.lv)).setCell ⟨w.heap.size, 4, none⟩ (.int .i64 x.nd)).setCell ⟨w.heap.size, 5, none⟩ (.slice x.da x.dn x.dc)).setCell ⟨w.heap.size, 6, none⟩ (.string x.tg)) := ⟨_, rfl⟩
    have h9 : W9 = setsV w3 w.heap.size 0 [.int .i64 x.ep, .bool x.th, .int .i64 x.kd, .int .i64 x.lv, .int .i64 x.nd, .slice x.da x.dn x.dc, .string x.tg] := hW9
    rw [← hW9]
    have hbk9 : W9.heap[w.heap.size]? = some (.cells #[.int .i64 x.ep, .bool x.th, .int .i64 x.kd, .int .i64 x.lv, .int .i64 x.nd, .slice x.da x.dn x.dc, .string x.tg] 50 (0, 0)) := by rw [h9]; exact setsV_all HZB.out rfl
    have hE9 : Left w B g r bo ((k, x) :: (L.take i ++ L.drop (i + 1))) W9 := HE.out.over HB0.out H.out (Nat.le_refl _) HQ0.out (by rw [h9]; exact setsV_tn (S := fun k => k = w.heap.size) _ (.inr rfl) _ _ _ (Tn.refl _ _))
    have y0 := cell_of_blk hbk9 0
    have y1 := cell_of_blk hbk9 1
    have y2 := cell_of_blk hbk9 2
    have y3 := cell_of_blk hbk9 3
    have y4 := cell_of_blk hbk9 4
    have y5 := cell_of_blk hbk9 5
    have y6 := cell_of_blk hbk9 6
    exact bodyPost_ret (v := .tuple #[.agg #[.int .i64 x.ep, .bool x.th, .int .i64 x.kd, .int .i64 x.lv, .int .i64 x.nd, .slice x.da x.dn x.dc, .string x.tg], .bool true]) (by simp [results, Try.results58, go_sem, y0, y1, y2, y3, y4, y5, y6]) rfl ⟨rfl, hE9⟩
  · obtain ⟨hv, hg⟩ := get_none hn
    have HAT := Lib.hid (at_no B g bo r L k W0 h0 hn hl)
    have e1 : gotI L k = e0 := by unfold gotI; rw [hv]; rfl
    have e2 : gotB L k = false := by unfold gotB; rw [hv]; rfl
    unfold Got
    rw [e1, e2, hg]
    have H := Lib.hid h
    have H0 := Lib.hid h0
    have HB0 := Lib.hid hb0
    have HZ0 := Lib.hid hz0
    have HQ0 := Lib.hid hq0
    have HW0 := Lib.hid hW0
    clear h h0 hv hg hok e1 e2 hn hb0 hz0 hW0 hq0
    go_enter Try.func58, Try.ntmps58
    go_upto_region 1 with fail
    rw [← HW0.out]
    go_wp2_with fail
    refine HAT.out.mono ?_
    rintro e w1 ⟨rfl, ht⟩
    obtain ⟨W2, hW2⟩ : ∃ W2, W2 = w1.alloc (.cells #[.int .i64 0, .bool false, .int .i64 0, .int .i64 0, .int .i64 0, .slice none 0 0, .string ⟨#[]⟩] 50) := ⟨_, rfl⟩
    have ht2 : Tn (fun _ => False) W0 W2 := by rw [hW2]; exact ht.alloc _
    have hE : Left W0 B g r bo L W2 := Left.of_same ht2 (H0.out.quiet ht2) (Tn.refl _ _)
    have hzb : W2.heap[w.heap.size]? = some (.cells #[.int .i64 0, .bool false, .int .i64 0, .int .i64 0, .int .i64 0, .slice none 0 0, .string ⟨#[]⟩] 50 (0, 0)) := (ht2.block _ HQ0.out (fun hc => hc)).trans HZ0.out
    have hbk : W2.heap[w1.heap.size]? = some (.cells #[.int .i64 0, .bool false, .int .i64 0, .int .i64 0, .int .i64 0, .slice none 0 0, .string ⟨#[]⟩] 50 (0, 0)) := by rw [hW2]; exact heap_alloc_new w1 _
    have q0 := cell_of_blk hbk 0
    have q1 := cell_of_blk hbk 1
    have q2 := cell_of_blk hbk 2
    have q3 := cell_of_blk hbk 3
    have q4 := cell_of_blk hbk 4
    have q5 := cell_of_blk hbk 5
    have q6 := cell_of_blk hbk 6
    have z0 := cell_of_blk hzb 0
    have fz0 := free_of_blk hzb 0
    have z1 := cell_of_blk hzb 1
    have fz1 := free_of_blk hzb 1
    have z2 := cell_of_blk hzb 2
    have fz2 := free_of_blk hzb 2
    have z3 := cell_of_blk hzb 3
    have fz3 := free_of_blk hzb 3
    have z4 := cell_of_blk hzb 4
    have fz4 := free_of_blk hzb 4
    have z5 := cell_of_blk hzb 5
    have fz5 := free_of_blk hzb 5
    have z6 := cell_of_blk hzb 6
    have fz6 := free_of_blk hzb 6
    have HE := Lib.hid hE
    have HZB := Lib.hid hzb
    have HW2 := Lib.hid hW2
    clear hE ht ht2 hzb hbk hW2
    go_upto_region 4 with fail
    rw [← HW2.out]
    go_wp2_with fail
    obtain ⟨W9, hW9⟩ : ∃ W9, W9 = (((((((W2.setCell ⟨w.heap.size, 0, none⟩ (.int .i64 0)).setCell ⟨w.heap.size, 1, none⟩ (.bool false)).setCell ⟨w.heap.size, 2, none⟩ (.int .i64 0)).setCell ⟨w.heap.size, 3, none⟩ (.int .i64 0)).setCell ⟨w.heap.size, 4, none⟩ (.int .i64 0)).setCell ⟨w.heap.size, 5, none⟩ (.slice none 0 0)).setCell ⟨w.heap.size, 6, none⟩ (.string ⟨#[]⟩)) := ⟨_, rfl⟩
    have h9 : W9 = setsV W2 w.heap.size 0 [.int .i64 0, .bool false, .int .i64 0, .int .i64 0, .int .i64 0, .slice none 0 0, .string ⟨#[]⟩] := hW9
    rw [← hW9]
    have hbk9 : W9.heap[w.heap.size]? = some (.cells #[.int .i64 0, .bool false, .int .i64 0, .int .i64 0, .int .i64 0, .slice none 0 0, .string ⟨#[]⟩] 50 (0, 0)) := by rw [h9]; exact setsV_all HZB.out rfl
    have hE9 : Left w B g r bo L W9 := HE.out.over HB0.out H.out (Nat.le_refl _) HQ0.out (by rw [h9]; exact setsV_tn (S := fun k => k = w.heap.size) _ (.inr rfl) _ _ _ (Tn.refl _ _))
    have y0 := cell_of_blk hbk9 0
    have y1 := cell_of_blk hbk9 1
    have y2 := cell_of_blk hbk9 2
    have y3 := cell_of_blk hbk9 3
    have y4 := cell_of_blk hbk9 4
    have y5 := cell_of_blk hbk9 5
    have y6 := cell_of_blk hbk9 6
    exact bodyPost_ret (v := .tuple #[.agg #[.int .i64 0, .bool false, .int .i64 0, .int .i64 0, .int .i64 0, .slice none 0 0, .string ⟨#[]⟩], .bool false]) (by simp [results, Try.results58, go_sem, y0, y1, y2, y3, y4, y5, y6]) rfl ⟨rfl, hE9⟩
/-- Behind place and ahead. -/
theorem Left.front {w w1 w' : World} {B g r i : Nat} {bo bo1 : Option Nat} {L : List (ByteArray × Ent)} {p : ByteArray × Ent} (h1 : Tn (Its g bo) w w1) (hbo : ∀ b, bo1 = some b → bo = some b ∨ w.heap.size ≤ b) (hf : Front w1 B g i r bo1 L p w') : Left w B g r bo (p :: (L.take i ++ L.drop (i + 1))) w' :=
  ⟨⟨bo1, hf.1, hbo⟩, h1.then hf.2 fun k hk hs => by
    rcases hs with rfl | hs
    · exact .inl rfl
    · rcases hbo k hs.symm with h | h
      · exact .inr h.symm
      · omega⟩
set_option maxHeartbeats 3200000 in
theorem put_any (B g : Nat) (bo : Option Nat) (r : Nat) (L : List (ByteArray × Ent)) (k : ByteArray) (v : Ent) (w : World) (h : Lru w B g bo r L) (hok : Ok L r) (hl : L.length ≤ 900) (hB : B ≤ w.heap.size) :
    Calls Try.prog 59 #[.pointer (some ⟨g, 0, none⟩), .string (k), .agg #[.int .i64 v.ep, .bool v.th, .int .i64 v.kd, .int .i64 v.lv, .int .i64 v.nd, .slice v.da v.dn v.dc, .string v.tg]] w (PutIn w B g r bo L k v) := by
  unfold PutIn
  obtain ⟨W0, hW0⟩ : ∃ W0, W0 = w.alloc (.cells #[.int .i64 v.ep, .bool v.th, .int .i64 v.kd, .int .i64 v.lv, .int .i64 v.nd, .slice v.da v.dn v.dc, .string v.tg] 50) := ⟨_, rfl⟩
  have hb0 : Below w.heap.size w W0 := by rw [hW0]; exact (Below.refl _ _).alloc (Nat.le_refl _) _
  have hz0 : W0.heap[w.heap.size]? = some (.cells #[.int .i64 v.ep, .bool v.th, .int .i64 v.kd, .int .i64 v.lv, .int .i64 v.nd, .slice v.da v.dn v.dc, .string v.tg] 50 (0, 0)) := by rw [hW0]; exact heap_alloc_new w _
  have HU : Hid (∀ (L' : List (ByteArray × Ent)) (w3 : World), Left W0 B g r bo L' w3 → Left w B g r bo L' w3) := Lib.hid fun L' w3 hx => hx.under hb0
  have HBX : Hid (∀ (wr : World), Tn (Its g bo) W0 wr → wr.heap[w.heap.size]? = some (.cells #[.int .i64 v.ep, .bool v.th, .int .i64 v.kd, .int .i64 v.lv, .int .i64 v.nd, .slice v.da v.dn v.dc, .string v.tg] 50 (0, 0))) := Lib.hid fun wr hx => (hx.block _ (lt_of_some hz0) (fun hc => by
      rcases hc with hc | hc
      · have := h.lt.2.1; omega
      · have := h.lt.2.2 _ hc.symm; omega)).trans hz0
  have h' : Lru W0 B g bo r L := h.quiet (Tn.of_below hb0 _)
  have hB' : B ≤ W0.heap.size := Nat.le_trans hB hb0.size
  have HW0 := Lib.hid hW0
  clear hW0 hb0 hz0 h hB
  have h := h'
  have hB := hB'
  clear h' hB'
  rcases there L k with ⟨i, x, hi⟩ | hn
  · obtain ⟨e1, e2, e3⟩ := put_at hok hi v (⟨#[]⟩ : ByteArray)
    have hlt : i < L.length := (List.getElem?_eq_some_iff.1 hi).1
    have HAT := Lib.hid (at_yes B g i bo r L k x W0 h hi hok.nd (by omega))
    rw [e1, e2, e3]
    have H := Lib.hid h
    have i0 : ¬ (i : Int) < 0 := by omega
    clear h hi hok e1 e2 e3
    go_enter Try.func59, Try.ntmps59
    go_upto_region 1 with fail
    rw [← HW0.out]
    go_wp2_with fail
    refine HAT.out.mono ?_
    rintro e w1 ⟨rfl, ht⟩
    have HAH := Lib.hid (ahead_any B g i bo r L (k, v) w1 (H.out.quiet ht) hlt (by omega))
    have HT := Lib.hid ht
    have b0 := cell_of_blk (HBX.out w1 (ht.mono fun _ hc => hc.elim)) 0
    have b1 := cell_of_blk (HBX.out w1 (ht.mono fun _ hc => hc.elim)) 1
    have b2 := cell_of_blk (HBX.out w1 (ht.mono fun _ hc => hc.elim)) 2
    have b3 := cell_of_blk (HBX.out w1 (ht.mono fun _ hc => hc.elim)) 3
    have b4 := cell_of_blk (HBX.out w1 (ht.mono fun _ hc => hc.elim)) 4
    have b5 := cell_of_blk (HBX.out w1 (ht.mono fun _ hc => hc.elim)) 5
    have b6 := cell_of_blk (HBX.out w1 (ht.mono fun _ hc => hc.elim)) 6
    clear ht
    go_wp2_with fail
    refine HAH.out.mono ?_
    rintro e w3 ⟨⟨u, rfl⟩, hf1, hf2⟩
    have HE := Lib.hid (Left.of_same HT.out hf1 hf2)
    clear hf1 hf2
    go_wp2_with fail
    go_ret2
    exact ⟨rfl, HU.out _ _ HE.out⟩
  · have HAT := Lib.hid (at_no B g bo r L k W0 h hn (by omega))
    by_cases hr : L.length < r
    · obtain ⟨e1, e2, e3⟩ := put_new hn hr v (⟨#[]⟩ : ByteArray)
      rw [e1, e2, e3]
      have H := Lib.hid h
      clear h hok e1 e2 e3 hn
      go_enter Try.func59, Try.ntmps59
      go_upto_region 1 with fail
      rw [← HW0.out]
      go_wp2_with fail
      refine HAT.out.mono ?_
      rintro e w1 ⟨rfl, ht⟩
      have HP := Lib.hid (place_new B g bo r L w1 (H.out.quiet ht) hr (by omega) (by have := ht.size; omega))
      have HT := Lib.hid ht
      clear ht
      go_wp2_with fail
      refine HP.out.mono ?_
      rintro e w2 ⟨rfl, ⟨bo2, hL2, hbo2⟩, ht2⟩
      have hlen : (L ++ [(((⟨#[]⟩ : ByteArray), e0) : ByteArray × Ent)]).length = L.length + 1 := by simp
      have HAH := Lib.hid (ahead_any B g L.length bo2 r _ (k, v) w2 hL2 (by rw [hlen]; omega) (by rw [hlen]; omega))
      have HT2 := Lib.hid ((HT.out.mono (S' := Its g bo) fun _ hc => hc.elim).trans ht2)
      have HBO := Lib.hid (fun b hb => (hbo2 b hb).imp_right fun h => Nat.le_trans HT.out.size h)
      have b0 := cell_of_blk (HBX.out w2 HT2.out) 0
      have b1 := cell_of_blk (HBX.out w2 HT2.out) 1
      have b2 := cell_of_blk (HBX.out w2 HT2.out) 2
      have b3 := cell_of_blk (HBX.out w2 HT2.out) 3
      have b4 := cell_of_blk (HBX.out w2 HT2.out) 4
      have b5 := cell_of_blk (HBX.out w2 HT2.out) 5
      have b6 := cell_of_blk (HBX.out w2 HT2.out) 6
      clear hL2 hbo2 ht2 hlen
      go_wp2_with fail
      refine HAH.out.mono ?_
      rintro e w3 ⟨⟨u, rfl⟩, hf⟩
      have hE := Left.front HT2.out HBO.out hf
      rw [List.take_left, List.drop_of_length_le (by simp), List.append_nil] at hE
      have HE := Lib.hid hE
      clear hE hf
      go_wp2_with fail
      go_ret2
      exact ⟨rfl, HU.out _ _ HE.out⟩
    · obtain ⟨n, hn1⟩ : ∃ n, L.length = n + 1 := ⟨L.length - 1, by have := hok.pos; have := hok.len; omega⟩
      obtain rfl : r = n + 1 := by have := hok.len; omega
      obtain ⟨p, hp⟩ : ∃ p, L[n]? = some p := ⟨_, List.getElem?_eq_getElem (by omega)⟩
      obtain ⟨e1, e2, e3⟩ := put_full hn hn1 hp v (⟨#[]⟩ : ByteArray)
      rw [e1, e2, e3]
      have H := Lib.hid h
      have HP1 := Lib.hid hp
      have HN1 := Lib.hid hn1
      have i0 : ¬ (n : Int) < 0 := by omega
      clear h hok e1 e2 e3 hn hr hp
      go_enter Try.func59, Try.ntmps59
      go_upto_region 1 with fail
      rw [← HW0.out]
      go_wp2_with fail
      refine HAT.out.mono ?_
      rintro e w1 ⟨rfl, ht⟩
      have HP := Lib.hid (place_full B g n bo L p w1 (H.out.quiet ht) HN1.out HP1.out (by omega))
      have HT := Lib.hid ht
      clear ht
      go_wp2_with fail
      refine HP.out.mono ?_
      rintro e w2 ⟨rfl, ht2⟩
      have HAH := Lib.hid (ahead_any B g n bo (n + 1) L (k, v) w2 ((H.out.quiet HT.out).quiet ht2) (by omega) (by omega))
      have HT2 := Lib.hid (HT.out.trans ht2)
      have b0 := cell_of_blk (HBX.out w2 (HT2.out.mono fun _ hc => hc.elim)) 0
      have b1 := cell_of_blk (HBX.out w2 (HT2.out.mono fun _ hc => hc.elim)) 1
      have b2 := cell_of_blk (HBX.out w2 (HT2.out.mono fun _ hc => hc.elim)) 2
      have b3 := cell_of_blk (HBX.out w2 (HT2.out.mono fun _ hc => hc.elim)) 3
      have b4 := cell_of_blk (HBX.out w2 (HT2.out.mono fun _ hc => hc.elim)) 4
      have b5 := cell_of_blk (HBX.out w2 (HT2.out.mono fun _ hc => hc.elim)) 5
      have b6 := cell_of_blk (HBX.out w2 (HT2.out.mono fun _ hc => hc.elim)) 6
      clear ht2
      go_wp2_with fail
      refine HAH.out.mono ?_
      rintro e w3 ⟨⟨u, rfl⟩, hf1, hf2⟩
      have HE := Lib.hid (Left.of_same HT2.out hf1 hf2)
      clear hf1 hf2
      go_wp2_with fail
      go_ret2
      exact ⟨rfl, HU.out _ _ HE.out⟩
end Go.Proofs.Ythhcbmljckgncaa.lrd
