/- A cache's New, Get, Put, Len, Room. Condition: the cache lies in memory. -/
import Derived.Test.YtllebfkodklehaaLruPlaceI
import Derived.Lib.MinMax
namespace Go.Proofs.Ytllebfkodklehaa.lri
set_option maxRecDepth 100000
open Go.RowKit Go.Proofs.Ytllebfkodklehaa.words Go.Proofs.Ytllebfkodklehaa.lru

theorem new_any (r : Nat) (room : Int) (w : World) (hr : (r : Int) = max room 1) :
    Calls Try.prog 19 #[.int .i64 room] w fun e w' => e = .returned (.pointer (some ⟨w.heap.size, 0, none⟩)) ∧ w' = w.alloc (.cells #[.int .i64 (r : Int), .slice none 0 0] 75) := by
  have hm : max room 1 = (r : Int) := hr.symm
  clear hr
  go_enter Try.func19, Try.ntmps19
  go_wp2
  go_ret
  exact ⟨rfl, rfl⟩
theorem new_lru (w : World) (B r : Nat) (hB : B ≤ w.heap.size) : Lru (w.alloc (.cells #[.int .i64 (r : Int), .slice none 0 0] 75)) B w.heap.size none r [] :=
  ⟨hB, .slice none 0 0, rfl, heap_alloc_new w _, World.ownsRow_nil _ _ _ _⟩
theorem len_any (B g : Nat) (bo : Option Nat) (r : Nat) (L : List (Int × Int)) (w : World) (h : Lru w B g bo r L) :
    Calls Try.prog 22 #[.pointer (some ⟨g, 0, none⟩)] w fun e w' => e = .returned (.int .i64 (L.length : Int)) ∧ w = w' := by
  obtain ⟨A, c, hc⟩ := h.cells
  have c1 := hc.c1
  clear hc h
  go_enter Try.func22, Try.ntmps22
  go_wp2
  go_ret
  exact ⟨rfl, rfl⟩
/-- What Get answers: the value, or 0. -/
def gotI (L : List (Int × Int)) (k : Int) : Int := (val L k).getD 0
def gotB (L : List (Int × Int)) (k : Int) : Bool := (val L k).isSome
def Got (w : World) (B g r : Nat) (bo : Option Nat) (L : List (Int × Int)) (k : Int) (e : Ending) (w' : World) : Prop :=
  e = .returned (.tuple #[.int .i64 (gotI L k), .bool (gotB L k)]) ∧ Left w B g r bo (getL L k) w'
def PutIn (w : World) (B g r : Nat) (bo : Option Nat) (L : List (Int × Int)) (k : Int) (v : Int) (e : Ending) (w' : World) : Prop :=
  e = .returned (.tuple #[.int .i64 (goneK L r k (0 : Int)), .bool (goneB L r k)]) ∧ Left w B g r bo (putL L r k v) w'
theorem Left.of_same {w w1 w' : World} {B g r : Nat} {bo : Option Nat} {L : List (Int × Int)} (h1 : Tn (fun _ => False) w w1) (h : Lru w' B g bo r L) (h2 : Tn (Its g bo) w1 w') : Left w B g r bo L w' :=
  ⟨⟨bo, h, fun _ hb => .inl hb⟩, (h1.mono fun _ hc => hc.elim).trans h2⟩
set_option maxHeartbeats 1600000 in
theorem get_any (B g : Nat) (bo : Option Nat) (r : Nat) (L : List (Int × Int)) (k : Int) (w : World) (h : Lru w B g bo r L) (hok : Ok L r) (hl : L.length ≤ 1000) :
    Calls Try.prog 21 #[.pointer (some ⟨g, 0, none⟩), .int .i64 (k)] w (Got w B g r bo L k) := by
  rcases there L k with ⟨i, x, hi⟩ | hn
  · obtain ⟨hv, hg⟩ := got_at hok hi
    have hlt : i < L.length := (List.getElem?_eq_some_iff.1 hi).1
    have HAT := Lib.hid (at_yes B g i bo r L k x w h hi hok.nd hl)
    have e1 : gotI L k = x := by unfold gotI; rw [hv]; rfl
    have e2 : gotB L k = true := by unfold gotB; rw [hv]; rfl
    unfold Got
    rw [e1, e2, hg]
    have H := Lib.hid h
    have HI := Lib.hid hi
    have i0 : ¬ (i : Int) < 0 := by omega
    have i00 : (0 : Int) ≤ (i : Int) := by omega
    have i1 : (i : Int) < (L.length : Int) := by omega
    clear h hv hg hi hok e1 e2
    go_enter Try.func21, Try.ntmps21
    go_wp2_with fail
    refine HAT.out.mono ?_
    rintro e w1 ⟨rfl, ht⟩
    have h1 := H.out.quiet ht
    obtain ⟨A, c, hc⟩ := h1.cells
    obtain ⟨b, hA, hbl, d0, d1⟩ := hc.at_ i (k, x) HI.out
    subst hA
    have c1 := hc.c1
    obtain ⟨W2, hW2⟩ : ∃ W2, W2 = w1.alloc (.cells #[.int .i64 (k), .int .i64 x] 80) := ⟨_, rfl⟩
    have ht2 : Tn (fun _ => False) w1 W2 := by rw [hW2]; exact (Tn.refl _ _).alloc _
    have hbk : W2.heap[w1.heap.size]? = some (.cells #[.int .i64 (k), .int .i64 x] 80 (0, 0)) := by rw [hW2]; exact heap_alloc_new w1 _
    have q0 : W2.cell? ⟨w1.heap.size, 0, none⟩ = some (.int .i64 (k)) := cell_of_blk hbk 0
    have q1 : W2.cell? ⟨w1.heap.size, 1, none⟩ = some (.int .i64 x) := cell_of_blk hbk 1
    have HAH := Lib.hid (ahead_any B g i bo r L (k, x) W2 (h1.quiet ht2) hlt hl)
    have HT2 := Lib.hid ((ht.trans ht2))
    have HLT := Lib.hid (h1.lt)
    have HW2 := Lib.hid hW2
    have HBK := Lib.hid hbk
    clear hW2 hbk hc h1 ht ht2
    go_upto_region 6 with fail
    rw [← HW2.out]
    go_wp2_with fail
    refine HAH.out.mono ?_
    rintro e w3 ⟨⟨u, rfl⟩, hf1, hf2⟩
    have hE := Left.of_same HT2.out hf1 hf2
    have hq : w3.heap[w1.heap.size]? = some (.cells #[.int .i64 (k), .int .i64 x] 80 (0, 0)) := (hf2.block _ (lt_of_some HBK.out) (fun hc => by
      rcases hc with hc | hc
      · have := HLT.out.2.1; omega
      · have := HLT.out.2.2 _ hc.symm; omega)).trans HBK.out
    have q3 : w3.cell? ⟨w1.heap.size, 1, none⟩ = some (.int .i64 x) := cell_of_blk hq 1
    have HE := Lib.hid hE
    clear hE hf1 hf2 hq
    go_wp2_with fail
    go_ret2
    exact ⟨rfl, HE.out⟩
  · obtain ⟨hv, hg⟩ := get_none hn
    have HAT := Lib.hid (at_no B g bo r L k w h hn hl)
    have e1 : gotI L k = 0 := by unfold gotI; rw [hv]; rfl
    have e2 : gotB L k = false := by unfold gotB; rw [hv]; rfl
    unfold Got
    rw [e1, e2, hg]
    have H := Lib.hid h
    clear h hv hg hok e1 e2 hn
    go_enter Try.func21, Try.ntmps21
    go_wp2_with fail
    refine HAT.out.mono ?_
    rintro e w1 ⟨rfl, ht⟩
    have HE : Hid (Left w B g r bo L w1) := Lib.hid (Left.of_same ht (H.out.quiet ht) (Tn.refl _ _))
    clear ht
    go_wp2_with fail
    go_ret2
    exact ⟨rfl, HE.out⟩
/-- Behind place and ahead. -/
theorem Left.front {w w1 w' : World} {B g r i : Nat} {bo bo1 : Option Nat} {L : List (Int × Int)} {p : Int × Int} (h1 : Tn (Its g bo) w w1) (hbo : ∀ b, bo1 = some b → bo = some b ∨ w.heap.size ≤ b) (hf : Front w1 B g i r bo1 L p w') : Left w B g r bo (p :: (L.take i ++ L.drop (i + 1))) w' :=
  ⟨⟨bo1, hf.1, hbo⟩, h1.then hf.2 fun k hk hs => by
    rcases hs with rfl | hs
    · exact .inl rfl
    · rcases hbo k hs.symm with h | h
      · exact .inr h.symm
      · omega⟩
set_option maxHeartbeats 3200000 in
theorem put_any (B g : Nat) (bo : Option Nat) (r : Nat) (L : List (Int × Int)) (k : Int) (v : Int) (w : World) (h : Lru w B g bo r L) (hok : Ok L r) (hl : L.length ≤ 900) (hB : B ≤ w.heap.size) :
    Calls Try.prog 20 #[.pointer (some ⟨g, 0, none⟩), .int .i64 (k), .int .i64 v] w (PutIn w B g r bo L k v) := by
  unfold PutIn
  rcases there L k with ⟨i, x, hi⟩ | hn
  · obtain ⟨e1, e2, e3⟩ := put_at hok hi v (0 : Int)
    have hlt : i < L.length := (List.getElem?_eq_some_iff.1 hi).1
    have HAT := Lib.hid (at_yes B g i bo r L k x w h hi hok.nd (by omega))
    rw [e1, e2, e3]
    have H := Lib.hid h
    have i0 : ¬ (i : Int) < 0 := by omega
    clear h hi hok e1 e2 e3
    go_enter Try.func20, Try.ntmps20
    go_wp2_with fail
    refine HAT.out.mono ?_
    rintro e w1 ⟨rfl, ht⟩
    have HAH := Lib.hid (ahead_any B g i bo r L (k, v) w1 (H.out.quiet ht) hlt (by omega))
    have HT := Lib.hid ht
    clear ht
    go_wp2_with fail
    refine HAH.out.mono ?_
    rintro e w3 ⟨⟨u, rfl⟩, hf1, hf2⟩
    have HE := Lib.hid (Left.of_same HT.out hf1 hf2)
    clear hf1 hf2
    go_wp2_with fail
    go_ret2
    exact ⟨rfl, HE.out⟩
  · have HAT := Lib.hid (at_no B g bo r L k w h hn (by omega))
    by_cases hr : L.length < r
    · obtain ⟨e1, e2, e3⟩ := put_new hn hr v (0 : Int)
      rw [e1, e2, e3]
      have H := Lib.hid h
      clear h hok e1 e2 e3 hn
      go_enter Try.func20, Try.ntmps20
      go_wp2_with fail
      refine HAT.out.mono ?_
      rintro e w1 ⟨rfl, ht⟩
      have HP := Lib.hid (place_new B g bo r L w1 (H.out.quiet ht) hr (by omega) (by have := ht.size; omega))
      have HT := Lib.hid ht
      clear ht
      go_wp2_with fail
      refine HP.out.mono ?_
      rintro e w2 ⟨rfl, ⟨bo2, hL2, hbo2⟩, ht2⟩
      have hlen : (L ++ [(((0 : Int), 0) : Int × Int)]).length = L.length + 1 := by simp
      have HAH := Lib.hid (ahead_any B g L.length bo2 r _ (k, v) w2 hL2 (by rw [hlen]; omega) (by rw [hlen]; omega))
      have HT2 := Lib.hid ((HT.out.mono (S' := Its g bo) fun _ hc => hc.elim).trans ht2)
      have HBO := Lib.hid (fun b hb => (hbo2 b hb).imp_right fun h => Nat.le_trans HT.out.size h)
      clear hL2 hbo2 ht2 hlen
      go_wp2_with fail
      refine HAH.out.mono ?_
      rintro e w3 ⟨⟨u, rfl⟩, hf⟩
      have hE := Left.front HT2.out HBO.out hf
      rw [List.take_left, List.drop_of_length_le (by simp), List.append_nil] at hE
      have HE := Lib.hid hE
      clear hE hf
      go_wp2_with fail
      go_ret2
      exact ⟨rfl, HE.out⟩
    · obtain ⟨n, hn1⟩ : ∃ n, L.length = n + 1 := ⟨L.length - 1, by have := hok.pos; have := hok.len; omega⟩
      obtain rfl : r = n + 1 := by have := hok.len; omega
      obtain ⟨p, hp⟩ : ∃ p, L[n]? = some p := ⟨_, List.getElem?_eq_getElem (by omega)⟩
      obtain ⟨e1, e2, e3⟩ := put_full hn hn1 hp v (0 : Int)
      rw [e1, e2, e3]
      have H := Lib.hid h
      have HP1 := Lib.hid hp
      have HN1 := Lib.hid hn1
      have i0 : ¬ (n : Int) < 0 := by omega
      clear h hok e1 e2 e3 hn hr hp
      go_enter Try.func20, Try.ntmps20
      go_wp2_with fail
      refine HAT.out.mono ?_
      rintro e w1 ⟨rfl, ht⟩
      have HP := Lib.hid (place_full B g n bo L p w1 (H.out.quiet ht) HN1.out HP1.out (by omega))
      have HT := Lib.hid ht
      clear ht
      go_wp2_with fail
      refine HP.out.mono ?_
      rintro e w2 ⟨rfl, ht2⟩
      have HAH := Lib.hid (ahead_any B g n bo (n + 1) L (k, v) w2 ((H.out.quiet HT.out).quiet ht2) (by omega) (by omega))
      have HT2 := Lib.hid (HT.out.trans ht2)
      clear ht2
      go_wp2_with fail
      refine HAH.out.mono ?_
      rintro e w3 ⟨⟨u, rfl⟩, hf1, hf2⟩
      have HE := Lib.hid (Left.of_same HT2.out hf1 hf2)
      clear hf1 hf2
      go_wp2_with fail
      go_ret2
      exact ⟨rfl, HE.out⟩
end Go.Proofs.Ytllebfkodklehaa.lri
