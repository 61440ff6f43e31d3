/- Shards, and caches beside them that have the same pairs. No program's call, no condition. -/
import Derived.Test.YtllebfkodklehaaRooMath
namespace Go.Proofs.Ytllebfkodklehaa.sdo
set_option maxRecDepth 100000
open Go.RowKit Go.Proofs.Ytllebfkodklehaa.words Go.Proofs.Ytllebfkodklehaa.lru Go.Proofs.Ytllebfkodklehaa.lrs Go.Proofs.Ytllebfkodklehaa.sha Go.Proofs.Ytllebfkodklehaa.roo

structure RelS (n r : Nat) (gsS gsL : List Nat) (C : List Cc) : Prop where
  ls : gsS.length = n
  ll : gsL.length = n
  len : C.length = n + n
  pair : ∀ i, i < n → ∃ g bo g' bo' L, C[i]? = some ⟨g, bo, r, L⟩ ∧ C[n + i]? = some ⟨g', bo', r, L⟩ ∧ gsS[i]? = some g ∧ gsL[i]? = some g'
theorem RelS.turn {n r : Nat} {gsS gsL : List Nat} {C : List Cc} (h : RelS n r gsS gsL C) {i g g' : Nat} {bo bo' b1 b2 : Option Nat} {L L' : List Pr} (hi : i < n) (h1 : C[i]? = some ⟨g, bo, r, L⟩) (h2 : C[n + i]? = some ⟨g', bo', r, L⟩) (hg : gsS[i]? = some g) (hg' : gsL[i]? = some g') :
    RelS n r gsS gsL ((C.set i ⟨g, b1, r, L'⟩).set (n + i) ⟨g', b2, r, L'⟩) := by
  refine ⟨h.ls, h.ll, by rw [List.length_set, List.length_set]; exact h.len, fun j hj => ?_⟩
  have h2' : (C.set i ⟨g, b1, r, L'⟩)[n + i]? = some ⟨g', bo', r, L⟩ := by rw [set_far (by omega)]; exact h2
  by_cases e : j = i
  · subst e
    exact ⟨g, b1, g', b2, L', by rw [set_far (by omega), set_self h1], set_self h2' _, hg, hg'⟩
  · obtain ⟨a, b, c, d, M, k1, k2, k3, k4⟩ := h.pair j hj
    exact ⟨a, b, c, d, M, by rw [set_far (by omega), set_far (by omega)]; exact k1, by rw [set_far (by omega), set_far (by omega)]; exact k2, k3, k4⟩
theorem RelS.start {n r : Nat} {gsS gsL : List Nat} (hs : gsS.length = n) (hl : gsL.length = n) : RelS n r gsS gsL (news gsS r ++ news gsL r) := by
  have h1 := news_len gsS r
  have h2 := news_len gsL r
  refine ⟨hs, hl, by rw [List.length_append, h1, h2, hs, hl], fun i hi => ?_⟩
  obtain ⟨g, hg⟩ : ∃ g, gsS[i]? = some g := ⟨_, List.getElem?_eq_getElem (by omega)⟩
  obtain ⟨g', hg'⟩ : ∃ g, gsL[i]? = some g := ⟨_, List.getElem?_eq_getElem (by omega)⟩
  refine ⟨g, none, g', none, [], ?_, ?_, hg, hg'⟩
  · rw [List.getElem?_append_left (by omega)]; exact news_at hg
  · rw [List.getElem?_append_right (by omega), h1, hs, show n + i - n = i by omega]; exact news_at hg'
/-- How many pairs the shards have. -/
def lens (n : Nat) (C : List Cc) : List Nat := nsOf (C.take n)
theorem lens_at {n : Nat} {C : List Cc} {i : Nat} {c : Cc} (hi : i < n) (h : C[i]? = some c) : (lens n C)[i]? = some c.L.length := by
  unfold lens nsOf
  rw [List.getElem?_map, List.getElem?_take, if_pos hi, h]
  rfl
theorem RelS.held {w : World} {B n r : Nat} {gsS gsL : List Nat} {C : List Cc} (h : RelS n r gsS gsL C) (hf : Fam w B C) : Held w B gsS (lens n C) := by
  refine ⟨by rw [h.ls]; unfold lens nsOf; rw [List.length_map, List.length_take, h.len]; omega, fun i g hg => ?_⟩
  have hi : i < n := by rw [← h.ls]; exact (List.getElem?_eq_some_iff.1 hg).1
  obtain ⟨a, b, c, d, L, k1, k2, k3, k4⟩ := h.pair i hi
  have : a = g := by rw [hg] at k3; injection k3 with k3; exact k3.symm
  subst this
  exact ⟨b, r, L, hf.lru i _ k1, lens_at hi k1⟩
theorem lens_le {w : World} {B n r : Nat} {gsS gsL : List Nat} {C : List Cc} (h : RelS n r gsS gsL C) (hf : Fam w B C) : mostF (lens n C) ≤ r := by
  refine most_le _ _ fun x hx => ?_
  unfold lens nsOf at hx
  obtain ⟨c, hc, rfl⟩ := List.mem_map.1 hx
  obtain ⟨i, hi⟩ := List.mem_iff_getElem?.1 hc
  rw [List.getElem?_take] at hi
  split at hi
  · rename_i hlt
    obtain ⟨a, b, c', d, L, k1, _⟩ := h.pair i hlt
    have := k1.symm.trans hi
    injection this with this
    subst this
    exact (hf.ok i _ k1).len
  · cases hi
/-- All that the law keeps. -/
structure InS (w : World) (n r hS : Nat) (gsS gsL : List Nat) (v : Value) (m : Nat) (C : List Cc) (wr : World) : Prop where
  fam : Fam wr w.heap.size C
  sS : Shd wr w.heap.size hS gsS
  own : wr.ownsRow w.heap.size 24 1 v n (gsL.map ptrC)
  below : Below w.heap.size w wr
  rel : RelS n r gsS gsL C
  len : ∀ (i : Nat) (c : Cc), C[i]? = some c → c.L.length ≤ m
theorem InS.later {w : World} {n r hS : Nat} {gsS gsL : List Nat} {v : Value} {m : Nat} {C : List Cc} {wr w' : World} (h : InS w n r hS gsS gsL v m C wr) (hb : Below wr.heap.size wr w') : InS w n r hS gsS gsL v m C w' :=
  ⟨h.fam.later hb, h.sS.later hb, ownL h.own hb, h.below.trans (hb.mono h.below.size), h.rel, h.len⟩
/-- What there is while the two of a key turn. -/
structure MidS (w : World) (n hS : Nat) (gsS gsL : List Nat) (v : Value) (C : List Cc) (wr : World) : Prop where
  fam : Fam wr w.heap.size C
  sS : Shd wr w.heap.size hS gsS
  own : wr.ownsRow w.heap.size 24 1 v n (gsL.map ptrC)
  below : Below w.heap.size w wr
theorem InS.mid {w : World} {n r hS : Nat} {gsS gsL : List Nat} {v : Value} {m : Nat} {C : List Cc} {wr : World} (h : InS w n r hS gsS gsL v m C wr) : MidS w n hS gsS gsL v C wr := ⟨h.fam, h.sS, h.own, h.below⟩
theorem MidS.left {w wr w' : World} {n hS i : Nat} {gsS gsL : List Nat} {v : Value} {C : List Cc} {c : Cc} {L' : List Pr} (h : MidS w n hS gsS gsL v C wr) (hi : C[i]? = some c) (hl : lrs.Left wr w.heap.size c.g c.r c.bo L' w') (hok : Ok L' c.r) :
    (∃ bo', MidS w n hS gsS gsL v (C.set i ⟨c.g, bo', c.r, L'⟩) w') ∧ Kept LS w.heap.size wr w' := by
  have hk := h.fam.left_kept hi hl
  obtain ⟨bo', hf⟩ := h.fam.left hi hl hok
  exact ⟨⟨bo', hf, h.sS.kept hk (by unfold LS; decide) (by unfold LS; decide), hk.own h.own (by unfold LS; decide), h.below.trans (hk.below h.below.size)⟩, hk⟩
theorem len_set {C : List Cc} {m i j : Nat} {a b : Cc} (h : ∀ (i : Nat) (c : Cc), C[i]? = some c → c.L.length ≤ m) (ha : a.L.length ≤ m + 1) (hb : b.L.length ≤ m + 1) : ∀ (k : Nat) (c : Cc), ((C.set i a).set j b)[k]? = some c → c.L.length ≤ m + 1 := fun k c hc => by
  rw [List.getElem?_set] at hc
  split at hc
  · split at hc
    · injection hc with hc; rw [← hc]; exact hb
    · cases hc
  · rw [List.getElem?_set] at hc
    split at hc
    · split at hc
      · injection hc with hc; rw [← hc]; exact ha
      · cases hc
    · exact Nat.le_succ_of_le (h k c hc)
theorem len_get' {L : List Pr} {k : ByteArray} {x : Int} (nd : (L.map (·.1)).Nodup) (h : (k, x) ∈ L) : (getL L k).length = L.length := by
  obtain ⟨i, hi⟩ := List.mem_iff_getElem?.1 h
  rw [get_is nd h, List.length_cons, rest_at_len hi nd]
theorem getL_len {L : List Pr} {r : Nat} (k : ByteArray) (h : Ok L r) : (getL L k).length ≤ L.length := by
  rcases hv : val L k with _ | x
  · unfold getL; rw [hv]; exact Nat.le_refl _
  · exact Nat.le_of_eq (len_get' h.nd (val_mem hv))
/-- Behind some rounds of the making of the caches beside the shards. -/
structure LIn (w : World) (r : Nat) (gs : List Nat) (v : Value) (wr : World) : Prop where
  own : wr.ownsRow w.heap.size 24 1 v gs.length (gs.map ptrC)
  fam : Fam wr w.heap.size (news gs r)
  below : Below w.heap.size w wr
theorem LIn.next {w wr w3 w4 w5 : World} {r : Nat} {gs : List Nat} {v v' : Value} (h : LIn w r gs v wr) (hr : 1 ≤ r) (hw3 : w3 = wr.alloc (.cells #[.int .i64 (r : Int), .slice none 0 0] 67)) (hb4 : Below w3.heap.size w3 w4)
    (ho : w5.ownsRow w.heap.size 24 1 v' (gs.length + 1) (gs.map ptrC ++ [ptrC wr.heap.size])) (hg : w4.grownBy w5 v.ownBlock) : LIn w r (gs ++ [wr.heap.size]) v' w5 := by
  have hB := h.below.size
  have hb3 : Below wr.heap.size wr w3 := by rw [hw3]; exact (Below.refl _ _).alloc (Nat.le_refl _) _
  have hb34 := hb3.trans (hb4.mono hb3.size)
  have ho4 := ownL h.own hb34
  have hk : Kept SS w.heap.size w4 w5 := (Kept.refl SS _ w4).grown hg ho4 (Nat.le_refl _) (.inr rfl)
  have hnew : Fam w3 wr.heap.size [⟨wr.heap.size, none, r, []⟩] := Fam.one (by rw [hw3]; exact new_lru wr wr.heap.size r (Nat.le_refl _)) (Ok.new hr)
  have hf5 := ((h.fam.join hB hb3 hnew).later hb4).kept hk (by unfold SS; decide) (by unfold SS; decide)
  refine ⟨?_, ?_, (h.below.trans (hb34.mono hB)).trans (hk.below (Nat.le_trans hB (Nat.le_trans hb3.size hb4.size)))⟩
  · rw [List.length_append, List.map_append]
    exact ho
  · unfold news at hf5 ⊢
    rw [List.map_append]
    exact hf5
end Go.Proofs.Ytllebfkodklehaa.sdo
