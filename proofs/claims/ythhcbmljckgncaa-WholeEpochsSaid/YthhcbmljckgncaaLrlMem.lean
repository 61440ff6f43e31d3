/- A cache in memory whose values are structs: a block with the room and a row of pairs that it owns. No program's call, no condition. -/
import Derived.Test.YthhcbmljckgncaaLruRow
import Derived.Test.YthhcbmljckgncaaProg
namespace Go.Proofs.Ythhcbmljckgncaa.lrl
set_option maxRecDepth 100000
open Go.RowKit Go.Proofs.Ythhcbmljckgncaa.words Go.Proofs.Ythhcbmljckgncaa.lru

structure Lst where
  ep : Int
  a : Option Addr
  n : Nat
  c : Nat
/-- The zero one. -/
def e0 : Lst := ⟨0, none, 0, 0⟩
def vC (v : Lst) : List Value := [.int .i64 v.ep, .slice v.a v.n v.c]
def pC (p : ByteArray × Lst) : List Value := [.string p.1, .int .i64 p.2.ep, .slice p.2.a p.2.n p.2.c]
/-- At block g a cache with room for r, whose pairs are L; bo: the block of its row, if it has one. -/
def Lru (w : World) (B g : Nat) (bo : Option Nat) (r : Nat) (L : List (ByteArray × Lst)) : Prop :=
  B ≤ g ∧ ∃ v, v.ownBlock = bo ∧ w.heap[g]? = some (.cells #[.int .i64 (r : Int), v] 129 (0, 0)) ∧ w.ownsRow B 136 3 v L.length (L.flatMap pC)
/-- The blocks of a cache. -/
def Its (g : Nat) (bo : Option Nat) (k : Nat) : Prop := k = g ∨ some k = bo
/-- The element types of a cache's blocks. -/
def LS (t : TypeId) : Prop := t = 129 ∨ t = 136

theorem pC_one (p : ByteArray × Lst) : ∀ u ∈ pC p, u.oneCell' = true := fun u hu => by
  simp only [pC, List.mem_cons, List.mem_nil_iff, or_false] at hu
  rcases hu with rfl | rfl | rfl <;> rfl
theorem pCs_one (L : List (ByteArray × Lst)) : ∀ u ∈ L.flatMap pC, u.oneCell' = true := fun u hu => by
  obtain ⟨p, _, hp⟩ := List.mem_flatMap.1 hu
  exact pC_one p u hp
theorem pC_len (L : List (ByteArray × Lst)) : (L.flatMap pC).length = L.length * 3 := by
  induction L with
  | nil => rfl
  | cons p L ih => rw [List.flatMap_cons, List.length_append, ih, List.length_cons]; simp [pC]; omega
theorem pC_at : ∀ {L : List (ByteArray × Lst)} {i : Nat} {p : ByteArray × Lst}, L[i]? = some p → ∀ j, j < 3 → (L.flatMap pC)[i * 3 + j]? = (pC p)[j]?
  | [], i, p, h, _, _ => by simp at h
  | x :: L, i, p, h, j, hj => by
    rw [List.flatMap_cons]
    rcases i with _ | i
    · obtain rfl : x = p := by simpa using h
      rw [List.getElem?_append_left (by simp [pC]; omega), Nat.zero_mul, Nat.zero_add]
    · rw [List.getElem?_append_right (by simp [pC]; omega), ← pC_at (L := L) (i := i) (by simpa using h) j hj]
      congr 1
      simp [pC]; omega
theorem pC_take (L : List (ByteArray × Lst)) (m : Nat) : (L.flatMap pC).take (m * 3) = (L.take m).flatMap pC := by
  induction L generalizing m with
  | nil => simp
  | cons p L ih =>
    rcases m with _ | m
    · simp
    · rw [List.flatMap_cons, List.take_succ_cons, List.flatMap_cons, ← ih m, List.take_append, show (pC p).length = 3 from rfl, show (m + 1) * 3 - 3 = m * 3 by omega, List.take_of_length_le (by simp [pC]; omega)]
theorem pC_drop (L : List (ByteArray × Lst)) (m : Nat) : (L.flatMap pC).drop (m * 3) = (L.drop m).flatMap pC := by
  induction L generalizing m with
  | nil => simp
  | cons p L ih =>
    rcases m with _ | m
    · simp
    · rw [List.flatMap_cons, List.drop_succ_cons, ← ih m, List.drop_append, show (pC p).length = 3 from rfl, show (m + 1) * 3 - 3 = m * 3 by omega, List.drop_of_length_le (by simp [pC]; omega), List.nil_append]

/-- What is read of a cache. -/
structure Cells (w : World) (g r : Nat) (L : List (ByteArray × Lst)) (A : Option Addr) (c : Nat) : Prop where
  c0 : w.cell? ⟨g, 0, none⟩ = some (.int .i64 (r : Int))
  c1 : w.cell? ⟨g, 1, none⟩ = some (.slice A L.length c)
  le : L.length ≤ c
  max : c ≤ maxLen
  at_ : ∀ i p, L[i]? = some p → ∃ b, A = some ⟨b, 0, none⟩ ∧ b < w.heap.size ∧ w.cell? ⟨b, i * 3, none⟩ = some (.string p.1) ∧ w.cell? ⟨b, i * 3 + 1, none⟩ = some (.int .i64 p.2.ep) ∧ w.cell? ⟨b, i * 3 + 2, none⟩ = some (.slice p.2.a p.2.n p.2.c)
theorem Lru.cells {w : World} {B g r : Nat} {bo : Option Nat} {L : List (ByteArray × Lst)} (h : Lru w B g bo r L) : ∃ A c, Cells w g r L A c := by
  obtain ⟨_, v, _, hb, ho⟩ := h
  rcases ho.2 with ⟨rfl, h0⟩ | ⟨b, c, cur, rfl, _, hh, h1, h2, h3, h4⟩
  · have hL : L = [] := List.eq_nil_of_length_eq_zero h0
    subst hL
    exact ⟨none, 0, cell_of_blk hb 0, cell_of_blk hb 1, Nat.le_refl _, Nat.zero_le _, fun i p hp => by simp at hp⟩
  · refine ⟨some ⟨b, 0, none⟩, c, cell_of_blk hb 0, cell_of_blk hb 1, h1, h2, fun i p hp => ?_⟩
    have hi := (List.getElem?_eq_some_iff.1 hp).1
    have hcell : ∀ j, j < 3 → w.cell? ⟨b, i * 3 + j, none⟩ = (pC p)[j]? := fun j hj => by
      rw [cell_of_blk hh, ← Array.getElem?_toList, ← pC_at hp j hj, ← h4, List.getElem?_take, if_pos (by omega)]
    exact ⟨b, rfl, lt_of_some hh, hcell 0 (by omega), hcell 1 (by omega), hcell 2 (by omega)⟩
/-- The blocks of a cache that has pairs. -/
theorem Lru.row {w : World} {B g r : Nat} {bo : Option Nat} {L : List (ByteArray × Lst)} (h : Lru w B g bo r L) (hL : 0 < L.length) :
    ∃ b c cur, bo = some b ∧ w.heap[g]? = some (.cells #[.int .i64 (r : Int), .slice (some ⟨b, 0, none⟩) L.length c] 129 (0, 0)) ∧ w.heap[b]? = some (.cells cur 136 (0, 0)) ∧ B ≤ b ∧ L.length ≤ c ∧ c ≤ maxLen ∧ cur.size = c * 3 ∧ cur.toList.take (L.length * 3) = L.flatMap pC := by
  obtain ⟨_, v, rfl, hb, ho⟩ := h
  rcases ho.2 with ⟨rfl, h0⟩ | ⟨b, c, cur, rfl, h5, hh, h1, h2, h3, h4⟩
  · omega
  · exact ⟨b, c, cur, rfl, hb, hh, h5, h1, h2, h3, h4⟩
theorem Lru.lt {w : World} {B g r : Nat} {bo : Option Nat} {L : List (ByteArray × Lst)} (h : Lru w B g bo r L) : B ≤ g ∧ g < w.heap.size ∧ ∀ b, bo = some b → B ≤ b ∧ b < w.heap.size ∧ b ≠ g := by
  obtain ⟨h0, v, rfl, hb, ho⟩ := h
  refine ⟨h0, lt_of_some hb, fun b hbo => ?_⟩
  obtain ⟨h1, h2⟩ := ho.lt b hbo
  exact ⟨h1, h2, fun e => own_ne ho hb (by decide) (e ▸ hbo)⟩
theorem Lru.types {w : World} {B g r : Nat} {bo : Option Nat} {L : List (ByteArray × Lst)} (h : Lru w B g bo r L) : ∀ k, Its g bo k → B ≤ k ∧ ∃ cs t f, w.heap[k]? = some (.cells cs t f) ∧ LS t := fun k hk => by
  obtain ⟨h0, v, rfl, hb, ho⟩ := h
  rcases hk with rfl | hk
  · exact ⟨h0, _, _, _, hb, .inl rfl⟩
  · rcases ho.2 with ⟨rfl, _⟩ | ⟨b, c, cur, rfl, h5, hh, _⟩
    · simp [Value.ownBlock] at hk
    · have : k = b := by simpa [Value.ownBlock] using hk
      subst this
      exact ⟨h5, _, _, _, hh, .inr rfl⟩
theorem Lru.tn {S : Nat → Prop} {w w' : World} {B g r : Nat} {bo : Option Nat} {L : List (ByteArray × Lst)} (h : Lru w B g bo r L) (ht : Tn S w w') (hS : ∀ k, Its g bo k → ¬ S k) : Lru w' B g bo r L := by
  obtain ⟨h0, v, rfl, hb, ho⟩ := h
  exact ⟨h0, v, rfl, (ht.block g (lt_of_some hb) (hS g (.inl rfl))).trans hb, ht.own ho fun k hk => hS k (.inr hk.symm)⟩
theorem Lru.quiet {w w' : World} {B g r : Nat} {bo : Option Nat} {L : List (ByteArray × Lst)} (h : Lru w B g bo r L) (ht : Tn (fun _ => False) w w') : Lru w' B g bo r L := h.tn ht fun _ _ hc => hc
theorem Lru.of_kept {S : TypeId → Prop} {B' : Nat} {w w' : World} {B g r : Nat} {bo : Option Nat} {L : List (ByteArray × Lst)} (h : Lru w B g bo r L) (hk : Kept S B' w w') (h1 : ¬ S 129) (h2 : ¬ S 136) : Lru w' B g bo r L := by
  obtain ⟨h0, v, rfl, hb, ho⟩ := h
  exact ⟨h0, v, rfl, hk.blk hb h1, hk.own ho h2⟩
theorem Lru.drewn {w : World} {B g r : Nat} {bo : Option Nat} {L : List (ByteArray × Lst)} (h : Lru w B g bo r L) : Lru w.drew B g bo r L := h
theorem kept_of {w w' : World} {B g r : Nat} {bo : Option Nat} {L : List (ByteArray × Lst)} (ht : Tn (Its g bo) w w') (h : Lru w B g bo r L) : Kept LS B w w' := ht.kept h.types

/-- What a call leaves of a cache: its row may have moved to a new block. -/
structure Left (w : World) (B g r : Nat) (bo : Option Nat) (L : List (ByteArray × Lst)) (w' : World) : Prop where
  ex : ∃ bo', Lru w' B g bo' r L ∧ ∀ b, bo' = some b → bo = some b ∨ w.heap.size ≤ b
  tn : Tn (Its g bo) w w'
theorem Left.kept {w w' : World} {B g r : Nat} {bo : Option Nat} {L L' : List (ByteArray × Lst)} (h : Left w B g r bo L' w') (hl : Lru w B g bo r L) : Kept LS B w w' := kept_of h.tn hl

theorem takeW {l : List Value} (h : l.length = 3) : ∃ a0 a1 a2, l = [a0, a1, a2] := by
  match l, h with
  | [a0, a1, a2], _ => exact ⟨a0, a1, a2, rfl⟩
/-- A row of which the pair at i has come to the front. -/
theorem front_cells {cur : List Value} {L : List (ByteArray × Lst)} {i : Nat} (p : ByteArray × Lst) (hi : i < L.length) (hc : cur.take (L.length * 3) = L.flatMap pC) :
    (((((cur.take 3 ++ (L.take i).flatMap pC ++ cur.drop (3 + ((L.take i).flatMap pC).length)).set 0 (.string p.1)).set 1 (.int .i64 p.2.ep)).set 2 (.slice p.2.a p.2.n p.2.c)).take (L.length * 3)) = (p :: (L.take i ++ L.drop (i + 1))).flatMap pC := by
  have hlen : L.length * 3 ≤ cur.length := by
    have := congrArg List.length hc
    rw [pC_len, List.length_take] at this
    omega
  have hti : (L.take i).length = i := by rw [List.length_take]; omega
  have hf : ((L.take i).flatMap pC).length = i * 3 := by rw [pC_len, hti]
  rw [hf]
  have hd : cur.drop (3 + i * 3) = (L.drop (i + 1)).flatMap pC ++ cur.drop (L.length * 3) := by
    rw [← pC_drop, ← hc, show (i + 1) * 3 = 3 + i * 3 by omega, List.drop_take]
    have : (cur.drop (3 + i * 3)).take (L.length * 3 - (3 + i * 3)) ++ (cur.drop (3 + i * 3)).drop (L.length * 3 - (3 + i * 3)) = cur.drop (3 + i * 3) := List.take_append_drop _ _
    rw [List.drop_drop, show 3 + i * 3 + (L.length * 3 - (3 + i * 3)) = L.length * 3 by omega] at this
    exact this.symm
  obtain ⟨a0, a1, a2, hab⟩ := takeW (l := cur.take 3) (by rw [List.length_take]; omega)
  rw [hab, hd]
  have e : (((([a0, a1, a2] ++ (L.take i).flatMap pC ++ ((L.drop (i + 1)).flatMap pC ++ cur.drop (L.length * 3))).set 0 (.string p.1)).set 1 (.int .i64 p.2.ep)).set 2 (.slice p.2.a p.2.n p.2.c)) = (p :: (L.take i ++ L.drop (i + 1))).flatMap pC ++ cur.drop (L.length * 3) := by
    rw [List.flatMap_cons, List.flatMap_append]
    simp [pC]
  rw [e]
  have hl : ((p :: (L.take i ++ L.drop (i + 1))).flatMap pC).length = L.length * 3 := by
    rw [pC_len]; simp; omega
  rw [List.take_append_of_le_length (by omega), List.take_of_length_le (by omega)]
end Go.Proofs.Ythhcbmljckgncaa.lrl
