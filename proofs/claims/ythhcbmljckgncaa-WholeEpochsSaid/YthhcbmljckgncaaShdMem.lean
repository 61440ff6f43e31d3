/- Many caches in memory, apart from each other, and shards: a block with a row of pointers to caches. No program's call, no condition. -/
import Derived.Test.YthhcbmljckgncaaLrvShard
import Derived.Test.YthhcbmljckgncaaLrdOps
namespace Go.Proofs.Ythhcbmljckgncaa.shd
set_option maxRecDepth 100000
open Go.RowKit Go.Proofs.Ythhcbmljckgncaa.words Go.Proofs.Ythhcbmljckgncaa.lru Go.Proofs.Ythhcbmljckgncaa.sha Go.Proofs.Ythhcbmljckgncaa.lrd

/-- A cache: its block, its row's block, its room, its pairs. -/
structure Cc where
  g : Nat
  bo : Option Nat
  r : Nat
  L : List (ByteArray × Ent)
structure Fam (w : World) (B : Nat) (C : List Cc) : Prop where
  lru : ∀ (i : Nat) (c : Cc), C[i]? = some c → Lru w B c.g c.bo c.r c.L
  ok : ∀ (i : Nat) (c : Cc), C[i]? = some c → Ok c.L c.r
  apart : ∀ (i j : Nat) (a b : Cc), C[i]? = some a → C[j]? = some b → i ≠ j → ∀ k, Its a.g a.bo k → ¬ Its b.g b.bo k
theorem Fam.nil (w : World) (B : Nat) : Fam w B [] := ⟨fun i c h => by simp at h, fun i c h => by simp at h, fun i j a b h => by simp at h⟩
theorem its_lt {w : World} {B g r : Nat} {bo : Option Nat} {L : List (ByteArray × Ent)} (h : Lru w B g bo r L) {k : Nat} (hk : Its g bo k) : B ≤ k ∧ k < w.heap.size := by
  rcases hk with rfl | hk
  · exact ⟨h.lt.1, h.lt.2.1⟩
  · exact ⟨(h.lt.2.2 k hk.symm).1, (h.lt.2.2 k hk.symm).2.1⟩
/-- Other blocks may turn. -/
theorem Fam.kept {S : TypeId → Prop} {B' : Nat} {w w' : World} {B : Nat} {C : List Cc} (h : Fam w B C) (hk : Kept S B' w w') (h1 : ¬ S 125) (h2 : ¬ S 131) : Fam w' B C :=
  ⟨fun i c hc => (h.lru i c hc).of_kept hk h1 h2, h.ok, h.apart⟩
theorem Fam.later {w w' : World} {B : Nat} {C : List Cc} (h : Fam w B C) (hb : Below w.heap.size w w') : Fam w' B C := h.kept (Kept.of_below hb (fun _ => False) 0) (fun hc => hc) (fun hc => hc)
/-- One of them has turned. -/
theorem Fam.left {w w' : World} {B i : Nat} {C : List Cc} {c : Cc} {L' : List (ByteArray × Ent)} (h : Fam w B C) (hi : C[i]? = some c) (hl : lrd.Left w B c.g c.r c.bo L' w') (hok : Ok L' c.r) : ∃ bo', Fam w' B (C.set i ⟨c.g, bo', c.r, L'⟩) := by
  obtain ⟨bo', h1, h2⟩ := hl.ex
  have hin : i < C.length := (List.getElem?_eq_some_iff.1 hi).1
  have hset : ∀ j x, (C.set i ⟨c.g, bo', c.r, L'⟩)[j]? = some x → (j = i ∧ x = ⟨c.g, bo', c.r, L'⟩) ∨ (j ≠ i ∧ C[j]? = some x) := fun j x hx => by
    rw [List.getElem?_set] at hx
    by_cases e : i = j
    · subst e
      rw [if_pos rfl, if_pos hin] at hx
      exact .inl ⟨rfl, (Option.some.inj hx).symm⟩
    · rw [if_neg e] at hx
      exact .inr ⟨fun h => e h.symm, hx⟩
  have hfar : ∀ j x, C[j]? = some x → j ≠ i → ∀ k, Its c.g bo' k → ¬ Its x.g x.bo k := fun j x hx hj k hk hk2 => by
    rcases hk with rfl | hk
    · exact h.apart i j c x hi hx (fun e => hj e.symm) _ (.inl rfl) hk2
    · rcases h2 k hk.symm with hb | hb
      · exact h.apart i j c x hi hx (fun e => hj e.symm) k (.inr hb.symm) hk2
      · have := (its_lt (h.lru j x hx) hk2).2
        omega
  refine ⟨bo', fun j x hx => ?_, fun j x hx => ?_, fun j j' a b ha hb hj k hk hk2 => ?_⟩
  · rcases hset j x hx with ⟨_, rfl⟩ | ⟨hj, hx⟩
    · exact h1
    · exact (h.lru j x hx).tn hl.tn fun k hk hk2 => h.apart i j c x hi hx (fun e => hj e.symm) k hk2 hk
  · rcases hset j x hx with ⟨_, rfl⟩ | ⟨hj, hx⟩
    · exact hok
    · exact h.ok j x hx
  · rcases hset j a ha with ⟨rfl, rfl⟩ | ⟨hja, ha2⟩ <;> rcases hset j' b hb with ⟨rfl, rfl⟩ | ⟨hjb, hb2⟩
    · exact hj rfl
    · exact hfar j' b hb2 hjb k hk hk2
    · exact hfar j a ha2 hja k hk2 hk
    · exact h.apart j j' a b ha2 hb2 hj k hk hk2
theorem Fam.left_kept {w w' : World} {B i : Nat} {C : List Cc} {c : Cc} {L' : List (ByteArray × Ent)} (h : Fam w B C) (hi : C[i]? = some c) (hl : lrd.Left w B c.g c.r c.bo L' w') : Kept LS B w w' := hl.kept (h.lru i c hi)
/-- New ones beside the old ones. -/
theorem Fam.join {w w' : World} {B : Nat} {C D : List Cc} (h : Fam w B C) (hB : B ≤ w.heap.size) (hb : Below w.heap.size w w') (hd : Fam w' w.heap.size D) : Fam w' B (C ++ D) := by
  have h' := h.later hb
  have hat : ∀ (i : Nat) (c : Cc), (C ++ D)[i]? = some c → (i < C.length ∧ C[i]? = some c) ∨ (C.length ≤ i ∧ D[i - C.length]? = some c) := fun i c hc => by
    rw [List.getElem?_append] at hc
    split at hc
    · exact .inl ⟨by assumption, hc⟩
    · exact .inr ⟨by omega, hc⟩
  have hcd : ∀ (i j : Nat) (a b : Cc), C[i]? = some a → D[j]? = some b → ∀ k, Its a.g a.bo k → ¬ Its b.g b.bo k := fun i j a b ha hb k hk hk2 => by
    have h1 := (its_lt (h.lru i a ha) hk).2
    have h2 := (its_lt (hd.lru j b hb) hk2).1
    omega
  refine ⟨fun i c hc => ?_, fun i c hc => ?_, fun i j a b ha hb' hij k hk hk2 => ?_⟩
  · rcases hat i c hc with ⟨_, hc⟩ | ⟨_, hc⟩
    · exact h'.lru i c hc
    · obtain ⟨h0, v, h1, h2, h3⟩ := hd.lru _ c hc
      exact ⟨Nat.le_trans hB h0, v, h1, h2, own_mono h3 hB⟩
  · rcases hat i c hc with ⟨_, hc⟩ | ⟨_, hc⟩
    · exact h.ok i c hc
    · exact hd.ok _ c hc
  · rcases hat i a ha with ⟨hi, ha⟩ | ⟨hi, ha⟩ <;> rcases hat j b hb' with ⟨hj, hb'⟩ | ⟨hj, hb'⟩
    · exact h.apart i j a b ha hb' hij k hk hk2
    · exact hcd i _ a b ha hb' k hk hk2
    · exact hcd j _ b a hb' ha k hk2 hk
    · exact hd.apart _ _ a b ha hb' (by omega) k hk hk2
theorem Fam.one {w : World} {B g r : Nat} {bo : Option Nat} {L : List (ByteArray × Ent)} (h : Lru w B g bo r L) (hok : Ok L r) : Fam w B [⟨g, bo, r, L⟩] := by
  have h1 : ∀ (i : Nat) (c : Cc), ([⟨g, bo, r, L⟩] : List Cc)[i]? = some c → i = 0 ∧ c = ⟨g, bo, r, L⟩ := fun i c hc => by
    rcases i with _ | i
    · exact ⟨rfl, by simpa using hc.symm⟩
    · simp at hc
  refine ⟨fun i c hc => ?_, fun i c hc => ?_, fun i j a b ha hb hij => ?_⟩
  · obtain ⟨_, rfl⟩ := h1 i c hc
    exact h
  · obtain ⟨_, rfl⟩ := h1 i c hc
    exact hok
  · obtain ⟨rfl, _⟩ := h1 i a ha
    obtain ⟨rfl, _⟩ := h1 j b hb
    exact absurd rfl hij

/-! Rows of pointers -/
/-- At block h shards whose caches lie at gs. -/
def Shd (w : World) (B h : Nat) (gs : List Nat) : Prop := B ≤ h ∧ ∃ v, w.heap[h]? = some (.cells #[v] 107 (0, 0)) ∧ w.ownsRow B 108 1 v gs.length (gs.map ptrC)
def SS (t : TypeId) : Prop := t = 107 ∨ t = 108
theorem Shd.kept {S : TypeId → Prop} {B' : Nat} {w w' : World} {B h : Nat} {gs : List Nat} (hs : Shd w B h gs) (hk : Kept S B' w w') (h1 : ¬ S 107) (h2 : ¬ S 108) : Shd w' B h gs := by
  obtain ⟨h0, v, hb, ho⟩ := hs
  exact ⟨h0, v, hk.blk hb h1, hk.own ho h2⟩
theorem Shd.later {w w' : World} {B h : Nat} {gs : List Nat} (hs : Shd w B h gs) (hb : Below w.heap.size w w') : Shd w' B h gs := hs.kept (Kept.of_below hb (fun _ => False) 0) (fun hc => hc) (fun hc => hc)
theorem Shd.mono {w : World} {B B' h : Nat} {gs : List Nat} (hs : Shd w B h gs) (hB : B' ≤ B) : Shd w B' h gs := by
  obtain ⟨h0, v, hb, ho⟩ := hs
  exact ⟨Nat.le_trans hB h0, v, hb, own_mono ho hB⟩
theorem ptr_at {w : World} {B c : Nat} {A : Option Addr} {gs : List Nat} (ho : w.ownsRow B 108 1 (.slice A gs.length c) gs.length (gs.map ptrC)) {i g : Nat} (hi : gs[i]? = some g) : ∃ b, A = some ⟨b, 0, none⟩ ∧ b < w.heap.size ∧ w.cell? ⟨b, i, none⟩ = some (ptrC g) := by
  obtain ⟨b, c', h1, _, h2, h3⟩ := own_at ho (j := i) (u := ptrC g) (by rw [List.getElem?_map, hi]; rfl)
  injection h1 with h1
  exact ⟨b, h1, h2, h3⟩
theorem Shd.cells {w : World} {B h : Nat} {gs : List Nat} (hs : Shd w B h gs) : ∃ A c, w.cell? ⟨h, 0, none⟩ = some (.slice A gs.length c) ∧ h < w.heap.size ∧ ∀ i g, gs[i]? = some g → ∃ b, A = some ⟨b, 0, none⟩ ∧ b < w.heap.size ∧ w.cell? ⟨b, i, none⟩ = some (ptrC g) := by
  obtain ⟨h0, v, hb, ho⟩ := hs
  obtain ⟨A, c, rfl, _⟩ := own_facts ho
  exact ⟨A, c, cell_of_blk hb 0, lt_of_some hb, fun i g hi => ptr_at ho hi⟩
/-- The caches at gs, new. -/
def news (gs : List Nat) (r : Nat) : List Cc := gs.map fun g => ⟨g, none, r, []⟩
/-- Behind some rounds of New. -/
structure NewIn (w : World) (r : Nat) (gs : List Nat) (v : Value) (wr : World) : Prop where
  blk : wr.heap[w.heap.size]? = some (.cells #[v] 107 (0, 0))
  own : wr.ownsRow w.heap.size 108 1 v gs.length (gs.map ptrC)
  fam : Fam wr w.heap.size (news gs r)
  below : Below w.heap.size w wr
theorem NewIn.next {w wr w3 w4 w5 : World} {r : Nat} {gs : List Nat} {v : Value} {b c : Nat} (h : NewIn w r gs v wr) (hr : 1 ≤ r) (hw3 : w3 = wr.alloc (.cells #[.int .i64 (r : Int), .slice none 0 0] 125)) (hb4 : Below w3.heap.size w3 w4)
    (ho : w5.ownsRow w.heap.size 108 1 (.slice (some ⟨b, 0, none⟩) (gs.length + 1) c) (gs.length + 1) (gs.map ptrC ++ [ptrC wr.heap.size])) (hg : w4.grownBy w5 v.ownBlock) :
    NewIn w r (gs ++ [wr.heap.size]) (.slice (some ⟨b, 0, none⟩) (gs.length + 1) c) (w5.setCell ⟨w.heap.size, 0, none⟩ (.slice (some ⟨b, 0, none⟩) (gs.length + 1) c)) := by
  have hB := h.below.size
  have hb3 : Below wr.heap.size wr w3 := by rw [hw3]; exact (Below.refl _ _).alloc (Nat.le_refl _) _
  have hb34 := hb3.trans (hb4.mono hb3.size)
  have ho4 := ownL h.own hb34
  have hblk4 := (hb34.block _ (lt_of_some h.blk)).trans h.blk
  have hk : Kept SS w.heap.size w4 w5 := (Kept.refl SS _ w4).grown hg ho4 (Nat.le_refl _) (.inr rfl)
  have hblk5 : w5.heap[w.heap.size]? = some (.cells #[v] 107 (0, 0)) := (hg.block _ (lt_of_some hblk4) (fun e => own_ne ho4 hblk4 (by decide) e.symm)).trans hblk4
  have hk5 := hk.setCell (p := ⟨w.heap.size, 0, none⟩) (Nat.le_refl _) ⟨_, _, _, hblk5, .inl rfl⟩ (.slice (some ⟨b, 0, none⟩) (gs.length + 1) c)
  have hnew : Fam w3 wr.heap.size [⟨wr.heap.size, none, r, []⟩] := Fam.one (by rw [hw3]; exact new_lru wr wr.heap.size r (Nat.le_refl _)) (Ok.new hr)
  have hf3 := (h.fam.join hB hb3 hnew).later hb4
  have hf5 := hf3.kept hk5 (by unfold SS; decide) (by unfold SS; decide)
  refine ⟨blk_set hblk5 _, ?_, ?_, (h.below.trans (hb34.mono hB)).trans (hk5.below (Nat.le_trans hB (Nat.le_trans hb3.size hb4.size)))⟩
  · rw [List.length_append, List.map_append]
    exact own_setCell ho (own_ne ho hblk5 (by decide)) _
  · unfold news at hf5 ⊢
    rw [List.map_append]
    exact hf5
end Go.Proofs.Ythhcbmljckgncaa.shd
