/- Words for memory: what a call that works on blocks of certain element types leaves as it was ('Kept'), and the bytes that a block of one cell owns ('Wr'). No program, no condition. -/
import Derived.WalkKit
import Derived.Deep.AppendLies
import Derived.Lib.AppendStr
import Derived.Laws.Rows
import Derived.Deep.Draws
import Derived.Lib.UnsafeStr
namespace Go.Proofs.YtfbgnafnpeeonaaDoor.words
set_option maxRecDepth 100000
open Go.RowKit

/-- From block B on only blocks whose elements are of a type in S have turned; below B none; there may be new blocks. -/
structure Kept (S : TypeId → Prop) (B : Nat) (w w' : World) : Prop where
  os : w'.os = w.os
  tape : w'.tape = w.tape
  output : w'.output = w.output
  size : w.heap.size ≤ w'.heap.size
  block : ∀ k, k < w.heap.size → (k < B ∨ ∀ cs t f, w.heap[k]? = some (.cells cs t f) → ¬ S t) → w'.heap[k]? = w.heap[k]?

theorem lt_of_some {w : World} {k : Nat} {o : Obj} (h : w.heap[k]? = some o) : k < w.heap.size := by
  rcases Nat.lt_or_ge k w.heap.size with hlt | hge
  · exact hlt
  · rw [Array.getElem?_eq_none hge] at h; cases h

section
variable {S : TypeId → Prop} {B : Nat} {a w w' : World}
theorem Kept.refl (S : TypeId → Prop) (B : Nat) (w : World) : Kept S B w w := ⟨rfl, rfl, rfl, Nat.le_refl _, fun _ _ _ => rfl⟩
theorem Kept.drew (h : Kept S B a w) : Kept S B a w.drew := ⟨h.os, h.tape, h.output, h.size, h.block⟩
theorem Kept.drewN (h : Kept S B a w) (n : Nat) : Kept S B a (w.drewN n) := ⟨h.os, h.tape, h.output, h.size, h.block⟩
theorem Kept.alloc (h : Kept S B a w) (o : Obj) : Kept S B a (w.alloc o) :=
  ⟨h.os, h.tape, h.output, Nat.le_trans h.size (by simp), fun k hk hc => (Below.heap_alloc w o k (Nat.lt_of_lt_of_le hk h.size)).trans (h.block k hk hc)⟩
theorem Kept.setCell (h : Kept S B a w) {p : Addr} (hB : B ≤ p.block) (hS : ∃ cs t f, w.heap[p.block]? = some (.cells cs t f) ∧ S t) (u : Value) : Kept S B a (w.setCell p u) := by
  refine ⟨h.os, h.tape, h.output, by simpa [World.setCell] using h.size, fun k hk hc => ?_⟩
  by_cases hkp : k = p.block
  · subst hkp
    obtain ⟨cs, t, f, hw, hs⟩ := hS
    rcases hc with hc | hc
    · omega
    · have := h.block _ hk (.inr hc)
      rw [hw] at this
      exact absurd hs (hc cs t f this.symm)
  · exact (Below.heap_setCell w p u k hkp).trans (h.block k hk hc)
theorem Kept.grown {e : TypeId} {size n : Nat} {v : Value} {xs : List Value} {base : Nat} (h : Kept S B a w) (hg : w.grownBy w' v.ownBlock) (hown : w.ownsRow base e size v n xs) (hB : B ≤ base) (he : S e) : Kept S B a w' := by
  refine ⟨hg.os.trans h.os, hg.tape.trans h.tape, hg.output.trans h.output, Nat.le_trans h.size hg.size, fun k hk hc => ?_⟩
  have hkw : k < w.heap.size := Nat.lt_of_lt_of_le hk h.size
  by_cases hkv : some k = v.ownBlock
  · rcases hown.2 with ⟨rfl, _⟩ | ⟨g, cap, cur, rfl, hbg, hh, _⟩
    · simp [Value.ownBlock] at hkv
    · have hkg : k = g := by simpa [Value.ownBlock] using hkv
      subst hkg
      rcases hc with hc | hc
      · omega
      · have := h.block _ hk (.inr hc)
        rw [hh] at this
        exact absurd he (hc _ _ _ this.symm)
  · exact (hg.block k hkw hkv).trans (h.block k hk hc)
theorem Kept.trans (h : Kept S B a w) (h' : Kept S B w w') : Kept S B a w' :=
  ⟨h'.os.trans h.os, h'.tape.trans h.tape, h'.output.trans h.output, Nat.le_trans h.size h'.size, fun k hk hc => by
    have e := h.block k hk hc
    exact (h'.block k (Nat.lt_of_lt_of_le hk h.size) (hc.imp id fun hc cs t f hw => hc cs t f (e.symm.trans hw))).trans e⟩
theorem Kept.mono {B' : Nat} (h : Kept S B a w) (hB : B' ≤ B) : Kept S B' a w :=
  ⟨h.os, h.tape, h.output, h.size, fun k hk hc => h.block k hk (hc.imp (fun hc => Nat.lt_of_lt_of_le hc hB) id)⟩
theorem Kept.below (h : Kept S B a w) (hB : B ≤ a.heap.size) : Below B a w :=
  ⟨h.os, h.tape, h.output, h.size, fun k hk => h.block k (Nat.lt_of_lt_of_le hk hB) (.inl hk)⟩
theorem Kept.of_below (h : Below a.heap.size a w) (S : TypeId → Prop) (B : Nat) : Kept S B a w :=
  ⟨h.os, h.tape, h.output, h.size, fun k hk _ => h.block k hk⟩
theorem Kept.blk {k : Nat} {cs : Array Value} {t : TypeId} {f : Nat × Nat} (h : Kept S B a w) (hb : a.heap[k]? = some (.cells cs t f)) (hn : ¬ S t) : w.heap[k]? = some (.cells cs t f) :=
  (h.block k (lt_of_some hb) (.inr fun cs' t' f' hw => by rw [hb] at hw; injection hw with hw; injection hw with _ ht; subst ht; exact hn)).trans hb
theorem Kept.own {base : Nat} {e : TypeId} {size n : Nat} {v : Value} {xs : List Value} (h : Kept S B a w) (hown : a.ownsRow base e size v n xs) (hn : ¬ S e) : w.ownsRow base e size v n xs := by
  refine ⟨hown.1, ?_⟩
  rcases hown.2 with h0 | ⟨g, cap, cur, hv, hb, hh, hr⟩
  · exact .inl h0
  · exact .inr ⟨g, cap, cur, hv, hb, h.blk hh hn, hr⟩
end

theorem cell_of_blk {w : World} {g : Nat} {cs : Array Value} {t : TypeId} {f : Nat × Nat} (h : w.heap[g]? = some (.cells cs t f)) (i : Nat) : w.cell? ⟨g, i, none⟩ = cs[i]? := cell_of_row w g i cs t f h
theorem free_of_blk {w : World} {g : Nat} {cs : Array Value} {t : TypeId} (h : w.heap[g]? = some (.cells cs t (0, 0))) (i : Nat) : w.frozen? ⟨g, i, none⟩ = false := by
  simp [World.frozen?, h]
theorem blk_set {w : World} {g : Nat} {t : TypeId} {f : Nat × Nat} {v : Value} (h : w.heap[g]? = some (.cells #[v] t f)) (u : Value) : (w.setCell ⟨g, 0, none⟩ u).heap[g]? = some (.cells #[u] t f) := by
  simp [World.setCell, Array.getElem?_modify, h]
theorem blk_ne {w : World} {g g' : Nat} {cs cs' : Array Value} {t t' : TypeId} {f f' : Nat × Nat} (h : w.heap[g]? = some (.cells cs t f)) (h' : w.heap[g']? = some (.cells cs' t' f')) (hne : t ≠ t') : g ≠ g' := by
  rintro rfl
  rw [h] at h'
  injection h' with h'
  injection h' with _ ht
  exact hne ht
theorem own_ne {w : World} {base : Nat} {e : TypeId} {size n : Nat} {v : Value} {xs : List Value} {g : Nat} {cs : Array Value} {t : TypeId} {f : Nat × Nat} (h : w.ownsRow base e size v n xs) (hg : w.heap[g]? = some (.cells cs t f)) (hne : e ≠ t) : v.ownBlock ≠ some g := by
  rcases h.2 with ⟨rfl, _⟩ | ⟨g', cap, cur, rfl, _, hh, _⟩
  · simp [Value.ownBlock]
  · intro he
    have : g' = g := by simpa [Value.ownBlock] using he
    subst this
    exact blk_ne hh hg hne rfl
theorem own_setCell {w : World} {base : Nat} {e : TypeId} {size n : Nat} {v : Value} {xs : List Value} {p : Addr} (h : w.ownsRow base e size v n xs) (hne : v.ownBlock ≠ some p.block) (u : Value) : (w.setCell p u).ownsRow base e size v n xs := by
  refine ⟨h.1, ?_⟩
  rcases h.2 with h0 | ⟨g, cap, cur, rfl, hb, hh, hr⟩
  · exact .inl h0
  · exact .inr ⟨g, cap, cur, rfl, hb, (Below.heap_setCell w p u g (fun e => hne (by simp [Value.ownBlock, e]))).trans hh, hr⟩

theorem own_slice {w : World} {base : Nat} {e : TypeId} {size n : Nat} {v : Value} {xs : List Value} (h : w.ownsRow base e size v n xs) : ∃ A l c, v = .slice A l c := by
  rcases h.2 with ⟨rfl, _⟩ | ⟨g, cap, cur, rfl, _⟩
  · exact ⟨_, _, _, rfl⟩
  · exact ⟨_, _, _, rfl⟩

/-- Block g is a block of one cell of type T, a slice that owns the bytes bs, of type E, from block B on. -/
def Wr (T E : TypeId) (B g : Nat) (bs : List UInt8) (w : World) : Prop :=
  B ≤ g ∧ ∃ v, w.heap[g]? = some (.cells #[v] T (0, 0)) ∧ w.ownsRow B E 1 v bs.length (Lib.byteCells bs)

theorem Wr.kept {S : TypeId → Prop} {T E : TypeId} {B B' g : Nat} {bs : List UInt8} {w w' : World} (h : Wr T E B g bs w) (hk : Kept S B' w w') (hT : ¬ S T) (hE : ¬ S E) : Wr T E B g bs w' := by
  obtain ⟨hB, v, hb, ho⟩ := h
  exact ⟨hB, v, hk.blk hb hT, hk.own ho hE⟩
theorem Wr.alloc {T E : TypeId} {B g : Nat} {bs : List UInt8} {w : World} (h : Wr T E B g bs w) (o : Obj) : Wr T E B g bs (w.alloc o) :=
  h.kept (S := fun _ => False) (B' := 0) ((Kept.refl _ _ _).alloc o) (by simp) (by simp)
theorem Wr.drew {T E : TypeId} {B g : Nat} {bs : List UInt8} {w : World} (h : Wr T E B g bs w) : Wr T E B g bs w.drew := h
theorem Wr.lt {T E : TypeId} {B g : Nat} {bs : List UInt8} {w : World} (h : Wr T E B g bs w) : g < w.heap.size := by
  obtain ⟨_, v, hb, _⟩ := h
  exact lt_of_some hb
theorem Wr.start {T E : TypeId} {B : Nat} {w : World} (hB : B ≤ w.heap.size) : Wr T E B w.heap.size [] (w.alloc (.cells #[.slice none 0 0] T)) :=
  ⟨hB, _, heap_alloc_new w _, World.ownsRow_nil _ _ _ _⟩
/-- Behind an append and its store. -/
theorem Wr.put {T E : TypeId} {B g : Nat} {bs bs' : List UInt8} {w w1 : World} {v v' : Value} (hTE : E ≠ T) (hB : B ≤ g) (hb : w.heap[g]? = some (.cells #[v] T (0, 0))) (ho : w.ownsRow B E 1 v bs.length (Lib.byteCells bs))
    (ho' : w1.ownsRow B E 1 v' bs'.length (Lib.byteCells bs')) (hg : w.grownBy w1 v.ownBlock) :
    Wr T E B g bs' (w1.setCell ⟨g, 0, none⟩ v') ∧ Kept (fun t => t = T ∨ t = E) B w (w1.setCell ⟨g, 0, none⟩ v') := by
  have h1 : w1.heap[g]? = some (.cells #[v] T (0, 0)) := (hg.block g (lt_of_some hb) (fun e => own_ne ho hb hTE e.symm)).trans hb
  refine ⟨⟨hB, v', blk_set h1 v', own_setCell ho' (own_ne ho' h1 hTE) v'⟩, ?_⟩
  exact ((Kept.refl _ B w).grown hg ho (Nat.le_refl _) (.inr rfl)).setCell hB ⟨_, _, _, h1, .inl rfl⟩ v'

end Go.Proofs.YtfbgnafnpeeonaaDoor.words
