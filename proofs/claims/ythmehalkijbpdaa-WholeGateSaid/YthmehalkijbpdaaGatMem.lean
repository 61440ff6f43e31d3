/- A gate in memory: a block of five cells and two maps that may be nil; In, Readers, Writers, Waiting of it. Condition: the gate lies in memory. -/
import Derived.Test.YthmehalkijbpdaaMapInt
import Derived.Defers
import Derived.Deep.LoopGhost
import Derived.Lib.Hide
import Derived.StillTailTactics
import Derived.IntWalk
import Derived.Deep.Cut
import Derived.KernelRfl
import Derived.WalkSpells
import Derived.WalkLawsBesides
import Derived.Outline
import Derived.LoopTactic
import Derived.BigRegion
import Derived.ChangeAlike
import Derived.BigQuiet
import Derived.Deep.QuietTactic
import Derived.Test.YthmehalkijbpdaaChecked
namespace Go.Proofs.Ythmehalkijbpdaa.gat
set_option maxRecDepth 100000
open Go.RowKit Go.Proofs.Ythmehalkijbpdaa.words Go.Proofs.Ythmehalkijbpdaa.lru Go.Proofs.Ythmehalkijbpdaa.mpi

/-- The readers, as pairs; those who wait, with their turns. -/
def rR (R : List Int) : List Pr := R.map fun x => (x, .bool true)
def tR : Int → List Int → List Pr
  | _, [] => []
  | q, x :: W => (x, .int .i64 q) :: tR (q + 1) W
theorem rR_len (R : List Int) : (rR R).length = R.length := List.length_map ..
theorem tR_len : ∀ (W : List Int) (q : Int), (tR q W).length = W.length
  | [], _ => rfl
  | x :: W, q => by unfold tR; rw [List.length_cons, List.length_cons, tR_len W]
theorem rR_keys (R : List Int) : (rR R).map (·.1) = R := by
  unfold rR
  rw [List.map_map]
  exact (List.map_congr_left (fun _ _ => rfl)).trans (List.map_id' R)
theorem tR_keys : ∀ (W : List Int) (q : Int), (tR q W).map (·.1) = W
  | [], _ => rfl
  | x :: W, q => by unfold tR; rw [List.map_cons, tR_keys W]
theorem valP_rR (x : Int) : ∀ R : List Int, valP (rR R) x = if R.contains x then some (.bool true) else none
  | [] => rfl
  | y :: R => by
    have ih := valP_rR x R
    unfold rR at ih ⊢
    rw [List.map_cons]
    unfold valP
    rw [ih, List.contains_cons]
    by_cases h : x = y
    · subst h; simp
    · rw [if_neg h, beq_eq_false_iff_ne.2 h, Bool.false_or]
theorem rR_yes {x : Int} {R : List Int} (h : R.contains x = true) : (valP (rR R) x).getD (.bool false) = .bool true := by rw [valP_rR, if_pos h]; rfl
theorem rR_no {x : Int} {R : List Int} (h : R.contains x = false) : (valP (rR R) x).getD (.bool false) = .bool false := by rw [valP_rR, if_neg (by rw [h]; simp)]; rfl
theorem rR_snoc (R : List Int) (x : Int) : rR (R ++ [x]) = rR R ++ [(x, .bool true)] := by unfold rR; rw [List.map_append]; rfl
theorem rR_del (R : List Int) (x : Int) : delL (rR R) x = rR (R.filter fun y => !(y == x)) := by
  unfold delL rR
  rw [List.filter_map]
  rfl
theorem tR_snoc (x : Int) : ∀ (W : List Int) (q : Int), tR q (W ++ [x]) = tR q W ++ [(x, .int .i64 (q + (W.length : Int)))]
  | [], q => by simp [tR]
  | y :: W, q => by
    rw [List.cons_append]
    unfold tR
    rw [tR_snoc x W, List.cons_append, List.length_cons]
    congr 4
    simp only [Value.int.injEq, true_and]
    omega
theorem tR_none {x : Int} : ∀ {W : List Int} {q : Int}, x ∉ W → valP (tR q W) x = none
  | [], _, _ => rfl
  | y :: W, q, h => by
    rw [List.mem_cons, not_or] at h
    unfold tR valP
    rw [if_neg h.1]
    exact tR_none h.2
/-- Whose turn is which. -/
theorem tR_some {x : Int} : ∀ {W : List Int} {q : Int}, x ∈ W → ∃ t : Int, valP (tR q W) x = some (.int .i64 t) ∧ q ≤ t ∧ t < q + (W.length : Int) ∧ (t = q ↔ W.head? = some x)
  | [], _, h => by simp at h
  | y :: W, q, h => by
    unfold tR valP
    by_cases e : x = y
    · subst e
      refine ⟨q, by rw [if_pos rfl], by omega, by rw [List.length_cons]; omega, by simp⟩
    · rw [if_neg e]
      have hW : x ∈ W := (List.mem_cons.1 h).resolve_left e
      obtain ⟨t, h1, h2, h3, _⟩ := tR_some (q := q + 1) hW
      refine ⟨t, h1, by omega, by rw [List.length_cons]; omega, ?_⟩
      constructor
      · intro h; omega
      · intro h
        rw [List.head?_cons] at h
        injection h with h
        exact absurd h.symm e
theorem tR_del {x : Int} {W : List Int} (nd : (x :: W).Nodup) (q : Int) : delL (tR q (x :: W)) x = tR (q + 1) W := by
  have hn := (List.nodup_cons.1 nd).1
  have h : delL (tR (q + 1) W) x = tR (q + 1) W := del_same (tR_none hn)
  unfold delL at h ⊢
  rw [show tR q (x :: W) = (x, .int .i64 q) :: tR (q + 1) W from rfl, List.filter_cons_of_neg (by simp), h]

/-- Is somebody in? -/
def inB (R : List Int) (o : Option Int) (x : Int) : Bool := R.contains x || (o == some x)
/-- At block g a gate: who reads, who writes, who waits, the first one's turn. -/
def Gt (w : World) (B g : Nat) (v1 v2 : Value) (R : List Int) (o : Option Int) (W : List Int) (q : Int) : Prop :=
  B ≤ g ∧ (∃ x : Int, w.heap[g]? = some (.cells #[v1, .int .i64 x, .bool o.isSome, v2, .int .i64 q] 27 (0, 0)) ∧ ∀ y, o = some y → x = y) ∧ MapO w Try.prog 3 B v1 (rR R) ∧ MapO w Try.prog 3 B v2 (tR q W) ∧ ∀ j, At v1 j → ¬ At v2 j
/-- Its blocks. -/
def Its (g : Nat) (v1 v2 : Value) (j : Nat) : Prop := j = g ∨ At v1 j ∨ At v2 j
section
variable {S : Nat → Prop} {w w' : World} {B g : Nat} {v1 v2 : Value} {R W : List Int} {o : Option Int} {q : Int}
theorem Gt.tn (h : Gt w B g v1 v2 R o W q) (ht : Tn S w w') (hS : ∀ j, Its g v1 v2 j → ¬ S j) : Gt w' B g v1 v2 R o W q := by
  obtain ⟨h0, ⟨x, hx, hy⟩, h1, h2, h3⟩ := h
  exact ⟨h0, ⟨x, (ht.block g (lt_of_some hx) (hS g (.inl rfl))).trans hx, hy⟩, h1.tn ht fun j hj => hS j (.inr (.inl hj)), h2.tn ht fun j hj => hS j (.inr (.inr hj)), h3⟩
theorem Gt.quiet (h : Gt w B g v1 v2 R o W q) (ht : Tn (fun _ => False) w w') : Gt w' B g v1 v2 R o W q := h.tn ht fun _ _ hc => hc
theorem Gt.later (h : Gt w B g v1 v2 R o W q) (hb : Below w.heap.size w w') : Gt w' B g v1 v2 R o W q := h.quiet (Tn.of_below hb _)
theorem Gt.lt (h : Gt w B g v1 v2 R o W q) (j : Nat) (hj : Its g v1 v2 j) : B ≤ j ∧ j < w.heap.size := by
  obtain ⟨h0, ⟨x, hx, _⟩, h1, h2, _⟩ := h
  rcases hj with rfl | hj | hj
  · exact ⟨h0, lt_of_some hx⟩
  · exact ⟨(h1.lt j hj).1, (h1.lt j hj).2.1⟩
  · exact ⟨(h2.lt j hj).1, (h2.lt j hj).2.1⟩
/-- Its blocks that are rows of cells are gates. -/
theorem Gt.type (h : Gt w B g v1 v2 R o W q) {j : Nat} (hj : Its g v1 v2 j) {cs : Array Value} {t : TypeId} {f : Nat × Nat} (hc : w.heap[j]? = some (.cells cs t f)) : t = 27 := by
  obtain ⟨h0, ⟨x, hx, _⟩, h1, h2, _⟩ := h
  rcases hj with rfl | hj | hj
  · rw [hx] at hc
    injection hc with hc
    injection hc with _ hc
    exact hc.symm
  · exact absurd hc ((h1.lt j hj).2.2 _ _ _)
  · exact absurd hc ((h2.lt j hj).2.2 _ _ _)
theorem Gt.ndR (h : Gt w B g v1 v2 R o W q) : R.Nodup := by
  have := h.2.2.1.nd
  rwa [rR_keys] at this
theorem Gt.ndW (h : Gt w B g v1 v2 R o W q) : W.Nodup := by
  have := h.2.2.2.1.nd
  rwa [tR_keys] at this
end
/-- What a call leaves of a gate. -/
structure Left (w : World) (B g : Nat) (v1 v2 : Value) (R : List Int) (o : Option Int) (W : List Int) (q : Int) (w' : World) : Prop where
  ex : ∃ u1 u2, Gt w' B g u1 u2 R o W q ∧ ∀ j, Its g u1 u2 j → Its g v1 v2 j ∨ w.heap.size ≤ j
  tn : Tn (Its g v1 v2) w w'
theorem Left.trans {w w1 w2 : World} {B g : Nat} {v1 v2 u1 u2 : Value} {R W : List Int} {o : Option Int} {q : Int} (ht : Tn (Its g v1 v2) w w1) (hu : ∀ j, Its g u1 u2 j → Its g v1 v2 j ∨ w.heap.size ≤ j) (h : Left w1 B g u1 u2 R o W q w2) : Left w B g v1 v2 R o W q w2 := by
  obtain ⟨⟨x1, x2, h1, h2⟩, h3⟩ := h
  refine ⟨⟨x1, x2, h1, fun j hj => ?_⟩, ht.then h3 fun k hk hi => (hu k hi).resolve_right (by omega)⟩
  rcases h2 j hj with h | h
  · exact hu j h
  · exact .inr (Nat.le_trans ht.size h)
/-- A new one. -/
theorem Gt.new (w : World) (B : Nat) (hB : B ≤ w.heap.size) : Gt (w.alloc (.cells #[.map none, .int .i64 0, .bool false, .map none, .int .i64 0] 27)) B w.heap.size (.map none) (.map none) [] none [] 0 :=
  ⟨hB, ⟨0, heap_alloc_new w _, fun y hy => by cases hy⟩, .inl ⟨rfl, rfl⟩, .inl ⟨rfl, rfl⟩, fun j hj => by cases hj⟩

theorem zeroB (w : World) : (zeroValue 4).run Try.prog w = .ok (.bool false) w := by kernel_rfl
theorem zeroI (w : World) : (zeroValue 3).run Try.prog w = .ok (.int .i64 0) w := by kernel_rfl
section
variable (B g : Nat) (v1 v2 : Value) (R : List Int) (o : Option Int) (W : List Int) (q x : Int) (w : World)
theorem in_any (h : Gt w B g v1 v2 R o W q) (hx : Fits x) :
    Calls Try.prog 18 #[.pointer (some ⟨g, 0, none⟩), .int .i64 x] w fun e w' => e = .returned (.bool (inB R o x)) ∧ w = w' := by
  obtain ⟨h0, ⟨y, hb, hy⟩, h1, h2, h3⟩ := h
  have c0 := cell_of_blk hb 0
  have c1 := cell_of_blk hb 1
  have c2 := cell_of_blk hb 2
  have hl := h1.look Try.underlying3 Try.underlying24 (zeroB w) hx
  have HL := Lib.hid hl
  by_cases hR : R.contains x = true
  · have he : inB R o x = true := by unfold inB; rw [hR]; rfl
    rw [he]
    rw [rR_yes hR] at hl
    clear hR he h1 h2 h3 hy hb h0
    go_enter Try.func18, Try.ntmps18
    go_wp2
    go_ret
    exact ⟨rfl, rfl⟩
  · have hR : R.contains x = false := by simpa using hR
    rw [rR_no hR] at hl
    rcases o with _ | z
    · have he : inB R none x = false := by unfold inB; rw [hR]; rfl
      rw [he]
      clear hR he h1 h2 h3 hy hb h0
      go_enter Try.func18, Try.ntmps18
      go_wp2
      go_ret
      exact ⟨rfl, rfl⟩
    · have hz := hy z rfl
      subst hz
      have he : inB R (some y) x = (y == x) := by
        unfold inB; rw [hR, Bool.false_or]
        rfl
      rw [he]
      by_cases e : y = x
      · have e2 : (y == x) = true := by simpa using e
        clear hR he h1 h2 h3 hy hb h0
        rw [e2]
        go_enter Try.func18, Try.ntmps18
        go_wp2
        go_ret
        exact ⟨rfl, rfl⟩
      · have e2 : (y == x) = false := by simpa using e
        clear hR he h1 h2 h3 hy hb h0
        rw [e2]
        go_enter Try.func18, Try.ntmps18
        go_wp2
        go_ret
        exact ⟨rfl, rfl⟩
theorem readers_any (h : Gt w B g v1 v2 R o W q) :
    Calls Try.prog 15 #[.pointer (some ⟨g, 0, none⟩)] w fun e w' => e = .returned (.int .i64 (R.length : Int)) ∧ w = w' := by
  obtain ⟨h0, ⟨y, hb, hy⟩, h1, h2, h3⟩ := h
  have c0 := cell_of_blk hb 0
  have hl := fun ty => h1.len Try.underlying24 ty
  rw [rR_len] at hl
  clear h1 h2 h3 hy hb h0
  go_enter Try.func15, Try.ntmps15
  go_wp2
  go_ret
  exact ⟨rfl, rfl⟩
theorem waiting_any (h : Gt w B g v1 v2 R o W q) :
    Calls Try.prog 17 #[.pointer (some ⟨g, 0, none⟩)] w fun e w' => e = .returned (.int .i64 (W.length : Int)) ∧ w = w' := by
  obtain ⟨h0, ⟨y, hb, hy⟩, h1, h2, h3⟩ := h
  have c3 := cell_of_blk hb 3
  have hl := fun ty => h2.len Try.underlying25 ty
  rw [tR_len] at hl
  clear h1 h2 h3 hy hb h0
  go_enter Try.func17, Try.ntmps17
  go_wp2
  go_ret
  exact ⟨rfl, rfl⟩
theorem writers_any (h : Gt w B g v1 v2 R o W q) :
    Calls Try.prog 16 #[.pointer (some ⟨g, 0, none⟩)] w fun e w' => e = .returned (.int .i64 (o.toList.length : Int)) ∧ w = w' := by
  obtain ⟨h0, ⟨y, hb, hy⟩, h1, h2, h3⟩ := h
  have c2 := cell_of_blk hb 2
  clear h1 h2 h3 hy hb h0
  rcases o with _ | z
  · go_enter Try.func16, Try.ntmps16
    go_wp2
    go_ret
    exact ⟨rfl, rfl⟩
  · go_enter Try.func16, Try.ntmps16
    go_wp2
    go_ret
    exact ⟨rfl, rfl⟩
end
end Go.Proofs.Ythmehalkijbpdaa.gat
