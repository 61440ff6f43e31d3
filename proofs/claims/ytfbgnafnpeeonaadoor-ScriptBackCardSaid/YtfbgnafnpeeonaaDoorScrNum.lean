/- What script's numbers answers: the numbers of words, a blank between each two. Conditions: at most a million bytes; what the listed variables hold. -/
import Derived.Test.YtfbgnafnpeeonaaDoorScrSeq
import Derived.Test.YtfbgnafnpeeonaaDoorCalNum
namespace Go.Proofs.YtfbgnafnpeeonaaDoor.scr
set_option maxRecDepth 100000
open Go.RowKit Go.Proofs.YtfbgnafnpeeonaaDoor.words Go.Proofs.YtfbgnafnpeeonaaDoor.cal

def SplO (s : ByteArray) (w : World) (e : Ending) (w' : World) : Prop :=
  ∃ g1 g2 g3, e = .returned (.func (.func 86) #[] #[.pointer (some ⟨g1, 0, none⟩), .pointer (some ⟨g2, 0, none⟩), .pointer (some ⟨g3, 0, none⟩)]) ∧ SqC g1 g2 g3 s w' ∧ w.heap.size ≤ g1 ∧ w.heap.size ≤ g2 ∧ w.heap.size ≤ g3 ∧ g1 ≠ g2 ∧ Below w.heap.size w w'
theorem splitseq0_any (s : ByteArray) (w : World) : Calls Tryd.prog 75 #[.string s, .string ⟨#[32]⟩, .int .i64 0] w (SplO s w) := by
  have hmf : ∀ (fn : Fn) (first cap : Array Value) (w : World), (Instr.makeFunc fn first cap).run Tryd.prog w = .ok (.func fn first cap) w := fun _ _ _ _ => rfl
  obtain ⟨W1, hW1⟩ : ∃ W1, W1 = ((w.alloc (.cells #[.string s] 9)).alloc (.cells #[.string ⟨#[32]⟩] 9)).alloc (.cells #[.int .i64 0] 3) := ⟨_, rfl⟩
  have hsz : (w.alloc (.cells #[.string s] 9)).heap.size = w.heap.size + 1 := by simp
  have hsz2 : ((w.alloc (.cells #[.string s] 9)).alloc (.cells #[.string ⟨#[32]⟩] 9)).heap.size = w.heap.size + 1 + 1 := by simp
  have h1 : W1.heap[w.heap.size]? = some (.cells #[.string s] 9 (0, 0)) := by
    rw [hW1]
    exact (Below.heap_alloc _ _ _ (by rw [hsz2]; omega)).trans ((Below.heap_alloc _ _ _ (by rw [hsz]; omega)).trans (heap_alloc_new w _))
  have h2 : W1.heap[w.heap.size + 1]? = some (.cells #[.string ⟨#[32]⟩] 9 (0, 0)) := by
    rw [hW1, ← hsz]
    exact (Below.heap_alloc _ _ _ (by simp)).trans (heap_alloc_new _ _)
  have h3 : W1.heap[w.heap.size + 1 + 1]? = some (.cells #[.int .i64 0] 3 (0, 0)) := by
    rw [hW1, ← hsz2]
    exact heap_alloc_new _ _
  have hb : Below w.heap.size w W1 := by rw [hW1]; exact (((Below.refl _ _).alloc (Nat.le_refl _) _).alloc (by rw [hsz]; omega) _).alloc (by rw [hsz2]; omega) _
  have HF : Hid (SplO s w (.returned (.func (.func 86) #[] #[.pointer (some ⟨w.heap.size + 1, 0, none⟩), .pointer (some ⟨w.heap.size, 0, none⟩), .pointer (some ⟨w.heap.size + 1 + 1, 0, none⟩)])) W1) := Lib.hid ⟨_, _, _, rfl, ⟨h2, h1, h3⟩, by omega, by omega, by omega, by omega, hb⟩
  have HW1 := Lib.hid hW1
  clear hW1 h1 h2 h3 hb hsz hsz2
  go_enter Tryd.func75, Tryd.ntmps75
  go_wp2_with fail
  go_ret
  rw [HW1.out] at HF
  exact HF.out
theorem splitseq_any (s : ByteArray) (w : World) : Calls Tryd.prog 62 #[.string s, .string ⟨#[32]⟩] w (SplO s w) := by
  have HC := Lib.hid (splitseq0_any s w)
  go_enter Tryd.func62, Tryd.ntmps62
  go_wp2_with fail
  refine HC.out.mono ?_
  rintro e w' ⟨g1, g2, g3, rfl, hr⟩
  have HR := Lib.hid hr
  clear hr HC
  go_wp2_with fail
  go_ret
  exact ⟨g1, g2, g3, rfl, HR.out⟩
def NumsO (s : ByteArray) (w : World) (e : Ending) (w' : World) : Prop :=
  ((∃ ns A c, numsM s.data.toList = some ns ∧ e = .returned (.tuple #[.slice A ns.length c, .bool true]) ∧ w'.ownsRow w.heap.size 3 1 (.slice A ns.length c) ns.length (ns.map (Value.int .i64))) ∨
    (numsM s.data.toList = none ∧ e = .returned (.tuple #[.slice none 0 0, .bool false]))) ∧ Below w.heap.size w w'
attribute [local go_sem] Oper.semAt_some
/-- What lies between two rounds. -/
structure NmI (w : World) (N q2 q3 q4 g1 g2 g3 L D : Nat) (rest : ByteArray) (v : Value) (o : Obj) (W : World) : Prop where
  b2 : W.heap[q2]? = some (.cells #[.slice none 0 0] 26 (0, 0))
  b3 : W.heap[q3]? = some (.cells #[.bool false] 4 (0, 0))
  b4 : W.heap[q4]? = some (.cells #[v] 26 (0, 0))
  sq : SqC g1 g2 g3 rest W
  lo : W.heap[L]? = some o
  de : W.heap[D]? = some (.deferred (some []))
  bl : Below w.heap.size w W
  ge : w.heap.size ≤ q2 ∧ q2 < q3 ∧ q3 < q4 ∧ w.heap.size ≤ g2 ∧ w.heap.size ≤ L ∧ w.heap.size ≤ N ∧ g1 ≠ g2
  lt : q4 < N ∧ g1 < N ∧ g2 < N ∧ g3 < N
section
variable {w W W' : World} {N q2 q3 q4 g1 g2 g3 L D : Nat} {rest : ByteArray} {v : Value} {o : Obj}
theorem NmI.later (h : NmI w N q2 q3 q4 g1 g2 g3 L D rest v o W) (hb : Below W.heap.size W W') : NmI w N q2 q3 q4 g1 g2 g3 L D rest v o W' :=
  have k : ∀ {i : Nat} {x : Obj}, W.heap[i]? = some x → W'.heap[i]? = some x := fun hx => (hb.block _ (lt_of_some hx)).trans hx
  ⟨k h.b2, k h.b3, k h.b4, ⟨k h.sq.c1, k h.sq.c2, k h.sq.c3⟩, k h.lo, k h.de, h.bl.trans (hb.mono h.bl.size), h.ge, h.lt⟩
theorem obj_ne {i j : Nat} {x y : Obj} (hi : W.heap[i]? = some x) (hj : W.heap[j]? = some y) (h : x ≠ y) : i ≠ j := by
  rintro rfl
  rw [hi] at hj
  injection hj with hj
  exact h hj
theorem NmI.put (h : NmI w N q2 q3 q4 g1 g2 g3 L D rest v o W) (hn : ∀ cs t f, o ≠ .cells cs t f) (hd : o ≠ .deferred (some [])) (o' : Obj) : NmI w N q2 q3 q4 g1 g2 g3 L D rest v o' (W.putObj L o') :=
  have k : ∀ {i : Nat} {x : Obj}, W.heap[i]? = some x → o ≠ x → (W.putObj L o').heap[i]? = some x := fun hx hne => (World.putObj_heap_other (obj_ne hx h.lo (Ne.symm hne))).trans hx
  ⟨k h.b2 (hn _ _ _), k h.b3 (hn _ _ _), k h.b4 (hn _ _ _), ⟨k h.sq.c1 (hn _ _ _), k h.sq.c2 (hn _ _ _), k h.sq.c3 (hn _ _ _)⟩, World.putObj_heap_same (lt_of_some h.lo), k h.de hd, h.bl.grown (grownBy_putObj' W L o') h.bl.size (fun _ e => by cases e; exact h.ge.2.2.2.2.1), h.ge, h.lt⟩
theorem NmI.turn (h : NmI w N q2 q3 q4 g1 g2 g3 L D rest v o W) (hn : ∀ cs t f, o ≠ .cells cs t f) (r : ByteArray) : NmI w N q2 q3 q4 g1 g2 g3 L D r v o (W.setCell ⟨g2, 0, none⟩ (.string r)) :=
  have k : ∀ {i : Nat} {x : Obj}, W.heap[i]? = some x → i ≠ g2 → (W.setCell ⟨g2, 0, none⟩ (.string r)).heap[i]? = some x := fun hx hne => (Below.heap_setCell _ _ _ _ hne).trans hx
  ⟨k h.b2 (blk_ne h.b2 h.sq.c2 (by decide)), k h.b3 (blk_ne h.b3 h.sq.c2 (by decide)), k h.b4 (blk_ne h.b4 h.sq.c2 (by decide)), ⟨k h.sq.c1 h.ge.2.2.2.2.2.2, blk_set h.sq.c2 _, k h.sq.c3 (blk_ne h.sq.c3 h.sq.c2 (by decide))⟩, k h.lo (obj_ne h.lo h.sq.c2 (hn _ _ _)), k h.de (obj_ne h.de h.sq.c2 (by simp)), h.bl.setCell (p := ⟨g2, 0, none⟩) h.ge.2.2.2.1 _, h.ge, h.lt⟩
/-- The results' variables anew. -/
theorem NmI.back (h : NmI w N q2 q3 q4 g1 g2 g3 L D rest v o W) (hn : ∀ cs t f, o ≠ .cells cs t f) : NmI w N q2 q3 q4 g1 g2 g3 L D rest v o ((W.setCell ⟨q2, 0, none⟩ (.slice none 0 0)).setCell ⟨q3, 0, none⟩ (.bool false)) := by
  have g := h.ge
  have k : ∀ {i : Nat} {x : Obj}, W.heap[i]? = some x → i ≠ q2 → i ≠ q3 → ((W.setCell ⟨q2, 0, none⟩ (.slice none 0 0)).setCell ⟨q3, 0, none⟩ (.bool false)).heap[i]? = some x := fun hx h1 h2 => (Below.heap_setCell _ _ _ _ h2).trans ((Below.heap_setCell _ _ _ _ h1).trans hx)
  have n2 : ∀ {i : Nat} {cs : Array Value} {t : TypeId} {f : Nat × Nat}, W.heap[i]? = some (.cells cs t f) → t ≠ 26 → i ≠ q2 := fun hx ht => blk_ne hx h.b2 ht
  have n3 : ∀ {i : Nat} {cs : Array Value} {t : TypeId} {f : Nat × Nat}, W.heap[i]? = some (.cells cs t f) → t ≠ 4 → i ≠ q3 := fun hx ht => blk_ne hx h.b3 ht
  exact ⟨(Below.heap_setCell _ _ _ _ (by show q2 ≠ q3; omega)).trans (blk_set h.b2 _), blk_set ((Below.heap_setCell _ _ _ _ (by show q3 ≠ q2; omega)).trans h.b3) _, k h.b4 (by omega) (by omega),
    ⟨k h.sq.c1 (n2 h.sq.c1 (by decide)) (n3 h.sq.c1 (by decide)), k h.sq.c2 (n2 h.sq.c2 (by decide)) (n3 h.sq.c2 (by decide)), k h.sq.c3 (n2 h.sq.c3 (by decide)) (n3 h.sq.c3 (by decide))⟩,
    k h.lo (obj_ne h.lo h.b2 (hn _ _ _)) (obj_ne h.lo h.b3 (hn _ _ _)), k h.de (obj_ne h.de h.b2 (by simp)) (obj_ne h.de h.b3 (by simp)),
    (h.bl.setCell (p := ⟨q2, 0, none⟩) g.1 _).setCell (p := ⟨q3, 0, none⟩) (by show _ ≤ q3; omega) _, h.ge, h.lt⟩
theorem NmI.app {k : Nat} {xs : List Value} (h : NmI w N q2 q3 q4 g1 g2 g3 L D rest v o W) (hn : ∀ cs t f, o ≠ .cells cs t f) (hown : W.ownsRow N 3 1 v k xs) (hg : W.grownBy W' v.ownBlock) (v' : Value) : NmI w N q2 q3 q4 g1 g2 g3 L D rest v' o (W'.setCell ⟨q4, 0, none⟩ v') := by
  have g := h.ge
  have l := h.lt
  have hv : ∀ i, v.ownBlock = some i → N ≤ i ∧ ∃ cs t f, W.heap[i]? = some (.cells cs t f) := fun i e => by
    rcases hown.2 with ⟨rfl, _⟩ | ⟨j, cap, cur, rfl, hj, hh, _⟩
    · simp [Value.ownBlock] at e
    · obtain rfl : j = i := by simpa [Value.ownBlock] using e
      exact ⟨hj, _, _, _, hh⟩
  have k1 : ∀ {i : Nat} {x : Obj}, W.heap[i]? = some x → (i < N ∨ ∀ cs t f, x ≠ .cells cs t f) → W'.heap[i]? = some x := fun {i x} hx hc => (hg.block i (lt_of_some hx) (fun e => by
    obtain ⟨h1, cs, t, f, h2⟩ := hv i e.symm
    rcases hc with hc | hc
    · omega
    · rw [hx] at h2
      injection h2 with h2
      exact hc _ _ _ h2)).trans hx
  have k : ∀ {i : Nat} {x : Obj}, W.heap[i]? = some x → (i < N ∨ ∀ cs t f, x ≠ .cells cs t f) → i ≠ q4 → (W'.setCell ⟨q4, 0, none⟩ v').heap[i]? = some x := fun hx hc h1 => (Below.heap_setCell _ _ _ _ h1).trans (k1 hx hc)
  exact ⟨k h.b2 (.inl (by omega)) (by omega), k h.b3 (.inl (by omega)) (by omega), blk_set (k1 h.b4 (.inl (by omega))) _,
    ⟨k h.sq.c1 (.inl l.2.1) (blk_ne h.sq.c1 h.b4 (by decide)), k h.sq.c2 (.inl l.2.2.1) (blk_ne h.sq.c2 h.b4 (by decide)), k h.sq.c3 (.inl l.2.2.2) (blk_ne h.sq.c3 h.b4 (by decide))⟩,
    k h.lo (.inr hn) (obj_ne h.lo h.b4 (hn _ _ _)), k h.de (.inr fun _ _ _ e => by cases e) (obj_ne h.de h.b4 (by simp)),
    (h.bl.grown hg h.bl.size (fun i e => by have := (hv i e).1; omega)).setCell (p := ⟨q4, 0, none⟩) (by show _ ≤ q4; omega) _, h.ge, h.lt⟩
/-- How a round ends. -/
def NmP (w : World) (N q2 q3 q4 g1 g2 g3 L D : Nat) (rest : ByteArray) (o : Obj) (s : ByteArray) (ps : List ByteArray) : Exit → Act → World → Prop
  | .normal, _, W' => ∃ v ns, numsL (ps.map fun x => x.data.toList) = some ns ∧ NmI w N q2 q3 q4 g1 g2 g3 L D rest v o W' ∧ W'.ownsRow N 3 1 v ns.length (ns.map (Value.int .i64))
  | .ret, _, W' => numsM s.data.toList = none ∧ ∃ v, NmI w N q2 q3 q4 g1 g2 g3 L D rest v o W'
  | _, _, _ => False
theorem NmI.row {k : Nat} {xs : List Value} (h : NmI w N q2 q3 q4 g1 g2 g3 L D rest v o W) (hown : W.ownsRow N 3 1 v k xs) (hg : W.grownBy W' v.ownBlock) : W'.heap[q4]? = some (.cells #[v] 26 (0, 0)) := by
  have l := h.lt
  refine (hg.block q4 (lt_of_some h.b4) (fun e => ?_)).trans h.b4
  rcases hown.2 with ⟨rfl, _⟩ | ⟨j, cap, cur, rfl, hj, _⟩
  · simp [Value.ownBlock] at e
  · have : q4 = j := by simpa [Value.ownBlock] using e
    omega
/-- Behind the last stores, and behind the marks. -/
theorem NmI.last (h : NmI w N q2 q3 q4 g1 g2 g3 L N rest v o W) (u : Value) (b : Bool) :
    ((W.setCell ⟨q2, 0, none⟩ u).setCell ⟨q3, 0, none⟩ (.bool b)).heap[N]? = some (.deferred (some [])) ∧
    (((W.setCell ⟨q2, 0, none⟩ u).setCell ⟨q3, 0, none⟩ (.bool b)).putObj N (.deferred none)).cell? ⟨q2, 0, none⟩ = some u ∧
    (((W.setCell ⟨q2, 0, none⟩ u).setCell ⟨q3, 0, none⟩ (.bool b)).putObj N (.deferred none)).cell? ⟨q3, 0, none⟩ = some (.bool b) ∧
    Below w.heap.size w (((W.setCell ⟨q2, 0, none⟩ u).setCell ⟨q3, 0, none⟩ (.bool b)).putObj N (.deferred none)) := by
  have g := h.ge
  have l := h.lt
  have hd : ((W.setCell ⟨q2, 0, none⟩ u).setCell ⟨q3, 0, none⟩ (.bool b)).heap[N]? = some (.deferred (some [])) := (Below.heap_setCell _ _ _ _ (by show N ≠ q3; omega)).trans ((Below.heap_setCell _ _ _ _ (by show N ≠ q2; omega)).trans h.de)
  have e2 : ((W.setCell ⟨q2, 0, none⟩ u).setCell ⟨q3, 0, none⟩ (.bool b)).heap[q2]? = some (.cells #[u] 26 (0, 0)) := (Below.heap_setCell _ _ _ _ (by show q2 ≠ q3; omega)).trans (blk_set h.b2 _)
  have e3 : ((W.setCell ⟨q2, 0, none⟩ u).setCell ⟨q3, 0, none⟩ (.bool b)).heap[q3]? = some (.cells #[.bool b] 4 (0, 0)) := blk_set ((Below.heap_setCell _ _ _ _ (by show q3 ≠ q2; omega)).trans h.b3) _
  refine ⟨hd, cell_of_blk ((World.putObj_heap_other (by omega)).trans e2) 0, cell_of_blk ((World.putObj_heap_other (by omega)).trans e3) 0, ?_⟩
  have hb : Below w.heap.size w ((W.setCell ⟨q2, 0, none⟩ u).setCell ⟨q3, 0, none⟩ (.bool b)) := (h.bl.setCell (p := ⟨q2, 0, none⟩) g.1 _).setCell (p := ⟨q3, 0, none⟩) (by show _ ≤ q3; omega) _
  exact hb.grown (grownBy_putObj' _ N _) hb.size (fun _ e => by cases e; omega)
end
theorem own_lower {w : World} {B B' : Nat} {e : TypeId} {size n : Nat} {v : Value} {xs : List Value} (h : w.ownsRow B' e size v n xs) (hB : B ≤ B') : w.ownsRow B e size v n xs := by
  refine ⟨h.1, ?_⟩
  rcases h.2 with h0 | ⟨g, cap, cur, h1, h2, h3⟩
  · exact .inl h0
  · exact .inr ⟨g, cap, cur, h1, Nat.le_trans hB h2, h3⟩
theorem nm_bound {pre : List ByteArray} {ns : List Int} (h : numsL (pre.map fun x => x.data.toList) = some ns) : ns.length = pre.length := by
  have := congrArg List.length (numsL_some h).1
  simpa using this
theorem infoI : (Tryd.prog.info? 3).map (fun i => (i.zero, i.size, i.bytes)) = some (some (.int .i64 0), 1, 8) := by kernel_rfl
set_option maxHeartbeats 6400000 in
theorem numbers_any (m : Int) (s : ByteArray) (w : World) (hs : s.size ≤ 1000000) (hE : Env m w) : Calls Tryd.prog 49 #[.string s] w (NumsO s w) := by
  obtain ⟨i0, hi, hz0, hz1, hz2⟩ := info_parts infoI
  refine (callsIn_wide (n := 9)).1 ?_
  refine callsIn_of_wp_marks Tryd.func49 rfl trivial ?_ rfl
  simp only [Tryd.ntmps49, List.size_toArray, List.length_cons, List.length_nil, Nat.reduceAdd, Nat.reduceSub, Array.replicate_succ, Array.replicate_zero, List.push_toArray, List.append_toArray, List.nil_append, List.cons_append]
  gi_wp2_with (refine ⟨trivial, ?_⟩; gi_at_call 62; refine (callsIn_wide.2 (splitseq_any s _)).mono ?_; rintro e w' ⟨g1, g2, g3, rfl, hsq, hg1, hg2, hg3, h12, hb⟩)
  have s1 : (w.alloc (.cells #[.slice none 0 0] 26)).heap.size = w.heap.size + 1 := by simp
  have s2 : ((w.alloc (.cells #[.slice none 0 0] 26)).alloc (.cells #[.bool false] 4)).heap.size = w.heap.size + 1 + 1 := by simp
  obtain ⟨WA, hWA⟩ : ∃ WA, WA = ((w.alloc (.cells #[.slice none 0 0] 26)).alloc (.cells #[.bool false] 4)).alloc (.cells #[.slice none 0 0] 26) := ⟨_, rfl⟩
  rw [← hWA] at hg1 hg2 hg3 hb
  have sA : WA.heap.size = w.heap.size + 1 + 1 + 1 := by rw [hWA]; simp
  have r2 : WA.heap[w.heap.size]? = some (.cells #[.slice none 0 0] 26 (0, 0)) := by
    rw [hWA]
    exact (Below.heap_alloc _ _ _ (by rw [s2]; omega)).trans ((Below.heap_alloc _ _ _ (by rw [s1]; omega)).trans (heap_alloc_new w _))
  have r3 : WA.heap[w.heap.size + 1]? = some (.cells #[.bool false] 4 (0, 0)) := by
    rw [hWA, ← s1]
    exact (Below.heap_alloc _ _ _ (by simp)).trans (heap_alloc_new _ _)
  have r4 : WA.heap[w.heap.size + 1 + 1]? = some (.cells #[.slice none 0 0] 26 (0, 0)) := by
    rw [hWA, ← s2]
    exact heap_alloc_new _ _
  have hbA : Below w.heap.size w WA := by rw [hWA]; exact (((Below.refl _ _).alloc (Nat.le_refl _) _).alloc (by rw [s1]; omega) _).alloc (by rw [s2]; omega) _
  have hb0 : Below w.heap.size w w' := hbA.trans (hb.mono hbA.size)
  have kA : ∀ {i : Nat} {x : Obj}, WA.heap[i]? = some x → w'.heap[i]? = some x := fun hx => (hb.block _ (lt_of_some hx)).trans hx
  have hsz := hb.size
  have hq : w.heap.size ≤ g2 := by omega
  have l1 := lt_of_some hsq.c1
  have l2 := lt_of_some hsq.c2
  have l3 := lt_of_some hsq.c3
  obtain ⟨q3, hq3⟩ : ∃ q3, q3 = w.heap.size + 1 := ⟨_, rfl⟩
  obtain ⟨q4, hq4⟩ : ∃ q4, q4 = q3 + 1 := ⟨_, rfl⟩
  obtain ⟨q2, hq2⟩ : ∃ q2, q2 = w.heap.size := ⟨_, rfl⟩
  have hgo : ∀ (N : Nat) (L : Nat) (o : Obj) (W : World), Below w'.heap.size w' W → N = w'.heap.size → L = N + 1 → W.heap[L]? = some o → W.heap[N]? = some (.deferred (some [])) → NmI w N q2 q3 q4 g1 g2 g3 L N s (.slice none 0 0) o W := fun N L o W hw hN hL ho hd => by
    have kW : ∀ {i : Nat} {x : Obj}, w'.heap[i]? = some x → W.heap[i]? = some x := fun hx => (hw.block _ (lt_of_some hx)).trans hx
    subst hN
    exact ⟨by rw [hq2]; exact kW (kA r2), by rw [hq3]; exact kW (kA r3), by rw [hq4, hq3]; exact kW (kA r4), ⟨kW hsq.c1, kW hsq.c2, kW hsq.c3⟩, ho, hd, hb0.trans (hw.mono hb0.size), ⟨by omega, by omega, by omega, hq, by omega, by omega, h12⟩, ⟨by omega, l1, l2, l3⟩⟩
  rw [← hq3, ← hq4, ← hq2]
  obtain ⟨N, hN⟩ : ∃ N, N = w'.heap.size := ⟨_, rfl⟩
  have HGo := Lib.hid hgo
  have HE := Lib.hid hE
  have HQ := Lib.hid (And.intro hq2 (And.intro hq3 hq4))
  have hbw : Below w.heap.size w w' := hb0
  clear hgo hE hq hq2 hq3 hq4 hWA r2 r3 r4 hbA hb0 kA s1 s2 sA hsz hg1 hg2 hg3 hb hsq l1 l2 l3 h12
  generalize hA : Code.region 3 _ _ = ASG
  generalize hBd : Code.block 1 _ = BODY
  refine wpIn_rangeFunc ?_
  intro fn hfn
  obtain ⟨rec, hrec⟩ : ∃ rec : LoopState → Option Code → Loop, rec = fun st pe => { state := st, pending := pe, fn, tmps := #[.string s, undef, .pointer (some ⟨q2, 0, none⟩), .pointer (some ⟨q3, 0, none⟩), .pointer (some ⟨q4, 0, none⟩), undef, undef, undef, .string s, .func (.func 86) #[] #[.pointer (some ⟨g1, 0, none⟩), .pointer (some ⟨g2, 0, none⟩), .pointer (some ⟨g3, 0, none⟩)], undef, undef, undef, undef, undef, undef, undef, undef, undef, undef, undef, undef, undef], params := #[10], assign := ASG, body := BODY, defers := N } := ⟨_, rfl⟩
  have sD : (w'.alloc (.deferred (some []))).heap.size = w'.heap.size + 1 := by simp
  obtain ⟨W1, hW1⟩ : ∃ W1, W1 = (w'.alloc (.deferred (some []))).alloc (.loop (rec .ready none)) := ⟨_, rfl⟩
  have hl1 : W1.heap[w'.heap.size + 1]? = some (.loop (rec .ready none)) := by rw [hW1, ← sD]; exact World.alloc_heap_new _ _
  have hd1 : W1.heap[w'.heap.size]? = some (.deferred (some [])) := by
    rw [hW1]
    exact (Below.heap_alloc _ _ _ (by simp)).trans (World.alloc_heap_new w' _)
  have hb1 : Below w'.heap.size w' W1 := by rw [hW1]; exact ((Below.refl _ _).alloc (Nat.le_refl _) _).alloc (by rw [sD]; omega) _
  have hI1 := HGo.out N (N + 1) _ W1 hb1 hN rfl (by rw [hN]; exact hl1) (by rw [hN]; exact hd1)
  have eg := enters_of (P := Tryd.prog) Tryd.func86 (by kernel_rfl) rfl
  have hen := run_enterLoop_outer (P := Tryd.prog) (w := w') fn (rec .ready none).tmps #[10] ASG BODY
  rw [hrec] at hen hW1
  rw [← hN] at hen
  rw [← hW1] at hen
  clear hW1 hl1 hd1 hb1 sD hN hbw
  refine ⟨N + 1, [{ target := .collected N, args := #[] }], W1, { target := .fn (.func 86) #[.pointer (some ⟨g1, 0, none⟩), .pointer (some ⟨g2, 0, none⟩), .pointer (some ⟨g3, 0, none⟩)], args := #[.func (.yield (N + 1)) #[] #[]] }, W1, 86, #[.func (.yield (N + 1)) #[] #[], .pointer (some ⟨g1, 0, none⟩), .pointer (some ⟨g2, 0, none⟩), .pointer (some ⟨g3, 0, none⟩)], W1, hen, ?_, fun _ _ => trivial, ?_, fun _ => by omega, ?_⟩
  · simp [resolve, go_sem]
  · simp [invoke, go_sem]
  have hno : ∀ st pe cs t f, Obj.loop (rec st pe) ≠ .cells cs t f := fun _ _ _ _ _ e => by cases e
  have hnd : ∀ st pe, Obj.loop (rec st pe) ≠ .deferred (some []) := fun _ _ e => by cases e
  refine (seq_any (9 - 1) (by omega) (N + 1) g1 g2 g3 s
    (fun pre rest W => ∃ v ns, numsL (pre.map fun x => x.data.toList) = some ns ∧ NmI w N q2 q3 q4 g1 g2 g3 (N + 1) N rest v (.loop (rec .ready none)) W ∧ W.ownsRow N 3 1 v ns.length (ns.map (Value.int .i64)))
    (fun W => numsM s.data.toList = none ∧ ∃ v rest, NmI w N q2 q3 q4 g1 g2 g3 (N + 1) N rest v (.loop (rec .done (some .ret))) W) hs ?_ ?_ ?_ W1 ⟨_, [], rfl, hI1, World.ownsRow_nil _ _ _ _⟩).mono ?_
  · rintro pre rest W ⟨v, ns, _, h, _⟩
    exact h.sq
  · rintro pre rest rest' W ⟨v, ns, h1, h2, h3⟩
    refine ⟨v, ns, h1, h2.turn (hno _ _) rest', own_setCell h3 ?_ _⟩
    intro e
    have hlt := h2.lt
    rcases h3.2 with ⟨rfl, _⟩ | ⟨j, cap, cur, rfl, hj, _⟩
    · simp [Value.ownBlock] at e
    · have : j = g2 := by simpa [Value.ownBlock] using e
      omega
  · rintro pre rest x W ⟨v, ns, hns, hI, hown⟩ hx hmem hlt
    have hyr := run_yield (P := Tryd.prog) (args := #[.string x]) hI.lo (by rw [hrec]; rfl)
    rw [hrec] at hyr
    refine ⟨fn, _, ASG, BODY, hyr, roundIn_of_wpIn trivial ?_⟩
    clear hyr
    rw [← hA]
    gi_wp2
    refine ⟨_, run_beginRound hI.lo (by rw [hrec]), ?_⟩
    have hI2 := hI.put (hno _ _) (hnd _ _) (.loop { rec .ready none with state := .busy })
    have hown2 := ownsRow_putObj hown (.loop { rec .ready none with state := .busy }) hI.lo rfl
    generalize hW2 : W.putObj _ _ = W2 at hI2 hown2 ⊢
    obtain ⟨RC, hRC⟩ : ∃ RC : Obj, RC = Obj.loop { rec .ready none with state := .busy } := ⟨_, rfl⟩
    have hnRC : ∀ cs t f, RC ≠ .cells cs t f := fun _ _ _ e => by rw [hRC] at e; cases e
    have hdRC : RC ≠ .deferred (some []) := fun e => by rw [hRC] at e; cases e
    rw [← hRC] at hI2
    refine wpIn_mono (Q := NmP w N q2 q3 q4 g1 g2 g3 (N + 1) N rest RC s (pre ++ [x])) ?_ ?_
    · have HI2 := Lib.hid (And.intro hI2 hown2)
      have HPl := Lib.hid (And.intro hns (And.intro hmem hlt))
      have HRC := Lib.hid (And.intro hnRC hdRC)
      have hcall := CallsIn.inRound (N + 1) (callsIn_wide (n := 9 - 1 - 1 - 1).2 (number_any m x W2 (by omega) (HE.out.later hI2.bl)))
      clear hI hown hI2 hown2 hns hmem hlt hRC hen hI1 hnRC hdRC hrec hno hnd hW2
      rw [← hBd]
      clear hBd hA
      gi_wp2_with fail
      refine ⟨trivial, ?_⟩
      gi_at_call 63
      refine hcall.mono ?_
      rintro e w3 ⟨ho, hb3⟩
      have hI3 := HI2.out.1.later hb3
      have hO3 : w3.ownsRow N 3 1 v ns.length (ns.map (Value.int .i64)) := by
        refine ⟨HI2.out.2.1, ?_⟩
        rcases HI2.out.2.2 with h | ⟨g, cap, cur, h1, h2, h3, h4⟩
        · exact .inl h
        · exact .inr ⟨g, cap, cur, h1, h2, (hb3.block _ (lt_of_some h3)).trans h3, h4⟩
      clear hcall
      rcases ho with ⟨hn, rfl⟩ | ⟨k, hn, rfl⟩
      · have d2 := cell_of_blk hI3.b2 0
        have d3 := cell_of_blk hI3.b3 0
        have z2 := free_of_blk hI3.b2 0
        have z3 := free_of_blk hI3.b3 0
        have hge := hI3.ge
        have y3 := (Below.heap_setCell w3 ⟨q2, 0, none⟩ (.slice none 0 0) q3 (by show q3 ≠ q2; omega)).trans hI3.b3
        have x3 := cell_of_blk y3 0
        have v3 := free_of_blk y3 0
        have HF : Hid (NmP w N q2 q3 q4 g1 g2 g3 (N + 1) N rest RC s (pre ++ [x]) .ret { tmps := #[], defers := [] } ((w3.setCell ⟨q2, 0, none⟩ (.slice none 0 0)).setCell ⟨q3, 0, none⟩ (.bool false))) := Lib.hid ⟨numsL_bad _ _ HPl.out.2.1 hn, v, hI3.back HRC.out.1⟩
        clear hI3 hO3 hn hb3 hge y3
        gi_wp2
        exact HF.out
      · have d4 := cell_of_blk hI3.b4 0
        have hlb : ns.length ≤ 1000000 := by
          have hln := nm_bound HPl.out.1
          have hsl := spl_len 32 s.data.toList
          rw [size_list] at hsl
          have hlt := HPl.out.2.2
          omega
        have hB := hI3.bl
        have hN0 := hI3.ge.2.2.2.2.2.1
        have hNw : N < w3.heap.size := lt_of_some hI3.de
        have hnn : numsL ((pre ++ [x]).map fun x => x.data.toList) = some (ns ++ [k]) := by
          rw [List.map_append, List.map_cons, List.map_nil, numsL_snoc _ _ _ HPl.out.1, hn]
          rfl
        have hI4 := hI3.later ((Below.refl w3.heap.size w3).alloc (Nat.le_refl _) (.cells #[.int .i64 k] 3))
        have HNN := Lib.hid hnn
        have HI4 := Lib.hid hI4
        have HB := Lib.hid (And.intro hB hN0)
        have z4 := free_of_blk hI3.b4 0
        clear hI3 hn hb3 hnn hI4 hB hN0
        have hmm : ns.length + 1 ≤ maxLen := by unfold maxLen; omega
        have hmb : (ns.length + 1) * 8 ≤ 140737488355328 := by omega
        gi_wp2_with (gi_at_builtin; refine wpListIn_append_own _ rfl _ _ 26 rfl N 3 i0 (.int .i64 0) 1 8 Tryd.underlying26 hi hz0 hz1 hz2 rfl (by decide) _ _ _ rfl (hO3.alloc _) ⟨w3.heap.size, 0, none⟩ 1 1 [.int .i64 k] rfl rfl (cell_one_new _ _ _) (by simp [Value.oneCell']) hmm hmb (by simp; omega) ?_; intro v' w1 hown' hgrow _; obtain ⟨g', cap', rfl⟩ := ownsRow_succ hown'; have hq4 := HI4.out.row (hO3.alloc _) hgrow; have u4 := cell_of_blk hq4 0; have y4 := free_of_blk hq4 0; clear d4 z4; have HG := Lib.hid (And.intro hown' hgrow); clear hown' hgrow hq4)
        refine ⟨_, ns ++ [k], HNN.out, HI4.out.app HRC.out.1 (hO3.alloc _) HG.out.2 _, ?_⟩
        have h5 := HG.out.1
        rw [List.length_append, List.map_append]
        refine own_setCell h5 ?_ _
        intro e
        have hl4 := HI4.out.lt
        have h6 : g' = q4 := by simpa [Value.ownBlock] using e
        rcases h5.2 with ⟨h7, _⟩ | ⟨j, cap, cur, h7, hj, _⟩
        · cases h7
        · injection h7 with h8
          injection h8 with h8
          injection h8 with h8
          omega
    · clear hBd hA hen
      rintro e a3 W3 hp
      cases e with
      | normal =>
        obtain ⟨v2, ns2, h1, h2, h3⟩ := hp
        have hl := h2.lo
        rw [hRC] at hl
        have hr := run_endRound (P := Tryd.prog) none hl
        refine ⟨_, _, hr, .inl ⟨rfl, v2, ns2, by simpa using h1, ?_, ownsRow_putObj h3 _ h2.lo (by rw [hRC]; rfl)⟩⟩
        have := h2.put hnRC hdRC (.loop (rec .ready none))
        rw [hrec] at this ⊢
        exact this
      | ret =>
        obtain ⟨h1, v2, h2⟩ := hp
        have hl := h2.lo
        rw [hRC] at hl
        have hr := run_endRound (P := Tryd.prog) (some .ret) hl
        refine ⟨_, _, hr, .inr ⟨rfl, h1, v2, rest, ?_⟩⟩
        have := h2.put hnRC hdRC (.loop (rec .done (some .ret)))
        rw [hrec] at this ⊢
        exact this
      | exit id => exact hp.elim
      | goto t => exact hp.elim
      | panic ch => exact hp.elim
      | outgrown => exact hp.elim
  · clear hBd hA hen eg hfn hI1
    rintro e W2 ⟨⟨v, rfl⟩, (⟨ps, rest, hps, v2, ns, h1, h2, h3⟩ | ⟨h1, v2, rest, h2⟩)⟩
    · obtain ⟨W4, hW4⟩ : ∃ W4, W4 = W2.putObj (N + 1) (.loop (rec .exhausted none)) := ⟨_, rfl⟩
      have hr : (Instr.endLoop (N + 1)).run Tryd.prog W2 = .ok none W4 := by
        have := run_endLoop (P := Tryd.prog) h2.lo (by rw [hrec]; simp)
        rw [hrec] at this hW4
        rw [hW4]
        exact this
      have h4 := h2.put (hno _ _) (hnd _ _) (.loop (rec .exhausted none))
      have h5 := ownsRow_putObj h3 (.loop (rec .exhausted none)) h2.lo rfl
      rw [← hW4] at h4 h5
      refine ⟨none, W4, hr, ?_⟩
      clear hW4
      obtain ⟨A, l, c, rfl⟩ := own_slice h5
      have hl : l = ns.length := by
        rcases h5.2 with ⟨h6, h7⟩ | ⟨j, cap, cur, h6, _⟩
        · injection h6 with _ h6 _
          omega
        · injection h6
      subst hl
      have d4 := cell_of_blk h4.b4 0
      have d2 := cell_of_blk h4.b2 0
      have z2 := free_of_blk h4.b2 0
      have hge := h4.ge
      have y3 := (Below.heap_setCell W4 ⟨q2, 0, none⟩ (.slice A ns.length c) q3 (by show q3 ≠ q2; omega)).trans h4.b3
      have x3 := cell_of_blk y3 0
      have v3 := free_of_blk y3 0
      have H4 := Lib.hid (And.intro h4 h5)
      have HP := Lib.hid (And.intro hps h1)
      clear hno hnd hrec h1 h2 h3 h4 h5 hr hge y3 hps
      gi_wp2
      have hln := H4.out.1.last (.slice A ns.length c) true
      obtain ⟨p1, p2, p3, p4⟩ := hln
      have hge := H4.out.1.ge
      have hlt := H4.out.1.lt
      refine ⟨by simp, .inl ⟨_, _, rfl, run_takeDeferred p1, ?_⟩⟩
      refine ⟨.tuple #[.slice A ns.length c, .bool true], by simp [results, Tryd.results49, go_sem, p2, p3], .inl ⟨ns, A, c, ?_, rfl, ?_⟩, p4⟩
      · unfold numsM
        rw [← HP.out.1]
        exact HP.out.2
      · have hnb : ∀ q, q < N → (Value.slice A ns.length c).ownBlock ≠ some q := fun q hq e => by
          rcases H4.out.2.2 with ⟨h6, _⟩ | ⟨j, cap, cur, h6, hj, _⟩
          · rw [h6] at e
            simp [Value.ownBlock] at e
          · rw [h6] at e
            have : j = q := by simpa [Value.ownBlock] using e
            omega
        exact own_lower (ownsRow_putObj (own_setCell (own_setCell H4.out.2 (hnb q2 (by omega)) _) (hnb q3 (by omega)) _) _ p1 rfl) hge.2.2.2.2.2.1
    · obtain ⟨W4, hW4⟩ : ∃ W4, W4 = W2.putObj (N + 1) (.loop (rec .exhausted (some .ret))) := ⟨_, rfl⟩
      have hr : (Instr.endLoop (N + 1)).run Tryd.prog W2 = .ok (some .ret) W4 := by
        have := run_endLoop (P := Tryd.prog) h2.lo (by rw [hrec]; simp)
        rw [hrec] at this hW4
        rw [hW4]
        exact this
      have h4 := h2.put (hno _ _) (hnd _ _) (.loop (rec .exhausted (some .ret)))
      rw [← hW4] at h4
      refine ⟨some .ret, W4, hr, ?_⟩
      clear hW4
      have H4 := Lib.hid (And.intro h4 h1)
      clear hno hnd hrec h1 h2 h4 hr
      gi_wp2
      have h4 := H4.out.1
      have hge := h4.ge
      have hlt := h4.lt
      have c2 := cell_of_blk ((World.putObj_heap_other (w := W4) (o := .deferred none) (show q2 ≠ N by omega)).trans h4.b2) 0
      have c3 := cell_of_blk ((World.putObj_heap_other (w := W4) (o := .deferred none) (show q3 ≠ N by omega)).trans h4.b3) 0
      have hb : Below w.heap.size w (W4.putObj N (.deferred none)) := h4.bl.grown (grownBy_putObj' _ N _) h4.bl.size (fun _ e => by cases e; omega)
      refine ⟨by simp, .inl ⟨_, _, rfl, run_takeDeferred h4.de, ?_⟩⟩
      exact ⟨.tuple #[.slice none 0 0, .bool false], by simp [results, Tryd.results49, go_sem, c2, c3], .inr ⟨H4.out.2, rfl⟩, hb⟩
end Go.Proofs.YtfbgnafnpeeonaaDoor.scr
