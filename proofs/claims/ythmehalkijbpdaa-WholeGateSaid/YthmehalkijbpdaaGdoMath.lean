/- GateDoes: what is kept, round by round. No condition. -/
import Derived.Test.YthmehalkijbpdaaGatRefWrite
import Derived.Test.YthmehalkijbpdaaArgAct17
namespace Go.Proofs.Ythmehalkijbpdaa.gdo
set_option maxRecDepth 100000
open Go.RowKit Go.Proofs.Ythmehalkijbpdaa.words Go.Proofs.Ythmehalkijbpdaa.lru Go.Proofs.Ythmehalkijbpdaa.mpi Go.Proofs.Ythmehalkijbpdaa.gat

section
variable {w w' : World} {B g b : Nat} {v1 v2 a1 a2 a3 : Value} {R R' W W' : List Int} {o o' : Option Int} {q q' : Int}
theorem rf_left {B' : Nat} (h : Rf w B' a1 a2 a3 R' o' W') (hg : Gt w B g v1 v2 R o W q) (ht : Tn (Its g v1 v2) w w') : Rf w' B' a1 a2 a3 R' o' W' := by
  have hne : ∀ {v : Value} {L : List Int}, Rw w B' v L → ∀ k, v.ownBlock = some k → ¬ Its g v1 v2 k := fun hr k hk hi => by
    rcases hr.2 with ⟨rfl, _⟩ | ⟨b, cap, cur, rfl, _, hh, _⟩
    · simp [Value.ownBlock] at hk
    · have hkb : b = k := by simpa [Value.ownBlock] using hk
      subst hkb
      exact absurd (hg.type hi hh) (by decide)
  exact ⟨h.r1.tn ht (hne h.r1), h.r2.tn ht (hne h.r2), h.r3.tn ht (hne h.r3)⟩
theorem bx_left (h : Bx w b a1 a2 a3) (hg : Gt w B g v1 v2 R o W q) (ht : Tn (Its g v1 v2) w w') : Bx w' b a1 a2 a3 :=
  (ht.block b (lt_of_some h) (fun hi => absurd (hg.type hi h) (by decide))).trans h
/-- All that the law keeps: behind j acts. -/
structure InG (w : World) (g b j : Nat) (wr : World) (v1 v2 a1 a2 a3 : Value) (R : List Int) (o : Option Int) (W : List Int) (q : Int) : Prop where
  gt : Gt wr w.heap.size g v1 v2 R o W q
  rf : Rf wr w.heap.size a1 a2 a3 R o W
  bx : Bx wr b a1 a2 a3
  lb : w.heap.size ≤ b
  below : Below w.heap.size w wr
  alone : o.isSome = true → R = []
  q0 : 0 ≤ q
  ql : q + (W.length : Int) ≤ (j : Int)
  rl : R.length ≤ j
theorem InG.later {j : Nat} {wr : World} (h : InG w g b j wr v1 v2 a1 a2 a3 R o W q) (hb : Below wr.heap.size wr w') : InG w g b j w' v1 v2 a1 a2 a3 R o W q :=
  ⟨h.gt.later hb, h.rf.later hb, h.bx.later hb, h.lb, h.below.trans (hb.mono h.below.size), h.alone, h.q0, h.ql, h.rl⟩
/-- Behind the program's call. -/
structure Mid (w : World) (g b : Nat) (wr : World) (v1 v2 a1 a2 a3 : Value) (R' : List Int) (o' : Option Int) (W' : List Int) (q' : Int) (R : List Int) (o : Option Int) (W : List Int) : Prop where
  gt : Gt wr w.heap.size g v1 v2 R' o' W' q'
  rf : Rf wr w.heap.size a1 a2 a3 R o W
  bx : Bx wr b a1 a2 a3
  lb : w.heap.size ≤ b
  below : Below w.heap.size w wr
theorem InG.mid {j : Nat} {wr : World} (h : InG w g b j wr v1 v2 a1 a2 a3 R o W q) (hl : gat.Left wr w.heap.size g v1 v2 R' o' W' q' w') : ∃ u1 u2, Mid w g b w' u1 u2 a1 a2 a3 R' o' W' q' R o W := by
  obtain ⟨u1, u2, hg, _⟩ := hl.ex
  exact ⟨u1, u2, hg, rf_left h.rf h.gt hl.tn, bx_left h.bx h.gt hl.tn, h.lb, h.below.trans (left_below hl h.gt h.below.size)⟩
theorem Mid.fin {j : Nat} {wr w3 w4 : World} {u1 u2 u3 : Value} (h : Mid w g b wr v1 v2 a1 a2 a3 R' o' W' q' R o W) (hr : Rf w3 w.heap.size u1 u2 u3 R' o' W') (hb : Below wr.heap.size wr w3) (h4 : w4 = ((w3.setCell ⟨b, 0, none⟩ u1).setCell ⟨b, 1, none⟩ u2).setCell ⟨b, 2, none⟩ u3)
    (ha : o'.isSome = true → R' = []) (hq : 0 ≤ q') (hl : q' + (W'.length : Int) ≤ (j : Int)) (hR : R'.length ≤ j) : InG w g b j w4 v1 v2 u1 u2 u3 R' o' W' q' := by
  have hbx := h.bx.later hb
  have hg := h.gt.later hb
  have ht : Tn (fun k => k = b) w3 w4 := by
    rw [h4]
    exact (((Tn.refl (fun j => j = b) w3).setCell (p := ⟨b, 0, none⟩) (.inr rfl) _).setCell (p := ⟨b, 1, none⟩) (.inr rfl) _).setCell (p := ⟨b, 2, none⟩) (.inr rfl) _
  have hb4 : Bx w4 b u1 u2 u3 := by
    have e := setsV_all (vs := [u1, u2, u3]) hbx rfl
    rw [h4]
    exact e
  refine ⟨hg.tn ht fun k hk e => ?_, hr.over hbx ht, hb4, h.lb, ?_, ha, hq, hl, hR⟩
  · subst e
    exact absurd (hg.type hk hbx) (by decide)
  · rw [h4]
    exact below_set h.lb (below_set h.lb (below_set h.lb (h.below.trans (hb.mono h.below.size))))
theorem addW_nd {x : Int} (h : W.Nodup) : (addW W x).Nodup := by
  unfold addW
  split
  · exact h
  · rename_i hc
    rw [List.nodup_append]
    refine ⟨h, by simp, fun a ha b hb => ?_⟩
    have : b = x := by simpa using hb
    subst this
    rintro rfl
    exact hc (List.contains_iff_mem.2 ha)
theorem addW_le (W : List Int) (x : Int) : (addW W x).length ≤ W.length + 1 := by
  unfold addW
  split
  · omega
  · rw [List.length_append]; simp
theorem in_none {x : Int} (h : inB R o x = false) : R.contains x = false := by
  unfold inB at h
  rcases hc : R.contains x with _ | _
  · rfl
  · rw [hc] at h; cases h
theorem slicesN (h : Rf w B a1 a2 a3 R o W) : ∃ A1 n1 c1 A2 n2 c2 A3 n3 c3, a1 = .slice A1 n1 c1 ∧ a2 = .slice A2 n2 c2 ∧ a3 = .slice A3 n3 c3 := by
  obtain ⟨A1, c1, A2, c2, A3, c3, h1, h2, h3⟩ := h.slices
  exact ⟨A1, _, c1, A2, _, c2, A3, _, c3, h1, h2, h3⟩
/-- What a cut keeps. -/
def Cut (w : World) (g b j : Nat) (v7 v8 : Value) (wx : World) : Prop := ∃ (d : Bool) (v1 v2 a1 a2 a3 : Value) (R : List Int) (o : Option Int) (W : List Int) (q : Int), v7 = .bool d ∧ v8 = .bool d ∧ Hid (InG w g b j wx v1 v2 a1 a2 a3 R o W q)
end
end Go.Proofs.Ythmehalkijbpdaa.gdo
