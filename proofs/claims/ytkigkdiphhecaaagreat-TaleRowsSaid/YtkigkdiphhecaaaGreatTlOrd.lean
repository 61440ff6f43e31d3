/- Order of two records whose answers have no names. Conditions: the row lies in memory. -/
import Derived.Test.YtkigkdiphhecaaaGreatTlSort
namespace Go.Proofs.YtkigkdiphhecaaaGreat.tal
set_option maxRecDepth 100000
open Go.RowKit Go.Proofs.YtkigkdiphhecaaaGreat.words

def srt (x y : Rc) : Rc × Rc := if y.ma < x.ma then (y, x) else (x, y)
theorem ins_any (g c : Nat) (x y : Rc) (w : World) (h : Two w g x y) : Calls Tryz.prog 27 #[.slice (some ⟨g, 0, none⟩) 2 c, .int .i64 0, .int .i64 2, .func (.func 20) #[] #[]] w (fun e w' => (∃ u, e = .returned u) ∧ Two w' g (srt x y).1 (srt x y).2 ∧ lru.Tn (fun j => j = g) w w') := by
  unfold srt
  by_cases hlt : y.ma < x.ma
  · rw [if_pos hlt]
    exact ins_swap g c x y w h (by simp [hlt])
  · rw [if_neg hlt]
    exact ins_keep g c x y w h (by simp [hlt])
theorem stab_any (g c : Nat) (x y : Rc) (w : World) (h : Two w g x y) : Calls Tryz.prog 24 #[.slice (some ⟨g, 0, none⟩) 2 c, .int .i64 2, .func (.func 20) #[] #[]] w (fun e w' => (∃ u, e = .returned u) ∧ Two w' g (srt x y).1 (srt x y).2 ∧ lru.Tn (fun j => j = g) w w') := by
  have HI := Lib.hid (ins_any g c x y w h)
  clear h
  go_enter Tryz.func24, Tryz.ntmps24
  go_wp2_with fail
  refine wp_loop_rounds 1 ?_
  rw [rounds_succ]
  go_wp2_with fail
  refine HI.out.mono ?_
  rintro e w1 ⟨⟨u, rfl⟩, h1, h2⟩
  have HE := Lib.hid (And.intro h1 h2)
  clear h1 h2 HI
  go_wp2_with fail
  refine wp_loop_rounds 1 ?_
  rw [rounds_succ]
  go_wp2_with fail
  go_end0
  exact ⟨⟨_, rfl⟩, HE.out⟩
theorem sort_any (g c : Nat) (x y : Rc) (w : World) (h : Two w g x y) : Calls Tryz.prog 19 #[.slice (some ⟨g, 0, none⟩) 2 c, .func (.func 20) #[] #[]] w (fun e w' => (∃ u, e = .returned u) ∧ Two w' g (srt x y).1 (srt x y).2 ∧ lru.Tn (fun j => j = g) w w') := by
  have HI := Lib.hid (stab_any g c x y w h)
  clear h
  go_enter Tryz.func19, Tryz.ntmps19
  go_wp2_with fail
  refine HI.out.mono ?_
  rintro e w1 ⟨⟨u, rfl⟩, h1, h2⟩
  have HE := Lib.hid (And.intro h1 h2)
  clear h1 h2 HI
  go_wp2_with fail
  go_end0
  exact ⟨⟨_, rfl⟩, HE.out⟩
theorem Two.of_own {w : World} {B : Nat} {A : Option Addr} {c : Nat} {x y : Rc} (h : w.ownsRow B 32 19 (.slice A 2 c) 2 (x.cs ++ y.cs)) : ∃ g, A = some ⟨g, 0, none⟩ ∧ B ≤ g ∧ Two w g x y := by
  rcases h.2 with ⟨_, h0⟩ | ⟨g, cap, cur, hv, hb, hg, hle, _, hs, ht⟩
  · omega
  · injection hv with hv
    exact ⟨g, hv, hb, cur, hg, by omega, ht⟩
/-- What lies there is stored there. -/
theorem Two.same {w : World} {g k : Nat} {x y : Rc} {v : Value} (h : Two w g x y) (hc : w.cell? ⟨g, k, none⟩ = some v) : Two (w.setCell ⟨g, k, none⟩ v) g x y := by
  obtain ⟨cur, h1, h2, h3⟩ := h
  have hk : cur[k]? = some v := by rw [← cell_of_blk h1]; exact hc
  have e : cur.setIfInBounds k v = cur := by
    apply Array.ext_getElem?
    intro i
    rw [Array.getElem?_setIfInBounds]
    split
    · rename_i hi
      subst hi
      split
      · exact hk.symm
      · rename_i hn
        rw [Array.getElem?_eq_none (by omega)]
    · rfl
  refine ⟨cur, ?_, h2, h3⟩
  simp [World.setCell, Array.getElem?_modify, h1, e]
/-- A record whose answer has no names. -/
def Bare (x : Rc) : Prop := x.cs[14]? = some (.slice none 0 0)
theorem clone_nil (w : World) : Calls Tryz.prog 18 #[.slice none 0 0] w fun e w' => e = .returned (.slice none 0 0) ∧ w' = w := by
  have heq0 := fun wx => Lib.run_eql_slice_nil (P := Tryz.prog) wx 24 9 none 0 0 0 0 Tryz.underlying24
  go_enter Tryz.func18, Tryz.ntmps18
  go_wp2_with fail
  go_ret
  exact ⟨rfl, rfl⟩
theorem lies_two {w : World} {g o : Nat} {x y : Rc} (h1 : w.rangeAt g o x.cs) (h2 : w.rangeAt g (o + 19) y.cs) : Lies w (some ⟨g, o, none⟩) (x.cs ++ y.cs) := fun j u hj => by
  rcases Nat.lt_or_ge j 19 with h | h
  · rw [List.getElem?_append_left (by rw [x.len]; exact h)] at hj
    exact ⟨g, o, rfl, World.block_lt_of_cell? w _ (h1 j u hj), h1 j u hj⟩
  · rw [List.getElem?_append_right (by rw [x.len]; exact h), x.len] at hj
    have := h2 _ u hj
    rw [show o + 19 + (j - 19) = o + j by omega] at this
    exact ⟨g, o, rfl, World.block_lt_of_cell? w _ this, this⟩
/-- What Order answers of two. -/
def OrdOut (x y : Rc) (w : World) (e : Ending) (w' : World) : Prop := (∃ g c, e = .returned (.slice (some ⟨g, 0, none⟩) 2 c) ∧ w.heap.size ≤ g ∧ Two w' g (srt x y).1 (srt x y).2) ∧ Below w.heap.size w w'
theorem Two.put14 {a w : World} {g : Nat} {x y : Rc} (h : Two w g x y) (hx : Bare x) (hy : Bare y) (hb : Below a.heap.size a w) (hg : a.heap.size ≤ g) (k : Nat) (hk : k = 14 ∨ k = 33) :
    w.cell? ⟨g, k, none⟩ = some (.slice none 0 0) ∧ w.frozen? ⟨g, k, none⟩ = false ∧ Two (w.setCell ⟨g, k, none⟩ (.slice none 0 0)) g x y ∧ Below a.heap.size a (w.setCell ⟨g, k, none⟩ (.slice none 0 0)) := by
  have hc : w.cell? ⟨g, k, none⟩ = some (.slice none 0 0) := by
    rcases hk with rfl | rfl
    · have := h.at_.1 14 _ hx
      rwa [Nat.zero_add] at this
    · exact h.at_.2 14 _ hy
  obtain ⟨cur, h1, _, _⟩ := id h
  exact ⟨hc, free_of_blk h1 _, h.same hc, hb.setCell (p := ⟨g, k, none⟩) hg _⟩
set_option maxHeartbeats 3200000 in
theorem order_two (g0 o0 c0 : Nat) (x y : Rc) (w : World) (hx : Bare x) (hy : Bare y) (h1 : w.rangeAt g0 o0 x.cs) (h2 : w.rangeAt g0 (o0 + 19) y.cs) :
    Calls Tryz.prog 13 #[.slice (some ⟨g0, o0, none⟩) 2 c0] w (OrdOut x y w) := by
  have HC := Lib.hid (copy_rec (some ⟨g0, o0, none⟩) 2 c0 (x.cs ++ y.cs) w (lies_two h1 h2) (fun h => by cases h) (by omega) (by rw [List.length_append, x.len, y.len]) (fun u hu => by
    rcases List.mem_append.1 hu with h | h
    · exact x.one u h
    · exact y.one u h))
  have HX := Lib.hid (And.intro hx hy)
  have HN : Hid (∀ w', Calls Tryz.prog 18 #[.slice none 0 0] w' fun e w'' => e = .returned (.slice none 0 0) ∧ w'' = w') := Lib.hid clone_nil
  clear h1 h2 hx hy
  go_enter Tryz.func13, Tryz.ntmps13
  go_wp2_with fail
  refine HC.out.mono ?_
  rintro e w1 ⟨⟨A, c, rfl, _, _, hown⟩, hb1⟩
  obtain ⟨g, rfl, hg, ht⟩ := Two.of_own hown
  have HG := Lib.hid hg
  obtain ⟨q0, f0, ht0, hb2⟩ := ht.put14 HX.out.1 HX.out.2 hb1 hg 14 (.inl rfl)
  obtain ⟨W2, hW2⟩ : ∃ W2, W2 = w1.setCell ⟨g, 14, none⟩ (.slice none 0 0) := ⟨_, rfl⟩
  rw [← hW2] at ht0 hb2
  obtain ⟨q1, f1, ht1, hb3⟩ := ht0.put14 HX.out.1 HX.out.2 hb2 hg 33 (.inr rfl)
  obtain ⟨W3, hW3⟩ : ∃ W3, W3 = W2.setCell ⟨g, 33, none⟩ (.slice none 0 0) := ⟨_, rfl⟩
  rw [← hW3] at ht1 hb3
  have HS := Lib.hid (sort_any g c x y W3 ht1)
  have HB3 := Lib.hid hb3
  have HW2 := Lib.hid hW2
  have HW3 := Lib.hid hW3
  clear hown hb1 hg ht ht0 hb2 ht1 hb3 hW2 hW3 HC
  go_wp2_with fail
  refine wp_loop_rounds 3 ?_
  rw [rounds_succ]
  go_wp2_with fail
  refine (HN.out _).mono ?_
  rintro e w2 ⟨rfl, rfl⟩
  go_wp2_with fail
  rw [← HW2.out]
  rw [rounds_succ]
  go_wp2_with fail
  refine (HN.out _).mono ?_
  rintro e w2 ⟨rfl, rfl⟩
  go_wp2_with fail
  rw [← HW3.out]
  rw [rounds_succ]
  go_wp2_with fail
  refine HS.out.mono ?_
  rintro e w4 ⟨⟨u, rfl⟩, h1, h2⟩
  have HE : Hid (OrdOut x y w (.returned (.slice (some ⟨g, 0, none⟩) 2 c)) w4) := Lib.hid ⟨⟨g, c, rfl, HG.out, h1⟩, ((lru.Tn.of_below HB3.out (fun j => j = g)).then h2 (fun _ _ h => h)).below (fun k hk => by subst hk; exact HG.out) (Nat.le_refl _)⟩
  clear h1 h2 HS
  go_wp2_with fail
  go_ret
  exact HE.out
end Go.Proofs.YtkigkdiphhecaaaGreat.tal
