/- Which of two records is the first one that isn't as somebody answers: first, Wrong. Conditions: the records lie in memory, and have no names. -/
import Derived.Test.YtkigkdiphhecaaaGreatTlOrd
import Derived.Test.YtkigkdiphhecaaaGreatTlSmR
import Derived.Test.YtkigkdiphhecaaaGreatTlDo
namespace Go.Proofs.YtkigkdiphhecaaaGreat.tal
set_option maxRecDepth 100000
open Go.RowKit Go.Proofs.YtkigkdiphhecaaaGreat.words

/-- An answer that is an error alone. -/
def ans (e : Int) : Rc := ⟨0, 0, 0, ⟨#[]⟩, 0, 0, 0, ⟨#[]⟩, e, 0, 0, 0, 0, ⟨#[]⟩, [], false, 0, 0, 0, none, 0⟩
theorem Bare.parts {x : Rc} (h : Bare x) : x.A = none ∧ x.N = [] ∧ x.c = 0 := by
  have h2 : some (Value.slice x.A x.N.length x.c) = some (.slice none 0 0) := h
  injection h2 with h2
  injection h2 with h3 h4 h5
  exact ⟨h3, List.eq_nil_of_length_eq_zero h4, h5⟩
/-- The State of no branches, epoch 0, no cursors. -/
def SpT (s t m : Nat) (w : World) : Prop := Sp 0 s t m none 0 [] 0 0 1 0 [] w
def DoT (s t m : Nat) (op r : Value) : Prop := ∀ w, SpT s t m w → Calls Tryz.prog 48 #[.pointer (some ⟨s, 0, none⟩), op] w fun e w' => e = .returned r ∧ SpT s t m w' ∧ lru.Tn (Bs s t m) w w'
theorem m_do (a : Addr) (w : World) : Sem.run Tryz.prog (method 376 52 (.pointer (some a)) "Do") w = .ok (48, .pointer (some a)) w := by kernel_rfl
/-- A record that is as somebody answers, at steps that are right behind a step. -/
structure Fine (last : Int) (x : Rc) : Prop where
  m0 : last < x.ma
  m1 : x.ca ≤ x.ma
  m2 : x.ma ≤ x.re
theorem same_bare {x : Rc} {e : Int} {b : Bool} (h : Bare x) (hb : smB x (ans e) = b) (w : World) : Calls Tryz.prog 9 #[.agg #[.int .i64 x.e, .int .i64 x.rk, .int .i64 x.z, .int .i64 x.wh, .int .i64 x.id, .string x.x, .slice x.A x.N.length x.c, .bool x.fin], .agg #[.int .i64 e, .int .i64 0, .int .i64 0, .int .i64 0, .int .i64 0, .string ⟨#[]⟩, .slice none 0 0, .bool false]] w fun en w' => en = .returned (.bool b) ∧ Below w.heap.size w w' := by
  obtain ⟨h1, h2, h3⟩ := h.parts
  have := same_any x (ans e) w (by rw [h2]; exact fun i y hy => by simp at hy) (fun i y hy => by cases hy) (by rw [h2]; simp) (by show 0 ≤ _; omega)
  rw [hb] at this
  exact this
set_option maxHeartbeats 12800000 in
theorem first_two (b : Bool) (s t m g c : Nat) (x y : Rc) (ex ey : Int) (w : World) (hT : Two w g x y) (hS : SpT s t m w) (hne : Hid (¬ Bs s t m g)) (hfx : Fine 0 x) (hfy : Fine x.ma y) (hbx : Bare x) (hby : Bare y)
    (hdx : DoT s t m (.agg #[.int .i64 x.k, .string x.p, .int .i64 x.o, .int .i64 x.n, .int .i64 x.i, .string x.g]) (.agg #[.int .i64 ex, .int .i64 0, .int .i64 0, .int .i64 0, .int .i64 0, .string ⟨#[]⟩, .slice none 0 0, .bool false])) (hsx : smB x (ans ex) = true)
    (hdy : DoT s t m (.agg #[.int .i64 y.k, .string y.p, .int .i64 y.o, .int .i64 y.n, .int .i64 y.i, .string y.g]) (.agg #[.int .i64 ey, .int .i64 0, .int .i64 0, .int .i64 0, .int .i64 0, .string ⟨#[]⟩, .slice none 0 0, .bool false])) (hsy : smB y (ans ey) = b) :
    Calls Tryz.prog 22 #[.iface 52 (.pointer (some ⟨s, 0, none⟩)), .slice (some ⟨g, 0, none⟩) 2 c] w fun e w' => e = .returned (.int .i64 (if b then -1 else 1)) ∧ lru.Tn (Bs s t m) w w' := by
  have HT := Lib.hid hT
  have HS := Lib.hid hS
  have HFx := Lib.hid hfx
  have HFy := Lib.hid hfy
  have HDx := Lib.hid hdx
  have HDy := Lib.hid hdy
  have HSmx := Lib.hid (same_bare hbx hsx)
  have HSmy := Lib.hid (same_bare hby hsy)
  unfold DoT at HDx HDy
  clear hT hS hfx hfy hbx hby hdx hsx hdy hsy
  go_enter Tryz.func22, Tryz.ntmps22
  go_wp2_with fail
  refine wp_loop_rounds 3 ?_
  obtain ⟨wa, hwa⟩ : ∃ wa, wa = w.alloc (.cells #[.int .i64 x.cl, .int .i64 x.ix, .int .i64 x.k, .string x.p, .int .i64 x.o, .int .i64 x.n, .int .i64 x.i, .string x.g, .int .i64 x.e, .int .i64 x.rk, .int .i64 x.z, .int .i64 x.wh, .int .i64 x.id, .string x.x, .slice x.A x.N.length x.c, .bool x.fin, .int .i64 x.ca, .int .i64 x.ma, .int .i64 x.re] 32) := ⟨_, rfl⟩
  have hb0 : Below w.heap.size w wa := by rw [hwa]; exact (Below.refl _ _).alloc (Nat.le_refl _) _
  have HX0 := Lib.hid (show wa.heap[w.heap.size]? = some (.cells #[.int .i64 x.cl, .int .i64 x.ix, .int .i64 x.k, .string x.p, .int .i64 x.o, .int .i64 x.n, .int .i64 x.i, .string x.g, .int .i64 x.e, .int .i64 x.rk, .int .i64 x.z, .int .i64 x.wh, .int .i64 x.id, .string x.x, .slice x.A x.N.length x.c, .bool x.fin, .int .i64 x.ca, .int .i64 x.ma, .int .i64 x.re] 32 (0, 0)) by rw [hwa]; exact heap_alloc_new w _)
  obtain ⟨g0, hg0⟩ : ∃ g0, g0 = w.heap.size := ⟨_, rfl⟩
  rw [← hg0] at HX0
  have HR0 : Hid (w.rangeAt g 0 x.cs) := Lib.hid HT.out.at_.1
  have HSS0 : Hid (∀ w', SpT s t m w' → lru.Tn (Bs s t m) wa w' → (w'.heap[g0]? = some (.cells #[.int .i64 x.cl, .int .i64 x.ix, .int .i64 x.k, .string x.p, .int .i64 x.o, .int .i64 x.n, .int .i64 x.i, .string x.g, .int .i64 x.e, .int .i64 x.rk, .int .i64 x.z, .int .i64 x.wh, .int .i64 x.id, .string x.x, .slice x.A x.N.length x.c, .bool x.fin, .int .i64 x.ca, .int .i64 x.ma, .int .i64 x.re] 32 (0, 0)) ∧ SpT s t m w' ∧ lru.Tn (Bs s t m) wa w')) := Lib.hid fun w' h1 h2 => ⟨(h2.block g0 (lt_of_some HX0.out) (fun hj => by
      have hlt := HS.out.lt
      rcases hj with hj | hj | hj
      · have := hlt.1; omega
      · have := hlt.2.1; omega
      · have := hlt.2.2; omega)).trans HX0.out, h1, h2⟩
  have HSa0 : Hid (SpT s t m wa) := Lib.hid (HS.out.later hb0)
  have HTa0 : Hid (Two wa g x y) := Lib.hid (HT.out.later hb0)
  have HBa0 := Lib.hid hb0
  have HW0 := Lib.hid hwa
  have HGg0 := Lib.hid hg0
  clear hwa hb0 hg0
  rw [rounds_succ]
  go_upto_region 5 with (first | (refine wl_load rfl rfl rfl HR0.out ?_) | (refine wl_put (r := x) rfl rfl rfl rfl rfl ?_))
  rw [← HW0.out]
  simp only [← HGg0.out]
  clear HW0
  have t0 : ¬ x.ma ≤ 0 := by have := HFx.out.m0; omega
  have t1 : ¬ x.ma < x.ca := by have := HFx.out.m1; omega
  have t2 : ¬ x.re < x.ma := by have := HFx.out.m2; omega
  have t3 : decide (x.ma ≤ 0) = false := by simp; omega
  have t4 : decide (x.ma < x.ca) = false := by simp; omega
  have t5 : decide (x.re < x.ma) = false := by simp; omega
  have hm := fun w => m_do ⟨s, 0, none⟩ w
  have HSd0 : Hid (SpT s t m wa.drew) := Lib.hid (HSa0.out.later (Below.refl _ _).drew)
  have HTd0 : Hid (lru.Tn (Bs s t m) wa wa.drew) := Lib.hid (lru.Tn.refl _ _).drew
  as_aux_lemma =>
    refine wp_region_held_drew (S := (fun w' => w'.heap[g0]? = some (.cells #[.int .i64 x.cl, .int .i64 x.ix, .int .i64 x.k, .string x.p, .int .i64 x.o, .int .i64 x.n, .int .i64 x.i, .string x.g, .int .i64 x.e, .int .i64 x.rk, .int .i64 x.z, .int .i64 x.wh, .int .i64 x.id, .string x.x, .slice x.A x.N.length x.c, .bool x.fin, .int .i64 x.ca, .int .i64 x.ma, .int .i64 x.re] 32 (0, 0)) ∧ SpT s t m w' ∧ lru.Tn (Bs s t m) wa w')) (by kernel_rfl) (HSS0.out _ HSd0.out HTd0.out) (fun hHeld => ?_)
    refine wpAnyH_take (i := 0) (oi := ⟨some 15, _, _, _, _, _⟩) (v := ?_) rfl (by kernel_rfl) (by kernel_rfl) (by kernel_rfl) (fun _ _ _ h => h) (Or.inl ⟨by kernel_rfl, ?_⟩) (by assumption) ?_
    rotate_left 1
    focus (intro w' hSw; clear hSw; go_simp; (try with_reducible rfl))
    try simp only [Act.put, List.setIfInBounds_toArray, List.set_cons_zero, List.set_cons_succ]
    refine wpAnyH_take (i := 1) (oi := ⟨some 16, _, _, _, _, _⟩) (v := ?_) rfl (by kernel_rfl) (by kernel_rfl) (by kernel_rfl) (fun _ _ _ h => h) (Or.inl ⟨by kernel_rfl, ?_⟩) (by assumption) ?_
    rotate_left 1
    focus (intro w' hSw; have hSw := hSw.1; have c17 := cell_of_blk hSw 17; clear hSw; go_simp; (try with_reducible rfl))
    try simp only [Act.put, List.setIfInBounds_toArray, List.set_cons_zero, List.set_cons_succ]
    refine wpAnyH_take (i := 2) (oi := ⟨some 17, _, _, _, _, _⟩) (v := ?_) rfl (by kernel_rfl) (by kernel_rfl) (by kernel_rfl) (fun _ _ _ h => h) (Or.inl ⟨by kernel_rfl, ?_⟩) (by assumption) ?_
    rotate_left 1
    focus (intro w' hSw; clear hSw; go_simp; (try with_reducible rfl))
    try simp only [Act.put, List.setIfInBounds_toArray, List.set_cons_zero, List.set_cons_succ]
    refine wpAnyH_take (i := 3) (oi := ⟨some 18, _, _, _, _, _⟩) (v := ?_) rfl (by kernel_rfl) (by kernel_rfl) (by kernel_rfl) (fun _ _ _ h => h) (Or.inl ⟨by kernel_rfl, ?_⟩) (by assumption) ?_
    rotate_left 1
    focus (intro w' hSw; clear hSw; go_simp; (try with_reducible rfl))
    try simp only [Act.put, List.setIfInBounds_toArray, List.set_cons_zero, List.set_cons_succ]
    refine wpAnyH_take (i := 4) (oi := ⟨some 19, _, _, _, _, _⟩) (v := ?_) rfl (by kernel_rfl) (by kernel_rfl) (by kernel_rfl) (fun _ _ _ h => h) (Or.inl ⟨by kernel_rfl, ?_⟩) (by assumption) ?_
    rotate_left 1
    focus (intro w' hSw; clear hSw; go_simp; (try with_reducible rfl))
    try simp only [Act.put, List.setIfInBounds_toArray, List.set_cons_zero, List.set_cons_succ]
    refine wpAnyH_take (i := 5) (oi := ⟨some 20, _, _, _, _, _⟩) (v := ?_) rfl (by kernel_rfl) (by kernel_rfl) (by kernel_rfl) (fun _ _ _ h => h) (Or.inl ⟨by kernel_rfl, ?_⟩) (by assumption) ?_
    rotate_left 1
    focus (intro w' hSw; clear hSw; go_simp; (try with_reducible rfl))
    try simp only [Act.put, List.setIfInBounds_toArray, List.set_cons_zero, List.set_cons_succ]
    refine wpAnyH_take (i := 6) (oi := ⟨some 21, _, _, _, _, _⟩) (v := ?_) rfl (by kernel_rfl) (by kernel_rfl) (by kernel_rfl) (fun _ _ _ h => h) (Or.inl ⟨by kernel_rfl, ?_⟩) (by assumption) ?_
    rotate_left 1
    focus (intro w' hSw; have hSw := hSw.1; have c17 := cell_of_blk hSw 17; clear hSw; go_simp; (try with_reducible rfl))
    try simp only [Act.put, List.setIfInBounds_toArray, List.set_cons_zero, List.set_cons_succ]
    refine wpAnyH_take (i := 7) (oi := ⟨some 22, _, _, _, _, _⟩) (v := ?_) rfl (by kernel_rfl) (by kernel_rfl) (by kernel_rfl) (fun _ _ _ h => h) (Or.inl ⟨by kernel_rfl, ?_⟩) (by assumption) ?_
    rotate_left 1
    focus (intro w' hSw; clear hSw; go_simp; (try with_reducible rfl))
    try simp only [Act.put, List.setIfInBounds_toArray, List.set_cons_zero, List.set_cons_succ]
    refine wpAnyH_take (i := 8) (oi := ⟨some 23, _, _, _, _, _⟩) (v := ?_) rfl (by kernel_rfl) (by kernel_rfl) (by kernel_rfl) (fun _ _ _ h => h) (Or.inl ⟨by kernel_rfl, ?_⟩) (by assumption) ?_
    rotate_left 1
    focus (intro w' hSw; have hSw := hSw.1; have c16 := cell_of_blk hSw 16; clear hSw; go_simp; (try with_reducible rfl))
    try simp only [Act.put, List.setIfInBounds_toArray, List.set_cons_zero, List.set_cons_succ]
    refine wpAnyH_take (i := 9) (oi := ⟨some 24, _, _, _, _, _⟩) (v := ?_) rfl (by kernel_rfl) (by kernel_rfl) (by kernel_rfl) (fun _ _ _ h => h) (Or.inl ⟨by kernel_rfl, ?_⟩) (by assumption) ?_
    rotate_left 1
    focus (intro w' hSw; clear hSw; go_simp; (try with_reducible rfl))
    try simp only [Act.put, List.setIfInBounds_toArray, List.set_cons_zero, List.set_cons_succ]
    refine wpAnyH_take (i := 10) (oi := ⟨some 25, _, _, _, _, _⟩) (v := ?_) rfl (by kernel_rfl) (by kernel_rfl) (by kernel_rfl) (fun _ _ _ h => h) (Or.inl ⟨by kernel_rfl, ?_⟩) (by assumption) ?_
    rotate_left 1
    focus (intro w' hSw; clear hSw; go_simp; (try with_reducible rfl))
    try simp only [Act.put, List.setIfInBounds_toArray, List.set_cons_zero, List.set_cons_succ]
    refine wpAnyH_take (i := 11) (oi := ⟨some 26, _, _, _, _, _⟩) (v := ?_) rfl (by kernel_rfl) (by kernel_rfl) (by kernel_rfl) (fun _ _ _ h => h) (Or.inl ⟨by kernel_rfl, ?_⟩) (by assumption) ?_
    rotate_left 1
    focus (intro w' hSw; clear hSw; go_simp; (try with_reducible rfl))
    try simp only [Act.put, List.setIfInBounds_toArray, List.set_cons_zero, List.set_cons_succ]
    refine wpAnyH_take (i := 12) (oi := ⟨some 27, _, _, _, _, _⟩) (v := ?_) rfl (by kernel_rfl) (by kernel_rfl) (by kernel_rfl) (fun _ _ _ h => h) (Or.inl ⟨by kernel_rfl, ?_⟩) (by assumption) ?_
    rotate_left 1
    focus (intro w' hSw; clear hSw; go_simp; (try with_reducible rfl))
    try simp only [Act.put, List.setIfInBounds_toArray, List.set_cons_zero, List.set_cons_succ]
    refine wpAnyH_take (i := 13) (oi := ⟨some 28, _, _, _, _, _⟩) (v := ?_) rfl (by kernel_rfl) (by kernel_rfl) (by kernel_rfl) (fun _ _ _ h => h) (Or.inl ⟨by kernel_rfl, ?_⟩) (by assumption) ?_
    rotate_left 1
    focus (intro w' hSw; have hSw := hSw.1; have c17 := cell_of_blk hSw 17; clear hSw; go_simp; (try with_reducible rfl))
    try simp only [Act.put, List.setIfInBounds_toArray, List.set_cons_zero, List.set_cons_succ]
    refine wpAnyH_take (i := 14) (oi := ⟨some 29, _, _, _, _, _⟩) (v := ?_) rfl (by kernel_rfl) (by kernel_rfl) (by kernel_rfl) (fun _ _ _ h => h) (Or.inl ⟨by kernel_rfl, ?_⟩) (by assumption) ?_
    rotate_left 1
    focus (intro w' hSw; clear hSw; go_simp; (try with_reducible rfl))
    try simp only [Act.put, List.setIfInBounds_toArray, List.set_cons_zero, List.set_cons_succ]
    refine wpAnyH_take (i := 15) (oi := ⟨some 30, _, _, _, _, _⟩) (v := ?_) rfl (by kernel_rfl) (by kernel_rfl) (by kernel_rfl) (fun _ _ _ h => h) (Or.inl ⟨by kernel_rfl, ?_⟩) (by assumption) ?_
    rotate_left 1
    focus (intro w' hSw; have hSw := hSw.1; have c18 := cell_of_blk hSw 18; clear hSw; go_simp; (try with_reducible rfl))
    try simp only [Act.put, List.setIfInBounds_toArray, List.set_cons_zero, List.set_cons_succ]
    refine wpAnyH_take (i := 16) (oi := ⟨some 31, _, _, _, _, _⟩) (v := ?_) rfl (by kernel_rfl) (by kernel_rfl) (by kernel_rfl) (fun _ _ _ h => h) (Or.inl ⟨by kernel_rfl, ?_⟩) (by assumption) ?_
    rotate_left 1
    focus (intro w' hSw; clear hSw; go_simp; (try with_reducible rfl))
    try simp only [Act.put, List.setIfInBounds_toArray, List.set_cons_zero, List.set_cons_succ]
    refine wpAnyH_take (i := 17) (oi := ⟨some 32, _, _, _, _, _⟩) (v := ?_) rfl (by kernel_rfl) (by kernel_rfl) (by kernel_rfl) (fun _ _ _ h => h) (Or.inl ⟨by kernel_rfl, ?_⟩) (by assumption) ?_
    rotate_left 1
    focus (intro w' hSw; clear hSw; go_simp; (try with_reducible rfl))
    try simp only [Act.put, List.setIfInBounds_toArray, List.set_cons_zero, List.set_cons_succ]
    refine wpAnyH_take (i := 18) (oi := ⟨some 33, _, _, _, _, _⟩) (v := ?_) rfl (by kernel_rfl) (by kernel_rfl) (by kernel_rfl) (fun _ _ _ h => h) (Or.inl ⟨by kernel_rfl, ?_⟩) (by assumption) ?_
    rotate_left 1
    focus (intro w' hSw; clear hSw; go_simp; (try with_reducible rfl))
    try simp only [Act.put, List.setIfInBounds_toArray, List.set_cons_zero, List.set_cons_succ]
    refine wpAnyH_take (i := 19) (oi := ⟨some 34, _, _, _, _, _⟩) (v := ?_) rfl (by kernel_rfl) (by kernel_rfl) (by kernel_rfl) (fun _ _ _ h => h) (Or.inl ⟨by kernel_rfl, ?_⟩) (by assumption) ?_
    rotate_left 1
    focus (intro w' hSw; clear hSw; go_simp; (try with_reducible rfl))
    try simp only [Act.put, List.setIfInBounds_toArray, List.set_cons_zero, List.set_cons_succ]
    refine wpAnyH_take (i := 20) (oi := ⟨some 35, _, _, _, _, _⟩) (v := ?_) rfl (by kernel_rfl) (by kernel_rfl) (by kernel_rfl) (fun _ _ _ h => h) (Or.inl ⟨by kernel_rfl, ?_⟩) (by assumption) ?_
    rotate_left 1
    focus (intro w' hSw; have hSw := hSw.1; have c8 := cell_of_blk hSw 8; have c9 := cell_of_blk hSw 9; have c10 := cell_of_blk hSw 10; have c11 := cell_of_blk hSw 11; have c12 := cell_of_blk hSw 12; have c13 := cell_of_blk hSw 13; have c14 := cell_of_blk hSw 14; have c15 := cell_of_blk hSw 15; clear hSw; go_simp; (try with_reducible rfl))
    try simp only [Act.put, List.setIfInBounds_toArray, List.set_cons_zero, List.set_cons_succ]
    refine wpAnyH_take (i := 21) (oi := ⟨some 36, _, _, _, _, _⟩) (v := ?_) rfl (by kernel_rfl) (by kernel_rfl) (by kernel_rfl) (fun _ _ _ h => h) (Or.inl ⟨by kernel_rfl, ?_⟩) (by assumption) ?_
    rotate_left 1
    focus (intro w' hSw; clear hSw; go_simp; (try with_reducible rfl))
    try simp only [Act.put, List.setIfInBounds_toArray, List.set_cons_zero, List.set_cons_succ]
    refine wpAnyH_take (i := 22) (oi := ⟨some 37, _, _, _, _, _⟩) (v := ?_) rfl (by kernel_rfl) (by kernel_rfl) (by kernel_rfl) (fun _ _ _ h => h) (Or.inl ⟨by kernel_rfl, ?_⟩) (by assumption) ?_
    rotate_left 1
    focus (intro w' hSw; clear hSw; go_simp; (try with_reducible rfl))
    try simp only [Act.put, List.setIfInBounds_toArray, List.set_cons_zero, List.set_cons_succ]
    refine wpAnyH_take (i := 23) (oi := ⟨some 38, _, _, _, _, _⟩) (v := ?_) rfl (by kernel_rfl) (by kernel_rfl) (by kernel_rfl) (fun _ _ _ h => h) (Or.inl ⟨by kernel_rfl, ?_⟩) (by assumption) ?_
    rotate_left 1
    focus (intro w' hSw; have hSw := hSw.1; have c2 := cell_of_blk hSw 2; have c3 := cell_of_blk hSw 3; have c4 := cell_of_blk hSw 4; have c5 := cell_of_blk hSw 5; have c6 := cell_of_blk hSw 6; have c7 := cell_of_blk hSw 7; clear hSw; go_simp; (try with_reducible rfl))
    try simp only [Act.put, List.setIfInBounds_toArray, List.set_cons_zero, List.set_cons_succ]
    refine wpAnyH_ready (rs := [24]) (by kernel_rfl) (by simp) ?_
    refine AllReadyH.cons rfl (fun K hK => ?_) AllReadyH.nil
    go_simp
    go_at_call 48
    refine (HDx.out wa.drew HSd0.out).mono ?_
    rintro en u1 ⟨rfl, hsp, htn⟩
    clear hHeld
    refine hK.out _ _ (HSS0.out u1 hsp (HTd0.out.trans htn)) (fun hHeld => ?_)
    clear hK
    refine wpAnyH_ready (rs := [25]) (by kernel_rfl) (by simp) ?_
    refine AllReadyH.cons rfl (fun K hK => ?_) AllReadyH.nil
    go_simp
    go_at_call 9
    refine (HSmx.out u1).mono ?_
    rintro en u2 ⟨rfl, hu2⟩
    clear hHeld
    refine hK.out _ _ (HSS0.out u2 (hsp.later hu2) ((HTd0.out.trans htn).trans (lru.Tn.of_below hu2 _))) (fun hHeld => ?_)
    clear hK
    refine wpAnyH_take (i := 26) (oi := ⟨some 41, _, _, _, _, _⟩) (v := ?_) rfl (by kernel_rfl) (by kernel_rfl) (by kernel_rfl) (fun _ _ _ h => h) (Or.inl ⟨by kernel_rfl, ?_⟩) (by assumption) ?_
    rotate_left 1
    focus (intro w' hSw; clear hSw; go_simp; (try with_reducible rfl))
    try simp only [Act.put, List.setIfInBounds_toArray, List.set_cons_zero, List.set_cons_succ]
    refine wpAnyH_take (i := 27) (oi := ⟨some 42, _, _, _, _, _⟩) (v := ?_) rfl (by kernel_rfl) (by kernel_rfl) (by kernel_rfl) (fun _ _ _ h => h) (Or.inl ⟨by kernel_rfl, ?_⟩) (by assumption) ?_
    rotate_left 1
    focus (intro w' hSw; clear hSw; go_simp; (try with_reducible rfl))
    try simp only [Act.put, List.setIfInBounds_toArray, List.set_cons_zero, List.set_cons_succ]
    refine wpAnyH_done (by kernel_rfl) ?_ _
    clear hHeld hm t0 t1 t2 t3 t4 t5
    as_aux_lemma =>
      have htq0 := (HTd0.out.trans htn).trans (lru.Tn.of_below hu2 _)
      have HTn0 : Hid (lru.Tn (Bs s t m) w u2) := Lib.hid ((lru.Tn.of_below HBa0.out _).trans htq0)
      have HSn0 : Hid (SpT s t m u2) := Lib.hid (hsp.later hu2)
      have HTw0 : Hid (Two u2 g x y) := Lib.hid (HTa0.out.block (htq0.block g HTa0.out.lt hne.out))
      have p5 := cell_of_blk (HSS0.out u2 HSn0.out htq0).1 17
      clear hsp htn hu2 htq0
      go_wp2_with fail
      clear p5
      obtain ⟨u2a, hu2a⟩ : ∃ u2a, u2a = u2.alloc (.cells #[.int .i64 y.cl, .int .i64 y.ix, .int .i64 y.k, .string y.p, .int .i64 y.o, .int .i64 y.n, .int .i64 y.i, .string y.g, .int .i64 y.e, .int .i64 y.rk, .int .i64 y.z, .int .i64 y.wh, .int .i64 y.id, .string y.x, .slice y.A y.N.length y.c, .bool y.fin, .int .i64 y.ca, .int .i64 y.ma, .int .i64 y.re] 32) := ⟨_, rfl⟩
      have hb1 : Below u2.heap.size u2 u2a := by rw [hu2a]; exact (Below.refl _ _).alloc (Nat.le_refl _) _
      have HX1 := Lib.hid (show u2a.heap[u2.heap.size]? = some (.cells #[.int .i64 y.cl, .int .i64 y.ix, .int .i64 y.k, .string y.p, .int .i64 y.o, .int .i64 y.n, .int .i64 y.i, .string y.g, .int .i64 y.e, .int .i64 y.rk, .int .i64 y.z, .int .i64 y.wh, .int .i64 y.id, .string y.x, .slice y.A y.N.length y.c, .bool y.fin, .int .i64 y.ca, .int .i64 y.ma, .int .i64 y.re] 32 (0, 0)) by rw [hu2a]; exact heap_alloc_new u2 _)
      obtain ⟨g1, hg1⟩ : ∃ g1, g1 = u2.heap.size := ⟨_, rfl⟩
      rw [← hg1] at HX1
      have HR1 : Hid (u2.rangeAt g 19 y.cs) := Lib.hid HTw0.out.at_.2
      have HSS1 : Hid (∀ w', SpT s t m w' → lru.Tn (Bs s t m) u2a w' → (w'.heap[g1]? = some (.cells #[.int .i64 y.cl, .int .i64 y.ix, .int .i64 y.k, .string y.p, .int .i64 y.o, .int .i64 y.n, .int .i64 y.i, .string y.g, .int .i64 y.e, .int .i64 y.rk, .int .i64 y.z, .int .i64 y.wh, .int .i64 y.id, .string y.x, .slice y.A y.N.length y.c, .bool y.fin, .int .i64 y.ca, .int .i64 y.ma, .int .i64 y.re] 32 (0, 0)) ∧ SpT s t m w' ∧ lru.Tn (Bs s t m) u2a w')) := Lib.hid fun w' h1 h2 => ⟨(h2.block g1 (lt_of_some HX1.out) (fun hj => by
          have hlt := HSn0.out.lt
          rcases hj with hj | hj | hj
          · have := hlt.1; omega
          · have := hlt.2.1; omega
          · have := hlt.2.2; omega)).trans HX1.out, h1, h2⟩
      have HSa1 : Hid (SpT s t m u2a) := Lib.hid (HSn0.out.later hb1)
      have HTa1 : Hid (Two u2a g x y) := Lib.hid (HTw0.out.later hb1)
      have HBa1 := Lib.hid hb1
      have HW1 := Lib.hid hu2a
      have HGg1 := Lib.hid hg1
      clear hu2a hb1 hg1
      rw [rounds_succ]
      go_upto_region 5 with (first | (refine wl_load rfl rfl rfl HR1.out ?_) | (refine wl_put (r := y) rfl rfl rfl rfl rfl ?_))
      rw [← HW1.out]
      simp only [← HGg1.out]
      clear HW1
      have t0 : ¬ y.ma ≤ x.ma := by have := HFy.out.m0; omega
      have t1 : ¬ y.ma < y.ca := by have := HFy.out.m1; omega
      have t2 : ¬ y.re < y.ma := by have := HFy.out.m2; omega
      have t3 : decide (y.ma ≤ x.ma) = false := by simp; omega
      have t4 : decide (y.ma < y.ca) = false := by simp; omega
      have t5 : decide (y.re < y.ma) = false := by simp; omega
      have hm := fun w => m_do ⟨s, 0, none⟩ w
      have HSd1 : Hid (SpT s t m u2a.drew) := Lib.hid (HSa1.out.later (Below.refl _ _).drew)
      have HTd1 : Hid (lru.Tn (Bs s t m) u2a u2a.drew) := Lib.hid (lru.Tn.refl _ _).drew
      as_aux_lemma =>
        refine wp_region_held_drew (S := (fun w' => w'.heap[g1]? = some (.cells #[.int .i64 y.cl, .int .i64 y.ix, .int .i64 y.k, .string y.p, .int .i64 y.o, .int .i64 y.n, .int .i64 y.i, .string y.g, .int .i64 y.e, .int .i64 y.rk, .int .i64 y.z, .int .i64 y.wh, .int .i64 y.id, .string y.x, .slice y.A y.N.length y.c, .bool y.fin, .int .i64 y.ca, .int .i64 y.ma, .int .i64 y.re] 32 (0, 0)) ∧ SpT s t m w' ∧ lru.Tn (Bs s t m) u2a w')) (by kernel_rfl) (HSS1.out _ HSd1.out HTd1.out) (fun hHeld => ?_)
        refine wpAnyH_take (i := 0) (oi := ⟨some 15, _, _, _, _, _⟩) (v := ?_) rfl (by kernel_rfl) (by kernel_rfl) (by kernel_rfl) (fun _ _ _ h => h) (Or.inl ⟨by kernel_rfl, ?_⟩) (by assumption) ?_
        rotate_left 1
        focus (intro w' hSw; clear hSw; go_simp; (try with_reducible rfl))
        try simp only [Act.put, List.setIfInBounds_toArray, List.set_cons_zero, List.set_cons_succ]
        refine wpAnyH_take (i := 1) (oi := ⟨some 16, _, _, _, _, _⟩) (v := ?_) rfl (by kernel_rfl) (by kernel_rfl) (by kernel_rfl) (fun _ _ _ h => h) (Or.inl ⟨by kernel_rfl, ?_⟩) (by assumption) ?_
        rotate_left 1
        focus (intro w' hSw; have hSw := hSw.1; have c17 := cell_of_blk hSw 17; clear hSw; go_simp; (try with_reducible rfl))
        try simp only [Act.put, List.setIfInBounds_toArray, List.set_cons_zero, List.set_cons_succ]
        refine wpAnyH_take (i := 2) (oi := ⟨some 17, _, _, _, _, _⟩) (v := ?_) rfl (by kernel_rfl) (by kernel_rfl) (by kernel_rfl) (fun _ _ _ h => h) (Or.inl ⟨by kernel_rfl, ?_⟩) (by assumption) ?_
        rotate_left 1
        focus (intro w' hSw; clear hSw; go_simp; (try with_reducible rfl))
        try simp only [Act.put, List.setIfInBounds_toArray, List.set_cons_zero, List.set_cons_succ]
        refine wpAnyH_take (i := 3) (oi := ⟨some 18, _, _, _, _, _⟩) (v := ?_) rfl (by kernel_rfl) (by kernel_rfl) (by kernel_rfl) (fun _ _ _ h => h) (Or.inl ⟨by kernel_rfl, ?_⟩) (by assumption) ?_
        rotate_left 1
        focus (intro w' hSw; clear hSw; go_simp; (try with_reducible rfl))
        try simp only [Act.put, List.setIfInBounds_toArray, List.set_cons_zero, List.set_cons_succ]
        refine wpAnyH_take (i := 4) (oi := ⟨some 19, _, _, _, _, _⟩) (v := ?_) rfl (by kernel_rfl) (by kernel_rfl) (by kernel_rfl) (fun _ _ _ h => h) (Or.inl ⟨by kernel_rfl, ?_⟩) (by assumption) ?_
        rotate_left 1
        focus (intro w' hSw; clear hSw; go_simp; (try with_reducible rfl))
        try simp only [Act.put, List.setIfInBounds_toArray, List.set_cons_zero, List.set_cons_succ]
        refine wpAnyH_take (i := 5) (oi := ⟨some 20, _, _, _, _, _⟩) (v := ?_) rfl (by kernel_rfl) (by kernel_rfl) (by kernel_rfl) (fun _ _ _ h => h) (Or.inl ⟨by kernel_rfl, ?_⟩) (by assumption) ?_
        rotate_left 1
        focus (intro w' hSw; clear hSw; go_simp; (try with_reducible rfl))
        try simp only [Act.put, List.setIfInBounds_toArray, List.set_cons_zero, List.set_cons_succ]
        refine wpAnyH_take (i := 6) (oi := ⟨some 21, _, _, _, _, _⟩) (v := ?_) rfl (by kernel_rfl) (by kernel_rfl) (by kernel_rfl) (fun _ _ _ h => h) (Or.inl ⟨by kernel_rfl, ?_⟩) (by assumption) ?_
        rotate_left 1
        focus (intro w' hSw; have hSw := hSw.1; have c17 := cell_of_blk hSw 17; clear hSw; go_simp; (try with_reducible rfl))
        try simp only [Act.put, List.setIfInBounds_toArray, List.set_cons_zero, List.set_cons_succ]
        refine wpAnyH_take (i := 7) (oi := ⟨some 22, _, _, _, _, _⟩) (v := ?_) rfl (by kernel_rfl) (by kernel_rfl) (by kernel_rfl) (fun _ _ _ h => h) (Or.inl ⟨by kernel_rfl, ?_⟩) (by assumption) ?_
        rotate_left 1
        focus (intro w' hSw; clear hSw; go_simp; (try with_reducible rfl))
        try simp only [Act.put, List.setIfInBounds_toArray, List.set_cons_zero, List.set_cons_succ]
        refine wpAnyH_take (i := 8) (oi := ⟨some 23, _, _, _, _, _⟩) (v := ?_) rfl (by kernel_rfl) (by kernel_rfl) (by kernel_rfl) (fun _ _ _ h => h) (Or.inl ⟨by kernel_rfl, ?_⟩) (by assumption) ?_
        rotate_left 1
        focus (intro w' hSw; have hSw := hSw.1; have c16 := cell_of_blk hSw 16; clear hSw; go_simp; (try with_reducible rfl))
        try simp only [Act.put, List.setIfInBounds_toArray, List.set_cons_zero, List.set_cons_succ]
        refine wpAnyH_take (i := 9) (oi := ⟨some 24, _, _, _, _, _⟩) (v := ?_) rfl (by kernel_rfl) (by kernel_rfl) (by kernel_rfl) (fun _ _ _ h => h) (Or.inl ⟨by kernel_rfl, ?_⟩) (by assumption) ?_
        rotate_left 1
        focus (intro w' hSw; clear hSw; go_simp; (try with_reducible rfl))
        try simp only [Act.put, List.setIfInBounds_toArray, List.set_cons_zero, List.set_cons_succ]
        refine wpAnyH_take (i := 10) (oi := ⟨some 25, _, _, _, _, _⟩) (v := ?_) rfl (by kernel_rfl) (by kernel_rfl) (by kernel_rfl) (fun _ _ _ h => h) (Or.inl ⟨by kernel_rfl, ?_⟩) (by assumption) ?_
        rotate_left 1
        focus (intro w' hSw; clear hSw; go_simp; (try with_reducible rfl))
        try simp only [Act.put, List.setIfInBounds_toArray, List.set_cons_zero, List.set_cons_succ]
        refine wpAnyH_take (i := 11) (oi := ⟨some 26, _, _, _, _, _⟩) (v := ?_) rfl (by kernel_rfl) (by kernel_rfl) (by kernel_rfl) (fun _ _ _ h => h) (Or.inl ⟨by kernel_rfl, ?_⟩) (by assumption) ?_
        rotate_left 1
        focus (intro w' hSw; clear hSw; go_simp; (try with_reducible rfl))
        try simp only [Act.put, List.setIfInBounds_toArray, List.set_cons_zero, List.set_cons_succ]
        refine wpAnyH_take (i := 12) (oi := ⟨some 27, _, _, _, _, _⟩) (v := ?_) rfl (by kernel_rfl) (by kernel_rfl) (by kernel_rfl) (fun _ _ _ h => h) (Or.inl ⟨by kernel_rfl, ?_⟩) (by assumption) ?_
        rotate_left 1
        focus (intro w' hSw; clear hSw; go_simp; (try with_reducible rfl))
        try simp only [Act.put, List.setIfInBounds_toArray, List.set_cons_zero, List.set_cons_succ]
        refine wpAnyH_take (i := 13) (oi := ⟨some 28, _, _, _, _, _⟩) (v := ?_) rfl (by kernel_rfl) (by kernel_rfl) (by kernel_rfl) (fun _ _ _ h => h) (Or.inl ⟨by kernel_rfl, ?_⟩) (by assumption) ?_
        rotate_left 1
        focus (intro w' hSw; have hSw := hSw.1; have c17 := cell_of_blk hSw 17; clear hSw; go_simp; (try with_reducible rfl))
        try simp only [Act.put, List.setIfInBounds_toArray, List.set_cons_zero, List.set_cons_succ]
        refine wpAnyH_take (i := 14) (oi := ⟨some 29, _, _, _, _, _⟩) (v := ?_) rfl (by kernel_rfl) (by kernel_rfl) (by kernel_rfl) (fun _ _ _ h => h) (Or.inl ⟨by kernel_rfl, ?_⟩) (by assumption) ?_
        rotate_left 1
        focus (intro w' hSw; clear hSw; go_simp; (try with_reducible rfl))
        try simp only [Act.put, List.setIfInBounds_toArray, List.set_cons_zero, List.set_cons_succ]
        refine wpAnyH_take (i := 15) (oi := ⟨some 30, _, _, _, _, _⟩) (v := ?_) rfl (by kernel_rfl) (by kernel_rfl) (by kernel_rfl) (fun _ _ _ h => h) (Or.inl ⟨by kernel_rfl, ?_⟩) (by assumption) ?_
        rotate_left 1
        focus (intro w' hSw; have hSw := hSw.1; have c18 := cell_of_blk hSw 18; clear hSw; go_simp; (try with_reducible rfl))
        try simp only [Act.put, List.setIfInBounds_toArray, List.set_cons_zero, List.set_cons_succ]
        refine wpAnyH_take (i := 16) (oi := ⟨some 31, _, _, _, _, _⟩) (v := ?_) rfl (by kernel_rfl) (by kernel_rfl) (by kernel_rfl) (fun _ _ _ h => h) (Or.inl ⟨by kernel_rfl, ?_⟩) (by assumption) ?_
        rotate_left 1
        focus (intro w' hSw; clear hSw; go_simp; (try with_reducible rfl))
        try simp only [Act.put, List.setIfInBounds_toArray, List.set_cons_zero, List.set_cons_succ]
        refine wpAnyH_take (i := 17) (oi := ⟨some 32, _, _, _, _, _⟩) (v := ?_) rfl (by kernel_rfl) (by kernel_rfl) (by kernel_rfl) (fun _ _ _ h => h) (Or.inl ⟨by kernel_rfl, ?_⟩) (by assumption) ?_
        rotate_left 1
        focus (intro w' hSw; clear hSw; go_simp; (try with_reducible rfl))
        try simp only [Act.put, List.setIfInBounds_toArray, List.set_cons_zero, List.set_cons_succ]
        refine wpAnyH_take (i := 18) (oi := ⟨some 33, _, _, _, _, _⟩) (v := ?_) rfl (by kernel_rfl) (by kernel_rfl) (by kernel_rfl) (fun _ _ _ h => h) (Or.inl ⟨by kernel_rfl, ?_⟩) (by assumption) ?_
        rotate_left 1
        focus (intro w' hSw; clear hSw; go_simp; (try with_reducible rfl))
        try simp only [Act.put, List.setIfInBounds_toArray, List.set_cons_zero, List.set_cons_succ]
        refine wpAnyH_take (i := 19) (oi := ⟨some 34, _, _, _, _, _⟩) (v := ?_) rfl (by kernel_rfl) (by kernel_rfl) (by kernel_rfl) (fun _ _ _ h => h) (Or.inl ⟨by kernel_rfl, ?_⟩) (by assumption) ?_
        rotate_left 1
        focus (intro w' hSw; clear hSw; go_simp; (try with_reducible rfl))
        try simp only [Act.put, List.setIfInBounds_toArray, List.set_cons_zero, List.set_cons_succ]
        refine wpAnyH_take (i := 20) (oi := ⟨some 35, _, _, _, _, _⟩) (v := ?_) rfl (by kernel_rfl) (by kernel_rfl) (by kernel_rfl) (fun _ _ _ h => h) (Or.inl ⟨by kernel_rfl, ?_⟩) (by assumption) ?_
        rotate_left 1
        focus (intro w' hSw; have hSw := hSw.1; have c8 := cell_of_blk hSw 8; have c9 := cell_of_blk hSw 9; have c10 := cell_of_blk hSw 10; have c11 := cell_of_blk hSw 11; have c12 := cell_of_blk hSw 12; have c13 := cell_of_blk hSw 13; have c14 := cell_of_blk hSw 14; have c15 := cell_of_blk hSw 15; clear hSw; go_simp; (try with_reducible rfl))
        try simp only [Act.put, List.setIfInBounds_toArray, List.set_cons_zero, List.set_cons_succ]
        refine wpAnyH_take (i := 21) (oi := ⟨some 36, _, _, _, _, _⟩) (v := ?_) rfl (by kernel_rfl) (by kernel_rfl) (by kernel_rfl) (fun _ _ _ h => h) (Or.inl ⟨by kernel_rfl, ?_⟩) (by assumption) ?_
        rotate_left 1
        focus (intro w' hSw; clear hSw; go_simp; (try with_reducible rfl))
        try simp only [Act.put, List.setIfInBounds_toArray, List.set_cons_zero, List.set_cons_succ]
        refine wpAnyH_take (i := 22) (oi := ⟨some 37, _, _, _, _, _⟩) (v := ?_) rfl (by kernel_rfl) (by kernel_rfl) (by kernel_rfl) (fun _ _ _ h => h) (Or.inl ⟨by kernel_rfl, ?_⟩) (by assumption) ?_
        rotate_left 1
        focus (intro w' hSw; clear hSw; go_simp; (try with_reducible rfl))
        try simp only [Act.put, List.setIfInBounds_toArray, List.set_cons_zero, List.set_cons_succ]
        refine wpAnyH_take (i := 23) (oi := ⟨some 38, _, _, _, _, _⟩) (v := ?_) rfl (by kernel_rfl) (by kernel_rfl) (by kernel_rfl) (fun _ _ _ h => h) (Or.inl ⟨by kernel_rfl, ?_⟩) (by assumption) ?_
        rotate_left 1
        focus (intro w' hSw; have hSw := hSw.1; have c2 := cell_of_blk hSw 2; have c3 := cell_of_blk hSw 3; have c4 := cell_of_blk hSw 4; have c5 := cell_of_blk hSw 5; have c6 := cell_of_blk hSw 6; have c7 := cell_of_blk hSw 7; clear hSw; go_simp; (try with_reducible rfl))
        try simp only [Act.put, List.setIfInBounds_toArray, List.set_cons_zero, List.set_cons_succ]
        refine wpAnyH_ready (rs := [24]) (by kernel_rfl) (by simp) ?_
        refine AllReadyH.cons rfl (fun K hK => ?_) AllReadyH.nil
        go_simp
        go_at_call 48
        refine (HDy.out u2a.drew HSd1.out).mono ?_
        rintro en u3 ⟨rfl, hsp, htn⟩
        clear hHeld
        refine hK.out _ _ (HSS1.out u3 hsp (HTd1.out.trans htn)) (fun hHeld => ?_)
        clear hK
        refine wpAnyH_ready (rs := [25]) (by kernel_rfl) (by simp) ?_
        refine AllReadyH.cons rfl (fun K hK => ?_) AllReadyH.nil
        go_simp
        go_at_call 9
        refine (HSmy.out u3).mono ?_
        rintro en u4 ⟨rfl, hu4⟩
        clear hHeld
        refine hK.out _ _ (HSS1.out u4 (hsp.later hu4) ((HTd1.out.trans htn).trans (lru.Tn.of_below hu4 _))) (fun hHeld => ?_)
        clear hK
        refine wpAnyH_take (i := 26) (oi := ⟨some 41, _, _, _, _, _⟩) (v := ?_) rfl (by kernel_rfl) (by kernel_rfl) (by kernel_rfl) (fun _ _ _ h => h) (Or.inl ⟨by kernel_rfl, ?_⟩) (by assumption) ?_
        rotate_left 1
        focus (intro w' hSw; clear hSw; go_simp; (try with_reducible rfl))
        try simp only [Act.put, List.setIfInBounds_toArray, List.set_cons_zero, List.set_cons_succ]
        refine wpAnyH_take (i := 27) (oi := ⟨some 42, _, _, _, _, _⟩) (v := ?_) rfl (by kernel_rfl) (by kernel_rfl) (by kernel_rfl) (fun _ _ _ h => h) (Or.inl ⟨by kernel_rfl, ?_⟩) (by assumption) ?_
        rotate_left 1
        focus (intro w' hSw; clear hSw; go_simp; (try with_reducible rfl))
        try simp only [Act.put, List.setIfInBounds_toArray, List.set_cons_zero, List.set_cons_succ]
        refine wpAnyH_done (by kernel_rfl) ?_ _
        clear hHeld hm t0 t1 t2 t3 t4 t5
        as_aux_lemma =>
          have htq1 := (HTd1.out.trans htn).trans (lru.Tn.of_below hu4 _)
          have HTn1 : Hid (lru.Tn (Bs s t m) u2 u4) := Lib.hid ((lru.Tn.of_below HBa1.out _).trans htq1)
          have HSn1 : Hid (SpT s t m u4) := Lib.hid (hsp.later hu4)
          have HTw1 : Hid (Two u4 g x y) := Lib.hid (HTa1.out.block (htq1.block g HTa1.out.lt hne.out))
          have p5 := cell_of_blk (HSS1.out u4 HSn1.out htq1).1 17
          clear hsp htn hu4 htq1
          have HEnd : Hid (lru.Tn (Bs s t m) w u4) := Lib.hid (HTn0.out.trans HTn1.out)
          rcases b with _ | _
          · go_wp2_with fail
            go_ret
            exact ⟨rfl, HEnd.out⟩
          · go_wp2_with fail
            rw [rounds_succ]
            go_wp2_with fail
            go_ret
            exact ⟨rfl, HEnd.out⟩
end Go.Proofs.YtkigkdiphhecaaaGreat.tal
