/- Two records in a row of a call's own, put in order by the steps at which they count. Conditions: the row lies in memory. -/
import Derived.Test.YtkigkdiphhecaaaGreatTlRec
import Derived.Test.YtkigkdiphhecaaaGreatHeldT
import Derived.Deep.MidRow
import Derived.LoopN
namespace Go.Proofs.YtkigkdiphhecaaaGreat.tal
set_option maxRecDepth 100000
open Go.RowKit Go.Proofs.YtkigkdiphhecaaaGreat.words

/-- Two records lie in a block, one behind the other. -/
def Two (w : World) (g : Nat) (x y : Rc) : Prop := ∃ cur, w.heap[g]? = some (.cells cur 32 (0, 0)) ∧ 38 ≤ cur.size ∧ cur.toList.take 38 = x.cs ++ y.cs
theorem Two.at_ {w : World} {g : Nat} {x y : Rc} (h : Two w g x y) : w.rangeAt g 0 x.cs ∧ w.rangeAt g 19 y.cs := by
  obtain ⟨cur, h1, h2, h3⟩ := h
  have e : ∀ j v, (x.cs ++ y.cs)[j]? = some v → cur[j]? = some v := fun j v hv => by
    rw [← h3, List.getElem?_take] at hv
    split at hv
    · rw [← Array.getElem?_toList]; exact hv
    · cases hv
  refine ⟨fun j v hv => ?_, fun j v hv => ?_⟩
  · rw [cell_of_blk h1, Nat.zero_add]
    exact e j v (by rw [List.getElem?_append_left (List.getElem?_eq_some_iff.1 hv).1]; exact hv)
  · rw [cell_of_blk h1]
    refine e _ v ?_
    rw [List.getElem?_append_right (by rw [x.len]; omega), x.len, show 19 + j - 19 = j by omega]
    exact hv
theorem load_rec {w : World} {g o : Nat} {x : Rc} (h : w.rangeAt g o x.cs) : (Instr.loadAt 32 (.pointer (some ⟨g, o, none⟩))).run Tryz.prog w = .ok (.agg #[.int .i64 x.cl, .int .i64 x.ix, .int .i64 x.k, .string x.p, .int .i64 x.o, .int .i64 x.n, .int .i64 x.i, .string x.g, .int .i64 x.e, .int .i64 x.rk, .int .i64 x.z, .int .i64 x.wh, .int .i64 x.id, .string x.x, .slice x.A x.N.length x.c, .bool x.fin, .int .i64 x.ca, .int .i64 x.ma, .int .i64 x.re]) w :=
  run_loadAt_mid w g o 32 x.cs _ h Tryz.underlying32 rfl (by kernel_rfl)
theorem Two.load {w : World} {g : Nat} {x y : Rc} (h : Two w g x y) : (Instr.loadAt 32 (.pointer (some ⟨g, 19, none⟩))).run Tryz.prog w = .ok (.agg #[.int .i64 y.cl, .int .i64 y.ix, .int .i64 y.k, .string y.p, .int .i64 y.o, .int .i64 y.n, .int .i64 y.i, .string y.g, .int .i64 y.e, .int .i64 y.rk, .int .i64 y.z, .int .i64 y.wh, .int .i64 y.id, .string y.x, .slice y.A y.N.length y.c, .bool y.fin, .int .i64 y.ca, .int .i64 y.ma, .int .i64 y.re]) w ∧ (Instr.loadAt 32 (.pointer (some ⟨g, 0, none⟩))).run Tryz.prog w = .ok (.agg #[.int .i64 x.cl, .int .i64 x.ix, .int .i64 x.k, .string x.p, .int .i64 x.o, .int .i64 x.n, .int .i64 x.i, .string x.g, .int .i64 x.e, .int .i64 x.rk, .int .i64 x.z, .int .i64 x.wh, .int .i64 x.id, .string x.x, .slice x.A x.N.length x.c, .bool x.fin, .int .i64 x.ca, .int .i64 x.ma, .int .i64 x.re]) w := ⟨load_rec h.at_.2, load_rec h.at_.1⟩
theorem Two.block {w w' : World} {g : Nat} {x y : Rc} (h : Two w g x y) (e : w'.heap[g]? = w.heap[g]?) : Two w' g x y := by
  obtain ⟨cur, h1, h2, h3⟩ := h
  exact ⟨cur, e.trans h1, h2, h3⟩
theorem Two.lt {w : World} {g : Nat} {x y : Rc} (h : Two w g x y) : g < w.heap.size := by
  obtain ⟨cur, h1, h2, h3⟩ := h
  exact lt_of_some h1
theorem Two.later {w w' : World} {g : Nat} {x y : Rc} (h : Two w g x y) (hb : Below w.heap.size w w') : Two w' g x y := h.block (hb.block _ h.lt)
theorem Two.there {w : World} {g : Nat} {x y : Rc} (h : Two w g x y) : w.there g 0 19 ∧ w.there g 19 19 := by
  obtain ⟨cur, h1, h2, h3⟩ := h
  refine ⟨fun j hj => ⟨?_, free_of_blk h1 _⟩, fun j hj => ⟨?_, free_of_blk h1 _⟩⟩
  · rw [cell_of_blk h1, Array.getElem?_eq_getElem (by omega)]; rfl
  · rw [cell_of_blk h1, Array.getElem?_eq_getElem (by omega)]; rfl
/-- Many cells of a block, set one by one. -/
theorem heap_setCells {T : TypeId} {f : Nat × Nat} : ∀ (vs : List Value) (o : Nat) (w : World) (g : Nat) (cur : Array Value), w.heap[g]? = some (.cells cur T f) → o + vs.length ≤ cur.size →
    ∃ cur', (w.setCells g o vs).heap[g]? = some (.cells cur' T f) ∧ cur'.toList = cur.toList.take o ++ vs ++ cur.toList.drop (o + vs.length)
  | [], o, w, g, cur, h, _ => ⟨cur, h, by simp⟩
  | v :: r, o, w, g, cur, h, hl => by
    rw [List.length_cons] at hl
    have h1 : (w.setCell ⟨g, o, none⟩ v).heap[g]? = some (.cells (cur.set o v (by omega)) T f) := by
      have hlt := lt_of_some h
      simp [World.setCell, Array.getElem?_modify, h, Array.setIfInBounds, show o < cur.size by omega]
    obtain ⟨cur', h2, h3⟩ := heap_setCells r (o + 1) (w.setCell ⟨g, o, none⟩ v) g _ h1 (by simp; omega)
    refine ⟨cur', by rw [World.setCells]; exact h2, ?_⟩
    rw [h3, Array.toList_set, List.length_cons, show o + 1 + r.length = o + (r.length + 1) by omega]
    rw [List.take_set, List.drop_set_of_lt (by omega)]
    have ho : o < cur.toList.length := by rw [Array.length_toList]; omega
    rw [List.take_succ_eq_append_getElem ho, List.set_append_right _ _ (by rw [List.length_take]; omega), List.length_take, show o - min o cur.toList.length = 0 by omega]
    simp
/-- What is stored in both places. -/
theorem Two.swap {w : World} {g : Nat} {x y : Rc} (h : Two w g x y) : Two ((w.setCells g 19 x.cs).setCells g 0 y.cs) g y x := by
  obtain ⟨cur, h1, h2, h3⟩ := h
  have hl : cur.toList.length = cur.size := Array.length_toList
  obtain ⟨c1, k1, e1⟩ := heap_setCells x.cs 19 w g cur h1 (by rw [x.len]; omega)
  have l1 : c1.size = cur.size := by
    rw [← Array.length_toList, e1, List.length_append, List.length_append, List.length_take, List.length_drop, x.len]
    omega
  obtain ⟨c2, k2, e2⟩ := heap_setCells y.cs 0 _ g c1 k1 (by rw [y.len]; omega)
  have l2 : c2.size = c1.size := by
    rw [← Array.length_toList, e2, List.length_append, List.length_append, List.length_take, List.length_drop, y.len, Array.length_toList]
    omega
  refine ⟨c2, k2, by omega, ?_⟩
  rw [e2, List.take_zero, List.nil_append, y.len, e1, x.len]
  have hy : y.cs.length = 19 := y.len
  have hx : x.cs.length = 19 := x.len
  have ht : (cur.toList.take 19).length = 19 := by rw [List.length_take]; omega
  rw [List.append_assoc (cur.toList.take 19), Nat.zero_add, List.drop_append_of_le_length (by omega), List.drop_eq_nil_of_le (by omega), List.nil_append, ← List.append_assoc, List.take_append_of_le_length (by rw [List.length_append]; omega), List.take_of_length_le (by rw [List.length_append]; omega)]
theorem tn_setCells {S : Nat → Prop} {a : World} {g : Nat} (hg : S g) : ∀ (vs : List Value) (o : Nat) (w : World), lru.Tn S a w → lru.Tn S a (w.setCells g o vs)
  | [], _, _, h => h
  | v :: r, o, w, h => by
    rw [World.setCells]
    exact tn_setCells hg r (o + 1) _ (h.setCell (p := ⟨g, o, none⟩) (.inr hg) v)
theorem less_two (x y : Rc) (b : Bool) (w : World) (hb : decide (y.ma < x.ma) = b) : Calls Tryz.prog 20 #[.agg #[.int .i64 y.cl, .int .i64 y.ix, .int .i64 y.k, .string y.p, .int .i64 y.o, .int .i64 y.n, .int .i64 y.i, .string y.g, .int .i64 y.e, .int .i64 y.rk, .int .i64 y.z, .int .i64 y.wh, .int .i64 y.id, .string y.x, .slice y.A y.N.length y.c, .bool y.fin, .int .i64 y.ca, .int .i64 y.ma, .int .i64 y.re], .agg #[.int .i64 x.cl, .int .i64 x.ix, .int .i64 x.k, .string x.p, .int .i64 x.o, .int .i64 x.n, .int .i64 x.i, .string x.g, .int .i64 x.e, .int .i64 x.rk, .int .i64 x.z, .int .i64 x.wh, .int .i64 x.id, .string x.x, .slice x.A x.N.length x.c, .bool x.fin, .int .i64 x.ca, .int .i64 x.ma, .int .i64 x.re]] w fun e w' => (∃ q : Int, e = .returned (.int .i64 q) ∧ decide (q < 0) = b) ∧ Below w.heap.size w w' := by
  refine (less_any y x w).mono ?_
  rintro e w' ⟨rfl, h2⟩
  refine ⟨⟨_, rfl, ?_⟩, h2⟩
  rw [← hb]
  unfold cmpI
  by_cases h : y.ma < x.ma
  · rw [if_pos h]; simp [h]
  · rw [if_neg h]
    split <;> simp [h]
set_option maxHeartbeats 6400000 in
theorem ins_keep (g c : Nat) (x y : Rc) (w : World) (h : Two w g x y) (hlt : decide (y.ma < x.ma) = false) :
    Calls Tryz.prog 27 #[.slice (some ⟨g, 0, none⟩) 2 c, .int .i64 0, .int .i64 2, .func (.func 20) #[] #[]] w fun e w' => (∃ u, e = .returned u) ∧ Two w' g x y ∧ lru.Tn (fun j => j = g) w w' := by
  have HC : Hid (∀ w', Calls Tryz.prog 20 #[.agg #[.int .i64 y.cl, .int .i64 y.ix, .int .i64 y.k, .string y.p, .int .i64 y.o, .int .i64 y.n, .int .i64 y.i, .string y.g, .int .i64 y.e, .int .i64 y.rk, .int .i64 y.z, .int .i64 y.wh, .int .i64 y.id, .string y.x, .slice y.A y.N.length y.c, .bool y.fin, .int .i64 y.ca, .int .i64 y.ma, .int .i64 y.re], .agg #[.int .i64 x.cl, .int .i64 x.ix, .int .i64 x.k, .string x.p, .int .i64 x.o, .int .i64 x.n, .int .i64 x.i, .string x.g, .int .i64 x.e, .int .i64 x.rk, .int .i64 x.z, .int .i64 x.wh, .int .i64 x.id, .string x.x, .slice x.A x.N.length x.c, .bool x.fin, .int .i64 x.ca, .int .i64 x.ma, .int .i64 x.re]] w' fun e w'' => (∃ q : Int, e = .returned (.int .i64 q) ∧ decide (q < 0) = false) ∧ Below w'.heap.size w' w'') := Lib.hid fun w' => less_two x y false w' hlt
  have HT := Lib.hid h
  have HBd : Hid (Below w.heap.size w w.drew) := Lib.hid (Below.refl _ _).drew
  have hz0 : IntKind.i64.wrap 0 = 0 := IntWalk.i64_in _ (by omega)
  clear h hlt
  go_enter Tryz.func27, Tryz.ntmps27
  go_wp2_with fail
  refine wp_loop_rounds 2 ?_
  rw [rounds_succ]
  go_wp2_with fail
  refine wp_loop_rounds 2 ?_
  rw [rounds_succ]
  go_upto_region 4 with fail
  refine wp_region_held_drew (S := (fun w' => w'.rangeAt g 19 y.cs ∧ w'.rangeAt g 0 x.cs ∧ Below w.heap.size w w')) (by kernel_rfl) ⟨(HT.out.later HBd.out).at_.2, (HT.out.later HBd.out).at_.1, HBd.out⟩ (fun hHeld => ?_)
  refine wpAnyH_take (i := 0) (oi := ⟨some 18, _, _, _, _, _⟩) (v := ?_) rfl (by kernel_rfl) (by kernel_rfl) (by kernel_rfl) (fun _ _ _ h => h) (Or.inl ⟨by kernel_rfl, ?_⟩) (by assumption) ?_
  rotate_left 1
  focus (intro w' hSw; (try dsimp only at hSw); go_simp; (try with_reducible rfl))
  try simp only [Act.put, List.setIfInBounds_toArray, List.set_cons_zero, List.set_cons_succ]
  refine wpAnyH_take (i := 1) (oi := ⟨some 19, _, _, _, _, _⟩) (v := ?_) rfl (by kernel_rfl) (by kernel_rfl) (by kernel_rfl) (fun _ _ _ h => h) (Or.inl ⟨by kernel_rfl, ?_⟩) (by assumption) ?_
  rotate_left 1
  focus (intro w' hSw; (try dsimp only at hSw); go_simp; (try with_reducible rfl))
  try simp only [Act.put, List.setIfInBounds_toArray, List.set_cons_zero, List.set_cons_succ]
  refine wpAnyH_take (i := 2) (oi := ⟨some 20, _, _, _, _, _⟩) (v := ?_) rfl (by kernel_rfl) (by kernel_rfl) (by kernel_rfl) (fun _ _ _ h => h) (Or.inl ⟨by kernel_rfl, ?_⟩) (by assumption) ?_
  rotate_left 1
  focus (intro w' hSw; (try dsimp only at hSw); go_simp; (try with_reducible rfl))
  try simp only [Act.put, List.setIfInBounds_toArray, List.set_cons_zero, List.set_cons_succ]
  refine wpAnyH_take (i := 3) (oi := ⟨some 21, _, _, _, _, _⟩) (v := ?_) rfl (by kernel_rfl) (by kernel_rfl) (by kernel_rfl) (fun _ _ _ h => h) (Or.inl ⟨by kernel_rfl, ?_⟩) (by assumption) ?_
  rotate_left 1
  focus (intro w' hSw; (try dsimp only at hSw); go_simp; (try with_reducible rfl))
  try simp only [Act.put, List.setIfInBounds_toArray, List.set_cons_zero, List.set_cons_succ]
  refine wpAnyH_take (i := 4) (oi := ⟨some 22, _, _, _, _, _⟩) (v := ?_) rfl (by kernel_rfl) (by kernel_rfl) (by kernel_rfl) (fun _ _ _ h => h) (Or.inl ⟨by kernel_rfl, ?_⟩) (by assumption) ?_
  rotate_left 1
  focus (intro w' hSw; (try dsimp only at hSw); go_simp; (try with_reducible rfl))
  try simp only [Act.put, List.setIfInBounds_toArray, List.set_cons_zero, List.set_cons_succ]
  refine wpAnyH_take (i := 5) (oi := ⟨some 23, _, _, _, _, _⟩) (v := ?_) rfl (by kernel_rfl) (by kernel_rfl) (by kernel_rfl) (fun _ _ _ h => h) (Or.inl ⟨by kernel_rfl, ?_⟩) (by assumption) ?_
  rotate_left 1
  focus (intro w' hSw; (try dsimp only at hSw); go_simp; (try with_reducible rfl))
  try simp only [Act.put, List.setIfInBounds_toArray, List.set_cons_zero, List.set_cons_succ]
  refine wpAnyH_take (i := 6) (oi := ⟨some 24, _, _, _, _, _⟩) (v := ?_) rfl (by kernel_rfl) (by kernel_rfl) (by kernel_rfl) (fun _ _ _ h => h) (Or.inl ⟨by kernel_rfl, ?_⟩) (by assumption) ?_
  rotate_left 1
  focus (intro w' hSw; (try dsimp only at hSw); go_simp; (try with_reducible rfl))
  try simp only [Act.put, List.setIfInBounds_toArray, List.set_cons_zero, List.set_cons_succ]
  refine wpAnyH_take (i := 7) (oi := ⟨some 25, _, _, _, _, _⟩) (v := ?_) rfl (by kernel_rfl) (by kernel_rfl) (by kernel_rfl) (fun _ _ _ h => h) (Or.inl ⟨by kernel_rfl, ?_⟩) (by assumption) ?_
  rotate_left 1
  focus (intro w' hSw; (try dsimp only at hSw); go_simp; (try with_reducible rfl))
  try simp only [Act.put, List.setIfInBounds_toArray, List.set_cons_zero, List.set_cons_succ]
  refine wpAnyH_take (i := 8) (oi := ⟨some 26, _, _, _, _, _⟩) (v := .agg #[.int .i64 y.cl, .int .i64 y.ix, .int .i64 y.k, .string y.p, .int .i64 y.o, .int .i64 y.n, .int .i64 y.i, .string y.g, .int .i64 y.e, .int .i64 y.rk, .int .i64 y.z, .int .i64 y.wh, .int .i64 y.id, .string y.x, .slice y.A y.N.length y.c, .bool y.fin, .int .i64 y.ca, .int .i64 y.ma, .int .i64 y.re]) rfl (by kernel_rfl) (by kernel_rfl) (by kernel_rfl) (fun _ _ _ h => h) (yieldsIf_load_mid (by kernel_rfl) 32 (.tmp 25) rfl g 19 rfl y.cs _ (fun w' (hS : (fun w' => w'.rangeAt g 19 y.cs ∧ w'.rangeAt g 0 x.cs ∧ Below w.heap.size w w') w') => hS.1) Tryz.underlying32 rfl (by kernel_rfl)) (by assumption) ?_
  try simp only [Act.put, List.setIfInBounds_toArray, List.set_cons_zero, List.set_cons_succ]
  refine wpAnyH_take (i := 9) (oi := ⟨some 27, _, _, _, _, _⟩) (v := ?_) rfl (by kernel_rfl) (by kernel_rfl) (by kernel_rfl) (fun _ _ _ h => h) (Or.inl ⟨by kernel_rfl, ?_⟩) (by assumption) ?_
  rotate_left 1
  focus (intro w' hSw; (try dsimp only at hSw); go_simp; (try with_reducible rfl))
  try simp only [Act.put, List.setIfInBounds_toArray, List.set_cons_zero, List.set_cons_succ]
  refine wpAnyH_take (i := 10) (oi := ⟨some 28, _, _, _, _, _⟩) (v := ?_) rfl (by kernel_rfl) (by kernel_rfl) (by kernel_rfl) (fun _ _ _ h => h) (Or.inl ⟨by kernel_rfl, ?_⟩) (by assumption) ?_
  rotate_left 1
  focus (intro w' hSw; (try dsimp only at hSw); go_simp; (try with_reducible rfl))
  try simp only [Act.put, List.setIfInBounds_toArray, List.set_cons_zero, List.set_cons_succ]
  refine wpAnyH_take (i := 11) (oi := ⟨some 29, _, _, _, _, _⟩) (v := ?_) rfl (by kernel_rfl) (by kernel_rfl) (by kernel_rfl) (fun _ _ _ h => h) (Or.inl ⟨by kernel_rfl, ?_⟩) (by assumption) ?_
  rotate_left 1
  focus (intro w' hSw; (try dsimp only at hSw); go_simp; (try with_reducible rfl))
  try simp only [Act.put, List.setIfInBounds_toArray, List.set_cons_zero, List.set_cons_succ]
  refine wpAnyH_take (i := 12) (oi := ⟨some 30, _, _, _, _, _⟩) (v := ?_) rfl (by kernel_rfl) (by kernel_rfl) (by kernel_rfl) (fun _ _ _ h => h) (Or.inl ⟨by kernel_rfl, ?_⟩) (by assumption) ?_
  rotate_left 1
  focus (intro w' hSw; (try dsimp only at hSw); go_simp; (try with_reducible rfl))
  try simp only [Act.put, List.setIfInBounds_toArray, List.set_cons_zero, List.set_cons_succ]
  refine wpAnyH_take (i := 13) (oi := ⟨some 31, _, _, _, _, _⟩) (v := .agg #[.int .i64 x.cl, .int .i64 x.ix, .int .i64 x.k, .string x.p, .int .i64 x.o, .int .i64 x.n, .int .i64 x.i, .string x.g, .int .i64 x.e, .int .i64 x.rk, .int .i64 x.z, .int .i64 x.wh, .int .i64 x.id, .string x.x, .slice x.A x.N.length x.c, .bool x.fin, .int .i64 x.ca, .int .i64 x.ma, .int .i64 x.re]) rfl (by kernel_rfl) (by kernel_rfl) (by kernel_rfl) (fun _ _ _ h => h) (yieldsIf_load_mid (by kernel_rfl) 32 (.tmp 30) rfl g 0 rfl x.cs _ (fun w' (hS : (fun w' => w'.rangeAt g 19 y.cs ∧ w'.rangeAt g 0 x.cs ∧ Below w.heap.size w w') w') => hS.2.1) Tryz.underlying32 rfl (by kernel_rfl)) (by assumption) ?_
  try simp only [Act.put, List.setIfInBounds_toArray, List.set_cons_zero, List.set_cons_succ]
  refine wpAnyH_ready (rs := [14]) (by kernel_rfl) (by simp) ?_
  refine AllReadyH.cons rfl (fun K hK => ?_) AllReadyH.nil
  go_simp
  go_at_call 20
  refine (HC.out _).mono ?_
  rintro en v1 ⟨⟨q, rfl, hq⟩, hv1⟩
  clear hHeld
  refine hK.out _ _ (⟨(HT.out.later (HBd.out.trans (hv1.mono HBd.out.size))).at_.2, (HT.out.later (HBd.out.trans (hv1.mono HBd.out.size))).at_.1, HBd.out.trans (hv1.mono HBd.out.size)⟩) (fun hHeld => ?_)
  clear hK
  refine wpAnyH_take (i := 15) (oi := ⟨some 33, _, _, _, _, _⟩) (v := ?_) rfl (by kernel_rfl) (by kernel_rfl) (by kernel_rfl) (fun _ _ _ h => h) (Or.inl ⟨by kernel_rfl, ?_⟩) (by assumption) ?_
  rotate_left 1
  focus (intro w' hSw; (try dsimp only at hSw); go_simp; (try with_reducible rfl))
  try simp only [Act.put, List.setIfInBounds_toArray, List.set_cons_zero, List.set_cons_succ]
  refine wpAnyH_take (i := 16) (oi := ⟨some 34, _, _, _, _, _⟩) (v := ?_) rfl (by kernel_rfl) (by kernel_rfl) (by kernel_rfl) (fun _ _ _ h => h) (Or.inl ⟨by kernel_rfl, ?_⟩) (by assumption) ?_
  rotate_left 1
  focus (intro w' hSw; (try dsimp only at hSw); go_simp; (try with_reducible rfl))
  try simp only [Act.put, List.setIfInBounds_toArray, List.set_cons_zero, List.set_cons_succ]
  refine wpAnyH_done (by kernel_rfl) ?_ _
  clear hHeld
  have HV := Lib.hid (HBd.out.trans (hv1.mono HBd.out.size))
  clear hv1 HC
  go_wp2_with fail
  rw [rounds_succ]
  go_wp2_with fail
  go_end0
  exact ⟨⟨_, rfl⟩, HT.out.later HV.out, lru.Tn.of_below HV.out _⟩
set_option maxHeartbeats 6400000 in
theorem ins_swap (g c : Nat) (x y : Rc) (w : World) (h : Two w g x y) (hlt : decide (y.ma < x.ma) = true) :
    Calls Tryz.prog 27 #[.slice (some ⟨g, 0, none⟩) 2 c, .int .i64 0, .int .i64 2, .func (.func 20) #[] #[]] w fun e w' => (∃ u, e = .returned u) ∧ Two w' g y x ∧ lru.Tn (fun j => j = g) w w' := by
  have HC : Hid (∀ w', Calls Tryz.prog 20 #[.agg #[.int .i64 y.cl, .int .i64 y.ix, .int .i64 y.k, .string y.p, .int .i64 y.o, .int .i64 y.n, .int .i64 y.i, .string y.g, .int .i64 y.e, .int .i64 y.rk, .int .i64 y.z, .int .i64 y.wh, .int .i64 y.id, .string y.x, .slice y.A y.N.length y.c, .bool y.fin, .int .i64 y.ca, .int .i64 y.ma, .int .i64 y.re], .agg #[.int .i64 x.cl, .int .i64 x.ix, .int .i64 x.k, .string x.p, .int .i64 x.o, .int .i64 x.n, .int .i64 x.i, .string x.g, .int .i64 x.e, .int .i64 x.rk, .int .i64 x.z, .int .i64 x.wh, .int .i64 x.id, .string x.x, .slice x.A x.N.length x.c, .bool x.fin, .int .i64 x.ca, .int .i64 x.ma, .int .i64 x.re]] w' fun e w'' => (∃ q : Int, e = .returned (.int .i64 q) ∧ decide (q < 0) = true) ∧ Below w'.heap.size w' w'') := Lib.hid fun w' => less_two x y true w' hlt
  have HT := Lib.hid h
  have HBd : Hid (Below w.heap.size w w.drew) := Lib.hid (Below.refl _ _).drew
  have hz0 : IntKind.i64.wrap 0 = 0 := IntWalk.i64_in _ (by omega)
  clear h hlt
  go_enter Tryz.func27, Tryz.ntmps27
  go_wp2_with fail
  refine wp_loop_rounds 2 ?_
  rw [rounds_succ]
  go_wp2_with fail
  refine wp_loop_rounds 2 ?_
  rw [rounds_succ]
  go_upto_region 4 with fail
  refine wp_region_held_drew (S := (fun w' => w'.rangeAt g 19 y.cs ∧ w'.rangeAt g 0 x.cs ∧ Below w.heap.size w w')) (by kernel_rfl) ⟨(HT.out.later HBd.out).at_.2, (HT.out.later HBd.out).at_.1, HBd.out⟩ (fun hHeld => ?_)
  refine wpAnyH_take (i := 0) (oi := ⟨some 18, _, _, _, _, _⟩) (v := ?_) rfl (by kernel_rfl) (by kernel_rfl) (by kernel_rfl) (fun _ _ _ h => h) (Or.inl ⟨by kernel_rfl, ?_⟩) (by assumption) ?_
  rotate_left 1
  focus (intro w' hSw; (try dsimp only at hSw); go_simp; (try with_reducible rfl))
  try simp only [Act.put, List.setIfInBounds_toArray, List.set_cons_zero, List.set_cons_succ]
  refine wpAnyH_take (i := 1) (oi := ⟨some 19, _, _, _, _, _⟩) (v := ?_) rfl (by kernel_rfl) (by kernel_rfl) (by kernel_rfl) (fun _ _ _ h => h) (Or.inl ⟨by kernel_rfl, ?_⟩) (by assumption) ?_
  rotate_left 1
  focus (intro w' hSw; (try dsimp only at hSw); go_simp; (try with_reducible rfl))
  try simp only [Act.put, List.setIfInBounds_toArray, List.set_cons_zero, List.set_cons_succ]
  refine wpAnyH_take (i := 2) (oi := ⟨some 20, _, _, _, _, _⟩) (v := ?_) rfl (by kernel_rfl) (by kernel_rfl) (by kernel_rfl) (fun _ _ _ h => h) (Or.inl ⟨by kernel_rfl, ?_⟩) (by assumption) ?_
  rotate_left 1
  focus (intro w' hSw; (try dsimp only at hSw); go_simp; (try with_reducible rfl))
  try simp only [Act.put, List.setIfInBounds_toArray, List.set_cons_zero, List.set_cons_succ]
  refine wpAnyH_take (i := 3) (oi := ⟨some 21, _, _, _, _, _⟩) (v := ?_) rfl (by kernel_rfl) (by kernel_rfl) (by kernel_rfl) (fun _ _ _ h => h) (Or.inl ⟨by kernel_rfl, ?_⟩) (by assumption) ?_
  rotate_left 1
  focus (intro w' hSw; (try dsimp only at hSw); go_simp; (try with_reducible rfl))
  try simp only [Act.put, List.setIfInBounds_toArray, List.set_cons_zero, List.set_cons_succ]
  refine wpAnyH_take (i := 4) (oi := ⟨some 22, _, _, _, _, _⟩) (v := ?_) rfl (by kernel_rfl) (by kernel_rfl) (by kernel_rfl) (fun _ _ _ h => h) (Or.inl ⟨by kernel_rfl, ?_⟩) (by assumption) ?_
  rotate_left 1
  focus (intro w' hSw; (try dsimp only at hSw); go_simp; (try with_reducible rfl))
  try simp only [Act.put, List.setIfInBounds_toArray, List.set_cons_zero, List.set_cons_succ]
  refine wpAnyH_take (i := 5) (oi := ⟨some 23, _, _, _, _, _⟩) (v := ?_) rfl (by kernel_rfl) (by kernel_rfl) (by kernel_rfl) (fun _ _ _ h => h) (Or.inl ⟨by kernel_rfl, ?_⟩) (by assumption) ?_
  rotate_left 1
  focus (intro w' hSw; (try dsimp only at hSw); go_simp; (try with_reducible rfl))
  try simp only [Act.put, List.setIfInBounds_toArray, List.set_cons_zero, List.set_cons_succ]
  refine wpAnyH_take (i := 6) (oi := ⟨some 24, _, _, _, _, _⟩) (v := ?_) rfl (by kernel_rfl) (by kernel_rfl) (by kernel_rfl) (fun _ _ _ h => h) (Or.inl ⟨by kernel_rfl, ?_⟩) (by assumption) ?_
  rotate_left 1
  focus (intro w' hSw; (try dsimp only at hSw); go_simp; (try with_reducible rfl))
  try simp only [Act.put, List.setIfInBounds_toArray, List.set_cons_zero, List.set_cons_succ]
  refine wpAnyH_take (i := 7) (oi := ⟨some 25, _, _, _, _, _⟩) (v := ?_) rfl (by kernel_rfl) (by kernel_rfl) (by kernel_rfl) (fun _ _ _ h => h) (Or.inl ⟨by kernel_rfl, ?_⟩) (by assumption) ?_
  rotate_left 1
  focus (intro w' hSw; (try dsimp only at hSw); go_simp; (try with_reducible rfl))
  try simp only [Act.put, List.setIfInBounds_toArray, List.set_cons_zero, List.set_cons_succ]
  refine wpAnyH_take (i := 8) (oi := ⟨some 26, _, _, _, _, _⟩) (v := .agg #[.int .i64 y.cl, .int .i64 y.ix, .int .i64 y.k, .string y.p, .int .i64 y.o, .int .i64 y.n, .int .i64 y.i, .string y.g, .int .i64 y.e, .int .i64 y.rk, .int .i64 y.z, .int .i64 y.wh, .int .i64 y.id, .string y.x, .slice y.A y.N.length y.c, .bool y.fin, .int .i64 y.ca, .int .i64 y.ma, .int .i64 y.re]) rfl (by kernel_rfl) (by kernel_rfl) (by kernel_rfl) (fun _ _ _ h => h) (yieldsIf_load_mid (by kernel_rfl) 32 (.tmp 25) rfl g 19 rfl y.cs _ (fun w' (hS : (fun w' => w'.rangeAt g 19 y.cs ∧ w'.rangeAt g 0 x.cs ∧ Below w.heap.size w w') w') => hS.1) Tryz.underlying32 rfl (by kernel_rfl)) (by assumption) ?_
  try simp only [Act.put, List.setIfInBounds_toArray, List.set_cons_zero, List.set_cons_succ]
  refine wpAnyH_take (i := 9) (oi := ⟨some 27, _, _, _, _, _⟩) (v := ?_) rfl (by kernel_rfl) (by kernel_rfl) (by kernel_rfl) (fun _ _ _ h => h) (Or.inl ⟨by kernel_rfl, ?_⟩) (by assumption) ?_
  rotate_left 1
  focus (intro w' hSw; (try dsimp only at hSw); go_simp; (try with_reducible rfl))
  try simp only [Act.put, List.setIfInBounds_toArray, List.set_cons_zero, List.set_cons_succ]
  refine wpAnyH_take (i := 10) (oi := ⟨some 28, _, _, _, _, _⟩) (v := ?_) rfl (by kernel_rfl) (by kernel_rfl) (by kernel_rfl) (fun _ _ _ h => h) (Or.inl ⟨by kernel_rfl, ?_⟩) (by assumption) ?_
  rotate_left 1
  focus (intro w' hSw; (try dsimp only at hSw); go_simp; (try with_reducible rfl))
  try simp only [Act.put, List.setIfInBounds_toArray, List.set_cons_zero, List.set_cons_succ]
  refine wpAnyH_take (i := 11) (oi := ⟨some 29, _, _, _, _, _⟩) (v := ?_) rfl (by kernel_rfl) (by kernel_rfl) (by kernel_rfl) (fun _ _ _ h => h) (Or.inl ⟨by kernel_rfl, ?_⟩) (by assumption) ?_
  rotate_left 1
  focus (intro w' hSw; (try dsimp only at hSw); go_simp; (try with_reducible rfl))
  try simp only [Act.put, List.setIfInBounds_toArray, List.set_cons_zero, List.set_cons_succ]
  refine wpAnyH_take (i := 12) (oi := ⟨some 30, _, _, _, _, _⟩) (v := ?_) rfl (by kernel_rfl) (by kernel_rfl) (by kernel_rfl) (fun _ _ _ h => h) (Or.inl ⟨by kernel_rfl, ?_⟩) (by assumption) ?_
  rotate_left 1
  focus (intro w' hSw; (try dsimp only at hSw); go_simp; (try with_reducible rfl))
  try simp only [Act.put, List.setIfInBounds_toArray, List.set_cons_zero, List.set_cons_succ]
  refine wpAnyH_take (i := 13) (oi := ⟨some 31, _, _, _, _, _⟩) (v := .agg #[.int .i64 x.cl, .int .i64 x.ix, .int .i64 x.k, .string x.p, .int .i64 x.o, .int .i64 x.n, .int .i64 x.i, .string x.g, .int .i64 x.e, .int .i64 x.rk, .int .i64 x.z, .int .i64 x.wh, .int .i64 x.id, .string x.x, .slice x.A x.N.length x.c, .bool x.fin, .int .i64 x.ca, .int .i64 x.ma, .int .i64 x.re]) rfl (by kernel_rfl) (by kernel_rfl) (by kernel_rfl) (fun _ _ _ h => h) (yieldsIf_load_mid (by kernel_rfl) 32 (.tmp 30) rfl g 0 rfl x.cs _ (fun w' (hS : (fun w' => w'.rangeAt g 19 y.cs ∧ w'.rangeAt g 0 x.cs ∧ Below w.heap.size w w') w') => hS.2.1) Tryz.underlying32 rfl (by kernel_rfl)) (by assumption) ?_
  try simp only [Act.put, List.setIfInBounds_toArray, List.set_cons_zero, List.set_cons_succ]
  refine wpAnyH_ready (rs := [14]) (by kernel_rfl) (by simp) ?_
  refine AllReadyH.cons rfl (fun K hK => ?_) AllReadyH.nil
  go_simp
  go_at_call 20
  refine (HC.out _).mono ?_
  rintro en v1 ⟨⟨q, rfl, hq⟩, hv1⟩
  clear hHeld
  refine hK.out _ _ (⟨(HT.out.later (HBd.out.trans (hv1.mono HBd.out.size))).at_.2, (HT.out.later (HBd.out.trans (hv1.mono HBd.out.size))).at_.1, HBd.out.trans (hv1.mono HBd.out.size)⟩) (fun hHeld => ?_)
  clear hK
  refine wpAnyH_take (i := 15) (oi := ⟨some 33, _, _, _, _, _⟩) (v := ?_) rfl (by kernel_rfl) (by kernel_rfl) (by kernel_rfl) (fun _ _ _ h => h) (Or.inl ⟨by kernel_rfl, ?_⟩) (by assumption) ?_
  rotate_left 1
  focus (intro w' hSw; (try dsimp only at hSw); go_simp; (try with_reducible rfl))
  try simp only [Act.put, List.setIfInBounds_toArray, List.set_cons_zero, List.set_cons_succ]
  refine wpAnyH_take (i := 16) (oi := ⟨some 34, _, _, _, _, _⟩) (v := ?_) rfl (by kernel_rfl) (by kernel_rfl) (by kernel_rfl) (fun _ _ _ h => h) (Or.inl ⟨by kernel_rfl, ?_⟩) (by assumption) ?_
  rotate_left 1
  focus (intro w' hSw; (try dsimp only at hSw); go_simp; (try with_reducible rfl))
  try simp only [Act.put, List.setIfInBounds_toArray, List.set_cons_zero, List.set_cons_succ]
  refine wpAnyH_done (by kernel_rfl) ?_ _
  clear hHeld
  have HV := Lib.hid (HBd.out.trans (hv1.mono HBd.out.size))
  clear hv1 HC
  have HT1 := Lib.hid (HT.out.later HV.out)
  have HT2 : Hid (Two v1.drew g x y) := Lib.hid (HT1.out.later (Below.refl _ _).drew)
  obtain ⟨V2, hV2⟩ : ∃ V2, V2 = v1.drew.setCells g 19 x.cs := ⟨_, rfl⟩
  have HTh := Lib.hid (And.intro HT2.out.there.2 (World.there_setCells HT2.out.there.1 g 19 x.cs))
  rw [← hV2] at HTh
  obtain ⟨V3, hV3⟩ : ∃ V3, V3 = V2.setCells g 0 y.cs := ⟨_, rfl⟩
  have HSw : Hid (Two V3 g y x ∧ lru.Tn (fun j => j = g) w V3) := Lib.hid (by
    rw [hV3, hV2]
    exact ⟨HT2.out.swap, tn_setCells (S := fun j => j = g) (g := g) rfl _ _ _ (tn_setCells (S := fun j => j = g) (g := g) rfl _ _ _ (lru.Tn.of_below HV.out (fun j => j = g)).drew)⟩)
  have HV2 := Lib.hid hV2
  have HV3 := Lib.hid hV3
  clear hV2 hV3
  go_upto_region 6 with fail
  refine held.wpT_start (S := (fun w' => w'.rangeAt g 19 y.cs ∧ w'.rangeAt g 0 x.cs)) (T := fun k => k == 15 || k == 17) (by kernel_rfl) ?_
  refine held.wpT_take (i := 0) (oi := ⟨some 37, _, _, _, _, _⟩) (v := ?_) rfl (by kernel_rfl) (by kernel_rfl) (by kernel_rfl) (fun _ _ _ h => h) (Or.inl ⟨by kernel_rfl, ?_⟩) ?_
  rotate_left 1
  focus (intro w' hSw; go_simp; (try with_reducible rfl))
  try simp only [Act.put, List.setIfInBounds_toArray, List.set_cons_zero, List.set_cons_succ]
  refine held.wpT_take (i := 1) (oi := ⟨some 38, _, _, _, _, _⟩) (v := ?_) rfl (by kernel_rfl) (by kernel_rfl) (by kernel_rfl) (fun _ _ _ h => h) (Or.inl ⟨by kernel_rfl, ?_⟩) ?_
  rotate_left 1
  focus (intro w' hSw; go_simp; (try with_reducible rfl))
  try simp only [Act.put, List.setIfInBounds_toArray, List.set_cons_zero, List.set_cons_succ]
  refine held.wpT_take (i := 2) (oi := ⟨some 39, _, _, _, _, _⟩) (v := ?_) rfl (by kernel_rfl) (by kernel_rfl) (by kernel_rfl) (fun _ _ _ h => h) (Or.inl ⟨by kernel_rfl, ?_⟩) ?_
  rotate_left 1
  focus (intro w' hSw; go_simp; (try with_reducible rfl))
  try simp only [Act.put, List.setIfInBounds_toArray, List.set_cons_zero, List.set_cons_succ]
  refine held.wpT_take (i := 3) (oi := ⟨some 40, _, _, _, _, _⟩) (v := ?_) rfl (by kernel_rfl) (by kernel_rfl) (by kernel_rfl) (fun _ _ _ h => h) (Or.inl ⟨by kernel_rfl, ?_⟩) ?_
  rotate_left 1
  focus (intro w' hSw; go_simp; (try with_reducible rfl))
  try simp only [Act.put, List.setIfInBounds_toArray, List.set_cons_zero, List.set_cons_succ]
  refine held.wpT_take (i := 4) (oi := ⟨some 41, _, _, _, _, _⟩) (v := ?_) rfl (by kernel_rfl) (by kernel_rfl) (by kernel_rfl) (fun _ _ _ h => h) (Or.inl ⟨by kernel_rfl, ?_⟩) ?_
  rotate_left 1
  focus (intro w' hSw; go_simp; (try with_reducible rfl))
  try simp only [Act.put, List.setIfInBounds_toArray, List.set_cons_zero, List.set_cons_succ]
  refine held.wpT_take (i := 5) (oi := ⟨some 42, _, _, _, _, _⟩) (v := ?_) rfl (by kernel_rfl) (by kernel_rfl) (by kernel_rfl) (fun _ _ _ h => h) (Or.inl ⟨by kernel_rfl, ?_⟩) ?_
  rotate_left 1
  focus (intro w' hSw; go_simp; (try with_reducible rfl))
  try simp only [Act.put, List.setIfInBounds_toArray, List.set_cons_zero, List.set_cons_succ]
  refine held.wpT_take (i := 6) (oi := ⟨some 43, _, _, _, _, _⟩) (v := ?_) rfl (by kernel_rfl) (by kernel_rfl) (by kernel_rfl) (fun _ _ _ h => h) (Or.inl ⟨by kernel_rfl, ?_⟩) ?_
  rotate_left 1
  focus (intro w' hSw; go_simp; (try with_reducible rfl))
  try simp only [Act.put, List.setIfInBounds_toArray, List.set_cons_zero, List.set_cons_succ]
  refine held.wpT_take (i := 7) (oi := ⟨some 44, _, _, _, _, _⟩) (v := ?_) rfl (by kernel_rfl) (by kernel_rfl) (by kernel_rfl) (fun _ _ _ h => h) (Or.inl ⟨by kernel_rfl, ?_⟩) ?_
  rotate_left 1
  focus (intro w' hSw; go_simp; (try with_reducible rfl))
  try simp only [Act.put, List.setIfInBounds_toArray, List.set_cons_zero, List.set_cons_succ]
  refine held.wpT_take (i := 8) (oi := ⟨some 45, _, _, _, _, _⟩) (v := ?_) rfl (by kernel_rfl) (by kernel_rfl) (by kernel_rfl) (fun _ _ _ h => h) (Or.inl ⟨by kernel_rfl, ?_⟩) ?_
  rotate_left 1
  focus (intro w' hSw; go_simp; (try with_reducible rfl))
  try simp only [Act.put, List.setIfInBounds_toArray, List.set_cons_zero, List.set_cons_succ]
  refine held.wpT_load (i := 9) (oi := ⟨some 46, _, _, _, _, _⟩) (v := .agg #[.int .i64 x.cl, .int .i64 x.ix, .int .i64 x.k, .string x.p, .int .i64 x.o, .int .i64 x.n, .int .i64 x.i, .string x.g, .int .i64 x.e, .int .i64 x.rk, .int .i64 x.z, .int .i64 x.wh, .int .i64 x.id, .string x.x, .slice x.A x.N.length x.c, .bool x.fin, .int .i64 x.ca, .int .i64 x.ma, .int .i64 x.re]) rfl (by kernel_rfl) (by kernel_rfl) (by kernel_rfl) (fun _ _ _ h => h) (by kernel_rfl) (yieldsIf_load_mid (by kernel_rfl) 32 (.tmp 45) rfl g 0 rfl x.cs _ (fun w' (hS : (fun w' => w'.rangeAt g 19 y.cs ∧ w'.rangeAt g 0 x.cs) w') => hS.2) Tryz.underlying32 rfl (by kernel_rfl)) ⟨HT2.out.at_.2, HT2.out.at_.1⟩ ?_
  try simp only [Act.put, List.setIfInBounds_toArray, List.set_cons_zero, List.set_cons_succ]
  refine held.wpT_take (i := 10) (oi := ⟨some 47, _, _, _, _, _⟩) (v := ?_) rfl (by kernel_rfl) (by kernel_rfl) (by kernel_rfl) (fun _ _ _ h => h) (Or.inl ⟨by kernel_rfl, ?_⟩) ?_
  rotate_left 1
  focus (intro w' hSw; go_simp; (try with_reducible rfl))
  try simp only [Act.put, List.setIfInBounds_toArray, List.set_cons_zero, List.set_cons_succ]
  refine held.wpT_take (i := 11) (oi := ⟨some 48, _, _, _, _, _⟩) (v := ?_) rfl (by kernel_rfl) (by kernel_rfl) (by kernel_rfl) (fun _ _ _ h => h) (Or.inl ⟨by kernel_rfl, ?_⟩) ?_
  rotate_left 1
  focus (intro w' hSw; go_simp; (try with_reducible rfl))
  try simp only [Act.put, List.setIfInBounds_toArray, List.set_cons_zero, List.set_cons_succ]
  refine held.wpT_take (i := 12) (oi := ⟨some 49, _, _, _, _, _⟩) (v := ?_) rfl (by kernel_rfl) (by kernel_rfl) (by kernel_rfl) (fun _ _ _ h => h) (Or.inl ⟨by kernel_rfl, ?_⟩) ?_
  rotate_left 1
  focus (intro w' hSw; go_simp; (try with_reducible rfl))
  try simp only [Act.put, List.setIfInBounds_toArray, List.set_cons_zero, List.set_cons_succ]
  refine held.wpT_load (i := 13) (oi := ⟨some 50, _, _, _, _, _⟩) (v := .agg #[.int .i64 y.cl, .int .i64 y.ix, .int .i64 y.k, .string y.p, .int .i64 y.o, .int .i64 y.n, .int .i64 y.i, .string y.g, .int .i64 y.e, .int .i64 y.rk, .int .i64 y.z, .int .i64 y.wh, .int .i64 y.id, .string y.x, .slice y.A y.N.length y.c, .bool y.fin, .int .i64 y.ca, .int .i64 y.ma, .int .i64 y.re]) rfl (by kernel_rfl) (by kernel_rfl) (by kernel_rfl) (fun _ _ _ h => h) (by kernel_rfl) (yieldsIf_load_mid (by kernel_rfl) 32 (.tmp 49) rfl g 19 rfl y.cs _ (fun w' (hS : (fun w' => w'.rangeAt g 19 y.cs ∧ w'.rangeAt g 0 x.cs) w') => hS.1) Tryz.underlying32 rfl (by kernel_rfl)) ⟨HT2.out.at_.2, HT2.out.at_.1⟩ ?_
  try simp only [Act.put, List.setIfInBounds_toArray, List.set_cons_zero, List.set_cons_succ]
  refine held.wpT_take (i := 14) (oi := ⟨some 51, _, _, _, _, _⟩) (v := ?_) rfl (by kernel_rfl) (by kernel_rfl) (by kernel_rfl) (fun _ _ _ h => h) (Or.inl ⟨by kernel_rfl, ?_⟩) ?_
  rotate_left 1
  focus (intro w' hSw; go_simp; (try with_reducible rfl))
  try simp only [Act.put, List.setIfInBounds_toArray, List.set_cons_zero, List.set_cons_succ]
  refine held.wpT_one (i := 15) (by kernel_rfl) rfl (fun Kc hK => ?_)
  rw [if_pos (by kernel_rfl)]
  refine wp_store_mid 32 (.tmp 51) (.tmp 46) rfl g 19 x.cs.toArray rfl rfl HTh.out.1 (by kernel_rfl) (all_oneCell_toArray x.one) ?_
  rw [show v1.drew.setCells g 19 x.cs.toArray.toList = V2 from HV2.out.symm]
  refine hK.out _ _ (fun h => absurd h (by decide)) ?_
  clear hK
  simp only [Act.put]
  refine held.wpT_take (i := 16) (oi := ⟨some 52, _, _, _, _, _⟩) (v := ?_) rfl (by kernel_rfl) (by kernel_rfl) (by kernel_rfl) (fun _ _ _ h => h) (Or.inl ⟨by kernel_rfl, ?_⟩) ?_
  rotate_left 1
  focus (intro w' hSw; go_simp; (try with_reducible rfl))
  try simp only [Act.put, List.setIfInBounds_toArray]
  refine held.wpT_one (i := 17) (by kernel_rfl) rfl (fun Kc hK => ?_)
  rw [if_pos (by kernel_rfl)]
  refine wp_store_mid 32 (.tmp 52) (.tmp 50) rfl g 0 y.cs.toArray rfl rfl HTh.out.2 (by kernel_rfl) (all_oneCell_toArray y.one) ?_
  rw [show V2.setCells g 0 y.cs.toArray.toList = V3 from HV3.out.symm]
  refine hK.out _ _ (fun h => absurd h (by decide)) ?_
  clear hK
  simp only [Act.put]
  refine held.wpT_done (by kernel_rfl) ?_ _
  clear HTh HV2 HV3
  go_wp2_with fail
  rw [rounds_succ]
  go_upto_region 4 with fail
  refine wp_region_held_drew (S := (fun _ => True)) (by kernel_rfl) trivial (fun hHeld => ?_)
  refine wpAnyH_take (i := 0) (oi := ⟨some 18, _, _, _, _, _⟩) (v := ?_) rfl (by kernel_rfl) (by kernel_rfl) (by kernel_rfl) (fun _ _ _ h => h) (Or.inl ⟨by kernel_rfl, ?_⟩) (by assumption) ?_
  rotate_left 1
  focus (intro w' hSw; (try dsimp only at hSw); go_simp; (try with_reducible rfl))
  try simp only [Act.put, List.setIfInBounds_toArray, List.set_cons_zero, List.set_cons_succ]
  refine wpAnyH_take (i := 1) (oi := ⟨some 19, _, _, _, _, _⟩) (v := ?_) rfl (by kernel_rfl) (by kernel_rfl) (by kernel_rfl) (fun _ _ _ h => h) (Or.inl ⟨by kernel_rfl, ?_⟩) (by assumption) ?_
  rotate_left 1
  focus (intro w' hSw; (try dsimp only at hSw); go_simp; (try with_reducible rfl))
  try simp only [Act.put, List.setIfInBounds_toArray, List.set_cons_zero, List.set_cons_succ]
  refine wpAnyH_take (i := 2) (oi := ⟨some 20, _, _, _, _, _⟩) (v := ?_) rfl (by kernel_rfl) (by kernel_rfl) (by kernel_rfl) (fun _ _ _ h => h) (Or.inl ⟨by kernel_rfl, ?_⟩) (by assumption) ?_
  rotate_left 1
  focus (intro w' hSw; (try dsimp only at hSw); go_simp; (try with_reducible rfl))
  try simp only [Act.put, List.setIfInBounds_toArray, List.set_cons_zero, List.set_cons_succ]
  refine wpAnyH_take (i := 3) (oi := ⟨some 21, _, _, _, _, _⟩) (v := ?_) rfl (by kernel_rfl) (by kernel_rfl) (by kernel_rfl) (fun _ _ _ h => h) (Or.inl ⟨by kernel_rfl, ?_⟩) (by assumption) ?_
  rotate_left 1
  focus (intro w' hSw; (try dsimp only at hSw); go_simp; (try with_reducible rfl))
  try simp only [Act.put, List.setIfInBounds_toArray, List.set_cons_zero, List.set_cons_succ]
  refine wpAnyH_take (i := 4) (oi := ⟨some 22, _, _, _, _, _⟩) (v := undef) rfl (by kernel_rfl) (by kernel_rfl) (by kernel_rfl) (fun _ _ _ h => h) (Or.inr ⟨by kernel_rfl, rfl⟩) (by assumption) ?_
  try simp only [Act.put, List.setIfInBounds_toArray, List.set_cons_zero, List.set_cons_succ]
  refine wpAnyH_take (i := 5) (oi := ⟨some 23, _, _, _, _, _⟩) (v := undef) rfl (by kernel_rfl) (by kernel_rfl) (by kernel_rfl) (fun _ _ _ h => h) (Or.inr ⟨by kernel_rfl, rfl⟩) (by assumption) ?_
  try simp only [Act.put, List.setIfInBounds_toArray, List.set_cons_zero, List.set_cons_succ]
  refine wpAnyH_take (i := 6) (oi := ⟨some 24, _, _, _, _, _⟩) (v := undef) rfl (by kernel_rfl) (by kernel_rfl) (by kernel_rfl) (fun _ _ _ h => h) (Or.inr ⟨by kernel_rfl, rfl⟩) (by assumption) ?_
  try simp only [Act.put, List.setIfInBounds_toArray, List.set_cons_zero, List.set_cons_succ]
  refine wpAnyH_take (i := 7) (oi := ⟨some 25, _, _, _, _, _⟩) (v := undef) rfl (by kernel_rfl) (by kernel_rfl) (by kernel_rfl) (fun _ _ _ h => h) (Or.inr ⟨by kernel_rfl, rfl⟩) (by assumption) ?_
  try simp only [Act.put, List.setIfInBounds_toArray, List.set_cons_zero, List.set_cons_succ]
  refine wpAnyH_take (i := 8) (oi := ⟨some 26, _, _, _, _, _⟩) (v := undef) rfl (by kernel_rfl) (by kernel_rfl) (by kernel_rfl) (fun _ _ _ h => h) (Or.inr ⟨by kernel_rfl, rfl⟩) (by assumption) ?_
  try simp only [Act.put, List.setIfInBounds_toArray, List.set_cons_zero, List.set_cons_succ]
  refine wpAnyH_take (i := 9) (oi := ⟨some 27, _, _, _, _, _⟩) (v := undef) rfl (by kernel_rfl) (by kernel_rfl) (by kernel_rfl) (fun _ _ _ h => h) (Or.inr ⟨by kernel_rfl, rfl⟩) (by assumption) ?_
  try simp only [Act.put, List.setIfInBounds_toArray, List.set_cons_zero, List.set_cons_succ]
  refine wpAnyH_take (i := 10) (oi := ⟨some 28, _, _, _, _, _⟩) (v := undef) rfl (by kernel_rfl) (by kernel_rfl) (by kernel_rfl) (fun _ _ _ h => h) (Or.inr ⟨by kernel_rfl, rfl⟩) (by assumption) ?_
  try simp only [Act.put, List.setIfInBounds_toArray, List.set_cons_zero, List.set_cons_succ]
  refine wpAnyH_take (i := 11) (oi := ⟨some 29, _, _, _, _, _⟩) (v := undef) rfl (by kernel_rfl) (by kernel_rfl) (by kernel_rfl) (fun _ _ _ h => h) (Or.inr ⟨by kernel_rfl, rfl⟩) (by assumption) ?_
  try simp only [Act.put, List.setIfInBounds_toArray, List.set_cons_zero, List.set_cons_succ]
  refine wpAnyH_take (i := 12) (oi := ⟨some 30, _, _, _, _, _⟩) (v := undef) rfl (by kernel_rfl) (by kernel_rfl) (by kernel_rfl) (fun _ _ _ h => h) (Or.inr ⟨by kernel_rfl, rfl⟩) (by assumption) ?_
  try simp only [Act.put, List.setIfInBounds_toArray, List.set_cons_zero, List.set_cons_succ]
  refine wpAnyH_take (i := 13) (oi := ⟨some 31, _, _, _, _, _⟩) (v := undef) rfl (by kernel_rfl) (by kernel_rfl) (by kernel_rfl) (fun _ _ _ h => h) (Or.inr ⟨by kernel_rfl, rfl⟩) (by assumption) ?_
  try simp only [Act.put, List.setIfInBounds_toArray, List.set_cons_zero, List.set_cons_succ]
  refine wpAnyH_take (i := 14) (oi := ⟨some 32, _, _, _, _, _⟩) (v := undef) rfl (by kernel_rfl) (by kernel_rfl) (by kernel_rfl) (fun _ _ _ h => h) (Or.inr ⟨by kernel_rfl, rfl⟩) (by assumption) ?_
  try simp only [Act.put, List.setIfInBounds_toArray, List.set_cons_zero, List.set_cons_succ]
  refine wpAnyH_take (i := 15) (oi := ⟨some 33, _, _, _, _, _⟩) (v := undef) rfl (by kernel_rfl) (by kernel_rfl) (by kernel_rfl) (fun _ _ _ h => h) (Or.inr ⟨by kernel_rfl, rfl⟩) (by assumption) ?_
  try simp only [Act.put, List.setIfInBounds_toArray, List.set_cons_zero, List.set_cons_succ]
  refine wpAnyH_take (i := 16) (oi := ⟨some 34, _, _, _, _, _⟩) (v := ?_) rfl (by kernel_rfl) (by kernel_rfl) (by kernel_rfl) (fun _ _ _ h => h) (Or.inl ⟨by kernel_rfl, ?_⟩) (by assumption) ?_
  rotate_left 1
  focus (intro w' hSw; (try dsimp only at hSw); go_simp; (try with_reducible rfl))
  try simp only [Act.put, List.setIfInBounds_toArray, List.set_cons_zero, List.set_cons_succ]
  refine wpAnyH_done (by kernel_rfl) ?_ _
  clear hHeld
  go_wp2_with fail
  rw [rounds_succ]
  go_wp2_with fail
  go_end0
  exact ⟨⟨_, rfl⟩, HSw.out.1.later (Below.refl _ _).drew, HSw.out.2.drew⟩
end Go.Proofs.YtkigkdiphhecaaaGreat.tal
