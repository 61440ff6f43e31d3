/- What branch's add does: a node, and all in it, behind the table; its number. Conditions: the node was read, it is no deeper than k, and there are no more than 4096 nodes. What branch's add does: a node, and all in it, behind the table; its number. Conditions: the node was read, it is no deeper than k, and there are no more than 4096 nodes. What branch's New hands back: the branch of a tree that may be, or that there is none. Conditions: the node was read, it is no deeper than a thousand. -/
import Derived.Test.YthpnmkfgodmnfaaDoorBraMem
import Derived.Deep.RegionHeld3
namespace Go.Proofs.YthpnmkfgodmnfaaDoor.tre
set_option maxRecDepth 100000
open Go.RowKit Go.Proofs.YthpnmkfgodmnfaaDoor.words Go.Proofs.YthpnmkfgodmnfaaDoor.ext Go.Proofs.YthpnmkfgodmnfaaDoor.name

/-- The branch under way: its cell, and its table. -/
def Tb (w : World) (B g : Nat) (v : Value) (m : Nat) (cs : List Value) : Prop :=
  B ≤ g ∧ w.heap[g]? = some (.cells #[v] 92 (0, 0)) ∧ w.ownsRow B 95 8 v m cs
theorem Tb.frame {w w' : World} {B g m : Nat} {v : Value} {cs : List Value} (h : Tb w B g v m cs) (hk : ∀ k, k < w.heap.size → w'.heap[k]? = w.heap[k]?) : Tb w' B g v m cs := by
  obtain ⟨h1, h2, h3⟩ := h
  refine ⟨h1, (hk g (lt_of_some h2)).trans h2, h3.1, ?_⟩
  rcases h3.2 with h0 | ⟨b, cap, cur, e1, e2, e3, e4⟩
  · exact .inl h0
  · exact .inr ⟨b, cap, cur, e1, e2, (hk b (lt_of_some e3)).trans e3, e4⟩
theorem Tb.later {w w' : World} {B g m : Nat} {v : Value} {cs : List Value} (h : Tb w B g v m cs) (hb : Below w.heap.size w w') : Tb w' B g v m cs := h.frame hb.block
theorem Tb.alloc {w : World} {B g m : Nat} {v : Value} {cs : List Value} (h : Tb w B g v m cs) (o : Obj) : Tb (w.alloc o) B g v m cs := h.frame fun k hk => Below.heap_alloc w o k hk
theorem Tb.stay {w w1 : World} {B g m : Nat} {v : Value} {cs : List Value} (h : Tb w B g v m cs) (hg : w.grownBy w1 v.ownBlock) : w1.heap[g]? = some (.cells #[v] 92 (0, 0)) := (hg.block g (lt_of_some h.2.1) (fun e => own_ne h.2.2 h.2.1 (by decide) e.symm)).trans h.2.1
/-- A store into a row of numbers. -/
theorem Tb.int {w : World} {B g m : Nat} {v : Value} {cs : List Value} (h : Tb w B g v m cs) {gi j : Nat} {cur : Array Value} (hi : w.heap[gi]? = some (.cells cur 3 (0, 0))) (u : Value) : Tb (w.setCell ⟨gi, j, none⟩ u) B g v m cs :=
  ⟨h.1, (Below.heap_setCell w ⟨gi, j, none⟩ u g (blk_ne h.2.1 hi (by decide))).trans h.2.1, own_setCell h.2.2 (own_ne h.2.2 hi (by decide)) u⟩
/-- An append, and its store. -/
theorem Tb.put {w w1 : World} {B g m : Nat} {v v' : Value} {cs news : List Value} (h : Tb w B g v m cs) (hown : w1.ownsRow B 95 8 v' (m + 1) (cs ++ news)) (hg : w.grownBy w1 v.ownBlock) :
    Tb (w1.setCell ⟨g, 0, none⟩ v') B g v' (m + 1) (cs ++ news) ∧ words.Kept Sb B w (w1.setCell ⟨g, 0, none⟩ v') := by
  obtain ⟨h1, h2, h3⟩ := h
  have hb1 : w1.heap[g]? = some (.cells #[v] 92 (0, 0)) := (hg.block g (lt_of_some h2) (fun e => own_ne h3 h2 (by decide) e.symm)).trans h2
  refine ⟨⟨h1, blk_set hb1 v', own_setCell hown (own_ne hown hb1 (by decide)) v'⟩, ?_⟩
  exact ((words.Kept.refl Sb B w).grown hg h3 (Nat.le_refl _) (.inr rfl)).setCell h1 ⟨_, _, _, hb1, .inl rfl⟩ v'
def Added (B : Nat) (n : Nd) (g m : Nat) (cs : List Value) (w : World) (e : Ending) (w' : World) : Prop :=
  ∃ v' ds, e = .returned (.int .i64 (m : Int)) ∧ Tb w' B g v' (m + count n) (cs ++ ds) ∧ Ents w' (Qs w' w.heap.size) ds (flatN m n) ∧ words.Kept Sb B w w'
/-- What the loop keeps. -/
structure Lp (w : World) (B : Nat) (n : Nd) (r' : Raw) (g gi m j : Nat) (cs E0 : List Value) (wr : World) (v : Value) (ds : List Value) : Prop where
  tb : Tb wr B g v (m + 1 + countL (n.I.take j)) (cs ++ (E0 ++ ds))
  en : Ents wr (Qs wr (gi + 1)) ds (flatL (m + 1) (n.I.take j))
  nd : NdIn wr (Qs wr (gi + 1)) (aloneN n) r'
  ints : ∃ cur : Array Value, wr.heap[gi]? = some (.cells cur 3 (0, 0)) ∧ cur.size = n.I.length ∧ ∀ i, i < j → cur[i]? = some (.int .i64 ((m + 1 + countL (n.I.take i) : Nat) : Int))
  kept : words.Kept Sb B w wr
theorem infoInt : (Tryd.prog.info? 3).map (fun i => (i.zero, i.size, i.bytes)) = some (some (.int .i64 0), 1, 8) := by kernel_rfl
theorem infoBn : (Tryd.prog.info? 95).map (fun i => (i.zero, i.size, i.bytes)) = some (some (.agg #[.int .i64 0, .bool false, .slice none 0 0, .slice none 0 0, .int .i64 0, .slice none 0 0, .string ⟨#[]⟩, .slice none 0 0]), 8, 136) := by kernel_rfl
theorem entCells_one (x : Nd) (r : Raw) (A : Option Addr) (l c : Nat) : ∀ u ∈ entCells x r A l c, u.oneCell' = true := fun u hu => by
  rcases List.mem_append.1 hu with h | h
  · have := rowCells_one [x] (fun _ => r)
    rw [rowCells, rowCells, List.append_nil] at this
    exact this u h
  · rw [List.mem_singleton.1 h]; rfl
theorem Lp.int {w wr : World} {B : Nat} {n : Nd} {r' : Raw} {g gi m j : Nat} {cs E0 ds dx : List Value} {v v6 : Value} {x : Nd} {W5 w6 : World} (h : Lp w B n r' g gi m j cs E0 wr v ds) (hx : n.I[j]? = some x) (hgi : w.heap.size ≤ gi)
    (h5 : Below wr.heap.size wr W5) (k6 : words.Kept Sb B W5 w6) (t6 : Tb w6 B g v6 (m + 1 + countL (n.I.take j) + count x) (cs ++ (E0 ++ ds) ++ dx)) (e6 : Ents w6 (Qs w6 W5.heap.size) dx (flatN (m + 1 + countL (n.I.take j)) x)) :
    Lp w B n r' g gi m (j + 1) cs E0 (w6.setCell ⟨gi, j, none⟩ (.int .i64 ((m + 1 + countL (n.I.take j) : Nat) : Int))) v6 (ds ++ dx) ∧ (∃ cur : Array Value, w6.heap[gi]? = some (.cells cur 3 (0, 0)) ∧ cur.size = n.I.length) := by
  obtain ⟨cur, c1, c2, c3⟩ := h.ints
  have hlt := (List.getElem?_eq_some_iff.1 hx).1
  have k56 : words.Kept Sb B wr w6 := (words.Kept.of_below h5 Sb B).trans k6
  have hi6 : w6.heap[gi]? = some (.cells cur 3 (0, 0)) := k56.blk c1 (by decide)
  have htk : n.I.take (j + 1) = n.I.take j ++ [x] := take_at hx
  have hgi5 : gi + 1 ≤ W5.heap.size := Nat.le_trans (lt_of_some c1) h5.size
  obtain ⟨w7, hw7⟩ : ∃ w7, w7 = w6.setCell ⟨gi, j, none⟩ (.int .i64 ((m + 1 + countL (n.I.take j) : Nat) : Int)) := ⟨_, rfl⟩
  have q7 : ∀ b, Qs w6 (gi + 1) b → w7.heap[b]? = w6.heap[b]? ∧ Qs w7 (gi + 1) b := fun b hq => by
    obtain ⟨k1, cs', t, k2, k3⟩ := hq
    have e : w7.heap[b]? = w6.heap[b]? := by rw [hw7]; exact Below.heap_setCell w6 ⟨gi, j, none⟩ _ b (show b ≠ gi by omega)
    exact ⟨e, k1, cs', t, e.trans k2, k3⟩
  have q67 : ∀ b, Qs wr (gi + 1) b → w7.heap[b]? = wr.heap[b]? ∧ Qs w7 (gi + 1) b := fun b hq => by
    have a := hq.kept k56
    have b' := q7 b a.2
    exact ⟨b'.1.trans a.1, b'.2⟩
  rw [← hw7]
  refine ⟨⟨?_, ?_, h.nd.keep q67, ?_, ?_⟩, cur, hi6, c2⟩
  · have e1 : m + 1 + countL (n.I.take (j + 1)) = m + 1 + countL (n.I.take j) + count x := by rw [htk, countL_snoc]; omega
    rw [e1, hw7, ← List.append_assoc, ← List.append_assoc, List.append_assoc cs E0 ds]
    exact t6.int hi6 _
  · rw [htk, flatL_snoc]
    exact (h.en.keep q67).app (e6.keep fun b hb => q7 b (hb.less hgi5))
  · have hi7 : w7.heap[gi]? = some (.cells (cur.setIfInBounds j (.int .i64 ((m + 1 + countL (n.I.take j) : Nat) : Int))) 3 (0, 0)) := by rw [hw7]; exact heap_setCell_same w6 gi j _ _ _ hi6
    refine ⟨_, hi7, by rw [Array.size_setIfInBounds]; exact c2, fun i hij => ?_⟩
    by_cases e : i = j
    · subst e
      rw [Array.getElem?_setIfInBounds_self_of_lt (by omega)]
    · rw [Array.getElem?_setIfInBounds_ne (by omega)]
      exact c3 i (by omega)
  · rw [hw7]
    exact keptB_setNew (h.kept.trans k56) hgi _
theorem count_take : ∀ {L : List Nd} {j : Nat} {x : Nd}, L[j]? = some x → countL (L.take j) + count x ≤ countL L
  | [], j, x, h => by simp at h
  | y :: L, 0, x, h => by
    obtain rfl : y = x := by simpa using h
    rw [List.take_zero, countL_nil, countL_cons]
    omega
  | y :: L, j + 1, x, h => by
    have := count_take (L := L) (j := j) (x := x) (by simpa using h)
    rw [List.take_succ_cons, countL_cons, countL_cons]
    omega
/-- All in it are behind the table. -/
theorem Lp.done {w wr : World} {B : Nat} {n : Nd} {r' : Raw} {g gi m : Nat} {cs ds : List Value} {v : Value} (h : Lp w B n r' g gi m n.I.length cs (entCells (aloneN n) r' (some ⟨gi, 0, none⟩) n.I.length n.I.length) wr v ds) (hgi : w.heap.size ≤ gi) :
    Added B n g m cs w (.returned (.int .i64 (m : Int))) wr := by
  have hz : n.I.take n.I.length = n.I := List.take_length
  have htb := h.tb
  have hen := h.en
  rw [hz] at htb hen
  obtain ⟨cur, c1, c2, c3⟩ := h.ints
  refine ⟨v, entCells (aloneN n) r' (some ⟨gi, 0, none⟩) n.I.length n.I.length ++ ds, rfl, ?_, ?_, h.kept⟩
  · rw [count_eq, ← Nat.add_assoc]
    exact htb
  · have hl : (kidsL (m + 1) n.I).length = n.I.length := kidsL_length _ _
    have h1 := Ents.one (w := wr) (P := Qs wr w.heap.size) (e := entOf m n) (r := r') (A := some ⟨gi, 0, none⟩) (c := n.I.length) (h.nd.keep fun b hb => ⟨rfl, hb.less (by omega)⟩)
      (fun i id hid => by
        have hlt : i < n.I.length := by rw [← hl]; exact (List.getElem?_eq_some_iff.1 hid).1
        have e := kidsL_at (k := m + 1) hlt
        rw [show (entOf m n).ids = kidsL (m + 1) n.I from rfl, e] at hid
        obtain rfl := Option.some.inj hid
        exact ⟨gi, 0, rfl, ⟨hgi, cur, _, c1, by decide⟩, by rw [Nat.zero_add, cell_of_blk c1 i]; exact c3 i hlt⟩)
      (by rw [show (entOf m n).ids = kidsL (m + 1) n.I from rfl, hl]; exact Nat.le_refl _)
    rw [show (entOf m n).ids = kidsL (m + 1) n.I from rfl, hl] at h1
    rw [flatN_eq]
    exact h1.app (hen.keep fun b hb => ⟨rfl, hb.less (by omega)⟩)
end Go.Proofs.YthpnmkfgodmnfaaDoor.tre

namespace Go.Proofs.YthpnmkfgodmnfaaDoor.tre
set_option maxRecDepth 100000
open Go.RowKit Go.Proofs.YthpnmkfgodmnfaaDoor.words Go.Proofs.YthpnmkfgodmnfaaDoor.ext Go.Proofs.YthpnmkfgodmnfaaDoor.name

theorem entOf_x (m : Nat) (n : Nd) : (entOf m n).x = aloneN n := rfl
theorem entOf_ids (m : Nat) (n : Nd) : (entOf m n).ids = kidsL (m + 1) n.I := rfl
set_option maxHeartbeats 6400000 in
theorem add_at (W0 : World) (B : Nat) : ∀ (k : Nat) (n : Nd) (r : Raw) (w : World) (g : Nat) (v : Value) (m : Nat) (cs : List Value), depth n < k → NdAt W0 B n r → Below B W0 w → Tb w B g v m cs → m + count n ≤ 4096 →
    Calls Tryd.prog 57 #[.pointer (some ⟨g, 0, none⟩), ndV n r] w (Added B n g m cs w) := by
  intro k
  induction k with
  | zero => intro n r w g v m cs hk; omega
  | succ k ih =>
    intro n r w g v m cs hk hN hb hT hmc
    have IH := Lib.hid ih
    have HN := Lib.hid hN
    have hdn := depth_eq n
    have hdk : depthL n.I ≤ k := by omega
    have hcn := count_eq n
    have fit := hN.fit
    have f2 := fit.li
    have hlk : n.I.length ≤ 4096 := by
      have := countL_len n.I
      omega
    have hBw : B < w.heap.size := Nat.lt_of_le_of_lt hT.1 (lt_of_some hT.2.1)
    obtain ⟨W1, hW1⟩ : ∃ W1, W1 = w.alloc (.cells (rawCells n r) 26) := ⟨_, rfl⟩
    have hb1 : Below w.heap.size w W1 := by rw [hW1]; exact (Below.refl _ _).alloc (Nat.le_refl _) _
    have hx1 : Box W1 w.heap.size n r := by rw [hW1]; exact Box.new w n r
    have hT1 := hT.later hb1
    have hz1 : W1.heap.size = w.heap.size + 1 := by rw [hW1]; simp
    obtain ⟨i0, hi, hz0, hy1, hy2⟩ := info_parts infoInt
    have hmk : ∀ u : World, (Instr.makeSlice 93 (.int .i64 (n.I.length : Int)) (.int .i64 (n.I.length : Int))).run Tryd.prog u =
        .ok (.slice (some ⟨u.heap.size, 0, none⟩) n.I.length n.I.length) (u.alloc (.cells (madeCells #[.int .i64 0] n.I.length) 3)) := fun u => by
      have h := run_make (P := Tryd.prog) u 93 3 i0 (.int .i64 0) Tryd.underlying93 hi hz0 .i64 .i64 (n.I.length : Int) (n.I.length : Int) (by omega) (Int.le_refl _) (by rw [hy2]; omega) (by omega)
      simpa [hy1, Value.cells] using h
    obtain ⟨M, hM⟩ : ∃ M, M = madeCells #[.int .i64 0] n.I.length := ⟨_, rfl⟩
    rw [← hM] at hmk
    have hMs : M.size = n.I.length := by rw [hM, ← Array.length_toList, toList_madeCells_one, List.length_replicate]
    have hvl : ∃ A c, v = .slice A m c := by obtain ⟨A, c, h1, _⟩ := own_facts hT.2.2; exact ⟨A, c, h1⟩
    obtain ⟨Av, cv, rfl⟩ := hvl
    have cg : W1.cell? ⟨g, 0, none⟩ = some (.slice Av m cv) := cell_of_blk hT1.2.1 0
    obtain ⟨b0, b1, b2, b3, b4, b5, b6⟩ := hx1.cells
    have HT1 := Lib.hid hT1
    have HX1 := Lib.hid hx1
    have HB1 := Lib.hid hb1
    have HB := Lib.hid hb
    unfold rawCells at hW1
    have HW1 := Lib.hid hW1
    have HMs := Lib.hid hMs
    clear hN hb hT hW1 hT1 hx1 hb1 hdn hM hi hz0 hy1 hy2 fit ih hMs
    unfold ndV rawCells
    go_enter Tryd.func57, Tryd.ntmps57
    go_upto_region 1 with fail
    rw [← HW1.out]
    go_region_held3 (fun w' => w'.cell? ⟨g, 0, none⟩ = some (.slice Av m cv) ∧ w'.cell? ⟨w.heap.size, 3, none⟩ = some (.slice r.Ai n.I.length r.ci))
      (go_keep)
      (fail)
    obtain ⟨W2, hW2⟩ : ∃ W2, W2 = (W1.alloc (.cells M 3)).drew := ⟨_, rfl⟩
    have hb12 : Below W1.heap.size W1 W2 := by rw [hW2]; exact ((Below.refl _ _).alloc (Nat.le_refl _) _).drew
    have hi2 : W2.heap[w.heap.size + 1]? = some (.cells M 3 (0, 0)) := by rw [hW2, ← hz1]; exact heap_alloc_new W1 _
    have hx2 := HX1.out.below hb12
    have hT2 := HT1.out.later hb12
    have hb2 : Below w.heap.size w W2 := HB1.out.trans (hb12.mono HB1.out.size)
    have hbW : Below B W0 W2 := HB.out.trans (hb2.mono (by omega))
    have hz2 : W2.heap.size = w.heap.size + 2 := by rw [hW2]; show (W1.alloc _).heap.size = _; simp [hz1]
    have hN2 : NdAt W2.drew W2.drew.heap.size n r := (HN.out.keep hbW.drew).more (by show B ≤ W2.heap.size; omega)
    obtain ⟨a, ha⟩ : ∃ a, a = aloneN n := ⟨_, rfl⟩
    have hA : Calls Tryd.prog 85 #[ndV n r] W2.drew fun e w3 => ∃ r', e = .returned (.agg #[.int .i64 a.K, .bool a.O, .slice r'.An a.N.length r'.cn, .slice r'.Ai a.I.length r'.ci, .int .i64 a.S, .slice r'.Ae a.E.length r'.ce, .string a.T]) ∧ NdIn w3 (Qs w3 (w.heap.size + 2)) a r' ∧ Below W2.heap.size W2 w3 := (alone_any n r W2.drew hN2).mono fun e w3 ⟨r', h1, h2, h3⟩ => by
      refine ⟨r', ?_, ?_, (Below.refl W2.heap.size W2).drew.trans h3⟩
      · rw [h1, ha]; rfl
      · rw [ha, ← hz2]; exact h2
    obtain ⟨i1, hi', hw0, hw1, hw2⟩ := info_parts infoBn
    have HA := Lib.hid hA
    unfold ndV rawCells at HA
    have HT2 := Lib.hid hT2
    have HX2 := Lib.hid hx2
    have HI2 := Lib.hid hi2
    have HB2 := Lib.hid hb2
    have HW2 := Lib.hid hW2
    have HZ1 := Lib.hid hz1
    have HZ2 := Lib.hid hz2
    have Ha := Lib.hid ha
    clear hb12 hi2 hx2 hT2 hb2 hbW hN2 hA hW2 hmk hz1 hz2 ha b0 b1 b2 b3 b4 b5 b6 cg HX1 HT1 HW1 HB1
    rw [← HW2.out]
    obtain ⟨b0, b1, b2, b3, b4, b5, b6⟩ := HX2.out.cells
    have cg : W2.cell? ⟨g, 0, none⟩ = some (.slice Av m cv) := cell_of_blk HT2.out.2.1 0
    go_upto_region 2 with fail
    go_region_law (first
      | (go_simp; go_at_call 85; refine HA.out.mono ?_; rintro e w3 ⟨r', rfl, hn3, hb3⟩; have hT3 := HT2.out.later hb3; obtain ⟨m0, m1, m2, m3, m4, m5, m6⟩ := (HX2.out.below hb3).cells; have cg3 := cell_of_blk hT3.2.1 0; have cgA : ∀ o : Obj, (w3.alloc o).cell? ⟨g, 0, none⟩ = some (.slice Av m cv) := fun o => cell_of_blk (hT3.alloc o).2.1 0; have hB3 := Nat.le_trans (Nat.le_of_eq HZ2.out.symm) hb3.size)
      | (refine step_append_lies _ (by rfl) _ _ _ (by rfl) B 95 i1 _ 8 136 Tryd.underlying90 hi' hw0 hw1 hw2 rfl (by omega) (.slice Av m cv) m cs (by rfl) (hT3.2.2.alloc _)
            ⟨w3.heap.size, 0, none⟩ 1 1 (entCells a r' (some ⟨w.heap.size + 1, 0, none⟩) n.I.length n.I.length) (by rfl) (by rfl) (World.news_of_block (cs := (entCells a r' (some ⟨w.heap.size + 1, 0, none⟩) n.I.length n.I.length).toArray) (t := 95) (fr := (0, 0)) (heap_alloc_new w3 _)) (entCells_one _ _ _ _ _)
            (by omega) (by simp only [maxLen]; omega) (by omega) (by simp; omega) (w3.heap.size + 1) (by simp) ?_; intro gg cap w5 hown5 hgrow5 hat5 hlt5; have hg5 := (hT3.alloc _).stay hgrow5; have hc5 := cell_of_blk hg5 0; have hf5 := free_of_blk hg5 0))
    all_goals
      have hP := (hT3.alloc _).put hown5 hgrow5
      obtain ⟨W6, hW6⟩ : ∃ W6, W6 = w5.setCell ⟨g, 0, none⟩ (.slice (some ⟨gg, 0, none⟩) (m + 1) cap) := ⟨_, rfl⟩
      rw [← hW6] at hP ⊢
      obtain ⟨hT6, k6⟩ := hP
      obtain ⟨o6, ho6⟩ : ∃ o6 : Obj, o6 = .cells (entCells a r' (some ⟨w.heap.size + 1, 0, none⟩) n.I.length n.I.length).toArray 95 (0, 0) := ⟨_, rfl⟩
      have hk6 : words.Kept Sb B (w3.alloc o6) W6 := by rw [ho6]; exact k6
      have ha3 : Below w3.heap.size w3 (w3.alloc o6) := (Below.refl _ _).alloc (Nat.le_refl _) _
      have h23 : Below W2.heap.size W2 (w3.alloc o6) := hb3.trans (ha3.mono hb3.size)
      have hbx6 : Box W6 w.heap.size n r := hk6.blk (HX2.out.below h23) (by decide)
      have hi6 : W6.heap[w.heap.size + 1]? = some (.cells M 3 (0, 0)) := hk6.blk ((h23.block _ (lt_of_some HI2.out)).trans HI2.out) (by decide)
      have hn6 : NdIn W6 (Qs W6 (w.heap.size + 2)) a r' := hn3.keep fun b hq => by
        obtain ⟨k1, cs', t, k2, k3⟩ := hq
        have e := ha3.block b (lt_of_some k2)
        have q : Qs (w3.alloc o6) (w.heap.size + 2) b := ⟨k1, cs', t, e.trans k2, k3⟩
        exact ⟨(q.kept hk6).1.trans e, (q.kept hk6).2⟩
      have hkw : words.Kept Sb B w W6 := (words.Kept.of_below (HB2.out.trans (h23.mono HB2.out.size)) Sb B).trans hk6
      have hlp : Lp w B n r' g (w.heap.size + 1) m 0 cs (entCells a r' (some ⟨w.heap.size + 1, 0, none⟩) n.I.length n.I.length) W6 (.slice (some ⟨gg, 0, none⟩) (m + 1) cap) [] := by
        refine ⟨?_, ?_, ?_, ⟨M, hi6, HMs.out, fun i hi => by omega⟩, hkw⟩
        · rw [List.take_zero, countL_nil, List.append_nil]
          exact hT6
        · rw [List.take_zero, flatL_nil]
          exact Ents.nil _ _
        · rw [← Ha.out]
          exact hn6
      have HLp := Lib.hid hlp
      have HBx := Lib.hid hbx6
      have hkl := hkw.size
      clear hT3 m0 m1 m2 m3 m4 m5 m6 cg3 cgA hB3 hown5 hgrow5 hat5 hlt5 hg5 hc5 hf5 hT6 k6 hW6 ho6 hk6 ha3 h23 hbx6 hi6 hn6 hkw hlp b0 b1 b2 b3 b4 b5 b6 cg HA HT2 HX2 HI2 HB2 HW2 hi' hw0 hw1 hw2 hn3 hb3
      obtain ⟨b0, b1, b2, b3, b4, b5, b6⟩ := HBx.out.cells
      go_upto_region 3 with fail
      go_wp2_with fail
      go_loopw [34] (fun v34 wr => ∃ (j : Nat) (vj : Value) (ds : List Value), j ≤ n.I.length ∧ v34 = .int .i64 j ∧ Hid (Lp w B n r' g (w.heap.size + 1) m j cs (entCells a r' (some ⟨w.heap.size + 1, 0, none⟩) n.I.length n.I.length) wr vj ds)) (fun v34 _ => n.I.length - (intOf v34).toNat)
      case atStart => exact ⟨0, _, _, Nat.zero_le _, rfl, HLp⟩
      case round =>
        obtain ⟨j, vj, ds, hj, rfl, HL⟩ := hrel
        by_cases hlt : j < n.I.length
        · obtain ⟨x, hx⟩ : ∃ x, n.I[j]? = some x := ⟨_, List.getElem?_eq_getElem hlt⟩
          have hbr : Below B W0 wr := HB.out.trans (HL.out.kept.below (by omega))
          obtain ⟨rx, hrx, b, off, hA, hBb, c0, c1, c2, c3, c4, c5, c6⟩ := HN.out.entry hx hbr
          have i0' : (0 : Int) ≤ (j : Int) := by omega
          have i1' : (j : Int) < (n.I.length : Int) := by omega
          obtain ⟨W7, hW7⟩ : ∃ W7, W7 = wr.alloc (.cells (rawCells x rx) 26) := ⟨_, rfl⟩
          have hb7 : Below wr.heap.size wr W7 := by rw [hW7]; exact (Below.refl _ _).alloc (Nat.le_refl _) _
          have hx7 : Box W7 wr.heap.size x rx := by rw [hW7]; exact Box.new wr x rx
          have hsr := hkl
          have hwr := HL.out.kept.size
          have hbr7 : Below B W0 W7 := hbr.trans (hb7.mono (by omega))
          obtain ⟨mj, hmj⟩ : ∃ mj, mj = m + 1 + countL (n.I.take j) := ⟨_, rfl⟩
          have hct := count_take hx
          have htb7 : Tb W7 B g vj mj (cs ++ (entCells a r' (some ⟨w.heap.size + 1, 0, none⟩) n.I.length n.I.length ++ ds)) := by rw [hmj]; exact HL.out.tb.later hb7
          have hcall := IH.out x rx W7 g vj mj _ (by have := depth_at hx; omega) hrx hbr7 htb7 (by omega)
          unfold ndV rawCells at hcall
          have HC := Lib.hid hcall
          have HX := Lib.hid hx
          have HB7 := Lib.hid hb7
          have Hmj := Lib.hid hmj
          unfold rawCells at hW7
          have HW7 := Lib.hid hW7
          have HX7 := Lib.hid hx7
          rw [hA]
          clear hx hbr hrx hA hb7 hx7 hbr7 hmj hct htb7 hcall hW7 b0 b1 b2 b4 b5 b6
          go_upto_region 6 with fail
          rw [← HW7.out]
          clear b3 c0 c1 c2 c3 c4 c5 c6
          obtain ⟨b0, b1, b2, b3, b4, b5, b6⟩ := HX7.out.cells
          go_wp2_with fail
          refine HC.out.mono ?_
          rintro e w8 ⟨v8, dx, rfl, t8, e8, k8⟩
          have hfin := HL.out.int HX.out (by omega) HB7.out k8 (by rw [← Hmj.out]; exact t8) (by rw [← Hmj.out]; exact e8)
          rw [← Hmj.out] at hfin
          obtain ⟨hL8, cur8, hc8, hs8⟩ := hfin
          have HL8 := Lib.hid hL8
          have hcell : w8.cell? ⟨w.heap.size + 1, j, none⟩ = some (cur8[j]'(by omega)) := by rw [cell_of_blk hc8 j]; exact Array.getElem?_eq_getElem _
          have hfree := free_of_blk hc8 j
          obtain ⟨uj, huj⟩ : ∃ uj, uj = cur8[j]'(by omega) := ⟨_, rfl⟩
          rw [← huj] at hcell
          clear hL8 hc8 t8 e8 k8 huj b0 b1 b2 b3 b4 b5 b6 HC HW7 HX7 HB7
          go_wp2_with fail
          go_roundw
          case rel => exact ⟨j + 1, v8, _, by omega, by go_num, HL8⟩
          case measure => simp [intOf]; omega
        · obtain rfl : j = n.I.length := by omega
          go_wp2_with fail
          go_ret
          have h := HL.out
          rw [Ha.out] at h
          exact h.done (by omega)
end Go.Proofs.YthpnmkfgodmnfaaDoor.tre

namespace Go.Proofs.YthpnmkfgodmnfaaDoor.tre
set_option maxRecDepth 100000
open Go.RowKit Go.Proofs.YthpnmkfgodmnfaaDoor.words Go.Proofs.YthpnmkfgodmnfaaDoor.ext Go.Proofs.YthpnmkfgodmnfaaDoor.name

/-- A branch in memory, below block B. -/
def Brn (w : World) (B g : Nat) (L : List Ent) : Prop :=
  g < B ∧ ∃ A c cs, w.heap[g]? = some (.cells #[.slice A L.length c] 92 (0, 0)) ∧ (∀ j v, cs[j]? = some v → ∃ b off, A = some ⟨b, off, none⟩ ∧ b < B ∧ w.cell? ⟨b, off + j, none⟩ = some v) ∧ Ents w (fun b => b < B) cs L
theorem Brn.keep {w w' : World} {B g : Nat} {L : List Ent} (h : Brn w B g L) (hb : Below B w w') : Brn w' B g L := by
  obtain ⟨h1, A, c, cs, h2, h3, h4⟩ := h
  refine ⟨h1, A, c, cs, (hb.block g h1).trans h2, fun j v hj => ?_, h4.keep fun b hlt => ⟨hb.block b hlt, hlt⟩⟩
  obtain ⟨b, off, e1, e2, e3⟩ := h3 j v hj
  exact ⟨b, off, e1, e2, (hb.cell (p := ⟨b, off + j, none⟩) e2).trans e3⟩
theorem Brn.more {w : World} {B B' g : Nat} {L : List Ent} (h : Brn w B g L) (hB : B ≤ B') : Brn w B' g L := by
  obtain ⟨h1, A, c, cs, h2, h3, h4⟩ := h
  refine ⟨Nat.lt_of_lt_of_le h1 hB, A, c, cs, h2, fun j v hj => ?_, h4.keep fun b hlt => ⟨rfl, Nat.lt_of_lt_of_le hlt hB⟩⟩
  obtain ⟨b, off, e1, e2, e3⟩ := h3 j v hj
  exact ⟨b, off, e1, Nat.lt_of_lt_of_le e2 hB, e3⟩
theorem Brn.later {w w' : World} {g : Nat} {L : List Ent} (h : Brn w w.heap.size g L) (hb : Below w.heap.size w w') : Brn w' w'.heap.size g L := (h.keep hb).more hb.size
theorem Tb.brn {w : World} {B g m : Nat} {v : Value} {cs : List Value} {L : List Ent} {lo : Nat} (h : Tb w B g v m cs) (he : Ents w (Qs w lo) cs L) (hm : m = L.length) : Brn w w.heap.size g L := by
  subst hm
  obtain ⟨h1, h2, h3⟩ := h
  obtain ⟨A, c, rfl, _, _⟩ := own_facts h3
  refine ⟨lt_of_some h2, A, c, cs, h2, fun j v hj => ?_, he.keep fun b hb => ⟨rfl, hb.lt⟩⟩
  obtain ⟨b, cur, e1, _, e3, _, e5⟩ := own_cell h3 hj
  exact ⟨b, 0, e1, e3, by rw [Nat.zero_add]; exact e5⟩

def Newed (n : Nd) (w : World) (e : Ending) (w' : World) : Prop := (∃ g, e = .returned (.tuple #[.pointer (some ⟨g, 0, none⟩), .int .i64 0]) ∧ Brn w' w'.heap.size g (flatN 0 n)) ∧ Below w.heap.size w w'
set_option maxHeartbeats 3200000 in
theorem new_no (n : Nd) (r : Raw) (m : Int) (w : World) (hN : NdAt w w.heap.size n r) (hm : w.cell? ⟨0, 0, none⟩ = some (.int .i64 m)) (hd : depth n ≤ 1000) (ht : treeB n = false) :
    Calls Tryd.prog 20 #[ndV n r] w fun e w' => e = .returned (.tuple #[.pointer none, .int .i64 1]) ∧ Below w.heap.size w w' := by
  obtain ⟨W1, hW1⟩ : ∃ W1, W1 = w.alloc (.cells (rawCells n r) 26) := ⟨_, rfl⟩
  have hb1 : Below w.heap.size w W1 := by rw [hW1]; exact (Below.refl _ _).alloc (Nat.le_refl _) _
  have hx1 : Box W1 w.heap.size n r := by rw [hW1]; exact Box.new w n r
  have hr := treeright_any n r m W1 (hN.later hb1) (below_cell hm hb1) hd
  rw [ht] at hr
  unfold ndV rawCells at hr
  have HR := Lib.hid hr
  unfold rawCells at hW1
  have HW1 := Lib.hid hW1
  have HB1 := Lib.hid hb1
  obtain ⟨b0, b1, b2, b3, b4, b5, b6⟩ := hx1.cells
  clear hN hm hr hW1 hb1 hx1
  unfold ndV rawCells
  go_enter Tryd.func20, Tryd.ntmps20
  go_upto_region 1 with fail
  rw [← HW1.out]
  go_wp2_with fail
  refine HR.out.mono ?_
  rintro e w2 ⟨rfl, hb2⟩
  have HB2 := Lib.hid (HB1.out.trans (hb2.mono HB1.out.size))
  clear hb2 HR HW1 b0 b1 b2 b3 b4 b5 b6
  go_wp2_with fail
  exact bodyPost_ret (v := .tuple #[.pointer none, .int .i64 1]) (by simp [results, Tryd.results20, go_sem]) rfl ⟨rfl, HB2.out⟩
set_option maxHeartbeats 3200000 in
theorem new_yes (n : Nd) (r : Raw) (m : Int) (w : World) (hN : NdAt w w.heap.size n r) (hm : w.cell? ⟨0, 0, none⟩ = some (.int .i64 m)) (hd : depth n ≤ 1000) (ht : treeB n = true) (hc : countC n = (count n : Int)) (hc4 : count n ≤ 4096) :
    Calls Tryd.prog 20 #[ndV n r] w (Newed n w) := by
  obtain ⟨W1, hW1⟩ : ∃ W1, W1 = w.alloc (.cells (rawCells n r) 26) := ⟨_, rfl⟩
  have hb1 : Below w.heap.size w W1 := by rw [hW1]; exact (Below.refl _ _).alloc (Nat.le_refl _) _
  have hx1 : Box W1 w.heap.size n r := by rw [hW1]; exact Box.new w n r
  have hr := treeright_any n r m W1 (hN.later hb1) (below_cell hm hb1) hd
  rw [ht] at hr
  unfold ndV rawCells at hr
  have HR := Lib.hid hr
  have HN := Lib.hid hN
  have HX1 := Lib.hid hx1
  have Hc := Lib.hid hc
  unfold rawCells at hW1
  have HW1 := Lib.hid hW1
  have HB1 := Lib.hid hb1
  obtain ⟨i1, hi', hw0, hw1, hw2⟩ := info_parts infoBn
  obtain ⟨C, hC⟩ : ∃ C, C = count n := ⟨_, rfl⟩
  have hmk : ∀ u : World, (Instr.makeSlice 90 (.int .i64 0) (.int .i64 (C : Int))).run Tryd.prog u =
      .ok (.slice (some ⟨u.heap.size, 0, none⟩) 0 C) (u.alloc (.cells (madeCells #[.int .i64 0, .bool false, .slice none 0 0, .slice none 0 0, .int .i64 0, .slice none 0 0, .string ⟨#[]⟩, .slice none 0 0] (C * 8)) 95)) := fun u => by
    have h := run_make (P := Tryd.prog) u 90 95 i1 _ Tryd.underlying90 hi' hw0 .i64 .i64 0 (C : Int) (by omega) (by omega) (by rw [hw2]; omega) (by omega)
    simpa [hw1, Value.cells] using h
  obtain ⟨M, hM⟩ : ∃ M, M = madeCells #[.int .i64 0, .bool false, .slice none 0 0, .slice none 0 0, .int .i64 0, .slice none 0 0, .string ⟨#[]⟩, .slice none 0 0] (C * 8) := ⟨_, rfl⟩
  rw [← hM] at hmk
  have hMs : M.size = C * 8 := by rw [hM, size_madeCells]
  have HMs := Lib.hid hMs
  have HC := Lib.hid hC
  obtain ⟨b0, b1, b2, b3, b4, b5, b6⟩ := hx1.cells
  clear hN hm hr hW1 hb1 hx1 hc hM hMs hC hi' hw0 hw1 hw2
  unfold ndV rawCells
  go_enter Tryd.func20, Tryd.ntmps20
  go_upto_region 1 with fail
  rw [← HW1.out]
  go_wp2_with fail
  refine HR.out.mono ?_
  rintro e w2 ⟨rfl, hb2⟩
  have hb12 : Below w.heap.size w w2 := HB1.out.trans (hb2.mono HB1.out.size)
  have hcc := treecount_any n r w2 ((HN.out.later HB1.out).later hb2) hd
  rw [Hc.out, ← HC.out] at hcc
  unfold ndV rawCells at hcc
  have HCC := Lib.hid hcc
  have HX2 := Lib.hid (HX1.out.below hb2)
  have HB2 := Lib.hid hb12
  clear hb2 hb12 hcc HR HW1 HX1 b0 b1 b2 b3 b4 b5 b6
  obtain ⟨b0, b1, b2, b3, b4, b5, b6⟩ := HX2.out.cells
  go_wp2_with fail
  refine HCC.out.mono ?_
  rintro e w3 ⟨rfl, hb3⟩
  have HX3 := Lib.hid (HX2.out.below hb3)
  have HB3 := Lib.hid (HB2.out.trans (hb3.mono HB2.out.size))
  clear hb3 HCC HX2 HB2 b0 b1 b2 b3 b4 b5 b6
  obtain ⟨W4, hW4⟩ : ∃ W4, W4 = (w3.alloc (.cells M 95)).alloc (.cells #[.slice (some ⟨w3.heap.size, 0, none⟩) 0 C] 92) := ⟨_, rfl⟩
  have ha : Below w3.heap.size w3 (w3.alloc (.cells M 95)) := (Below.refl _ _).alloc (Nat.le_refl _) _
  have hb34 : Below w3.heap.size w3 W4 := by rw [hW4]; exact ha.alloc ha.size _
  have hx4 := HX3.out.below hb34
  have hb4 : Below w.heap.size w W4 := HB3.out.trans (hb34.mono HB3.out.size)
  have hsz : (w3.alloc (.cells M 95)).heap.size = w3.heap.size + 1 := by simp
  have htb : Tb W4 w.heap.size (w3.heap.size + 1) (.slice (some ⟨w3.heap.size, 0, none⟩) 0 C) 0 [] := by
    have hge := HB3.out.size
    refine ⟨by omega, ?_, ?_⟩
    · rw [hW4, ← hsz]
      exact heap_alloc_new _ _
    · rw [hW4]
      exact (World.ownsRow_made w3 M C hge (by have := HC.out; simp only [maxLen]; omega) HMs.out).alloc _
  have hcall := add_at w w.heap.size (depth n + 1) n r W4 (w3.heap.size + 1) _ 0 [] (Nat.lt_succ_self _) HN.out hb4 htb (by omega)
  unfold ndV rawCells at hcall
  have HCall := Lib.hid hcall
  have HX4 := Lib.hid hx4
  have HB4 := Lib.hid hb4
  have HW4 := Lib.hid hW4
  clear ha hb34 hx4 hb4 hcall htb hW4 HX3 HB3
  go_upto_region 4 with fail
  rw [← HW4.out]
  clear hsz
  obtain ⟨b0, b1, b2, b3, b4, b5, b6⟩ := HX4.out.cells
  go_wp2_with fail
  refine HCall.out.mono ?_
  rintro e w5 ⟨v5, ds, rfl, t5, e5, k5⟩
  have hbr := t5.brn (L := flatN 0 n) (by simpa using e5) (by rw [flatN_length, Nat.zero_add])
  have HBr := Lib.hid hbr
  have HB5 := Lib.hid (HB4.out.trans (k5.below HB4.out.size))
  clear t5 e5 k5 hbr HCall HW4 b0 b1 b2 b3 b4 b5 b6
  go_wp2_with fail
  exact bodyPost_ret (v := .tuple #[.pointer (some ⟨w3.heap.size + 1, 0, none⟩), .int .i64 0]) (by simp [results, Tryd.results20, go_sem]) rfl ⟨⟨_, rfl, HBr.out⟩, HB5.out⟩
end Go.Proofs.YthpnmkfgodmnfaaDoor.tre
