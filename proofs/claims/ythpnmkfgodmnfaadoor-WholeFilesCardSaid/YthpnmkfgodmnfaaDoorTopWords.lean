/- Plain words for the law WholeFiles: letters rise; a directory of files may be, and is counted; what is read of a file in two parts. And what Text hands back, by the type of its blocks. Condition: a text is no longer than a million. -/
import Derived.Test.YthpnmkfgodmnfaaDoorTreDirIn
namespace Go.Proofs.YthpnmkfgodmnfaaDoor.tre
set_option maxRecDepth 100000
open Go.RowKit Go.Proofs.YthpnmkfgodmnfaaDoor.words Go.Proofs.YthpnmkfgodmnfaaDoor.ext Go.Proofs.YthpnmkfgodmnfaaDoor.name

def alpha : ByteArray := ⟨#[97, 98, 99, 100, 101, 102, 103, 104, 105, 106, 107, 108, 109, 110, 111, 112, 113, 114, 115, 116, 117, 118, 119, 120, 121, 122]⟩
def letter (i : Nat) : ByteArray := alpha.extract i (i + 1)
def letters (k : Nat) : List ByteArray := (List.range k).map letter
theorem letters_length (k : Nat) : (letters k).length = k := by simp [letters]
theorem letters_at {k i : Nat} (h : i < k) : (letters k)[i]? = some (letter i) := by simp [letters, h]
theorem letters_more (k : Nat) : letters (k + 1) = letters k ++ [letter k] := by simp [letters, List.range_succ]
theorem letters_rise : ∀ k < 27, riseB (letters k) = true := by decide +kernel
theorem letter_small (i : Nat) : (letter i).size ≤ 140737488355328 := by
  unfold letter
  rw [ByteArray.size_extract]
  have : alpha.size = 26 := rfl
  omega
theorem letters_small {k i : Nat} {x : ByteArray} (h : (letters k)[i]? = some x) : x.size ≤ 140737488355328 := by
  unfold letters at h
  rw [List.getElem?_map] at h
  obtain ⟨j, _, rfl⟩ := Option.map_eq_some_iff.1 h
  exact letter_small j
theorem textN_one (s : ByteArray) (hs : s.size ≤ 1048576) : oneB (textN s) = true := by
  rw [oneB_1 rfl]
  show (true && true && rightB (s.size : Int) (ofB s)) = true
  rw [ofB_right s hs]
  rfl
def filesN (Q : List ByteArray) : List Nd := Q.map textN
theorem filesN_length (Q : List ByteArray) : (filesN Q).length = Q.length := by simp [filesN]
theorem filesN_at {Q : List ByteArray} {i : Nat} {s : ByteArray} (h : Q[i]? = some s) : (filesN Q)[i]? = some (textN s) := by simp [filesN, h]
theorem filesN_of {Q : List ByteArray} {i : Nat} {x : Nd} (h : (filesN Q)[i]? = some x) : ∃ s, Q[i]? = some s ∧ x = textN s := by
  unfold filesN at h
  rw [List.getElem?_map] at h
  obtain ⟨s, h1, h2⟩ := Option.map_eq_some_iff.1 h
  exact ⟨s, h1, h2.symm⟩
theorem wrap_up {c : Int} (h0 : 0 ≤ c) (h1 : c ≤ 4096) : wrap64 (c + 1) = c + 1 := by unfold wrap64; omega
theorem files_each : ∀ (Q : List ByteArray) (c : Int), (∀ s ∈ Q, s.size ≤ 1048576) → 0 ≤ c → c + (Q.length : Int) ≤ 4096 → eachL stR (filesN Q) 1 c = (true, c + (Q.length : Int))
  | [], c, _, _, _ => by
    show eachL stR [] 1 c = _
    rw [eachL_nil]
    simp
  | s :: Q, c, hs, h0, h1 => by
    have hl : (((s :: Q).length : Nat) : Int) = (Q.length : Int) + 1 := by simp
    have hx : eachS stR (textN s) 1 c = (true, c + 1) := by
      rw [eachS_eq]
      have h2 : stR (textN s) 1 c = (true, c + 1) := by
        unfold stR
        rw [wrap_up h0 (by omega), textN_one s (hs s (List.mem_cons_self ..)), decide_eq_true (by omega : c + 1 ≤ 4096), decide_eq_true (by decide : (1 : Int) ≤ 15)]
        rfl
      rw [h2, if_pos rfl]
      exact eachL_nil _ _ _
    show eachL stR (textN s :: filesN Q) 1 c = _
    rw [eachL_cons, hx, if_pos rfl, files_each Q (c + 1) (fun t ht => hs t (List.mem_cons_of_mem _ ht)) (by omega) (by omega), hl]
    rw [show c + 1 + (Q.length : Int) = c + ((Q.length : Int) + 1) by omega]
theorem files_eachC : ∀ (Q : List ByteArray) (c : Int), 0 ≤ c → c + (Q.length : Int) ≤ 4096 → eachL stC (filesN Q) 1 c = (true, c + (Q.length : Int))
  | [], c, _, _ => by
    show eachL stC [] 1 c = _
    rw [eachL_nil]
    simp
  | s :: Q, c, h0, h1 => by
    have hl : (((s :: Q).length : Nat) : Int) = (Q.length : Int) + 1 := by simp
    have hx : eachS stC (textN s) 1 c = (true, c + 1) := by
      rw [eachS_eq]
      have h2 : stC (textN s) 1 c = (true, c + 1) := by
        unfold stC
        rw [wrap_up h0 (by omega)]
        rfl
      rw [h2, if_pos rfl]
      exact eachL_nil _ _ _
    show eachL stC (textN s :: filesN Q) 1 c = _
    rw [eachL_cons, hx, if_pos rfl, files_eachC Q (c + 1) (by omega) (by omega), hl]
    rw [show c + 1 + (Q.length : Int) = c + ((Q.length : Int) + 1) by omega]
theorem files_right (Q : List ByteArray) (hk : Q.length ≤ 26) (hs : ∀ s ∈ Q, s.size ≤ 1048576) : treeB (dirN (letters Q.length) (filesN Q)) = true := by
  have h1 : oneB (dirN (letters Q.length) (filesN Q)) = true := by
    rw [oneB_2 rfl]
    show (true && true && ((letters Q.length).length == (filesN Q).length && riseB (letters Q.length))) = true
    rw [letters_length, filesN_length, letters_rise _ (by omega)]
    simp
  have h2 : stR (dirN (letters Q.length) (filesN Q)) 0 0 = (true, 1) := by
    unfold stR
    rw [h1, wrap_up (by decide) (by decide)]
    rfl
  have h3 : eachS stR (dirN (letters Q.length) (filesN Q)) 0 0 = eachL stR (filesN Q) 1 1 := by
    rw [eachS_eq, h2, if_pos rfl]
    rfl
  unfold treeB
  rw [h3, files_each Q 1 hs (by omega) (by omega)]
  rfl
theorem files_count (Q : List ByteArray) (hk : Q.length ≤ 26) : countC (dirN (letters Q.length) (filesN Q)) = (Q.length : Int) + 1 := by
  have h2 : stC (dirN (letters Q.length) (filesN Q)) 0 0 = (true, 1) := by
    unfold stC
    rw [wrap_up (by decide) (by decide)]
    rfl
  have h3 : eachS stC (dirN (letters Q.length) (filesN Q)) 0 0 = eachL stC (filesN Q) 1 1 := by
    rw [eachS_eq, h2, if_pos rfl]
    rfl
  unfold countC
  rw [h3, files_eachC Q 1 (by omega) (by omega)]
  show 1 + (Q.length : Int) = _
  omega
theorem files_depth (Q : List ByteArray) : depth (dirN (letters Q.length) (filesN Q)) ≤ 1000 := by
  rw [depth_eq]
  refine Nat.le_trans (depthL_le (d := 1) fun x hx => ?_) (by decide)
  obtain ⟨s, _, rfl⟩ := List.mem_map.1 hx
  rw [depth_eq]
  show depthL [] + 1 ≤ 1
  rw [depthL_nil]
  exact Nat.le_refl _
theorem part_read (s : ByteArray) (off n : Nat) (h : off ≤ s.size) : readB (s.size : Int) (ofB s) (off : Int) (n : Int) = (s.data.toList.drop off).take n := by
  have hl : s.data.toList.length = s.size := ext.size_list s
  unfold readB countOf
  rw [if_neg (by omega)]
  refine List.ext_getElem? fun i => ?_
  by_cases hi : i < (min (n : Int) ((s.size : Int) - (off : Int))).toNat
  · rw [readL_at hi, show (off : Int) + (i : Int) = ((off + i : Nat) : Int) by omega, ofB_at s (by omega)]
    rw [List.getElem?_take_of_lt (by omega), List.getElem?_drop]
    unfold byteAt
    rw [List.getD_eq_getElem?_getD, List.getElem?_eq_getElem (by omega)]
    rfl
  · rw [List.getElem?_eq_none (by rw [readL_length]; omega), List.getElem?_eq_none (by rw [List.length_take, List.length_drop]; omega)]
theorem text_same {x y : ByteArray} (h : x.data.toList = y.data.toList) : x = y := by
  obtain ⟨⟨a⟩⟩ := x
  obtain ⟨⟨b⟩⟩ := y
  simp only at h
  subst h
  rfl
theorem parts_read (s r r' : ByteArray) (k : Nat) (hk : k ≤ s.size) (h : r.data.toList = readB (s.size : Int) (ofB s) 0 (k : Int)) (h' : r'.data.toList = readB (s.size : Int) (ofB s) (k : Int) (s.size : Int)) : r ++ r' = s := by
  have e0 := part_read s 0 k (Nat.zero_le _)
  have e1 := part_read s k s.size hk
  have hl : s.data.toList.length = s.size := ext.size_list s
  refine text_same ?_
  rw [ByteArray.data_append, Array.toList_append, h, h', e1]
  have e0' : readB (s.size : Int) (ofB s) 0 (k : Int) = s.data.toList.take k := by simpa using e0
  rw [e0', List.take_of_length_le (l := s.data.toList.drop k) (by rw [List.length_drop]; omega), List.take_append_drop]

/-! Rows that grow at their end -/
theorem rowCells_add : ∀ (L : List Nd) (x : Nd) (rs : Nat → Raw), rowCells (L ++ [x]) rs = rowCells L rs ++ (rawCells x (rs L.length)).toList
  | [], x, rs => by
    show rowCells [x] _ = [] ++ _
    rw [rowCells, rowCells, List.append_nil, List.nil_append]
    rfl
  | y :: L, x, rs => by
    show rowCells (y :: (L ++ [x])) _ = _
    rw [rowCells, rowCells_add L x (fun i => rs (i + 1)), rowCells, List.append_assoc]
    rfl
theorem rowCells_same : ∀ {L : List Nd} {rs rs' : Nat → Raw}, (∀ i < L.length, rs i = rs' i) → rowCells L rs = rowCells L rs'
  | [], _, _, _ => rfl
  | y :: L, rs, rs', h => by
    rw [rowCells, rowCells, h 0 (by simp), rowCells_same (L := L) (rs := fun i => rs (i + 1)) (rs' := fun i => rs' (i + 1)) fun i hi => h (i + 1) (by simp; omega)]
def rawPut (rs : Nat → Raw) (j : Nat) (r : Raw) : Nat → Raw := fun i => if i = j then r else rs i
theorem rawPut_at (rs : Nat → Raw) (j : Nat) (r : Raw) : rawPut rs j r j = r := if_pos rfl
theorem rawPut_lt {rs : Nat → Raw} {j : Nat} {r : Raw} {i : Nat} (h : i < j) : rawPut rs j r i = rs i := if_neg (by omega)
theorem rowCells_put (L : List Nd) (x : Nd) (rs : Nat → Raw) (r : Raw) : rowCells (L ++ [x]) (rawPut rs L.length r) = rowCells L rs ++ (rawCells x r).toList := by
  rw [rowCells_add, rawPut_at, rowCells_same (rs' := rs) fun i hi => rawPut_lt hi]

/-! What Text hands back, by the type of its blocks -/
def Ty (w : World) (E : TypeId) (b : Nat) : Prop := ∃ cs, w.heap[b]? = some (.cells cs E (0, 0))
def TextTy (n : Nd) (w : World) (e : Ending) (w' : World) : Prop := ∃ r', e = .returned (ndV n r') ∧ NdIn w' (Ty w' 86) n r' ∧ Below w.heap.size w w'
theorem own_extTy {w : World} {B n c : Nat} {E : TypeId} {A : Option Addr} {L : List Ex} (h : w.ownsRow B E 2 (.slice A n c) n (exCells L)) (hs : ∀ (i : Nat) (x : Ex), L[i]? = some x → -9223372036854775808 ≤ x.O ∧ x.O ≤ 9223372036854775807 ∧ x.D.size ≤ 140737488355328) :
    ExtIn w (fun b => B ≤ b ∧ b < w.heap.size ∧ Ty w E b) A L := fun i x hx => by
  obtain ⟨e0, e1⟩ := exCells_at hx
  obtain ⟨g, cur, h1, h2, h3, h4, h5⟩ := own_cell h e0
  obtain ⟨g', _, h1', _, _, _, h5'⟩ := own_cell h e1
  rw [h1] at h1'
  injection h1' with h1'
  injection h1' with h1'
  subst h1'
  exact ⟨⟨g, 0, h1, ⟨h2, h3, cur, h4⟩, by rw [Nat.zero_add]; exact h5, by rw [Nat.zero_add]; exact h5'⟩, hs i x hx⟩
set_option maxHeartbeats 1600000 in
theorem text_ty (s : ByteArray) (w : World) (hs : s.size ≤ 1000000) : Calls Tryd.prog 35 #[.string s] w (TextTy (textN s) w) := by
  obtain ⟨W1, hW1⟩ : ∃ W1, W1 = w.alloc (.cells (rawCells nd0 raw0) 26) := ⟨_, rfl⟩
  have hb1 : Below w.heap.size w W1 := by rw [hW1]; exact (Below.refl _ _).alloc (Nat.le_refl _) _
  have hX1 : Box W1 w.heap.size nd0 raw0 := by rw [hW1]; exact Box.new w nd0 raw0
  have hW1' : W1 = w.alloc (.cells #[.int .i64 0, .bool false, .slice none 0 0, .slice none 0 0, .int .i64 0, .slice none 0 0, .string ⟨#[]⟩] 26) := hW1
  have HW1 := Lib.hid hW1'
  have HX1 := Lib.hid hX1
  have HB1 := Lib.hid hb1
  clear hW1 hW1' hX1 hb1
  go_enter Tryd.func35, Tryd.ntmps35
  go_upto_region 1 with fail
  rw [← HW1.out]
  go_wp2_with fail
  refine (of_any s W1 hs).mono ?_
  rintro e w4 ⟨⟨A, c, rfl, hown⟩, hb4⟩
  have hO4 : Box w4 w.heap.size nd0 raw0 := HX1.out.below hb4
  have hB4 : Below w.heap.size w w4 := HB1.out.trans (hb4.mono HB1.out.size)
  have hl1 := HX1.out.lt
  have z0 := free_of_blk hO4 0
  have z1 := free_of_blk hO4 1
  have z2 := free_of_blk hO4 2
  have z3 := free_of_blk hO4 3
  have z4 := free_of_blk hO4 4
  have z5 := free_of_blk hO4 5
  have z6 := free_of_blk hO4 6
  obtain ⟨d0, d1, d2, d3, d4, d5, d6⟩ := hO4.cells
  obtain ⟨q, hq⟩ : ∃ q : Raw, q = ⟨none, 0, none, 0, A, c⟩ := ⟨_, rfl⟩
  have hob := hO4.over (m := textN s) (q := q)
  have hs4 := size_setCells w.heap.size (rawCells (textN s) q).toList 0 w4
  have hBd := below_setCells (w := w) (B := w.heap.size) (g := w.heap.size) (Nat.le_refl _) (rawCells (textN s) q).toList 0 w4 hB4
  obtain ⟨Wd, hWd⟩ : ∃ Wd, Wd = w4.setCells w.heap.size 0 (rawCells (textN s) q).toList := ⟨_, rfl⟩
  rw [← hWd] at hob hs4 hBd
  obtain ⟨A', c', hv, hnc, hnz⟩ := own_facts hown
  injection hv with hA' _ hc'
  subst hA' hc'
  have hln := ofB_length s
  have hE : ExtIn Wd (Ty Wd 86) A (ofB s) := (own_extTy hown (ofB_in s hs)).keep (P' := Ty Wd 86) fun b hk => by
    have h := World.heap_setCells_other w4 w.heap.size 0 (rawCells (textN s) q).toList hk.2.1 (by omega)
    rw [← hWd] at h
    obtain ⟨cs, hcs⟩ := hk.2.2
    exact ⟨h, cs, h.trans hcs⟩
  have hN : NdIn Wd (Ty Wd 86) (textN s) q := by
    rw [hq]
    exact .mk (fun _ => raw0) (fitT s A c (by omega) (by omega) hnc hnz)
      (fun _ _ hx => (no_at hx).elim) hE (fun _ _ hx => (no_at hx).elim) (fun _ _ hx => (no_at hx).elim)
  obtain ⟨p0, p1, p2, p3, p4, p5, p6⟩ := hob.cells
  have hWd' : ((((((w4.setCell ⟨w.heap.size, 0, none⟩ (.int .i64 1)).setCell ⟨w.heap.size, 1, none⟩ (.bool false)).setCell ⟨w.heap.size, 2, none⟩ (.slice none 0 0)).setCell ⟨w.heap.size, 3, none⟩ (.slice none 0 0)).setCell ⟨w.heap.size, 4, none⟩ (.int .i64 (s.size : Int))).setCell ⟨w.heap.size, 5, none⟩ (.slice A (ofB s).length c)).setCell ⟨w.heap.size, 6, none⟩ (.string ⟨#[]⟩) = Wd := by rw [hWd, hq]; rfl
  have HWd := Lib.hid hWd'
  have HN := Lib.hid hN
  have HBd := Lib.hid hBd
  clear hWd hWd' hN hE hBd hq hown hb4 hob hs4 hnc hnz
  go_wp2_with fail
  rw [HWd.out]
  exact bodyPost_ret (v := ndV (textN s) q) (by unfold ndV rawCells; simp [results, Tryd.results35, go_sem, p0, p1, p2, p3, p4, p5, p6]) rfl ⟨q, rfl, HN.out, HBd.out⟩

/-! Two rows and what the files' nodes lie in -/
theorem ty_later {w w' : World} {E : TypeId} {b : Nat} (h : Ty w E b) (hb : Below w.heap.size w w') : w'.heap[b]? = w.heap[b]? ∧ Ty w' E b := by
  obtain ⟨cs, hcs⟩ := h
  have h := hb.block b (lt_of_some hcs)
  exact ⟨h, cs, h.trans hcs⟩
theorem ty_grown {w w' : World} {E E' : TypeId} {B size n : Nat} {v : Value} {xs : List Value} {b : Nat} (h : Ty w E b) (hg : w.grownBy w' v.ownBlock) (ho : w.ownsRow B E' size v n xs) (hne : E' ≠ E) : w'.heap[b]? = w.heap[b]? ∧ Ty w' E b := by
  obtain ⟨cs, hcs⟩ := h
  have h := hg.block b (lt_of_some hcs) fun e => own_ne ho hcs hne e.symm
  exact ⟨h, cs, h.trans hcs⟩
/-- The files' nodes, in blocks of extents. -/
def Files (w : World) (Q : List ByteArray) (rs : Nat → Raw) : Prop := ∀ (i : Nat) (x : Nd), (filesN Q)[i]? = some x → NdIn w (Ty w 86) x (rs i)
theorem Files.later {w w' : World} {Q : List ByteArray} {rs : Nat → Raw} (h : Files w Q rs) (hb : Below w.heap.size w w') : Files w' Q rs := fun i x hx => (h i x hx).keep fun _ hb' => ty_later hb' hb
theorem Files.grown {w w' : World} {E' : TypeId} {B size n : Nat} {v : Value} {xs : List Value} {Q : List ByteArray} {rs : Nat → Raw} (h : Files w Q rs) (hg : w.grownBy w' v.ownBlock) (ho : w.ownsRow B E' size v n xs) (hne : E' ≠ 86) : Files w' Q rs := fun i x hx => (h i x hx).keep fun _ hb => ty_grown hb hg ho hne
theorem Files.put {w : World} {Q : List ByteArray} {rs : Nat → Raw} {s : ByteArray} {r : Raw} (h : Files w Q rs) (hn : NdIn w (Ty w 86) (textN s) r) : Files w (Q ++ [s]) (rawPut rs Q.length r) := fun i x hx => by
  obtain ⟨t, ht, rfl⟩ := filesN_of hx
  rcases Nat.lt_or_ge i Q.length with hi | hi
  · rw [rawPut_lt hi]
    rw [List.getElem?_append_left hi] at ht
    exact h i _ (filesN_at ht)
  · rw [List.getElem?_append_right hi] at ht
    have h0 : i - Q.length = 0 := by
      have := (List.getElem?_eq_some_iff.1 ht).1
      simp at this
      omega
    rw [h0] at ht
    obtain rfl : s = t := by simpa using ht
    have : i = Q.length := by omega
    subst this
    rw [rawPut_at]
    exact hn
theorem own_grown {w w' : World} {E E' : TypeId} {B B' size size' n n' : Nat} {v v' : Value} {xs xs' : List Value} (h : w.ownsRow B E size v n xs) (hg : w.grownBy w' v'.ownBlock) (ho : w.ownsRow B' E' size' v' n' xs') (hne : E' ≠ E) : w'.ownsRow B E size v n xs := by
  refine ⟨h.1, ?_⟩
  rcases h.2 with h0 | ⟨g, cap, cur, h1, h2, h3, h4⟩
  · exact .inl h0
  · exact .inr ⟨g, cap, cur, h1, h2, (hg.block g (lt_of_some h3) fun e => own_ne ho h3 hne e.symm).trans h3, h4⟩
end Go.Proofs.YthpnmkfgodmnfaaDoor.tre
