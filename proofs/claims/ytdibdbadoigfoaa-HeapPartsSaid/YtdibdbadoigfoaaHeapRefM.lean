/- What the reference's Merge answers: all names, sorted, in a row of its own. Condition: the rows lie in memory. -/
import Derived.Test.YtdibdbadoigfoaaHeapRef
import Derived.Deep.RegionLaw
namespace Go.Proofs.Ytdibdbadoigfoaa.heap
set_option maxRecDepth 100000
open Go.RowKit Go.Proofs.Ytdibdbadoigfoaa.words
open scoped List

theorem remF_done {f : Nat → Nat} : ∀ {rows : List (List ByteArray)} {i : Nat}, (∀ j l, rows[j]? = some l → f (i + j) = l.length) → remF f i rows = []
  | [], _, _ => rfl
  | r :: rest, i, h => by
    rw [remF, show f i = r.length from h 0 r rfl, List.drop_length, List.map_nil, List.nil_append]
    exact remF_done fun j l hj => by rw [show i + 1 + j = i + (j + 1) by omega]; exact h (j + 1) l (by simpa using hj)
/-- The best one of the first i rows. -/
def BestOk (L : List (List ByteArray)) (f : Nat → Nat) (i : Nat) (b : Int) : Prop :=
  (b = -1 ∧ ∀ j l, j < i → L[j]? = some l → f j = l.length) ∨
  ∃ (k : Nat) (l : List ByteArray) (s : ByteArray), b = (k : Int) ∧ k < i ∧ L[k]? = some l ∧ l[f k]? = some s ∧ ∀ j l' s', j < i → L[j]? = some l' → l'[f j]? = some s' → ¬ ltI (s', j) (s, k)
theorem BestOk.start (L : List (List ByteArray)) (f : Nat → Nat) : BestOk L f 0 (-1) := .inl ⟨rfl, fun _ _ h => absurd h (Nat.not_lt_zero _)⟩
theorem BestOk.skip {L : List (List ByteArray)} {f : Nat → Nat} {i : Nat} {b : Int} {l : List ByteArray} (h : BestOk L f i b) (hl : L[i]? = some l) (hf : f i = l.length) : BestOk L f (i + 1) b := by
  rcases h with ⟨rfl, h⟩ | ⟨k, lk, s, rfl, h1, h2, h3, h4⟩
  · refine .inl ⟨rfl, fun j l' hj hl' => ?_⟩
    rcases Nat.lt_or_ge j i with hlt | hge
    · exact h j l' hlt hl'
    · obtain rfl : j = i := by omega
      rw [hl] at hl'
      rw [← Option.some.inj hl']
      exact hf
  · refine .inr ⟨k, lk, s, rfl, by omega, h2, h3, fun j l' s' hj hl' hs' => ?_⟩
    rcases Nat.lt_or_ge j i with hlt | hge
    · exact h4 j l' s' hlt hl' hs'
    · obtain rfl : j = i := by omega
      rw [hl] at hl'
      rw [← Option.some.inj hl', hf] at hs'
      rw [List.getElem?_eq_none (Nat.le_refl _)] at hs'
      cases hs'
theorem BestOk.first {L : List (List ByteArray)} {f : Nat → Nat} {i : Nat} {l : List ByteArray} {s : ByteArray} (h : ∀ j l, j < i → L[j]? = some l → f j = l.length) (hl : L[i]? = some l) (hs : l[f i]? = some s) : BestOk L f (i + 1) (i : Int) := by
  refine .inr ⟨i, l, s, rfl, by omega, hl, hs, fun j l' s' hj hl' hs' => ?_⟩
  rcases Nat.lt_or_ge j i with hlt | hge
  · rw [h j l' hlt hl', List.getElem?_eq_none (Nat.le_refl _)] at hs'
    cases hs'
  · obtain rfl : j = i := by omega
    rw [hl] at hl'
    rw [← Option.some.inj hl', hs] at hs'
    rw [← Option.some.inj hs']
    exact ltI_self _
theorem BestOk.better {L : List (List ByteArray)} {f : Nat → Nat} {i k : Nat} {l : List ByteArray} {s sk : ByteArray} (h4 : ∀ j l' s', j < i → L[j]? = some l' → l'[f j]? = some s' → ¬ ltI (s', j) (sk, k)) (hl : L[i]? = some l) (hs : l[f i]? = some s) (hlt : ltB s sk = true) : BestOk L f (i + 1) (i : Int) := by
  refine .inr ⟨i, l, s, rfl, by omega, hl, hs, fun j l' s' hj hl' hs' => ?_⟩
  rcases Nat.lt_or_ge j i with h | hge
  · exact fun hc => h4 j l' s' h hl' hs' (ltI_trans hc (.inl hlt))
  · obtain rfl : j = i := by omega
    rw [hl] at hl'
    rw [← Option.some.inj hl', hs] at hs'
    rw [← Option.some.inj hs']
    exact ltI_self _
theorem BestOk.keep {L : List (List ByteArray)} {f : Nat → Nat} {i k : Nat} {l lk : List ByteArray} {s sk : ByteArray} (hk : k < i) (h2 : L[k]? = some lk) (h3 : lk[f k]? = some sk) (h4 : ∀ j l' s', j < i → L[j]? = some l' → l'[f j]? = some s' → ¬ ltI (s', j) (sk, k)) (hl : L[i]? = some l) (hs : l[f i]? = some s) (hlt : ltB s sk = false) : BestOk L f (i + 1) (k : Int) := by
  refine .inr ⟨k, lk, sk, rfl, by omega, h2, h3, fun j l' s' hj hl' hs' => ?_⟩
  rcases Nat.lt_or_ge j i with h | hge
  · exact h4 j l' s' h hl' hs'
  · obtain rfl : j = i := by omega
    rw [hl] at hl'
    rw [← Option.some.inj hl', hs] at hs'
    rw [← Option.some.inj hs']
    rintro (hc | ⟨_, hc⟩)
    · have hc' : ltB s sk = true := hc
      rw [hlt] at hc'; cases hc'
    · have : j < k := hc
      omega

/-- The reference's state: where each row is, and what is put out. -/
structure In4 (w : World) (ga : Nat) (L : List (List ByteArray)) (f : Nat → Nat) (out : List It) (v : Value) (wr : World) : Prop where
  at_ : ∃ cs : Array Value, wr.heap[ga]? = some (.cells cs 3 (0, 0)) ∧ cs.size = L.length ∧ ∀ i, i < L.length → cs[i]? = some (.int .i64 (f i : Int))
  fit : ∀ i l, L[i]? = some l → f i ≤ l.length
  mrg : Mrg (allF L) out (remF f 0 L)
  own : wr.ownsRow w.heap.size 33 2 v out.length (out.flatMap itCells)
  below : Below w.heap.size w wr
def RefMerged (w : World) (L : List (List ByteArray)) (e : Ending) (w' : World) : Prop :=
  ∃ v out, e = .returned v ∧ w'.ownsRow w.heap.size 33 2 v out.length (out.flatMap itCells) ∧ Merged L out ∧ Below w.heap.size w w'
theorem In4.drewN {w wr : World} {ga : Nat} {L : List (List ByteArray)} {f : Nat → Nat} {out : List It} {v : Value} (h : In4 w ga L f out v wr) (n : Nat) : In4 w ga L f out v (wr.drewN n) :=
  ⟨h.at_, h.fit, h.mrg, h.own, below_drewN h.below n⟩
theorem In4.fin {w wr : World} {ga : Nat} {L : List (List ByteArray)} {f : Nat → Nat} {out : List It} {v : Value} (h : In4 w ga L f out v wr) (hd : ∀ j l, j < L.length → L[j]? = some l → f j = l.length) : RefMerged w L (.returned v) wr := by
  refine ⟨v, out, rfl, h.own, Mrg.done ?_, h.below⟩
  have := h.mrg
  rwa [remF_done fun j l hj => by rw [Nat.zero_add]; exact hd j l (List.getElem?_eq_some_iff.1 hj).1 hj] at this
theorem In4.size {w wr : World} {ga : Nat} {L : List (List ByteArray)} {f : Nat → Nat} {out : List It} {v : Value} (h : In4 w ga L f out v wr) : out.length + (remF f 0 L).length = tot L := by
  have := h.mrg.perm.length_eq
  rw [List.length_append] at this
  exact this
/-- The best one's item goes out. -/
theorem In4.next {w w5 w6 : World} {ga k : Nat} {L : List (List ByteArray)} {f : Nat → Nat} {out : List It} {v' : Value} {l : List ByteArray} {s : ByteArray} (hr : ∀ l ∈ L, Ris l) (hfit : ∀ i l, L[i]? = some l → f i ≤ l.length) (hm : Mrg (allF L) out (remF f 0 L))
    (hl : L[k]? = some l) (hs : l[f k]? = some s) (hb : ∀ j l' s', j < L.length → L[j]? = some l' → l'[f j]? = some s' → ¬ ltI (s', j) (s, k))
    (hat : ∃ cs : Array Value, w5.heap[ga]? = some (.cells cs 3 (0, 0)) ∧ cs.size = L.length ∧ ∀ i, i < L.length → cs[i]? = some (.int .i64 (f i : Int)))
    (ho : w5.ownsRow w.heap.size 33 2 v' (out.length + 1) (out.flatMap itCells ++ itCells (s, k))) (hbl : Below w.heap.size w w5) (hga : w.heap.size ≤ ga)
    (h6 : w6 = w5.setCell ⟨ga, k, none⟩ (.int .i64 ((f k : Int) + 1))) :
    ∃ f', (remF f' 0 L).length < (remF f 0 L).length ∧ In4 w ga L f' (out ++ [(s, k)]) v' w6 := by
  have hp := remF_bump f s L 0 k l (Nat.zero_le _) (by simpa using hl) hs
  obtain ⟨hk, _⟩ := List.getElem?_eq_some_iff.1 hl
  refine ⟨bump f k, by rw [hp.length_eq, List.length_cons]; omega, ?_, fun i li hi => ?_, hm.next hp fun y hy => ?_, ?_, ?_⟩
  · obtain ⟨cs, h1, h2, h3⟩ := hat
    refine ⟨cs.setIfInBounds k (.int .i64 ((f k : Int) + 1)), by rw [h6]; exact heap_setCell_same w5 ga k cs _ _ h1, by rw [Array.size_setIfInBounds]; exact h2, fun i hi => ?_⟩
    rw [Array.getElem?_setIfInBounds]
    by_cases e : k = i
    · subst e
      rw [if_pos rfl, if_pos (by omega)]
      simp [bump]
    · rw [if_neg e, h3 i hi]
      simp only [bump, if_neg (fun h : i = k => e h.symm)]
  · by_cases e : i = k
    · subst e
      rw [hl] at hi
      rw [← Option.some.inj hi]
      have := (List.getElem?_eq_some_iff.1 hs).1
      simp only [bump, if_pos]
      omega
    · simp only [bump, if_neg e]
      exact hfit i li hi
  · obtain ⟨ly, ky, q1, q2, q3⟩ := mem_remF hy
    rw [Nat.zero_add] at q2 q3
    obtain ⟨j, hj⟩ := List.mem_iff_getElem?.1 q3
    rw [List.getElem?_drop] at hj
    have hlt := (List.getElem?_eq_some_iff.1 hj).1
    obtain ⟨s', hs'⟩ : ∃ s', ly[f ky]? = some s' := ⟨_, List.getElem?_eq_getElem (by omega)⟩
    have hbest := hb ky ly s' (List.getElem?_eq_some_iff.1 q1).1 q1 hs'
    refine leI_trans (b := (s', ky)) hbest ?_
    rcases Nat.eq_zero_or_pos j with rfl | hpos
    · rw [Nat.add_zero, hs'] at hj
      have e1 := Option.some.inj hj
      have : y = (s', ky) := by rw [← q2, e1]
      rw [this]
      exact leI_refl _
    · have hrise := List.pairwise_iff_getElem.1 (hr ly (List.mem_of_getElem? q1)) (f ky) (f ky + j) (by omega) hlt (by omega)
      rw [(List.getElem?_eq_some_iff.1 hs').2, (List.getElem?_eq_some_iff.1 hj).2] at hrise
      rintro (hc | ⟨hc, _⟩)
      · have hc' : ltB y.1 s' = true := hc
        rw [ltB_asym hrise] at hc'; cases hc'
      · have hc' : y.1 = s' := hc
        rw [hc', ltB_self] at hrise; cases hrise
  · rw [h6, List.length_append, List.flatMap_append, List.flatMap_singleton]
    obtain ⟨cs, h1, _, _⟩ := hat
    exact own_setCell ho (own_ne ho h1 (by decide)) _
  · rw [h6]
    exact hbl.setCell (p := ⟨ga, k, none⟩) hga _
theorem infoInt : (Try.prog.info? 3).map (fun i => (i.zero, i.size, i.bytes)) = some (some (.int .i64 0), 1, 8) := by kernel_rfl
theorem infoRItem : (Try.prog.info? 33).map (fun i => (i.zero, i.size, i.bytes)) = some (some (.agg #[.string ⟨#[]⟩, .int .i64 0]), 2, 24) := by kernel_rfl

/-- A row's cell, and the text at a place in it. -/
theorem Rws.at_ {w wr : World} {B : Nat} {b off : Nat} {L : List (List ByteArray)} (h : Rws w B (some ⟨b, off, none⟩) L) (hb : Below B w wr) {i : Nat} {l : List ByteArray} (hl : L[i]? = some l) :
    ∃ Ai ci, wr.cell? ⟨b, off + i, none⟩ = some (.slice Ai l.length ci) ∧ ∀ j s, l[j]? = some s → ∃ bi oi, Ai = some ⟨bi, oi, none⟩ ∧ wr.cell? ⟨bi, oi + j, none⟩ = some (.string s) := by
  obtain ⟨b', off', Ai, ci, h1, h2, h3, h4, _⟩ := h i l hl
  injection h1 with h1
  injection h1 with e1 e2
  subst e1 e2
  refine ⟨Ai, ci, (hb.cell (p := ⟨b, off + i, none⟩) h2).trans h3, fun j s hs => ?_⟩
  obtain ⟨bi, oi, q1, q2, q3⟩ := h4 j s hs
  exact ⟨bi, oi, q1, (hb.cell (p := ⟨bi, oi + j, none⟩) q2).trans q3⟩
theorem In4.cell {w wr : World} {ga : Nat} {L : List (List ByteArray)} {f : Nat → Nat} {out : List It} {v : Value} (h : In4 w ga L f out v wr) {i : Nat} (hi : i < L.length) : wr.cell? ⟨ga, i, none⟩ = some (.int .i64 (f i : Int)) ∧ wr.frozen? ⟨ga, i, none⟩ = false := by
  obtain ⟨cs, h1, h2, h3⟩ := h.at_
  exact ⟨(cell_of_blk h1 i).trans (h3 i hi), free_of_blk h1 i⟩

set_option maxHeartbeats 12800000 in
theorem refmerge_any (A : Option Addr) (c : Nat) (L : List (List ByteArray)) (w : World) (hL : Rws w w.heap.size A L) (hr : ∀ l ∈ L, Ris l) (hsm : ∀ l ∈ L, Sml l) (hlen : L.length ≤ 10000) (htot : tot L ≤ 1000000000) (hll : ∀ l ∈ L, l.length ≤ 1000000000) :
    Calls Try.prog 8 #[.slice A L.length c] w (RefMerged w L) := by
  obtain ⟨ii, hi', hw0, hw1, hw2⟩ := info_three infoRItem
  obtain ⟨i0, hi, hz0, hy1, hy2⟩ := info_three infoInt
  have hmk : ∀ u : World, (Instr.makeSlice 49 (.int .i64 (L.length : Int)) (.int .i64 (L.length : Int))).run Try.prog u =
      .ok (.slice (some ⟨u.heap.size, 0, none⟩) L.length L.length) (u.alloc (.cells (madeCells #[.int .i64 0] L.length) 3)) := fun u => by
    have h := run_make (P := Try.prog) u 49 3 i0 (.int .i64 0) Try.underlying49 hi hz0 .i64 .i64 (L.length : Int) (L.length : Int) (by omega) (Int.le_refl _) (by rw [hy2]; omega) (by omega)
    simpa [hy1, Value.cells] using h
  obtain ⟨M, hM⟩ : ∃ M, M = madeCells #[.int .i64 0] L.length := ⟨_, rfl⟩
  rw [← hM] at hmk
  have hMl : M.toList = List.replicate L.length (.int .i64 0) := by rw [hM, toList_madeCells_one]
  have hMs : M.size = L.length := by rw [← Array.length_toList, hMl, List.length_replicate]
  have hMc : ∀ i, i < L.length → M[i]? = some (.int .i64 ((0 : Nat) : Int)) := fun i h => by rw [← Array.getElem?_toList, hMl, List.getElem?_replicate, if_pos h]; rfl
  obtain ⟨W1, hW1⟩ : ∃ W1, W1 = w.alloc (.cells M 3) := ⟨_, rfl⟩
  obtain ⟨W2, hW2⟩ : ∃ W2, W2 = W1.alloc (.cells #[] 33) := ⟨_, rfl⟩
  have hb1 : Below w.heap.size w W1 := by rw [hW1]; exact (Below.refl _ _).alloc (Nat.le_refl _) _
  have hb2 : Below w.heap.size w W2 := by rw [hW2]; exact hb1.alloc hb1.size _
  have hz1 : W1.heap.size = w.heap.size + 1 := by rw [hW1]; simp
  have hm2 : W2.heap[w.heap.size]? = some (.cells M 3 (0, 0)) := by
    rw [hW2]
    refine (Below.heap_alloc W1 _ _ (by omega)).trans ?_
    rw [hW1]
    exact heap_alloc_new w _
  have ho2 : W2.ownsRow w.heap.size 33 2 (.slice (some ⟨w.heap.size + 1, 0, none⟩) 0 0) 0 [] := by
    rw [hW2, ← hz1]
    exact World.ownsRow_made W1 #[] 0 hb1.size (by decide) rfl
  have HI : Hid (In4 w w.heap.size L (fun _ => 0) [] (.slice (some ⟨w.heap.size + 1, 0, none⟩) 0 0) W2) := Lib.hid ⟨⟨M, hm2, hMs, hMc⟩, fun _ _ _ => Nat.zero_le _, Mrg.start (List.Perm.refl _), ho2, hb2⟩
  have HL := Lib.hid hL
  have HR := Lib.hid hr
  have HSm := Lib.hid hsm
  have HLl := Lib.hid hll
  rw [hW1] at hW2
  have HW2 := Lib.hid hW2
  clear hL hr hsm hll hM hMl hMs hMc hb1 hb2 hz1 hm2 ho2 hW1 hW2 hi hz0 hy1 hy2
  go_enter Try.func8, Try.ntmps8
  go_wp2_with fail
  rw [← HW2.out]
  go_loopg [4] (tot L) (fun m v4 wr => ∃ (f : Nat → Nat) (out : List It), (remF f 0 L).length ≤ m ∧ Hid (In4 w w.heap.size L f out v4 wr))
  case atStart => exact ⟨_, [], Nat.le_refl _, HI⟩
  case round =>
    obtain ⟨f, out, hm, HF⟩ := hrel
    go_wp2_with fail
    rename World => wo
    go_loopw [5, 6] (fun v5 v6 wr => ∃ (i : Nat) (b : Int) (nd : Nat), v6 = .int .i64 (i : Int) ∧ i ≤ L.length ∧ v5 = .int .i64 b ∧ Hid (BestOk L f i b) ∧ wr = wo.drewN nd) (fun _ v6 _ => L.length - (intOf v6).toNat)
    case atStart => exact ⟨0, -1, 0, rfl, Nat.zero_le _, rfl, Lib.hid (BestOk.start L f), rfl⟩
    case round =>
      obtain ⟨i, b, nd, rfl, hi, rfl, HB, rfl⟩ := hrel
      by_cases hlt : i < L.length
      · obtain ⟨l, hl⟩ : ∃ l, L[i]? = some l := ⟨_, List.getElem?_eq_getElem hlt⟩
        have hbd := HLl.out l (List.mem_of_getElem? hl)
        have hfit := HF.out.fit i l hl
        obtain ⟨bb, off, _, _, hA, _⟩ := HL.out i l hl
        subst hA
        obtain ⟨Ai, ci, ri, ti⟩ := HL.out.at_ HF.out.below hl
        obtain ⟨ai, _⟩ := HF.out.cell hlt
        have x0 : (0 : Int) ≤ (i : Int) := by omega
        have x1 : (i : Int) < (L.length : Int) := by omega
        have x2 : ((i : Int)).toNat = i := by omega
        have x3 : (0 : Int) ≤ (f i : Int) := by omega
        have x4 : ((f i : Int)).toNat = f i := by omega
        by_cases hex : f i < l.length
        · obtain ⟨s, hs⟩ : ∃ s, l[f i]? = some s := ⟨_, List.getElem?_eq_getElem hex⟩
          obtain ⟨bi, oi, rfl, si⟩ := ti _ _ hs
          have x5 : (f i : Int) < (l.length : Int) := by omega
          have x6 : decide (f i < l.length) = true := by simpa using hex
          have hss := HSm.out l (List.mem_of_getElem? hl) s (List.mem_of_getElem? hs)
          rcases HB.out with ⟨rfl, hx'⟩ | ⟨k, lk, sk, rfl, hk, h2, h3, h4⟩
          · have HN := Lib.hid (BestOk.first hx' hl hs)
            clear hx' hl hs hex ti hbd hfit
            go_wp2_with fail
            go_quiet (fail)
            go_wp2_with fail
            go_roundw
            case rel => exact ⟨i + 1, _, _, by go_num, by omega, rfl, HN, rfl⟩
            case measure => simp [intOf]; omega
          · obtain ⟨Ak, ck, rk, tk⟩ := HL.out.at_ HF.out.below h2
            obtain ⟨bk, ok, rfl, sk'⟩ := tk _ _ h3
            have hkL : k < L.length := by omega
            obtain ⟨ak, _⟩ := HF.out.cell hkL
            have y0 : (0 : Int) ≤ (k : Int) := by omega
            have y1 : (k : Int) < (L.length : Int) := by omega
            have y2 : ((k : Int)).toNat = k := by omega
            have y3 : (0 : Int) ≤ (f k : Int) := by omega
            have y4 : ((f k : Int)).toNat = f k := by omega
            have hsk := (List.getElem?_eq_some_iff.1 h3).1
            have y5 : (f k : Int) < (lk.length : Int) := by omega
            have y6 : decide ((k : Int) < 0) = false := by rw [decide_eq_false_iff_not]; omega
            have y7 : ¬ (k : Int) < 0 := by omega
            rcases hlb : ltB s sk with _ | _
            · have HRR := Lib.hid hlb
              have HN := Lib.hid (BestOk.keep hk h2 h3 h4 hl hs hlb)
              clear hlb h2 h3 h4 hl hs hex ti hbd hfit tk hsk
              go_wp2_with fail
              go_quiet ((go_at_call 11; exact quiet_drew2 (rless_is s sk false _ hss HRR.out)))
              go_wp2_with fail
              go_roundw
              case rel => exact ⟨i + 1, _, _, by go_num, by omega, rfl, HN, rfl⟩
              case measure => simp [intOf]; omega
            · have HRR := Lib.hid hlb
              have HN := Lib.hid (BestOk.better h4 hl hs hlb)
              clear hlb h2 h3 h4 hl hs hex ti hbd hfit tk hsk
              go_wp2_with fail
              go_quiet ((go_at_call 11; exact quiet_drew2 (rless_is s sk true _ hss HRR.out)))
              go_wp2_with fail
              go_roundw
              case rel => exact ⟨i + 1, _, _, by go_num, by omega, rfl, HN, rfl⟩
              case measure => simp [intOf]; omega
        · have x5 : ¬ (f i : Int) < (l.length : Int) := by omega
          have x6 : decide (f i < l.length) = false := by simpa using hex
          have HN := Lib.hid (HB.out.skip hl (by omega))
          clear hl hex ti hbd hfit
          go_wp2_with fail
          go_quiet (fail)
          go_wp2_with fail
          go_roundw
          case rel => exact ⟨i + 1, _, _, by go_num, by omega, rfl, HN, rfl⟩
          case measure => simp [intOf]; omega
      · obtain rfl : i = L.length := by omega
        rcases HB.out with ⟨rfl, hx'⟩ | ⟨k, lk, sk, rfl, hk, h2, h3, h4⟩
        · have HE : Hid (RefMerged w L (.returned u4) (wo.drewN nd)) := Lib.hid ((HF.out.drewN nd).fin hx')
          clear hx'
          go_wp2_with fail
          go_ret
          exact HE.out
        · obtain ⟨bb, off, _, _, hA, _⟩ := HL.out k lk h2
          subst hA
          obtain ⟨W3, hW3⟩ : ∃ W3, W3 = wo.drewN nd := ⟨_, rfl⟩
          have hF3 : In4 w w.heap.size L f out u4 W3 := by rw [hW3]; exact HF.out.drewN nd
          rw [← hW3]
          obtain ⟨Ak, ck, rk, tk⟩ := HL.out.at_ hF3.below h2
          obtain ⟨bk, ok, rfl, sk'⟩ := tk _ _ h3
          obtain ⟨ak, _⟩ := hF3.cell hk
          have hbd := HLl.out lk (List.mem_of_getElem? h2)
          have hsk := (List.getElem?_eq_some_iff.1 h3).1
          have y0 : (0 : Int) ≤ (k : Int) := by omega
          have y1 : (k : Int) < (L.length : Int) := by omega
          have y2 : ((k : Int)).toNat = k := by omega
          have y3 : (0 : Int) ≤ (f k : Int) := by omega
          have y4 : ((f k : Int)).toNat = f k := by omega
          have y5 : (f k : Int) < (lk.length : Int) := by omega
          have y6 : decide ((k : Int) < 0) = false := by rw [decide_eq_false_iff_not]; omega
          have y7 : ¬ (k : Int) < 0 := by omega
          have y8 : (f k : Int) ≤ 1000000000 := by omega
          have hol : out.length ≤ tot L := by have := hF3.size; omega
          have hz3 : w.heap.size ≤ W3.heap.size := hF3.below.size
          have HO := Lib.hid hF3.own
          have hown := hF3.own
          have HF3 := Lib.hid hF3
          have H2 := Lib.hid (And.intro h2 (And.intro h3 h4))
          obtain ⟨A4, l4, c4, h4e⟩ := own_slice hF3.own
          subst h4e
          clear hF3 hW3 h2 h3 h4 tk hbd hsk HB HF hown
          go_wp2_with fail
          go_region_law (first
            | (refine step_append_lies _ (by rfl) _ _ _ (by rfl) w.heap.size 33 ii _ 2 24 Try.underlying28 hi' hw0 hw1 hw2 rfl (by omega) (.slice A4 l4 c4) out.length _ (by rfl) (by exact HO.out.alloc _)
                  ⟨W3.heap.size, 0, none⟩ 1 1 (itCells (sk, k)) (by rfl) (by rfl) (World.news_of_block (cs := #[.string sk, .int .i64 (k : Int)]) (t := 33) (fr := (0, 0)) (by exact heap_alloc_new W3 _)) (itCells_one _)
                  (by omega) (by simp only [maxLen]; omega) (by omega) (by simp; omega) (W3.heap.size + 1) (by simp) ?_; intro gg cap w5 hown5 hgrow5 hat5 hlt5))
          all_goals
            have hk5 : Kept (fun t => t = 33) w.heap.size W3 w5 := (((Kept.refl _ _ W3).alloc (.cells #[.string sk, .int .i64 (k : Int)] 33)).drew).trans ((Kept.refl _ _ _).grown hgrow5 (by exact HO.out.alloc _) (Nat.le_refl _) rfl)
            have hga : ∃ cs : Array Value, w5.heap[w.heap.size]? = some (.cells cs 3 (0, 0)) ∧ cs.size = L.length ∧ ∀ i, i < L.length → cs[i]? = some (.int .i64 (f i : Int)) := by
              obtain ⟨cs, q1, q2, q3⟩ := HF3.out.at_
              exact ⟨cs, hk5.blk q1 (by decide), q2, q3⟩
            have hc5 : w5.cell? ⟨w.heap.size, k, none⟩ = some (.int .i64 (f k : Int)) ∧ w5.frozen? ⟨w.heap.size, k, none⟩ = false := by
              obtain ⟨cs, q1, q2, q3⟩ := hga
              exact ⟨(cell_of_blk q1 k).trans (q3 k hk), free_of_blk q1 k⟩
            obtain ⟨c5, f5⟩ := hc5
            have hb5 : Below w.heap.size w w5 := HF3.out.below.trans (hk5.below HF3.out.below.size)
            obtain ⟨f', hlt', hin'⟩ := In4.next (w6 := w5.setCell ⟨w.heap.size, k, none⟩ (.int .i64 ((f k : Int) + 1))) HR.out HF3.out.fit HF3.out.mrg H2.out.1 H2.out.2.1 H2.out.2.2 hga hown5 hb5 (Nat.le_refl _) rfl
            have HN := Lib.hid hin'
            clear hk5 hga hb5 hin' hown5 hgrow5 hat5 hlt5 HF3 HO H2
            go_wp2_with fail
            go_roundg ((remF f' 0 L).length)
            case measure => omega
            case rel => exact ⟨f', _, Nat.le_refl _, HN⟩
end Go.Proofs.Ytdibdbadoigfoaa.heap
