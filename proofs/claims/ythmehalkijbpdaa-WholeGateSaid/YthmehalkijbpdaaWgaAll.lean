/- WholeGate: what is kept, act by act; the law's own function. No condition. -/
import Derived.Test.YthmehalkijbpdaaWgaMem
namespace Go.Proofs.Ythmehalkijbpdaa.wga
set_option maxRecDepth 100000
open Go.RowKit Go.Proofs.Ythmehalkijbpdaa.words Go.Proofs.Ythmehalkijbpdaa.lru Go.Proofs.Ythmehalkijbpdaa.mpi Go.Proofs.Ythmehalkijbpdaa.gat Go.Proofs.Ythmehalkijbpdaa.cur

/-- The numbers that were seen, as pairs. -/
def sR (k : Nat) : List Pr := (up 1 k).map fun x => (x, .agg #[])
theorem sR_len (k : Nat) : (sR k).length = k := by unfold sR; rw [List.length_map, up_len]
theorem sR_snoc (k : Nat) : sR (k + 1) = sR k ++ [((k : Int) + 1, .agg #[])] := by
  unfold sR
  rw [up_snoc, List.map_append, Int.add_comm 1]
  rfl
theorem sR_none (k : Nat) : valP (sR k) ((k : Int) + 1) = none := valP_none.2 fun p hp => by
  unfold sR at hp
  obtain ⟨x, hx, rfl⟩ := List.mem_map.1 hp
  have := up_mem.1 hx
  show x ≠ (k : Int) + 1
  omega
/-- All that the law keeps. V: what the row holds. -/
structure Al (w : World) (g t m ms bt bs j : Nat) (wr : World) (v1 v2 : Value) (b off c : Nat) (R : List Int) (o : Option Int) (W V : List Int) (q : Int) (k : Nat) : Prop where
  gt : Gt wr w.heap.size g v1 v2 R o W q
  tb : ∃ L, Tb wr w.heap.size t m 1024 (k : Int) L ∧ keysC L = up 1 k
  mp : MapL wr Try.prog 3 ms (sR k)
  hbt : wr.heap[bt]? = some (.cells #[.pointer (some ⟨t, 0, none⟩)] 41 (0, 0))
  hbs : wr.heap[bs]? = some (.cells #[.map (some ms)] 60 (0, 0))
  row : OffAt wr w.heap.size b off c V
  below : Below w.heap.size w wr
  lms : w.heap.size ≤ ms
  ap1 : ∀ i, Its g v1 v2 i → ¬ Bk t m i ∧ i ≠ ms
  ap2 : ¬ Bk t m ms
  rg : ∀ x ∈ R, 0 ≤ x ∧ x < 8
  og : ∀ x, o = some x → 0 ≤ x ∧ x < 8
  wg : ∀ x ∈ W, 0 ≤ x ∧ x < 8
  q0 : 0 ≤ q
  ql : q + (W.length : Int) ≤ (j : Int)
  rl : R.length ≤ j
  kj : k ≤ j
section
variable {w wr w' : World} {g t m ms bt bs j j' : Nat} {v1 v2 : Value} {b off c : Nat} {R R' W W' V : List Int} {o o' : Option Int} {q q' : Int} {k : Nat}
theorem Al.quiet (h : Al w g t m ms bt bs j wr v1 v2 b off c R o W V q k) (hb : Below wr.heap.size wr w') : Al w g t m ms bt bs j w' v1 v2 b off c R o W V q k := by
  obtain ⟨L, h1, h2⟩ := h.tb
  exact ⟨h.gt.later hb, ⟨L, h1.later hb, h2⟩, h.mp.of_block (hb.block ms h.mp.lt), (hb.block _ (lt_of_some h.hbt)).trans h.hbt, (hb.block _ (lt_of_some h.hbs)).trans h.hbs, h.row.later hb, h.below.trans (hb.mono h.below.size), h.lms, h.ap1, h.ap2, h.rg, h.og, h.wg, h.q0, h.ql, h.rl, h.kj⟩
theorem Al.le (h : Al w g t m ms bt bs j wr v1 v2 b off c R o W V q k) (hj : j ≤ j') : Al w g t m ms bt bs j' wr v1 v2 b off c R o W V q k :=
  ⟨h.gt, h.tb, h.mp, h.hbt, h.hbs, h.row, h.below, h.lms, h.ap1, h.ap2, h.rg, h.og, h.wg, h.q0, by have := h.ql; omega, by have := h.rl; omega, by have := h.kj; omega⟩
/-- Behind a gate's call. -/
theorem Al.gate (h : Al w g t m ms bt bs j wr v1 v2 b off c R o W V q k) (hl : gat.Left wr w.heap.size g v1 v2 R' o' W' q' w') (hrg : ∀ x ∈ R', 0 ≤ x ∧ x < 8) (hog : ∀ x, o' = some x → 0 ≤ x ∧ x < 8) (hwg : ∀ x ∈ W', 0 ≤ x ∧ x < 8) (hq : 0 ≤ q') (hql : q' + (W'.length : Int) ≤ (j' : Int)) (hrl : R'.length ≤ j') (hj : j ≤ j') :
    ∃ u1 u2, Al w g t m ms bt bs j' w' u1 u2 b off c R' o' W' V q' k := by
  obtain ⟨⟨u1, u2, hg, hu⟩, ht⟩ := hl
  obtain ⟨L, h1, h2⟩ := h.tb
  obtain ⟨cur, hr1, _⟩ := h.row.row
  refine ⟨u1, u2, hg, ⟨L, h1.tn ht fun i hi hk => (h.ap1 i hk).1 hi, h2⟩, h.mp.of_block (ht.block ms h.mp.lt fun hk => (h.ap1 ms hk).2 rfl), ?_, ?_, h.row.tn ht fun hk => absurd (h.gt.type hk hr1) (by decide), h.below.trans (ht.below (fun i hi => (h.gt.lt i hi).1) h.below.size), h.lms, fun i hi => ?_, h.ap2, hrg, hog, hwg, hq, hql, hrl, Nat.le_trans h.kj hj⟩
  · exact (ht.block _ (lt_of_some h.hbt) fun hk => absurd (h.gt.type hk h.hbt) (by decide)).trans h.hbt
  · exact (ht.block _ (lt_of_some h.hbs) fun hk => absurd (h.gt.type hk h.hbs) (by decide)).trans h.hbs
  · rcases hu i hi with hi | hi
    · exact h.ap1 i hi
    · refine ⟨fun hb => ?_, fun e => ?_⟩
      · have := (h1.lt i hb).2; omega
      · have := h.mp.lt; omega
/-- Behind the closure. -/
theorem Al.seen (h : Al w g t m ms bt bs j wr v1 v2 b off c R o W V q k) {L : Cs} (h1 : Tb w' w.heap.size t m 1024 ((k + 1 : Nat) : Int) L) (h2 : keysC L = up 1 (k + 1)) (h3 : MapL w' Try.prog 3 ms (sR (k + 1))) (ht : Tn (fun i => Bk t m i ∨ i = ms) wr w') (hj : k + 1 ≤ j) :
    Al w g t m ms bt bs j w' v1 v2 b off c R o W V q (k + 1) := by
  obtain ⟨L0, t1, _⟩ := h.tb
  obtain ⟨cur, hr1, _⟩ := h.row.row
  have hno : ∀ {i : Nat} {cs : Array Value} {ty : TypeId} {f : Nat × Nat}, wr.heap[i]? = some (.cells cs ty f) → ty ≠ 69 → ¬ (Bk t m i ∨ i = ms) := fun hc hty hk => by
    rcases hk with hk | hk
    · exact hty (t1.type hk hc)
    · subst hk
      exact h.mp.not _ _ _ hc
  refine ⟨h.gt.tn ht fun i hi hk => ?_, ⟨L, h1, h2⟩, h3, (ht.block _ (lt_of_some h.hbt) (hno h.hbt (by decide))).trans h.hbt, (ht.block _ (lt_of_some h.hbs) (hno h.hbs (by decide))).trans h.hbs, h.row.tn ht (hno hr1 (by decide)), h.below.trans (ht.below (fun i hi => ?_) h.below.size), h.lms, h.ap1, h.ap2, h.rg, h.og, h.wg, h.q0, h.ql, h.rl, hj⟩
  · rcases hk with hk | hk
    · exact (h.ap1 i hi).1 hk
    · exact (h.ap1 i hi).2 hk
  · rcases hi with hi | hi
    · exact (t1.lt i hi).1
    · rw [hi]; exact h.lms
/-- Another row. -/
theorem Al.rows {b' off' c' : Nat} {V' : List Int} (h : Al w g t m ms bt bs j wr v1 v2 b off c R o W V q k) (hr : OffAt w' w.heap.size b' off' c' V') (ht : Tn (fun i => i = b) wr w') : Al w g t m ms bt bs j w' v1 v2 b' off' c' R o W V' q k := by
  obtain ⟨L, t1, t2⟩ := h.tb
  obtain ⟨cur, hr1, _⟩ := h.row.row
  refine ⟨h.gt.tn ht fun i hi e => ?_, ⟨L, t1.tn ht fun i hi e => ?_, t2⟩, h.mp.of_block (ht.block ms h.mp.lt fun e => ?_), (ht.block _ (lt_of_some h.hbt) fun e => ?_).trans h.hbt, (ht.block _ (lt_of_some h.hbs) fun e => ?_).trans h.hbs, hr, h.below.trans (ht.below (fun i e => by rw [e]; exact h.row.lo) h.below.size), h.lms, h.ap1, h.ap2, h.rg, h.og, h.wg, h.q0, h.ql, h.rl, h.kj⟩
  · subst e; exact absurd (h.gt.type hi hr1) (by decide)
  · subst e; exact absurd (t1.type hi hr1) (by decide)
  · exact h.mp.not _ _ _ (e ▸ hr1)
  · have h9 := h.hbt; rw [e, hr1] at h9; injection h9 with h9; injection h9 with _ h9; exact absurd h9 (by decide)
  · have h9 := h.hbs; rw [e, hr1] at h9; injection h9 with h9; injection h9 with _ h9; exact absurd h9 (by decide)
end
theorem zeroU (w : World) : (zeroValue 61).run Try.prog w = .ok (.agg #[]) w := by kernel_rfl
def SeenIn (w : World) (g t m ms bt bs j : Nat) (v1 v2 : Value) (b off c : Nat) (R : List Int) (o : Option Int) (W V : List Int) (q : Int) (k : Nat) (e : Ending) (w' : World) : Prop := e = .returned (.bool true) ∧ Al w g t m ms bt bs j w' v1 v2 b off c R o W V q (k + 1)
set_option maxHeartbeats 1600000 in
theorem clos_any (x : Int) (w wr : World) (g t m ms bt bs j : Nat) (v1 v2 : Value) (b off c : Nat) (R : List Int) (o : Option Int) (W V : List Int) (q : Int) (k : Nat) (h : Al w g t m ms bt bs j wr v1 v2 b off c R o W V q k) (hk : k ≤ 900) (hj : k + 1 ≤ j) :
    Calls Try.prog 28 #[.int .i64 x, .pointer (some ⟨bt, 0, none⟩), .pointer (some ⟨bs, 0, none⟩)] wr (SeenIn w g t m ms bt bs j v1 v2 b off c R o W V q k) := by
  obtain ⟨L, t1, t2⟩ := h.tb
  have hlen : L.length = k := by rw [← keys_len, t2, up_len]
  have HP := Lib.hid (cur.open_yes w.heap.size t m 1024 (k : Int) L wr x ⟨#[47]⟩ t1 (by omega) (by omega) (by omega) (by omega) (keys_no (by rw [t2, up_mem]; omega)))
  have c0 := cell_of_blk h.hbt 0
  have H := Lib.hid h
  have HT1 := Lib.hid t1
  have HT2 := Lib.hid t2
  obtain ⟨n1, hn1⟩ : ∃ n1 : Int, n1 = (k : Int) + 1 := ⟨_, rfl⟩
  have HN1 := Lib.hid hn1
  unfold OpenIn at HP
  rw [← hn1] at HP
  have HFN : Hid (Fits n1) := Lib.hid (fits_of (by omega) (by omega))
  have HNO : Hid (valP (sR k) n1 = none) := Lib.hid (by rw [hn1]; exact sR_none k)
  have HLL : Hid ((sR k).length < maxLen) := Lib.hid (by rw [sR_len]; simp only [maxLen]; omega)
  clear h t1 t2 hn1 hlen
  go_enter Try.func28, Try.ntmps28
  go_wp2_with fail
  refine HP.out.mono ?_
  rintro e w1 ⟨rfl, hk1⟩
  have HK1 := Lib.hid hk1
  have hnb : ∀ {i : Nat} {cs : Array Value} {ty : TypeId}, wr.heap[i]? = some (.cells cs ty (0, 0)) → ty ≠ 69 → w1.heap[i]? = some (.cells cs ty (0, 0)) := fun hc hty => (hk1.tn.block _ (lt_of_some hc) (fun hi => hty (HT1.out.type hi hc))).trans hc
  have hbs1 := hnb H.out.hbs (by decide)
  have hm1 := H.out.mp.of_block (hk1.tn.block ms H.out.mp.lt fun hi => H.out.ap2 hi)
  have d0 := cell_of_blk hbs1 0
  have hlk := hm1.look_ok Try.underlying3 Try.underlying60 (zeroU w1) HFN.out
  rw [HNO.out] at hlk
  replace hlk : (Instr.lookup 60 (.map (some ms)) (.int .i64 n1) true).run Try.prog w1 = .ok (.tuple #[.agg #[], .bool false]) w1 := hlk
  obtain ⟨W2, hW2⟩ : ∃ W2, W2 = w1.alloc (.cells #[] 61) := ⟨_, rfl⟩
  have hb2 : Below w1.heap.size w1 W2 := by rw [hW2]; exact (Below.refl _ _).alloc (Nat.le_refl _) _
  have hbs2 := (hb2.block _ (lt_of_some hbs1)).trans hbs1
  have hm2 := hm1.of_block (hb2.block ms hm1.lt)
  have d2 := cell_of_blk hbs2 0
  have HM2 := Lib.hid hm2
  have HTB2 := Lib.hid (hk1.tb.later hb2)
  have HTN2 : Hid (Tn (fun i => Bk t m i ∨ i = ms) wr W2) := Lib.hid ((hk1.tn.mono fun i hi => .inl hi).trans (Tn.of_below hb2 _))
  have HW2 := Lib.hid hW2
  clear hk1 hbs1 hm1 hb2 hbs2 hm2 hW2 HP c0
  go_upto_region 3 with fail
  rw [← HW2.out]
  clear d0 hlk
  go_wp2_with (at_mapUpdate; refine wpList_new rfl _ _ _ 60 rfl 3 61 Try.underlying3 Try.underlying60 ms (sR k) rfl HM2.out HLL.out n1 (.agg #[]) rfl rfl HFN.out HNO.out ?_; intro w3 hm3 ht3; have HM3 := Lib.hid hm3; have HT3 := Lib.hid ht3; clear hm3 ht3)
  have htb3 := HTB2.out.tn HT3.out (fun i hi e => H.out.ap2 (e ▸ hi))
  have HE : Hid (SeenIn w g t m ms bt bs j v1 v2 b off c R o W V q k (.returned (.bool true)) w3) := Lib.hid ⟨rfl, H.out.seen (L := L ++ [((k : Int) + 1, ⟨x, ⟨#[47]⟩, 0⟩)]) (by
    have h := htb3
    rw [HN1.out] at h
    push_cast
    exact h) (by rw [keys_snoc, HT2.out, up_snoc, Int.add_comm 1]) (by rw [sR_snoc, ← HN1.out]; exact HM3.out) (HTN2.out.trans (HT3.out.mono fun i hi => .inr hi)) hj⟩
  clear htb3 HM3 HT3
  go_wp2
  go_ret
  exact HE.out
end Go.Proofs.Ythmehalkijbpdaa.wga
