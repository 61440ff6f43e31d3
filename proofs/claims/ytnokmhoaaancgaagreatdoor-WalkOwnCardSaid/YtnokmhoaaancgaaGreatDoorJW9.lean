/- What heap.Merge answers: all names of rows that rise, sorted, in a row of its own. Condition: the rows lie in memory. -/
import Derived.Test.YtnokmhoaaancgaaGreatDoorJW8
import Derived.Deep.LoopGhost
namespace Go.Proofs.YtnokmhoaaancgaaGreatDoor.heap
set_option maxRecDepth 100000
open Go.RowKit Go.Proofs.YtnokmhoaaancgaaGreatDoor.words
open scoped List

/-- Rows of texts, as the slice with address A has them. -/
def Rws (w : World) (B : Nat) (A : Option Addr) (L : List (List ByteArray)) : Prop :=
  ∀ i l, L[i]? = some l → ∃ b off Ai ci, A = some ⟨b, off, none⟩ ∧ b < B ∧ w.cell? ⟨b, off + i, none⟩ = some (.slice Ai l.length ci) ∧ Row w B Ai l ∧ l.length ≤ ci ∧ ci ≤ maxLen
def itCells (x : It) : List Value := [.string x.1, .int .i64 (x.2 : Int)]
def tot (L : List (List ByteArray)) : Nat := (allF L).length
theorem itCells_one (x : It) : ∀ u ∈ itCells x, u.oneCell' = true := fun u hu => by
  simp only [itCells, List.mem_cons, List.mem_nil_iff, or_false] at hu
  rcases hu with rfl | rfl <;> rfl
theorem its_length (K : List Hd) : K.length ≤ (K.flatMap Hd.its).length := by
  induction K with
  | nil => exact Nat.le_refl _
  | cons h K ih =>
    rw [List.flatMap_cons, List.length_append, List.length_cons]
    have : 1 ≤ h.its.length := by simp [Hd.its]
    omega
/-- Other blocks may turn. -/
theorem Heaps.other {S : TypeId → Prop} {w w' : World} {B B' g : Nat} {K : List Hd} (h : Heaps w B g K) (hk : Kept S B' w w') (h1 : ¬ S 181) (h2 : ¬ S 178) : Heaps w' B g K := by
  obtain ⟨hB, v, hb, ho⟩ := h
  exact ⟨hB, v, hk.blk hb h1, hk.own ho h2⟩
theorem leH_its {x h : Hd} (hl : ¬ ltH h x) (hr : Ris (h.s :: h.t)) : ∀ y ∈ h.its, leI x.it y := fun y hy => by
  rcases List.mem_cons.1 hy with rfl | hy
  · exact hl
  · obtain ⟨s, hs, rfl⟩ := List.mem_map.1 hy
    refine leI_trans hl fun hc => ?_
    have h1 := (List.pairwise_cons.1 hr).1 s hs
    rcases hc with hc | ⟨hc, _⟩
    · have hc2 : ltB s h.s = true := hc
      rw [ltB_asym h1] at hc2; cases hc2
    · have hc' : s = h.s := hc
      rw [hc', ltB_self] at h1; cases h1

/-- Behind the first loop's k-th round. -/
structure In1 (w : World) (g : Nat) (L : List (List ByteArray)) (k : Nat) (K : List Hd) (wr : World) : Prop where
  hs : Heaps wr w.heap.size g K
  hp : Hp ltH K K.length
  tails : Tails w w.heap.size K
  all : K.flatMap Hd.its ~ allF (L.take k)
  len : K.length ≤ k
  below : Below w.heap.size w wr
/-- The second loop. -/
structure In2 (w : World) (g : Nat) (L : List (List ByteArray)) (K : List Hd) (out : List It) (v : Value) (wr : World) : Prop where
  hs : Heaps wr w.heap.size g K
  hp : Hp ltH K K.length
  tails : Tails w w.heap.size K
  mrg : Mrg (allF L) out (K.flatMap Hd.its)
  len : K.length ≤ L.length
  own : wr.ownsRow w.heap.size 161 2 v out.length (out.flatMap itCells)
  below : Below w.heap.size w wr
def MergedIn (w : World) (L : List (List ByteArray)) (e : Ending) (w' : World) : Prop :=
  ∃ v out, e = .returned v ∧ w'.ownsRow w.heap.size 161 2 v out.length (out.flatMap itCells) ∧ Merged L out ∧ Below w.heap.size w w'
theorem In1.next {w wr w2 : World} {g k : Nat} {L : List (List ByteArray)} {K : List Hd} {N : List ByteArray} (h : In1 w g L k K wr) (hN : L[k]? = some N) (hp : PutIn w w.heap.size g k N K wr w2) : ∃ K', In1 w g L (k + 1) K' w2 := by
  obtain ⟨E, e1, e2, e3, K', q1, q2, q3, q4⟩ := hp
  obtain ⟨hk, hkN⟩ := List.getElem?_eq_some_iff.1 hN
  refine ⟨K', q1, q3, fun x hx => ?_, ?_, ?_, h.below.trans (q4.below h.below.size)⟩
  · rcases List.mem_append.1 (q2.subset hx) with hx | hx
    · exact h.tails x hx
    · exact e3 x hx
  · refine (List.Perm.flatMap_right _ q2).trans ?_
    rw [List.flatMap_append, e1, List.take_succ_eq_append_getElem hk, hkN, allF_snoc, List.length_take, Nat.min_eq_left (Nat.le_of_lt hk)]
    exact h.all.append_right _
  · rw [q2.length_eq, List.length_append]
    have := h.len
    omega
theorem In1.done {w wr : World} {g : Nat} {L : List (List ByteArray)} {K : List Hd} (h : In1 w g L L.length K wr) : In2 w g L K [] (.slice none 0 0) wr :=
  ⟨h.hs, h.hp, h.tails, Mrg.start (by have := h.all; rwa [List.take_length] at this), h.len, World.ownsRow_nil _ _ _ _, h.below⟩
theorem In2.fin {w wr : World} {g : Nat} {L : List (List ByteArray)} {out : List It} {v : Value} (h : In2 w g L [] out v wr) : MergedIn w L (.returned v) wr :=
  ⟨v, out, rfl, h.own, h.mrg.done, h.below⟩
theorem In2.size {w wr : World} {g : Nat} {L : List (List ByteArray)} {K : List Hd} {out : List It} {v : Value} (h : In2 w g L K out v wr) : out.length + (K.flatMap Hd.its).length = tot L := by
  have := h.mrg.perm.length_eq
  rw [List.length_append] at this
  exact this
/-- A round of the second loop. -/
theorem In2.next {w wr w2 w5 w6 : World} {g : Nat} {L : List (List ByteArray)} {K K2 : List Hd} {out : List It} {v v' : Value} {x : Hd} (h : In2 w g L K out v wr) (hpop : PopIn w.heap.size g K wr x K2 w2) (h5 : Below w.heap.size w w5)
    (hput : PutIn w w.heap.size g x.r x.t K2 w5 w6) (ho : w5.ownsRow w.heap.size 161 2 v' (out.length + 1) (out.flatMap itCells ++ itCells x.it)) :
    ∃ K', (K'.flatMap Hd.its).length < (K.flatMap Hd.its).length ∧ In2 w g L K' (out ++ [x.it]) v' w6 := by
  obtain ⟨E, e1, e2, e3, K', q1, q2, q3, q4⟩ := hput
  have hxK : x ∈ K := hpop.perm.symm.subset (List.mem_cons_self ..)
  have hits : K'.flatMap Hd.its ~ x.t.map (fun s => (s, x.r)) ++ K2.flatMap Hd.its := by
    refine (List.Perm.flatMap_right _ q2).trans ?_
    rw [List.flatMap_append, e1]
    exact List.perm_append_comm
  have hold : K.flatMap Hd.its ~ x.it :: K'.flatMap Hd.its := by
    refine (List.Perm.flatMap_right _ hpop.perm).trans ?_
    rw [List.flatMap_cons]
    exact List.Perm.cons _ hits.symm
  refine ⟨K', ?_, q1, q3, fun y hy => ?_, h.mrg.next hold fun y hy => ?_, ?_, ?_, h5.trans (q4.below h5.size)⟩
  · rw [hold.length_eq, List.length_cons]; omega
  · rcases List.mem_append.1 (q2.subset hy) with hy | hy
    · exact h.tails y (hpop.perm.symm.subset (List.mem_cons_of_mem _ hy))
    · exact e3 y hy
  · obtain ⟨k, hk, hyk⟩ := List.mem_flatMap.1 hy
    exact leH_its (hpop.least k hk) (h.tails k hk).2.2.2 y hyk
  · have := h.len
    have := hpop.perm.length_eq
    rw [q2.length_eq, List.length_append]
    rw [List.length_cons] at this
    omega
  · rw [List.length_append, List.flatMap_append, List.flatMap_singleton]
    exact q4.own ho (by unfold HS; decide)
theorem infoItem : (Tryz.prog.info? 161).map (fun i => (i.zero, i.size, i.bytes)) = some (some (.agg #[.string ⟨#[]⟩, .int .i64 0]), 2, 24) := by kernel_rfl

set_option maxHeartbeats 6400000 in
theorem merge_any (A : Option Addr) (c : Nat) (L : List (List ByteArray)) (w : World) (hL : Rws w w.heap.size A L) (hr : ∀ l ∈ L, Ris l) (hlen : L.length ≤ 10000) (htot : tot L ≤ 1000000000) :
    Calls Tryz.prog 98 #[.slice A L.length c] w (MergedIn w L) := by
  obtain ⟨i1, hi', hw0, hw1, hw2⟩ := info_three infoItem
  obtain ⟨W1, hW1⟩ : ∃ W1, W1 = w.alloc (.cells #[.slice none 0 0, fnV] 181) := ⟨_, rfl⟩
  have hb1 : Below w.heap.size w W1 := by rw [hW1]; exact (Below.refl _ _).alloc (Nat.le_refl _) _
  have hs1 : Heaps W1 w.heap.size w.heap.size [] := ⟨Nat.le_refl _, _, by rw [hW1]; exact heap_alloc_new w _, World.ownsRow_nil _ _ _ _⟩
  have HI1 : Hid (In1 w w.heap.size L 0 [] W1) := Lib.hid ⟨hs1, Hp.zero _, fun h hh => (by cases hh), by rw [List.take_zero]; exact List.Perm.refl _, Nat.le_refl _, hb1⟩
  have hty : ∀ (x : Hd) (w' : World), Sem.run Tryz.prog (Instr.typeAssert (.iface 178 (.agg #[.string x.s, .int .i64 (x.r : Int), .slice x.A x.t.length x.c])) 20 178 false) w' = .ok (.agg #[.string x.s, .int .i64 (x.r : Int), .slice x.A x.t.length x.c]) w' := fun _ _ => by kernel_rfl
  have HL := Lib.hid hL
  have HR := Lib.hid hr
  unfold fnV at hW1
  have HW1 := Lib.hid hW1
  clear hL hr hb1 hs1 hW1
  go_enter Tryz.func98, Tryz.ntmps98
  go_upto_region 2 with fail
  rw [← HW1.out]
  go_wp2_with fail
  go_loopw [12] (fun v wr => ∃ (k : Nat) (K : List Hd), v = .int .i64 (k : Int) ∧ k ≤ L.length ∧ Hid (In1 w w.heap.size L k K wr)) (fun v _ => L.length - (intOf v).toNat)
  case atStart => exact ⟨0, [], rfl, Nat.zero_le _, HI1⟩
  case round =>
    obtain ⟨k, K, rfl, hk, HI⟩ := hrel
    by_cases hlt : k < L.length
    · obtain ⟨N, hN⟩ : ∃ N, L[k]? = some N := ⟨_, List.getElem?_eq_getElem hlt⟩
      obtain ⟨b, off, Ai, ci, hA, hb, c0, hrow, hci, hcm⟩ := HL.out k N hN
      have cw : wr.cell? ⟨b, off + k, none⟩ = some (.slice Ai N.length ci) := (HI.out.below.cell (p := ⟨b, off + k, none⟩) hb).trans c0
      have i0 : (0 : Int) ≤ (k : Int) := by omega
      have i1 : (k : Int) < (L.length : Int) := by omega
      have HC := Lib.hid (put_any w w.heap.size w.heap.size k ci Ai N K wr hrow hci hcm (HR.out N (List.mem_of_getElem? hN)) HI.out.below HI.out.hs HI.out.below.size HI.out.hp (by have := HI.out.len; omega))
      have HN := Lib.hid hN
      subst hA
      clear hN hrow c0
      go_wp2_with fail
      refine HC.out.mono ?_
      rintro e w2 ⟨⟨u, rfl⟩, hp2⟩
      obtain ⟨K', hK'⟩ := HI.out.next HN.out hp2
      have HK' := Lib.hid hK'
      clear hK' hp2 HC HI
      go_wp2_with fail
      go_roundw
      case rel => exact ⟨k + 1, K', by go_num, by omega, HK'⟩
      case measure => simp [intOf]; omega
    · obtain rfl : k = L.length := by omega
      have HI2 := Lib.hid HI.out.done
      clear HI
      have hu := HI2.out.size
      rw [List.length_nil, Nat.zero_add] at hu
      go_wp2_with fail
      rename World => wo
      go_loopg [6] (tot L) (fun m s6 wr => ∃ (K : List Hd) (out : List It), (K.flatMap Hd.its).length ≤ m ∧ Hid (In2 w w.heap.size L K out s6 wr))
      case atStart => exact ⟨K, [], Nat.le_of_eq hu, HI2⟩
      case round =>
        obtain ⟨K2, out, hm, HI⟩ := hrel
        have HLn := Lib.hid (hlen_any w.heap.size w.heap.size K2 wr HI.out.hs)
        rcases hK2 : K2.length with _ | n
        · have hnil := List.eq_nil_of_length_eq_zero hK2
          subst hnil
          have HLn := Lib.hid (show Calls Tryz.prog 117 #[.pointer (some ⟨w.heap.size, 0, none⟩)] wr fun e w' => e = .returned (.int .i64 0) ∧ wr = w' from HLn.out)
          have HF := Lib.hid HI.out.fin
          clear HI hK2
          go_wp2_with fail
          refine HLn.out.mono ?_
          rintro e w2 ⟨rfl, rfl⟩
          go_wp2_with fail
          go_ret
          exact HF.out
        · have HLn := Lib.hid (show Calls Tryz.prog 117 #[.pointer (some ⟨w.heap.size, 0, none⟩)] wr fun e w' => e = .returned (.int .i64 ((n : Int) + 1)) ∧ wr = w' from (hlen_any w.heap.size w.heap.size K2 wr HI.out.hs).mono fun e w' ⟨h1, h2⟩ => ⟨by rw [h1, hK2]; rfl, h2⟩)
          have hks := HI.out.len
          have HP := Lib.hid (hpop_heap w.heap.size w.heap.size n K2 wr HI.out.hs hK2 HI.out.hp (by omega))
          have n0 : (0 : Int) < (n : Int) + 1 := by omega
          clear hK2
          go_wp2_with fail
          refine HLn.out.mono ?_
          rintro e w2 ⟨rfl, rfl⟩
          clear HLn
          go_wp2_with fail
          refine HP.out.mono ?_
          rintro e w2 ⟨x, K3, rfl, hpop⟩
          have hx1 := hty x
          obtain ⟨W3, hW3⟩ : ∃ W3, W3 = w2.alloc (.cells #[.string x.s, .int .i64 (x.r : Int), .slice x.A x.t.length x.c] 178) := ⟨_, rfl⟩
          have hb23 : Below w2.heap.size w2 W3 := by rw [hW3]; exact (Below.refl _ _).alloc (Nat.le_refl _) _
          have hx3 : W3.heap[w2.heap.size]? = some (.cells #[.string x.s, .int .i64 (x.r : Int), .slice x.A x.t.length x.c] 178 (0, 0)) := by rw [hW3]; exact heap_alloc_new w2 _
          have c0 : W3.cell? ⟨w2.heap.size, 0, none⟩ = some (.string x.s) := cell_of_blk hx3 0
          have c1 : W3.cell? ⟨w2.heap.size, 1, none⟩ = some (.int .i64 (x.r : Int)) := cell_of_blk hx3 1
          have hbw2 : Below w.heap.size w w2 := HI.out.below.trans (hpop.kept.below HI.out.below.size)
          have hbw3 : Below w.heap.size w W3 := hbw2.trans (hb23.mono hbw2.size)
          have ho3 : W3.ownsRow w.heap.size 161 2 u6 out.length (out.flatMap itCells) := (Kept.of_below hb23 (fun _ => False) 0).own (hpop.kept.own HI.out.own (by unfold HS; decide)) (by simp)
          have hol : out.length ≤ tot L := by have := HI.out.size; omega
          have hs3 := hpop.hs.later hb23
          have HS3 := Lib.hid hs3
          have HX3 := Lib.hid hx3
          have HO3 := Lib.hid ho3
          have HB3 := Lib.hid hbw3
          have HPop := Lib.hid hpop
          have HW3 := Lib.hid hW3
          have HZ := Lib.hid (show w.heap.size ≤ W3.heap.size from hbw3.size)
          clear hs3 hx3 ho3 hbw3 hbw2 hb23 hW3 hpop HP
          unfold hdV
          go_upto_region 10 with fail
          rw [← HW3.out]
          clear hx1
          go_upto_region 11 with (at_builtin; refine wpList_append_lies _ rfl (.tmp 29) (.tmp 32) _ rfl w.heap.size 161 i1 _ 2 24 Tryz.underlying157 hi' hw0 hw1 hw2 rfl (by omega) _ _ _ rfl (HO3.out.alloc _) ⟨W3.heap.size, 0, none⟩ 1 1 (itCells x.it) rfl rfl (World.news_of_block (cs := #[.string x.s, .int .i64 (x.r : Int)]) (t := 161) (fr := (0, 0)) (heap_alloc_new W3 _)) (itCells_one _) (by omega) (by simp only [maxLen]; omega) (by omega) (by have := HZ.out; simp at this ⊢; omega) (W3.heap.size + 1) (by simp) ?_; intro gg gc w5 hown5 hgrow5 hat5 hlt5)
          have hk5 : Kept (fun t => t = 161) w.heap.size (W3.alloc (.cells #[.string x.s, .int .i64 (x.r : Int)] 161)) w5 := (Kept.refl _ _ _).grown hgrow5 (HO3.out.alloc _) (Nat.le_refl _) rfl
          have hb34 : Below W3.heap.size W3 (W3.alloc (.cells #[.string x.s, .int .i64 (x.r : Int)] 161)) := (Below.refl _ _).alloc (Nat.le_refl _) _
          have hx5 : w5.heap[w2.heap.size]? = some (.cells #[.string x.s, .int .i64 (x.r : Int), .slice x.A x.t.length x.c] 178 (0, 0)) := hk5.blk ((hb34.block _ (lt_of_some HX3.out)).trans HX3.out) (by decide)
          have d1 : w5.cell? ⟨w2.heap.size, 1, none⟩ = some (.int .i64 (x.r : Int)) := cell_of_blk hx5 1
          have d2 : w5.cell? ⟨w2.heap.size, 2, none⟩ = some (.slice x.A x.t.length x.c) := cell_of_blk hx5 2
          have hbw4 := HB3.out.trans (hb34.mono HB3.out.size)
          have hbw5 : Below w.heap.size w w5 := hbw4.trans (hk5.below hbw4.size)
          have hs5 : Heaps w5 w.heap.size w.heap.size K3 := (HS3.out.later hb34).other hk5 (by decide) (by decide)
          have ht := HI.out.tails x (HPop.out.perm.symm.subset (List.mem_cons_self ..))
          have hlen3 := HPop.out.perm.length_eq
          rw [List.length_cons] at hlen3
          have HC := Lib.hid (put_any w w.heap.size w.heap.size x.r x.c x.A x.t K3 w5 ht.1 ht.2.1 ht.2.2.1 (List.pairwise_cons.1 ht.2.2.2).2 hbw5 hs5 hbw5.size HPop.out.hp (by omega))
          have HN := Lib.hid (fun w6 (h6 : PutIn w w.heap.size w.heap.size x.r x.t K3 w5 w6) => HI.out.next HPop.out hbw5 h6 hown5)
          clear hk5 hb34 hx5 hbw4 hbw5 hs5 ht hlen3 hown5 hgrow5 hat5 c0 c1 HS3 HX3 HO3 HB3 HPop HZ
          go_wp2_with fail
          refine HC.out.mono ?_
          rintro e w6 ⟨⟨u, rfl⟩, h6⟩
          obtain ⟨K', hlt', hin'⟩ := HN.out w6 h6
          have HK' := Lib.hid hin'
          clear h6 hin' HC HN HI
          go_wp2_with fail
          go_roundg ((K'.flatMap Hd.its).length)
          case measure => omega
          case rel => exact ⟨K', _, Nat.le_refl _, HK'⟩
end Go.Proofs.YtnokmhoaaancgaaGreatDoor.heap
