/- What heap.First answers: the first one of each name, in a row of its own. Condition: the items lie in memory. -/
import Derived.Test.YtnokmhoaaancgaaGreatDoorJW9
namespace Go.Proofs.YtnokmhoaaancgaaGreatDoor.heap
set_option maxRecDepth 100000
open Go.RowKit Go.Proofs.YtnokmhoaaancgaaGreatDoor.words

/-- The name that came last. -/
def lastN : Option ByteArray → List It → Option ByteArray
  | p, [] => p
  | _, y :: l => lastN (some y.1) l
theorem lastN_snoc : ∀ (l : List It) (p : Option ByteArray) (y : It), lastN p (l ++ [y]) = some y.1
  | [], _, _ => rfl
  | z :: l, _, y => lastN_snoc l (some z.1) y
theorem firstF_append : ∀ (l : List It) (p : Option ByteArray) (r : List It), firstF p (l ++ r) = firstF p l ++ firstF (lastN p l) r
  | [], _, _ => rfl
  | y :: l, p, r => by
    rw [List.cons_append, firstF, firstF, lastN]
    by_cases h : p = some y.1
    · rw [if_pos h, if_pos h, firstF_append l p r, h]
    · rw [if_neg h, if_neg h, firstF_append l (some y.1) r, List.cons_append]
/-- Is the k-th item the first one of its name? -/
def newB (out : List It) : Nat → Bool
  | 0 => true
  | k + 1 => match out[k]?, out[k + 1]? with
    | some a, some b => !(a.1.toList == b.1.toList)
    | _, _ => true
theorem newB_at {out : List It} {j : Nat} {y x : It} (hy : out[j]? = some y) (hx : out[j + 1]? = some x) : newB out (j + 1) = !(y.1.toList == x.1.toList) := by
  show (match out[j]?, out[j + 1]? with
    | some a, some b => !(a.1.toList == b.1.toList)
    | _, _ => true) = _
  rw [hy, hx]
theorem take_lastN {out : List It} {k : Nat} {y : It} (hy : out[k]? = some y) : lastN none (out.take (k + 1)) = some y.1 := by
  obtain ⟨hk, rfl⟩ := List.getElem?_eq_some_iff.1 hy
  rw [List.take_succ_eq_append_getElem hk, lastN_snoc]
theorem firsts_next {out : List It} {k : Nat} {x : It} (hx : out[k]? = some x) : firsts (out.take (k + 1)) = if newB out k = true then firsts (out.take k) ++ [x] else firsts (out.take k) := by
  obtain ⟨hk, hxx⟩ := List.getElem?_eq_some_iff.1 hx
  unfold firsts
  rw [List.take_succ_eq_append_getElem hk, hxx, firstF_append]
  rcases k with _ | j
  · rw [List.take_zero]
    rfl
  · obtain ⟨y, hy⟩ : ∃ y, out[j]? = some y := ⟨_, List.getElem?_eq_getElem (by omega)⟩
    rw [take_lastN hy]
    rw [newB_at hy hx]
    show _ ++ (if some y.1 = some x.1 then firstF (some y.1) [] else x :: firstF (some x.1) []) = _
    by_cases h : y.1 = x.1
    · rw [if_pos (by rw [h]), if_neg (by simp [h])]
      exact List.append_nil _
    · rw [if_neg (fun hc => h (Option.some.inj hc)), if_pos (by rw [beq_eq_false_iff_ne.2 (fun hc => h (toList_inj hc))]; rfl)]
      rfl
theorem firsts_pre (out : List It) (k : Nat) : ∃ r, firsts out = firsts (out.take k) ++ r := by
  refine ⟨firstF (lastN none (out.take k)) (out.drop k), ?_⟩
  unfold firsts
  rw [← firstF_append, List.take_append_drop]
theorem firsts_le (out : List It) : (firsts out).length ≤ out.length := by
  have : ∀ (l : List It) (p : Option ByteArray), (firstF p l).length ≤ l.length := by
    intro l
    induction l with
    | nil => intro p; exact Nat.le_refl _
    | cons y l ih =>
      intro p
      rw [firstF]
      by_cases h : p = some y.1
      · rw [if_pos h]; exact Nat.le_succ_of_le (ih p)
      · rw [if_neg h]; exact Nat.succ_le_succ (ih _)
  exact this out none

/-- Items in memory. -/
def Itms (w : World) (B : Nat) (A : Option Addr) (out : List It) : Prop :=
  ∀ i x, out[i]? = some x → ∃ b off, A = some ⟨b, off, none⟩ ∧ b < B ∧ w.cell? ⟨b, off + i * 2, none⟩ = some (.string x.1) ∧ w.cell? ⟨b, off + i * 2 + 1, none⟩ = some (.int .i64 (x.2 : Int))
theorem Itms.keep {w w' : World} {B : Nat} {A : Option Addr} {out : List It} (h : Itms w B A out) (hb : Below B w w') : Itms w' B A out := fun i x hx => by
  obtain ⟨b, off, h1, h2, h3, h4⟩ := h i x hx
  exact ⟨b, off, h1, h2, (hb.cell (p := ⟨b, off + i * 2, none⟩) h2).trans h3, (hb.cell (p := ⟨b, off + i * 2 + 1, none⟩) h2).trans h4⟩
theorem it_at : ∀ {out : List It} {k : Nat} {x : It}, out[k]? = some x → ∀ j, j < 2 → (out.flatMap itCells)[k * 2 + j]? = (itCells x)[j]?
  | [], k, x, hk, _, _ => by simp at hk
  | y :: out, k, x, hk, j, hj => by
    rw [List.flatMap_cons]
    rcases k with _ | k
    · obtain rfl : y = x := by simpa using hk
      rw [List.getElem?_append_left (by simp [itCells]; omega), Nat.zero_mul, Nat.zero_add]
    · rw [List.getElem?_append_right (by simp [itCells]; omega), ← it_at (out := out) (k := k) (by simpa using hk) j hj]
      congr 1
      simp [itCells]; omega
theorem own_itms {w : World} {B n : Nat} {e : TypeId} {A : Option Addr} {l c : Nat} {out : List It} (h : w.ownsRow B e 2 (.slice A l c) n (out.flatMap itCells)) : Itms w w.heap.size A out := fun i x hx => by
  obtain ⟨b, c', e1, _, h3, _, _, h6, _⟩ := own_cell h ((it_at hx 0 (by omega)).trans rfl)
  obtain ⟨b', c'', e1', _, _, _, _, h6', _⟩ := own_cell h ((it_at hx 1 (by omega)).trans rfl)
  injection e1 with e1
  injection e1' with e1'
  rw [e1] at e1'
  injection e1' with e1'
  injection e1' with e1'
  subst e1'
  exact ⟨b, 0, e1, h3, by rw [Nat.zero_add]; exact h6, by rw [Nat.zero_add]; exact h6'⟩
theorem own_len {w : World} {B n e size : Nat} {A : Option Addr} {l c : Nat} {xs : List Value} (h : w.ownsRow B e size (.slice A l c) n xs) : l = n := by
  rcases h.2 with ⟨h0, h1⟩ | ⟨g, cap, cur, hv, _⟩
  · injection h0 with _ e _; omega
  · injection hv

def FirstIn (w : World) (out : List It) (e : Ending) (w' : World) : Prop :=
  ∃ v, e = .returned v ∧ w'.ownsRow w.heap.size 161 2 v (firsts out).length ((firsts out).flatMap itCells) ∧ Below w.heap.size w w'
theorem below_drewN {B : Nat} {a w : World} (h : Below B a w) (n : Nat) : Below B a (w.drewN n) := ⟨h.os, h.tape, h.output, h.size, h.block⟩
theorem below_grown {w w' : World} {B n size : Nat} {e : TypeId} {v : Value} {xs : List Value} (hg : w.grownBy w' v.ownBlock) (ho : w.ownsRow B e size v n xs) (hB : B ≤ w.heap.size) : Below B w w' :=
  ⟨hg.os, hg.tape, hg.output, hg.size, fun k hk => hg.block k (Nat.lt_of_lt_of_le hk hB) fun e => by have := (ho.lt k e.symm).1; omega⟩
structure In3 (w : World) (out : List It) (k : Nat) (v : Value) (wr : World) : Prop where
  own : wr.ownsRow w.heap.size 161 2 v (firsts (out.take k)).length ((firsts (out.take k)).flatMap itCells)
  below : Below w.heap.size w wr
set_option maxHeartbeats 3200000 in
theorem first_any (A : Option Addr) (c : Nat) (out : List It) (w : World) (hI : Itms w w.heap.size A out) (hlen : out.length ≤ 1000000000) :
    Calls Tryz.prog 97 #[.slice A out.length c] w (FirstIn w out) := by
  obtain ⟨ii, hi', hw0, hw1, hw2⟩ := info_three infoItem
  have HI := Lib.hid hI
  have H3 : Hid (In3 w out 0 (.slice none 0 0) w) := Lib.hid ⟨World.ownsRow_nil _ _ _ _, Below.refl _ _⟩
  clear hI
  go_enter Tryz.func97, Tryz.ntmps97
  go_wp2_with fail
  go_loopw [8, 3] (fun v v3 wr => ∃ k : Nat, v = .int .i64 (k : Int) ∧ k ≤ out.length ∧ Hid (In3 w out k v3 wr)) (fun v _ _ => out.length - (intOf v).toNat)
  case atStart => exact ⟨0, rfl, Nat.zero_le _, H3⟩
  case round =>
    obtain ⟨k, rfl, hk, HR⟩ := hrel
    by_cases hlt : k < out.length
    · obtain ⟨x, hx⟩ : ∃ x, out[k]? = some x := ⟨_, List.getElem?_eq_getElem hlt⟩
      obtain ⟨b, off, hA, hb, c0, c1⟩ := HI.out k x hx
      subst hA
      have d0 : wr.cell? ⟨b, off + k * 2, none⟩ = some (.string x.1) := (HR.out.below.cell (p := ⟨b, off + k * 2, none⟩) hb).trans c0
      have d1 : wr.cell? ⟨b, off + k * 2 + 1, none⟩ = some (.int .i64 (x.2 : Int)) := (HR.out.below.cell (p := ⟨b, off + k * 2 + 1, none⟩) hb).trans c1
      have i0 : (0 : Int) ≤ (k : Int) := by omega
      have i1 : (k : Int) < (out.length : Int) := by omega
      have hn := firsts_next hx
      have hfl : (firsts (out.take k)).length ≤ 1000000000 := Nat.le_trans (firsts_le _) (by rw [List.length_take]; omega)
      obtain ⟨W1, hW1⟩ : ∃ W1, W1 = wr.alloc (.cells #[.string x.1, .int .i64 (x.2 : Int)] 161) := ⟨_, rfl⟩
      have hb1 : Below wr.heap.size wr W1 := by rw [hW1]; exact (Below.refl _ _).alloc (Nat.le_refl _) _
      have hz1 : W1.heap.size = wr.heap.size + 1 := by rw [hW1]; simp
      have hbk : W1.heap[wr.heap.size]? = some (.cells #[.string x.1, .int .i64 (x.2 : Int)] 161 (0, 0)) := by rw [hW1]; exact heap_alloc_new wr _
      have e0 : W1.cell? ⟨wr.heap.size, 0, none⟩ = some (.string x.1) := cell_of_blk hbk 0
      have e1 : W1.cell? ⟨wr.heap.size, 1, none⟩ = some (.int .i64 (x.2 : Int)) := cell_of_blk hbk 1
      have hbw : Below w.heap.size w W1 := HR.out.below.trans (hb1.mono HR.out.below.size)
      have hown1 : W1.ownsRow w.heap.size 161 2 u3 (firsts (out.take k)).length ((firsts (out.take k)).flatMap itCells) := (Kept.of_below hb1 (fun _ => False) 0).own HR.out.own (by simp)
      have HX := Lib.hid hx
      have HN := Lib.hid hn
      have HB1 := Lib.hid hbw
      have HO1 := Lib.hid hown1
      have HW1 := Lib.hid hW1
      have HBK := Lib.hid hbk
      clear hx hn hbw hown1 hW1 hbk hb1 c0 c1 e0 e1 HR
      go_upto_region 5 with fail
      rw [← HW1.out]
      have e0 : W1.cell? ⟨wr.heap.size, 0, none⟩ = some (.string x.1) := cell_of_blk HBK.out 0
      rcases hnb : newB out k with _ | _
      · rcases k with _ | j
        · cases hnb
        · obtain ⟨y, hy⟩ : ∃ y, out[j]? = some y := ⟨_, List.getElem?_eq_getElem (by omega)⟩
          obtain ⟨b', off', hA', hb', c0', _⟩ := HI.out j y hy
          injection hA' with hA'
          injection hA' with hA1 hA2
          subst hA1 hA2
          have g0 : W1.cell? ⟨b, off + j * 2, none⟩ = some (.string y.1) := (HB1.out.cell (p := ⟨b, off + j * 2, none⟩) hb').trans c0'
          have j0 : (0 : Int) ≤ (j : Int) := by omega
          have j1 : (j : Int) < (out.length : Int) := by omega
          have j2 : ((j : Int) + 1 == 0) = false := by rw [beq_eq_false_iff_ne]; omega
          rw [newB_at hy HX.out] at hnb
          have hne : (y.1.toList == x.1.toList) = true := by simpa using hnb
          have hne2 : (y.1.toList != x.1.toList) = false := by rw [bne, hne]; rfl
          have hne3 := eq_of_beq hne
          have HF : Hid (∀ q, In3 w out (j + 1 + 1) u3 (W1.drewN q)) := Lib.hid fun q => ⟨by
            rw [HN.out, if_neg (by rw [newB_at hy HX.out, hne]; simp)]
            exact HO1.out, below_drewN HB1.out q⟩
          clear hnb hy
          go_quiet (fail)
          go_wp2_with fail
          go_roundw
          case rel => exact ⟨j + 1 + 1, by go_num, by omega, Lib.hid (HF.out _)⟩
          case measure => simp [intOf]; omega
      · have HT := Lib.hid (show firsts (out.take (k + 1)) = firsts (out.take k) ++ [x] by rw [HN.out, if_pos hnb])
        rcases k with _ | j
        · clear hnb
          go_quiet (fail)
          generalize hq : W1.drewN _ = W2
          have HO2 : Hid (W2.ownsRow w.heap.size 161 2 u3 (firsts (out.take (0))).length ((firsts (out.take (0))).flatMap itCells)) := by rw [← hq]; exact HO1
          have HZ : Hid (w.heap.size ≤ W2.heap.size) := by rw [← hq]; exact Lib.hid HB1.out.size
          have HB2 : Hid (Below w.heap.size w W2) := by rw [← hq]; exact Lib.hid (below_drewN HB1.out _)
          have q0 : W2.cell? ⟨wr.heap.size, 0, none⟩ = some (.string x.1) := by rw [← hq]; exact e0
          have q1 : W2.cell? ⟨wr.heap.size, 1, none⟩ = some (.int .i64 (x.2 : Int)) := by rw [← hq]; exact cell_of_blk HBK.out 1
          clear hq
          go_wp2_with (at_builtin; refine wpList_append_lies _ rfl (.tmp 26) (.tmp 28) _ rfl w.heap.size 161 ii _ 2 24 Tryz.underlying157 hi' hw0 hw1 hw2 rfl (by omega) _ _ _ rfl (HO2.out.alloc _) ⟨W2.heap.size, 0, none⟩ 1 1 (itCells x) rfl rfl (World.news_of_block (cs := #[.string x.1, .int .i64 (x.2 : Int)]) (t := 161) (fr := (0, 0)) (heap_alloc_new W2 _)) (itCells_one _) (by omega) (by simp only [maxLen]; omega) (by omega) (by have := HZ.out; simp at this ⊢; omega) (W2.heap.size + 1) (by simp) ?_; intro gg gc w5 hown5 hgrow5 hat5 hlt5)
          have HE : Hid (In3 w out (0 + 1) (.slice (some ⟨gg, 0, none⟩) ((firsts (out.take (0))).length + 1) gc) w5) := Lib.hid ⟨by
            rw [HT.out, List.length_append, List.flatMap_append, List.flatMap_singleton]
            exact hown5, (HB2.out.alloc HB2.out.size _).trans ((below_grown hgrow5 (HO2.out.alloc _) (HB2.out.alloc HB2.out.size _).size))⟩
          clear hown5 hgrow5 hat5 hlt5
          go_roundw
          case rel => exact ⟨0 + 1, by go_num, by omega, HE⟩
          case measure => simp [intOf]; omega
        · obtain ⟨y, hy⟩ : ∃ y, out[j]? = some y := ⟨_, List.getElem?_eq_getElem (by omega)⟩
          obtain ⟨b', off', hA', hb', c0', _⟩ := HI.out j y hy
          injection hA' with hA'
          injection hA' with hA1 hA2
          subst hA1 hA2
          have g0 : W1.cell? ⟨b, off + j * 2, none⟩ = some (.string y.1) := (HB1.out.cell (p := ⟨b, off + j * 2, none⟩) hb').trans c0'
          have j0 : (0 : Int) ≤ (j : Int) := by omega
          have j1 : (j : Int) < (out.length : Int) := by omega
          have j2 : ((j : Int) + 1 == 0) = false := by rw [beq_eq_false_iff_ne]; omega
          rw [newB_at hy HX.out] at hnb
          have hne : (y.1.toList == x.1.toList) = false := by simpa using hnb
          have hne2 : (y.1.toList != x.1.toList) = true := by rw [bne, hne]; rfl
          clear hnb hy
          go_quiet (fail)
          generalize hq : W1.drewN _ = W2
          have HO2 : Hid (W2.ownsRow w.heap.size 161 2 u3 (firsts (out.take (j + 1))).length ((firsts (out.take (j + 1))).flatMap itCells)) := by rw [← hq]; exact HO1
          have HZ : Hid (w.heap.size ≤ W2.heap.size) := by rw [← hq]; exact Lib.hid HB1.out.size
          have HB2 : Hid (Below w.heap.size w W2) := by rw [← hq]; exact Lib.hid (below_drewN HB1.out _)
          have q0 : W2.cell? ⟨wr.heap.size, 0, none⟩ = some (.string x.1) := by rw [← hq]; exact e0
          have q1 : W2.cell? ⟨wr.heap.size, 1, none⟩ = some (.int .i64 (x.2 : Int)) := by rw [← hq]; exact cell_of_blk HBK.out 1
          clear hq
          go_wp2_with (at_builtin; refine wpList_append_lies _ rfl (.tmp 26) (.tmp 28) _ rfl w.heap.size 161 ii _ 2 24 Tryz.underlying157 hi' hw0 hw1 hw2 rfl (by omega) _ _ _ rfl (HO2.out.alloc _) ⟨W2.heap.size, 0, none⟩ 1 1 (itCells x) rfl rfl (World.news_of_block (cs := #[.string x.1, .int .i64 (x.2 : Int)]) (t := 161) (fr := (0, 0)) (heap_alloc_new W2 _)) (itCells_one _) (by omega) (by simp only [maxLen]; omega) (by omega) (by have := HZ.out; simp at this ⊢; omega) (W2.heap.size + 1) (by simp) ?_; intro gg gc w5 hown5 hgrow5 hat5 hlt5)
          have HE : Hid (In3 w out (j + 1 + 1) (.slice (some ⟨gg, 0, none⟩) ((firsts (out.take (j + 1))).length + 1) gc) w5) := Lib.hid ⟨by
            rw [HT.out, List.length_append, List.flatMap_append, List.flatMap_singleton]
            exact hown5, (HB2.out.alloc HB2.out.size _).trans ((below_grown hgrow5 (HO2.out.alloc _) (HB2.out.alloc HB2.out.size _).size))⟩
          clear hown5 hgrow5 hat5 hlt5
          go_roundw
          case rel => exact ⟨j + 1 + 1, by go_num, by omega, HE⟩
          case measure => simp [intOf]; omega
    · obtain rfl : k = out.length := by omega
      have HF : Hid (FirstIn w out (.returned u3) wr) := Lib.hid ⟨_, rfl, by have := HR.out.own; rwa [List.take_length] at this, HR.out.below⟩
      clear HR
      go_wp2_with fail
      go_ret
      exact HF.out
end Go.Proofs.YtnokmhoaaancgaaGreatDoor.heap
