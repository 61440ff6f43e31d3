/- TaleRows' law. Conditions: the records lie in memory; the answers' names, too. -/
import Derived.Test.YtkigkdiphhecaaaGreatTlMay
import Derived.Test.YtkigkdiphhecaaaGreatTlSpeak
namespace Go.Proofs.YtkigkdiphhecaaaGreat.tal
set_option maxRecDepth 100000
open Go.RowKit Go.Proofs.YtkigkdiphhecaaaGreat.words

/-- Up to a pair: nobody who comes behind had ended ahead of the beginning of one ahead. -/
def UpTo (L : List Rc) (i k : Nat) : Prop := ∀ (i' k' : Nat) (x y : Rc), (i' < i ∨ (i' = i ∧ k' < k)) → L[i']? = some x → L[k']? = some y → k' < i' → ¬ x.re < y.ca
theorem UpTo.zero (L : List Rc) : UpTo L 0 0 := fun i' k' x y h _ _ _ => by omega
theorem UpTo.step {L : List Rc} {i k : Nat} {x y : Rc} (hx : L[i]? = some x) (hy : L[k]? = some y) : UpTo L i (k + 1) ↔ UpTo L i k ∧ (i ≤ k ∨ ¬ x.re < y.ca) := by
  constructor
  · intro h
    refine ⟨fun i' k' a b h1 => h i' k' a b (by omega), ?_⟩
    by_cases hk : i ≤ k
    · exact .inl hk
    · exact .inr (h i k x y (.inr ⟨rfl, Nat.lt_succ_self _⟩) hx hy (by omega))
  · rintro ⟨h1, h2⟩ i' k' a b h3 ha hb hk
    by_cases he : i' = i ∧ k' = k
    · obtain ⟨rfl, rfl⟩ := he
      rw [hx] at ha
      rw [hy] at hb
      obtain rfl := Option.some.inj ha
      obtain rfl := Option.some.inj hb
      rcases h2 with h2 | h2
      · omega
      · exact h2
    · exact h1 i' k' a b (by omega) ha hb hk
theorem UpTo.next {L : List Rc} {i : Nat} : UpTo L (i + 1) 0 ↔ UpTo L i L.length := by
  constructor
  · intro h i' k' a b h1 ha hb hk
    exact h i' k' a b (by omega) ha hb hk
  · intro h i' k' a b h1 ha hb hk
    have := (List.getElem?_eq_some_iff.1 hb).1
    exact h i' k' a b (by omega) ha hb hk
theorem UpTo.all {L : List Rc} : UpTo L L.length 0 ↔ KptP L := by
  constructor
  · intro h i j x y h1 hx hy
    have := (List.getElem?_eq_some_iff.1 hx).1
    exact h i j x y (by omega) hx hy h1
  · intro h i' k' a b h1 ha hb hk
    exact h i' k' a b hk ha hb
theorem bool_iff {a b : Bool} {p : Prop} (h1 : a = true ↔ p) (h2 : b = true ↔ p) : a = b := by
  rw [Bool.eq_iff_iff]; exact h1.trans h2.symm
theorem smB_refl (a : Rc) : smB a a = true := by unfold smB; simp
set_option maxHeartbeats 25600000 in
theorem law_rows (A : Option Addr) (c : Nat) (L : List Rc) (a b : Rc) (w : World) (hL : Recs w A L) (hl : L.length ≤ 9223372036854775807) (ha : Txs w a.A a.N) (hb : Txs w b.A b.N) :
    Calls Tryz.prog 3 #[.slice A L.length c, .agg #[.int .i64 a.e, .int .i64 a.rk, .int .i64 a.z, .int .i64 a.wh, .int .i64 a.id, .string a.x, .slice a.A a.N.length a.c, .bool a.fin], .agg #[.int .i64 b.e, .int .i64 b.rk, .int .i64 b.z, .int .i64 b.wh, .int .i64 b.id, .string b.x, .slice b.A b.N.length b.c, .bool b.fin]] w fun e w' => e = .returned (.bool true) ∧ Below w.heap.size w w' := by
  obtain ⟨na, hna⟩ : ∃ na, na = a.N.length := ⟨_, rfl⟩
  obtain ⟨nb, hnb⟩ : ∃ nb, nb = b.N.length := ⟨_, rfl⟩
  obtain ⟨g1, W1, hW1, eg1, hxa, hxb, hb1, lg1⟩ := two_boxes w (.cells #[.int .i64 a.e, .int .i64 a.rk, .int .i64 a.z, .int .i64 a.wh, .int .i64 a.id, .string a.x, .slice a.A a.N.length a.c, .bool a.fin] 26) (.cells #[.int .i64 b.e, .int .i64 b.rk, .int .i64 b.z, .int .i64 b.wh, .int .i64 b.id, .string b.x, .slice b.A b.N.length b.c, .bool b.fin] 26)
  have HSm0 : Hid (∀ w', Below w.heap.size w w' → a.N.length ≤ 100 → b.N.length ≤ 100 → Calls Tryz.prog 9 #[.agg #[.int .i64 a.e, .int .i64 a.rk, .int .i64 a.z, .int .i64 a.wh, .int .i64 a.id, .string a.x, .slice a.A a.N.length a.c, .bool a.fin], .agg #[.int .i64 b.e, .int .i64 b.rk, .int .i64 b.z, .int .i64 b.wh, .int .i64 b.id, .string b.x, .slice b.A b.N.length b.c, .bool b.fin]] w' fun en w'' => en = .returned (.bool (smB a b)) ∧ Below w'.heap.size w' w'') := Lib.hid fun w' h h1 h2 => same_any a b w' (ha.later h) (hb.later h) (by omega) (by omega)
  have HSa0 : Hid (∀ w', Below w.heap.size w w' → a.N.length ≤ 100 → Calls Tryz.prog 9 #[.agg #[.int .i64 a.e, .int .i64 a.rk, .int .i64 a.z, .int .i64 a.wh, .int .i64 a.id, .string a.x, .slice a.A a.N.length a.c, .bool a.fin], .agg #[.int .i64 a.e, .int .i64 a.rk, .int .i64 a.z, .int .i64 a.wh, .int .i64 a.id, .string a.x, .slice a.A a.N.length a.c, .bool a.fin]] w' fun en w'' => en = .returned (.bool true) ∧ Below w'.heap.size w' w'') := Lib.hid fun w' h h1 => by
    have := same_any a a w' (ha.later h) (ha.later h) (by omega) (by omega)
    rw [smB_refl] at this
    exact this
  have HRf0 : Hid (∀ w', Below w.heap.size w w' → a.N.length ≤ 100 → Calls Tryz.prog 10 #[.agg #[.int .i64 a.e, .int .i64 a.rk, .int .i64 a.z, .int .i64 a.wh, .int .i64 a.id, .string a.x, .slice a.A a.N.length a.c, .bool a.fin], .agg #[.int .i64 b.e, .int .i64 b.rk, .int .i64 b.z, .int .i64 b.wh, .int .i64 b.id, .string b.x, .slice b.A b.N.length b.c, .bool b.fin]] w' fun en w'' => en = .returned (.bool (smB a b)) ∧ Below w'.heap.size w' w'') := Lib.hid fun w' h h1 => ref_any a b w' (ha.later h) (hb.later h) (by omega)
  rw [← hna, ← hnb] at HSm0 HRf0 hW1
  rw [← hna] at HSa0 hxa
  rw [← hnb] at hxb
  rw [← hna, ← hnb]
  have HL : Hid (∀ w', Below w.heap.size w w' → Recs w' A L) := Lib.hid fun w' h => hL.later h
  have HS := Lib.hid (speaks_any W1)
  have HMy : Hid (∀ w', Below w.heap.size w w' → Calls Tryz.prog 6 #[.slice A L.length c] w' (MayO L w')) := Lib.hid fun w' h => may_any A c L w' (HL.out w' h) hl
  have HB1 := Lib.hid hb1
  have HXA1 := Lib.hid hxa
  have HXB1 := Lib.hid hxb
  have HW1 := Lib.hid hW1
  have HEG := Lib.hid eg1
  clear hL ha hb hna hnb hW1 eg1 hxa hxb hb1 lg1
  go_enter Tryz.func3, Tryz.ntmps3
  go_upto_region 1 with fail
  rw [HW1.out]
  simp only [HEG.out]
  clear HW1 HEG
  go_wp2_with fail
  refine HS.out.mono ?_
  rintro e w1 ⟨rfl, hb1⟩
  have HB2 := Lib.hid (HB1.out.trans (hb1.mono HB1.out.size))
  have HMy1 := Lib.hid (HMy.out w1 HB2.out)
  have HXA2 := Lib.hid ((hb1.block _ (lt_of_some HXA1.out)).trans HXA1.out)
  have HXB2 := Lib.hid ((hb1.block _ (lt_of_some HXB1.out)).trans HXB1.out)
  clear hb1 HS HMy HXA1 HXB1 HB1
  go_wp2_with fail
  refine HMy1.out.mono ?_
  rintro e w2 ⟨⟨bm, rfl, hM⟩, hb2⟩
  have HB3 := Lib.hid (HB2.out.trans (hb2.mono HB2.out.size))
  have hxa := (hb2.block _ (lt_of_some HXA2.out)).trans HXA2.out
  have hxb := (hb2.block _ (lt_of_some HXB2.out)).trans HXB2.out
  have HXA3 := Lib.hid hxa
  have HXB3 := Lib.hid hxb
  have c6 := cell_of_blk hxa 6
  have d6 := cell_of_blk hxb 6
  clear hb2 HMy1 HXA2 HXB2 HB2 hxa hxb
  rcases bm with _ | _
  · go_wp2_with fail
    go_ret
    exact ⟨rfl, HB3.out⟩
  have HM := Lib.hid (hM rfl)
  clear hM
  by_cases h1 : (100 : Int) < (na : Int)
  · have h1' : 100 < na := by omega
    go_wp2_with fail
    go_ret
    exact ⟨rfl, HB3.out⟩
  have h1' : ¬ 100 < na := by omega
  by_cases h2 : (100 : Int) < (nb : Int)
  · have h2' : 100 < nb := by omega
    go_wp2_with fail
    go_ret
    exact ⟨rfl, HB3.out⟩
  have h2' : ¬ 100 < nb := by omega
  have HNab : Hid (na ≤ 100 ∧ nb ≤ 100) := Lib.hid ⟨by omega, by omega⟩
  go_wp2_with fail
  clear c6 d6 h1 h1' h2 h2'
  have HU0 : Hid (true = true ↔ UpTo L 0 0) := Lib.hid ⟨fun _ => UpTo.zero L, fun _ => rfl⟩
  go_loopw [31, 7] (fun v vk wr => ∃ (i : Nat) (kb : Bool), i ≤ L.length ∧ v = .int .i64 (i : Int) ∧ vk = .bool kb ∧ Hid (kb = true ↔ UpTo L i 0) ∧ Hid (Below w2.heap.size w2 wr)) (fun v _ _ => L.length - (intOf v).toNat)
  case atStart => exact ⟨0, true, Nat.zero_le _, rfl, rfl, HU0, Lib.hid (Below.refl _ _)⟩
  case round =>
    obtain ⟨i, kb, hi, rfl, rfl, HKb, HBr⟩ := hrel
    have l60 : L.length ≤ 60 := HM.out.1
    by_cases hlt : i < L.length
    · obtain ⟨x, hx⟩ : ∃ x, L[i]? = some x := ⟨_, List.getElem?_eq_getElem hlt⟩
      obtain ⟨b0, off, hA, _, hrg⟩ := (HL.out wr (HB3.out.trans (HBr.out.mono HB3.out.size))) i x hx
      subst hA
      have i0 : (0 : Int) ≤ (i : Int) := by omega
      have i1 : (i : Int) < (L.length : Int) := by omega
      have HRk : Hid (wr.rangeAt b0 (off + i * 19) x.cs) := Lib.hid hrg
      obtain ⟨W2, hW2⟩ : ∃ W2, W2 = wr.alloc (.cells #[.int .i64 x.cl, .int .i64 x.ix, .int .i64 x.k, .string x.p, .int .i64 x.o, .int .i64 x.n, .int .i64 x.i, .string x.g, .int .i64 x.e, .int .i64 x.rk, .int .i64 x.z, .int .i64 x.wh, .int .i64 x.id, .string x.x, .slice x.A x.N.length x.c, .bool x.fin, .int .i64 x.ca, .int .i64 x.ma, .int .i64 x.re] 32) := ⟨_, rfl⟩
      obtain ⟨g9, hg9⟩ : ∃ g9, g9 = wr.heap.size := ⟨_, rfl⟩
      have hbW2 : Below wr.heap.size wr W2 := by rw [hW2]; exact (Below.refl _ _).alloc (Nat.le_refl _) _
      have HX0 : Hid (W2.heap[g9]? = some (.cells #[.int .i64 x.cl, .int .i64 x.ix, .int .i64 x.k, .string x.p, .int .i64 x.o, .int .i64 x.n, .int .i64 x.i, .string x.g, .int .i64 x.e, .int .i64 x.rk, .int .i64 x.z, .int .i64 x.wh, .int .i64 x.id, .string x.x, .slice x.A x.N.length x.c, .bool x.fin, .int .i64 x.ca, .int .i64 x.ma, .int .i64 x.re] 32 (0, 0))) := Lib.hid (by rw [hW2, hg9]; exact heap_alloc_new wr _)
      have HW2 := Lib.hid hW2
      have Hg9 := Lib.hid hg9
      clear hW2 hg9
      have HB4 : Hid (Below w2.heap.size w2 W2) := Lib.hid (HBr.out.trans (hbW2.mono HBr.out.size))
      have HIx := Lib.hid hx
      clear hrg hbW2 hx
      go_upto_region 9 with (first | (refine wl_load rfl rfl rfl HRk.out ?_) | (refine wl_put (r := x) rfl rfl rfl rfl rfl ?_))
      rw [← HW2.out]
      simp only [← Hg9.out]
      clear HW2 Hg9 HRk HBr
      go_wp2_with fail
      obtain ⟨wo, hwo⟩ : ∃ wo, wo = W2 := ⟨_, rfl⟩
      rw [← hwo] at HX0 HB4 ⊢
      clear hwo
      go_loopw [38, 7] (fun v vk wr => ∃ (k : Nat) (kb : Bool), k ≤ L.length ∧ v = .int .i64 (k : Int) ∧ vk = .bool kb ∧ Hid (kb = true ↔ UpTo L i k) ∧ Hid (Below wo.heap.size wo wr)) (fun v _ _ => L.length - (intOf v).toNat)
      case atStart => exact ⟨0, kb, Nat.zero_le _, rfl, rfl, HKb, Lib.hid (Below.refl _ _)⟩
      case round =>
        clear HKb
        obtain ⟨k, kb, hk, rfl, rfl, HKb, HBr⟩ := hrel
        by_cases hkl : k < L.length
        · obtain ⟨y, hy⟩ : ∃ y, L[k]? = some y := ⟨_, List.getElem?_eq_getElem hkl⟩
          obtain ⟨b2, off2, hA, _, hrg⟩ := (HL.out wr (HB3.out.trans ((HB4.out.trans (HBr.out.mono HB4.out.size)).mono HB3.out.size))) k y hy
          injection hA with hA
          injection hA with hA1 hA2
          subst hA1 hA2
          have k0 : (0 : Int) ≤ (k : Int) := by omega
          have k1 : (k : Int) < (L.length : Int) := by omega
          have HRk : Hid (wr.rangeAt b0 (off + k * 19) y.cs) := Lib.hid hrg
          obtain ⟨W3, hW3⟩ : ∃ W3, W3 = wr.alloc (.cells #[.int .i64 y.cl, .int .i64 y.ix, .int .i64 y.k, .string y.p, .int .i64 y.o, .int .i64 y.n, .int .i64 y.i, .string y.g, .int .i64 y.e, .int .i64 y.rk, .int .i64 y.z, .int .i64 y.wh, .int .i64 y.id, .string y.x, .slice y.A y.N.length y.c, .bool y.fin, .int .i64 y.ca, .int .i64 y.ma, .int .i64 y.re] 32) := ⟨_, rfl⟩
          obtain ⟨g11, hg11⟩ : ∃ g11, g11 = wr.heap.size := ⟨_, rfl⟩
          have hbW3 : Below wr.heap.size wr W3 := by rw [hW3]; exact (Below.refl _ _).alloc (Nat.le_refl _) _
          have HY11 : Hid (W3.heap[g11]? = some (.cells #[.int .i64 y.cl, .int .i64 y.ix, .int .i64 y.k, .string y.p, .int .i64 y.o, .int .i64 y.n, .int .i64 y.i, .string y.g, .int .i64 y.e, .int .i64 y.rk, .int .i64 y.z, .int .i64 y.wh, .int .i64 y.id, .string y.x, .slice y.A y.N.length y.c, .bool y.fin, .int .i64 y.ca, .int .i64 y.ma, .int .i64 y.re] 32 (0, 0))) := Lib.hid (by rw [hW3, hg11]; exact heap_alloc_new wr _)
          have HW3 := Lib.hid hW3
          have Hg11 := Lib.hid hg11
          clear hW3 hg11
          have HX9 : Hid (W3.heap[g9]? = some (.cells #[.int .i64 x.cl, .int .i64 x.ix, .int .i64 x.k, .string x.p, .int .i64 x.o, .int .i64 x.n, .int .i64 x.i, .string x.g, .int .i64 x.e, .int .i64 x.rk, .int .i64 x.z, .int .i64 x.wh, .int .i64 x.id, .string x.x, .slice x.A x.N.length x.c, .bool x.fin, .int .i64 x.ca, .int .i64 x.ma, .int .i64 x.re] 32 (0, 0))) := Lib.hid ((hbW3.block _ (Nat.lt_of_lt_of_le (lt_of_some HX0.out) HBr.out.size)).trans ((HBr.out.block _ (lt_of_some HX0.out)).trans HX0.out))
          have HB5 : Hid (Below wo.heap.size wo W3) := Lib.hid (HBr.out.trans (hbW3.mono HBr.out.size))
          have HSt := Lib.hid (UpTo.step HIx.out hy)
          clear hrg hbW3 hy
          go_upto_region 12 with (first | (refine wl_load rfl rfl rfl HRk.out ?_) | (refine wl_put (r := y) rfl rfl rfl rfl rfl ?_))
          rw [← HW3.out]
          simp only [← Hg11.out]
          clear HW3 Hg11 HRk HBr
          obtain ⟨dq, hdq⟩ : ∃ dq, dq = decide (x.re < y.ca) := ⟨_, rfl⟩
          have HBf : Hid (∀ w', Calls Tryz.prog 7 #[.agg #[.int .i64 x.cl, .int .i64 x.ix, .int .i64 x.k, .string x.p, .int .i64 x.o, .int .i64 x.n, .int .i64 x.i, .string x.g, .int .i64 x.e, .int .i64 x.rk, .int .i64 x.z, .int .i64 x.wh, .int .i64 x.id, .string x.x, .slice x.A x.N.length x.c, .bool x.fin, .int .i64 x.ca, .int .i64 x.ma, .int .i64 x.re], .agg #[.int .i64 y.cl, .int .i64 y.ix, .int .i64 y.k, .string y.p, .int .i64 y.o, .int .i64 y.n, .int .i64 y.i, .string y.g, .int .i64 y.e, .int .i64 y.rk, .int .i64 y.z, .int .i64 y.wh, .int .i64 y.id, .string y.x, .slice y.A y.N.length y.c, .bool y.fin, .int .i64 y.ca, .int .i64 y.ma, .int .i64 y.re]] w' fun e w'' => e = .returned (.bool dq) ∧ Below w'.heap.size w' w'') := Lib.hid fun w' => by rw [hdq]; exact before_any x y w'
          have HDq := Lib.hid hdq
          have hds : decide (x.re < y.ca) = dq := hdq.symm
          have hdn : (dq != dq) = false := by simp
          clear hdq
          refine wp_region_held_drew (S := (fun w' => Below W3.heap.size W3 w')) (by kernel_rfl) (Below.refl W3.heap.size W3).drew (fun hHeld => ?_)
          refine wpAnyH_take (i := 0) (oi := ⟨some 43, _, _, _, _, _⟩) (v := .agg #[.int .i64 x.cl, .int .i64 x.ix, .int .i64 x.k, .string x.p, .int .i64 x.o, .int .i64 x.n, .int .i64 x.i, .string x.g, .int .i64 x.e, .int .i64 x.rk, .int .i64 x.z, .int .i64 x.wh, .int .i64 x.id, .string x.x, .slice x.A x.N.length x.c, .bool x.fin, .int .i64 x.ca, .int .i64 x.ma, .int .i64 x.re]) rfl (by kernel_rfl) (by kernel_rfl) (by kernel_rfl) (fun _ _ _ h => h) (yieldsIf_load_mid (by kernel_rfl) 32 (.tmp 9) rfl g9 0 rfl x.cs _ (fun w' (hS : Below W3.heap.size W3 w') => range_box ((hS.block _ (lt_of_some HX9.out)).trans HX9.out)) Tryz.underlying32 rfl (by kernel_rfl)) (by assumption) ?_
          try simp only [Act.put, List.setIfInBounds_toArray, List.set_cons_zero, List.set_cons_succ]
          refine wpAnyH_take (i := 1) (oi := ⟨some 44, _, _, _, _, _⟩) (v := .agg #[.int .i64 y.cl, .int .i64 y.ix, .int .i64 y.k, .string y.p, .int .i64 y.o, .int .i64 y.n, .int .i64 y.i, .string y.g, .int .i64 y.e, .int .i64 y.rk, .int .i64 y.z, .int .i64 y.wh, .int .i64 y.id, .string y.x, .slice y.A y.N.length y.c, .bool y.fin, .int .i64 y.ca, .int .i64 y.ma, .int .i64 y.re]) rfl (by kernel_rfl) (by kernel_rfl) (by kernel_rfl) (fun _ _ _ h => h) (yieldsIf_load_mid (by kernel_rfl) 32 (.tmp 11) rfl g11 0 rfl y.cs _ (fun w' (hS : Below W3.heap.size W3 w') => range_box ((hS.block _ (lt_of_some HY11.out)).trans HY11.out)) Tryz.underlying32 rfl (by kernel_rfl)) (by assumption) ?_
          try simp only [Act.put, List.setIfInBounds_toArray, List.set_cons_zero, List.set_cons_succ]
          refine wpAnyH_take (i := 3) (oi := ⟨some 46, _, _, _, _, _⟩) (v := ?_) rfl (by kernel_rfl) (by kernel_rfl) (by kernel_rfl) (fun _ _ _ h => h) (Or.inl ⟨by kernel_rfl, ?_⟩) (by assumption) ?_
          rotate_left 1
          focus (intro w' hSw; clear hSw; go_simp; (try with_reducible rfl))
          try simp only [Act.put, List.setIfInBounds_toArray, List.set_cons_zero, List.set_cons_succ]
          refine wpAnyH_take (i := 4) (oi := ⟨some 47, _, _, _, _, _⟩) (v := ?_) rfl (by kernel_rfl) (by kernel_rfl) (by kernel_rfl) (fun _ _ _ h => h) (Or.inl ⟨by kernel_rfl, ?_⟩) (by assumption) ?_
          rotate_left 1
          focus (intro w' hSw; have q1 := cell_of_blk ((hSw.block _ (lt_of_some HX9.out)).trans HX9.out) 18; clear hSw; go_simp; (try with_reducible rfl))
          try simp only [Act.put, List.setIfInBounds_toArray, List.set_cons_zero, List.set_cons_succ]
          refine wpAnyH_take (i := 5) (oi := ⟨some 48, _, _, _, _, _⟩) (v := ?_) rfl (by kernel_rfl) (by kernel_rfl) (by kernel_rfl) (fun _ _ _ h => h) (Or.inl ⟨by kernel_rfl, ?_⟩) (by assumption) ?_
          rotate_left 1
          focus (intro w' hSw; clear hSw; go_simp; (try with_reducible rfl))
          try simp only [Act.put, List.setIfInBounds_toArray, List.set_cons_zero, List.set_cons_succ]
          refine wpAnyH_take (i := 6) (oi := ⟨some 49, _, _, _, _, _⟩) (v := ?_) rfl (by kernel_rfl) (by kernel_rfl) (by kernel_rfl) (fun _ _ _ h => h) (Or.inl ⟨by kernel_rfl, ?_⟩) (by assumption) ?_
          rotate_left 1
          focus (intro w' hSw; have q1 := cell_of_blk ((hSw.block _ (lt_of_some HY11.out)).trans HY11.out) 16; clear hSw; go_simp; (try with_reducible rfl))
          try simp only [Act.put, List.setIfInBounds_toArray, List.set_cons_zero, List.set_cons_succ]
          refine wpAnyH_take (i := 7) (oi := ⟨some 50, _, _, _, _, _⟩) (v := ?_) rfl (by kernel_rfl) (by kernel_rfl) (by kernel_rfl) (fun _ _ _ h => h) (Or.inl ⟨by kernel_rfl, ?_⟩) (by assumption) ?_
          rotate_left 1
          focus (intro w' hSw; clear hSw; go_simp; (try with_reducible rfl))
          try simp only [Act.put, List.setIfInBounds_toArray, List.set_cons_zero, List.set_cons_succ]
          refine wpAnyH_ready (rs := [2]) (by kernel_rfl) (by simp) ?_
          refine AllReadyH.cons rfl (fun K hK => ?_) AllReadyH.nil
          go_simp
          go_at_call 7
          refine (HBf.out _).mono ?_
          rintro en v1 ⟨rfl, hv1⟩
          clear hHeld
          refine hK.out _ _ (((Below.refl W3.heap.size W3).drew.trans (hv1.mono (Below.refl W3.heap.size W3).drew.size))) (fun hHeld => ?_)
          clear hK
          refine wpAnyH_take (i := 8) (oi := ⟨some 51, _, _, _, _, _⟩) (v := ?_) rfl (by kernel_rfl) (by kernel_rfl) (by kernel_rfl) (fun _ _ _ h => h) (Or.inl ⟨by kernel_rfl, ?_⟩) (by assumption) ?_
          rotate_left 1
          focus (intro w' hSw; clear hSw; go_simp; (try with_reducible rfl))
          try simp only [Act.put, List.setIfInBounds_toArray, List.set_cons_zero, List.set_cons_succ]
          refine wpAnyH_done (by kernel_rfl) ?_ _
          clear hHeld hdn
          have HB6 : Hid (Below wo.heap.size wo v1) := Lib.hid (HB5.out.trans (((Below.refl W3.heap.size W3).drew.trans (hv1.mono (Below.refl W3.heap.size W3).drew.size)).mono HB5.out.size))
          have hx9 := (((Below.refl W3.heap.size W3).drew.trans (hv1.mono (Below.refl W3.heap.size W3).drew.size)).block _ (lt_of_some HX9.out)).trans HX9.out
          have hy11 := (((Below.refl W3.heap.size W3).drew.trans (hv1.mono (Below.refl W3.heap.size W3).drew.size)).block _ (lt_of_some HY11.out)).trans HY11.out
          have q18 := cell_of_blk hx9 18
          have q16 := cell_of_blk hy11 16
          clear hv1 HBf hx9 hy11 HX9 HY11 HB5 hds
          rcases kb with _ | _
          · have HK' : Hid (false = true ↔ UpTo L i (k + 1)) := Lib.hid ⟨fun h => (by cases h), fun h => HKb.out.2 (HSt.out.1 h).1⟩
            go_wp2_with fail
            go_roundw
            case rel => exact ⟨k + 1, false, by omega, by go_num, rfl, HK', HB6⟩
            case measure => simp [intOf]; omega
          by_cases hki : i ≤ k
          · have HK' : Hid (true = true ↔ UpTo L i (k + 1)) := Lib.hid ⟨fun _ => HSt.out.2 ⟨HKb.out.1 rfl, .inl hki⟩, fun _ => rfl⟩
            have hki2 : (i : Int) ≤ (k : Int) := by omega
            go_wp2_with fail
            go_roundw
            case rel => exact ⟨k + 1, true, by omega, by go_num, rfl, HK', HB6⟩
            case measure => simp [intOf]; omega
          have hki2 : ¬ (i : Int) ≤ (k : Int) := by omega
          by_cases hre : x.re < y.ca
          · have HK' : Hid (false = true ↔ UpTo L i (k + 1)) := Lib.hid ⟨fun h => (by cases h), fun h => by
              rcases (HSt.out.1 h).2 with h2 | h2
              · exact absurd h2 hki
              · exact absurd hre h2⟩
            have hre2 : ¬ y.ca ≤ x.re := by omega
            clear HSt
            go_wp2_with fail
            go_roundw
            case rel => exact ⟨k + 1, false, by omega, by go_num, rfl, HK', HB6⟩
            case measure => simp [intOf]; omega
          · have HK' : Hid (true = true ↔ UpTo L i (k + 1)) := Lib.hid ⟨fun _ => HSt.out.2 ⟨HKb.out.1 rfl, .inr hre⟩, fun _ => rfl⟩
            have hre2 : y.ca ≤ x.re := by omega
            clear HSt
            go_wp2_with fail
            go_roundw
            case rel => exact ⟨k + 1, true, by omega, by go_num, rfl, HK', HB6⟩
            case measure => simp [intOf]; omega
        · have hkk : k = L.length := by omega
          have HK' : Hid (kb = true ↔ UpTo L (i + 1) 0) := Lib.hid (by rw [UpTo.next, ← hkk]; exact HKb.out)
          have HB6 : Hid (Below w2.heap.size w2 wr) := Lib.hid (HB4.out.trans (HBr.out.mono HB4.out.size))
          clear hkk
          go_wp2_with fail
          go_roundw
          case rel => exact ⟨i + 1, kb, by omega, by go_num, rfl, HK', HB6⟩
          case measure => simp [intOf]; omega
    · have hii : i = L.length := by omega
      have HKb : Hid (kb = true ↔ KptP L) := Lib.hid (by rw [← UpTo.all, ← hii]; exact HKb.out)
      have HBw : Hid (Below w.heap.size w wr) := Lib.hid (HB3.out.trans (HBr.out.mono HB3.out.size))
      have HKp : Hid (∀ w', Below wr.heap.size wr w' → Calls Tryz.prog 8 #[.slice A L.length c] w' (KeptO L w')) := Lib.hid fun w' h => kept_any A c L w' (HL.out w' (HBw.out.trans (h.mono HBw.out.size))) HM.out.1
      have HSm : Hid (∀ w', Below wr.heap.size wr w' → Calls Tryz.prog 9 #[.agg #[.int .i64 a.e, .int .i64 a.rk, .int .i64 a.z, .int .i64 a.wh, .int .i64 a.id, .string a.x, .slice a.A na a.c, .bool a.fin], .agg #[.int .i64 b.e, .int .i64 b.rk, .int .i64 b.z, .int .i64 b.wh, .int .i64 b.id, .string b.x, .slice b.A nb b.c, .bool b.fin]] w' fun en w'' => en = .returned (.bool (smB a b)) ∧ Below w'.heap.size w' w'') := Lib.hid fun w' h => HSm0.out w' (HBw.out.trans (h.mono HBw.out.size)) HNab.out.1 HNab.out.2
      have HSa : Hid (∀ w', Below wr.heap.size wr w' → Calls Tryz.prog 9 #[.agg #[.int .i64 a.e, .int .i64 a.rk, .int .i64 a.z, .int .i64 a.wh, .int .i64 a.id, .string a.x, .slice a.A na a.c, .bool a.fin], .agg #[.int .i64 a.e, .int .i64 a.rk, .int .i64 a.z, .int .i64 a.wh, .int .i64 a.id, .string a.x, .slice a.A na a.c, .bool a.fin]] w' fun en w'' => en = .returned (.bool true) ∧ Below w'.heap.size w' w'') := Lib.hid fun w' h => HSa0.out w' (HBw.out.trans (h.mono HBw.out.size)) HNab.out.1
      have HRf : Hid (∀ w', Below wr.heap.size wr w' → Calls Tryz.prog 10 #[.agg #[.int .i64 a.e, .int .i64 a.rk, .int .i64 a.z, .int .i64 a.wh, .int .i64 a.id, .string a.x, .slice a.A na a.c, .bool a.fin], .agg #[.int .i64 b.e, .int .i64 b.rk, .int .i64 b.z, .int .i64 b.wh, .int .i64 b.id, .string b.x, .slice b.A nb b.c, .bool b.fin]] w' fun en w'' => en = .returned (.bool (smB a b)) ∧ Below w'.heap.size w' w'') := Lib.hid fun w' h => HRf0.out w' (HBw.out.trans (h.mono HBw.out.size)) HNab.out.1
      obtain ⟨sq, hsq⟩ : ∃ sq, sq = smB a b := ⟨_, rfl⟩
      rw [← hsq] at HSm HRf
      clear hsq
      have HXA := Lib.hid ((HBr.out.block _ (lt_of_some HXA3.out)).trans HXA3.out)
      have HXB := Lib.hid ((HBr.out.block _ (lt_of_some HXB3.out)).trans HXB3.out)
      have hss : (sq == sq) = true := by simp
      have hkk : (kb == kb) = true := by simp
      clear hii HSm0 HSa0 HRf0
      go_upto_region 17 with fail
      refine wp_region_held_drew (S := (fun w' => Below wr.heap.size wr w')) (by kernel_rfl) (Below.refl wr.heap.size wr).drew (fun hHeld => ?_)
      refine wpAnyH_take (i := 0) (oi := ⟨some 67, _, _, _, _, _⟩) (v := ?_) rfl (by kernel_rfl) (by kernel_rfl) (by kernel_rfl) (fun _ _ _ h => h) (Or.inl ⟨by kernel_rfl, ?_⟩) (by assumption) ?_
      rotate_left 1
      focus (intro w' hSw; clear hSw; go_simp; (try with_reducible rfl))
      try simp only [Act.put, List.setIfInBounds_toArray, List.set_cons_zero, List.set_cons_succ]
      refine wpAnyH_take (i := 2) (oi := ⟨some 69, _, _, _, _, _⟩) (v := ?_) rfl (by kernel_rfl) (by kernel_rfl) (by kernel_rfl) (fun _ _ _ h => h) (Or.inl ⟨by kernel_rfl, ?_⟩) (by assumption) ?_
      rotate_left 1
      focus (intro w' hSw; clear hSw; go_simp; (try with_reducible rfl))
      try simp only [Act.put, List.setIfInBounds_toArray, List.set_cons_zero, List.set_cons_succ]
      refine wpAnyH_ready (rs := [1]) (by kernel_rfl) (by simp) ?_
      refine AllReadyH.cons rfl (fun K hK => ?_) AllReadyH.nil
      go_simp
      go_at_call 8
      refine (HKp.out _ ((Below.refl wr.heap.size wr).drew)).mono ?_
      rintro en v1 ⟨⟨kq, rfl, hkq⟩, hv1⟩
      have hc1 : Below wr.heap.size wr v1 := (Below.refl wr.heap.size wr).drew.trans (hv1.mono (Below.refl wr.heap.size wr).drew.size)
      obtain rfl : kq = kb := bool_iff hkq HKb.out
      clear hHeld
      refine hK.out _ _ (((Below.refl wr.heap.size wr).drew.trans (hv1.mono (Below.refl wr.heap.size wr).drew.size))) (fun hHeld => ?_)
      clear hK
      refine wpAnyH_take (i := 3) (oi := ⟨some 70, _, _, _, _, _⟩) (v := ?_) rfl (by kernel_rfl) (by kernel_rfl) (by kernel_rfl) (fun _ _ _ h => h) (Or.inl ⟨by kernel_rfl, ?_⟩) (by assumption) ?_
      rotate_left 1
      focus (intro w' hSw; clear hSw; go_simp; (try with_reducible rfl))
      try simp only [Act.put, List.setIfInBounds_toArray, List.set_cons_zero, List.set_cons_succ]
      refine wpAnyH_take (i := 4) (oi := ⟨some 71, _, _, _, _, _⟩) (v := ?_) rfl (by kernel_rfl) (by kernel_rfl) (by kernel_rfl) (fun _ _ _ h => h) (Or.inl ⟨by kernel_rfl, ?_⟩) (by assumption) ?_
      rotate_left 1
      focus (intro w' hSw; clear hSw; go_simp; (try with_reducible rfl))
      try simp only [Act.put, List.setIfInBounds_toArray, List.set_cons_zero, List.set_cons_succ]
      refine wpAnyH_take (i := 5) (oi := ⟨some 72, _, _, _, _, _⟩) (v := ?_) rfl (by kernel_rfl) (by kernel_rfl) (by kernel_rfl) (fun _ _ _ h => h) (Or.inl ⟨by kernel_rfl, ?_⟩) (by assumption) ?_
      rotate_left 1
      focus (intro w' hSw; have hx := (hSw.block _ (lt_of_some HXA.out)).trans HXA.out; have q0 := cell_of_blk hx 0; have q1 := cell_of_blk hx 1; have q2 := cell_of_blk hx 2; have q3 := cell_of_blk hx 3; have q4 := cell_of_blk hx 4; have q5 := cell_of_blk hx 5; have q6 := cell_of_blk hx 6; have q7 := cell_of_blk hx 7; clear hx hSw; go_simp; (try with_reducible rfl))
      try simp only [Act.put, List.setIfInBounds_toArray, List.set_cons_zero, List.set_cons_succ]
      refine wpAnyH_take (i := 6) (oi := ⟨some 73, _, _, _, _, _⟩) (v := ?_) rfl (by kernel_rfl) (by kernel_rfl) (by kernel_rfl) (fun _ _ _ h => h) (Or.inl ⟨by kernel_rfl, ?_⟩) (by assumption) ?_
      rotate_left 1
      focus (intro w' hSw; have hx := (hSw.block _ (lt_of_some HXB.out)).trans HXB.out; have q0 := cell_of_blk hx 0; have q1 := cell_of_blk hx 1; have q2 := cell_of_blk hx 2; have q3 := cell_of_blk hx 3; have q4 := cell_of_blk hx 4; have q5 := cell_of_blk hx 5; have q6 := cell_of_blk hx 6; have q7 := cell_of_blk hx 7; clear hx hSw; go_simp; (try with_reducible rfl))
      try simp only [Act.put, List.setIfInBounds_toArray, List.set_cons_zero, List.set_cons_succ]
      refine wpAnyH_take (i := 8) (oi := ⟨some 75, _, _, _, _, _⟩) (v := ?_) rfl (by kernel_rfl) (by kernel_rfl) (by kernel_rfl) (fun _ _ _ h => h) (Or.inl ⟨by kernel_rfl, ?_⟩) (by assumption) ?_
      rotate_left 1
      focus (intro w' hSw; have hx := (hSw.block _ (lt_of_some HXA.out)).trans HXA.out; have q0 := cell_of_blk hx 0; have q1 := cell_of_blk hx 1; have q2 := cell_of_blk hx 2; have q3 := cell_of_blk hx 3; have q4 := cell_of_blk hx 4; have q5 := cell_of_blk hx 5; have q6 := cell_of_blk hx 6; have q7 := cell_of_blk hx 7; clear hx hSw; go_simp; (try with_reducible rfl))
      try simp only [Act.put, List.setIfInBounds_toArray, List.set_cons_zero, List.set_cons_succ]
      refine wpAnyH_take (i := 9) (oi := ⟨some 76, _, _, _, _, _⟩) (v := ?_) rfl (by kernel_rfl) (by kernel_rfl) (by kernel_rfl) (fun _ _ _ h => h) (Or.inl ⟨by kernel_rfl, ?_⟩) (by assumption) ?_
      rotate_left 1
      focus (intro w' hSw; have hx := (hSw.block _ (lt_of_some HXB.out)).trans HXB.out; have q0 := cell_of_blk hx 0; have q1 := cell_of_blk hx 1; have q2 := cell_of_blk hx 2; have q3 := cell_of_blk hx 3; have q4 := cell_of_blk hx 4; have q5 := cell_of_blk hx 5; have q6 := cell_of_blk hx 6; have q7 := cell_of_blk hx 7; clear hx hSw; go_simp; (try with_reducible rfl))
      try simp only [Act.put, List.setIfInBounds_toArray, List.set_cons_zero, List.set_cons_succ]
      refine wpAnyH_ready (rs := [7]) (by kernel_rfl) (by simp) ?_
      refine AllReadyH.cons rfl (fun K hK => ?_) AllReadyH.nil
      go_simp
      go_at_call 9
      refine (HSm.out v1 hc1).mono ?_
      rintro en v2 ⟨rfl, hv2⟩
      have hc2 : Below wr.heap.size wr v2 := hc1.trans (hv2.mono hc1.size)
      clear hHeld
      refine hK.out _ _ ((hc1.trans (hv2.mono hc1.size))) (fun hHeld => ?_)
      clear hK
      refine wpAnyH_ready (rs := [10]) (by kernel_rfl) (by simp) ?_
      refine AllReadyH.cons rfl (fun K hK => ?_) AllReadyH.nil
      go_simp
      go_at_call 10
      refine (HRf.out v2 hc2).mono ?_
      rintro en v3 ⟨rfl, hv3⟩
      have hc3 : Below wr.heap.size wr v3 := hc2.trans (hv3.mono hc2.size)
      clear hHeld
      refine hK.out _ _ ((hc2.trans (hv3.mono hc2.size))) (fun hHeld => ?_)
      clear hK
      refine wpAnyH_take (i := 11) (oi := ⟨some 78, _, _, _, _, _⟩) (v := ?_) rfl (by kernel_rfl) (by kernel_rfl) (by kernel_rfl) (fun _ _ _ h => h) (Or.inl ⟨by kernel_rfl, ?_⟩) (by assumption) ?_
      rotate_left 1
      focus (intro w' hSw; clear hSw; go_simp; (try with_reducible rfl))
      try simp only [Act.put, List.setIfInBounds_toArray, List.set_cons_zero, List.set_cons_succ]
      refine wpAnyH_take (i := 12) (oi := ⟨some 79, _, _, _, _, _⟩) (v := ?_) rfl (by kernel_rfl) (by kernel_rfl) (by kernel_rfl) (fun _ _ _ h => h) (Or.inl ⟨by kernel_rfl, ?_⟩) (by assumption) ?_
      rotate_left 1
      focus (intro w' hSw; clear hSw; go_simp; (try with_reducible rfl))
      try simp only [Act.put, List.setIfInBounds_toArray, List.set_cons_zero, List.set_cons_succ]
      refine wpAnyH_take (i := 13) (oi := ⟨some 80, _, _, _, _, _⟩) (v := ?_) rfl (by kernel_rfl) (by kernel_rfl) (by kernel_rfl) (fun _ _ _ h => h) (Or.inl ⟨by kernel_rfl, ?_⟩) (by assumption) ?_
      rotate_left 1
      focus (intro w' hSw; clear hSw; go_simp; (try with_reducible rfl))
      try simp only [Act.put, List.setIfInBounds_toArray, List.set_cons_zero, List.set_cons_succ]
      refine wpAnyH_take (i := 14) (oi := ⟨some 81, _, _, _, _, _⟩) (v := ?_) rfl (by kernel_rfl) (by kernel_rfl) (by kernel_rfl) (fun _ _ _ h => h) (Or.inl ⟨by kernel_rfl, ?_⟩) (by assumption) ?_
      rotate_left 1
      focus (intro w' hSw; have hx := (hSw.block _ (lt_of_some HXA.out)).trans HXA.out; have q0 := cell_of_blk hx 0; have q1 := cell_of_blk hx 1; have q2 := cell_of_blk hx 2; have q3 := cell_of_blk hx 3; have q4 := cell_of_blk hx 4; have q5 := cell_of_blk hx 5; have q6 := cell_of_blk hx 6; have q7 := cell_of_blk hx 7; clear hx hSw; go_simp; (try with_reducible rfl))
      try simp only [Act.put, List.setIfInBounds_toArray, List.set_cons_zero, List.set_cons_succ]
      refine wpAnyH_take (i := 15) (oi := ⟨some 82, _, _, _, _, _⟩) (v := ?_) rfl (by kernel_rfl) (by kernel_rfl) (by kernel_rfl) (fun _ _ _ h => h) (Or.inl ⟨by kernel_rfl, ?_⟩) (by assumption) ?_
      rotate_left 1
      focus (intro w' hSw; have hx := (hSw.block _ (lt_of_some HXA.out)).trans HXA.out; have q0 := cell_of_blk hx 0; have q1 := cell_of_blk hx 1; have q2 := cell_of_blk hx 2; have q3 := cell_of_blk hx 3; have q4 := cell_of_blk hx 4; have q5 := cell_of_blk hx 5; have q6 := cell_of_blk hx 6; have q7 := cell_of_blk hx 7; clear hx hSw; go_simp; (try with_reducible rfl))
      try simp only [Act.put, List.setIfInBounds_toArray, List.set_cons_zero, List.set_cons_succ]
      refine wpAnyH_ready (rs := [16]) (by kernel_rfl) (by simp) ?_
      refine AllReadyH.cons rfl (fun K hK => ?_) AllReadyH.nil
      go_simp
      go_at_call 9
      refine (HSa.out v3 hc3).mono ?_
      rintro en v4 ⟨rfl, hv4⟩
      have hc4 : Below wr.heap.size wr v4 := hc3.trans (hv4.mono hc3.size)
      clear hHeld
      refine hK.out _ _ ((hc3.trans (hv4.mono hc3.size))) (fun hHeld => ?_)
      clear hK
      refine wpAnyH_take (i := 17) (oi := ⟨some 84, _, _, _, _, _⟩) (v := ?_) rfl (by kernel_rfl) (by kernel_rfl) (by kernel_rfl) (fun _ _ _ h => h) (Or.inl ⟨by kernel_rfl, ?_⟩) (by assumption) ?_
      rotate_left 1
      focus (intro w' hSw; clear hSw; go_simp; (try with_reducible rfl))
      try simp only [Act.put, List.setIfInBounds_toArray, List.set_cons_zero, List.set_cons_succ]
      refine wpAnyH_take (i := 18) (oi := ⟨some 6, _, _, _, _, _⟩) (v := ?_) rfl (by kernel_rfl) (by kernel_rfl) (by kernel_rfl) (fun _ _ _ h => h) (Or.inl ⟨by kernel_rfl, ?_⟩) (by assumption) ?_
      rotate_left 1
      focus (intro w' hSw; clear hSw; go_simp; (try with_reducible rfl))
      try simp only [Act.put, List.setIfInBounds_toArray, List.set_cons_zero, List.set_cons_succ]
      refine wpAnyH_done (by kernel_rfl) ?_ _
      clear hHeld
      have HBe := Lib.hid (HBw.out.trans (hc4.mono HBw.out.size))
      clear hv1 hv2 hv3 hv4 hc1 hc2 hc3 hc4 HKp HSm HSa HRf
      go_wp2_with fail
      go_ret
      exact ⟨by simp, HBe.out⟩
end Go.Proofs.YtkigkdiphhecaaaGreat.tal
