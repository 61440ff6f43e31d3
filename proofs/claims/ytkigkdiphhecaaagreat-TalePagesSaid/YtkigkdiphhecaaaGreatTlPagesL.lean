/- TalePages' law. Conditions: the records lie in memory, and their names. -/
import Derived.Test.YtkigkdiphhecaaaGreatTlPages
namespace Go.Proofs.YtkigkdiphhecaaaGreat.tal
set_option maxRecDepth 100000
open Go.RowKit Go.Proofs.YtkigkdiphhecaaaGreat.words

set_option maxHeartbeats 12800000 in
theorem law_pages (A : Option Addr) (c : Nat) (L : List Rc) (id : Int) (w : World) (hL : Recs w A L) (hN : RecsN w L) (hl : L.length ≤ 9223372036854775807) : Calls Tryz.prog 4 #[.slice A L.length c, .int .i64 id] w fun e w' => e = .returned (.bool true) ∧ Below w.heap.size w w' := by
  obtain ⟨i0', hi, hz0, hz1, hz2⟩ := lru.info_three infoTxt
  have HL : Hid (∀ w', Below w.heap.size w w' → Recs w' A L) := Lib.hid fun w' hb => hL.later hb
  have HN : Hid (∀ w', Below w.heap.size w w' → RecsN w' L) := Lib.hid fun w' hb => hN.later hb
  have HS := Lib.hid (speaks_any w)
  have HMy : Hid (∀ w', Below w.heap.size w w' → Calls Tryz.prog 6 #[.slice A L.length c] w' (MayO L w')) := Lib.hid fun w' hb => may_any A c L w' (HL.out w' hb) hl
  clear hL hN
  go_enter Tryz.func4, Tryz.ntmps4
  go_wp2_with fail
  refine HS.out.mono ?_
  rintro e w1 ⟨rfl, hb1⟩
  have HB1 := Lib.hid hb1
  have HMy1 := Lib.hid (HMy.out w1 hb1)
  clear hb1 HS HMy
  go_wp2_with fail
  refine HMy1.out.mono ?_
  rintro e w2 ⟨⟨bm, rfl, hM⟩, hb2⟩
  have HB2 := Lib.hid (HB1.out.trans (hb2.mono HB1.out.size))
  clear hb2 HMy1
  rcases bm with _ | _
  · go_wp2_with fail
    go_ret
    exact ⟨rfl, HB2.out⟩
  have HM := Lib.hid (hM rfl)
  clear hM
  go_wp2_with fail
  go_loopw [18, 6, 5] (fun v vf va wr => ∃ (k : Nat) (fin : Bool), k ≤ L.length ∧ v = .int .i64 (k : Int) ∧ vf = .bool fin ∧ Hid (InPg L id w k va fin wr)) (fun v _ _ _ => L.length - (intOf v).toNat)
  case atStart => exact ⟨0, false, Nat.zero_le _, rfl, rfl, Lib.hid (InPg.zero L id w _ HB2.out)⟩
  case round =>
    obtain ⟨va, hva⟩ : ∃ va, va = u5 := ⟨_, rfl⟩
    subst hva
    obtain ⟨k, fin, hk, rfl, rfl, HP⟩ := hrel
    by_cases hlt : k < L.length
    · obtain ⟨r, hr⟩ : ∃ r, L[k]? = some r := ⟨_, List.getElem?_eq_getElem hlt⟩
      obtain ⟨b, off, hA, hb, hrg⟩ := (HL.out wr HP.out.below) k r hr
      subst hA
      have hmem : r ∈ L := List.mem_of_getElem? hr
      have l60 : L.length ≤ 60 := HM.out.1
      have i0 : (0 : Int) ≤ (k : Int) := by omega
      have i1 : (k : Int) < (L.length : Int) := by omega
      obtain ⟨W2, hW2⟩ : ∃ W2, W2 = wr.alloc (.cells #[.int .i64 r.cl, .int .i64 r.ix, .int .i64 r.k, .string r.p, .int .i64 r.o, .int .i64 r.n, .int .i64 r.i, .string r.g, .int .i64 r.e, .int .i64 r.rk, .int .i64 r.z, .int .i64 r.wh, .int .i64 r.id, .string r.x, .slice r.A r.N.length r.c, .bool r.fin, .int .i64 r.ca, .int .i64 r.ma, .int .i64 r.re] 32) := ⟨_, rfl⟩
      obtain ⟨g5, hg5⟩ : ∃ g5, g5 = wr.heap.size := ⟨_, rfl⟩
      have hb2 : Below wr.heap.size wr W2 := by rw [hW2]; exact (Below.refl _ _).alloc (Nat.le_refl _) _
      have hx5 : W2.heap[g5]? = some (.cells #[.int .i64 r.cl, .int .i64 r.ix, .int .i64 r.k, .string r.p, .int .i64 r.o, .int .i64 r.n, .int .i64 r.i, .string r.g, .int .i64 r.e, .int .i64 r.rk, .int .i64 r.z, .int .i64 r.wh, .int .i64 r.id, .string r.x, .slice r.A r.N.length r.c, .bool r.fin, .int .i64 r.ca, .int .i64 r.ma, .int .i64 r.re] 32 (0, 0)) := by rw [hW2, hg5]; exact heap_alloc_new wr _
      have HX5 := Lib.hid hx5
      have c2 := cell_of_blk hx5 2
      have c6 := cell_of_blk hx5 6
      have c8 := cell_of_blk hx5 8
      have c14 := cell_of_blk hx5 14
      have c15 := cell_of_blk hx5 15
      have HRk : Hid (wr.rangeAt b (off + k * 19) r.cs) := Lib.hid hrg
      have HW2 := Lib.hid hW2
      have HG5 := Lib.hid hg5
      have HSk : Hid (matB id r = false → ∀ w3, Below W2.heap.size W2 w3 → InPg L id w (k + 1) va fin w3) := Lib.hid fun hm w3 hb3 => HP.out.skip hr hm (hb2.trans (hb3.mono hb2.size))
      have HMr : Hid (matB id r = true → ∀ v' w3, w3.ownsRow w.heap.size 9 1 v' ((nmsP id (L.take k)).length + r.N.length) ((nmsP id (L.take k)).map Value.string ++ r.N.map Value.string) → W2.grownBy w3 va.ownBlock → InPg L id w (k + 1) v' r.fin w3) := Lib.hid fun hm v' w3 h1 h2 => HP.out.more hr hm hb2 h1 h2
      have HOw : Hid (W2.ownsRow w.heap.size 9 1 va (nmsP id (L.take k)).length ((nmsP id (L.take k)).map Value.string)) := Lib.hid (own_later HP.out.own hb2)
      have HTx : Hid (Txs W2 r.A r.N ∧ (r.A = none → r.N.length = 0 ∧ r.c = 0)) := Lib.hid ⟨((HN.out wr HP.out.below) r hmem).1.later hb2, ((HN.out wr HP.out.below) r hmem).2⟩
      have HFw : Hid (r.N.length ≤ 100 ∧ (nmsP id (L.take k)).length ≤ 6000) := Lib.hid ⟨HM.out.2 r hmem, by
        have h1 := nmsP_few id (L.take k) fun x hx => HM.out.2 x (List.mem_of_mem_take hx)
        have h2 : (L.take k).length ≤ 60 := Nat.le_trans (List.length_take_le' k L) HM.out.1
        omega⟩
      have HBw : Hid (w.heap.size ≤ W2.heap.size) := Lib.hid (Nat.le_trans HP.out.below.size hb2.size)
      obtain ⟨nn, hnn⟩ : ∃ nn, nn = r.N.length := ⟨_, rfl⟩
      obtain ⟨nm, hnm⟩ : ∃ nm, nm = (nmsP id (L.take k)).length := ⟨_, rfl⟩
      rw [← hnn] at c14 HTx HFw HMr HX5 HW2
      rw [← hnm] at HOw HFw HMr
      have HNn := Lib.hid hnn
      have HNm := Lib.hid hnm
      clear hr hrg hb hW2 hg5 hb2 hx5 hmem hnn hnm HP
      go_upto_region 10 with (first | (refine wl_load rfl rfl rfl HRk.out ?_; rw [← HNn.out]) | (rw [HNn.out]; refine wl_put (r := r) rfl rfl rfl rfl rfl ?_; rw [← HNn.out]))
      rw [← HW2.out]
      simp only [← HG5.out]
      clear HW2 HG5 HRk
      by_cases h1 : r.k = 6
      rotate_left 1
      · have HE := Lib.hid (HSk.out (by unfold matB; simp [h1]) W2 (Below.refl _ _))
        obtain ⟨u1, u2⟩ := int_no h1
        clear c14 c15
        go_wp2_with fail
        go_roundw
        case rel => exact ⟨k + 1, fin, by omega, by go_num, rfl, HE⟩
        case measure => simp [intOf]; omega
      obtain ⟨ph1, qh1⟩ := int_yes h1
      have Hh1 := Lib.hid h1
      clear h1
      by_cases h2 : r.i = id
      rotate_left 1
      · have HE := Lib.hid (HSk.out (by unfold matB; simp [h2]) W2 (Below.refl _ _))
        obtain ⟨u1, u2⟩ := int_no h2
        clear c14 c15
        go_wp2_with fail
        go_roundw
        case rel => exact ⟨k + 1, fin, by omega, by go_num, rfl, HE⟩
        case measure => simp [intOf]; omega
      obtain ⟨ph2, qh2⟩ := int_yes h2
      have Hh2 := Lib.hid h2
      clear h2
      by_cases h3 : r.e = 0
      rotate_left 1
      · have HE := Lib.hid (HSk.out (by unfold matB; simp [h3]) W2 (Below.refl _ _))
        obtain ⟨u1, u2⟩ := int_no h3
        clear c14 c15
        go_wp2_with fail
        go_roundw
        case rel => exact ⟨k + 1, fin, by omega, by go_num, rfl, HE⟩
        case measure => simp [intOf]; omega
      obtain ⟨ph3, qh3⟩ := int_yes h3
      have Hh3 := Lib.hid h3
      clear h3
      have HMr2 := Lib.hid (HMr.out (by unfold matB; simp [Hh1.out, Hh2.out, Hh3.out]))
      clear HMr HSk
      go_upto_region 11 with fail
      clear c2 c6 c8 c14 c15
      refine wp_region_held_drew (S := (fun w' => w'.heap[g5]? = some (.cells #[.int .i64 r.cl, .int .i64 r.ix, .int .i64 r.k, .string r.p, .int .i64 r.o, .int .i64 r.n, .int .i64 r.i, .string r.g, .int .i64 r.e, .int .i64 r.rk, .int .i64 r.z, .int .i64 r.wh, .int .i64 r.id, .string r.x, .slice r.A nn r.c, .bool r.fin, .int .i64 r.ca, .int .i64 r.ma, .int .i64 r.re] 32 (0, 0)))) (by kernel_rfl) HX5.out (fun hHeld => ?_)
      refine wpAnyH_take (i := 0) (oi := ⟨some 39, _, _, _, _, _⟩) (v := ?_) rfl (by kernel_rfl) (by kernel_rfl) (by kernel_rfl) (fun _ _ _ h => h) (Or.inl ⟨by kernel_rfl, ?_⟩) (by assumption) ?_
      rotate_left 1
      focus (intro w' hSw; clear hSw; go_simp; (try with_reducible rfl))
      try simp only [Act.put, List.setIfInBounds_toArray, List.set_cons_zero, List.set_cons_succ]
      refine wpAnyH_take (i := 1) (oi := ⟨some 40, _, _, _, _, _⟩) (v := ?_) rfl (by kernel_rfl) (by kernel_rfl) (by kernel_rfl) (fun _ _ _ h => h) (Or.inl ⟨by kernel_rfl, ?_⟩) (by assumption) ?_
      rotate_left 1
      focus (intro w' hSw; clear hSw; go_simp; (try with_reducible rfl))
      try simp only [Act.put, List.setIfInBounds_toArray, List.set_cons_zero, List.set_cons_succ]
      refine wpAnyH_take (i := 2) (oi := ⟨some 41, _, _, _, _, _⟩) (v := ?_) rfl (by kernel_rfl) (by kernel_rfl) (by kernel_rfl) (fun _ _ _ h => h) (Or.inl ⟨by kernel_rfl, ?_⟩) (by assumption) ?_
      rotate_left 1
      focus (intro w' hSw; clear hSw; go_simp; (try with_reducible rfl))
      try simp only [Act.put, List.setIfInBounds_toArray, List.set_cons_zero, List.set_cons_succ]
      refine wpAnyH_take (i := 3) (oi := ⟨some 42, _, _, _, _, _⟩) (v := ?_) rfl (by kernel_rfl) (by kernel_rfl) (by kernel_rfl) (fun _ _ _ h => h) (Or.inl ⟨by kernel_rfl, ?_⟩) (by assumption) ?_
      rotate_left 1
      focus (intro w' hSw; have q1 := cell_of_blk hSw 14; clear hSw; go_simp; (try with_reducible rfl))
      try simp only [Act.put, List.setIfInBounds_toArray, List.set_cons_zero, List.set_cons_succ]
      refine wpAnyH_take (i := 5) (oi := ⟨some 44, _, _, _, _, _⟩) (v := ?_) rfl (by kernel_rfl) (by kernel_rfl) (by kernel_rfl) (fun _ _ _ h => h) (Or.inl ⟨by kernel_rfl, ?_⟩) (by assumption) ?_
      rotate_left 1
      focus (intro w' hSw; clear hSw; go_simp; (try with_reducible rfl))
      try simp only [Act.put, List.setIfInBounds_toArray, List.set_cons_zero, List.set_cons_succ]
      refine wpAnyH_take (i := 6) (oi := ⟨some 45, _, _, _, _, _⟩) (v := ?_) rfl (by kernel_rfl) (by kernel_rfl) (by kernel_rfl) (fun _ _ _ h => h) (Or.inl ⟨by kernel_rfl, ?_⟩) (by assumption) ?_
      rotate_left 1
      focus (intro w' hSw; clear hSw; go_simp; (try with_reducible rfl))
      try simp only [Act.put, List.setIfInBounds_toArray, List.set_cons_zero, List.set_cons_succ]
      refine wpAnyH_take (i := 7) (oi := ⟨some 46, _, _, _, _, _⟩) (v := ?_) rfl (by kernel_rfl) (by kernel_rfl) (by kernel_rfl) (fun _ _ _ h => h) (Or.inl ⟨by kernel_rfl, ?_⟩) (by assumption) ?_
      rotate_left 1
      focus (intro w' hSw; have q1 := cell_of_blk hSw 15; clear hSw; go_simp; (try with_reducible rfl))
      try simp only [Act.put, List.setIfInBounds_toArray, List.set_cons_zero, List.set_cons_succ]
      refine wpAnyH_ready (rs := [4]) (by kernel_rfl) (by simp) ?_
      refine AllReadyH.cons rfl (fun K hK => ?_) AllReadyH.nil
      refine step_append_opt W2.drew rfl (.tmp 39) (.tmp 42) 24 rfl w.heap.size 9 i0' _ 1 16 Tryz.underlying24 hi hz0 hz1 hz2 rfl (by omega) va nm ((nmsP id (L.take k)).map Value.string) rfl (own_later HOw.out (Below.refl _ _).drew) r.A nn r.c (r.N.map Value.string) HTx.out.2 rfl (by rw [List.length_map, HNn.out]; omega) (HTx.out.1.later (Below.refl _ _).drew).lies (txt_one _) (by simp only [maxLen]; have := HFw.out; omega) (by have := HFw.out; omega) HBw.out ?_
      intro v' w3 hown hgrow
      have HE := Lib.hid (HMr2.out v' w3 hown ⟨hgrow.os, hgrow.tape, hgrow.output, hgrow.size, hgrow.block⟩)
      have hx3 := (hgrow.block g5 (lt_of_some HX5.out) (fun e => own_ne HOw.out HX5.out (by decide) e.symm)).trans HX5.out
      clear hown hgrow hHeld
      refine hK.out _ _ (hx3) (fun hHeld => ?_)
      clear hK
      refine wpAnyH_take (i := 8) (oi := ⟨some 5, _, _, _, _, _⟩) (v := ?_) rfl (by kernel_rfl) (by kernel_rfl) (by kernel_rfl) (fun _ _ _ h => h) (Or.inl ⟨by kernel_rfl, ?_⟩) (by assumption) ?_
      rotate_left 1
      focus (intro w' hSw; clear hSw; go_simp; (try with_reducible rfl))
      try simp only [Act.put, List.setIfInBounds_toArray]
      refine wpAnyH_take (i := 9) (oi := ⟨some 6, _, _, _, _, _⟩) (v := ?_) rfl (by kernel_rfl) (by kernel_rfl) (by kernel_rfl) (fun _ _ _ h => h) (Or.inl ⟨by kernel_rfl, ?_⟩) (by assumption) ?_
      rotate_left 1
      focus (intro w' hSw; clear hSw; go_simp; (try with_reducible rfl))
      try simp only [Act.put]
      refine wpAnyH_done (by kernel_rfl) ?_ _
      clear hHeld hx3
      go_wp2_with fail
      go_roundw
      case rel => exact ⟨k + 1, r.fin, by omega, by go_num, rfl, HE⟩
      case measure => simp [intOf]; omega
    · obtain ⟨A', c', rfl, rfl, h1, h2⟩ := HP.out.done (by omega)
      have HPg := Lib.hid (pages_any A c L id wr (HL.out wr h2) (HN.out wr h2) HM.out)
      have HE := Lib.hid (And.intro h1 h2)
      have HFw : Hid ((nmsP id L).length ≤ 6000) := Lib.hid (by
        have := nmsP_few id L HM.out.2
        have := HM.out.1
        omega)
      clear h1 h2
      go_wp2_with fail
      refine HPg.out.mono ?_
      rintro e w4 ⟨A4, c4, rfl, ht4, hb4⟩
      have HR := Lib.hid (rows_any A4 c4 (nmsP id L) A' c' (nmsP id L) w4 ht4 (HE.out.1.later hb4) (by have := HFw.out; omega) (by have := HFw.out; omega))
      have hd : decide (nmsP id L = nmsP id L) = true := by simp
      rw [hd] at HR
      have HB4 := Lib.hid (HE.out.2.trans (hb4.mono HE.out.2.size))
      clear ht4 hb4 hd HPg
      obtain ⟨nq, hnq⟩ : ∃ nq, nq = (nmsP id L).length := ⟨_, rfl⟩
      rw [← hnq] at HR ⊢
      obtain ⟨fq, hfq⟩ : ∃ fq, fq = endP id false L := ⟨_, rfl⟩
      rw [← hfq]
      clear hnq hfq
      have hff : (fq == fq) = true := by simp
      go_wp2_with fail
      refine HR.out.mono ?_
      rintro e w5 ⟨rfl, hb5⟩
      have HB5 := Lib.hid (HB4.out.trans (hb5.mono HB4.out.size))
      clear hb5 HR
      go_wp2_with fail
      go_ret
      exact ⟨by simp, HB5.out⟩
end Go.Proofs.YtkigkdiphhecaaaGreat.tal
