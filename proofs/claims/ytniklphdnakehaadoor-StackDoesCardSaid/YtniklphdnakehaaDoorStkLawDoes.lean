/- The law of stacks: whatever is added and removed, each answer and all branches; no stack that was is changed. Conditions: what came in lies in memory; the library's MaxLen holds a number. -/
import Derived.Test.YtniklphdnakehaaDoorStkDoes
import Derived.Test.YtniklphdnakehaaDoorStkSpeaks
namespace Go.Proofs.YtniklphdnakehaaDoor.stk
set_option maxRecDepth 100000
open Go.RowKit Go.Proofs.YtniklphdnakehaaDoor.words Go.Proofs.YtniklphdnakehaaDoor.ext Go.Proofs.YtniklphdnakehaaDoor.name Go.Proofs.YtniklphdnakehaaDoor.tre

/-- What is asked, as it lies in memory. -/
def Acts (w : World) (B : Nat) (A : Option Addr) (T : List (Bool × Int)) : Prop :=
  ∀ (i : Nat) (x : Bool × Int), T[i]? = some x → ∃ b off, A = some ⟨b, off, none⟩ ∧ b < B ∧ w.cell? ⟨b, off + i * 2, none⟩ = some (.bool x.1) ∧ w.cell? ⟨b, off + i * 2 + 1, none⟩ = some (.int .i64 x.2)
theorem Acts.keep {w w' : World} {B : Nat} {A : Option Addr} {T : List (Bool × Int)} (h : Acts w B A T) (hb : Below B w w') : Acts w' B A T := fun i x hx => by
  obtain ⟨b, off, h1, h2, h3, h4⟩ := h i x hx
  exact ⟨b, off, h1, h2, (hb.cell (p := ⟨b, off + i * 2, none⟩) h2).trans h3, (hb.cell (p := ⟨b, off + i * 2 + 1, none⟩) h2).trans h4⟩
theorem infoStk : (Tryd.prog.info? 54).map (fun i => (i.zero, i.size, i.bytes)) = some (some (.agg #[.slice none 0 0, .int .i64 0]), 2, 32) := by kernel_rfl
theorem infoIds : (Tryd.prog.info? 55).map (fun i => (i.zero, i.size, i.bytes)) = some (some (.slice none 0 0), 1, 24) := by kernel_rfl
theorem infoInt : (Tryd.prog.info? 3).map (fun i => (i.zero, i.size, i.bytes)) = some (some (.int .i64 0), 1, 8) := by kernel_rfl
theorem infoPtr : (Tryd.prog.info? 39).map (fun i => (i.zero, i.size, i.bytes)) = some (some (.pointer none), 1, 8) := by kernel_rfl
theorem stC_at : ∀ {H : List Hst} {k : Nat} {x : Hst}, H[k]? = some x → ∀ j, j < 2 → (H.flatMap stC)[k * 2 + j]? = (stC x)[j]?
  | [], k, x, hk, _, _ => by simp at hk
  | y :: L, k, x, hk, j, hj => by
    rw [List.flatMap_cons]
    rcases k with _ | k
    · obtain rfl : y = x := by simpa using hk
      rw [List.getElem?_append_left (by simp [stC]; omega), Nat.zero_mul, Nat.zero_add]
    · rw [List.getElem?_append_right (by simp [stC]; omega), ← stC_at (H := L) (k := k) (by simpa using hk) j hj]
      congr 1
      simp [stC]; omega
theorem idC_one (L : List (Nat × Int)) : ∀ u ∈ L.map idC, u.oneCell' = true := fun u hu => by
  obtain ⟨x, _, rfl⟩ := List.mem_map.1 hu
  rfl
theorem new_cell (w : World) (cs : Array Value) (E : TypeId) (i : Nat) : (w.alloc (.cells cs E)).cell? ((⟨w.heap.size, 0, none⟩ : Addr).add i) = cs[i]? := by
  rw [add_place, Nat.zero_add]
  exact cell_of_blk (heap_alloc_new w _) i

set_option maxHeartbeats 25600000 in
theorem law_does (A0 : Option Addr) (c0 : Nat) (T : List (Bool × Int)) (m : Int) (w : World) (hT : Acts w w.heap.size A0 T) (hm : w.cell? ⟨0, 0, none⟩ = some (.int .i64 m)) (hlm : T.length ≤ 140737488355328) :
    Calls Tryd.prog 5 #[.slice A0 T.length c0] w fun e w' => e = .returned (.bool true) ∧ Below w.heap.size w w' := by
  have HT := Lib.hid hT
  have HM := Lib.hid hm
  clear hT hm
  go_enter Tryd.func5, Tryd.ntmps5
  go_wp2_with fail
  refine (sspeaks_any m w HM.out).mono ?_
  rintro e w1 ⟨rfl, hb1⟩
  have HB1 := Lib.hid hb1
  clear hb1
  by_cases hn : 200 < T.length
  · have g : (200 : Int) < (T.length : Int) := by omega
    go_wp2_with fail
    go_ret
    exact ⟨rfl, HB1.out⟩
  · have g : ¬ (200 : Int) < (T.length : Int) := by omega
    obtain ⟨W2, hW2⟩ : ∃ W2, W2 = w1.alloc (.cells #[.slice none 0 0, .int .i64 0] 54) := ⟨_, rfl⟩
    have HI0 := Lib.hid (InS.start w1 W2 hW2)
    have HW2 := Lib.hid hW2
    clear hW2
    go_upto_region 6 with fail
    rw [← HW2.out]
    clear HW2
    obtain ⟨iS, hiS, zS0, zS1, zS2⟩ := info_parts infoStk
    obtain ⟨iI, hiI, zI0, zI1, zI2⟩ := info_parts infoIds
    obtain ⟨iN, hiN, zN0, zN1, zN2⟩ := info_parts infoInt
    obtain ⟨iP, hiP, zP0, zP1, zP2⟩ := info_parts infoPtr
    go_wp2_with fail
    go_loopw [29, 4, 5, 6, 7] (fun v v4 v5 v6 v7 wr => ∃ (k : Nat) (A : Option Addr) (c : Nat) (L : List (Nat × Int)) (G : List Nat) (H : List Hst), v = .int .i64 (k : Int) ∧ k ≤ T.length ∧ Hid (InS w1 A c (G.length : Int) L v4 v5 v6 v7 G H wr) ∧ Hid (H.length = k ∧ G.length ≤ k)) (fun v _ _ _ _ _ => T.length - (intOf v).toNat)
    case atStart => exact ⟨0, none, 0, [], [], [], rfl, Nat.zero_le _, HI0, Lib.hid ⟨rfl, Nat.le_refl _⟩⟩
    case round =>
      clear HI0
      obtain ⟨k, A, c, L, G, H, rfl, hk, HI, HL⟩ := hrel
      obtain ⟨Ai, ci, rfl, qi1, qi2⟩ := own_facts HI.out.ids
      obtain ⟨Ag, cg, rfl, _, _⟩ := own_facts HI.out.brs
      obtain ⟨A6, c6, rfl, _, _⟩ := own_facts HI.out.was
      obtain ⟨A7, c7, rfl, _, _⟩ := own_facts HI.out.had
      by_cases hlt : k < T.length
      · obtain ⟨⟨o, d⟩, hx⟩ : ∃ x, T[k]? = some x := ⟨_, List.getElem?_eq_getElem hlt⟩
        have HBr := Lib.hid (HB1.out.trans (HI.out.below.mono HB1.out.size))
        obtain ⟨ba, oa, hAa, hba, a0, a1⟩ := (HT.out.keep HBr.out) k _ hx
        subst hAa
        have i0 : (0 : Int) ≤ (k : Int) := by omega
        have i1 : (k : Int) < (T.length : Int) := by omega
        obtain ⟨W3, hW3⟩ : ∃ W3, W3 = wr.alloc (.cells #[.bool o, .int .i64 d] 60) := ⟨_, rfl⟩
        have hb3 : Below wr.heap.size wr W3 := by rw [hW3]; exact (Below.refl _ _).alloc (Nat.le_refl _) _
        have hk3 : W3.heap[wr.heap.size]? = some (.cells #[.bool o, .int .i64 d] 60 (0, 0)) := by rw [hW3]; exact heap_alloc_new wr _
        have HI3 := Lib.hid (HI.out.later hb3)
        have HK3 := Lib.hid hk3
        have HW3 := Lib.hid hW3
        have HLn : Hid (H.length = k ∧ G.length ≤ k) := HL
        have HQi := Lib.hid qi2
        clear hx hba hb3 hk3 hW3 qi1 qi2 HI HL HBr
        go_upto_region 13 with fail
        rw [← HW3.out]
        clear HW3 a0 a1
        have s0 := cell_of_blk HI3.out.box 0
        have s1 := cell_of_blk HI3.out.box 1
        obtain ⟨Wa, hWa⟩ : ∃ Wa, Wa = W3.alloc (.cells #[.slice A L.length c, .int .i64 (G.length : Int)] 54) := ⟨_, rfl⟩
        have hba : Below W3.heap.size W3 Wa := by rw [hWa]; exact (Below.refl _ _).alloc (Nat.le_refl _) _
        have hna : ∀ (j : Nat) (u : Value), ([.slice A L.length c, .int .i64 (G.length : Int)] : List Value)[j]? = some u → Wa.cell? ((⟨W3.heap.size, 0, none⟩ : Addr).add j) = some u := fun j u hj => by rw [hWa, new_cell]; simpa using hj
        have HNa := Lib.hid hna
        have HBa := Lib.hid hba
        have HWa := Lib.hid hWa.symm
        have h200 : H.length ≤ 200 ∧ G.length ≤ 200 := by have := HLn.out; omega
        have HOa := Lib.hid (HI3.out.later hba).was
        have HZa := Lib.hid (show w1.heap.size + 1 ≤ Wa.heap.size from lt_of_some (HI3.out.later hba).box)
        clear hWa hba hna
        go_upto_region 14 with (first
          | (at_builtin; rw [HWa.out]; refine wpList_append_own _ rfl (.tmp 33) (.tmp 35) 57 rfl (w1.heap.size + 1) 54 iS _ 2 32 Tryd.underlying57 hiS zS0 zS1 zS2 rfl (by omega) (.slice A6 H.length c6) H.length (H.flatMap stC) rfl HOa.out ⟨W3.heap.size, 0, none⟩ 1 1 [.slice A L.length c, .int .i64 (G.length : Int)] rfl rfl HNa.out (by simp [Value.oneCell']) (by simp only [maxLen]; omega) (by omega) HZa.out ?_; intro v6 w6 hown6 hgrow6 hnil6; obtain ⟨A6', c6', rfl, _, _⟩ := own_facts hown6; obtain ⟨Wb, hWb⟩ : ∃ Wb, Wb = w6.alloc (.cells #[.slice Ai L.length ci] 55) := ⟨_, rfl⟩; have hbb : Below w6.heap.size w6 Wb := (by rw [hWb]; exact (Below.refl _ _).alloc (Nat.le_refl _) _); have HBb := Lib.hid hbb; have HNb : Hid (∀ (j : Nat) (u : Value), ([.slice Ai L.length ci] : List Value)[j]? = some u → Wb.cell? ((⟨w6.heap.size, 0, none⟩ : Addr).add j) = some u) := Lib.hid (fun j u hj => by rw [hWb, new_cell]; simpa using hj); have HOb := Lib.hid (HI3.out.had6 HBa.out hgrow6 hbb); have HWb := Lib.hid hWb.symm; have HO6 := Lib.hid hown6; have HG6 := Lib.hid hgrow6; have HZb := Lib.hid (show w1.heap.size + 1 ≤ Wb.heap.size from Nat.le_trans HZa.out (Nat.le_trans hgrow6.size hbb.size)); clear hWb hbb hown6 hgrow6 hnil6)
          | (at_builtin; rw [HWb.out]; refine wpList_append_own _ rfl (.tmp 37) (.tmp 39) 58 rfl (w1.heap.size + 1) 55 iI _ 1 24 Tryd.underlying58 hiI zI0 zI1 zI2 rfl (by omega) (.slice A7 H.length c7) H.length (H.map hdC) rfl HOb.out ⟨w6.heap.size, 0, none⟩ 1 1 [.slice Ai L.length ci] rfl rfl HNb.out (by simp [Value.oneCell']) (by simp only [maxLen]; omega) (by omega) HZb.out ?_; intro v7 w7 hown7 hgrow7 hnil7; obtain ⟨A7', c7', rfl, _, _⟩ := own_facts hown7; have HI7 := Lib.hid (HI3.out.noted HBa.out HG6.out HBb.out HO6.out hown7 hgrow7); have HK7 := Lib.hid (show w7.heap[wr.heap.size]? = some (.cells #[.bool o, .int .i64 d] 60 (0, 0)) from HI3.out.act HK3.out HBa.out HG6.out HBb.out hgrow7); clear hown7 hgrow7 hnil7))
        obtain ⟨H1, hH1⟩ : ∃ H1, H1 = H ++ [(⟨A, c, (G.length : Int), L, Ai, ci⟩ : Hst)] := ⟨_, rfl⟩
        have HLn1 : Hid (H1.length = k + 1 ∧ G.length ≤ k) := Lib.hid (by rw [hH1, List.length_append, HLn.out.1]; exact ⟨rfl, HLn.out.2⟩)
        rw [← hH1] at HI7
        clear hH1 s0 s1 HI3 HK3 HBa HWa HNa HOa HZa HBb HNb HWb HOb HZb HO6 HG6 HLn
        have b0 := cell_of_blk HK7.out 0
        have b1 := cell_of_blk HK7.out 1
        rcases o with _ | _
        · have HD := Lib.hid (show Calls Tryd.prog 29 #[.slice none 0 0, .slice none 0 0] w7 (As e0N e0V w7) from (empty_any w7).mono fun _ _ h => h.as e0_v)
          go_wp2_with fail
          refine HD.out.mono ?_
          rintro e y1 ⟨r1, rfl, hn1, hby⟩
          have hfine := eN_fine e0N (by simp)
          have hBy : Below w.heap.size w y1 := by
            have h1 := HB1.out.trans (HI7.out.below.mono HB1.out.size)
            exact h1.trans (hby.mono h1.size)
          have hnf := new_fresh e0N r1 m y1 hn1 (below_cell HM.out hBy) hfine.1 (eN_right e0N (by simp)) (hfine.2 (eN_right e0N (by simp))).1 (hfine.2 (eN_right e0N (by simp))).2
          rw [e0_v] at hnf
          unfold e0V at hnf ⊢
          have HN := Lib.hid hnf
          have HBy := Lib.hid hby
          clear hnf hBy hfine hn1 hby HD b0 b1
          go_wp2_with fail
          refine HN.out.mono ?_
          rintro e y2 ⟨⟨g, rfl, -⟩, hby2⟩
          have HIy := Lib.hid (HI7.out.later (HBy.out.trans (hby2.mono HBy.out.size)))
          have s0 := cell_of_blk HIy.out.box 0
          have s1 := cell_of_blk HIy.out.box 1
          clear hby2 HN HBy HI7 HK7
          by_cases h64 : L.length < 64
          · have HC := Lib.hid (show Calls Tryd.prog 30 #[.agg #[.slice A L.length c, .int .i64 (G.length : Int)], .pointer (some ⟨g, 0, none⟩)] y2 (Added (G.length : Int) ((g, (G.length : Int)) :: L) y2) from add_yes A c (G.length : Int) g L y2 (HIy.out.slc.slc fun _ hb => hb.lt) h64 (by omega) (by omega))
            go_wp2_with fail
            refine HC.out.mono ?_
            rintro e y3 ⟨A8, c8, rfl, ho8, hb8⟩
            obtain ⟨L', hL'⟩ : ∃ L', L' = (g, (G.length : Int)) :: L := ⟨_, rfl⟩
            obtain ⟨G', hG'⟩ : ∃ G', G' = G ++ [g] := ⟨_, rfl⟩
            have hGl : (G.length : Int) + 1 = (G'.length : Int) := by rw [hG', List.length_append]; simp
            rw [← hL'] at ho8 ⊢
            rw [hGl]
            obtain ⟨W9, hW9⟩ : ∃ W9, W9 = y3.alloc (.cells #[.slice A8 L'.length c8, .int .i64 (G'.length : Int)] 54) := ⟨_, rfl⟩
            have hb9 : Below y3.heap.size y3 W9 := by rw [hW9]; exact (Below.refl _ _).alloc (Nat.le_refl _) _
            have HKt0 : Hid (W9.heap[y3.heap.size]? = some (.cells #[.slice A8 L'.length c8, .int .i64 (G'.length : Int)] 54 (0, 0))) := Lib.hid (by rw [hW9]; exact heap_alloc_new y3 _)
            have hb89 := hb8.trans (hb9.mono hb8.size)
            have HI9 := Lib.hid (HIy.out.later hb89)
            have HS9 := Lib.hid (ho8.slcT.keep fun _ hb => hb.keep (Kept.of_below hb9 SD 0))
            have HW9 := Lib.hid hW9
            have HL' := Lib.hid hL'
            have HG' := Lib.hid hG'
            have HGl := Lib.hid hGl
            clear ho8 hb8 hb9 hb89 hW9 hL' hG' hGl HC s0 s1 HIy
            unfold stkV
            have gt : ¬ ((64 : Int) ≤ (L.length : Int)) := by omega
            have gg : ((G.length : Int) != (G.length : Int)) = false := by simp
            go_upto_region 30 with fail
            rw [← HW9.out]
            clear HW9
            obtain ⟨W10, hW10⟩ : ∃ W10, W10 = W9.alloc (.cells #[.pointer (some ⟨g, 0, none⟩)] 39) := ⟨_, rfl⟩
            have hb10 : Below W9.heap.size W9 W10 := by rw [hW10]; exact (Below.refl _ _).alloc (Nat.le_refl _) _
            have HN10 : Hid (∀ (i : Nat) (u : Value), ([.pointer (some ⟨g, 0, none⟩)] : List Value)[i]? = some u → W10.cell? ((⟨W9.heap.size, 0, none⟩ : Addr).add i) = some u) := Lib.hid fun i u hi => by rw [hW10, new_cell]; simpa using hi
            have HB10 := Lib.hid hb10
            have HO10 := Lib.hid (HI9.out.later hb10).brs
            have HZ10 := Lib.hid (show w1.heap.size + 1 ≤ W10.heap.size from lt_of_some (HI9.out.later hb10).box)
            have HW10 := Lib.hid hW10.symm
            clear hW10 hb10
            go_upto_region 37 with (first
              | (at_builtin; rw [HW10.out]; refine wpList_append_own _ rfl (.tmp 118) (.tmp 120) 56 rfl (w1.heap.size + 1) 39 iP _ 1 8 Tryd.underlying56 hiP zP0 zP1 zP2 rfl (by omega) (.slice Ag G.length cg) G.length (G.map ptrC) rfl HO10.out ⟨W9.heap.size, 0, none⟩ 1 1 [.pointer (some ⟨g, 0, none⟩)] rfl rfl HN10.out (by simp [Value.oneCell']) (by simp only [maxLen]; omega) (by omega) HZ10.out ?_; intro v5' w11 hown5 hgrow5 hnil5; have hI11 := HI9.out.more HB10.out hown5 hgrow5; rw [← HG'.out] at hI11; obtain ⟨Ag', cg', rfl, _, _⟩ := own_facts hI11.1.brs; have HI11 := Lib.hid hI11; obtain ⟨W12, hW12⟩ : ∃ W12, W12 = w11.alloc (.cells #[.int .i64 (G.length : Int)] 3) := ⟨_, rfl⟩; have hb12 : Below w11.heap.size w11 W12 := (by rw [hW12]; exact (Below.refl _ _).alloc (Nat.le_refl _) _); have HB12 := Lib.hid hb12; have HO12 : Hid (W12.ownsRow w11.heap.size 3 1 (.slice (some ⟨w11.heap.size, 0, none⟩) 1 1) 1 [.int .i64 (G.length : Int)]) := Lib.hid (by rw [hW12]; exact own_one w11 _ _ _ (Nat.le_refl _)); have HLi := Lib.hid (own_nums (hI11.1.later hb12).ids).lies; have HW12 := Lib.hid hW12.symm; clear hW12 hb12 hI11 hown5 hgrow5 hnil5)
              | (at_builtin; rw [HW12.out]; refine wpList_append_opt rfl (.tmp 123) (.tmp 124) 55 rfl w11.heap.size 3 iN _ 1 8 Tryd.underlying55 hiN zN0 zN1 zN2 rfl (by omega) (.slice (some ⟨w11.heap.size, 0, none⟩) 1 1) 1 [.int .i64 (G.length : Int)] rfl HO12.out Ai L.length ci (L.map idC) HQi.out rfl (by simp) HLi.out (idC_one L) (by simp only [maxLen]; omega) (by omega) HB12.out.size ?_; intro v4' w13 hown4 hgrow4; have HB13 := Lib.hid (keep_grown HB12.out HO12.out hgrow4 (Nat.le_refl _) (Nat.le_refl _)); have hown4' : w13.ownsRow w11.heap.size 3 1 v4' L'.length (L'.map idC) := (by rw [HL'.out, List.length_cons, Nat.add_comm]; exact hown4); obtain ⟨A4, c4, rfl, _, _⟩ := own_facts hown4'; have HO13 := Lib.hid hown4'; clear hown4 hown4' hgrow4))
            have hk9 := HKt0.out
            have hk11 := HI11.out.2.blk ((HB10.out.block _ (lt_of_some hk9)).trans hk9) (by decide)
            have HKt := Lib.hid ((HB13.out.block _ (lt_of_some hk11)).trans hk11)
            have HIp := Lib.hid (HI11.out.1.later HB13.out)
            have HSp : Hid (SlcP w13 (KR w13) A8 c8 L') := Lib.hid (HS9.out.keep fun _ hb => hb.keep ((Kept.of_below HB10.out SD (w1.heap.size + 1)).trans ((widen (fun T e => .inr (.inl e)) HI11.out.2).trans (Kept.of_below HB13.out SD (w1.heap.size + 1)))))
            have HOp : Hid (w13.ownsRow (w1.heap.size + 1) 3 1 (.slice A4 L'.length c4) L'.length (L'.map idC)) := Lib.hid (ownB HO13.out (lt_of_some HI11.out.1.box))
            have HS' : Hid (Told L' G' ∧ (L'.map (·.2)).Nodup ∧ L'.length ≤ 64) := Lib.hid (by rw [HL'.out, HG'.out]; exact ⟨told_more HI9.out.told, nodup_more HI9.out.nodup HI9.out.told, by rw [List.length_cons]; omega⟩)
            have HLn2 : Hid (H1.length = k + 1 ∧ G'.length ≤ k + 1) := Lib.hid ⟨HLn1.out.1, by rw [HG'.out, List.length_append]; exact Nat.succ_le_succ HLn1.out.2⟩
            clear hk9 hk11 HKt0 HI9 HS9 HB10 HO10 HN10 HZ10 HW10 HB12 HO12 HLi HW12 HB13 HO13 HI11 HL' HG' HGl gt gg
            have t0 := cell_of_blk HKt.out 0
            have t1 := cell_of_blk HKt.out 1
            have s0 := cell_of_blk HIp.out.box 0
            have s1 := cell_of_blk HIp.out.box 1
            have z0 := free_of_blk HIp.out.box 0
            have z1 := free_of_blk HIp.out.box 1
            go_upto_region 38 with fail
            obtain ⟨Wx, hWx⟩ : ∃ Wx, Wx = (w13.setCell ⟨w1.heap.size, 0, none⟩ (.slice A8 L'.length c8)).setCell ⟨w1.heap.size, 1, none⟩ (.int .i64 (G'.length : Int)) := ⟨_, rfl⟩
            have hI := HIp.out.turn (ad' := (G'.length : Int)) HSp.out HOp.out HS'.out.1 HS'.out.2.1 HS'.out.2.2
            rw [← hWx] at hI ⊢
            have HI := Lib.hid hI
            clear hI hWx t0 t1 s0 s1 z0 z1 HIp
            have s0 := cell_of_blk HI.out.box 0
            have s1 := cell_of_blk HI.out.box 1
            have HC := Lib.hid (show Calls Tryd.prog 31 #[.agg #[.slice A8 L'.length c8, .int .i64 (G'.length : Int)], .slice A4 L'.length c4, .slice Ag' G'.length cg'] Wx fun e w' => e = .returned (.bool true) ∧ Below Wx.heap.size Wx w' from same_yes A8 _ c8 (G'.length : Int) L' A4 c4 Ag' cg' G' Wx (HI.out.slc.slc fun _ hb => hb.lt).rows rfl (own_nums HI.out.ids).nums (own_ptrs HI.out.brs) HI.out.told (by have := HI.out.len; omega))
            go_wp2_with fail
            refine HC.out.mono ?_
            rintro e wy ⟨rfl, hby⟩
            have HIy := Lib.hid (HI.out.later hby)
            clear hby HC s0 s1 HI
            go_wp2_with fail
            go_roundw
            case rel => exact ⟨k + 1, A8, c8, L', G', H1, by go_num, by omega, HIy, HLn2⟩
            case measure => simp [intOf]; omega
          · have HC := Lib.hid (show Calls Tryd.prog 30 #[.agg #[.slice A L.length c, .int .i64 (G.length : Int)], .pointer (some ⟨g, 0, none⟩)] y2 fun e w' => e = .returned (.tuple #[stkV A L.length c (G.length : Int), .int .i64 0, .int .i64 6]) ∧ Below y2.heap.size y2 w' from add_no A L.length c (G.length : Int) _ y2 (by omega))
            go_wp2_with fail
            refine HC.out.mono ?_
            rintro e y3 ⟨rfl, hb8⟩
            obtain ⟨W9, hW9⟩ : ∃ W9, W9 = y3.alloc (.cells #[.slice A L.length c, .int .i64 (G.length : Int)] 54) := ⟨_, rfl⟩
            have hb9 : Below y3.heap.size y3 W9 := by rw [hW9]; exact (Below.refl _ _).alloc (Nat.le_refl _) _
            have HKt : Hid (W9.heap[y3.heap.size]? = some (.cells #[.slice A L.length c, .int .i64 (G.length : Int)] 54 (0, 0))) := Lib.hid (by rw [hW9]; exact heap_alloc_new y3 _)
            have HIp := Lib.hid (HIy.out.later (hb8.trans (hb9.mono hb8.size)))
            have HW9 := Lib.hid hW9
            have gt : (64 : Int) ≤ (L.length : Int) := by omega
            clear hb8 hb9 hW9 HC s0 s1 HIy
            unfold stkV
            go_upto_region 30 with fail
            rw [← HW9.out]
            clear HW9
            have t0 := cell_of_blk HKt.out 0
            have t1 := cell_of_blk HKt.out 1
            have s0 := cell_of_blk HIp.out.box 0
            have s1 := cell_of_blk HIp.out.box 1
            have z0 := free_of_blk HIp.out.box 0
            have z1 := free_of_blk HIp.out.box 1
            go_upto_region 38 with fail
            obtain ⟨Wx, hWx⟩ : ∃ Wx, Wx = (W9.setCell ⟨w1.heap.size, 0, none⟩ (.slice A L.length c)).setCell ⟨w1.heap.size, 1, none⟩ (.int .i64 (G.length : Int)) := ⟨_, rfl⟩
            have hI := HIp.out.turn (ad' := (G.length : Int)) HIp.out.slc HIp.out.ids HIp.out.told HIp.out.nodup HIp.out.len
            rw [← hWx] at hI ⊢
            have HI := Lib.hid hI
            clear hI hWx t0 t1 s0 s1 z0 z1 HIp
            have s0 := cell_of_blk HI.out.box 0
            have s1 := cell_of_blk HI.out.box 1
            have HC := Lib.hid (show Calls Tryd.prog 31 #[.agg #[.slice A L.length c, .int .i64 (G.length : Int)], .slice Ai L.length ci, .slice Ag G.length cg] Wx fun e w' => e = .returned (.bool true) ∧ Below Wx.heap.size Wx w' from same_yes A _ c (G.length : Int) L Ai ci Ag cg G Wx (HI.out.slc.slc fun _ hb => hb.lt).rows rfl (own_nums HI.out.ids).nums (own_ptrs HI.out.brs) HI.out.told (by have := HI.out.len; omega))
            go_wp2_with fail
            refine HC.out.mono ?_
            rintro e wy ⟨rfl, hby⟩
            have HIy := Lib.hid (HI.out.later hby)
            clear hby HC s0 s1 HI
            go_wp2_with fail
            go_roundw
            case rel => exact ⟨k + 1, A, c, L, G, H1, by go_num, by omega, HIy, (Lib.hid ⟨HLn1.out.1, Nat.le_succ_of_le HLn1.out.2⟩)⟩
            case measure => simp [intOf]; omega
        · go_wp2_with fail
          have HQ0 : Hid (w7.ownsRow w7.heap.size 3 1 (.slice none 0 0) (left (L.take 0) d).length ((left (L.take 0) d).map idC)) := Lib.hid (World.ownsRow_nil _ _ _ _)
          go_loopw [45, 10] (fun v v10 wz => ∃ j : Nat, v = .int .i64 (j : Int) ∧ j ≤ L.length ∧ Hid (wz.ownsRow w7.heap.size 3 1 v10 (left (L.take j) d).length ((left (L.take j) d).map idC)) ∧ Hid (Below w7.heap.size w7 wz)) (fun v _ _ => L.length - (intOf v).toNat)
          case atStart => exact ⟨0, rfl, Nat.zero_le _, HQ0, Lib.hid (Below.refl _ _)⟩
          case round =>
            clear HQ0 b0 b1
            obtain ⟨j, rfl, hj, HO, HB⟩ := hrel
            obtain ⟨A10, c10, rfl, _, _⟩ := own_facts HO.out
            have hk7 := (HB.out.block _ (lt_of_some HK7.out)).trans HK7.out
            have b0 := cell_of_blk hk7 0
            have b1 := cell_of_blk hk7 1
            clear hk7
            have h64 := HI7.out.len
            by_cases hlt2 : j < L.length
            · obtain ⟨x, hx⟩ : ∃ x, L[j]? = some x := ⟨_, List.getElem?_eq_getElem hlt2⟩
              obtain ⟨bi, oi, hAi, hbi, q0⟩ := own_nums (HI7.out.later HB.out).ids j x hx
              subst hAi
              have j0 : (0 : Int) ≤ (j : Int) := by omega
              have j1 : (j : Int) < (L.length : Int) := by omega
              have hln := left_next d hx
              clear hx hbi
              rcases hne : (x.2 != d) with _ | _
              · rw [hne] at hln
                have HN : Hid (left (L.take (j + 1)) d = left (L.take j) d) := Lib.hid (by rw [hln]; exact List.append_nil _)
                clear hln
                go_wp2_with fail
                go_roundw
                case rel => exact ⟨j + 1, by go_num, by omega, by rw [HN.out]; exact HO, HB⟩
                case measure => simp [intOf]; omega
              · rw [hne] at hln
                have HN : Hid (left (L.take (j + 1)) d = left (L.take j) d ++ [x]) := Lib.hid (by rw [hln]; rfl)
                clear hln
                obtain ⟨Wc, hWc⟩ : ∃ Wc, Wc = wr.alloc (.cells #[.int .i64 x.2] 3) := ⟨_, rfl⟩
                have hbc : Below wr.heap.size wr Wc := by rw [hWc]; exact (Below.refl _ _).alloc (Nat.le_refl _) _
                have HNc : Hid (∀ (i : Nat) (u : Value), ([.int .i64 x.2] : List Value)[i]? = some u → Wc.cell? ((⟨wr.heap.size, 0, none⟩ : Addr).add i) = some u) := Lib.hid fun i u hi => by rw [hWc, new_cell]; simpa using hi
                have HOc := Lib.hid (ownL HO.out hbc)
                have HBc := Lib.hid (HB.out.trans (hbc.mono HB.out.size))
                have HWc := Lib.hid hWc.symm
                have hll : (left (L.take j) d).length ≤ 64 := by
                  have h1 : (left (L.take j) d).length ≤ (L.take j).length := List.length_filter_le _ _
                  rw [List.length_take] at h1
                  omega
                clear hWc hbc HO
                go_wp2_with (at_builtin; rw [HWc.out]; refine wpList_append_own _ rfl (.tmp 53) (.tmp 55) 55 rfl w7.heap.size 3 iN _ 1 8 Tryd.underlying55 hiN zN0 zN1 zN2 rfl (by omega) (.slice A10 (left (L.take j) d).length c10) (left (L.take j) d).length ((left (L.take j) d).map idC) rfl HOc.out ⟨wr.heap.size, 0, none⟩ 1 1 [.int .i64 x.2] rfl rfl HNc.out (by simp [Value.oneCell']) (by simp only [maxLen]; omega) (by omega) HBc.out.size ?_; intro v10' wq hownq hgrowq hnilq)
                have HBq := Lib.hid (keep_grown HBc.out HOc.out hgrowq (Nat.le_refl _) (Nat.le_refl _))
                have HOq : Hid (wq.ownsRow w7.heap.size 3 1 v10' (left (L.take (j + 1)) d).length ((left (L.take (j + 1)) d).map idC)) := Lib.hid (by rw [HN.out, List.length_append, List.map_append]; exact hownq)
                clear hownq hgrowq hnilq
                go_roundw
                case rel => exact ⟨j + 1, by go_num, by omega, HOq, HBq⟩
                case measure => simp [intOf]; omega
            · obtain rfl : j = L.length := by omega
              rw [List.take_length] at HO ⊢
              have HIz := Lib.hid (HI7.out.later HB.out)
              have h10 : wr.ownsRow (w1.heap.size + 1) 3 1 (.slice A10 (left L d).length c10) (left L d).length ((left L d).map idC) := ownB HO.out (lt_of_some HI7.out.box)
              have HO10 := Lib.hid h10
              have hkz := (HB.out.block _ (lt_of_some HK7.out)).trans HK7.out
              have s0 := cell_of_blk HIz.out.box 0
              have s1 := cell_of_blk HIz.out.box 1
              have hln : L.length ≤ 64 := h64
              have HC := Lib.hid (show Calls Tryd.prog 28 #[.agg #[.slice A L.length c, .int .i64 (G.length : Int)], .int .i64 d] wr (RemoveOut A c (G.length : Int) L d wr) from remove_any A c (G.length : Int) d L wr (HIz.out.slc.slc fun _ hb => hb.lt) h64)
              clear h10 hkz HO HB HI7 HK7 hj
              go_wp2_with fail
              refine HC.out.mono ?_
              rintro e w8 hrm
              rcases hrm with ⟨i, x, hx, hid, A8, c8, rfl, ho8, hb8⟩ | ⟨hall, rfl, hb8⟩
              · obtain ⟨hl1, hl2⟩ := left_one HIz.out.nodup hx hid
                rw [← hl1] at ho8 hl2 ⊢
                obtain ⟨L', hL'⟩ : ∃ L', L' = left L d := ⟨_, rfl⟩
                have HS' := Lib.hid (show Told L' G ∧ (L'.map (·.2)).Nodup ∧ L'.length ≤ 64 from by rw [hL']; exact ⟨HIz.out.told.sub left_mem, left_nodup HIz.out.nodup, by omega⟩)
                rw [← hL'] at ho8 hl2 HO10 ⊢
                clear hL' hl1 hx hid
                obtain ⟨W9, hW9⟩ : ∃ W9, W9 = w8.alloc (.cells #[.slice A8 L'.length c8, .int .i64 (G.length : Int)] 54) := ⟨_, rfl⟩
                have hb9 : Below w8.heap.size w8 W9 := by rw [hW9]; exact (Below.refl _ _).alloc (Nat.le_refl _) _
                have HKt : Hid (W9.heap[w8.heap.size]? = some (.cells #[.slice A8 L'.length c8, .int .i64 (G.length : Int)] 54 (0, 0))) := Lib.hid (by rw [hW9]; exact heap_alloc_new w8 _)
                have hb89 := hb8.trans (hb9.mono hb8.size)
                have HIp := Lib.hid (HIz.out.later hb89)
                have HOp := Lib.hid (ownL HO10.out hb89)
                have HSp := Lib.hid (ho8.slcT.keep fun _ hb => hb.keep (Kept.of_below hb9 SD 0))
                have HW9 := Lib.hid hW9
                have gt : (L'.length : Int) < (L.length : Int) := by omega
                clear ho8 hb8 hb9 hb89 hW9 HC s0 s1 b0 b1 HIz HO10 hl2
                unfold stkV
                go_upto_region 23 with fail
                rw [← HW9.out]
                clear HW9
                have t0 := cell_of_blk HKt.out 0
                have t1 := cell_of_blk HKt.out 1
                have s0 := cell_of_blk HIp.out.box 0
                have s1 := cell_of_blk HIp.out.box 1
                have z0 := free_of_blk HIp.out.box 0
                have z1 := free_of_blk HIp.out.box 1
                go_upto_region 38 with fail
                obtain ⟨Wx, hWx⟩ : ∃ Wx, Wx = (W9.setCell ⟨w1.heap.size, 0, none⟩ (.slice A8 L'.length c8)).setCell ⟨w1.heap.size, 1, none⟩ (.int .i64 (G.length : Int)) := ⟨_, rfl⟩
                have hI := HIp.out.turn (ad' := (G.length : Int)) HSp.out HOp.out HS'.out.1 HS'.out.2.1 HS'.out.2.2
                rw [← hWx] at hI ⊢
                have HI := Lib.hid hI
                clear hI hWx t0 t1 s0 s1 z0 z1 HIp
                have s0 := cell_of_blk HI.out.box 0
                have s1 := cell_of_blk HI.out.box 1
                have HC := Lib.hid (show Calls Tryd.prog 31 #[.agg #[.slice A8 L'.length c8, .int .i64 (G.length : Int)], .slice A10 L'.length c10, .slice Ag G.length cg] Wx fun e w' => e = .returned (.bool true) ∧ Below Wx.heap.size Wx w' from same_yes A8 _ c8 (G.length : Int) L' A10 c10 Ag cg G Wx (HI.out.slc.slc fun _ hb => hb.lt).rows rfl (own_nums HI.out.ids).nums (own_ptrs HI.out.brs) HI.out.told (by have := HI.out.len; omega))
                go_wp2_with fail
                refine HC.out.mono ?_
                rintro e wy ⟨rfl, hby⟩
                have HIy := Lib.hid (HI.out.later hby)
                clear hby HC s0 s1 HI
                go_wp2_with fail
                go_roundw
                case rel => exact ⟨k + 1, A8, c8, L', G, H1, by go_num, by omega, HIy, (Lib.hid ⟨HLn1.out.1, Nat.le_succ_of_le HLn1.out.2⟩)⟩
                case measure => simp [intOf]; omega
              · rw [left_all hall] at HO10 ⊢
                clear hall
                obtain ⟨W9, hW9⟩ : ∃ W9, W9 = w8.alloc (.cells #[.slice A L.length c, .int .i64 (G.length : Int)] 54) := ⟨_, rfl⟩
                have hb9 : Below w8.heap.size w8 W9 := by rw [hW9]; exact (Below.refl _ _).alloc (Nat.le_refl _) _
                have HKt : Hid (W9.heap[w8.heap.size]? = some (.cells #[.slice A L.length c, .int .i64 (G.length : Int)] 54 (0, 0))) := Lib.hid (by rw [hW9]; exact heap_alloc_new w8 _)
                have hb89 := hb8.trans (hb9.mono hb8.size)
                have HIp := Lib.hid (HIz.out.later hb89)
                have HOp := Lib.hid (ownL HO10.out hb89)
                have HW9 := Lib.hid hW9
                have gt : ¬ ((L.length : Int) < (L.length : Int)) := by omega
                clear hb8 hb9 hb89 hW9 HC s0 s1 b0 b1 HIz HO10
                unfold stkV
                go_upto_region 23 with fail
                rw [← HW9.out]
                clear HW9
                have t0 := cell_of_blk HKt.out 0
                have t1 := cell_of_blk HKt.out 1
                have s0 := cell_of_blk HIp.out.box 0
                have s1 := cell_of_blk HIp.out.box 1
                have z0 := free_of_blk HIp.out.box 0
                have z1 := free_of_blk HIp.out.box 1
                go_upto_region 38 with fail
                obtain ⟨Wx, hWx⟩ : ∃ Wx, Wx = (W9.setCell ⟨w1.heap.size, 0, none⟩ (.slice A L.length c)).setCell ⟨w1.heap.size, 1, none⟩ (.int .i64 (G.length : Int)) := ⟨_, rfl⟩
                have hI := HIp.out.turn (ad' := (G.length : Int)) HIp.out.slc HOp.out HIp.out.told HIp.out.nodup HIp.out.len
                rw [← hWx] at hI ⊢
                have HI := Lib.hid hI
                clear hI hWx t0 t1 s0 s1 z0 z1 HIp
                have s0 := cell_of_blk HI.out.box 0
                have s1 := cell_of_blk HI.out.box 1
                have HC := Lib.hid (show Calls Tryd.prog 31 #[.agg #[.slice A L.length c, .int .i64 (G.length : Int)], .slice A10 L.length c10, .slice Ag G.length cg] Wx fun e w' => e = .returned (.bool true) ∧ Below Wx.heap.size Wx w' from same_yes A _ c (G.length : Int) L A10 c10 Ag cg G Wx (HI.out.slc.slc fun _ hb => hb.lt).rows rfl (own_nums HI.out.ids).nums (own_ptrs HI.out.brs) HI.out.told (by have := HI.out.len; omega))
                go_wp2_with fail
                refine HC.out.mono ?_
                rintro e wy ⟨rfl, hby⟩
                have HIy := Lib.hid (HI.out.later hby)
                clear hby HC s0 s1 HI
                go_wp2_with fail
                go_roundw
                case rel => exact ⟨k + 1, A, c, L, G, H1, by go_num, by omega, HIy, (Lib.hid ⟨HLn1.out.1, Nat.le_succ_of_le HLn1.out.2⟩)⟩
                case measure => simp [intOf]; omega
      · obtain rfl : k = T.length := by omega
        obtain ⟨wE, hwE⟩ : ∃ wE, wE = wr := ⟨_, rfl⟩
        rw [← hwE] at HI ⊢
        have h200 : H.length ≤ 200 := by have := HL.out.1; omega
        clear hwE qi1 qi2 HL
        go_wp2_with fail
        go_loopw [135] (fun v wz => ∃ i : Nat, v = .int .i64 (i : Int) ∧ i ≤ H.length ∧ Hid (Below wE.heap.size wE wz)) (fun v _ => H.length - (intOf v).toNat)
        case atStart => exact ⟨0, rfl, Nat.zero_le _, Lib.hid (Below.refl _ _)⟩
        case round =>
          obtain ⟨i, rfl, hi, HB⟩ := hrel
          by_cases hlt3 : i < H.length
          · obtain ⟨h, hh⟩ : ∃ h, H[i]? = some h := ⟨_, List.getElem?_eq_getElem hlt3⟩
            have hIr := HI.out.later HB.out
            obtain ⟨bw, ow, hA6, hbw, q0, q1⟩ : ∃ bw ow, A6 = some ⟨bw, ow, none⟩ ∧ bw < wr.heap.size ∧ wr.cell? ⟨bw, ow + i * 2, none⟩ = some (.slice h.A h.L.length h.c) ∧ wr.cell? ⟨bw, ow + i * 2 + 1, none⟩ = some (.int .i64 h.ad) := by
              obtain ⟨b, _, e1, _, e2, _, e3⟩ := own_cell hIr.was (j := i * 2 + 0) (u := .slice h.A h.L.length h.c) (by rw [stC_at hh 0 (by omega)]; rfl)
              obtain ⟨b', _, e4, _, _, _, e5⟩ := own_cell hIr.was (j := i * 2 + 1) (u := .int .i64 h.ad) (by rw [stC_at hh 1 (by omega)]; rfl)
              rw [e1] at e4
              injection e4 with e4
              injection e4 with e4
              subst e4
              exact ⟨b, 0, e1, e2, by rw [Nat.zero_add]; exact e3, by rw [Nat.zero_add]; exact e5⟩
            obtain ⟨bh, oh, hA7, hbh, p0⟩ : ∃ bh oh, A7 = some ⟨bh, oh, none⟩ ∧ bh < wr.heap.size ∧ wr.cell? ⟨bh, oh + i, none⟩ = some (.slice h.Ai h.L.length h.ci) := by
              obtain ⟨b, _, e1, _, e2, _, e3⟩ := own_cell hIr.had (j := i) (u := .slice h.Ai h.L.length h.ci) (by rw [List.getElem?_map, hh]; rfl)
              exact ⟨b, 0, e1, e2, by rw [Nat.zero_add]; exact e3⟩
            have i0 : (0 : Int) ≤ (i : Int) := by omega
            have i1 : (i : Int) < (H.length : Int) := by omega
            have i2 : ((i : Int)).toNat = i := by omega
            obtain ⟨W21, hW21⟩ : ∃ W21, W21 = wr.alloc (.cells #[.slice h.A h.L.length h.c, .int .i64 h.ad] 54) := ⟨_, rfl⟩
            have hb21 : Below wr.heap.size wr W21 := by rw [hW21]; exact (Below.refl _ _).alloc (Nat.le_refl _) _
            have hk21 : W21.heap[wr.heap.size]? = some (.cells #[.slice h.A h.L.length h.c, .int .i64 h.ad] 54 (0, 0)) := by rw [hW21]; exact heap_alloc_new wr _
            have hI21 := hIr.later hb21
            have p21 := (hb21.cell (p := ⟨bh, oh + i, none⟩) hbh).trans p0
            have hz21 : bh < W21.heap.size := Nat.lt_of_lt_of_le hbh hb21.size
            have HSS : Hid (∀ w' : World, Below W21.heap.size W21 w' → (w'.cell? ⟨wr.heap.size, 0, none⟩ = some (.slice h.A h.L.length h.c) ∧ w'.cell? ⟨wr.heap.size, 1, none⟩ = some (.int .i64 h.ad) ∧ w'.cell? ⟨bh, oh + i, none⟩ = some (.slice h.Ai h.L.length h.ci) ∧ Below W21.heap.size W21 w')) := Lib.hid fun w' hb' => by
              have e := (hb'.block _ (lt_of_some hk21)).trans hk21
              exact ⟨cell_of_blk e 0, cell_of_blk e 1, (hb'.cell (p := ⟨bh, oh + i, none⟩) hz21).trans p21, hb'⟩
            have HSM := Lib.hid (fun (w' : World) (hb' : Below W21.heap.size W21 w') => show Calls Tryd.prog 31 #[.agg #[.slice h.A h.L.length h.c, .int .i64 h.ad], .slice h.Ai h.L.length h.ci, .slice Ag G.length cg] w' fun e w'' => e = .returned (.bool true) ∧ Below W21.heap.size W21 w'' from by
              have hI' := hI21.later hb'
              have ho := hI'.hist h (List.mem_of_getElem? hh)
              exact (same_yes h.A _ h.c h.ad h.L h.Ai h.ci Ag cg G w' (ho.rows.keep (P' := fun b => b < w'.heap.size) fun b hb => ⟨rfl, hb.lt⟩) rfl ho.nums.nums (own_ptrs hI'.brs) ho.told (by have := ho.len; omega)).mono fun e w'' ⟨h1, h2⟩ => ⟨h1, hb'.trans (h2.mono hb'.size)⟩)
            have HBx := Lib.hid (HB.out.trans (hb21.mono HB.out.size))
            have HB60 := Lib.hid (Below.refl W21.heap.size W21).drew
            have HW21 := Lib.hid hW21
            subst hA6
            subst hA7
            clear hh hIr hbw hbh hW21 hb21 hk21 hI21 p21 hz21
            go_upto_region 44 with fail
            rw [← HW21.out]
            clear p0 q0 q1
            go_region_held3 (fun w' => (w'.cell? ⟨wr.heap.size, 0, none⟩ = some (.slice h.A h.L.length h.c) ∧ w'.cell? ⟨wr.heap.size, 1, none⟩ = some (.int .i64 h.ad) ∧ w'.cell? ⟨bh, oh + i, none⟩ = some (.slice h.Ai h.L.length h.ci) ∧ Below W21.heap.size W21 w'))
              (first | exact HSS.out _ (by assumption) | exact HSS.out _ HB60.out)
              (first | ((go_at_call 31; with_reducible refine (HSM.out _ (by first | assumption | exact HB60.out)).mono ?_); rintro e w' ⟨rfl, hb'⟩))
            all_goals
              have HF := Lib.hid (HBx.out.trans (hb'.mono HBx.out.size))
              clear hb'
              go_wp2_with fail
              go_roundw
              case rel => exact ⟨i + 1, by go_num, by omega, HF⟩
              case measure => simp [intOf]; omega
          · obtain rfl : i = H.length := by omega
            have hF : Below w.heap.size w wr := by
              have h1 := HB1.out.trans (HI.out.below.mono HB1.out.size)
              exact h1.trans (HB.out.mono h1.size)
            have HF := Lib.hid hF
            clear hF HB
            go_wp2_with fail
            go_ret
            exact ⟨rfl, HF.out⟩
end Go.Proofs.YtniklphdnakehaaDoor.stk
