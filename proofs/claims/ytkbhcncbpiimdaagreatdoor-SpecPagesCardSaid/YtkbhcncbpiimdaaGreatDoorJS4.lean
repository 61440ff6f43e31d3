/- That spec speaks: a page of another epoch. Condition: the library's MaxLen holds a number. What prefix answers; rows and boxes across a State's calls; pages of a cursor. Conditions: the rows lie in memory. The law SpecPages: the pages of a cursor, of any sizes, are all that is seen in its directory, in order. Conditions: the trees, the sizes lie in memory; the library's MaxLen holds a number. How an argument of bytes lies in memory. No condition. -/
import Derived.Test.YtkbhcncbpiimdaaGreatDoorJS3
import Derived.Test.YtkbhcncbpiimdaaGreatDoorJN
import Derived.Test.YtkbhcncbpiimdaaGreatDoorJK
import Derived.Test.YtkbhcncbpiimdaaGreatDoorJU10
import Derived.Deep.CutRange
import Derived.Test.YtkbhcncbpiimdaaGreatDoorJH
namespace Go.Proofs.YtkbhcncbpiimdaaGreatDoor.spc
set_option maxRecDepth 100000
open Go.RowKit Go.Proofs.YtkbhcncbpiimdaaGreatDoor.words Go.Proofs.YtkbhcncbpiimdaaGreatDoor.ext Go.Proofs.YtkbhcncbpiimdaaGreatDoor.name Go.Proofs.YtkbhcncbpiimdaaGreatDoor.tre Go.Proofs.YtkbhcncbpiimdaaGreatDoor.stk Go.Proofs.YtkbhcncbpiimdaaGreatDoor.seen Go.Proofs.YtkbhcncbpiimdaaGreatDoor.wlk Go.Proofs.YtkbhcncbpiimdaaGreatDoor.uni

def kt : Nd := tre.dirN [ab, bb] [textN seen.xb, whiteN]
theorem kt_v (r : Raw) : ndV kt r = .agg #[.int .i64 2, .bool false, .slice r.An 2 r.cn, .slice r.Ai 2 r.ci, .int .i64 0, .slice r.Ae 0 r.ce, .string ⟨#[]⟩] := rfl
theorem kt_fine : ∀ t ∈ [kt], depth t ≤ 1000 ∧ (treeB t = true → countC t = (count t : Int) ∧ count t ≤ 4096) := fun t ht => by
  simp only [List.mem_cons, List.mem_nil_iff, or_false] at ht
  subst ht
  exact ⟨by decide +kernel, fun _ => ⟨by decide +kernel, by decide +kernel⟩⟩
theorem kt_right : ∀ t ∈ [kt], treeB t = true := fun t ht => by
  simp only [List.mem_cons, List.mem_nil_iff, or_false] at ht
  subst ht
  decide +kernel
theorem kt_all : ∀ t ∈ [kt], allB t = true := fun t ht => by
  simp only [List.mem_cons, List.mem_nil_iff, or_false] at ht
  subst ht
  decide +kernel
theorem kt_dirs : ∀ t ∈ [kt], t.K = 2 := fun t ht => by
  simp only [List.mem_cons, List.mem_nil_iff, or_false] at ht
  subst ht
  rfl
theorem kt_deep : ∀ t ∈ [kt], depth t < 100 := fun t ht => by
  simp only [List.mem_cons, List.mem_nil_iff, or_false] at ht
  subst ht
  decide +kernel
theorem kt_few : ∀ (x : Nat × Nat) (d : Nd), seen.At [kt] x d → d.N.length ≤ 4096 := fun x d h => by
  obtain ⟨t, ht, hd⟩ := h
  have htm : t = kt := List.mem_singleton.1 (List.mem_of_getElem? ht)
  subst htm
  have h1 : (preN kt).all (fun d => decide (d.N.length ≤ 4096)) = true := by decide +kernel
  exact of_decide_eq_true (List.all_eq_true.1 h1 d (List.mem_of_getElem? hd))
theorem kt_goes : Goes [kt] true ⟨#[47]⟩ (.ok [] [kt]) := .inr ⟨[], by decide +kernel, .done rfl⟩
theorem kt_lists : Listed [kt] [(ab, 1)] := by
  refine ⟨[(ab, 0), (bb, 0)], ⟨List.Perm.refl _, ?_⟩, kt, 0, textN seen.xb, [], rfl, rfl, rfl, rfl, kt, 1, whiteN, [], rfl, rfl, rfl, rfl, rfl⟩
  refine List.Pairwise.cons (fun x hx => ?_) (List.Pairwise.cons (fun x hx => by cases hx) List.Pairwise.nil)
  rw [List.mem_singleton.1 hx]
  have h1 : heap.ltB bb ab = false := by decide +kernel
  have h2 : bb ≠ ab := by decide
  rintro (h | h)
  · rw [h1] at h; cases h
  · exact h2 h.1
theorem kt_asc : ∀ d ∈ [kt], Asc d.N ∧ d.N.length = d.I.length := fun d hd => by
  have h := kt_all d hd
  exact ⟨(one_right (allB_one h)).1, (one_right (allB_one h)).2.1⟩
theorem fits1 : mpi.Fits 1 := by unfold mpi.Fits; decide
theorem Sp.base {B s t m : Nat} {A : Option Addr} {c : Nat} {L : List (Nat × Int)} {ad ep r n : Int} {C : cur.Cs} {w w' : World} (h0 : Sp B s t m A c L ad ep r n C w) (h : lru.Tn (Bs s t m) w w') (hB : B ≤ w.heap.size) : Below B w w' := h.below (fun _ hk => h0.bs hk) hB
theorem box_on {s t m g : Nat} {w w' : World} {o : Obj} (h : w.heap[g]? = some o) (ht : lru.Tn (Bs s t m) w w') (hg : s < g ∧ t < g ∧ m < g) : w'.heap[g]? = some o := (ht.block g (lt_of_some h) (fun hj => by
  rcases hj with hj | hj | hj
  · have := hg.1; omega
  · have := hg.2.1; omega
  · have := hg.2.2; omega)).trans h
set_option maxHeartbeats 25600000 in
theorem sspeaks_any (mx : Int) (w : World) (hm : w.cell? ⟨0, 0, none⟩ = some (.int .i64 mx)) : Calls Tryz.prog 25 #[] w fun e w' => e = .returned (.bool true) ∧ Below w.heap.size w w' := by
  have HM := Lib.hid hm
  clear hm
  obtain ⟨W1, hW1⟩ : ∃ W1, W1 = w.alloc (.cells #[.string ab, .string bb] 9) := ⟨_, rfl⟩
  have hb1 : Below w.heap.size w W1 := by rw [hW1]; exact (Below.refl _ _).alloc (Nat.le_refl _) _
  have hT1 : Txts W1 W1.heap.size (some ⟨w.heap.size, 0, none⟩) [ab, bb] := by rw [hW1]; exact txts_two w ab bb (by decide) (by decide)
  have HT1 := Lib.hid hT1
  have HB1 := Lib.hid hb1
  have hW1' : W1 = w.alloc (.cells #[.string ⟨#[97]⟩, .string ⟨#[98]⟩] 9) := hW1
  have HW1 := Lib.hid hW1'
  clear hW1 hW1' hb1 hT1
  go_enter Tryz.func25, Tryz.ntmps25
  go_wp2_with fail
  rw [← HW1.out]
  refine (show Calls Tryz.prog 39 #[.string ⟨#[120]⟩] W1 _ from ((text_any seen.xb W1 (by decide)).mono fun _ _ h => h.as xb_v)).mono ?_
  rintro e w2 ⟨r2, rfl, hn2, hb2⟩
  have HN2 := Lib.hid hn2
  have HB2 := Lib.hid hb2
  clear hn2 hb2 HW1
  unfold x1V
  go_wp2_with fail
  refine ((white_any w2).mono fun _ _ h => h.as wh_v).mono ?_
  rintro e w3 ⟨r3, rfl, hn3, hb3⟩
  unfold whV
  go_wp2_with fail
  obtain ⟨W4, hW4⟩ : ∃ W4, W4 = w3.alloc (.cells ((rawCells (textN seen.xb) r2).toList ++ ((rawCells whiteN r3).toList ++ [])).toArray 99) := ⟨_, rfl⟩
  have hb4 : Below w3.heap.size w3 W4 := by rw [hW4]; exact (Below.refl _ _).alloc (Nat.le_refl _) _
  have hb14 : Below W1.heap.size W1 W4 := HB2.out.trans ((hb3.trans (hb4.mono hb3.size)).mono HB2.out.size)
  have HP4 := Lib.hid (pair_dir ab bb (textN seen.xb) whiteN r2 r3 w.heap.size w3 W4 hW4 ((HT1.out.keep hb14).more hb14.size) (HN2.out.later hb3) hn3)
  have HB4 := Lib.hid (HB1.out.trans (hb14.mono HB1.out.size))
  have hW4' := hW4
  rw [xb_cells] at hW4'
  have hW4'' : W4 = w3.alloc (.cells #[.int .i64 1, .bool false, .slice r2.An 0 r2.cn, .slice r2.Ai 0 r2.ci, .int .i64 1, .slice r2.Ae 1 r2.ce, .string ⟨#[]⟩, .int .i64 4, .bool false, .slice r3.An 0 r3.cn, .slice r3.Ai 0 r3.ci, .int .i64 0, .slice r3.Ae 0 r3.ce, .string ⟨#[]⟩] 99) := hW4'
  rw [← hW4'']
  clear hW4 hW4' hW4'' hb4 hb14 hn3 hb3 HT1 HN2 HB2 HB1
  refine (HP4.out.mono fun _ _ h => h.as kt_v).mono ?_
  rintro e w6 ⟨r6, rfl, hn6, hb6⟩
  obtain ⟨W7, hW7⟩ : ∃ W7, W7 = w6.alloc (.cells (rawCells kt r6) 99) := ⟨_, rfl⟩
  have hb7 : Below w6.heap.size w6 W7 := by rw [hW7]; exact (Below.refl _ _).alloc (Nat.le_refl _) _
  have hb57 : Below W4.heap.size W4 W7 := hb6.trans (hb7.mono hb6.size)
  have HB7 := Lib.hid (HB4.out.trans (hb57.mono HB4.out.size))
  have hT7 := trees_1 hW7 hn6
  have HC := Lib.hid (show Calls Tryz.prog 37 #[.slice (some ⟨w6.heap.size, 0, none⟩) 1 1] W7 (OfOut [kt] W7) from stk.of_any _ 1 [kt] _ mx W7 hT7 (below_cell HM.out HB7.out) kt_fine (by decide))
  have hW7' : W7 = w6.alloc (.cells #[.int .i64 2, .bool false, .slice r6.An 2 r6.cn, .slice r6.Ai 2 r6.ci, .int .i64 0, .slice r6.Ae 0 r6.ce, .string ⟨#[]⟩] 99) := hW7
  have HW7 := Lib.hid hW7'
  clear hn6 hb6 hb7 hb57 hT7 hW7 hW7' HP4 HB4
  go_wp2_with fail
  rw [← HW7.out]
  refine HC.out.mono ?_
  rintro e w8 hof
  rcases hof with ⟨A, c, L, rfl, hok, _, _, hb8⟩ | ⟨er, _, hbad, _⟩
  rotate_left 1
  · exfalso
    rcases hbad with ⟨_, t, ht, hf⟩ | ⟨_, hlt⟩
    · rw [kt_right t ht] at hf; cases hf
    · exact absurd hlt (by decide)
  obtain ⟨W9, hW9⟩ : ∃ W9, W9 = w8.alloc (.cells #[.slice A 1 c, .int .i64 1] 27) := ⟨_, rfl⟩
  have hb9 : Below w8.heap.size w8 W9 := by rw [hW9]; exact (Below.refl _ _).alloc (Nat.le_refl _) _
  have hk9 : W9.heap[w8.heap.size]? = some (.cells #[.slice A 1 c, .int .i64 1] 27 (0, 0)) := by rw [hW9]; exact heap_alloc_new w8 _
  have HOk := Lib.hid (hok.later hb9)
  have HL1 : Hid (L.length = 1) := Lib.hid hok.len
  have HK9 := Lib.hid hk9
  have HB9 := Lib.hid ((HB7.out.trans (hb8.mono HB7.out.size)).trans (hb9.mono (HB7.out.trans (hb8.mono HB7.out.size)).size))
  have HW9 := Lib.hid hW9
  have t9 : ([kt] : List Nd).length = 1 := rfl
  clear hok hb8 hb9 hk9 hW9 HC HW7 HB7
  unfold stkV
  go_upto_region 2 with fail
  rw [← HW9.out]
  clear HW9 t9
  have s0 := cell_of_blk HK9.out 0
  have s1 := cell_of_blk HK9.out 1
  have HC := Lib.hid (show Calls Tryz.prog 32 #[.agg #[.slice A 1 c, .int .i64 1]] W9 fun e w' => e = .returned (.int .i64 1) ∧ Below W9.heap.size W9 w' from slen_any A 1 c 1 W9)
  go_wp2_with fail
  refine HC.out.mono ?_
  rintro e v1 ⟨rfl, hv1⟩
  have HO1 := Lib.hid (HOk.out.later hv1)
  have HBv := Lib.hid (HB9.out.trans (hv1.mono HB9.out.size))
  have es := (hv1.block _ (lt_of_some HK9.out)).trans HK9.out
  clear HC hv1 s0 s1 HOk
  have s0 := cell_of_blk es 0
  have s1 := cell_of_blk es 1
  have HNw := Lib.hid (show Calls Tryz.prog 27 #[.agg #[.slice A 1 c, .int .i64 1], .int .i64 9] v1 (MadeS v1 A c L 1 9) from by
    have h1 := snew_any A c L 1 9 9 v1 (by decide)
    rw [HL1.out] at h1
    exact h1)
  clear es
  go_wp2_with fail
  refine HNw.out.mono ?_
  rintro e w10 ⟨s, t, m, rfl, hsp, hb10⟩
  have HS0 := Lib.hid hsp
  have HV0 := Lib.hid hb10
  have HLs : Hid (∀ w', Below v1.heap.size v1 w' → Calls Tryz.prog 12 #[.agg #[.slice A L.length c, .int .i64 1], .string ⟨#[47]⟩] w' (LsOut [kt] (.ok [] [kt]) w')) := Lib.hid fun w' hb =>
    ulist_any kt_all kt_dirs kt_deep (by decide) kt_few A c 1 L mx ⟨#[47]⟩ w' (StkOk.stkM (HO1.out.later hb)) (below_cell HM.out (HBv.out.trans (hb.mono HBv.out.size))) (by decide) kt_goes
  have HRm : Hid (∀ w', Below v1.heap.size v1 w' → Calls Tryz.prog 69 #[stkV A L.length c 1, .int .i64 0] w' fun e w'' => (∃ A' c', e = .returned (.tuple #[stkV A' ([] : List (Nat × Int)).length c' 1, .int .i64 0])) ∧ Below w'.heap.size w' w'') := Lib.hid fun w' hb => by
    have hok' := HO1.out.later hb
    refine (stk.remove_any A c 1 0 L w' hok'.slc (by rw [HL1.out]; decide)).mono fun e w'' h => ?_
    have hid0 : ∀ j x, L[j]? = some x → j = 0 ∧ x.2 = 0 := fun j x hx => by
      have h1 := (List.getElem?_eq_some_iff.1 hx).1
      have h2 := (hok'.brs j x hx).1
      have h3 := HL1.out
      have h4 : ([kt] : List Nd).length = 1 := rfl
      rw [h4] at h2
      omega
    rcases h with ⟨i, x, h1, _, A', c', rfl, _, h2⟩ | ⟨h1, _⟩
    · have h3 : L.take i ++ L.drop (i + 1) = [] := by
        rw [(hid0 i x h1).1, List.take_zero, List.nil_append]
        exact List.drop_of_length_le (by rw [HL1.out]; decide)
      rw [h3]
      exact ⟨⟨A', c', rfl⟩, h2⟩
    · exfalso
      have hl := HL1.out
      obtain ⟨x, hx⟩ : ∃ x, L[0]? = some x := ⟨_, List.getElem?_eq_getElem (by omega)⟩
      exact h1 x (List.mem_of_getElem? hx) (hid0 0 x hx).2
  clear hsp hb10 HNw s0 s1 HO1
  have HD := Lib.hid (show Calls Tryz.prog 30 #[.pointer (some ⟨s, 0, none⟩), .agg #[.int .i64 5, .string ⟨#[47]⟩, .int .i64 0, .int .i64 0, .int .i64 0, .string ⟨#[]⟩]] w10 fun e w' => ∃ A' c', (A' = A ∧ c' = c) ∧ DoO v1.heap.size s t m A' c' L 1 0 9 1 [(1, ⟨0, ⟨#[47]⟩, 0⟩)] 0 1 [] false w10 e w' from
    do_5 ⟨#[47]⟩ 0 0 0 ⟨#[]⟩ L 1 0 9 1 [(1, ⟨0, ⟨#[47]⟩, 0⟩)] 0 1 [] false _ HS0.out rfl fun w' hb h' => (open_ok ⟨#[47]⟩ h' (fun w2 hb2 => HLs.out w2 (HV0.out.trans ((hb.trans (hb2.mono hb.size)).mono HV0.out.size))) rfl rfl 0 1 1 [(1, ⟨0, ⟨#[47]⟩, 0⟩)] (fun w2 h2 => begin_yes _ h2 (by decide) (by decide) (by decide) (by decide) rfl)).mono fun e w3 h3 => ⟨A, c, ⟨rfl, rfl⟩, DoO.none h3.1⟩)
  go_wp2_with fail
  refine HD.out.mono ?_
  rintro e v2 ⟨A9, c9, ⟨hA, hc⟩, A1, c1, ⟨rfl, hsp, htn⟩, _, _, _⟩
  rw [hA, hc] at hsp
  clear hA hc
  unfold resP
  obtain ⟨V1, hV⟩ : ∃ V1, V1 = v2.alloc (.cells #[.int .i64 0, .int .i64 0, .int .i64 0, .int .i64 0, .int .i64 1, .string ⟨#[]⟩, .slice A1 0 c1, .bool false] 44) := ⟨_, rfl⟩
  have hbV : Below v2.heap.size v2 V1 := by rw [hV]; exact (Below.refl _ _).alloc (Nat.le_refl _) _
  have HX1 := Lib.hid (show V1.heap[v2.heap.size]? = some (.cells #[.int .i64 0, .int .i64 0, .int .i64 0, .int .i64 0, .int .i64 1, .string ⟨#[]⟩, .slice A1 0 c1, .bool false] 44 (0, 0)) by rw [hV]; exact heap_alloc_new v2 _)
  have HG1 := Lib.hid hsp.lt
  have HS1 := Lib.hid (hsp.later hbV)
  have hbd : Below v1.heap.size w10 v2 := Sp.base HS0.out htn HV0.out.size
  have HV1 := Lib.hid (HV0.out.trans (hbd.trans (hbV.mono (Nat.le_trans HV0.out.size htn.size))))
  have HW := Lib.hid hV
  clear hV hbV hbd hsp htn HD
  go_upto_region 8 with fail
  rw [← HW.out]
  clear HW
  have d4 := cell_of_blk HX1.out 4
  have HD := Lib.hid (show Calls Tryz.prog 30 #[.pointer (some ⟨s, 0, none⟩), .agg #[.int .i64 6, .string ⟨#[]⟩, .int .i64 0, .int .i64 1, .int .i64 1, .string ⟨#[]⟩]] V1 fun e w' => ∃ A' c', (A' = A ∧ c' = c) ∧ DoO v1.heap.size s t m A' c' L 1 0 9 1 [(1, ⟨0, ⟨#[47]⟩, 1⟩)] 0 0 [ab] true V1 e w' from
    do_6 ⟨#[]⟩ 0 1 1 ⟨#[]⟩ L 1 0 9 1 [(1, ⟨0, ⟨#[47]⟩, 1⟩)] 0 0 [ab] true _ HS1.out rfl fun w' hb h' => (page_ok 6 ⟨#[]⟩ 0 1 1 ⟨#[]⟩ [(ab, 1)] ⟨0, ⟨#[47]⟩, 0⟩ 0 1 h' fits1 rfl rfl (by decide) rfl (by decide) rfl (by decide) rfl rfl kt_lists kt_asc (fun w2 hb2 => HLs.out w2 (HV1.out.trans ((hb.trans (hb2.mono hb.size)).mono HV1.out.size)))).mono fun e w3 h3 => ⟨A, c, ⟨rfl, rfl⟩, h3⟩)
  go_wp2_with fail
  refine HD.out.mono ?_
  rintro e v3 ⟨A9, c9, ⟨hA, hc⟩, A2, c2, ⟨rfl, hsp, htn⟩, _, _, _⟩
  rw [hA, hc] at hsp
  clear hA hc
  unfold resP
  obtain ⟨V2, hV⟩ : ∃ V2, V2 = v3.alloc (.cells #[.int .i64 0, .int .i64 0, .int .i64 0, .int .i64 0, .int .i64 0, .string ⟨#[]⟩, .slice A2 1 c2, .bool true] 44) := ⟨_, rfl⟩
  have hbV : Below v3.heap.size v3 V2 := by rw [hV]; exact (Below.refl _ _).alloc (Nat.le_refl _) _
  have HX2 := Lib.hid (show V2.heap[v3.heap.size]? = some (.cells #[.int .i64 0, .int .i64 0, .int .i64 0, .int .i64 0, .int .i64 0, .string ⟨#[]⟩, .slice A2 1 c2, .bool true] 44 (0, 0)) by rw [hV]; exact heap_alloc_new v3 _)
  have HG2 := Lib.hid hsp.lt
  have HS2 := Lib.hid (hsp.later hbV)
  have hbd : Below v1.heap.size V1 v3 := Sp.base HS1.out htn HV1.out.size
  have HV2 := Lib.hid (HV1.out.trans (hbd.trans (hbV.mono (Nat.le_trans HV1.out.size htn.size))))
  have hx1 : V2.heap[v2.heap.size]? = some _ := (hbV.block _ (lt_of_some (box_on HX1.out htn HG1.out))).trans (box_on HX1.out htn HG1.out)
  replace HX1 := Lib.hid hx1
  clear hx1
  have HW := Lib.hid hV
  clear hV hbV hbd hsp htn HD d4
  rw [show ([ab] : List ByteArray).length = 1 from rfl]
  go_upto_region 9 with fail
  rw [← HW.out]
  clear HW
  have HD := Lib.hid (show Calls Tryz.prog 30 #[.pointer (some ⟨s, 0, none⟩), .agg #[.int .i64 9, .string ⟨#[]⟩, .int .i64 0, .int .i64 0, .int .i64 0, .string ⟨#[]⟩]] V2 fun e w' => ∃ A' c', True ∧ DoO v1.heap.size s t m A' c' [] 1 1 9 1 [(1, ⟨0, ⟨#[47]⟩, 1⟩)] 0 0 [] false V2 e w' from
    do_9 ⟨#[]⟩ 0 0 0 ⟨#[]⟩ [] 1 1 9 1 [(1, ⟨0, ⟨#[47]⟩, 1⟩)] 0 0 [] false (fun _ _ => True) HS2.out rfl fun w' hb h' => (remove_yes 0 [] h' (by decide) (by decide) (fun w2 hb2 => HRm.out w2 (HV2.out.trans ((hb.trans (hb2.mono hb.size)).mono HV2.out.size)))).mono fun e w3 ⟨A9, c9, h3⟩ => ⟨A9, c9, trivial, DoO.none h3⟩)
  go_wp2_with fail
  refine HD.out.mono ?_
  rintro e v4 ⟨B3, b3, _, A3, c3, ⟨rfl, hsp, htn⟩, _, _, _⟩
  skip
  unfold resP
  obtain ⟨V3, hV⟩ : ∃ V3, V3 = v4.alloc (.cells #[.int .i64 0, .int .i64 0, .int .i64 0, .int .i64 0, .int .i64 0, .string ⟨#[]⟩, .slice A3 0 c3, .bool false] 44) := ⟨_, rfl⟩
  have hbV : Below v4.heap.size v4 V3 := by rw [hV]; exact (Below.refl _ _).alloc (Nat.le_refl _) _
  have HX3 := Lib.hid (show V3.heap[v4.heap.size]? = some (.cells #[.int .i64 0, .int .i64 0, .int .i64 0, .int .i64 0, .int .i64 0, .string ⟨#[]⟩, .slice A3 0 c3, .bool false] 44 (0, 0)) by rw [hV]; exact heap_alloc_new v4 _)
  have HG3 := Lib.hid hsp.lt
  have HS3 := Lib.hid (hsp.later hbV)
  have hbd : Below v1.heap.size V2 v4 := Sp.base HS2.out htn HV2.out.size
  have HV3 := Lib.hid (HV2.out.trans (hbd.trans (hbV.mono (Nat.le_trans HV2.out.size htn.size))))
  have hx1 : V3.heap[v2.heap.size]? = some _ := (hbV.block _ (lt_of_some (box_on HX1.out htn HG1.out))).trans (box_on HX1.out htn HG1.out)
  replace HX1 := Lib.hid hx1
  clear hx1
  have hx2 : V3.heap[v3.heap.size]? = some _ := (hbV.block _ (lt_of_some (box_on HX2.out htn HG2.out))).trans (box_on HX2.out htn HG2.out)
  replace HX2 := Lib.hid hx2
  clear hx2
  have HW := Lib.hid hV
  clear hV hbV hbd hsp htn HD
  go_upto_region 10 with fail
  rw [← HW.out]
  clear HW
  have d4 := cell_of_blk HX1.out 4
  have HD := Lib.hid (show Calls Tryz.prog 30 #[.pointer (some ⟨s, 0, none⟩), .agg #[.int .i64 6, .string ⟨#[]⟩, .int .i64 0, .int .i64 1, .int .i64 1, .string ⟨#[]⟩]] V3 fun e w' => ∃ A' c', True ∧ DoO v1.heap.size s t m A' c' [] 1 1 9 1 [(1, ⟨0, ⟨#[47]⟩, 1⟩)] 8 0 [] false V3 e w' from
    do_6 ⟨#[]⟩ 0 1 1 ⟨#[]⟩ [] 1 1 9 1 [(1, ⟨0, ⟨#[47]⟩, 1⟩)] 8 0 [] false (fun _ _ => True) HS3.out rfl fun w' hb h' => (page_err 6 ⟨#[]⟩ 0 1 1 ⟨#[]⟩ 8 h' fits1 rfl rfl (by decide)).mono fun e w3 h3 => ⟨B3, b3, trivial, DoO.none h3⟩)
  go_wp2_with fail
  refine HD.out.mono ?_
  rintro e v5 ⟨B4, b4, _, A4, c4, ⟨rfl, hsp, htn⟩, _, _, _⟩
  skip
  unfold resP
  obtain ⟨V4, hV⟩ : ∃ V4, V4 = v5.alloc (.cells #[.int .i64 8, .int .i64 0, .int .i64 0, .int .i64 0, .int .i64 0, .string ⟨#[]⟩, .slice A4 0 c4, .bool false] 44) := ⟨_, rfl⟩
  have hbV : Below v5.heap.size v5 V4 := by rw [hV]; exact (Below.refl _ _).alloc (Nat.le_refl _) _
  have HX4 := Lib.hid (show V4.heap[v5.heap.size]? = some (.cells #[.int .i64 8, .int .i64 0, .int .i64 0, .int .i64 0, .int .i64 0, .string ⟨#[]⟩, .slice A4 0 c4, .bool false] 44 (0, 0)) by rw [hV]; exact heap_alloc_new v5 _)
  have HG4 := Lib.hid hsp.lt
  have HS4 := Lib.hid (hsp.later hbV)
  have hbd : Below v1.heap.size V3 v5 := Sp.base HS3.out htn HV3.out.size
  have HV4 := Lib.hid (HV3.out.trans (hbd.trans (hbV.mono (Nat.le_trans HV3.out.size htn.size))))
  have hx1 : V4.heap[v2.heap.size]? = some _ := (hbV.block _ (lt_of_some (box_on HX1.out htn HG1.out))).trans (box_on HX1.out htn HG1.out)
  replace HX1 := Lib.hid hx1
  clear hx1
  have hx2 : V4.heap[v3.heap.size]? = some _ := (hbV.block _ (lt_of_some (box_on HX2.out htn HG2.out))).trans (box_on HX2.out htn HG2.out)
  replace HX2 := Lib.hid hx2
  clear hx2
  have hx3 : V4.heap[v4.heap.size]? = some _ := (hbV.block _ (lt_of_some (box_on HX3.out htn HG3.out))).trans (box_on HX3.out htn HG3.out)
  replace HX3 := Lib.hid hx3
  clear hx3
  have HW := Lib.hid hV
  clear hV hbV hbd hsp htn HD d4
  go_upto_region 11 with fail
  rw [← HW.out]
  clear HW
  have a4 := cell_of_blk HX1.out 4
  have b6 := cell_of_blk HX2.out 6
  have b7 := cell_of_blk HX2.out 7
  have e0 := cell_of_blk HX3.out 0
  have f0 := cell_of_blk HX4.out 0
  have HF := Lib.hid (HBv.out.trans (HV4.out.mono HBv.out.size))
  go_wp2_with fail
  go_ret
  exact ⟨rfl, HF.out⟩
end Go.Proofs.YtkbhcncbpiimdaaGreatDoor.spc

namespace Go.Proofs.YtkbhcncbpiimdaaGreatDoor.spc
set_option maxRecDepth 100000
open Go.RowKit Go.Proofs.YtkbhcncbpiimdaaGreatDoor.words Go.Proofs.YtkbhcncbpiimdaaGreatDoor.ext Go.Proofs.YtkbhcncbpiimdaaGreatDoor.name Go.Proofs.YtkbhcncbpiimdaaGreatDoor.tre Go.Proofs.YtkbhcncbpiimdaaGreatDoor.stk Go.Proofs.YtkbhcncbpiimdaaGreatDoor.seen Go.Proofs.YtkbhcncbpiimdaaGreatDoor.wlk Go.Proofs.YtkbhcncbpiimdaaGreatDoor.uni

theorem infoStrP : (Tryz.prog.info? 9).map (fun i => (i.zero, i.size, i.bytes)) = some (some (.string ⟨#[]⟩), 1, 16) := by kernel_rfl
theorem count_in : ∀ {L : List Nd} {q : Nd}, q ∈ L → count q ≤ countL L
  | x :: L, q, h => by
    have e : countL (x :: L) = count x + countL L := rfl
    rcases List.mem_cons.1 h with rfl | h
    · omega
    · have := count_in h
      omega
theorem along_count {K : Nat} : ∀ {ns : List ByteArray} {D E : List Nd}, Along D ns E → (∀ d ∈ D, count d ≤ K) → ∀ d ∈ E, count d ≤ K
  | [], D, E, h, hk, d, hd => by rw [Along_nil] at h; rw [h] at hd; exact hk d hd
  | n :: ns, D, E, h, hk, d, hd => by
    obtain ⟨Q, h1, h2⟩ := Along_cons.1 h
    refine along_count h2 (fun q hq => ?_) d hd
    obtain ⟨x, hx, i, hi, _⟩ := ent_kid h1 q (seenOf_sub Q q hq)
    have h3 : count x = 1 + countL x.I := count_eq x
    have h4 : count q ≤ countL x.I := count_in (List.mem_of_getElem? hi)
    have h5 := hk x hx
    omega
theorem deep16 {w : World} {B : Nat} {A : Option Addr} {T : List Nd} {rs : Nat → Raw} (hT : Trees w B A T rs) (hm : mayB T = true) : ∀ d ∈ T.reverse, depth d < 16 ∧ count d ≤ 400 := fun d hd => by
  have htm : d ∈ T := List.mem_reverse.1 hd
  obtain ⟨i, hi⟩ := List.mem_iff_getElem?.1 htm
  obtain ⟨h1, h2⟩ := mayB_all hm d htm
  have h3 := (okay_of h1 (hT i d hi).2.tame h2).cnt
  rw [tree_same h1 (hT i d hi).2.tame] at h2
  unfold refB at h2
  simp only [Bool.and_eq_true, decide_eq_true_eq] at h2
  omega
theorem lies_row {w : World} {A : Option Addr} {N : List ByteArray} (h : heap.Row w w.heap.size A N) : Lies w A (N.map Value.string) := fun j u hj => by
  rw [List.getElem?_map] at hj
  obtain ⟨x, hx, rfl⟩ := Option.map_eq_some_iff.1 hj
  exact h j x hx
theorem prefix_any (Ag : Option Addr) (cg : Nat) (Aw : Option Addr) (cw : Nat) (El : List (ByteArray × Int)) (n : Nat) (w : World) (hn : n ≤ El.length) (hl : El.length ≤ 1000000) (hG : heap.Row w w.heap.size Ag (nmsE (El.take n))) (hW : Lies w Aw (El.flatMap mrg.enC)) :
    Calls Tryz.prog 33 #[.slice Ag n cg, .slice Aw El.length cw] w fun e w' => e = .returned (.bool true) ∧ w = w' := by
  have HG := Lib.hid hG
  have HW := Lib.hid hW
  clear hG hW
  go_enter Tryz.func33, Tryz.ntmps33
  go_wp2_with fail
  go_loopw [9] (fun v wr => ∃ (k : Nat), v = .int .i64 (k : Int) ∧ k ≤ n ∧ Hid (wr = w)) (fun v _ => n - (intOf v).toNat)
  case atStart => exact ⟨0, rfl, Nat.zero_le _, Lib.hid rfl⟩
  case round =>
    obtain ⟨k, rfl, hk, HB⟩ := hrel
    have hwr := HB.out
    subst hwr
    clear HB
    by_cases hlt : k < n
    · obtain ⟨⟨s, K⟩, hx⟩ : ∃ x, El[k]? = some x := ⟨_, List.getElem?_eq_getElem (by omega)⟩
      obtain ⟨b, off, hA, _, g0⟩ := HG.out k s (by unfold nmsE; rw [List.getElem?_map, List.getElem?_take_of_lt hlt, hx]; rfl)
      obtain ⟨b', off', hA', _, x0, _⟩ := mrg.lies_en HW.out hx
      subst hA hA'
      have i0 : (0 : Int) ≤ (k : Int) := by omega
      have i1 : (k : Int) < (n : Int) := by omega
      have i2 : (k : Int) < (El.length : Int) := by omega
      have t1 : (s.toList != s.toList) = false := bne_self_eq_false _
      clear hx
      go_wp2_with fail
      go_roundw
      case rel => exact ⟨k + 1, by go_num, by omega, Lib.hid (by first | trivial | rfl)⟩
      case measure => simp [intOf]; omega
    · obtain rfl : k = n := by omega
      go_wp2_with fail
      go_ret
      exact ⟨rfl, rfl⟩
theorem cells_of {w : World} {b o : Nat} {v : Value} (h : w.cell? ⟨b, o, none⟩ = some v) : ∃ cs t f, w.heap[b]? = some (.cells cs t f) := by
  unfold World.cell? at h
  rcases hb : w.heap[b]? with _ | x
  · simp [hb] at h
  · cases x
    case cells cs t f => exact ⟨cs, t, f, rfl⟩
    all_goals simp [hb] at h
theorem Sp.str {B s t m : Nat} {A : Option Addr} {c : Nat} {L : List (Nat × Int)} {ad ep r n : Int} {C : cur.Cs} {w : World} (h : Sp B s t m A c L ad ep r n C w) {b o : Nat} {x : ByteArray} (hc : w.cell? ⟨b, o, none⟩ = some (.string x)) : ¬ Bs s t m b := by
  rintro (hj | hj | hj)
  · subst hj
    rw [cell_of_blk h.blk] at hc
    rcases o with _ | _ | _ | _ | o <;> simp at hc
  · subst hj
    rw [cell_of_blk h.tb.2.2.1] at hc
    rcases o with _ | _ | _ | o <;> simp at hc
  · subst hj
    obtain ⟨cs, ty, f, hh⟩ := cells_of hc
    exact h.tb.2.2.2.not _ _ _ hh
theorem lies_on {B s t m : Nat} {A : Option Addr} {c : Nat} {L : List (Nat × Int)} {ad ep r n : Int} {C : cur.Cs} {w w' : World} (h : Sp B s t m A c L ad ep r n C w) {Aw : Option Addr} {El : List (ByteArray × Int)} (hW : Lies w Aw (El.flatMap mrg.enC)) (ht : lru.Tn (Bs s t m) w w') : Lies w' Aw (El.flatMap mrg.enC) := fun j u hj => by
  obtain ⟨b, off, h1, h2, h3⟩ := hW j u hj
  have hne : El ≠ [] := fun e => by subst e; simp at hj
  obtain ⟨x, El', rfl⟩ := List.exists_cons_of_ne_nil hne
  obtain ⟨b', off', h1', _, x0, _⟩ := mrg.lies_en hW (k := 0) (x := x) rfl
  rw [h1] at h1'
  injection h1' with h1'
  injection h1' with e1 e2
  subst e1
  refine ⟨b, off, h1, Nat.lt_of_lt_of_le h2 ht.size, ?_⟩
  rw [show w'.cell? ⟨b, off + j, none⟩ = w.cell? ⟨b, off + j, none⟩ from World.cell?_of_block (w := w) (ht.block b h2 (h.str x0))]
  exact h3
theorem row_on {s t m q : Nat} {w w' : World} {A : Option Addr} {N : List ByteArray} (h : heap.Row w w.heap.size A N) (hA : ∀ b o fr, A = some ⟨b, o, fr⟩ → q ≤ b) (hq : s < q ∧ t < q ∧ m < q) (ht : lru.Tn (Bs s t m) w w') : heap.Row w' w'.heap.size A N := fun i x hs => by
  obtain ⟨b, off, h1, h2, h3⟩ := h i x hs
  have hb := hA _ _ _ h1
  refine ⟨b, off, h1, Nat.lt_of_lt_of_le h2 ht.size, ?_⟩
  rw [show w'.cell? ⟨b, off + i, none⟩ = w.cell? ⟨b, off + i, none⟩ from World.cell?_of_block (w := w) (ht.block b h2 (fun hj => by
    rcases hj with hj | hj | hj
    · have := hq.1; omega
    · have := hq.2.1; omega
    · have := hq.2.2; omega))]
  exact h3
theorem own_on {s t m base : Nat} {w w' : World} {e : TypeId} {size n : Nat} {v : Value} {xs : List Value} (h : w.ownsRow base e size v n xs) (hq : s < base ∧ t < base ∧ m < base) (ht : lru.Tn (Bs s t m) w w') : w'.ownsRow base e size v n xs := ht.own h fun k hk hj => by
  rcases h.2 with ⟨h0, _⟩ | ⟨g, cap, cur, h0, hb, _⟩
  · rw [h0] at hk
    simp [Value.ownBlock] at hk
  · rw [h0] at hk
    have hg : g = k := by simpa [Value.ownBlock] using hk
    rcases hj with hj | hj | hj
    · have := hq.1; omega
    · have := hq.2.1; omega
    · have := hq.2.2; omega
theorem tn_grown {w w' : World} {base : Nat} {e : TypeId} {size n : Nat} {v : Value} {xs : List Value} (h : w.ownsRow base e size v n xs) (hg : w.grownBy w' v.ownBlock) : lru.Tn (fun j => base ≤ j ∧ v.ownBlock = some j) w w' :=
  (lru.Tn.refl _ w).grown hg fun k hk => .inr ⟨by
    rcases h.2 with ⟨h0, _⟩ | ⟨g, cap, cur, h0, hb, _⟩
    · rw [h0] at hk
      simp [Value.ownBlock] at hk
    · rw [h0] at hk
      have hg : g = k := by simpa [Value.ownBlock] using hk
      omega, hk⟩
theorem Sp.grown {B s t m base : Nat} {A : Option Addr} {c : Nat} {L : List (Nat × Int)} {ad ep r n : Int} {C : cur.Cs} {w w' : World} {v : Value} (h : Sp B s t m A c L ad ep r n C w) (hq : s < base ∧ t < base ∧ m < base) (ht : lru.Tn (fun j => base ≤ j ∧ v.ownBlock = some j) w w') : Sp B s t m A c L ad ep r n C w' :=
  ⟨h.ge, (ht.block s (lt_of_some h.blk) (fun hj => by have := hq.1; omega)).trans h.blk, h.tb.tn ht fun j hj hs => by
    rcases hj with rfl | rfl
    · have := hq.2.1; omega
    · have := hq.2.2; omega⟩
def Ca (d1 d2 : ByteArray) (pa pb : Nat) : cur.Cs := [(1, ⟨0, d1, (pa : Int)⟩), (2, ⟨0, d2, (pb : Int)⟩)]
theorem fits2 : mpi.Fits 2 := by unfold mpi.Fits; decide
end Go.Proofs.YtkbhcncbpiimdaaGreatDoor.spc

namespace Go.Proofs.YtkbhcncbpiimdaaGreatDoor.spc
set_option maxRecDepth 100000
open Go.RowKit Go.Proofs.YtkbhcncbpiimdaaGreatDoor.words Go.Proofs.YtkbhcncbpiimdaaGreatDoor.ext Go.Proofs.YtkbhcncbpiimdaaGreatDoor.name Go.Proofs.YtkbhcncbpiimdaaGreatDoor.tre Go.Proofs.YtkbhcncbpiimdaaGreatDoor.stk Go.Proofs.YtkbhcncbpiimdaaGreatDoor.seen Go.Proofs.YtkbhcncbpiimdaaGreatDoor.wlk Go.Proofs.YtkbhcncbpiimdaaGreatDoor.uni

def u8W (x : Nat) : Value := .int .u8 (x : Int)
set_option maxHeartbeats 25600000 in
theorem law_spages (A : Option Addr) (c : Nat) (T : List Nd) (rs : Nat → Raw) (p : ByteArray) (Az : Option Addr) (cz : Nat) (Z : List Nat) (mx : Int) (w : World) (hT : Trees w w.heap.size A T rs) (hmx : w.cell? ⟨0, 0, none⟩ = some (.int .i64 mx)) (hps : p.size ≤ 140737488355328) (hZ : Lies w Az (Z.map u8W)) (hz : ∀ x ∈ Z, x ≤ 255) :
    Calls Tryz.prog 7 #[.slice A T.length c, .string p, .slice Az Z.length cz] w fun e w' => e = .returned (.bool true) ∧ Below w.heap.size w w' := by
  have HT := Lib.hid hT
  have HM := Lib.hid hmx
  have HZl := Lib.hid hZ
  have HZb := Lib.hid hz
  have HSp := Lib.hid (sspeaks_any mx w hmx)
  clear hT hmx hZ hz
  go_enter Tryz.func7, Tryz.ntmps7
  go_wp2_with fail
  refine HSp.out.mono ?_
  rintro e w2 ⟨rfl, hb2⟩
  have HB2 := Lib.hid hb2
  have HMa := Lib.hid (may_any A c T rs w2 (HT.out.later hb2))
  clear hb2 HSp
  go_wp2_with fail
  refine HMa.out.mono ?_
  rintro e w3 ⟨rfl, hb3⟩
  have HB3 := Lib.hid (HB2.out.trans (hb3.mono HB2.out.size))
  clear hb3 HMa
  rcases hmay : mayB T with _ | _
  · rw [mayI_no hmay]
    clear hmay
    go_wp2_with fail
    go_ret
    exact ⟨rfl, HB3.out⟩
  rw [mayI_yes hmay]
  have HMay := Lib.hid hmay
  have hT8 := mayB_len hmay
  clear hmay
  by_cases hn : 1100 < p.size
  · have g : (1100 : Int) < (p.size : Int) := by omega
    go_wp2_with fail
    go_ret
    exact ⟨rfl, HB3.out⟩
  have g : ¬ (1100 : Int) < (p.size : Int) := by omega
  by_cases hzl : 100 < Z.length
  · have g2 : (100 : Int) < (Z.length : Int) := by omega
    go_wp2_with fail
    go_ret
    exact ⟨rfl, HB3.out⟩
  have g2 : ¬ (100 : Int) < (Z.length : Int) := by omega
  have HSt := Lib.hid (stack_any A c T rs mx w3 (HT.out.later HB3.out) (below_cell HM.out HB3.out))
  go_wp2_with fail
  refine HSt.out.mono ?_
  rintro e w4 ⟨hst, hb4⟩
  rcases hst with ⟨_, A', c', L, rfl, hok⟩ | ⟨hno, _⟩
  rotate_left 1
  · rw [HMay.out] at hno; cases hno
  obtain ⟨W5, hW5⟩ : ∃ W5, W5 = w4.alloc (.cells #[.slice A' T.length c', .int .i64 (T.length : Int)] 27) := ⟨_, rfl⟩
  have hb5 : Below w4.heap.size w4 W5 := by rw [hW5]; exact (Below.refl _ _).alloc (Nat.le_refl _) _
  have hk5 : W5.heap[w4.heap.size]? = some (.cells #[.slice A' T.length c', .int .i64 (T.length : Int)] 27 (0, 0)) := by rw [hW5]; exact heap_alloc_new w4 _
  have hb15 : Below w.heap.size w W5 := HB3.out.trans ((hb4.trans (hb5.mono hb4.size)).mono HB3.out.size)
  obtain ⟨R, hR⟩ : ∃ R, R = T.reverse := ⟨_, rfl⟩
  have hok5 := hok.later hb5
  have hstM := StkOk.stkM hok5
  have hlen := hok.len
  have hfine := (fine_of HT.out HMay.out).rev
  have hfew := kids_few HT.out HMay.out
  have h16 := deep16 HT.out HMay.out
  rw [← hR] at hstM hfine hfew h16
  have hRl : R.length = T.length := by rw [hR, List.length_reverse]
  have hdeep : ∀ d ∈ R, depth d < 100 := fun d hd => by have := hfine.deep d hd; omega
  obtain ⟨O, hO⟩ := Goes.some (f := true) hfine.all p
  have hOr : Goes R true ⟨#[47]⟩ (.ok [] (D0 R)) := .inr ⟨[], by decide +kernel, .done rfl⟩
  have hEr : lsE (.ok [] (D0 R)) = 0 := by
    unfold lsE
    refine if_pos ?_
    rcases hD : D0 R with _ | ⟨d, E⟩
    · rfl
    · exact hfine.dirs d (List.mem_of_mem_take (show d ∈ R.take (dirsN R) from by rw [show R.take (dirsN R) = D0 R from rfl, hD]; exact List.mem_cons_self ..))
  have HLi : Hid (∀ (q : ByteArray) (O' : AtO) (w' : World), q.size ≤ 1000000 → Goes R true q O' → Below W5.heap.size W5 w' → Calls Tryz.prog 12 #[.agg #[.slice A' L.length c', .int .i64 (T.length : Int)], .string q] w' (LsOut R O' w')) := Lib.hid fun q O' w' hq hO' hb =>
    ulist_any hfine.all hfine.dirs hdeep (by omega) hfew A' c' (T.length : Int) L mx q w' (hstM.later hb) (below_cell HM.out (hb15.trans (hb.mono hb15.size))) hq hO'
  have HAb : Hid (∀ w' : World, Below W5.heap.size W5 w' → Calls Tryz.prog 14 #[.slice A T.length c] w' fun e w'' => (∃ Aa ca qs, e = .returned (.slice Aa R.length ca) ∧ Trees w'' w''.heap.size Aa R qs) ∧ Below w'.heap.size w' w'') := Lib.hid fun w' hb => by
    have h1 := above_any A c T rs w' (HT.out.later (hb15.trans (hb.mono hb15.size))) (by omega)
    rw [← hR] at h1
    exact h1.mono fun e w'' ⟨Aa, ca, qs, h2, h3, _, h4⟩ => ⟨⟨Aa, ca, qs, h2, h3⟩, h4⟩
  have HRl : Hid (∀ (w' : World) (Aa : Option Addr) (ca : Nat) (qs : Nat → Raw), Trees w' w'.heap.size Aa R qs → Calls Tryz.prog 13 #[.slice Aa R.length ca, .string p] w' (RlOut O w')) := Lib.hid fun w' Aa ca qs h1 =>
    rlist_any hfine.all (by omega) Aa ca qs p w' h1 (by omega) hO fun h0 ns E h d hd => by
      have h2 : Along (D0 R) ns E := (goes_ok hfine.all (by rw [h] at hO; exact hO)).1
      have h3 := along_count h2 (fun x hx => (h16 x (List.mem_of_mem_take hx)).2) d hd
      have h4 : count d = 1 + countL d.I := count_eq d
      have h5 : d.I.length ≤ countL d.I := countL_len d.I
      have h6 := ((h2.good (wlk.Good.root hfine.all)).asc d hd).2
      omega
  have HOwn : Hid (∀ ns E, O = .ok ns E → (∀ n ∈ ns, NmD n) → (∀ d ∈ E, d.K = 2) → (ns ≠ [] → E ≠ []) → Along (D0 R) ns E → Goes R true (pathOf ns) O ∧ (pathOf ns).size ≤ 1000000 ∧ ∀ d ∈ E, Asc d.N ∧ d.N.length = d.I.length) := Lib.hid fun ns E h a1 a2 a3 a4 => by
    have hl := way_len (fun d hd => (h16 d hd).1) a4 a3
    have hsz := way_size a1 hl
    refine ⟨?_, by omega, (a4.good (wlk.Good.root hfine.all)).asc⟩
    rw [h] at hO ⊢
    have hL : ∃ ps, Leads R true [] ps 40 (.ok ns E) := by
      rcases hO with ⟨_, h⟩ | ⟨ps, _, h⟩
      · cases h
      · exact ⟨ps, h⟩
    obtain ⟨ps, hL⟩ := hL
    exact own_goes (leads_true (own_leads hL (own_nil R) ns E 40 rfl) ns E rfl fun d hd => by rw [a2 d hd]; decide) a1 hl
  have HRr : Hid (Goes R true ⟨#[47]⟩ (.ok [] (D0 R)) ∧ lsE (.ok [] (D0 R)) = 0 ∧ ∀ d ∈ D0 R, Asc d.N ∧ d.N.length = d.I.length) := Lib.hid ⟨hOr, hEr, (wlk.Good.root hfine.all).asc⟩
  have HGo := Lib.hid hO
  have HPz : Hid (p.size ≤ 1000000) := Lib.hid (by omega)
  have HRn : Hid (R.length ≤ 64) := Lib.hid (by omega)
  have HCn : Hid (∀ x ∈ D0 R, count x ≤ 400) := Lib.hid fun x hx => (h16 x (List.mem_of_mem_take hx)).2
  have HNw := Lib.hid (show Calls Tryz.prog 27 #[.agg #[.slice A' T.length c', .int .i64 (T.length : Int)], .int .i64 3] W5 (MadeS W5 A' c' L (T.length : Int) 3) from by
    have h1 := snew_any A' c' L (T.length : Int) 3 3 W5 (by decide)
    rw [hlen] at h1
    exact h1)
  have HRm : Hid (∀ w', Below W5.heap.size W5 w' → Calls Tryz.prog 69 #[stkV A' L.length c' (T.length : Int), .int .i64 99] w' fun e w'' => e = .returned (.tuple #[stkV A' L.length c' (T.length : Int), .int .i64 2]) ∧ Below w'.heap.size w' w'') := Lib.hid fun w' hb => by
    have hok' := hok5.later hb
    refine (stk.remove_any A' c' (T.length : Int) 99 L w' hok'.slc (by omega)).mono fun e w'' h => ?_
    rcases h with ⟨i, x, h1, h2, _⟩ | ⟨_, h1, h2⟩
    · have h3 := (hok'.brs i x h1).1
      omega
    · exact ⟨h1, h2⟩
  have HB15 := Lib.hid hb15
  have HW5 := Lib.hid hW5.symm
  have s0 := cell_of_blk hk5 0
  have s1 := cell_of_blk hk5 1
  clear hb4 hok hok5 hW5 hb5 hb15 hk5 hR hstM hlen hfine hfew h16 hRl hdeep hO hOr hEr HSt
  go_upto_region 8 with fail
  rw [HW5.out]
  clear HW5
  go_wp2_with fail
  refine HNw.out.mono ?_
  rintro e w6 ⟨s, t, m, rfl, hsp, hb6⟩
  have HS6 := Lib.hid hsp
  have HV6 := Lib.hid hb6
  have HA6 := Lib.hid (HAb.out w6 hb6)
  clear hsp hb6 HNw HAb s0 s1
  go_wp2_with fail
  refine HA6.out.mono ?_
  rintro e w7 ⟨⟨Aa, ca, qs, rfl, hta⟩, hb7⟩
  have HR7 := Lib.hid (HRl.out w7 Aa ca qs hta)
  have HS7 := Lib.hid (HS6.out.later hb7)
  have HV7 := Lib.hid (HV6.out.trans (hb7.mono HV6.out.size))
  clear hta hb7 HA6 HRl
  go_wp2_with fail
  refine HR7.out.mono ?_
  rintro e w8 ⟨hcase, hb8⟩
  have HS8 := Lib.hid (HS7.out.later hb8)
  have HV8 := Lib.hid (HV7.out.trans (hb8.mono HV7.out.size))
  clear hb8 HR7
  rcases hcase with ⟨hne, rfl⟩ | ⟨ns, E, N, E2, A1, c1, Aw, cw, hOe, h0, hris, hmem, hlk, rfl, _, hlies⟩
  · obtain ⟨z, hz⟩ : ∃ z, z = lsE O := ⟨_, rfl⟩
    have HD := Lib.hid (show (Calls Tryz.prog 30 #[.pointer (some ⟨s, 0, none⟩), .agg #[.int .i64 5, .string p, .int .i64 0, .int .i64 0, .int .i64 0, .string ⟨#[]⟩]] w8 (DoO W5.heap.size s t m A' c' L (T.length : Int) 0 3 0 [] (lsE O) 0 [] false w8)) from (do_5 p 0 0 0 ⟨#[]⟩ L (T.length : Int) 0 3 0 [] (lsE O) 0 [] false (fun A9 c9 => A9 = A' ∧ c9 = c') HS8.out rfl fun w' hb h' => (open_err p h' (fun w2 hb2 => HLi.out p O w2 HPz.out HGo.out (HV8.out.trans ((hb.trans (hb2.mono hb.size)).mono HV8.out.size))) hne).mono fun e w3 h3 => ⟨A', c', ⟨rfl, rfl⟩, DoO.none h3⟩).mono fun e w3 ⟨A9, c9, ⟨h1, h2⟩, h3⟩ => by rw [h1, h2] at h3; exact h3)
    rw [← hz] at HD hne ⊢
    have gz : (z != 0) = true := by rw [bne_iff_ne]; exact hne
    have ge : (z == z) = true := beq_self_eq_true _
    clear hz hne
    go_wp2_with fail
    refine HD.out.mono ?_
    rintro e v1 ⟨A9, c9, ⟨rfl, hsp, htn⟩, _, _, _⟩
    unfold resP
    rw [show ([] : List ByteArray).length = 0 from rfl]
    obtain ⟨V, hV⟩ : ∃ V, V = v1.alloc (.cells #[.int .i64 z, .int .i64 0, .int .i64 0, .int .i64 0, .int .i64 0, .string ⟨#[]⟩, .slice A9 0 c9, .bool false] 44) := ⟨_, rfl⟩
    have hbV : Below v1.heap.size v1 V := by rw [hV]; exact (Below.refl _ _).alloc (Nat.le_refl _) _
    have HXV := Lib.hid (show V.heap[v1.heap.size]? = some (.cells #[.int .i64 z, .int .i64 0, .int .i64 0, .int .i64 0, .int .i64 0, .string ⟨#[]⟩, .slice A9 0 c9, .bool false] 44 (0, 0)) by rw [hV]; exact heap_alloc_new v1 _)
    have HW := Lib.hid hV
    clear hV
    have hbd := Sp.base HS8.out htn HV8.out.size
    have HF := Lib.hid (HB15.out.trans ((HV8.out.trans (hbd.trans (hbV.mono (Nat.le_trans HV8.out.size htn.size)))).mono HB15.out.size))
    have hsV := hsp.later hbV
    have HLn := Lib.hid (show Calls Tryz.prog 31 #[.pointer (some ⟨t, 0, none⟩)] V fun e w' => e = .returned (.int .i64 0) ∧ V = w' from cur.clen_any W5.heap.size t m 3 0 [] V hsV.tb)
    have x0 := cell_of_blk HXV.out 0
    have s3 := cell_of_blk hsV.blk 3
    clear hbd hsp htn hbV hsV HD
    go_upto_region 11 with fail
    rw [← HW.out]
    clear HW
    go_wp2_with fail
    refine HLn.out.mono ?_
    rintro e v2 ⟨rfl, hv2⟩
    have hv2 := hv2.symm
    subst hv2
    go_wp2_with fail
    go_ret
    exact ⟨rfl, HF.out⟩
  have HOe := Lib.hid (And.intro hOe (And.intro h0 (And.intro hris (And.intro hmem hlk))))
  have HWl := Lib.hid hlies
  obtain ⟨dr, hdr⟩ : ∃ dr, dr = pathOf ns := ⟨_, rfl⟩
  have HDr := Lib.hid hdr
  have HD := Lib.hid (show Calls Tryz.prog 30 #[.pointer (some ⟨s, 0, none⟩), .agg #[.int .i64 5, .string p, .int .i64 0, .int .i64 0, .int .i64 0, .string ⟨#[]⟩]] w8 (fun e w' => (∃ A9 c9, (A9 = A' ∧ c9 = c' ∧ ∃ El, Listed E El ∧ (∀ n ∈ ns, NmD n) ∧ (∀ d ∈ E, d.K = 2) ∧ (ns ≠ [] → E ≠ []) ∧ Along (D0 R) ns E) ∧ DoO W5.heap.size s t m A9 c9 L (T.length : Int) 0 3 1 [(1, ⟨0, dr, 0⟩)] 0 1 [] false w8 e w')) from
    do_5 p 0 0 0 ⟨#[]⟩ L (T.length : Int) 0 3 1 [(1, ⟨0, dr, 0⟩)] 0 1 [] false (fun A9 c9 => A9 = A' ∧ c9 = c' ∧ ∃ El, Listed E El ∧ (∀ n ∈ ns, NmD n) ∧ (∀ d ∈ E, d.K = 2) ∧ (ns ≠ [] → E ≠ []) ∧ Along (D0 R) ns E) HS8.out rfl fun w' hb h' => (open_ok p h' (fun w2 hb2 => HLi.out p O w2 HPz.out HGo.out (HV8.out.trans ((hb.trans (hb2.mono hb.size)).mono HV8.out.size))) HOe.out.1 HOe.out.2.1 0 1 1 [(1, ⟨0, dr, 0⟩)] (fun w2 h2 => by rw [← hdr]; exact begin_yes dr h2 (by decide) (by decide) (by decide) (by decide) rfl)).mono fun e w3 h3 => ⟨A', c', ⟨rfl, rfl, h3.2⟩, DoO.none h3.1⟩)
  clear hOe h0 hris hmem hlk hlies hdr
  go_wp2_with fail
  refine HD.out.mono ?_
  rintro e v1 ⟨A9, c9, ⟨hA, hc, El, hld, hnn, hdd, hzz, haa⟩, A2, c2, ⟨rfl, hsp, htn⟩, _, _, _⟩
  rw [hA, hc] at hsp
  obtain rfl : E2 = El := by
    obtain ⟨out, hm, hk⟩ := hld
    exact mrg.listed_ref (HOwn.out ns E HOe.out.1 hnn hdd hzz haa).2.2 hm hk HOe.out.2.2.1 HOe.out.2.2.2.1 HOe.out.2.2.2.2
  have HLd := Lib.hid hld
  have HGd := Lib.hid (HOwn.out ns E HOe.out.1 hnn hdd hzz haa)
  have HEl : Hid (E2.length ≤ 1000000) := Lib.hid (by
    obtain ⟨out, hm, hk⟩ := hld
    have hel : E.length ≤ 64 := by
      have h1 := haa.len
      have h2 : (D0 R).length ≤ R.length := by unfold D0; rw [List.length_take]; exact Nat.min_le_right _ _
      have h3 := HRn.out
      omega
    exact listed_few hm hk (fun d hd => by
      have h3 := along_count haa HCn.out d hd
      have h4 : count d = 1 + countL d.I := count_eq d
      have h5 : d.I.length ≤ countL d.I := countL_len d.I
      have h6 := ((HOwn.out ns E HOe.out.1 hnn hdd hzz haa).2.2 d hd).2
      omega) hel)
  unfold resP
  rw [show ([] : List ByteArray).length = 0 from rfl]
  clear hA hc hld hnn hdd hzz haa HD
  obtain ⟨V1, hV⟩ : ∃ V1, V1 = v1.alloc (.cells #[.int .i64 0, .int .i64 0, .int .i64 0, .int .i64 0, .int .i64 1, .string ⟨#[]⟩, .slice A2 0 c2, .bool false] 44) := ⟨_, rfl⟩
  have hbV : Below v1.heap.size v1 V1 := by rw [hV]; exact (Below.refl _ _).alloc (Nat.le_refl _) _
  have HXV1 := Lib.hid (show V1.heap[v1.heap.size]? = some (.cells #[.int .i64 0, .int .i64 0, .int .i64 0, .int .i64 0, .int .i64 1, .string ⟨#[]⟩, .slice A2 0 c2, .bool false] 44 (0, 0)) by rw [hV]; exact heap_alloc_new v1 _)
  have HW := Lib.hid hV
  clear hV
  have HG1 := Lib.hid hsp.lt
  have HS1 := Lib.hid (hsp.later hbV)
  have hbd := Sp.base HS8.out htn HV8.out.size
  have HV1 := Lib.hid (HV8.out.trans (hbd.trans (hbV.mono (Nat.le_trans HV8.out.size htn.size))))
  have HW1 := Lib.hid (Below.lies (lies_on HS8.out HWl.out htn) hbV)
  have HD := Lib.hid (show Calls Tryz.prog 30 #[.pointer (some ⟨s, 0, none⟩), .agg #[.int .i64 5, .string ⟨#[47]⟩, .int .i64 0, .int .i64 0, .int .i64 0, .string ⟨#[]⟩]] V1 (fun e w' => (∃ A9 c9, (A9 = A' ∧ c9 = c' ∧ ∃ Er, Listed (D0 R) Er ∧ (∀ n ∈ ([] : List ByteArray), NmD n) ∧ (∀ d ∈ D0 R, d.K = 2) ∧ (([] : List ByteArray) ≠ [] → D0 R ≠ []) ∧ Along (D0 R) [] (D0 R)) ∧ DoO W5.heap.size s t m A9 c9 L (T.length : Int) 0 3 2 (Ca dr ⟨#[47]⟩ 0 0) 0 2 [] false V1 e w')) from
    do_5 ⟨#[47]⟩ 0 0 0 ⟨#[]⟩ L (T.length : Int) 0 3 2 (Ca dr ⟨#[47]⟩ 0 0) 0 2 [] false (fun A9 c9 => A9 = A' ∧ c9 = c' ∧ ∃ Er, Listed (D0 R) Er ∧ (∀ n ∈ ([] : List ByteArray), NmD n) ∧ (∀ d ∈ D0 R, d.K = 2) ∧ (([] : List ByteArray) ≠ [] → D0 R ≠ []) ∧ Along (D0 R) [] (D0 R)) HS1.out rfl fun w' hb h' => (open_ok ⟨#[47]⟩ h' (fun w2 hb2 => HLi.out ⟨#[47]⟩ _ w2 (by decide) HRr.out.1 (HV1.out.trans ((hb.trans (hb2.mono hb.size)).mono HV1.out.size))) rfl HRr.out.2.1 0 2 2 (Ca dr ⟨#[47]⟩ 0 0) (fun w2 h2 => begin_yes ⟨#[47]⟩ h2 (by show (1 : Int) < 3; decide) (by show 1 ≤ 2000; decide) (by decide) (by decide) rfl)).mono fun e w3 h3 => ⟨A', c', ⟨rfl, rfl, h3.2⟩, DoO.none h3.1⟩)
  clear hbd hsp htn hbV
  go_upto_region 11 with fail
  rw [← HW.out]
  clear HW
  go_wp2_with fail
  refine HD.out.mono ?_
  rintro e v2 ⟨A9, c9, ⟨hA, hc, Er, hlr, _⟩, A3, c3, ⟨rfl, hsp, htn⟩, _, _, _⟩
  rw [hA, hc] at hsp
  have HLr := Lib.hid hlr
  unfold resP
  rw [show ([] : List ByteArray).length = 0 from rfl]
  clear hA hc hlr HD
  obtain ⟨V2, hV⟩ : ∃ V2, V2 = v2.alloc (.cells #[.int .i64 0, .int .i64 0, .int .i64 0, .int .i64 0, .int .i64 2, .string ⟨#[]⟩, .slice A3 0 c3, .bool false] 44) := ⟨_, rfl⟩
  have hbV : Below v2.heap.size v2 V2 := by rw [hV]; exact (Below.refl _ _).alloc (Nat.le_refl _) _
  have HXV2 := Lib.hid (show V2.heap[v2.heap.size]? = some (.cells #[.int .i64 0, .int .i64 0, .int .i64 0, .int .i64 0, .int .i64 2, .string ⟨#[]⟩, .slice A3 0 c3, .bool false] 44 (0, 0)) by rw [hV]; exact heap_alloc_new v2 _)
  have HW := Lib.hid hV
  clear hV
  have hx1 := (hbV.block _ (lt_of_some (box_on HXV1.out htn HG1.out))).trans (box_on HXV1.out htn HG1.out)
  have HQ1 := Lib.hid hx1
  have HG2 := Lib.hid hsp.lt
  have HS2 := Lib.hid (hsp.later hbV)
  have hbd := Sp.base HS1.out htn HV1.out.size
  have HV2 := Lib.hid (HV1.out.trans (hbd.trans (hbV.mono (Nat.le_trans HV1.out.size htn.size))))
  have HW2 := Lib.hid (Below.lies (lies_on HS1.out HW1.out htn) hbV)
  have x0 := cell_of_blk hx1 0
  have q0 := cell_of_blk HXV2.out 0
  have HPa : Hid (∀ (pa pb x : Nat) (N : Int) (w' : World), Sp W5.heap.size s t m A' c' L (T.length : Int) 0 3 2 (Ca dr ⟨#[47]⟩ pa pb) w' → Below W5.heap.size W5 w' → pa ≤ E2.length → 1 ≤ N → (x : Int) = min N ((E2.length - pa : Nat) : Int) → Calls Tryz.prog 30 #[.pointer (some ⟨s, 0, none⟩), .agg #[.int .i64 6, .string ⟨#[]⟩, .int .i64 0, .int .i64 N, .int .i64 1, .string ⟨#[]⟩]] w' (DoO W5.heap.size s t m A' c' L (T.length : Int) 0 3 2 (Ca dr ⟨#[47]⟩ (pa + x) pb) 0 0 (nmsE ((E2.drop pa).take x)) (x == E2.length - pa) w')) := Lib.hid fun pa pb x N w' h hb h1 h2 h3 =>
    (do_6 ⟨#[]⟩ 0 N 1 ⟨#[]⟩ L (T.length : Int) 0 3 2 (Ca dr ⟨#[47]⟩ (pa + x) pb) 0 0 (nmsE ((E2.drop pa).take x)) (x == E2.length - pa) (fun A9 c9 => A9 = A' ∧ c9 = c') h (by unfold badB; simp; omega) fun w2 hb2 h' => (page_ok (R := R) (O := O) (ns := ns) (E := E) 6 ⟨#[]⟩ 0 N 1 ⟨#[]⟩ E2 ⟨0, dr, (pa : Int)⟩ pa x h' fits1 rfl rfl h2 rfl h1 h3 (by show 2 ≤ 2000; decide) HOe.out.1 HOe.out.2.1 HLd.out HGd.out.2.2 (fun w3 hb3 => HLi.out dr O w3 (by rw [HDr.out]; exact HGd.out.2.1) (by rw [HDr.out]; exact HGd.out.1) (hb.trans ((hb2.trans (hb3.mono hb2.size)).mono hb.size)))).mono fun e w3 h3 => ⟨A', c', ⟨rfl, rfl⟩, h3⟩).mono fun e w3 ⟨A9, c9, ⟨h1, h2⟩, h3⟩ => by rw [h1, h2] at h3; exact h3
  have HPb : Hid (∀ (pa pb x : Nat) (w' : World), Sp W5.heap.size s t m A' c' L (T.length : Int) 0 3 2 (Ca dr ⟨#[47]⟩ pa pb) w' → Below W5.heap.size W5 w' → pb ≤ Er.length → (x : Int) = min 1 ((Er.length - pb : Nat) : Int) → Calls Tryz.prog 30 #[.pointer (some ⟨s, 0, none⟩), .agg #[.int .i64 6, .string ⟨#[]⟩, .int .i64 0, .int .i64 1, .int .i64 2, .string ⟨#[]⟩]] w' (DoO W5.heap.size s t m A' c' L (T.length : Int) 0 3 2 (Ca dr ⟨#[47]⟩ pa (pb + x)) 0 0 (nmsE ((Er.drop pb).take x)) (x == Er.length - pb) w')) := Lib.hid fun pa pb x w' h hb h1 h3 =>
    (do_6 ⟨#[]⟩ 0 1 2 ⟨#[]⟩ L (T.length : Int) 0 3 2 (Ca dr ⟨#[47]⟩ pa (pb + x)) 0 0 (nmsE ((Er.drop pb).take x)) (x == Er.length - pb) (fun A9 c9 => A9 = A' ∧ c9 = c') h rfl fun w2 hb2 h' => (page_ok (R := R) (O := .ok [] (D0 R)) (ns := []) (E := D0 R) 6 ⟨#[]⟩ 0 1 2 ⟨#[]⟩ Er ⟨0, ⟨#[47]⟩, (pb : Int)⟩ pb x h' fits2 rfl rfl (by decide) rfl h1 h3 (by show 2 ≤ 2000; decide) rfl HRr.out.2.1 HLr.out HRr.out.2.2 (fun w3 hb3 => HLi.out ⟨#[47]⟩ _ w3 (by decide) HRr.out.1 (hb.trans ((hb2.trans (hb3.mono hb2.size)).mono hb.size)))).mono fun e w3 h3 => ⟨A', c', ⟨rfl, rfl⟩, h3⟩).mono fun e w3 ⟨A9, c9, ⟨h1, h2⟩, h3⟩ => by rw [h1, h2] at h3; exact h3
  have HPc : Hid (∀ (pa pb : Nat) (w' : World), Sp W5.heap.size s t m A' c' L (T.length : Int) 0 3 2 (Ca dr ⟨#[47]⟩ pa pb) w' → Below W5.heap.size W5 w' → Calls Tryz.prog 30 #[.pointer (some ⟨s, 0, none⟩), .agg #[.int .i64 8, .string ⟨#[]⟩, .int .i64 0, .int .i64 0, .int .i64 0, .string ⟨#[110, 111, 110, 101]⟩]] w' (DoO W5.heap.size s t m A' c' L (T.length : Int) 0 3 2 (Ca dr ⟨#[47]⟩ pa pb) 1 0 [] false w')) := Lib.hid fun pa pb w' h hb =>
    (do_8 ⟨#[]⟩ 0 0 0 ⟨#[110, 111, 110, 101]⟩ L (T.length : Int) 0 3 2 (Ca dr ⟨#[47]⟩ pa pb) 1 0 [] false (fun A9 c9 => A9 = A' ∧ c9 = c') h rfl fun w2 hb2 h' => (add_bad ⟨#[110, 111, 110, 101]⟩ h' (fun w3 _ => bopen_bad _ w3 (by decide +kernel))).mono fun e w3 h3 => ⟨A', c', ⟨rfl, rfl⟩, DoO.none h3⟩).mono fun e w3 ⟨A9, c9, ⟨h1, h2⟩, h3⟩ => by rw [h1, h2] at h3; exact h3
  have HPd : Hid (∀ (pa pb : Nat) (w' : World), Sp W5.heap.size s t m A' c' L (T.length : Int) 0 3 2 (Ca dr ⟨#[47]⟩ pa pb) w' → Below W5.heap.size W5 w' → Calls Tryz.prog 30 #[.pointer (some ⟨s, 0, none⟩), .agg #[.int .i64 9, .string ⟨#[]⟩, .int .i64 0, .int .i64 0, .int .i64 99, .string ⟨#[]⟩]] w' (DoO W5.heap.size s t m A' c' L (T.length : Int) 0 3 2 (Ca dr ⟨#[47]⟩ pa pb) 2 0 [] false w')) := Lib.hid fun pa pb w' h hb =>
    (do_9 ⟨#[]⟩ 0 0 99 ⟨#[]⟩ L (T.length : Int) 0 3 2 (Ca dr ⟨#[47]⟩ pa pb) 2 0 [] false (fun A9 c9 => A9 = A' ∧ c9 = c') h rfl fun w2 hb2 h' => (remove_no 99 h' (fun w3 hb3 => HRm.out w3 (hb.trans ((hb2.trans (hb3.mono hb2.size)).mono hb.size)))).mono fun e w3 h3 => ⟨A', c', ⟨rfl, rfl⟩, DoO.none h3⟩).mono fun e w3 ⟨A9, c9, ⟨h1, h2⟩, h3⟩ => by rw [h1, h2] at h3; exact h3
  clear hbd hsp htn hbV hx1
  go_upto_region 14 with fail
  rw [← HW.out]
  clear HW
  have HZv := Lib.hid (Below.lies HZl.out (HB15.out.trans (HV2.out.mono HB15.out.size)))
  obtain ⟨iS, hiS, zS0, zS1, zS2⟩ := info_parts infoStrP
  go_wp2_with fail
  go_loopw [82, 15] (fun v v15 wr => ∃ (k pa pb : Nat), v = .int .i64 (k : Int) ∧ k ≤ Z.length ∧ pa ≤ E2.length ∧ pb ≤ Er.length ∧ Hid (wr.ownsRow V2.heap.size 9 1 v15 pa ((nmsE (E2.take pa)).map Value.string)) ∧ Hid (Sp W5.heap.size s t m A' c' L (T.length : Int) 0 3 2 (Ca dr ⟨#[47]⟩ pa pb) wr) ∧ Hid (lru.Tn (Bs s t m) V2 wr)) (fun v _ _ => Z.length - (intOf v).toNat)
  case atStart => exact ⟨0, 0, 0, rfl, Nat.zero_le _, Nat.zero_le _, Nat.zero_le _, Lib.hid (World.ownsRow_nil _ _ _ _), HS2, Lib.hid (lru.Tn.refl _ _)⟩
  case round =>
    obtain ⟨k, pa, pb, rfl, hk, hpa, hpb, HO, HS, HT2⟩ := hrel
    obtain ⟨Ag, cg, rfl, hcg, hzg⟩ := tre.own_facts HO.out
    have hq : s < V2.heap.size ∧ t < V2.heap.size ∧ m < V2.heap.size := HS2.out.lt
    have hVr := Sp.base HS2.out HT2.out HV2.out.size
    have hVw := HV2.out.trans hVr
    by_cases hlt : k < Z.length
    · obtain ⟨y, hy⟩ : ∃ y, Z[k]? = some y := ⟨_, List.getElem?_eq_getElem hlt⟩
      have hy255 := HZb.out y (List.mem_of_getElem? hy)
      obtain ⟨b, off, hA, _, x00⟩ := Below.lies HZl.out (HB15.out.trans (hVw.mono HB15.out.size)) k (u8W y) (by rw [List.getElem?_map, hy]; rfl)
      subst hA
      have y0 : wr.cell? ⟨b, off + k, none⟩ = some (.int .u8 (y : Int)) := x00
      have i0 : (0 : Int) ≤ (k : Int) := by omega
      have i1 : (k : Int) < (Z.length : Int) := by omega
      have c0 : -9223372036854775808 ≤ (y : Int) := by omega
      have c1 : (y : Int) < 9223372036854775808 := by omega
      obtain ⟨q, hqq⟩ : ∃ q, q = y % 5 := ⟨_, rfl⟩
      obtain ⟨qi, hqi⟩ : ∃ qi : Int, qi = (q : Int) := ⟨_, rfl⟩
      have hq2 : Int.tmod (y : Int) 5 = qi := by rw [Int.tmod_eq_emod_of_nonneg (by omega)]; omega
      have hq5 : qi ≤ 4 := by omega
      have hq6 : 0 ≤ qi := by omega
      obtain ⟨Nq, hNq⟩ : ∃ Nq : Int, 1 + qi = Nq := ⟨_, rfl⟩
      obtain ⟨x, hx⟩ : ∃ x : Nat, (x : Int) = min Nq ((E2.length - pa : Nat) : Int) := ⟨(min Nq ((E2.length - pa : Nat) : Int)).toNat, by omega⟩
      obtain ⟨x', hx'⟩ : ∃ x' : Nat, (x' : Int) = min 1 ((Er.length - pb : Nat) : Int) := ⟨(min 1 ((Er.length - pb : Nat) : Int)).toNat, by omega⟩
      have HD := Lib.hid (HPa.out pa pb x Nq wr HS.out hVw hpa (by omega) hx)
      obtain ⟨nm, hnm⟩ : ∃ nm, nm = nmsE ((E2.drop pa).take x) := ⟨_, rfl⟩
      obtain ⟨fin, hfin⟩ : ∃ fin, fin = (x == E2.length - pa) := ⟨_, rfl⟩
      rw [← hnm, ← hfin] at HD
      have hnl : nm.length = x := by rw [hnm]; unfold nmsE; rw [List.length_map, List.length_take, List.length_drop]; omega
      have HNm := Lib.hid (And.intro hnm hnl)
      have HFi := Lib.hid hfin
      have HXe := Lib.hid (And.intro hx hx')
      have HCy := Lib.hid (And.intro hk (And.intro hlt (And.intro hpa (And.intro hpb (And.intro hq (And.intro hVw hzg))))))
      have b4 : wr.cell? ⟨v1.heap.size, 4, none⟩ = some (.int .i64 1) := cell_of_blk (box_on HQ1.out HT2.out HG1.out) 4
      clear hy x00 hqq hqi hx hx' hnm hfin hnl hq hVr hVw hzg hcg
      go_wp2_with fail
      refine HD.out.mono ?_
      rintro e u1 ⟨A4, c4, ⟨rfl, hsp, htn⟩, hrow, hhi, hnz⟩
      unfold resP
      rw [HNm.out.2] at hnz ⊢
      obtain ⟨U1, hV⟩ : ∃ U1, U1 = u1.alloc (.cells #[.int .i64 0, .int .i64 0, .int .i64 0, .int .i64 0, .int .i64 0, .string ⟨#[]⟩, .slice A4 x c4, .bool fin] 44) := ⟨_, rfl⟩
      have hbV : Below u1.heap.size u1 U1 := by rw [hV]; exact (Below.refl _ _).alloc (Nat.le_refl _) _
      have HXU1 := Lib.hid (show U1.heap[u1.heap.size]? = some (.cells #[.int .i64 0, .int .i64 0, .int .i64 0, .int .i64 0, .int .i64 0, .string ⟨#[]⟩, .slice A4 x c4, .bool fin] 44 (0, 0)) by rw [hV]; exact heap_alloc_new u1 _)
      have HW := Lib.hid hV
      clear hV
      have HGr := Lib.hid hsp.lt
      have HSa := Lib.hid (hsp.later hbV)
      have HTa := Lib.hid (htn.trans (lru.Tn.of_below (w := U1) hbV _))
      have HRw := Lib.hid ((hrow.keep hbV).more hbV.size)
      have HHi := Lib.hid hhi
      have HNz := Lib.hid hnz
      have hVa := Sp.base HS.out HTa.out (Nat.le_trans HV2.out.size HT2.out.size)
      have HVa := Lib.hid (HCy.out.2.2.2.2.2.1.trans hVa)
      have HDb := Lib.hid (HPb.out (pa + x) pb x' U1 HSa.out HVa.out HCy.out.2.2.2.1 HXe.out.2)
      have b4' : U1.cell? ⟨v2.heap.size, 4, none⟩ = some (.int .i64 2) := cell_of_blk (box_on HXV2.out (HT2.out.trans HTa.out) HG2.out) 4
      clear hsp htn hrow hhi hnz hbV hVa y0 b4 HD hq2 hq5 hq6 hNq c0 c1 i0 i1
      go_upto_region 21 with fail
      rw [← HW.out]
      clear HW
      go_wp2_with fail
      refine HDb.out.mono ?_
      rintro e u2 ⟨_, _, ⟨rfl, hsp, htn⟩, _, _, _⟩
      have HSb := Lib.hid hsp
      have HTb := Lib.hid (HTa.out.trans htn)
      have HTf := Lib.hid htn
      have hVb := Sp.base HS.out HTb.out (Nat.le_trans HV2.out.size HT2.out.size)
      have HDc := Lib.hid (HPc.out (pa + x) (pb + x') u2 hsp (HCy.out.2.2.2.2.2.1.trans hVb))
      clear hsp htn hVb b4' HDb
      go_wp2_with fail
      refine HDc.out.mono ?_
      rintro e u3 ⟨_, _, ⟨rfl, hsp, htn⟩, _, _, _⟩
      have HSc := Lib.hid hsp
      have HTc := Lib.hid (HTb.out.trans htn)
      have HTe := Lib.hid (HTf.out.trans htn)
      have hVc := Sp.base HS.out HTc.out (Nat.le_trans HV2.out.size HT2.out.size)
      have HDd := Lib.hid (HPd.out (pa + x) (pb + x') u3 hsp (HCy.out.2.2.2.2.2.1.trans hVc))
      clear hsp htn hVc HDc
      go_wp2_with fail
      refine HDd.out.mono ?_
      rintro e u4 ⟨_, _, ⟨rfl, hsp, htn⟩, _, _, _⟩
      have HSd := Lib.hid hsp
      have HTd := Lib.hid (HTc.out.trans htn)
      have HTr : Hid (lru.Tn (Bs s t m) U1 u4) := Lib.hid (HTe.out.trans htn)
      clear hsp htn HDd
      have HXr := Lib.hid (box_on HXU1.out HTr.out HGr.out)
      have r6 := cell_of_blk HXr.out 6
      have HOd := Lib.hid (own_on HO.out HCy.out.2.2.2.2.1 HTd.out)
      have HLd4 := Lib.hid (lies_row (row_on HRw.out (q := wr.heap.size) HHi.out HS.out.lt HTr.out))
      have hsz4 : V2.heap.size ≤ u4.heap.size := Nat.le_trans HT2.out.size HTd.out.size
      have hpl : pa + x ≤ E2.length := by have := HXe.out.1; have := HCy.out.2.2.1; omega
      have hel := HEl.out
      obtain ⟨pn, hpn⟩ : ∃ pn, pn = pa + x := ⟨_, rfl⟩
      have HNext : Hid (∀ v15' wq, wq.ownsRow V2.heap.size 9 1 v15' (pa + x) ((nmsE (E2.take pa)).map Value.string ++ nm.map Value.string) → u4.grownBy wq (Value.slice Ag pa cg).ownBlock → ∃ Aq cq, v15' = .slice Aq pn cq ∧ wq.cell? ⟨u1.heap.size, 0, none⟩ = some (.int .i64 0) ∧ wq.cell? ⟨u1.heap.size, 7, none⟩ = some (.bool fin) ∧
          wq.ownsRow V2.heap.size 9 1 (.slice Aq pn cq) pn ((nmsE (E2.take pn)).map Value.string) ∧ Sp W5.heap.size s t m A' c' L (T.length : Int) 0 3 2 (Ca dr ⟨#[47]⟩ pn (pb + x')) wq ∧ lru.Tn (Bs s t m) V2 wq) := Lib.hid fun v15' wq hown hgrow => by
        have hown2 : wq.ownsRow V2.heap.size 9 1 v15' pn ((nmsE (E2.take pn)).map Value.string) := by
          rw [hpn, List.take_add, show nmsE (E2.take pa ++ (E2.drop pa).take x) = nmsE (E2.take pa) ++ nm from by rw [HNm.out.1]; unfold nmsE; rw [List.map_append], List.map_append]
          exact hown
        have htg := tn_grown HOd.out hgrow
        have hxq := (htg.block u1.heap.size (lt_of_some HXr.out) (fun hj => own_ne HOd.out HXr.out (by decide) hj.2)).trans HXr.out
        obtain ⟨Aq, cq, rfl, _, _⟩ := tre.own_facts hown2
        exact ⟨Aq, cq, rfl, cell_of_blk hxq 0, cell_of_blk hxq 7, hown2, by rw [hpn]; exact HSd.out.grown HCy.out.2.2.2.2.1 htg, (HT2.out.trans HTd.out).then htg fun j h1 h2 => absurd h2.1 (Nat.not_le_of_lt h1)⟩
      have t3 : ((pn : Int) == (E2.length : Int)) = fin := by
        have := HCy.out.2.2.1
        rw [HFi.out, Bool.eq_iff_iff]
        simp only [beq_iff_eq]
        omega
      have t4 : (fin != fin) = false := bne_self_eq_false _
      have t5 : ¬ ((E2.length : Int) < (pn : Int)) := by omega
      have HPn := Lib.hid hpn
      clear hpn
      go_wp2_with (at_builtin; refine wpList_append_opt rfl (.tmp 106) (.tmp 108) 34 rfl V2.heap.size 9 iS _ 1 16 Tryz.underlying34 hiS zS0 zS1 zS2 rfl (by decide) (.slice Ag pa cg) pa ((nmsE (E2.take pa)).map Value.string) rfl HOd.out A4 x c4 (nm.map Value.string) HNz.out rfl (by rw [List.length_map, HNm.out.2, Nat.mul_one]) HLd4.out (fun u hu => by obtain ⟨z, _, rfl⟩ := List.mem_map.1 hu; rfl) (by unfold maxLen; omega) (by omega) hsz4 ?_; intro v15' wq hown hgrow; obtain ⟨Aq, cq, rfl, r0, r7, hrest⟩ := HNext.out v15' wq hown hgrow; have HRest := Lib.hid hrest; clear hown hgrow hrest r6 HNext)
      go_roundw
      case rel => exact ⟨k + 1, pn, pb + x', by go_num, by omega, by have := HPn.out; omega, by have := HXe.out.2; have := HCy.out.2.2.2.1; omega, Lib.hid HRest.out.1, Lib.hid HRest.out.2.1, Lib.hid HRest.out.2.2⟩
      case measure => simp [intOf]; omega
    · obtain rfl : k = Z.length := by omega
      have HF := Lib.hid (HB15.out.trans (hVw.mono HB15.out.size))
      have hrow : heap.Row wr wr.heap.size Ag (nmsE (E2.take pa)) := by
        have hnl : (nmsE (E2.take pa)).length = pa := by unfold nmsE; rw [List.length_map, List.length_take]; omega
        have h1 : wr.ownsRow V2.heap.size 9 1 (.slice Ag (nmsE (E2.take pa)).length cg) (nmsE (E2.take pa)).length ((nmsE (E2.take pa)).map Value.string) := by
          rw [hnl]
          exact HO.out
        exact mrg.row_own h1
      have HPx := Lib.hid (prefix_any Ag cg Aw cw E2 pa wr hpa HEl.out hrow (lies_on HS2.out HW2.out HT2.out))
      clear hrow hVr hVw hq hcg hzg
      go_wp2_with fail
      refine HPx.out.mono ?_
      rintro e v9 ⟨rfl, hv9⟩
      have hv9 := hv9.symm
      subst hv9
      go_wp2_with fail
      go_ret
      exact ⟨rfl, HF.out⟩
end Go.Proofs.YtkbhcncbpiimdaaGreatDoor.spc

namespace Go.Proofs.YtkbhcncbpiimdaaGreatDoor.spc
set_option maxRecDepth 100000
open Go.ChangeShapes Go.RowKit Go.Proofs.YtkbhcncbpiimdaaGreatDoor.words Go.Proofs.YtkbhcncbpiimdaaGreatDoor.ext Go.Proofs.YtkbhcncbpiimdaaGreatDoor.tre
section
variable {W : World} {base : Nat} {spare : Nat → Bool} {held : Bool} {H : Type} {enc : TypeId × Value → H}
theorem cellsU8 : Tryz.prog.cellsOf 5 = 1 := by kernel_rfl
theorem u8s_of {fuel : Nat} {a0 : Option Addr} {len cap : Nat} {x : DataW H × List MemPlace} (h : DataW.trod enc Tryz.prog W base spare held fuel 85 [.slice a0 len cap] = some x) (hs : Sized 85 x.1) :
    ∃ L : List Nat, L.length = len ∧ Lies W a0 (L.map u8W) ∧ ∀ y ∈ L, y ≤ 255 := by
  rcases a0 with _ | a
  · obtain ⟨rfl, _⟩ := (slice_facts Tryz.underlying85 h hs).2.2 rfl
    exact ⟨[], rfl, fun i x hx => by simp at hx, fun y hy => by cases hy⟩
  · obtain ⟨n, _, hel⟩ := slice_each Tryz.underlying85 h hs
    have each : ∀ i, i < len → ∃ y : Nat, y ≤ 255 ∧ W.cell? (a.add i) = some (u8W y) := fun i hlt => by
      obtain ⟨cs, d, hcs, ht, hsd⟩ := hel i hlt
      rw [cellsU8, Nat.mul_one] at hcs
      obtain ⟨s, rfl, hd, hw⟩ := DataW.trod_int Tryz.underlying5 ht
      obtain ⟨_, _, hat⟩ := World.cells?_some hcs
      have h0 := hat 0 (by omega)
      have e : (a.add i).add 0 = a.add i := by simp [Addr.add]
      rw [e] at h0
      have hb : 0 ≤ s ∧ s ≤ 255 := by
        simp [Lit.wf, IntKind.min, IntKind.max, IntKind.signed, IntKind.bits] at hw
        omega
      refine ⟨s.toNat, by omega, ?_⟩
      rw [h0]
      unfold u8W
      rw [Int.toNat_of_nonneg hb.1]
      rfl
    obtain ⟨f, hfl⟩ := Deep.choose_lt each
    refine ⟨(List.range len).map f, by simp, fun i x hx => ?_, fun y hy => ?_⟩
    · have hlt : i < len := by
        have := (List.getElem?_eq_some_iff.1 hx).1
        simpa using this
      have hxe : x = u8W (f i) := by
        rw [List.getElem?_map, List.getElem?_map, List.getElem?_range hlt] at hx
        simpa using hx.symm
      subst hxe
      obtain ⟨b, off, spot⟩ := a
      have h0 := (hfl 0 (by omega)).2
      have hspot : spot = none := by simpa [Addr.add] using World.cell?_spot h0
      subst hspot
      have hcell := (hfl i hlt).2
      rw [add_place] at hcell
      exact ⟨b, off, rfl, World.block_lt_of_cell? W _ hcell, hcell⟩
    · obtain ⟨i, hi, rfl⟩ := List.mem_map.1 hy
      exact (hfl i (by simpa using hi)).1
end
end Go.Proofs.YtkbhcncbpiimdaaGreatDoor.spc
