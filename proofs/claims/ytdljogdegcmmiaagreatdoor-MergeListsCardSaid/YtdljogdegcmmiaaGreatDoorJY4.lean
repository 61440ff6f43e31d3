/- That merge speaks: a whiteout upon a file, a link beside it. Condition: the library's MaxLen holds a number. -/
import Derived.Test.YtdljogdegcmmiaaGreatDoorJY3
import Derived.Test.YtdljogdegcmmiaaGreatDoorJH2
import Derived.Laws.StructEq
namespace Go.Proofs.YtdljogdegcmmiaaGreatDoor.mrg
set_option maxRecDepth 100000
open Go.RowKit Go.Proofs.YtdljogdegcmmiaaGreatDoor.words Go.Proofs.YtdljogdegcmmiaaGreatDoor.ext Go.Proofs.YtdljogdegcmmiaaGreatDoor.name Go.Proofs.YtdljogdegcmmiaaGreatDoor.tre Go.Proofs.YtdljogdegcmmiaaGreatDoor.stk Go.Proofs.YtdljogdegcmmiaaGreatDoor.seen

def hT : Nd := dirN [ab, cb] [whiteN, linkN bb]
theorem hT_v (r : Raw) : ndV hT r = dtV r := rfl
def lkV (r : Raw) : Value := .agg #[.int .i64 3, .bool false, .slice r.An 0 r.cn, .slice r.Ai 0 r.ci, .int .i64 0, .slice r.Ae 0 r.ce, .string ⟨#[98]⟩]
theorem lk_v (r : Raw) : ndV (linkN bb) r = lkV r := rfl
theorem fh_fine : ∀ t ∈ [seen.fT, hT], depth t ≤ 1000 ∧ (treeB t = true → countC t = (count t : Int) ∧ count t ≤ 4096) := fun t ht => by
  simp only [List.mem_cons, List.mem_nil_iff, or_false] at ht
  rcases ht with rfl | rfl
  · exact ⟨by decide +kernel, fun _ => ⟨by decide +kernel, by decide +kernel⟩⟩
  · exact ⟨by decide +kernel, fun _ => ⟨by decide +kernel, by decide +kernel⟩⟩
theorem fh_right : ∀ t ∈ [seen.fT, hT], treeB t = true := fun t ht => by
  simp only [List.mem_cons, List.mem_nil_iff, or_false] at ht
  rcases ht with rfl | rfl <;> decide +kernel
theorem fh_all : ∀ t ∈ [hT, seen.fT], allB t = true := fun t ht => by
  simp only [List.mem_cons, List.mem_nil_iff, or_false] at ht
  rcases ht with rfl | rfl <;> decide +kernel
theorem fh_dirs : ∀ t ∈ [hT, seen.fT], t.K = 2 := fun t ht => by
  simp only [List.mem_cons, List.mem_nil_iff, or_false] at ht
  rcases ht with rfl | rfl <;> rfl
theorem fh_root : rootP (tabs [hT, seen.fT]) = feP := by rw [root_take fh_dirs]; rfl
theorem fh_ats : Ats [hT, seen.fT] feP [hT, seen.fT] := by
  have h := root_ats fh_dirs
  rw [fh_root] at h
  exact h
structure FhM (w : World) (A : Option Addr) (c : Nat) (g : Nat) (L : List (Nat × Int)) : Prop where
  stk : StkM w A L (tabs [hT, seen.fT])
  len : L.length = 2
  box : w.heap[g]? = some (.cells #[.slice A 2 c, .int .i64 2] 27 (0, 0))
theorem FhM.later {w w' : World} {A : Option Addr} {c g : Nat} {L : List (Nat × Int)} (h : FhM w A c g L) (hb : Below w.heap.size w w') : FhM w' A c g L :=
  ⟨h.stk.later hb, h.len, (hb.block _ (lt_of_some h.box)).trans h.box⟩
theorem fh_rooted (w : World) (A : Option Addr) (c g : Nat) (L : List (Nat × Int)) (h : FhM w A c g L) : Calls Tryz.prog 16 #[.agg #[.slice A 2 c, .int .i64 2]] w (PlcOut feP w) := by
  have h1 := root_any A c 2 L (tabs [hT, seen.fT]) w h.stk (by rw [h.len]; omega) tab_root
  rw [fh_root, h.len] at h1
  exact h1
def fhO : List heap.It := [(ab, 0), (ab, 1), (bb, 1), (cb, 0)]
theorem lt_ab : heap.ltB ab bb = true := by decide +kernel
theorem lt_bc : heap.ltB bb cb = true := by decide +kernel
theorem lt_ac : heap.ltB ab cb = true := by decide +kernel
theorem fh_merged : heap.Merged (rowsOf [hT, seen.fT]) fhO := by
  refine ⟨?_, ?_⟩
  · show List.Perm [(ab, 0), (ab, 1), (bb, 1), (cb, 0)] [(ab, 0), (cb, 0), (ab, 1), (bb, 1)]
    exact List.Perm.cons _ (((List.Perm.swap _ _ _).cons _).trans (List.Perm.swap _ _ _)).symm.symm
  · have h : ∀ {a b : heap.It}, heap.ltI a b → heap.leI a b := fun h hc => heap.ltI_self _ (heap.ltI_trans h hc)
    have h0 : heap.leI (ab, 0) (ab, 1) := h (.inr ⟨rfl, by show (0 : Nat) < 1; omega⟩)
    have h1 : heap.leI (ab, 0) (bb, 1) := h (.inl lt_ab)
    have h2 : heap.leI (ab, 0) (cb, 0) := h (.inl lt_ac)
    have h3 : heap.leI (ab, 1) (bb, 1) := h (.inl lt_ab)
    have h4 : heap.leI (ab, 1) (cb, 0) := h (.inl lt_ac)
    have h5 : heap.leI (bb, 1) (cb, 0) := h (.inl lt_bc)
    simp [fhO, h0, h1, h2, h3, h4, h5]
theorem fh_firsts : heap.firsts fhO = [(ab, 0), (bb, 1), (cb, 0)] := by
  have h1 : ¬ ab = bb := by decide
  have h2 : ¬ bb = cb := by decide
  simp [heap.firsts, fhO, heap.firstF, h1, h2]
theorem two_at {a b s : ByteArray} {x y z : Nd} {i : Nat} (h1 : (dirN [a, b] [x, y]).N[i]? = some s) (h2 : (dirN [a, b] [x, y]).I[i]? = some z) : (s = a ∧ z = x) ∨ (s = b ∧ z = y) := by
  have h1' : [a, b][i]? = some s := h1
  have h2' : [x, y][i]? = some z := h2
  rcases i with _ | _ | i
  · exact .inl ⟨by simpa using h1'.symm, by simpa using h2'.symm⟩
  · exact .inr ⟨by simpa using h1'.symm, by simpa using h2'.symm⟩
  · simp at h1'
theorem fh_kinds {E : List (ByteArray × Int)} (h : Kinds [hT, seen.fT] [(ab, 0), (bb, 1), (cb, 0)] E) : E = [(bb, 1), (cb, 3)] := by
  have n1 : ¬ ab = bb := by decide
  have n2 : ¬ bb = cb := by decide
  have n3 : ¬ ab = cb := by decide
  obtain ⟨d1, i1, y1, E1, a1, b1, c1, rfl, d2, i2, y2, E2, a2, b2, c2, rfl, d3, i3, y3, E3, a3, b3, c3, rfl, e⟩ := h
  obtain rfl : E3 = [] := e
  obtain rfl : hT = d1 := Option.some.inj a1
  obtain rfl : seen.fT = d2 := Option.some.inj a2
  obtain rfl : hT = d3 := Option.some.inj a3
  rcases two_at b1 c1 with ⟨_, rfl⟩ | ⟨h, _⟩
  · rcases two_at b2 c2 with ⟨h, _⟩ | ⟨_, rfl⟩
    · exact absurd h.symm n1
    · rcases two_at b3 c3 with ⟨h, _⟩ | ⟨_, rfl⟩
      · exact absurd h.symm n3
      · rfl
  · exact absurd h n3
theorem fh_list (w : World) (A : Option Addr) (c g : Nat) (L : List (Nat × Int)) (h : FhM w A c g L) (Ap : Option Addr) (cp : Nat) (hp : Plc w w.heap.size Ap feP) :
    Calls Tryz.prog 46 #[.agg #[.slice A 2 c, .int .i64 2], .slice Ap 2 cp] w fun e w' => ∃ Al cl, e = .returned (.slice Al 2 cl) ∧ w'.ownsRow w.heap.size 84 2 (.slice Al 2 cl) 2 (([(bb, 1), (cb, 3)] : List (ByteArray × Int)).flatMap enC) ∧ Below w.heap.size w w' := by
  have h1 := list_any fh_all fh_ats (fun d hd => by
    simp only [List.mem_cons, List.mem_nil_iff, or_false] at hd
    rcases hd with rfl | rfl <;> decide) A c 2 L Ap cp w h.stk hp (by decide)
  rw [h.len] at h1
  refine Calls.mono h1 ?_
  rintro e w' ⟨out, E, A', c', hm, hk, rfl, ho, hb⟩
  rw [hm.eq fh_merged, fh_firsts] at hk
  obtain rfl := fh_kinds hk
  exact ⟨A', c', rfl, ho, hb⟩
set_option maxHeartbeats 12800000 in
theorem speaks_any (m : Int) (w : World) (hm : w.cell? ⟨0, 0, none⟩ = some (.int .i64 m)) : Calls Tryz.prog 12 #[] w fun e w' => e = .returned (.bool true) ∧ Below w.heap.size w w' := by
  have HM := Lib.hid hm
  clear hm
  obtain ⟨W1, hW1⟩ : ∃ W1, W1 = w.alloc (.cells #[.string ab, .string bb] 9) := ⟨_, rfl⟩
  have hb1 : Below w.heap.size w W1 := by rw [hW1]; exact (Below.refl _ _).alloc (Nat.le_refl _) _
  have hT1 : Txts W1 W1.heap.size (some ⟨w.heap.size, 0, none⟩) [ab, bb] := by rw [hW1]; exact txts_two w ab bb (by decide) (by decide)
  have HT1 := Lib.hid hT1
  have HB1 := Lib.hid hb1
  have hW1' : W1 = w.alloc (.cells #[.string ⟨#[97]⟩, .string ⟨#[98]⟩] 9) := hW1
  have HW1 := Lib.hid hW1'
  clear hW1 hW1' hb1 hT1
  go_enter Tryz.func12, Tryz.ntmps12
  go_wp2_with fail
  rw [← HW1.out]
  refine (show Calls Tryz.prog 53 #[.string ⟨#[120]⟩] W1 _ from ((text_any seen.xb W1 (by decide)).mono fun _ _ h => h.as seen.xb_v)).mono ?_
  rintro e w2 ⟨r2, rfl, hn2, hb2⟩
  have HN2 := Lib.hid hn2
  have HB2 := Lib.hid hb2
  clear hn2 hb2 HW1
  unfold seen.x1V
  go_wp2_with fail
  refine (show Calls Tryz.prog 53 #[.string ⟨#[121]⟩] w2 _ from ((text_any seen.yb w2 (by decide)).mono fun _ _ h => h.as seen.yb_v)).mono ?_
  rintro e w3 ⟨r3, rfl, hn3, hb3⟩
  unfold seen.x1V
  go_wp2_with fail
  obtain ⟨W4, hW4⟩ : ∃ W4, W4 = w3.alloc (.cells ((rawCells (textN seen.xb) r2).toList ++ ((rawCells (textN seen.yb) r3).toList ++ [])).toArray 106) := ⟨_, rfl⟩
  have hb4 : Below w3.heap.size w3 W4 := by rw [hW4]; exact (Below.refl _ _).alloc (Nat.le_refl _) _
  have hb14 : Below W1.heap.size W1 W4 := HB2.out.trans ((hb3.trans (hb4.mono hb3.size)).mono HB2.out.size)
  have HP4 := Lib.hid (pair_dir ab bb (textN seen.xb) (textN seen.yb) r2 r3 w.heap.size w3 W4 hW4 ((HT1.out.keep hb14).more hb14.size) (HN2.out.later hb3) hn3)
  have HB4 := Lib.hid (HB1.out.trans (hb14.mono HB1.out.size))
  have hW4' := hW4
  rw [seen.xb_cells, seen.yb_cells] at hW4'
  have hW4'' : W4 = w3.alloc (.cells #[.int .i64 1, .bool false, .slice r2.An 0 r2.cn, .slice r2.Ai 0 r2.ci, .int .i64 1, .slice r2.Ae 1 r2.ce, .string ⟨#[]⟩, .int .i64 1, .bool false, .slice r3.An 0 r3.cn, .slice r3.Ai 0 r3.ci, .int .i64 1, .slice r3.Ae 1 r3.ce, .string ⟨#[]⟩] 106) := hW4'
  rw [← hW4'']
  clear hW4 hW4' hW4'' hb4 hb14 hn3 hb3 HT1 HN2 HB2 HB1
  refine (HP4.out.mono fun _ _ h => h.as seen.ft_v).mono ?_
  rintro e w5 ⟨r5, rfl, hn5, hb5⟩
  obtain ⟨W6, hW6⟩ : ∃ W6, W6 = w5.alloc (.cells #[.string ab, .string cb] 9) := ⟨_, rfl⟩
  have hb6 : Below w5.heap.size w5 W6 := by rw [hW6]; exact (Below.refl _ _).alloc (Nat.le_refl _) _
  have HT6 : Hid (Txts W6 W6.heap.size (some ⟨w5.heap.size, 0, none⟩) [ab, cb]) := by rw [hW6]; exact Lib.hid (txts_two w5 ab cb (by decide) (by decide))
  have hW6' : W6 = w5.alloc (.cells #[.string ⟨#[97]⟩, .string ⟨#[99]⟩] 9) := hW6
  have HW6 := Lib.hid hW6'
  have HN6 := Lib.hid (hn5.later hb6)
  have HB6 := Lib.hid (HB4.out.trans ((hb5.trans (hb6.mono hb5.size)).mono HB4.out.size))
  clear hn5 hb5 hb6 hW6 hW6' HP4 HB4
  unfold dtV
  go_wp2_with fail
  rw [← HW6.out]
  refine ((white_any W6).mono fun _ _ h => h.as wh_v).mono ?_
  rintro e w7 ⟨r7, rfl, hn7, hb7⟩
  have HN7 := Lib.hid hn7
  have HB7 := Lib.hid hb7
  clear hn7 hb7 HW6
  unfold whV
  go_wp2_with fail
  refine (show Calls Tryz.prog 55 #[.string ⟨#[98]⟩] w7 _ from ((link_any bb w7 (by decide)).mono fun _ _ h => h.as lk_v)).mono ?_
  rintro e v7 ⟨q7, rfl, hm7, hd7⟩
  unfold lkV
  go_wp2_with fail
  obtain ⟨W8, hW8⟩ : ∃ W8, W8 = v7.alloc (.cells ((rawCells whiteN r7).toList ++ ((rawCells (linkN bb) q7).toList ++ [])).toArray 106) := ⟨_, rfl⟩
  have hb8 : Below v7.heap.size v7 W8 := by rw [hW8]; exact (Below.refl _ _).alloc (Nat.le_refl _) _
  have hb68 : Below W6.heap.size W6 W8 := HB7.out.trans ((hd7.trans (hb8.mono hd7.size)).mono HB7.out.size)
  have HP8 := Lib.hid (pair_dir ab cb whiteN (linkN bb) r7 q7 w5.heap.size v7 W8 hW8 ((HT6.out.keep hb68).more hb68.size) (HN7.out.later hd7) hm7)
  have hW8' : W8 = v7.alloc (.cells #[.int .i64 4, .bool false, .slice r7.An 0 r7.cn, .slice r7.Ai 0 r7.ci, .int .i64 0, .slice r7.Ae 0 r7.ce, .string ⟨#[]⟩, .int .i64 3, .bool false, .slice q7.An 0 q7.cn, .slice q7.Ai 0 q7.ci, .int .i64 0, .slice q7.Ae 0 q7.ce, .string ⟨#[98]⟩] 106) := hW8
  rw [← hW8']
  have HN8 := Lib.hid (HN6.out.later hb68)
  have HB8 := Lib.hid (HB6.out.trans (hb68.mono HB6.out.size))
  clear hm7 hd7 hb8 hb68 hW8 hW8' HT6 HN6 HB6 HN7 HB7
  refine (HP8.out.mono fun _ _ h => h.as hT_v).mono ?_
  rintro e w9 ⟨r9, rfl, hn9, hb9⟩
  obtain ⟨W10, hW10⟩ : ∃ W10, W10 = w9.alloc (.cells ((rawCells seen.fT r5).toList ++ (rawCells hT r9).toList).toArray 106) := ⟨_, rfl⟩
  have hb10 : Below w9.heap.size w9 W10 := by rw [hW10]; exact (Below.refl _ _).alloc (Nat.le_refl _) _
  have hb810 : Below W8.heap.size W8 W10 := hb9.trans (hb10.mono hb9.size)
  have HB10 := Lib.hid (HB8.out.trans (hb810.mono HB8.out.size))
  have hT10 := trees_two hW10 (HN8.out.later hb9) hn9
  have HC := Lib.hid (show Calls Tryz.prog 51 #[.slice (some ⟨w9.heap.size, 0, none⟩) 2 2] W10 (OfOut [seen.fT, hT] W10) from of_any _ 2 [seen.fT, hT] _ m W10 hT10 (below_cell HM.out HB10.out) fh_fine (by decide))
  have hW10' : W10 = w9.alloc (.cells #[.int .i64 2, .bool false, .slice r5.An 2 r5.cn, .slice r5.Ai 2 r5.ci, .int .i64 0, .slice r5.Ae 0 r5.ce, .string ⟨#[]⟩, .int .i64 2, .bool false, .slice r9.An 2 r9.cn, .slice r9.Ai 2 r9.ci, .int .i64 0, .slice r9.Ae 0 r9.ce, .string ⟨#[]⟩] 106) := hW10
  have HW10 := Lib.hid hW10'
  clear hn9 hb9 hb10 hb810 hT10 hW10 hW10' HP8 HN8 HB8
  unfold dtV
  go_wp2_with fail
  rw [← HW10.out]
  refine HC.out.mono ?_
  rintro e w11 hof
  rcases hof with ⟨A, c, L, rfl, hok, _, _, hb11⟩ | ⟨er, _, hbad, _⟩
  · obtain ⟨W12, hW12⟩ : ∃ W12, W12 = w11.alloc (.cells #[.slice A 2 c, .int .i64 2] 27) := ⟨_, rfl⟩
    have hb12 : Below w11.heap.size w11 W12 := by rw [hW12]; exact (Below.refl _ _).alloc (Nat.le_refl _) _
    have hk12 : W12.heap[w11.heap.size]? = some (.cells #[.slice A 2 c, .int .i64 2] 27 (0, 0)) := by rw [hW12]; exact heap_alloc_new w11 _
    have HF := Lib.hid (show FhM W12 A c w11.heap.size L from ⟨StkOk.stkM (hok.later hb12), hok.len, hk12⟩)
    have HB12 := Lib.hid ((HB10.out.trans (hb11.mono HB10.out.size)).trans (hb12.mono (HB10.out.trans (hb11.mono HB10.out.size)).size))
    have HW12 := Lib.hid hW12
    have t : ([seen.fT, hT] : List Nd).length = 2 := rfl
    clear hok hb11 hb12 hk12 hW12 HC HW10 HB10
    unfold stkV
    go_upto_region 2 with fail
    rw [← HW12.out]
    clear HW12 t
    have s0 := cell_of_blk HF.out.box 0
    have s1 := cell_of_blk HF.out.box 1
    have HC := Lib.hid (show Calls Tryz.prog 56 #[.agg #[.slice A 2 c, .int .i64 2]] W12 fun e w' => e = .returned (.int .i64 2) ∧ Below W12.heap.size W12 w' from slen_any A 2 c 2 W12)
    go_wp2_with fail
    refine HC.out.mono ?_
    rintro e v1 ⟨rfl, hb⟩
    replace HF := Lib.hid (HF.out.later hb)
    replace HB12 := Lib.hid (HB12.out.trans (hb.mono HB12.out.size))
    clear HC hb s0 s1
    obtain ⟨g, hg⟩ : ∃ g, g = w11.heap.size := ⟨_, rfl⟩
    rw [← hg]
    rw [← hg] at HF
    clear hg
    go_upto_region 4 with fail
    obtain ⟨V, hV⟩ : ∃ V, V = World.drew v1 := ⟨_, rfl⟩
    have HBV := Lib.hid (show Below v1.heap.size v1 V by rw [hV]; exact (Below.refl _ _).drew)
    have HSS : Hid (∀ w' : World, Below v1.heap.size v1 w' → (w'.cell? ⟨g, 0, none⟩ = some (.slice A 2 c) ∧ w'.cell? ⟨g, 1, none⟩ = some (.int .i64 2))) := Lib.hid fun w' hb => by
      have h := (HF.out.later hb).box
      exact ⟨cell_of_blk h 0, cell_of_blk h 1⟩
    have HSV := Lib.hid (HSS.out _ HBV.out)
    refine wp_region_held_drew (S := fun w' => (w'.cell? ⟨g, 0, none⟩ = some (.slice A 2 c) ∧ w'.cell? ⟨g, 1, none⟩ = some (.int .i64 2))) (by kernel_rfl) (by rw [← hV]; exact HSV.out) (fun hHeld => ?_)
    rw [← hV] at hHeld ⊢
    clear hV HSV
    refine wpAnyH_take (i := 0) (oi := ⟨some 26, _, _, _, _, _⟩) (v := ?_) rfl (by kernel_rfl) (by kernel_rfl) (by kernel_rfl) (fun _ _ _ h => h) (Or.inl ⟨by kernel_rfl, ?_⟩) (by assumption) ?_
    rotate_left 1
    focus (intro w' hSw; (try dsimp only at hSw); go_simp; (try with_reducible rfl))
    try simp only [Act.put, List.setIfInBounds_toArray, List.set_cons_zero, List.set_cons_succ]
    refine wpAnyH_take (i := 1) (oi := ⟨some 27, _, _, _, _, _⟩) (v := ?_) rfl (by kernel_rfl) (by kernel_rfl) (by kernel_rfl) (fun _ _ _ h => h) (Or.inl ⟨by kernel_rfl, ?_⟩) (by assumption) ?_
    rotate_left 1
    focus (intro w' hSw; (try dsimp only at hSw); go_simp; (try with_reducible rfl))
    try simp only [Act.put, List.setIfInBounds_toArray, List.set_cons_zero, List.set_cons_succ]
    refine wpAnyH_ready (rs := [2]) (by kernel_rfl) (by simp) ?_
    refine AllReadyH.cons rfl (fun K hK => ?_) AllReadyH.nil
    go_simp
    go_at_call 16
    refine (fh_rooted V A c g L (HF.out.later HBV.out)).mono ?_
    rintro e v2 ⟨Ap, cp, rfl, hp, _, _, hb⟩
    have HB2 := Lib.hid (HBV.out.trans (hb.mono HBV.out.size))
    have HP := Lib.hid hp
    have t : feP.length = 2 := rfl
    clear hb hp
    rw [t]
    clear t
    clear hHeld
    refine hK.out _ _ (HSS.out _ HB2.out) (fun hHeld => ?_)
    clear hK
    try simp only [Act.put, List.setIfInBounds_toArray, List.set_cons_zero, List.set_cons_succ]
    refine wpAnyH_ready (rs := [3]) (by kernel_rfl) (by simp) ?_
    refine AllReadyH.cons rfl (fun K hK => ?_) AllReadyH.nil
    go_simp
    go_at_call 46
    refine (fh_list v2 A c g L (HF.out.later HB2.out) Ap cp HP.out).mono ?_
    rintro e v3 ⟨Al, cl, rfl, hol, hb⟩
    have HB3 := Lib.hid (HB2.out.trans (hb.mono HB2.out.size))
    have HOl := Lib.hid hol
    clear hb hol
    clear hHeld
    refine hK.out _ _ (HSS.out _ HB3.out) (fun hHeld => ?_)
    clear hK
    try simp only [Act.put, List.setIfInBounds_toArray, List.set_cons_zero, List.set_cons_succ]
    refine wpAnyH_take (i := 4) (oi := ⟨some 3, _, _, _, _, _⟩) (v := ?_) rfl (by kernel_rfl) (by kernel_rfl) (by kernel_rfl) (fun _ _ _ h => h) (Or.inl ⟨by kernel_rfl, ?_⟩) (by assumption) ?_
    rotate_left 1
    focus (intro w' hSw; (try dsimp only at hSw); go_simp; (try with_reducible rfl))
    try simp only [Act.put, List.setIfInBounds_toArray, List.set_cons_zero, List.set_cons_succ]
    refine wpAnyH_done (by kernel_rfl) ?_ _
    clear hHeld
    have HL := Lib.hid (lies_own HOl.out)
    obtain ⟨bl, ol, hA, _, f0, f1⟩ := lies_en (E := [(bb, 1), (cb, 3)]) HL.out (k := 0) rfl
    obtain ⟨bl', ol', hA', _, f2, f3⟩ := lies_en (E := [(bb, 1), (cb, 3)]) HL.out (k := 1) rfl
    rw [hA] at hA'
    injection hA' with hA'
    injection hA' with e1 e2
    subst e1 e2 hA
    have d0 : v3.cell? ⟨bl, ol, none⟩ = some (.string ⟨#[98]⟩) := f0
    have d1 : v3.cell? ⟨bl, ol + 1, none⟩ = some (.int .i64 1) := f1
    have d2 : v3.cell? ⟨bl, ol + 2, none⟩ = some (.string ⟨#[99]⟩) := f2
    have d3 : v3.cell? ⟨bl, ol + 3, none⟩ = some (.int .i64 3) := f3
    have q0 : ∀ W : World, Sem.run Tryz.prog (binOp .eql 84 (.agg #[.string ⟨#[98]⟩, .int .i64 1]) (.agg #[.string ⟨#[98]⟩, .int .i64 1])) W = .ok (.bool true) W := fun _ => by kernel_rfl
    have q1 : ∀ W : World, Sem.run Tryz.prog (binOp .eql 84 (.agg #[.string ⟨#[99]⟩, .int .i64 3]) (.agg #[.string ⟨#[99]⟩, .int .i64 3])) W = .ok (.bool true) W := fun _ => by kernel_rfl
    have HN := Lib.hid (show Calls Tryz.prog 48 #[.slice (some ⟨bl, ol, none⟩) 2 cl] v3 _ from names_any (some ⟨bl, ol, none⟩) cl [(bb, 1), (cb, 3)] v3 HL.out (by decide))
    clear HL f0 f1 f2 f3
    go_wp2_with fail
    refine HN.out.mono ?_
    rintro e v4 ⟨⟨A', c', rfl, _⟩, hb⟩
    have HB4 := Lib.hid (HB12.out.trans ((HB3.out.trans (hb.mono HB3.out.size)).mono HB12.out.size))
    have t : ([(bb, 1), (cb, 3)] : List (ByteArray × Int)).length = 2 := rfl
    rw [t]
    clear hb t
    go_wp2_with fail
    go_ret
    exact ⟨rfl, HB4.out⟩
  · exfalso
    rcases hbad with ⟨_, t, ht, hf⟩ | ⟨_, hlt⟩
    · rw [fh_right t ht] at hf; cases hf
    · exact absurd hlt (by decide)
end Go.Proofs.YtdljogdegcmmiaaGreatDoor.mrg
