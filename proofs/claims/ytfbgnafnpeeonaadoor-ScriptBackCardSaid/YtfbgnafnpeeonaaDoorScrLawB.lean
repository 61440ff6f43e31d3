/- The law ScriptBack. Conditions: the script lies in memory; numbers of 64 bits; what the listed variables hold. -/
import Derived.Test.YtfbgnafnpeeonaaDoorScrSmall
import Derived.Test.YtfbgnafnpeeonaaDoorScrPrint
import Derived.Test.YtfbgnafnpeeonaaDoorScrSame
import Derived.Test.YtfbgnafnpeeonaaDoorScrSpeak
namespace Go.Proofs.YtfbgnafnpeeonaaDoor.scr
set_option maxRecDepth 100000
open Go.RowKit Go.Proofs.YtfbgnafnpeeonaaDoor.words Go.Proofs.YtfbgnafnpeeonaaDoor.cal

/-- What came in: Go's own limits. -/
structure Lim (S : ScB) : Prop where
  sh : I64 S.sh
  rm : I64 S.rm
  cu : I64 S.cu
  pk : ∀ x ∈ S.pk, I64 x
  op : ∀ l ∈ S.cl, ∀ o ∈ l, I64 o.O ∧ I64 o.N ∧ I64 o.I
  li : S.im.length ≤ 140737488355328
  lc : S.cl.length ≤ 140737488355328
  zi : ∀ x ∈ S.im, x.size ≤ 140737488355328
  lo : ∀ l ∈ S.cl, l.length ≤ 140737488355328
  zo : ∀ l ∈ S.cl, ∀ o ∈ l, o.P.size ≤ 140737488355328 ∧ o.G.size ≤ 140737488355328
theorem small_fb {S : ScB} (h : Lim S) (hs : Small S) : FB 100 S :=
  ⟨h.sh, h.rm, h.cu, h.pk, fun l hl o ho => ⟨(h.op l hl o ho).1, (h.op l hl o ho).2.1, (h.op l hl o ho).2.2, by have := (hs.fo l hl o ho).1; omega, by have := (hs.fo l hl o ho).2.1; omega⟩, by have := hs.li; omega, by have := hs.lc; omega, hs.lo⟩
theorem small_fits {S : ScB} (h : Lim S) (hm : mayB S = true) : Fits S.m :=
  ⟨h.sh, h.rm, h.cu, h.pk, fun ops ho o hm => by
    obtain ⟨l, hl, rfl⟩ := List.mem_map.1 ho
    obtain ⟨x, hx, rfl⟩ := List.mem_map.1 hm
    exact h.op l hl x hx, fun ops ho o hx => by
    obtain ⟨l, hl, rfl⟩ := List.mem_map.1 ho
    obtain ⟨x, hx', rfl⟩ := List.mem_map.1 hx
    unfold mayB at hm
    rw [List.all_eq_true] at hm
    have h1 := hm l hl
    unfold opsB at h1
    rw [List.all_eq_true] at h1
    rw [right_only]
    exact h1 x hx'⟩
theorem op_len {o : OpB} (hi : I64 o.O ∧ I64 o.N ∧ I64 o.I) (hf : FewO o) : (textM o.m).length ≤ 6400 := by
  obtain ⟨k, p, of, n, i, g⟩ := o
  obtain ⟨i1, i2, i3⟩ := hi
  obtain ⟨f1, f2, _⟩ := hf
  have h1 := word_len k
  have h2 := Lib.itoa_length_le of i1.1 i1.2
  have h3 := Lib.itoa_length_le n i2.1 i2.2
  have h4 := Lib.itoa_length_le i i3.1 i3.2
  have h5 := hexL_len g.data.toList
  rw [size_list] at h5
  have h8 := size_list p
  show (textM (opM k p of n i g)).length ≤ 6400
  simp only at f1 f2
  unfold textM
  split
  · simp
  unfold restM opM
  simp only
  split
  · rw [join_len4]; simp; omega
  · split
    · rw [joinM_three]; simp; omega
    · split
      · rw [joinM_two]; simp; omega
      · split
        · rw [joinM_two]; simp; omega
        · rw [joinM_two]; simp; omega
theorem lines_len {α : Type} (f : α → List UInt8) (b : Nat) : ∀ (l : List α), (∀ x ∈ l, (f x).length ≤ b) → (textT (l.map f)).length ≤ l.length * (b + 1)
  | [], _ => by simp [textT]
  | x :: l, h => by
    have ih := lines_len f b l fun y hy => h y (List.mem_cons_of_mem _ hy)
    have hx := h x (List.mem_cons_self ..)
    unfold textT at ih ⊢
    simp at ih ⊢
    rw [Nat.add_mul]
    omega
theorem clients_len : ∀ (cl : List (List OpB)), (∀ l ∈ cl, ∀ o ∈ l, (textM o.m).length ≤ 6400) → (textT ((cl.map fun l => l.map OpB.m).flatMap clientL)).length ≤ cl.length * 7 + (cl.map List.length).sum * 6401
  | [], _ => by simp [textT]
  | l :: cl, h => by
    have ih := clients_len cl fun y hy => h y (List.mem_cons_of_mem _ hy)
    have h1 := lines_len (fun o : OpB => textM o.m) 6400 l (h l (List.mem_cons_self ..))
    rw [List.map_cons, List.flatMap_cons, textT_app, List.length_append, List.map_cons, List.sum_cons, List.length_cons, Nat.add_mul, Nat.add_mul]
    have h2 : (textT (clientL (l.map OpB.m))).length = 7 + (textT (l.map fun o => textM o.m)).length := by
      unfold clientL
      rw [List.map_map]
      show (textT ([clientW] ++ _)).length = _
      rw [textT_app, textT_one, List.length_append]
      rfl
    omega
theorem small_len {S : ScB} (h : Lim S) (hs : Small S) : (printM S.m).length ≤ 900000 := by
  have h1 : (roomL S.m).length ≤ 4 + 22 * 3 := by
    rw [← cnt_room]
    refine cnt_len (l := roomW) fun n hn => ?_
    simp at hn
    rcases hn with rfl | rfl | rfl
    · exact h.sh
    · exact h.rm
    · exact h.cu
  have h2 : (textT (S.m.im.map imageL)).length ≤ S.m.im.length * (6007 + 1) := by
    refine lines_len imageL 6007 _ fun x hx => ?_
    obtain ⟨y, hy, rfl⟩ := List.mem_map.1 hx
    have := hexL_len y.data.toList
    rw [size_list] at this
    have := hs.zi y hy
    unfold imageL imageW
    simp
    omega
  have h3 := clients_len S.cl fun l hl o ho => op_len (h.op l hl o ho) (hs.fo l hl o ho)
  have h4 : (pickL S.pk).length ≤ 4 + 22 * S.pk.length + 1 := by
    by_cases hp : S.pk = []
    · rw [hp]; decide
    · have h5 : cntL pickW S.pk = pickL S.pk := cnt_pick pickW S.pk hp
      rw [← h5]
      exact Nat.le_succ_of_le (cnt_len (l := pickW) h.pk)
  have h5 : S.m.im.length = S.im.length := by simp [ScB.m]
  have h6 := hs.li
  have h7 := hs.lc
  have h8 := hs.lp
  have h9 := hs.sm
  have hsum : (printM S.m).length ≤ (roomL S.m).length + 1 + (textT (S.m.im.map imageL)).length + (textT ((S.cl.map fun l => l.map OpB.m).flatMap clientL)).length + ((pickL S.pk).length + 1) := by
    unfold printM
    rw [show linesM S.m = [roomL S.m] ++ ((S.m.im.map imageL ++ S.m.cl.flatMap clientL) ++ (if S.m.pk = [] then [] else [pickL S.m.pk])) from rfl]
    rw [textT_app, textT_app, textT_app, textT_one]
    simp only [List.length_append, List.length_singleton]
    have e : (textT (if S.m.pk = [] then [] else [pickL S.m.pk])).length ≤ (pickL S.pk).length + 1 := by
      split
      · simp [textT]
      · rw [textT_one]; simp [ScB.m]
    show _ + 1 + (_ + (textT ((S.cl.map fun l => l.map OpB.m).flatMap clientL)).length + _) ≤ _
    omega
  rw [h5] at h2
  have m1 : S.im.length * (6007 + 1) ≤ 20 * 6008 := Nat.mul_le_mul_right _ h6
  omega
set_option maxHeartbeats 12800000 in
theorem law_back (m : Int) (S : ScB) (Ai Ac Ap : Option Addr) (ci cc cp : Nat) (w : World) (hS : Scr w S Ai Ac Ap) (hl : Lim S) (hE : Env m w) :
    Calls Tryd.prog 3 #[scV S (.slice Ai S.im.length ci) (.slice Ac S.cl.length cc) (.slice Ap S.pk.length cp)] w (AnsB true w) := by
  obtain ⟨W1, hW1⟩ : ∃ W1, W1 = w.alloc (.cells #[.int .i64 S.sh, .int .i64 S.rm, .int .i64 S.cu, .slice Ai S.im.length ci, .slice Ac S.cl.length cc, .slice Ap S.pk.length cp] 28) := ⟨_, rfl⟩
  obtain ⟨hb1, x1⟩ := sc_at hW1
  obtain ⟨g, hg⟩ : ∃ g, g = w.heap.size := ⟨_, rfl⟩
  rw [← hg] at x1
  have HX := Lib.hid x1
  have HS := Lib.hid (hS.later hb1)
  have HB1 := Lib.hid hb1
  have HE := Lib.hid (hE.later hb1)
  have HLm := Lib.hid hl
  have HSp := Lib.hid (speaks_any m W1 (hE.later hb1))
  have HW1 := Lib.hid hW1
  have HG := Lib.hid hg
  have HO : Hid (∀ w' : World, Calls Tryd.prog 8 #[scV S (.slice Ai S.im.length ci) (.slice Ac S.cl.length cc) (.slice Ap S.pk.length cp)] w' fun e w'' => e = .returned (scV S (.slice Ai S.im.length ci) (.slice Ac S.cl.length cc) (.slice Ap S.pk.length cp)) ∧ Below w'.heap.size w' w'') := Lib.hid fun w' => of_any S _ _ _ ⟨_, _, _, rfl⟩ ⟨_, _, _, rfl⟩ ⟨_, _, _, rfl⟩ w'
  clear hW1 hb1 x1 hg hS hl hE
  unfold scV at HO ⊢
  go_enter Tryd.func3, Tryd.ntmps3
  go_upto_region 1 with fail
  rw [← HW1.out]
  simp only [← HG.out]
  clear HW1
  go_wp2_with fail
  refine HSp.out.mono ?_
  rintro e w2 ⟨rfl, hb2⟩
  have HB2 := Lib.hid hb2
  have x2 := (hb2.block _ (lt_of_some HX.out)).trans HX.out
  have y0 := cell_of_blk x2 0
  have y1 := cell_of_blk x2 1
  have y2 := cell_of_blk x2 2
  have y3 := cell_of_blk x2 3
  have y4 := cell_of_blk x2 4
  have y5 := cell_of_blk x2 5
  have HSm := Lib.hid (small_any S Ai Ac Ap ci cc cp w2 (HS.out.later hb2) HLm.out.li HLm.out.lc HLm.out.zi HLm.out.lo HLm.out.zo)
  unfold scV at HSm
  clear hb2 HSp x2
  go_wp2_with fail
  refine HSm.out.mono ?_
  rintro e w3 ⟨(rfl | ⟨rfl, hsm⟩), hb3⟩
  · have HF : Hid (Below w.heap.size w w3) := Lib.hid (HB1.out.trans ((HB2.out.trans (hb3.mono HB2.out.size)).mono HB1.out.size))
    clear hb3 HSm
    go_wp2_with fail
    go_ret
    exact ⟨rfl, HF.out⟩
  have HB3 := Lib.hid (HB2.out.trans (hb3.mono HB2.out.size))
  have HSl := Lib.hid hsm
  have x3 := (HB3.out.block _ (lt_of_some HX.out)).trans HX.out
  clear hb3 hsm HSm y0 y1 y2 y3 y4 y5
  have y0 := cell_of_blk x3 0
  have y1 := cell_of_blk x3 1
  have y2 := cell_of_blk x3 2
  have y3 := cell_of_blk x3 3
  have y4 := cell_of_blk x3 4
  have y5 := cell_of_blk x3 5
  have HO3 := Lib.hid (HO.out w3)
  clear x3
  go_wp2_with fail
  refine HO3.out.mono ?_
  rintro e w4 ⟨rfl, hb4⟩
  have HB4 := Lib.hid (HB3.out.trans (hb4.mono HB3.out.size))
  have HM4 := Lib.hid (may_any S Ai Ac Ap ci cc cp w4 (HS.out.later HB4.out) (by have := HSl.out.lc; omega) (fun l hl => by have := HSl.out.lo l hl; omega) (fun l hl o ho => by have := (HSl.out.fo l hl o ho).1; omega))
  unfold scV at HM4
  clear hb4 HO3 y0 y1 y2 y3 y4 y5
  go_wp2_with fail
  refine HM4.out.mono ?_
  rintro e w5 ⟨rfl, hb5⟩
  have HB5 := Lib.hid (HB4.out.trans (hb5.mono HB4.out.size))
  clear hb5 HM4
  rcases hmay : mayB S with _ | _
  · clear hmay
    go_wp2_with fail
    go_ret
    exact ⟨rfl, HB1.out.trans (HB5.out.mono HB1.out.size)⟩
  have HMay := Lib.hid hmay
  have x5 := (HB5.out.block _ (lt_of_some HX.out)).trans HX.out
  have y0 := cell_of_blk x5 0
  have y1 := cell_of_blk x5 1
  have y2 := cell_of_blk x5 2
  have y3 := cell_of_blk x5 3
  have y4 := cell_of_blk x5 4
  have y5 := cell_of_blk x5 5
  have HLen := Lib.hid (small_len HLm.out HSl.out)
  have HFb := Lib.hid (small_fb HLm.out HSl.out)
  have HIm : Hid (∀ x ∈ S.im, x.size ≤ 1000000) := Lib.hid fun x hx => by have := HSl.out.zi x hx; omega
  have HPr := Lib.hid (print_any m 100 S Ai Ac Ap ci cc cp w5 (HS.out.later HB5.out) (by omega) HFb.out HIm.out (by have := HSl.out.lp; omega) (by have := HLen.out; omega) (HE.out.later HB5.out))
  unfold scV at HPr
  clear hmay x5
  go_wp2_with fail
  refine HPr.out.mono ?_
  rintro e w6 ⟨⟨r, rfl, hr⟩, hb6⟩
  have HB6 := Lib.hid (HB5.out.trans (hb6.mono HB5.out.size))
  have HPa := Lib.hid (sparse_any m r w6 (by rw [← size_list, hr]; exact HLen.out) (HE.out.later HB6.out))
  have HR := Lib.hid hr
  clear hb6 hr HPr y0 y1 y2 y3 y4 y5
  go_wp2_with fail
  refine HPa.out.mono ?_
  rintro e w7 ⟨ho, hb7⟩
  have HB7 := Lib.hid (HB6.out.trans (hb7.mono HB6.out.size))
  clear hb7 HPa
  have hpp := parse_print (small_fits HLm.out HMay.out)
  rw [← HR.out] at hpp
  rcases ho with ⟨S', vi, vc, vp, hp, rfl, hown, _⟩ | ⟨b, hp, _⟩
  rotate_left 1
  · rw [hp] at hpp; cases hpp
  rw [hp] at hpp
  injection hpp with hpp
  obtain rfl := scm_inj hpp
  obtain ⟨Bi, di, Bc, dc, Bp, dp, rfl, rfl, rfl, hsc⟩ := hown.form
  obtain ⟨W8, hW8⟩ : ∃ W8, W8 = w7.alloc (.cells #[.int .i64 S'.sh, .int .i64 S'.rm, .int .i64 S'.cu, .slice Bi S'.im.length di, .slice Bc S'.cl.length dc, .slice Bp S'.pk.length dp] 28) := ⟨_, rfl⟩
  obtain ⟨hb8, x8⟩ := sc_at hW8
  obtain ⟨g8, hg8⟩ : ∃ g8, g8 = w7.heap.size := ⟨_, rfl⟩
  rw [← hg8] at x8
  have HB8 := Lib.hid (HB7.out.trans (hb8.mono HB7.out.size))
  have HX8 := Lib.hid x8
  have HSc := Lib.hid (hsc.later hb8)
  have z8 := (HB8.out.block _ (lt_of_some HX.out)).trans HX.out
  have y0 := cell_of_blk z8 0
  have y1 := cell_of_blk z8 1
  have y2 := cell_of_blk z8 2
  have y3 := cell_of_blk z8 3
  have y4 := cell_of_blk z8 4
  have y5 := cell_of_blk z8 5
  have HO8 := Lib.hid (HO.out W8)
  have HW8 := Lib.hid hW8
  have HG8 := Lib.hid hg8
  clear hW8 hb8 x8 hg8 hsc hown hp hpp z8
  unfold scV
  go_upto_region 7 with fail
  rw [← HW8.out]
  simp only [← HG8.out]
  clear HW8
  go_wp2_with fail
  refine HO8.out.mono ?_
  rintro e w9 ⟨rfl, hb9⟩
  have HB9 : Hid (Below W8.heap.size W8 w9) := Lib.hid hb9
  have HB19 := Lib.hid (HB8.out.trans (hb9.mono HB8.out.size))
  have HRp := Lib.hid (refprint_any 100 S' Ai Ac Ap ci cc cp w9 (HS.out.later HB19.out) (by omega) HFb.out HIm.out (by have := HSl.out.lp; omega) (by have := HLen.out; omega))
  unfold scV at HRp
  clear hb9 HO8 y0 y1 y2 y3 y4 y5
  go_wp2_with fail
  refine HRp.out.mono ?_
  rintro e w10 ⟨⟨r', rfl, hr'⟩, hb10⟩
  obtain rfl : r = r' := data_inj (by rw [HR.out, hr'])
  have HB10 := Lib.hid (HB9.out.trans (hb10.mono HB9.out.size))
  have HB110 := Lib.hid (HB19.out.trans (hb10.mono HB19.out.size))
  have z1 := (HB110.out.block _ (lt_of_some HX.out)).trans HX.out
  have z2 := (HB10.out.block _ (lt_of_some HX8.out)).trans HX8.out
  have y0 := cell_of_blk z1 0
  have y1 := cell_of_blk z1 1
  have y2 := cell_of_blk z1 2
  have y3 := cell_of_blk z1 3
  have y4 := cell_of_blk z1 4
  have y5 := cell_of_blk z1 5
  have v0 := cell_of_blk z2 0
  have v1 := cell_of_blk z2 1
  have v2 := cell_of_blk z2 2
  have v3 := cell_of_blk z2 3
  have v4 := cell_of_blk z2 4
  have v5 := cell_of_blk z2 5
  have t1 : (r.toList == r.toList) = true := beq_self_eq_true _
  have HSa := Lib.hid (same_any S' Bi Bc Bp Ai Ac Ap di dc dp ci cc cp w10 (HSc.out.later HB10.out) (HS.out.later HB110.out) (by have := HSl.out.li; omega) (by have := HSl.out.lc; omega) (fun l hl => by have := HSl.out.lo l hl; omega) (by have := HSl.out.lp; omega))
  unfold scV at HSa
  clear hb10 hr' HRp z1 z2
  go_wp2_with fail
  refine HSa.out.mono ?_
  rintro e w11 ⟨rfl, hb11⟩
  have HF : Hid (Below w.heap.size w w11) := Lib.hid (HB1.out.trans ((HB110.out.trans (hb11.mono HB110.out.size)).mono HB1.out.size))
  clear hb11 HSa
  go_wp2_with fail
  go_ret
  exact ⟨rfl, HF.out⟩
end Go.Proofs.YtfbgnafnpeeonaaDoor.scr
