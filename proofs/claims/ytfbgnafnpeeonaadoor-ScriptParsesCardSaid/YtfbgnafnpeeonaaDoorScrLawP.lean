/- The law ScriptParses. Condition: what the listed variables hold. -/
import Derived.Test.YtfbgnafnpeeonaaDoorScrSplit
import Derived.Test.YtfbgnafnpeeonaaDoorScrSpeak
namespace Go.Proofs.YtfbgnafnpeeonaaDoor.scr
set_option maxRecDepth 100000
open Go.RowKit Go.Proofs.YtfbgnafnpeeonaaDoor.words Go.Proofs.YtfbgnafnpeeonaaDoor.cal

theorem may_of {S : ScB} (h : ∀ ops ∈ S.m.cl, ∀ o ∈ ops, rightM o = true) : mayB S = true := by
  unfold mayB
  rw [List.all_eq_true]
  intro l hl
  unfold opsB
  rw [List.all_eq_true]
  intro o ho
  rw [← right_only]
  exact h (l.map OpB.m) (List.mem_map.2 ⟨l, hl, rfl⟩) o.m (List.mem_map.2 ⟨o, ho, rfl⟩)
/-- A script that was read, and told again. -/
structure Read (m : Int) (t : ByteArray) (S : ScB) (Ai Ac Ap : Option Addr) (w : World) : Prop where
  sc : Scr w S Ai Ac Ap
  fb : FB (t.size + 1) S
  pr : parseS t.data.toList = .inl S.m
section
variable {m : Int} {t : ByteArray} {S : ScB} {Ai Ac Ap : Option Addr} {w : World}
theorem im_size (S : ScB) (h : (printM S.m).length ≤ 1000000) : ∀ x ∈ S.im, x.size ≤ 1000000 := fun x hx => by
  have h1 : imageL x.data.toList ∈ linesM S.m := by
    unfold linesM
    exact List.mem_cons_of_mem _ (List.mem_append_left _ (List.mem_append_left _ (List.mem_map.2 ⟨x.data.toList, List.mem_map.2 ⟨x, hx, rfl⟩, rfl⟩)))
  have h2 : (imageL x.data.toList).length ≤ (printM S.m).length := by
    obtain ⟨a, b, hab⟩ := List.append_of_mem h1
    have := print_le (s := S.m) (a := a ++ [imageL x.data.toList]) (b := b) (by rw [hab]; simp)
    rw [textT_app, textT_one, List.length_append, List.length_append] at this
    omega
  have h3 : x.size ≤ (imageL x.data.toList).length := by
    unfold imageL hexL
    rw [← size_list]
    split
    · rename_i h0
      rw [h0]
      simp
    · simp only [List.length_append, List.length_cons, hexP_len]
      omega
  omega
theorem Read.print (h : Read m t S Ai Ac Ap w) : printM S.m = t.data.toList := (print_parse h.pr).1
theorem Read.may (h : Read m t S Ai Ac Ap w) : mayB S = true := may_of (print_parse h.pr).2
theorem pk_len (S : ScB) : S.pk.length ≤ (printM S.m).length := by
  by_cases hp : S.m.pk = []
  · have : S.pk = [] := hp
    rw [this]
    simp
  · rw [print_pk hp]
    unfold p4
    have h1 : ∀ ns : List Int, ns.length ≤ (ns.flatMap fun n => 32 :: Lib.itoa n).length := fun ns => by
      induction ns with
      | nil => simp
      | cons a r ih => simp only [List.flatMap_cons, List.length_append, List.length_cons]; omega
    have h2 := h1 (S.m.pk.take S.m.pk.length)
    rw [List.take_length] at h2
    rw [List.take_length]
    have h3 : S.m.pk.length = S.pk.length := rfl
    simp only [List.length_append]
    omega
end
theorem joinC_app (c : UInt8) : ∀ (a b : List (List UInt8)), b ≠ [] → joinC c (a ++ b) = (a.flatMap (· ++ [c])) ++ joinC c b
  | [], b, _ => rfl
  | x :: a, b, h => by
    rw [List.cons_append, joinC_more c x (by simp [h]), joinC_app c a b h]
    simp
theorem take_text {l : List UInt8} {k : Nat} (h : k < (spl 10 l).length) : (textT ((spl 10 l).take k)).length ≤ l.length := by
  have h1 := join_spl 10 l
  have h2 : (spl 10 l).drop k ≠ [] := fun e => by
    have := congrArg List.length e
    rw [List.length_drop, List.length_nil] at this
    omega
  rw [← List.take_append_drop k (spl 10 l), joinC_app 10 _ _ h2] at h1
  have h3 := congrArg List.length h1
  rw [List.length_append] at h3
  unfold textT
  omega
theorem piece_text {l x : List UInt8} {k : Nat} (h : (spl 10 l)[k]? = some x) : (textT ((spl 10 l).take k)).length + x.length ≤ l.length := by
  obtain ⟨hk, rfl⟩ := List.getElem?_eq_some_iff.1 h
  have h1 := join_spl 10 l
  have h2 : (spl 10 l).drop k = (spl 10 l)[k] :: (spl 10 l).drop (k + 1) := List.drop_eq_getElem_cons hk
  rw [← List.take_append_drop k (spl 10 l), joinC_app 10 _ _ (by rw [h2]; exact List.cons_ne_nil _ _)] at h1
  have h3 := congrArg List.length h1
  rw [List.length_append, h2] at h3
  have h4 : (spl 10 l)[k].length ≤ (joinC 10 ((spl 10 l)[k] :: (spl 10 l).drop (k + 1))).length := by
    rcases (spl 10 l).drop (k + 1) with _ | ⟨y, r⟩
    · simp [joinC]
    · rw [joinC_more _ _ (by simp)]
      simp
  unfold textT
  omega
theorem scr_0 (w : World) (Ai Ac Ap : Option Addr) : Scr w scb0 Ai Ac Ap := ⟨fun _ _ h => (by cases h), fun _ _ h => (by cases h), fun _ _ h => (by cases h)⟩
set_option maxHeartbeats 12800000 in
theorem law_parses (m : Int) (t : ByteArray) (w : World) (hE : Env m w) : Calls Tryd.prog 4 #[.string t] w (AnsB true w) := by
  have HE := Lib.hid hE
  have HSp := Lib.hid (speaks_any m w hE)
  clear hE
  go_enter Tryd.func4, Tryd.ntmps4
  go_wp2_with fail
  refine HSp.out.mono ?_
  rintro e w2 ⟨rfl, hb2⟩
  have HB2 := Lib.hid hb2
  clear hb2 HSp
  by_cases hs : 6000 < t.size
  · have g : (6000 : Int) < (t.size : Int) := by omega
    go_wp2_with fail
    go_ret
    exact ⟨rfl, HB2.out⟩
  have g : ¬ (6000 : Int) < (t.size : Int) := by omega
  have HP := Lib.hid (sparse_any m t w2 (by omega) (HE.out.later HB2.out))
  go_wp2_with fail
  refine HP.out.mono ?_
  rintro e w3 ⟨ho, hb3⟩
  have HB3 := Lib.hid (HB2.out.trans (hb3.mono HB2.out.size))
  clear hb3 HP
  rcases ho with ⟨S, vi, vc, vp, hp, rfl, hown, hfb⟩ | ⟨b, hp, rfl⟩
  · obtain ⟨Ai, ci, Ac, cc, Ap, cp, rfl, rfl, rfl, hsc⟩ := hown.form
    obtain ⟨W4, hW4⟩ : ∃ W4, W4 = w3.alloc (.cells #[.int .i64 S.sh, .int .i64 S.rm, .int .i64 S.cu, .slice Ai S.im.length ci, .slice Ac S.cl.length cc, .slice Ap S.pk.length cp] 28) := ⟨_, rfl⟩
    obtain ⟨hb4, x4⟩ := sc_at hW4
    obtain ⟨q, hq⟩ : ∃ q, q = w3.heap.size := ⟨_, rfl⟩
    rw [← hq] at x4
    have HR : Hid (Read m t S Ai Ac Ap W4) := Lib.hid ⟨hsc.later hb4, hfb, hp⟩
    have HX := Lib.hid x4
    have HB4 := Lib.hid (HB3.out.trans (hb4.mono HB3.out.size))
    have HO : Hid (∀ w' : World, Calls Tryd.prog 8 #[scV S (.slice Ai S.im.length ci) (.slice Ac S.cl.length cc) (.slice Ap S.pk.length cp)] w' fun e w'' => e = .returned (scV S (.slice Ai S.im.length ci) (.slice Ac S.cl.length cc) (.slice Ap S.pk.length cp)) ∧ Below w'.heap.size w' w'') := Lib.hid fun w' => of_any S _ _ _ ⟨_, _, _, rfl⟩ ⟨_, _, _, rfl⟩ ⟨_, _, _, rfl⟩ w'
    have hts : t.data.toList.length ≤ 6000 := by rw [size_list]; omega
    have HT := Lib.hid hts
    have HM : Hid (∀ w' : World, Below W4.heap.size W4 w' → Calls Tryd.prog 7 #[scV S (.slice Ai S.im.length ci) (.slice Ac S.cl.length cc) (.slice Ap S.pk.length cp)] w' (AnsB true w')) := Lib.hid fun w' hb => by
      have h1 := may_any S Ai Ac Ap ci cc cp w' (HR.out.sc.later hb) (by have := HR.out.fb.lc; omega) (fun l hl => by have := HR.out.fb.lo l hl; omega) (fun l hl o ho => by have := (HR.out.fb.op l hl o ho).p; omega)
      rw [HR.out.may] at h1
      exact h1
    have HPr : Hid (∀ w' : World, Below W4.heap.size W4 w' → Calls Tryd.prog 11 #[scV S (.slice Ai S.im.length ci) (.slice Ac S.cl.length cc) (.slice Ap S.pk.length cp)] w' fun e w'' => e = .returned (.string t) ∧ Below w'.heap.size w' w'') := Lib.hid fun w' hb => by
      have hpl : (printM S.m).length ≤ 6000 := by rw [HR.out.print]; exact HT.out
      have h1 := refprint_any (t.size + 1) S Ai Ac Ap ci cc cp w' (HR.out.sc.later hb) (by omega) HR.out.fb (im_size S (by omega)) (by have := pk_len S; omega) (by omega)
      refine h1.mono ?_
      rintro e w'' ⟨⟨r, rfl, hr⟩, hb⟩
      rw [HR.out.print] at hr
      rw [data_inj hr]
      exact ⟨rfl, hb⟩
    have y0 := cell_of_blk x4 0
    have y1 := cell_of_blk x4 1
    have y2 := cell_of_blk x4 2
    have y3 := cell_of_blk x4 3
    have y4 := cell_of_blk x4 4
    have y5 := cell_of_blk x4 5
    have HO4 := Lib.hid (HO.out W4)
    have HW4 := Lib.hid hW4
    have HQ := Lib.hid hq
    clear hW4 hb4 x4 hq hsc hown hfb hp hts
    unfold scV at HO4 ⊢
    go_upto_region 6 with fail
    rw [← HW4.out]
    simp only [← HQ.out]
    clear HW4
    go_wp2_with fail
    refine HO4.out.mono ?_
    rintro e w5 ⟨rfl, hb5⟩
    have HB5 := Lib.hid hb5
    have HM5 := Lib.hid (HM.out w5 hb5)
    unfold scV at HM5
    clear hb5 HO4 y0 y1 y2 y3 y4 y5
    go_wp2_with fail
    refine HM5.out.mono ?_
    rintro e w6 ⟨rfl, hb6⟩
    have HB6 := Lib.hid (HB5.out.trans (hb6.mono HB5.out.size))
    have x6 := (HB6.out.block _ (lt_of_some HX.out)).trans HX.out
    have y0 := cell_of_blk x6 0
    have y1 := cell_of_blk x6 1
    have y2 := cell_of_blk x6 2
    have y3 := cell_of_blk x6 3
    have y4 := cell_of_blk x6 4
    have y5 := cell_of_blk x6 5
    have HO6 := Lib.hid (HO.out w6)
    unfold scV at HO6
    clear hb6 HM5 x6
    go_wp2_with fail
    refine HO6.out.mono ?_
    rintro e w7 ⟨rfl, hb7⟩
    have HB7 := Lib.hid (HB6.out.trans (hb7.mono HB6.out.size))
    have HP7 := Lib.hid (HPr.out w7 HB7.out)
    unfold scV at HP7
    clear hb7 HO6 y0 y1 y2 y3 y4 y5
    go_wp2_with fail
    refine HP7.out.mono ?_
    rintro e w8 ⟨rfl, hb8⟩
    have HFin : Hid (AnsB true w (.returned (.bool true)) w8) := Lib.hid ⟨rfl, HB4.out.trans ((HB7.out.trans (hb8.mono HB7.out.size)).mono HB4.out.size)⟩
    have t1 : (t.toList == t.toList) = true := beq_self_eq_true _
    clear hb8 HP7
    go_wp2_with fail
    go_ret
    exact HFin.out
  · obtain ⟨hb1, hb2, hb3⟩ := parse_bad hp
    obtain ⟨W4, hW4⟩ : ∃ W4, W4 = w3.alloc (.cells #[.int .i64 0, .int .i64 0, .int .i64 0, .slice none 0 0, .slice none 0 0, .slice none 0 0] 28) := ⟨_, rfl⟩
    have hb4 : Below w3.heap.size w3 W4 := by rw [hW4]; exact (Below.refl _ _).alloc (Nat.le_refl _) _
    obtain ⟨g3, hg3⟩ : ∃ g3, g3 = w3.heap.size := ⟨_, rfl⟩
    have x4 : W4.heap[g3]? = some (.cells #[.int .i64 0, .int .i64 0, .int .i64 0, .slice none 0 0, .slice none 0 0, .slice none 0 0] 28 (0, 0)) := by rw [hW4, hg3]; exact heap_alloc_new w3 _
    have HX := Lib.hid x4
    have HB4 := Lib.hid (HB3.out.trans (hb4.mono HB3.out.size))
    have HSp := Lib.hid (splitn_any m t W4 (by omega) (HE.out.later HB4.out))
    have HBd := Lib.hid (And.intro hb1 (And.intro hb2 hb3))
    have n0 : ((b : Int) == 0) = false := by rw [beq_eq_false_iff_ne]; omega
    have HW4 := Lib.hid hW4
    have HG3 := Lib.hid hg3
    clear hb2 hb3 hW4 hb4 hg3 x4 hp
    unfold scV scb0
    go_upto_region 6 with fail
    rw [← HW4.out]
    simp only [← HG3.out]
    clear HW4
    go_wp2_with fail
    refine HSp.out.mono ?_
    rintro e w5 ⟨P, rfl, hP, hPl, hw5⟩
    obtain ⟨q, hq⟩ : ∃ q, q = W4.heap.size := ⟨_, rfl⟩
    have hb5 : Below W4.heap.size W4 w5 := by rw [← hw5]; exact (Below.refl _ _).alloc (Nat.le_refl _) _
    have x5 : w5.heap[q]? = some (.cells (P.map Value.string).toArray 9 (0, 0)) := by rw [← hw5, hq]; exact heap_alloc_new W4 _
    have hPn : P.length = (spl 10 t.data.toList).length := by rw [← hP, List.length_map]
    have HP5 := Lib.hid x5
    have HPP := Lib.hid (And.intro hP hPn)
    have HB5 := Lib.hid hb5
    have xx := (hb5.block _ (lt_of_some HX.out)).trans HX.out
    have y0 := cell_of_blk xx 0
    have y1 := cell_of_blk xx 1
    have y2 := cell_of_blk xx 2
    have y3 := cell_of_blk xx 3
    have y4 := cell_of_blk xx 4
    have y5 := cell_of_blk xx 5
    rw [← hq]
    have l1 : ¬ (b : Int) < 1 := by omega
    have l2 : ¬ (P.length : Int) < (b : Int) := by have := HBd.out.2.1; omega
    have HSm : Hid (Calls Tryd.prog 12 #[.agg #[.int .i64 0, .int .i64 0, .int .i64 0, .slice none 0 0, .slice none 0 0, .slice none 0 0], .agg #[.int .i64 0, .int .i64 0, .int .i64 0, .slice none 0 0, .slice none 0 0, .slice none 0 0]] w5 (AnsB true w5)) := Lib.hid
      (same_any scb0 none none none none none none 0 0 0 0 0 0 w5 (scr_0 _ _ _ _) (scr_0 _ _ _ _) (by decide) (by decide) (fun _ h => (by cases h)) (by decide))
    clear hP hw5 hb5 x5 hPn xx hq HSp
    go_wp2_with fail
    refine HSm.out.mono ?_
    rintro e w6 ⟨rfl, hb6⟩
    have HB6 := Lib.hid (HB5.out.trans (hb6.mono HB5.out.size))
    have HP6 := Lib.hid ((hb6.block _ (lt_of_some HP5.out)).trans HP5.out)
    clear hb6 HSm y0 y1 y2 y3 y4 y5
    by_cases hbo : b = 1
    · have n1 : ((b : Int) == 1) = true := by rw [beq_iff_eq]; omega
      have HFin : Hid (AnsB true w (.returned (.bool true)) w6) := Lib.hid ⟨rfl, HB4.out.trans (HB6.out.mono HB4.out.size)⟩
      clear hbo hb1 HBd
      go_wp2_with fail
      go_ret
      exact HFin.out
    · have n1 : ((b : Int) == 1) = false := by rw [beq_eq_false_iff_ne]; omega
      obtain ⟨sA, hsA, hsB⟩ := HBd.out.2.2 (by omega)
      obtain ⟨k, hk⟩ : ∃ k, k = b - 1 := ⟨_, rfl⟩
      rw [← hk] at hsA hsB
      have hkP : k < P.length := by have := HBd.out.2.1; have := HPP.out.2; omega
      have hkS : k < (spl 10 t.data.toList).length := by have := HPP.out.2; omega
      have j0 : IntKind.i64.wrap ((b : Int) - 1) = (b : Int) - 1 := IntWalk.i64_in _ ⟨by omega, by omega⟩
      have j1 : (0 : Int) ≤ (b : Int) - 1 := by omega
      have j2 : (b : Int) - 1 ≤ (P.length : Int) := by omega
      have j3 : ((b : Int) - 1).toNat = k := by omega
      have j4 : (b : Int) - 1 < (P.length : Int) := by omega
      have hjm : (P.take k).map (fun x => x.data.toList) = (spl 10 t.data.toList).take k := by rw [List.map_take, HPP.out.1]
      have hk0 : (spl 10 t.data.toList).take k ≠ [] := fun e => by
        have := congrArg List.length e
        rw [List.length_take, List.length_nil] at this
        omega
      have htz : t.data.toList.length = t.size := size_list t
      have hjt := joinC_text _ hk0
      have hjl := take_text hkS
      have hjn := congrArg List.length hjt
      rw [List.length_append, List.length_singleton] at hjn
      have hcells : ∀ (j : Nat) x, (P.take k)[j]? = some x → w6.cell? ⟨q, 0 + j, none⟩ = some (.string x) := fun j x hx => by
        rw [List.getElem?_take] at hx
        split at hx
        · rw [cell_of_blk HP6.out, Nat.zero_add]
          simp [hx]
        · cases hx
      have htk : (P.take k).length = k := by rw [List.length_take]; omega
      have HJ := Lib.hid (Tryd.strings_Join q 0 P.length (P.take k) ⟨#[10]⟩ w6 hcells (lt_of_some HP6.out) (by omega) (by omega) (by rw [hjm]; show (Lib.join _ [10]).length ≤ _; rw [join_C]; omega))
      obtain ⟨J, hJ⟩ : ∃ J : ByteArray, J = ⟨(Lib.join ((P.take k).map (fun x => x.data.toList)) (⟨#[10]⟩ : ByteArray).data.toList).toArray⟩ := ⟨_, rfl⟩
      rw [← hJ, htk] at HJ
      have hJd : J.data.toList = joinC 10 ((spl 10 t.data.toList).take k) := by
        rw [hJ, data_mk, hjm]
        exact join_C 10 _
      have hJz : J.size + 1 ≤ t.size := by rw [← size_list, hJd]; omega
      have hAd : (J ++ ⟨#[10]⟩ : ByteArray).data.toList = textT ((spl 10 t.data.toList).take k) := by rw [app_data, hJd, ← hjt]
      have HAh := Lib.hid hAd
      have HJz := Lib.hid hJz
      have g1 : ¬ 9223372036854775807 < J.size + 1 := by omega
      have HSA := Lib.hid (And.intro hsA (And.intro hsB (And.intro hkP hk)))
      clear hbo hsA hsB hk hkP hkS hjm hk0 hjt hjl hjn hcells htk hJ hJd hAd hJz HBd
      go_wp2_with fail
      refine HJ.out.mono ?_
      rintro e w7 ⟨rfl, hb7⟩
      have HB7 := Lib.hid (HB6.out.trans (hb7.mono HB6.out.size))
      have HP7 := Lib.hid ((hb7.block _ (lt_of_some HP6.out)).trans HP6.out)
      obtain ⟨A, hA⟩ : ∃ A : ByteArray, A = J ++ ⟨#[10]⟩ := ⟨_, rfl⟩
      have hAz : A.size ≤ t.size := by rw [hA, ByteArray.size_append]; have := HJz.out; have e1 : (⟨#[10]⟩ : ByteArray).size = 1 := rfl; omega
      have HAA : Hid (A.data.toList = textT ((spl 10 t.data.toList).take k) ∧ parseS A.data.toList = .inl sA) := Lib.hid ⟨by rw [hA]; exact HAh.out, by rw [hA, HAh.out]; exact HSA.out.1⟩
      have HPA := Lib.hid (sparse_any m A w7 (by omega) (HE.out.later (HB4.out.trans (HB7.out.mono HB4.out.size))))
      have HA := Lib.hid hA
      clear hb7 HJ hA
      go_upto_region 14 with fail
      rw [← HA.out]
      go_wp2_with fail
      refine HPA.out.mono ?_
      rintro e w8 ⟨ho, hb8⟩
      have HB8 := Lib.hid (HB7.out.trans (hb8.mono HB7.out.size))
      have HP8 := Lib.hid ((hb8.block _ (lt_of_some HP7.out)).trans HP7.out)
      clear hb8 HPA
      rcases ho with ⟨S, vi, vc, vp, hp, rfl, hown, hfb⟩ | ⟨n, hp, _⟩
      rotate_left 1
      · rw [HAA.out.2] at hp
        cases hp
      obtain ⟨Ai, ci, Ac, cc, Ap, cp, rfl, rfl, rfl, hsc⟩ := hown.form
      obtain ⟨W9, hW9⟩ : ∃ W9, W9 = w8.alloc (.cells #[.int .i64 S.sh, .int .i64 S.rm, .int .i64 S.cu, .slice Ai S.im.length ci, .slice Ac S.cl.length cc, .slice Ap S.pk.length cp] 28) := ⟨_, rfl⟩
      obtain ⟨hb9, x9⟩ := sc_at hW9
      obtain ⟨g8, hg8⟩ : ∃ g8, g8 = w8.heap.size := ⟨_, rfl⟩
      rw [← hg8] at x9
      have HR : Hid (Read m A S Ai Ac Ap W9) := Lib.hid ⟨hsc.later hb9, hfb, hp⟩
      have HX9 := Lib.hid x9
      have HB9 := Lib.hid (HB8.out.trans (hb9.mono HB8.out.size))
      have HP9 := Lib.hid ((hb9.block _ (lt_of_some HP8.out)).trans HP8.out)
      have HO := Lib.hid (of_any S (.slice Ai S.im.length ci) (.slice Ac S.cl.length cc) (.slice Ap S.pk.length cp) ⟨_, _, _, rfl⟩ ⟨_, _, _, rfl⟩ ⟨_, _, _, rfl⟩ W9)
      have hAl : A.data.toList.length ≤ 6000 := by rw [size_list]; omega
      have HAl := Lib.hid hAl
      have HPr : Hid (∀ w' : World, Below W9.heap.size W9 w' → Calls Tryd.prog 11 #[scV S (.slice Ai S.im.length ci) (.slice Ac S.cl.length cc) (.slice Ap S.pk.length cp)] w' fun e w'' => e = .returned (.string A) ∧ Below w'.heap.size w' w'') := Lib.hid fun w' hb => by
        have hpl : (printM S.m).length ≤ 6000 := by rw [HR.out.print]; exact HAl.out
        have h1 := refprint_any (A.size + 1) S Ai Ac Ap ci cc cp w' (HR.out.sc.later hb) (by omega) HR.out.fb (im_size S (by omega)) (by have := pk_len S; omega) (by omega)
        refine h1.mono ?_
        rintro e w'' ⟨⟨r, rfl, hr⟩, hb⟩
        rw [HR.out.print] at hr
        rw [data_inj hr]
        exact ⟨rfl, hb⟩
      have y0 := cell_of_blk x9 0
      have y1 := cell_of_blk x9 1
      have y2 := cell_of_blk x9 2
      have y3 := cell_of_blk x9 3
      have y4 := cell_of_blk x9 4
      have y5 := cell_of_blk x9 5
      have HW9 := Lib.hid hW9
      have HG8 := Lib.hid hg8
      clear hW9 hb9 x9 hg8 hsc hown hfb hp hAl
      unfold scV at HO HPr ⊢
      go_upto_region 15 with fail
      rw [← HW9.out]
      simp only [← HG8.out]
      clear HW9
      go_wp2_with fail
      refine HO.out.mono ?_
      rintro e w10 ⟨rfl, hb10⟩
      have HB10 := Lib.hid (HB9.out.trans (hb10.mono HB9.out.size))
      have HP10 := Lib.hid ((hb10.block _ (lt_of_some HP9.out)).trans HP9.out)
      have HPp := Lib.hid (HPr.out w10 hb10)
      clear hb10 HO y0 y1 y2 y3 y4 y5
      go_wp2_with fail
      refine HPp.out.mono ?_
      rintro e w11 ⟨rfl, hb11⟩
      have HB11 := Lib.hid (HB10.out.trans (hb11.mono HB10.out.size))
      have HP11 := Lib.hid ((hb11.block _ (lt_of_some HP10.out)).trans HP10.out)
      have t1 : (A.toList != A.toList) = false := bne_self_eq_false _
      obtain ⟨x, hx⟩ : ∃ x, P[k]? = some x := ⟨_, List.getElem?_eq_getElem HSA.out.2.2.1⟩
      have hxs : (spl 10 t.data.toList)[k]? = some x.data.toList := by rw [← HPP.out.1, List.getElem?_map, hx]; rfl
      have hpt := piece_text hxs
      have hxc : w11.cell? ⟨q, k, none⟩ = some (.string x) := by
        rw [cell_of_blk HP11.out]
        simp [hx]
      have hAx : A.size + x.size ≤ t.size := by
        rw [← size_list A, ← size_list x, ← size_list t, HAA.out.1]
        exact hpt
      have g2 : ¬ 9223372036854775807 < A.size + x.size := by omega
      have g3' : ¬ 9223372036854775807 < A.size + x.size + 1 := by omega
      obtain ⟨T2, hT2⟩ : ∃ T2 : ByteArray, T2 = A ++ x ++ ⟨#[10]⟩ := ⟨_, rfl⟩
      have hTd : T2.data.toList = textT ((spl 10 t.data.toList).take k) ++ x.data.toList ++ [10] := by rw [hT2, app_data, app_data, HAA.out.1]
      have hTz : T2.size ≤ t.size + 1 := by
        rw [hT2, ByteArray.size_append, ByteArray.size_append]
        have e1 : (⟨#[10]⟩ : ByteArray).size = 1 := rfl
        omega
      have HPT := Lib.hid (sparse_any m T2 w11 (by omega) (HE.out.later (HB4.out.trans (HB11.out.mono HB4.out.size))))
      have HTd := Lib.hid (And.intro hTd hxs)
      have HT2 := Lib.hid hT2
      clear hb11 HPp hx hxs hpt hT2 hTd
      go_wp2_with fail
      rw [← HT2.out]
      refine HPT.out.mono ?_
      rintro e w12 ⟨ho, hb12⟩
      have HB12 := Lib.hid (HB11.out.trans (hb12.mono HB11.out.size))
      have hbz : (b : Int) ≠ 0 := by omega
      have HPl := Lib.hid HPP.out.2
      rcases ho with ⟨S2, vi, vc, vp, hp, rfl, hown, _⟩ | ⟨n, hp, rfl⟩
      · obtain ⟨Bi, di, Bc, dc, Bp, dp, rfl, rfl, rfl, _⟩ := hown.form
        have hbl : b = P.length := by
          rcases HSA.out.2.1 with h | h
          · rw [h, HPl.out]
          · have := h x.data.toList HTd.out.2
            rw [← HTd.out.1, hp] at this
            cases this
        have t2 : ((0 : Int) == (b : Int)) = false := by rw [beq_eq_false_iff_ne]; exact Ne.symm hbz
        have t3 : ((b : Int) == (P.length : Int)) = true := by rw [beq_iff_eq]; omega
        have t4 : ((b : Nat) : Int) = (P.length : Int) := by omega
        obtain ⟨W13, hW13⟩ : ∃ W13, W13 = w12.alloc (.cells #[.int .i64 S2.sh, .int .i64 S2.rm, .int .i64 S2.cu, .slice Bi S2.im.length di, .slice Bc S2.cl.length dc, .slice Bp S2.pk.length dp] 28) := ⟨_, rfl⟩
        have HFin : Hid (AnsB true w (.returned (.bool true)) W13) := Lib.hid ⟨rfl, HB4.out.trans ((HB12.out.trans ((sc_at hW13).1.mono HB12.out.size)).mono HB4.out.size)⟩
        have HW13 := Lib.hid hW13
        have HT4 := Lib.hid t4
        clear hbl hown hp hW13 hb12 HPT t4 hb1 l1 l2 n0 n1 j0 j1 j2 j3 j4
        unfold scV
        go_upto_region 18 with fail
        rw [← HW13.out]
        go_wp2_with fail
        go_ret
        exact HFin.out
      · obtain ⟨W13, hW13⟩ : ∃ W13, W13 = w12.alloc (.cells #[.int .i64 0, .int .i64 0, .int .i64 0, .slice none 0 0, .slice none 0 0, .slice none 0 0] 28) := ⟨_, rfl⟩
        have hb13 : Below w12.heap.size w12 W13 := by rw [hW13]; exact (Below.refl _ _).alloc (Nat.le_refl _) _
        have HFin : Hid (AnsB true w (.returned (.bool true)) W13) := Lib.hid ⟨rfl, HB4.out.trans ((HB12.out.trans (hb13.mono HB12.out.size)).mono HB4.out.size)⟩
        have HW13 := Lib.hid hW13
        by_cases hnb : n = b
        · have t2 : ((n : Int) == (b : Int)) = true := by rw [beq_iff_eq]; omega
          clear hnb hp hW13 hb12 hb13 HPT hb1 l1 l2 n0 n1 j0 j1 j2 j3 j4
          unfold scV scb0
          go_upto_region 18 with fail
          rw [← HW13.out]
          go_wp2_with fail
          go_ret
          exact HFin.out
        · have hbl : b = P.length := by
            rcases HSA.out.2.1 with h | h
            · rw [h, HPl.out]
            · have := h x.data.toList HTd.out.2
              rw [← HTd.out.1, hp] at this
              injection this with this
              exact absurd this hnb
          have t2 : ((n : Int) == (b : Int)) = false := by rw [beq_eq_false_iff_ne]; omega
          have t3 : ((b : Int) == (P.length : Int)) = true := by rw [beq_iff_eq]; omega
          clear hbl hnb hp hW13 hb12 hb13 HPT hb1 l1 l2 n0 n1 j0 j1 j2 j3 j4
          unfold scV scb0
          go_upto_region 18 with fail
          rw [← HW13.out]
          go_wp2_with fail
          go_ret
          exact HFin.out
end Go.Proofs.YtfbgnafnpeeonaaDoor.scr
