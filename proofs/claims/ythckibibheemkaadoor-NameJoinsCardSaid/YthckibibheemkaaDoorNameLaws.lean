/- The walks of NameSplits and NameRight: at any text they return true and leave all that was as it was. Conditions: the text's length is one; the library's MaxLen holds a number. -/
import Derived.Test.YthckibibheemkaaDoorNameSpeaks
namespace Go.Proofs.YthckibibheemkaaDoor.name
open Go.RowKit Go.Proofs.YthckibibheemkaaDoor.words

theorem ref_none {B : Nat} {l : List UInt8} {e : Ending} {w' : World} (h : RefTo B l e w') (hp : parts l = none) : e = .returned (.tuple #[.slice none 0 0, .bool false]) := by
  rcases h with ⟨_, he⟩ | ⟨v, Q, hs, _⟩
  · exact he
  · rw [hp] at hs; cases hs
theorem ref_some {B : Nat} {l : List UInt8} {e : Ending} {w' : World} {ps : List (List UInt8)} (h : RefTo B l e w') (hp : parts l = some ps) :
    ∃ (v : Value) (Q : List ByteArray), Q.map (fun x => x.data.toList) = ps ∧ e = .returned (.tuple #[v, .bool true]) ∧ w'.ownsRow B 9 1 v Q.length (Q.map Value.string) := by
  rcases h with ⟨hn, _⟩ | ⟨v, Q, hs, he, ho⟩
  · rw [hp] at hn; cases hn
  · rw [hp] at hs
    exact ⟨v, Q, (Option.some.inj hs).symm, he, ho⟩
theorem same_list : ∀ {Q Q' : List ByteArray}, Q.map (fun x => x.data.toList) = Q'.map (fun x => x.data.toList) → Q = Q'
  | [], [], _ => rfl
  | [], _ :: _, h => by simp at h
  | _ :: _, [], h => by simp at h
  | x :: Q, y :: Q', h => by
    simp only [List.map_cons, List.cons.injEq] at h
    rw [same_text h.1, same_list h.2]
theorem parts_size {l : List UInt8} {ps : List (List UInt8)} (h : parts l = some ps) : 1 ≤ l.length ∧ l.length ≤ 1024 := by
  unfold parts at h
  split at h
  · cases h
  · omega
theorem parts_count {l : List UInt8} {ps : List (List UInt8)} (h : parts l = some ps) : ps.length ≤ 1025 := by
  have hs := parts_size h
  unfold parts at h
  split at h
  · cases h
  · have e := Option.some.inj h
    have h1 := List.length_filter_le (fun p => !idle p) (cut l)
    have h2 := cut_count l
    rw [e] at h1
    omega
theorem below_cell {a w : World} {p : Addr} {u : Value} (h : a.cell? p = some u) (hb : Below a.heap.size a w) : w.cell? p = some u :=
  (hb.cell (World.block_lt_of_cell? a _ h)).trans h

set_option maxHeartbeats 1600000 in
theorem splits_walk (s : ByteArray) (m : Int) (w : World) (hs : s.size ≤ 9223372036854775807) (hm : w.cell? ⟨0, 0, none⟩ = some (.int .i64 m)) :
    Calls Tryd.prog 3 #[.string s] w fun e w' => e = .returned (.bool true) ∧ Below w.heap.size w w' := by
  have HM := Lib.hid hm
  clear hm
  by_cases hbig : 3000 < s.size
  · go_enter Tryd.func3, Tryd.ntmps3
    go_wp2_with fail
    refine (speaks_any m _ HM.out).mono ?_
    rintro e w1 ⟨rfl, hb1⟩
    have HB1 := Lib.hid hb1
    clear hb1
    go_wp2_with fail
    go_ret
    exact ⟨rfl, HB1.out⟩
  · have d1 : decide (3000 < (s.size : Int)) = false := by simp; omega
    go_enter Tryd.func3, Tryd.ntmps3
    go_wp2_with fail
    refine (speaks_any m _ HM.out).mono ?_
    rintro e w1 ⟨rfl, hb1⟩
    have HM1 := Lib.hid (below_cell HM.out hb1)
    have HB1 := Lib.hid hb1
    clear hb1
    go_wp2_with fail
    refine (split_any s m _ hs HM1.out).mono ?_
    rintro e w2 ⟨hsp, hb2⟩
    have HB2 := Lib.hid (HB1.out.trans (hb2.mono HB1.out.size))
    have HB2' := Lib.hid hb2
    clear hb2 d1
    rcases hp : parts s.data.toList with _ | ps
    · obtain rfl := split_none hsp hp
      have HP := Lib.hid hp
      clear hsp hp
      go_wp2_with fail
      refine (refsplit_any s _ hs).mono ?_
      rintro e w3 ⟨hrf, hb3⟩
      obtain rfl := ref_none hrf HP.out
      have HB3 := Lib.hid (HB2.out.trans (hb3.mono HB2.out.size))
      clear hrf hb3
      go_wp2_with fail
      go_ret
      exact ⟨rfl, HB3.out⟩
    · obtain ⟨v, Q, hQ, rfl, ho⟩ := split_some hsp hp
      obtain ⟨A, c, rfl⟩ := own_form ho
      have HP := Lib.hid hp
      have HQ := Lib.hid hQ
      have HO := Lib.hid ho
      have hsz := parts_size hp
      have hsz0 : 0 < s.size := by have := hsz.1; rw [size_list] at this; omega
      have hH := head_byte s hsz0
      obtain ⟨rt, hrt⟩ : ∃ rt, rt = (s.data.toList.head? == some 47) := ⟨_, rfl⟩
      rw [← hrt] at hH ⊢
      have hi0 : (0 : Int) < (s.size : Int) := by omega
      have hQl : Q.length ≤ 1025 := by have := parts_count hp; rw [← hQ, List.length_map] at this; exact this
      clear hsp hp hQ ho hsz hrt
      have HH := Lib.hid hH
      clear hH
      go_wp2_with fail
      refine (refsplit_any s _ hs).mono ?_
      rintro e w3 ⟨hrf, hb3⟩
      obtain ⟨v2, Q2, hQ2, rfl, ho2⟩ := ref_some hrf HP.out
      obtain rfl : Q2 = Q := same_list (hQ2.trans HQ.out.symm)
      obtain ⟨A2, c2, rfl⟩ := own_form ho2
      have HS1 := Lib.hid ((Strs.of_own HO.out).keep hb3)
      have HS2 := Lib.hid (Strs.of_own ho2)
      have HB3 := Lib.hid (HB2.out.trans (hb3.mono HB2.out.size))
      clear hrf hb3 hQ2 ho2
      go_wp2_with fail
      refine (same_yes _ _ _ _ HS1.out HS2.out (by omega)).mono ?_
      rintro e w' ⟨rfl, n, rfl⟩
      have hH2 := HH.out
      go_wp2_with fail
      go_ret
      exact ⟨rfl, below_drewN HB3.out n⟩

/-! A name is a path of one part -/
theorem clean_no {l : List UInt8} (h : clean l = true) : (47 : UInt8) ∉ l := ((clean_iff l).1 h).1
theorem right_is {l : List UInt8} (h : right l = true) : 1 ≤ l.length ∧ l.length ≤ 64 ∧ l ≠ [46] ∧ l ≠ [46, 46] ∧ clean l = true := by
  rw [right_eq] at h
  simp only [Bool.and_eq_true, decide_eq_true_eq, Bool.not_eq_true', beq_eq_false_iff_ne] at h
  exact ⟨h.1.1.1.1, h.1.1.1.2, h.1.1.2, h.1.2, h.2⟩
theorem right_parts {l : List UInt8} (h : right l = true) : parts l = some [l] := by
  obtain ⟨h1, h2, h3, h4, h5⟩ := right_is h
  have hc := cut_single l (clean_no h5)
  have hi : idle l = false := by
    have e1 : (l == []) = false := by rw [beq_eq_false_iff_ne]; intro e; rw [e] at h1; simp at h1
    have e2 : (l == [46]) = false := by rw [beq_eq_false_iff_ne]; exact h3
    unfold idle
    rw [e1, e2]
    rfl
  unfold parts
  rw [hc, if_neg]
  · simp [hi]
  · rintro (h | h | h)
    · omega
    · omega
    · rw [List.any_cons, good_right (by assumption)] at h
      cases h
theorem right_head {l : List UInt8} (h : right l = true) : (l.head? == some 47) = false := by
  have hn := clean_no (right_is h).2.2.2.2
  rw [beq_eq_false_iff_ne]
  intro e
  cases l with
  | nil => cases e
  | cons b l => exact hn (by rw [Option.some.inj e]; exact List.mem_cons_self)
/-- A part of a path is a name, or two dots. -/
theorem part_right {l : List UInt8} {ps : List (List UInt8)} {p : List UInt8} (h : parts l = some ps) (hp : p ∈ ps) : p = [46, 46] ∨ right p = true := by
  unfold parts at h
  split at h
  · cases h
  · rename_i hn
    have e := Option.some.inj h
    rw [← e, List.mem_filter] at hp
    obtain ⟨hm, hi⟩ := hp
    have hb : bad p = false := by
      rcases hbb : bad p with _ | _
      · rfl
      · exact absurd (.inr (.inr (List.any_eq_true.2 ⟨p, hm, hbb⟩))) hn
    have hi' : idle p = false := by simpa using hi
    unfold bad at hb
    rw [hi'] at hb
    by_cases c : p = [46, 46]
    · exact .inl c
    · have e2 : (p == [46, 46]) = false := by simpa using c
      rw [e2] at hb
      right
      simpa using hb

set_option maxHeartbeats 3200000 in
theorem right_walk (s : ByteArray) (m : Int) (w : World) (hs : s.size ≤ 9223372036854775807) (hm : w.cell? ⟨0, 0, none⟩ = some (.int .i64 m)) :
    Calls Tryd.prog 4 #[.string s] w fun e w' => e = .returned (.bool true) ∧ Below w.heap.size w w' := by
  have HM := Lib.hid hm
  clear hm
  by_cases hbig : 300 < s.size
  · go_enter Tryd.func4, Tryd.ntmps4
    go_wp2_with fail
    refine (speaks_any m _ HM.out).mono ?_
    rintro e w1 ⟨rfl, hb1⟩
    have HB1 := Lib.hid hb1
    clear hb1
    go_wp2_with fail
    go_ret
    exact ⟨rfl, HB1.out⟩
  · have d1 : decide (300 < (s.size : Int)) = false := by simp; omega
    go_enter Tryd.func4, Tryd.ntmps4
    go_wp2_with fail
    refine (speaks_any m _ HM.out).mono ?_
    rintro e w1 ⟨rfl, hb1⟩
    have HM1 := Lib.hid (below_cell HM.out hb1)
    have HB1 := Lib.hid hb1
    clear hb1
    go_wp2_with fail
    refine (split_any s m _ hs HM1.out).mono ?_
    rintro e w2 ⟨hsp, hb2⟩
    have HB2 := Lib.hid (HB1.out.trans (hb2.mono HB1.out.size))
    clear hb2 d1
    rcases hr : right s.data.toList with _ | _
    · have HR := Lib.hid hr
      rcases hp : parts s.data.toList with _ | ps
      · obtain rfl := split_none hsp hp
        clear hsp hp hr
        go_wp2_with fail
        refine (right_no s _ hs HR.out).mono ?_
        rintro e w' ⟨rfl, rfl⟩
        go_wp2_with fail
        refine (refright_no s _ hs HR.out).mono ?_
        rintro e w' ⟨rfl, rfl⟩
        go_wp2_with fail
        refine (right_no s _ hs HR.out).mono ?_
        rintro e w' ⟨rfl, rfl⟩
        go_wp2_with fail
        go_ret
        exact ⟨rfl, HB2.out⟩
      · obtain ⟨v, Q, hQ, rfl, ho⟩ := split_some hsp hp
        obtain ⟨A, c, rfl⟩ := own_form ho
        have hprt : ∀ p, p ∈ ps → p = [46, 46] ∨ right p = true := fun p hm => part_right hp hm
        rcases hrt : (s.data.toList.head? == some 47) with _ | _
        · by_cases hone : Q.length = 1
          · obtain ⟨q, rfl⟩ : ∃ q, Q = [q] := by
              match Q, hone with
              | [q], _ => exact ⟨q, rfl⟩
            obtain ⟨b, off, hA, hlt, hcell⟩ : ∃ b off, A = some ⟨b, off, none⟩ ∧ b < w2.heap.size ∧ w2.cell? ⟨b, off, none⟩ = some (.string q) := by
              obtain ⟨A', c', he, hc⟩ := Strs.of_own ho
              injection he with e1 _ _
              obtain ⟨b, off, h1, h2, h3⟩ := hc 0 q rfl
              exact ⟨b, off, e1.trans h1, h2, h3⟩
            subst hA
            by_cases hqs : q = s
            · subst hqs
              have hd : q.data.toList = [46, 46] := by
                rcases hprt q.data.toList (by rw [← hQ]; simp) with h | h
                · exact h
                · rw [hr] at h; cases h
              have g1 : (q.toList == [46, 46]) = true := by rw [to_list, hd]; rfl
              have g2 : (q.toList == q.toList) = true := by simp
              clear hsp hp hr ho hQ hprt hrt hd hone
              go_wp2_with fail
              refine (right_no q _ hs HR.out).mono ?_
              rintro e w' ⟨rfl, rfl⟩
              go_wp2_with fail
              refine (refright_no q _ hs HR.out).mono ?_
              rintro e w' ⟨rfl, rfl⟩
              go_wp2_with fail
              refine (right_no q _ hs HR.out).mono ?_
              rintro e w' ⟨rfl, rfl⟩
              go_wp2_with fail
              go_ret
              exact ⟨rfl, HB2.out⟩
            · have g2 : (q.toList == s.toList) = false := by
                rw [beq_eq_false_iff_ne, to_list, to_list]
                exact fun e => hqs (same_text e)
              clear hsp hp hr ho hQ hprt hrt hone hqs
              go_wp2_with fail
              refine (right_no s _ hs HR.out).mono ?_
              rintro e w' ⟨rfl, rfl⟩
              go_wp2_with fail
              refine (refright_no s _ hs HR.out).mono ?_
              rintro e w' ⟨rfl, rfl⟩
              go_wp2_with fail
              refine (right_no s _ hs HR.out).mono ?_
              rintro e w' ⟨rfl, rfl⟩
              go_wp2_with fail
              go_ret
              exact ⟨rfl, HB2.out⟩
          · have g1 : ((Q.length : Int) == 1) = false := by rw [beq_eq_false_iff_ne]; omega
            clear hsp hp hr ho hQ hprt hrt hone
            go_wp2_with fail
            refine (right_no s _ hs HR.out).mono ?_
            rintro e w' ⟨rfl, rfl⟩
            go_wp2_with fail
            refine (refright_no s _ hs HR.out).mono ?_
            rintro e w' ⟨rfl, rfl⟩
            go_wp2_with fail
            refine (right_no s _ hs HR.out).mono ?_
            rintro e w' ⟨rfl, rfl⟩
            go_wp2_with fail
            go_ret
            exact ⟨rfl, HB2.out⟩
        · clear hsp hp hr ho hQ hprt hrt
          go_wp2_with fail
          refine (right_no s _ hs HR.out).mono ?_
          rintro e w' ⟨rfl, rfl⟩
          go_wp2_with fail
          refine (refright_no s _ hs HR.out).mono ?_
          rintro e w' ⟨rfl, rfl⟩
          go_wp2_with fail
          refine (right_no s _ hs HR.out).mono ?_
          rintro e w' ⟨rfl, rfl⟩
          go_wp2_with fail
          go_ret
          exact ⟨rfl, HB2.out⟩
    · have HR := Lib.hid hr
      have hp := right_parts hr
      obtain ⟨v, Q, hQ, rfl, ho⟩ := split_some hsp hp
      obtain ⟨q, rfl⟩ : ∃ q, Q = [q] := by
        have hl : Q.length = 1 := by have := congrArg List.length hQ; simpa using this
        match Q, hl with
        | [q], _ => exact ⟨q, rfl⟩
      have hqs : q = s := same_text (by simpa using hQ)
      subst hqs
      obtain ⟨A, c, rfl⟩ := own_form ho
      obtain ⟨b, off, hA, hlt, hcell⟩ : ∃ b off, A = some ⟨b, off, none⟩ ∧ b < w2.heap.size ∧ w2.cell? ⟨b, off, none⟩ = some (.string q) := by
        obtain ⟨A', c', he, hc⟩ := Strs.of_own ho
        injection he with e1 _ _
        obtain ⟨b, off, h1, h2, h3⟩ := hc 0 q rfl
        exact ⟨b, off, e1.trans h1, h2, h3⟩
      subst hA
      have hrt := right_head hr
      rw [hrt]
      have g1 : (q.toList == [46, 46]) = false := by rw [to_list]; simpa using (right_is hr).2.2.2.1
      have g2 : (q.toList == q.toList) = true := by simp
      clear hsp hp hr ho hQ hrt
      go_wp2_with fail
      refine (right_yes q _ hs HR.out).mono ?_
      rintro e w' ⟨rfl, rfl⟩
      go_wp2_with fail
      refine (refright_yes q _ hs HR.out).mono ?_
      rintro e w' ⟨rfl, rfl⟩
      go_wp2_with fail
      refine (right_yes q _ hs HR.out).mono ?_
      rintro e w' ⟨rfl, rfl⟩
      go_wp2_with fail
      go_ret
      exact ⟨rfl, HB2.out⟩
end Go.Proofs.YthckibibheemkaaDoor.name
