/- The walk of NameJoins: at any slice of texts it returns true and leaves all that was as it was. Conditions: the slice's length and capacity are such; the library's MaxLen holds a number. -/
import Derived.Test.YthckibibheemkaaDoorNamePath
namespace Go.Proofs.YthckibibheemkaaDoor.name
open Go.RowKit Go.Proofs.YthckibibheemkaaDoor.words

theorem join_any (A : Option Addr) (c : Nat) (Q : List ByteArray) (w : World) (h : Strs w (.slice A Q.length c) Q) (hcap : Q.length ≤ c) (hQ : Q.length ≤ 15) (hx : ∀ x ∈ Q, x.size ≤ 64) :
    Calls Tryd.prog 12 #[.slice A Q.length c] w fun e w' => (∃ r : ByteArray, e = .returned (.string r) ∧ r.data.toList = path (bytesOf Q)) ∧ Below w.heap.size w w' := by
  have hlen := join_length (bytesOf Q) (fun p hp => by
    obtain ⟨x, hm, rfl⟩ := List.mem_map.1 hp
    rw [size_list]
    exact hx x hm)
  have hbl : (bytesOf Q).length = Q.length := by simp [bytesOf]
  rw [hbl] at hlen
  have hJ : Calls Tryd.prog 18 #[.slice A Q.length c, .string ⟨#[47]⟩] w fun e w' => e = .returned (.string ⟨(Lib.join (bytesOf Q) [47]).toArray⟩) ∧ Below w.heap.size w w' := by
    rcases Q with _ | ⟨q, Q⟩
    · exact (Tryd.strings_Join_none A c ⟨#[47]⟩ w).mono fun _ _ ⟨he, hw⟩ => ⟨he, by rw [hw]; exact Below.refl _ _⟩
    · obtain ⟨A', c', he, hc⟩ := h
      injection he with e1 _ _
      subst e1
      obtain ⟨b, off, rfl, hb, _⟩ := hc 0 q rfl
      refine Tryd.strings_Join b off c (q :: Q) ⟨#[47]⟩ w (fun j x hx => ?_) hb (by omega) hcap ?_
      · obtain ⟨b', off', he, _, hcell⟩ := hc j x hx
        injection he with he
        injection he with e1 e2
        subst e1 e2
        exact hcell
      · show (Lib.join (bytesOf (q :: Q)) [47]).length ≤ _
        omega
  obtain ⟨r, hr⟩ : ∃ r : ByteArray, r = ⟨(Lib.join (bytesOf Q) [47]).toArray⟩ := ⟨_, rfl⟩
  rw [← hr] at hJ
  have hrs : r.size ≤ 1000 := by
    have h1 : r.size = (Lib.join (bytesOf Q) [47]).length := by rw [← size_list, hr]
    omega
  have hn : ((⟨#[47]⟩ : ByteArray) ++ r).data.toList = path (bytesOf Q) := by rw [append_data, hr]; rfl
  have HN := Lib.hid hn
  have HJ := Lib.hid hJ
  clear hJ hn hr hlen hbl h hx
  go_enter Tryd.func12, Tryd.ntmps12
  go_wp2_with fail
  refine HJ.out.mono ?_
  rintro e w1 ⟨rfl, hb⟩
  have HB := Lib.hid hb
  clear hb
  go_wp2_with fail
  go_ret
  exact ⟨⟨_, rfl, HN.out⟩, HB.out⟩

theorem Strs.first {w : World} {A : Option Addr} {c j : Nat} {Q : List ByteArray} (h : Strs w (.slice A Q.length c) Q) (hj : j ≤ Q.length) : Strs w (.slice A j c) (Q.take j) := by
  obtain ⟨A', c', he, hc⟩ := h
  injection he with e1 _ e3
  subst e1 e3
  refine ⟨A, c, by rw [List.length_take, Nat.min_eq_left hj], fun i x hx => hc i x ?_⟩
  rw [List.getElem?_take] at hx
  split at hx
  · exact hx
  · cases hx
theorem take_right {Q : List ByteArray} {k : Nat} {x : ByteArray} (h : Q[k]? = some x) (hg : ∀ q ∈ Q.take k, right q.data.toList = true) (hx : right x.data.toList = true) : ∀ q ∈ Q.take (k + 1), right q.data.toList = true := by
  rw [take_more h]
  intro q hq
  rcases List.mem_append.1 hq with hq | hq
  · exact hg q hq
  · rw [List.mem_singleton.1 hq]; exact hx
/-- What comes ahead of the last slash of a child's path. -/
theorem child_path {Q : List ByteArray} {k : Nat} {x at_ next : ByteArray} (h : Q[k]? = some x) (ha : at_.data.toList = path (bytesOf (Q.take k)))
    (hn : next.data.toList = if at_.data.toList = [47] then 47 :: x.data.toList else at_.data.toList ++ 47 :: x.data.toList) (hg : ∀ q ∈ Q.take k, right q.data.toList = true) :
    next.data.toList = path (bytesOf (Q.take (k + 1))) ∧ next.data.toList = (if k = 0 then [] else at_.data.toList) ++ 47 :: x.data.toList ∧ at_.data.toList = (if (if k = 0 then [] else at_.data.toList) = [] then [47] else (if k = 0 then [] else at_.data.toList)) := by
  have hlt : k < Q.length := (List.getElem?_eq_some_iff.1 h).1
  have hk : at_.data.toList = [47] ↔ k = 0 := by
    rw [ha]
    constructor
    · intro e
      rcases Nat.eq_zero_or_pos k with h0 | h0
      · exact h0
      · exfalso
        obtain ⟨y, hy⟩ : ∃ y, Q[k - 1]? = some y := ⟨_, List.getElem?_eq_getElem (by omega)⟩
        have hstep := path_step hy
        have e1 : k - 1 + 1 = k := by omega
        rw [e1, e] at hstep
        have hyr := right_is (hg y (by
          rw [← e1, take_more hy]
          simp))
        have hyl : 1 ≤ y.data.toList.length := hyr.1
        have hl := congrArg List.length hstep
        split at hl
        · simp only [List.length_cons, List.length_nil] at hl; omega
        · simp only [List.length_append, List.length_cons, List.length_nil] at hl; omega
    · intro e
      subst e
      rfl
  by_cases h0 : k = 0
  · have hat := hk.2 h0
    rw [if_pos hat] at hn
    refine ⟨?_, ?_, ?_⟩
    · rw [hn, path_step h, if_pos h0]
    · rw [hn, if_pos h0]; rfl
    · rw [if_pos h0, if_pos rfl]; exact hat
  · have hat : at_.data.toList ≠ [47] := fun e => h0 (hk.1 e)
    rw [if_neg hat] at hn
    have hne : at_.data.toList ≠ [] := by rw [ha]; simp [path]
    refine ⟨?_, ?_, ?_⟩
    · rw [hn, path_step h, if_neg h0, ha]
    · rw [hn, if_neg h0]
    · rw [if_neg h0, if_neg hne]

set_option maxRecDepth 100000 in
set_option maxHeartbeats 6400000 in
theorem joins_walk (A : Option Addr) (c : Nat) (Q : List ByteArray) (m : Int) (w : World) (h : Strs w (.slice A Q.length c) Q) (hcap : Q.length ≤ c) (hc : c ≤ 9223372036854775807) (hx : ∀ x ∈ Q, x.size ≤ 9223372036854775807)
    (hm : w.cell? ⟨0, 0, none⟩ = some (.int .i64 m)) :
    Calls Tryd.prog 5 #[.slice A Q.length c] w fun e w' => e = .returned (.bool true) ∧ Below w.heap.size w w' := by
  have HM := Lib.hid hm
  have HS := Lib.hid h
  have HX := Lib.hid hx
  clear hm h hx
  by_cases hbig : 15 < Q.length
  · go_enter Tryd.func5, Tryd.ntmps5
    go_wp2_with fail
    refine (speaks_any m _ HM.out).mono ?_
    rintro e w1 ⟨rfl, hb1⟩
    have HB1 := Lib.hid hb1
    clear hb1
    go_wp2_with fail
    go_ret
    exact ⟨rfl, HB1.out⟩
  · have d1 : decide (15 < (Q.length : Int)) = false := by simp; omega
    have d2 : decide (15 < Q.length) = false := by simp; omega
    go_enter Tryd.func5, Tryd.ntmps5
    go_wp2_with fail
    refine (speaks_any m _ HM.out).mono ?_
    rintro e w1 ⟨rfl, hb1⟩
    have HM1 := Lib.hid (below_cell HM.out hb1)
    have HS1 := Lib.hid (HS.out.keep hb1)
    have HB1 := Lib.hid hb1
    clear hb1
    go_wp2_with fail
    clear d1 d2
    go_loop [20] (fun i => ∃ k : Nat, k ≤ Q.length ∧ i = .int .i64 k ∧ ∀ q ∈ Q.take k, right q.data.toList = true) (fun i => Q.length - (intOf i).toNat)
    case atStart => exact ⟨0, Nat.zero_le _, rfl, by simp⟩
    case round =>
      obtain ⟨k, hk, rfl, hg⟩ := hrel
      have HG := Lib.hid hg
      clear hg
      by_cases hlt : k < Q.length
      · obtain ⟨x, hx⟩ : ∃ x, Q[k]? = some x := ⟨_, List.getElem?_eq_getElem hlt⟩
        obtain ⟨b, off, rfl, hb, hcell⟩ : ∃ b off, A = some ⟨b, off, none⟩ ∧ b < w1.heap.size ∧ w1.cell? ⟨b, off + k, none⟩ = some (.string x) := by
          obtain ⟨A', c', he, hcc⟩ := HS1.out
          injection he with e1 _ _
          subst e1
          exact hcc k x hx
        have hxs := HX.out x (List.mem_of_getElem? hx)
        have HXk := Lib.hid hx
        rcases hr : right x.data.toList with _ | _
        · have HR := Lib.hid hr
          clear hx hr
          go_wp2_with fail
          refine (refright_no x _ hxs HR.out).mono ?_
          rintro e w' ⟨rfl, rfl⟩
          go_wp2_with fail
          go_ret
          exact ⟨rfl, HB1.out⟩
        · have HR := Lib.hid hr
          clear hx hr
          go_wp2_with fail
          refine (refright_yes x _ hxs HR.out).mono ?_
          rintro e w' ⟨rfl, rfl⟩
          go_wp2_with fail
          go_round
          case rel => exact ⟨k + 1, by omega, by go_num, take_right HXk.out HG.out HR.out⟩
          case measure => simp [intOf]; omega
      · have hke : Q.take k = Q := List.take_of_length_le (by omega)
        rw [hke] at HG
        have hx64 : ∀ x ∈ Q, x.size ≤ 64 := fun x hx => by rw [← size_list]; exact (right_is (HG.out x hx)).2.1
        have HX64 := Lib.hid hx64
        clear hx64 hke
        go_wp2_with fail
        refine (join_any A c Q _ HS1.out hcap (by omega) HX64.out).mono ?_
        rintro e w2 ⟨⟨p, rfl, hp⟩, hb2⟩
        have HP := Lib.hid hp
        have HM2 := Lib.hid (below_cell HM1.out hb2)
        have HS2 := Lib.hid (HS1.out.keep hb2)
        have HB2 := Lib.hid (HB1.out.trans (hb2.mono HB1.out.size))
        have hps : p.size ≤ 1000 := by
          have h1 := path_length (bytesOf Q) (fun q hq => by obtain ⟨x, hx, rfl⟩ := List.mem_map.1 hq; rw [size_list]; exact HX64.out x hx)
          rw [← hp, size_list, bytesOf, List.length_map] at h1
          have h2 : Q.length * 65 ≤ 15 * 65 := Nat.mul_le_mul_right _ (by omega)
          omega
        clear hp hb2
        go_wp2_with fail
        refine (split_any p m _ (by omega) HM2.out).mono ?_
        rintro e w3 ⟨hsp, hb3⟩
        have hpp : parts p.data.toList = some (bytesOf Q) := by
          rw [HP.out]
          refine parts_path _ (fun q hq => ?_) (by rw [bytesOf, List.length_map]; omega)
          obtain ⟨x, hx, rfl⟩ := List.mem_map.1 hq
          exact HG.out x hx
        obtain ⟨v, Q2, hQ2, rfl, ho⟩ := split_some hsp hpp
        have e2 : Q2 = Q := same_list hQ2
        subst e2
        obtain ⟨A2, c2, rfl⟩ := own_form ho
        have hhd : (p.data.toList.head? == some 47) = true := by rw [HP.out]; rfl
        rw [hhd]
        have HS3 := Lib.hid (HS2.out.keep hb3)
        have HS3' := Lib.hid (Strs.of_own ho)
        have HB3 := Lib.hid (HB2.out.trans (hb3.mono HB2.out.size))
        clear hsp hb3 hpp hQ2 ho hhd
        go_wp2_with fail
        refine (refjoin_any _ Q2 _ HS3.out (by omega) HX64.out).mono ?_
        rintro e w' ⟨⟨p', rfl, hp'⟩, rfl⟩
        have e3 : p' = p := same_text (hp'.trans HP.out.symm)
        subst e3
        have g1 : (p'.toList != p'.toList) = false := by simp
        have g2 : (p'.toList == p'.toList) = true := by simp
        clear hp'
        go_wp2_with fail
        refine (same_yes _ _ Q2 _ HS3'.out HS3.out (by omega)).mono ?_
        rintro e w' ⟨rfl, nd, rfl⟩
        have HS4 := Lib.hid (show Strs (w3.drewN nd) (.slice A Q2.length c) Q2 from HS3.out)
        have HB4 := Lib.hid (below_drewN HB3.out nd)
        go_wp2_with fail
        have hsize : ∀ j, j ≤ Q2.length → (path (bytesOf (Q2.take j))).length ≤ 1000 := fun j hj => by
          have h1 := path_length (bytesOf (Q2.take j)) (fun q hq => by obtain ⟨x, hx, rfl⟩ := List.mem_map.1 hq; rw [size_list]; exact HX64.out x (List.mem_of_mem_take hx))
          rw [bytesOf, List.length_map, List.length_take] at h1
          have h2 : min j Q2.length * 65 ≤ 15 * 65 := Nat.mul_le_mul_right _ (by omega)
          rw [bytesOf]
          omega
        have HZ := Lib.hid hsize
        clear hsize g1 g2
        go_loop [9, 56] (fun v i => ∃ (j : Nat) (at_ : ByteArray), j ≤ Q2.length ∧ i = .int .i64 j ∧ v = .string at_ ∧ at_.data.toList = path (bytesOf (Q2.take j)) ∧ at_.size ≤ 1000) (fun _ i => Q2.length - (intOf i).toNat)
        case atStart => exact ⟨0, ⟨#[47]⟩, Nat.zero_le _, rfl, rfl, rfl, by decide⟩
        case round =>
          obtain ⟨j, at_, hj, rfl, rfl, hat, hats⟩ := hrel
          have HA := Lib.hid hat
          clear hat
          by_cases hlt2 : j < Q2.length
          · obtain ⟨x, hx⟩ : ∃ x, Q2[j]? = some x := ⟨_, List.getElem?_eq_getElem hlt2⟩
            obtain ⟨b, off, rfl, hb, hcell⟩ : ∃ b off, A = some ⟨b, off, none⟩ ∧ b < w3.heap.size ∧ w3.cell? ⟨b, off + j, none⟩ = some (.string x) := by
              obtain ⟨A', c', he, hcc⟩ := HS3.out
              injection he with e1 _ _
              subst e1
              exact hcc j x hx
            have hxs := HX64.out x (List.mem_of_getElem? hx)
            have hxr := HG.out x (List.mem_of_getElem? hx)
            have HXk := Lib.hid hx
            have HXR := Lib.hid hxr
            have hjc : (j : Int) + 1 ≤ (c : Int) := by omega
            clear hx hxr
            go_wp2_with fail
            refine (child_any at_ x _ (by omega) (by omega)).mono ?_
            rintro e w' ⟨⟨next, rfl, hnx⟩, rfl⟩
            obtain ⟨n1, n2, n3⟩ := child_path HXk.out HA.out hnx (fun q hq => HG.out q (List.mem_of_mem_take hq))
            have N1 := Lib.hid n1
            have N2 := Lib.hid n2
            have N3 := Lib.hid n3
            have hnz : next.size ≤ 1000 := by rw [← size_list, n1]; exact HZ.out (j + 1) hlt2
            clear hnx n1 n2 n3
            go_wp2_with fail
            refine (refjoin_any _ (Q2.take (j + 1)) _ (Strs.first HS4.out hlt2) (by rw [List.length_take]; omega) (fun y hy => HX64.out y (List.mem_of_mem_take hy))).mono ?_
            rintro e w' ⟨⟨r', rfl, hr'⟩, rfl⟩
            have e5 : r' = next := same_text (hr'.trans N1.out.symm)
            subst e5
            clear hr'
            have g1 : (r'.toList != r'.toList) = false := by simp
            have g2 : (r'.toList == r'.toList) = true := by simp
            go_wp2_with fail
            refine (parent_any r' _ x.data.toList _ N2.out (clean_no (right_is HXR.out).2.2.2.2) (by omega)).mono ?_
            rintro e w' ⟨⟨r2, rfl, hr2⟩, rfl⟩
            have e6 : r2 = at_ := same_text (hr2.trans N3.out.symm)
            subst e6
            clear hr2
            have g3 : (r2.toList != r2.toList) = false := by simp
            have g4 : (r2.toList == r2.toList) = true := by simp
            go_wp2_with fail
            go_round
            case rel => exact ⟨j + 1, r', by omega, by go_num, rfl, N1.out, hnz⟩
            case measure => simp [intOf]; omega
          · have hje : Q2.take j = Q2 := List.take_of_length_le (by omega)
            have e7 : at_ = p' := same_text (by rw [HA.out, hje]; exact HP.out.symm)
            subst e7
            have g2 : (at_.toList == at_.toList) = true := by simp
            clear hje
            go_wp2_with fail
            refine (parent_any ⟨#[47]⟩ [] [] _ rfl (by simp) (by decide)).mono ?_
            rintro e w' ⟨⟨r2, rfl, hr2⟩, rfl⟩
            obtain rfl : r2 = ⟨#[47]⟩ := same_text (hr2.trans (by decide))
            clear hr2
            go_wp2_with fail
            go_ret
            exact ⟨rfl, HB4.out⟩
end Go.Proofs.YthckibibheemkaaDoor.name
