/- What bare, mayBe and the reference's One answer of any node: whether it may be. Conditions: the node is one that was read; the library's MaxLen holds a number. -/
import Derived.Test.YtniklphdnakehaaDoorTreOne
import Derived.Deep.DeepCutAuto
import Derived.Test.YtniklphdnakehaaDoorExtRef
namespace Go.Proofs.YtniklphdnakehaaDoor.tre
set_option maxRecDepth 100000
open Go.RowKit Go.Proofs.YtniklphdnakehaaDoor.words Go.Proofs.YtniklphdnakehaaDoor.ext Go.Proofs.YtniklphdnakehaaDoor.name

def bareB (n : Nd) : Bool := noneB n && emptyB n && n.T.size == 0
theorem empty_yes {s : ByteArray} (h : s.size = 0) : s.toList.isEmpty = true := by
  rw [List.isEmpty_iff, name.to_list]
  exact List.eq_nil_of_length_eq_zero (by rw [name.size_list]; exact h)
theorem empty_no {s : ByteArray} (h : s.size ≠ 0) : s.toList.isEmpty = false := by
  rw [List.isEmpty_eq_false_iff]
  intro e
  have : s.toList.length = 0 := by rw [e]; rfl
  rw [name.to_list, name.size_list] at this
  exact h this
theorem zero_yes {k : Nat} (h : k = 0) : (((k : Nat) : Int) == 0) = true := by rw [h]; rfl
theorem zero_no {k : Nat} (h : k ≠ 0) : (((k : Nat) : Int) == 0) = false := by rw [beq_eq_false_iff_ne]; omega
theorem noneB_1 {n : Nd} (h : n.O = true) : noneB n = false := by unfold noneB; rw [h]; rfl
theorem noneB_2 {n : Nd} (h : n.N.length ≠ 0) : noneB n = false := by unfold noneB; rw [show (n.N.length == 0) = false by rw [beq_eq_false_iff_ne]; exact h, Bool.and_false, Bool.false_and]
theorem noneB_3 {n : Nd} (h : n.I.length ≠ 0) : noneB n = false := by unfold noneB; rw [show (n.I.length == 0) = false by rw [beq_eq_false_iff_ne]; exact h, Bool.and_false]
theorem noneB_4 {n : Nd} (h1 : n.O = false) (h2 : n.N.length = 0) (h3 : n.I.length = 0) : noneB n = true := by unfold noneB; rw [h1, h2, h3]; rfl
theorem emptyB_1 {n : Nd} (h : n.S ≠ 0) : emptyB n = false := by unfold emptyB; rw [show (n.S == 0) = false by rw [beq_eq_false_iff_ne]; exact h, Bool.false_and]
theorem emptyB_2 {n : Nd} (h : n.E.length ≠ 0) : emptyB n = false := by unfold emptyB; rw [show (n.E.length == 0) = false by rw [beq_eq_false_iff_ne]; exact h, Bool.and_false]
theorem emptyB_3 {n : Nd} (h1 : n.S = 0) (h2 : n.E.length = 0) : emptyB n = true := by unfold emptyB; rw [h1, h2]; rfl

set_option maxHeartbeats 1600000 in
theorem bare_any (n : Nd) (r : Raw) (w : World) : Calls Tryd.prog 119 #[ndV n r] w fun e w' => e = .returned (.bool (bareB n)) ∧ Below w.heap.size w w' := by
  have HB := Lib.hid (show Below w.heap.size w (w.alloc (.cells (rawCells n r) 27)) from (Below.refl _ _).alloc (Nat.le_refl _) _)
  unfold rawCells at HB
  unfold ndV rawCells
  rcases hO : n.O with _ | _
  · by_cases h2 : n.N.length = 0
    · have z2 := zero_yes h2
      by_cases h3 : n.I.length = 0
      · have z3 := zero_yes h3
        have H4 := Lib.hid (noneB_4 hO h2 h3)
        by_cases h5 : n.S = 0
        · have z5 : (n.S == 0) = true := by rw [h5]; rfl
          by_cases h6 : n.E.length = 0
          · have z6 := zero_yes h6
            have H6 := Lib.hid (emptyB_3 h5 h6)
            by_cases h7 : n.T.size = 0
            · have z7 := empty_yes h7
              have HF := Lib.hid (show true = bareB n by unfold bareB; rw [H4.out, H6.out, h7]; rfl)
              clear h2 h3 h5 h6 h7
              go_enter Tryd.func119, Tryd.ntmps119
              go_wp2_with fail
              go_ret
              rw [hO] at HB
              exact ⟨ret_bool HF.out, HB.out⟩
            · have z7 := empty_no h7
              have HF := Lib.hid (show false = bareB n by unfold bareB; rw [show (n.T.size == 0) = false by rw [beq_eq_false_iff_ne]; exact h7, Bool.and_false])
              clear h2 h3 h5 h6 h7
              go_enter Tryd.func119, Tryd.ntmps119
              go_wp2_with fail
              go_ret
              rw [hO] at HB
              exact ⟨ret_bool HF.out, HB.out⟩
          · have z6 := zero_no h6
            have HF := Lib.hid (show false = bareB n by unfold bareB; rw [emptyB_2 h6, Bool.and_false, Bool.false_and])
            clear h2 h3 h5 h6
            go_enter Tryd.func119, Tryd.ntmps119
            go_wp2_with fail
            go_ret
            rw [hO] at HB
            exact ⟨ret_bool HF.out, HB.out⟩
        · have z5 : (n.S == 0) = false := by rw [beq_eq_false_iff_ne]; exact h5
          have HF := Lib.hid (show false = bareB n by unfold bareB; rw [emptyB_1 h5, Bool.and_false, Bool.false_and])
          clear h2 h3 h5
          go_enter Tryd.func119, Tryd.ntmps119
          go_wp2_with fail
          go_ret
          rw [hO] at HB
          exact ⟨ret_bool HF.out, HB.out⟩
      · have z3 := zero_no h3
        have HF := Lib.hid (show false = bareB n by unfold bareB; rw [noneB_3 h3, Bool.false_and, Bool.false_and])
        clear h2 h3
        go_enter Tryd.func119, Tryd.ntmps119
        go_wp2_with fail
        go_ret
        rw [hO] at HB
        exact ⟨ret_bool HF.out, HB.out⟩
    · have z2 := zero_no h2
      have HF := Lib.hid (show false = bareB n by unfold bareB; rw [noneB_2 h2, Bool.false_and, Bool.false_and])
      clear h2
      go_enter Tryd.func119, Tryd.ntmps119
      go_wp2_with fail
      go_ret
      rw [hO] at HB
      exact ⟨ret_bool HF.out, HB.out⟩
  · have HF := Lib.hid (show false = bareB n by unfold bareB; rw [noneB_1 hO, Bool.false_and, Bool.false_and])
    go_enter Tryd.func119, Tryd.ntmps119
    go_wp2_with fail
    go_ret
    rw [hO] at HB
    exact ⟨ret_bool HF.out, HB.out⟩

theorem refright_is (b : Bool) (size : Int) (A : Option Addr) (cap : Nat) (L : List Ex) (w : World) (hI : Exts w w.heap.size A L) (hlen : L.length ≤ 4611686018427387904) (hs1 : -9223372036854775808 ≤ size) (hs2 : size ≤ 9223372036854775807) (hb : rightB size L = b) :
    Calls Tryd.prog 126 #[.int .i64 size, .slice A L.length cap] w fun e w' => e = .returned (.bool b) ∧ Below w.heap.size w w' :=
  (refright_any size A cap L w hI hlen hs1 hs2).mono fun _ _ ⟨he, n, hn⟩ => ⟨by rw [he, hb], by rw [← hn]; exact below_drewN (Below.refl _ _) _⟩
theorem entries_is (b : Bool) (n : Nd) (r : Raw) (w : World) (hN : Txts w w.heap.size r.An n.N) (fit : Fit n r) (hb : (n.N.length == n.I.length && riseB n.N) = b) :
    Calls Tryd.prog 127 #[ndV n r] w fun e w' => e = .returned (.bool b) ∧ Below w.heap.size w w' :=
  (entries_any n r w hN fit).mono fun _ _ ⟨he, hw⟩ => ⟨by rw [he, hb], hw⟩

theorem oneB_1 {n : Nd} (h : n.K = 1) : oneB n = (noneB n && n.T.size == 0 && rightB n.S n.E) := by unfold oneB; rw [if_pos h]
theorem oneB_2 {n : Nd} (h : n.K = 2) : oneB n = (emptyB n && n.T.size == 0 && (n.N.length == n.I.length && riseB n.N)) := by unfold oneB; rw [if_neg (by omega), if_pos h]
theorem oneB_3 {n : Nd} (h : n.K = 3) : oneB n = (noneB n && emptyB n && pathB n.T) := by unfold oneB; rw [if_neg (by omega), if_neg (by omega), if_pos h]
theorem oneB_4 {n : Nd} (h : n.K = 4) : oneB n = (noneB n && emptyB n && n.T.size == 0) := by unfold oneB; rw [if_neg (by omega), if_neg (by omega), if_neg (by omega), if_pos h]
theorem oneB_0 {n : Nd} (h1 : n.K ≠ 1) (h2 : n.K ≠ 2) (h3 : n.K ≠ 3) (h4 : n.K ≠ 4) : oneB n = false := by unfold oneB; rw [if_neg h1, if_neg h2, if_neg h3, if_neg h4]
theorem size_yes {s : ByteArray} (h : s.size = 0) : (s.size == 0) = true := by rw [h]; rfl
theorem size_no {s : ByteArray} (h : s.size ≠ 0) : (s.size == 0) = false := by rw [beq_eq_false_iff_ne]; exact h
theorem refsplit_is (s : ByteArray) (w : World) (hs : s.size ≤ 9223372036854775807) :
    Calls Tryd.prog 128 #[.string s] w fun e w' => (∃ v, e = .returned (.tuple #[v, .bool (parts s.data.toList).isSome])) ∧ Below w.heap.size w w' :=
  (refsplit_any s w hs).mono fun _ _ ⟨hr, hb⟩ => ⟨by
    rcases hr with ⟨hp, he⟩ | ⟨v, Q, hp, he, _⟩
    · exact ⟨_, by rw [he, hp]; rfl⟩
    · exact ⟨v, by rw [he, hp]; rfl⟩, hb⟩

set_option maxRecDepth 100000 in
set_option maxHeartbeats 6400000 in
theorem one_any (n : Nd) (r : Raw) (w : World) (hN : NdAt w w.heap.size n r) : Calls Tryd.prog 103 #[ndV n r] w fun e w' => e = .returned (.bool (oneB n)) ∧ Below w.heap.size w w' := by
  obtain ⟨W1, hW1⟩ : ∃ W1, W1 = w.alloc (.cells (rawCells n r) 27) := ⟨_, rfl⟩
  have hb1 : Below w.heap.size w W1 := by rw [hW1]; exact (Below.refl _ _).alloc (Nat.le_refl _) _
  have HX1 : Hid (Box W1 w.heap.size n r) := by rw [hW1]; exact Lib.hid (Box.new w n r)
  have HN := Lib.hid (hN.later hb1)
  have fit := hN.fit
  have f1 := fit.le
  have f2 := fit.s1
  have f3 := fit.s2
  have f4 := fit.t
  have HFit := Lib.hid fit
  have HB1 := Lib.hid hb1
  unfold rawCells at hW1
  have HW1 := Lib.hid hW1
  clear hN fit hb1 hW1
  unfold ndV rawCells
  go_enter Tryd.func103, Tryd.ntmps103
  go_upto_region 1 with fail
  rw [← HW1.out]
  obtain ⟨b0, b1, b2, b3, b4, b5, b6⟩ := HX1.out.cells
  obtain ⟨nb, hnb⟩ : ∃ nb, nb = noneB n := ⟨_, rfl⟩
  have HNb := Lib.hid hnb
  clear hnb
  go_cut [0, 3] (fun _ s3 wx => s3 = .bool nb ∧ wx = W1)
  case first =>
    rcases hO : n.O with _ | _
    · by_cases h2 : n.N.length = 0
      · have z2 := zero_yes h2
        by_cases h3 : n.I.length = 0
        · have z3 := zero_yes h3
          have HF := Lib.hid (show true = nb by rw [HNb.out, noneB_4 hO h2 h3])
          clear h2 h3
          go_wp2_with fail
          go_meet
          exact ⟨by rw [← HF.out], rfl⟩
        · have z3 := zero_no h3
          have HF := Lib.hid (show false = nb by rw [HNb.out, noneB_3 h3])
          clear h2 h3
          go_wp2_with fail
          go_meet
          exact ⟨by rw [← HF.out], rfl⟩
      · have z2 := zero_no h2
        have HF := Lib.hid (show false = nb by rw [HNb.out, noneB_2 h2])
        clear h2
        go_wp2_with fail
        go_meet
        exact ⟨by rw [← HF.out], rfl⟩
    · have HF := Lib.hid (show false = nb by rw [HNb.out, noneB_1 hO])
      go_wp2_with fail
      go_meet
      exact ⟨by rw [← HF.out], rfl⟩
  case rest =>
    obtain ⟨rfl, hw⟩ := hcut
    subst hw
    obtain ⟨eb, heb⟩ : ∃ eb, eb = emptyB n := ⟨_, rfl⟩
    have HEb := Lib.hid heb
    clear heb
    go_upto_region 2 with fail
    go_cut [4] (fun s4 wx => s4 = .bool eb ∧ wx = wc)
    case first =>
      by_cases h5 : n.S = 0
      · have z5 : (n.S == 0) = true := by rw [h5]; rfl
        by_cases h6 : n.E.length = 0
        · have z6 := zero_yes h6
          have HF := Lib.hid (show true = eb by rw [HEb.out, emptyB_3 h5 h6])
          clear h5 h6
          go_wp2_with fail
          go_meet
          exact ⟨by rw [← HF.out], rfl⟩
        · have z6 := zero_no h6
          have HF := Lib.hid (show false = eb by rw [HEb.out, emptyB_2 h6])
          clear h5 h6
          go_wp2_with fail
          go_meet
          exact ⟨by rw [← HF.out], rfl⟩
      · have z5 : (n.S == 0) = false := by rw [beq_eq_false_iff_ne]; exact h5
        have HF := Lib.hid (show false = eb by rw [HEb.out, emptyB_1 h5])
        clear h5
        go_wp2_with fail
        go_meet
        exact ⟨by rw [← HF.out], rfl⟩
    case rest =>
      obtain ⟨rfl, hw⟩ := hcut
      subst hw
      have hHN := HN.out
      by_cases k1 : n.K = 1
      · have g1 : (n.K == 1) = true := by rw [k1]; rfl
        have HO := Lib.hid (oneB_1 k1)
        clear k1
        cases nb
        · have HF := Lib.hid (show false = oneB n by rw [HO.out, ← HNb.out, Bool.false_and, Bool.false_and])
          go_wp2_with fail
          go_ret
          exact ⟨ret_bool HF.out, HB1.out⟩
        · by_cases h7 : n.T.size = 0
          · have z7 := empty_yes h7
            obtain ⟨rt, hrt⟩ : ∃ rt, rt = rightB n.S n.E := ⟨_, rfl⟩
            have HF := Lib.hid (show rt = oneB n by rw [HO.out, ← HNb.out, size_yes h7, hrt]; rfl)
            have HRt := Lib.hid hrt
            clear h7 hrt
            go_wp2_with fail
            refine (refright_is rt n.S r.Ae r.ce n.E _ HN.out.exts (by omega) f2 f3 HRt.out.symm).mono ?_
            rintro e w2 ⟨rfl, hb2⟩
            have HB2 := Lib.hid (HB1.out.trans (hb2.mono HB1.out.size))
            clear hb2
            go_wp2_with fail
            go_ret
            exact ⟨ret_bool HF.out, HB2.out⟩
          · have z7 := empty_no h7
            have HF := Lib.hid (show false = oneB n by rw [HO.out, size_no h7, Bool.and_false, Bool.false_and])
            clear h7
            go_wp2_with fail
            go_ret
            exact ⟨ret_bool HF.out, HB1.out⟩
      have g1 : (n.K == 1) = false := by rw [beq_eq_false_iff_ne]; exact k1
      by_cases k2 : n.K = 2
      · have g2 : (n.K == 2) = true := by rw [k2]; rfl
        have HO := Lib.hid (oneB_2 k2)
        clear k1 k2
        cases eb
        · have HF := Lib.hid (show false = oneB n by rw [HO.out, ← HEb.out, Bool.false_and, Bool.false_and])
          go_wp2_with fail
          go_ret
          exact ⟨ret_bool HF.out, HB1.out⟩
        · by_cases h7 : n.T.size = 0
          · have z7 := empty_yes h7
            obtain ⟨rt, hrt⟩ : ∃ rt, rt = (n.N.length == n.I.length && riseB n.N) := ⟨_, rfl⟩
            have HF := Lib.hid (show rt = oneB n by rw [HO.out, ← HEb.out, size_yes h7, hrt]; rfl)
            have HRt := Lib.hid hrt
            clear h7 hrt
            go_wp2_with fail
            refine (entries_is rt n r _ HN.out.names HFit.out HRt.out.symm).mono ?_
            rintro e w2 ⟨rfl, hb2⟩
            have HB2 := Lib.hid (HB1.out.trans (hb2.mono HB1.out.size))
            clear hb2
            go_wp2_with fail
            go_ret
            exact ⟨ret_bool HF.out, HB2.out⟩
          · have z7 := empty_no h7
            have HF := Lib.hid (show false = oneB n by rw [HO.out, size_no h7, Bool.and_false, Bool.false_and])
            clear h7
            go_wp2_with fail
            go_ret
            exact ⟨ret_bool HF.out, HB1.out⟩
      have g2 : (n.K == 2) = false := by rw [beq_eq_false_iff_ne]; exact k2
      by_cases k3 : n.K = 3
      · have g3 : (n.K == 3) = true := by rw [k3]; rfl
        have HO := Lib.hid (oneB_3 k3)
        obtain ⟨pt, hpt⟩ : ∃ pt, pt = (parts n.T.data.toList).isSome := ⟨_, rfl⟩
        have HSp := Lib.hid (refsplit_is n.T wc (by omega))
        rw [← hpt] at HSp
        have HPt := Lib.hid hpt
        clear k1 k2 k3 hpt
        go_wp2_with fail
        refine HSp.out.mono ?_
        rintro e w2 ⟨⟨v, rfl⟩, hb2⟩
        have HB2 := Lib.hid (HB1.out.trans (hb2.mono HB1.out.size))
        have hx2 := HX1.out.below hb2
        obtain ⟨d0, d1, d2, d3, d4, d5, d6⟩ := hx2.cells
        clear hb2 hx2 HSp
        cases nb
        · have HF := Lib.hid (show false = oneB n by rw [HO.out, ← HNb.out, Bool.false_and, Bool.false_and])
          go_wp2_with fail
          go_ret
          exact ⟨ret_bool HF.out, HB2.out⟩
        · cases eb
          · have HF := Lib.hid (show false = oneB n by rw [HO.out, ← HEb.out, Bool.and_false, Bool.false_and])
            go_wp2_with fail
            go_ret
            exact ⟨ret_bool HF.out, HB2.out⟩
          · cases pt
            · have HF := Lib.hid (show false = oneB n by rw [HO.out]; unfold pathB; rw [← HPt.out, Bool.false_and, Bool.and_false])
              go_wp2_with fail
              go_ret
              exact ⟨ret_bool HF.out, HB2.out⟩
            · have HF := Lib.hid (show decide (n.T.size ≤ 256) = oneB n by rw [HO.out, ← HNb.out, ← HEb.out]; unfold pathB; rw [← HPt.out]; rfl)
              by_cases h7 : n.T.size ≤ 256
              · have g7 : (n.T.size : Int) ≤ 256 := by omega
                rw [decide_eq_true h7] at HF
                clear h7
                go_wp2_with fail
                go_ret
                exact ⟨ret_bool ((decide_eq_true g7).symm.trans (HF.out ▸ decide_eq_true g7)), HB2.out⟩
              · have g7 : ¬ (n.T.size : Int) ≤ 256 := by omega
                rw [decide_eq_false h7] at HF
                clear h7
                go_wp2_with fail
                go_ret
                exact ⟨ret_bool ((decide_eq_false (by omega)).trans HF.out), HB2.out⟩
      have g3 : (n.K == 3) = false := by rw [beq_eq_false_iff_ne]; exact k3
      by_cases k4 : n.K = 4
      · have g4 : (n.K == 4) = true := by rw [k4]; rfl
        have HO := Lib.hid (oneB_4 k4)
        clear k1 k2 k3 k4
        cases nb
        · have HF := Lib.hid (show false = oneB n by rw [HO.out, ← HNb.out, Bool.false_and, Bool.false_and])
          go_wp2_with fail
          go_ret
          exact ⟨ret_bool HF.out, HB1.out⟩
        · cases eb
          · have HF := Lib.hid (show false = oneB n by rw [HO.out, ← HEb.out, Bool.and_false, Bool.false_and])
            go_wp2_with fail
            go_ret
            exact ⟨ret_bool HF.out, HB1.out⟩
          · by_cases h7 : n.T.size = 0
            · have z7 := empty_yes h7
              have HF := Lib.hid (show true = oneB n by rw [HO.out, ← HNb.out, ← HEb.out, size_yes h7]; rfl)
              clear h7
              go_wp2_with fail
              go_ret
              exact ⟨ret_bool HF.out, HB1.out⟩
            · have z7 := empty_no h7
              have HF := Lib.hid (show false = oneB n by rw [HO.out, size_no h7, Bool.and_false])
              clear h7
              go_wp2_with fail
              go_ret
              exact ⟨ret_bool HF.out, HB1.out⟩
      have g4 : (n.K == 4) = false := by rw [beq_eq_false_iff_ne]; exact k4
      have HF := Lib.hid (show false = oneB n by rw [oneB_0 k1 k2 k3 k4])
      clear k1 k2 k3 k4
      go_wp2_with fail
      go_ret
      exact ⟨ret_bool HF.out, HB1.out⟩
end Go.Proofs.YtniklphdnakehaaDoor.tre
