/- What mayBe and the reference's One answer of any node: whether it may be. Conditions: the node is one that was read; the library's MaxLen holds a number. -/
import Derived.Test.YtniklphdnakehaaDoorTreRise
namespace Go.Proofs.YtniklphdnakehaaDoor.tre
set_option maxRecDepth 100000
open Go.RowKit Go.Proofs.YtniklphdnakehaaDoor.words Go.Proofs.YtniklphdnakehaaDoor.ext Go.Proofs.YtniklphdnakehaaDoor.name

theorem right_is (s : ByteArray) (r : Bool) (w : World) (hs : s.size ≤ 9223372036854775807) (h : right s.data.toList = r) : Calls Tryd.prog 138 #[.string s] w fun e w' => e = .returned (.bool r) ∧ w = w' :=
  (refright_any s w hs).mono fun _ _ ⟨he, hw⟩ => ⟨by rw [he, h], hw⟩
theorem less_is (a b : ByteArray) (r : Bool) (w : World) (ha : a.size ≤ 140737488355328) (h : lessB a b = r) : Calls Tryd.prog 139 #[.string a, .string b] w fun e w' => e = .returned (.bool r) ∧ ∃ n, w.drewN n = w' :=
  (less_any a b w ha).mono fun _ _ ⟨he, hw⟩ => ⟨by rw [he, h], hw⟩

/-- Some draws on. -/
def Qt (a w : World) : Prop := ∃ n, w = a.drewN n
theorem Qt.refl (a : World) : Qt a a := ⟨0, rfl⟩
theorem Qt.drewN {a w : World} (h : Qt a w) (n : Nat) : Qt a (w.drewN n) := by
  obtain ⟨m, rfl⟩ := h
  exact ⟨m + n, World.drewN_drewN _ _ _⟩
theorem Qt.below {a w : World} (h : Qt a w) (B : Nat) : Below B a w := by
  obtain ⟨m, rfl⟩ := h
  exact below_drewN (Below.refl _ _) _

set_option maxHeartbeats 3200000 in
theorem entries_any (n : Nd) (r : Raw) (w : World) (hN : Txts w w.heap.size r.An n.N) (fit : Fit n r) :
    Calls Tryd.prog 127 #[ndV n r] w fun e w' => e = .returned (.bool (n.N.length == n.I.length && riseB n.N)) ∧ Below w.heap.size w w' := by
  have f1 := fit.ln
  have f2 := fit.li
  obtain ⟨W1, hW1⟩ : ∃ W1, W1 = w.alloc (.cells (rawCells n r) 27) := ⟨_, rfl⟩
  have hb1 : Below w.heap.size w W1 := by rw [hW1]; exact (Below.refl _ _).alloc (Nat.le_refl _) _
  have HX1 : Hid (Box W1 w.heap.size n r) := by rw [hW1]; exact Lib.hid (Box.new w n r)
  have HI := Lib.hid ((hN.keep hb1).more hb1.size)
  have HB1 := Lib.hid hb1
  unfold rawCells at hW1
  have HW1 := Lib.hid hW1
  clear hN fit hb1 hW1
  unfold ndV rawCells
  by_cases hlen : n.N.length = n.I.length
  · have g0 : ((n.N.length : Int) != (n.I.length : Int)) = false := by rw [hlen]; simp
    have HE := Lib.hid (show (n.N.length == n.I.length && riseB n.N) = riseB n.N by rw [show (n.N.length == n.I.length) = true by rw [beq_iff_eq]; exact hlen, Bool.true_and])
    clear hlen
    go_enter Tryd.func127, Tryd.ntmps127
    go_wp2_with fail
    rw [← HW1.out]
    obtain ⟨b0, b1, b2, b3, b4, b5, b6⟩ := HX1.out.cells
    go_wp2_with fail
    clear g0 b0 b1 b2 b3 b4 b5 b6
    go_loopw [3] (fun c wr => ∃ (k : Nat), k ≤ n.N.length ∧ c = .int .i64 k ∧ Rises n.N k ∧ Qt W1 wr) (fun c _ => n.N.length - (intOf c).toNat)
    case atStart => exact ⟨0, Nat.zero_le _, rfl, Rises.start _, Qt.refl _⟩
    case round =>
      obtain ⟨k, hk, rfl, hr, hqt⟩ := hrel
      have HR := Lib.hid hr
      have HQ := Lib.hid hqt
      have HIr := Lib.hid ((HI.out.keep (hqt.below _)).more (hqt.below W1.heap.size).size)
      have HBr := Lib.hid (HB1.out.trans (hqt.below w.heap.size))
      obtain ⟨b0, b1, b2, b3, b4, b5, b6⟩ := (HX1.out.below (hqt.below _)).cells
      clear hr hqt
      by_cases hlt : k < n.N.length
      · obtain ⟨s, hs⟩ : ∃ s, n.N[k]? = some s := ⟨_, List.getElem?_eq_getElem hlt⟩
        obtain ⟨⟨b, off, hA, hB, c0⟩, hz⟩ := HIr.out k s hs
        rw [hA] at b2
        have i0 : (0 : Int) ≤ (k : Int) := by omega
        have i1 : (k : Int) < (n.N.length : Int) := by omega
        rcases hrt : right s.data.toList with _ | _
        · have HN := Lib.hid (HR.out.no1 hs hrt)
          have HT := Lib.hid hrt
          have HAn := Lib.hid hA
          clear hs hrt hA
          go_wp2_with fail
          go_quiet ((go_at_call 138; exact quiet_eq (right_is s false _ (by omega) HT.out)))
          go_wp2_with fail
          go_ret
          exact ⟨ret_bool (by rw [HE.out, HN.out]), below_drewN HBr.out _⟩
        · have HT := Lib.hid hrt
          rcases Nat.eq_zero_or_pos k with hk0 | hkp
          · have HN := Lib.hid (HR.out.next hs hrt (fun q hq => by rw [hk0] at hq; cases hq))
            have p1 : ¬ (0 : Int) < (k : Int) := by omega
            have p2 : decide (0 < k) = false := by simp; omega
            have p4 : ¬ 0 < k := by omega
            have HAn := Lib.hid hA
            clear hs hrt hA hk0
            go_wp2_with fail
            go_quiet ((go_at_call 138; exact quiet_eq (right_is s true _ (by omega) HT.out)))
            go_wp2_with fail
            go_roundw
            case rel => exact ⟨k + 1, by omega, by go_num, HN.out, HQ.out.drewN _⟩
            case measure => simp [intOf]; omega
          · obtain ⟨j, hj⟩ : ∃ j, k = j + 1 := ⟨k - 1, by omega⟩
            obtain ⟨q, hq⟩ : ∃ q, n.N[j]? = some q := ⟨_, List.getElem?_eq_getElem (by omega)⟩
            obtain ⟨⟨b', off', hA', _, c1⟩, hz'⟩ := HIr.out j q hq
            have hpv : prevOf n.N k = some q := by rw [hj]; exact hq
            rw [hA] at hA'
            injection hA' with e1
            injection e1 with e2 e3
            subst e2 e3
            have p1 : (0 : Int) < (k : Int) := by omega
            have p2 : decide (0 < k) = true := by simp; omega
            have hw1 : IntKind.i64.wrap ((k : Int) - 1) = (j : Int) := by rw [IntWalk.i64_in _ ⟨by omega, by omega⟩]; omega
            have j0 : (0 : Int) ≤ (j : Int) := by omega
            have j1 : (j : Int) < (n.N.length : Int) := by omega
            have jn : ((j : Int)).toNat = j := by omega
            rcases hls : lessB q s with _ | _
            · have HL := Lib.hid hls
              have HN := Lib.hid (HR.out.no2 hs hpv hls)
              have HAn := Lib.hid hA
              clear hs hrt hA hj hq hpv hls
              go_wp2_with fail
              go_quiet (first | (go_at_call 138; exact quiet_eq (right_is s true _ (by omega) HT.out)) | (go_at_call 139; exact quiet_drew (less_is q s false _ hz' HL.out)))
              go_wp2_with fail
              go_ret
              exact ⟨ret_bool (by rw [HE.out, HN.out]), below_drewN HBr.out _⟩
            · have HL := Lib.hid hls
              have HN := Lib.hid (HR.out.next hs hrt (fun q' hq' => by
                rw [hpv] at hq'
                obtain rfl : q = q' := Option.some.inj hq'
                exact hls))
              have HAn := Lib.hid hA
              clear hs hrt hA hj hq hpv hls
              go_wp2_with fail
              go_quiet (first | (go_at_call 138; exact quiet_eq (right_is s true _ (by omega) HT.out)) | (go_at_call 139; exact quiet_drew (less_is q s true _ hz' HL.out)))
              go_wp2_with fail
              go_roundw
              case rel => exact ⟨k + 1, by omega, by go_num, HN.out, HQ.out.drewN _⟩
              case measure => simp [intOf]; omega
      · have HD := Lib.hid (HR.out.done (by omega))
        go_wp2_with fail
        go_ret
        exact ⟨ret_bool (by rw [HE.out, HD.out]), HBr.out⟩
  · have g0 : ((n.N.length : Int) != (n.I.length : Int)) = true := by rw [bne_iff_ne]; omega
    have HE := Lib.hid (show (n.N.length == n.I.length && riseB n.N) = false by rw [show (n.N.length == n.I.length) = false by rw [beq_eq_false_iff_ne]; exact hlen, Bool.false_and])
    clear hlen
    go_enter Tryd.func127, Tryd.ntmps127
    go_wp2_with fail
    rw [← HW1.out]
    obtain ⟨b0, b1, b2, b3, b4, b5, b6⟩ := HX1.out.cells
    go_wp2_with fail
    go_ret
    exact ⟨ret_bool HE.out.symm, HB1.out⟩
end Go.Proofs.YtniklphdnakehaaDoor.tre
