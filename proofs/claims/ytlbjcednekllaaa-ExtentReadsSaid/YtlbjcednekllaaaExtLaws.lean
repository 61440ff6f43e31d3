/- The walks of ExtentRight, ExtentReads and ExtentBack: they return true and leave all that was as it was. Conditions: what a slice that came in is read as. -/
import Derived.Test.YtlbjcednekllaaaExtSpeaks
import Derived.Deep.RegionHeld3
namespace Go.Proofs.Ytlbjcednekllaaa.ext
open Go.RowKit Go.Proofs.Ytlbjcednekllaaa.words

set_option maxHeartbeats 1600000 in
theorem rights_walk (size : Int) (A : Option Addr) (cap : Nat) (L : List Ex) (w : World) (hI : Exts w w.heap.size A L) (hlen : L.length ≤ 140737488355328) (hs1 : -9223372036854775808 ≤ size) (hs2 : size ≤ 9223372036854775807) :
    Calls Try.prog 3 #[.int .i64 size, .slice A L.length cap] w fun e w' => e = .returned (.bool true) ∧ Below w.heap.size w w' := by
  have HI := Lib.hid hI
  obtain ⟨bg, hbg⟩ : ∃ bg, bg = bigB L := ⟨_, rfl⟩
  obtain ⟨rt, hrt⟩ : ∃ rt, rt = rightB size L := ⟨_, rfl⟩
  have HBG := Lib.hid hbg
  have HRT := Lib.hid hrt
  clear hI hbg hrt
  go_enter Try.func3, Try.ntmps3
  go_wp2_with fail
  refine (speaks_any _).mono ?_
  rintro e w1 ⟨rfl, hb1⟩
  have HB1 := Lib.hid hb1
  have HI1 := Lib.hid ((HI.out.keep hb1).more hb1.size)
  clear hb1
  go_wp2_with fail
  refine (big_any A cap L _ HI1.out (by omega)).mono ?_
  rintro e w2 ⟨rfl, hb2⟩
  have HB2 := Lib.hid (HB1.out.trans (hb2.mono HB1.out.size))
  have HI2 := Lib.hid ((HI1.out.keep hb2).more hb2.size)
  clear hb2 HI1 HB1
  rw [← HBG.out]
  cases bg
  · go_wp2_with fail
    refine (right_any size A cap L _ HI2.out (by omega) hs1 hs2).mono ?_
    rintro e w3 ⟨rfl, hb3⟩
    have HB3 := Lib.hid (HB2.out.trans (hb3.mono HB2.out.size))
    have HI3 := Lib.hid ((HI2.out.keep hb3).more hb3.size)
    clear hb3 HI2 HB2
    rw [← HRT.out]
    go_wp2_with fail
    refine (refright_any size A cap L _ HI3.out (by omega) hs1 hs2).mono ?_
    rintro e w4 ⟨rfl, n, hn⟩
    have HB4 : Hid (Below w.heap.size w w4) := by rw [← hn]; exact Lib.hid (below_drewN HB3.out n)
    clear hn HB3 HI3
    rw [← HRT.out]
    cases rt
    all_goals
      go_wp2_with fail
      go_ret
      exact ⟨rfl, HB4.out⟩
  · go_wp2_with fail
    go_ret
    exact ⟨rfl, HB2.out⟩

theorem refread_to (rd : ByteArray) (w1 : World) (size off n : Int) (A : Option Addr) (cap : Nat) (L : List Ex) (w : World) (hI : Exts w1 w1.heap.size A L) (hb : Below w1.heap.size w1 w) (hlen : L.length ≤ 4611686018427387903) (hr : rightB size L = true) (hs : size ≤ 3000)
    (ho1 : -9223372036854775808 ≤ off) (ho2 : off ≤ 9223372036854775807) (hn1 : -9223372036854775808 ≤ n) (hn2 : n ≤ 9223372036854775807) (hrd : rd.data.toList = readB size L off n) :
    Calls Try.prog 11 #[.int .i64 size, .slice A L.length cap, .int .i64 off, .int .i64 n] w fun e w' => e = .returned (.string rd) ∧ Below w1.heap.size w1 w' :=
  (refread_any size off n A cap L w ((hI.keep hb).more hb.size) (by omega) hr hs ho1 ho2 hn1 hn2).mono fun _ _ ⟨⟨r, he, hx⟩, hb'⟩ => ⟨by rw [he, text_is (hx.trans hrd.symm)], hb.trans (hb'.mono hb.size)⟩

set_option maxHeartbeats 3200000 in
theorem reads_walk (size off n : Int) (A : Option Addr) (cap : Nat) (L : List Ex) (w : World) (hI : Exts w w.heap.size A L) (hlen : L.length ≤ 140737488355328) (hcap : L.length ≤ cap) (hs1 : -9223372036854775808 ≤ size) (hs2 : size ≤ 9223372036854775807)
    (ho1 : -9223372036854775808 ≤ off) (ho2 : off ≤ 9223372036854775807) (hn1 : -9223372036854775808 ≤ n) (hn2 : n ≤ 9223372036854775807) :
    Calls Try.prog 4 #[.int .i64 size, .slice A L.length cap, .agg #[.int .i64 off, .int .i64 n]] w fun e w' => e = .returned (.bool true) ∧ Below w.heap.size w w' := by
  have HI := Lib.hid hI
  obtain ⟨bg, hbg⟩ : ∃ bg, bg = bigB L := ⟨_, rfl⟩
  obtain ⟨rt, hrt⟩ : ∃ rt, rt = rightB size L := ⟨_, rfl⟩
  have HBG := Lib.hid hbg
  have HRT := Lib.hid hrt
  clear hI hbg hrt
  obtain ⟨W0, hW0⟩ : ∃ W0, W0 = w.alloc (.cells #[.int .i64 off, .int .i64 n] 27) := ⟨_, rfl⟩
  have b0 : Below w.heap.size w W0 := by rw [hW0]; exact (Below.refl _ _).alloc (Nat.le_refl _) _
  have z0 : w.heap.size < W0.heap.size := by rw [hW0]; simp
  have c0 : W0.cell? ⟨w.heap.size, 0, none⟩ = some (.int .i64 off) := by rw [hW0]; simp
  have c1 : W0.cell? ⟨w.heap.size, 1, none⟩ = some (.int .i64 n) := by rw [hW0]; simp
  have HI0 := Lib.hid ((HI.out.keep b0).more b0.size)
  have HB0 := Lib.hid b0
  have HC := Lib.hid (And.intro c0 c1)
  have HW0 := Lib.hid hW0
  clear hW0 b0 c0 c1 HI
  go_enter Try.func4, Try.ntmps4
  go_wp2_with fail
  rw [← HW0.out]
  refine (speaks_any _).mono ?_
  rintro e w1 ⟨rfl, hb1⟩
  have HB1 := Lib.hid hb1
  clear hb1 HW0
  go_wp2_with fail
  refine (big_any A cap L _ ((HI0.out.keep HB1.out).more HB1.out.size) (by omega)).mono ?_
  rintro e w2 ⟨rfl, hb2⟩
  have HB2 := Lib.hid (HB1.out.trans (hb2.mono HB1.out.size))
  clear hb2 HB1
  rw [← HBG.out]
  cases bg
  · go_wp2_with fail
    refine (refright_any size A cap L _ ((HI0.out.keep HB2.out).more HB2.out.size) (by omega) hs1 hs2).mono ?_
    rintro e w3 ⟨rfl, nq, hn⟩
    have HB3 : Hid (Below W0.heap.size W0 w3) := by rw [← hn]; exact Lib.hid (below_drewN HB2.out nq)
    clear hn HB2
    rw [← HRT.out]
    cases rt
    · go_wp2_with fail
      go_ret
      exact ⟨rfl, HB0.out.trans (HB3.out.mono HB0.out.size)⟩
    · by_cases h3 : 3000 < size
      · have g3 : decide (3000 < size) = true := by simpa using h3
        go_wp2_with fail
        go_ret
        exact ⟨rfl, HB0.out.trans (HB3.out.mono HB0.out.size)⟩
      · have g3 : decide (3000 < size) = false := by simp; omega
        obtain ⟨rd, hrd⟩ : ∃ rd : ByteArray, rd.data.toList = readB size L off n := ⟨⟨(readB size L off n).toArray⟩, rfl⟩
        have HRD := Lib.hid hrd
        have HS : Hid (∀ w' : World, Below W0.heap.size W0 w' → (w'.cell? ⟨w.heap.size, 0, none⟩ = some (.int .i64 off) ∧ w'.cell? ⟨w.heap.size, 1, none⟩ = some (.int .i64 n) ∧ Below W0.heap.size W0 w')) :=
          Lib.hid fun w' hb => ⟨(hb.cell (p := ⟨w.heap.size, 0, none⟩) z0).trans HC.out.1, (hb.cell (p := ⟨w.heap.size, 1, none⟩) z0).trans HC.out.2, hb⟩
        clear hrd
        go_wp2_with fail
        go_region_held3 (fun w' => w'.cell? ⟨w.heap.size, 0, none⟩ = some (.int .i64 off) ∧ w'.cell? ⟨w.heap.size, 1, none⟩ = some (.int .i64 n) ∧ Below W0.heap.size W0 w')
          (first | exact HS.out _ (by assumption) | exact HS.out _ HB3.out.drew)
          (first | (go_at_call 10; refine (read_to rd W0 size off n A cap L _ HI0.out (by first | assumption | exact HB3.out.drew) (by omega) hcap HRT.out.symm ho1 ho2 hn1 hn2 HRD.out).mono ?_; rintro e w' ⟨rfl, hb'⟩) | (go_at_call 11; refine (refread_to rd W0 size off n A cap L _ HI0.out (by first | assumption | exact HB3.out.drew) (by omega) HRT.out.symm (by omega) ho1 ho2 hn1 hn2 HRD.out).mono ?_; rintro e w' ⟨rfl, hb'⟩))
        all_goals
          have HF := Lib.hid hb'
          clear hb'
          go_wp2_with fail
          go_ret
          exact ⟨rfl, HB0.out.trans (HF.out.mono HB0.out.size)⟩
  · go_wp2_with fail
    go_ret
    exact ⟨rfl, HB0.out.trans (HB2.out.mono HB0.out.size)⟩

/-! There and back -/
def Beyond (L : List Ex) (k : Nat) (e : Int) : Prop := ∀ x, L[k]? = some x → e < x.O
theorem gap_at {L : List Ex} (hp : L.Pairwise fun x y => x.O + (x.D.size : Int) < y.O) {k : Nat} {x : Ex} (hx : L[k]? = some x) : Beyond L (k + 1) (x.O + (x.D.size : Int)) := fun y hy => by
  obtain ⟨hi, rfl⟩ := List.getElem?_eq_some_iff.1 hx
  obtain ⟨hj, rfl⟩ := List.getElem?_eq_some_iff.1 hy
  exact List.pairwise_iff_getElem.1 hp k (k + 1) hi hj (by omega)
theorem ofB_bounds (s : ByteArray) (hs : s.size ≤ 1000000) : ∀ x ∈ ofB s, -9223372036854775808 ≤ x.O ∧ x.O ≤ 9223372036854775807 ∧ x.D.size ≤ 140737488355328 := fun x hx => by
  have := (((ofB_inv s).row x hx).1).facts
  omega
theorem text_of_list {s : ByteArray} {l : List UInt8} (h : l = s.data.toList) : (⟨l.toArray⟩ : ByteArray) = s := text_is h

set_option maxHeartbeats 3200000 in
theorem back_walk (s : ByteArray) (w : World) (hs : s.size ≤ 9223372036854775807) :
    Calls Try.prog 5 #[.string s] w fun e w' => e = .returned (.bool true) ∧ Below w.heap.size w w' := by
  by_cases hbig : 1000 < s.size
  · go_enter Try.func5, Try.ntmps5
    go_wp2_with fail
    refine (speaks_any _).mono ?_
    rintro e w1 ⟨rfl, hb1⟩
    have HB1 := Lib.hid hb1
    clear hb1
    go_wp2_with fail
    go_ret
    exact ⟨rfl, HB1.out⟩
  · have hs0 : s.size ≤ 1000 := by omega
    have d1 : decide (1000 < (s.size : Int)) = false := by simp; omega
    clear hbig
    go_enter Try.func5, Try.ntmps5
    go_wp2_with fail
    refine (speaks_any _).mono ?_
    rintro e w1 ⟨rfl, hb1⟩
    have HB1 := Lib.hid hb1
    clear hb1
    go_wp2_with fail
    refine (of_any s _ (by omega)).mono ?_
    rintro e w2 ⟨⟨A, cap, rfl, hown⟩, hb2⟩
    have HI2 := Lib.hid (Exts.of_own rfl hown (ofB_bounds s (by omega)))
    have hcap : (ofB s).length ≤ cap := by
      rcases hown.2 with ⟨hv, h0⟩ | ⟨g, c, cur, hv, _, _, hle, _⟩
      · omega
      · injection hv with _ _ hc
        omega
    have HB2 := Lib.hid (HB1.out.trans (hb2.mono HB1.out.size))
    have hLl := ofB_length s
    have HRT := Lib.hid (ofB_right s (by omega))
    have HRD := Lib.hid (ofB_read s)
    have HV := Lib.hid (ofB_inv s)
    obtain ⟨L, hL⟩ : ∃ L, L = ofB s := ⟨_, rfl⟩
    rw [← hL] at HI2 hcap hLl HRT HRD HV ⊢
    clear hb2 hown hL HB1 d1
    go_wp2_with fail
    go_loopw [4, 17] (fun v c wr => ∃ (k : Nat) (en : Int), k ≤ L.length ∧ c = .int .i64 k ∧ v = .int .i64 en ∧ Beyond L k en ∧ Below w2.heap.size w2 wr)
      (fun _ c _ => L.length - (intOf c).toNat)
    case atStart =>
      refine ⟨0, -1, Nat.zero_le _, rfl, rfl, fun x hx => ?_, Below.refl _ _⟩
      have := ((HV.out.row x (List.mem_of_getElem? hx)).1).facts
      omega
    case round =>
      obtain ⟨k, en, hk, rfl, rfl, hbe, hbel⟩ := hrel
      have HB := Lib.hid hbel
      have HBE := Lib.hid hbe
      clear hbel hbe
      by_cases hlt : k < L.length
      · obtain ⟨x, hx⟩ : ∃ x, L[k]? = some x := ⟨_, List.getElem?_eq_getElem hlt⟩
        obtain ⟨⟨b, off, rfl, hB, c0, c1⟩, o1, o2, hz⟩ := (HI2.out.keep HB.out) k x hx
        have hrow := (HV.out.row x (List.mem_of_getElem? hx)).1
        obtain ⟨f1, f2, f3⟩ := hrow.facts
        have hbe := HBE.out x hx
        have g1 : decide (x.O ≤ en) = false := by simp; omega
        have HG := Lib.hid (gap_at HV.out.gap hx)
        have HN : Hid (∀ i, i < x.D.size → x.D.data.toList.getD i 0 ≠ 0) := Lib.hid fun i hi => hrow.none hi
        have HBX := Lib.hid (HB.out.alloc HB.out.size (.cells #[.int .i64 x.O, .string x.D] 32))
        clear hx hrow
        go_wp2_with fail
        go_loop [28] (fun c => ∃ j : Nat, j ≤ x.D.size ∧ c = .int .i64 j) (fun c => x.D.size - (intOf c).toNat)
        case atStart => exact ⟨0, Nat.zero_le _, rfl⟩
        case round =>
          obtain ⟨j, hj, rfl⟩ := hrel
          by_cases hjl : j < x.D.size
          · have g2 : ((x.D[j].toNat : Int) == 0) = false := by
              rw [beq_eq_false_iff_ne]
              intro e
              have h1 := byte_get x j hjl
              refine HN.out j hjl (UInt8.toNat_inj.1 ?_)
              have : (((x.D.data.toList.getD j 0).toNat : Nat) : Int) = 0 := by rw [← h1]; exact e
              simpa using Int.ofNat_inj.1 this
            go_wp2_with fail
            go_round
            case rel => exact ⟨j + 1, by omega, by go_num⟩
            case measure => simp [intOf]; omega
          · go_wp2_with fail
            go_roundw
            case rel => exact ⟨k + 1, _, by omega, by go_num, rfl, HG.out, HBX.out⟩
            case measure => simp [intOf]; omega
      · have HI3 := Lib.hid ((HI2.out.keep HB.out).more HB.out.size)
        go_wp2_with fail
        refine (refright_any (s.size : Int) A cap L _ HI3.out (by omega) (by omega) (by omega)).mono ?_
        rintro e w3 ⟨rfl, nq, hn⟩
        have HB3 : Hid (Below w2.heap.size w2 w3) := by rw [← hn]; exact Lib.hid (below_drewN HB.out nq)
        clear hn HB HI3
        rw [HRT.out]
        go_wp2_with fail
        refine (read_to s w2 (s.size : Int) 0 (s.size : Int) A cap L _ HI2.out HB3.out (by omega) hcap HRT.out (by omega) (by omega) (by omega) (by omega) HRD.out.symm).mono ?_
        rintro e w4 ⟨rfl, hb4⟩
        have HB4 := Lib.hid (HB2.out.trans (hb4.mono HB2.out.size))
        clear hb4
        go_wp2_with fail
        go_ret
        exact ⟨rfl, HB4.out⟩
end Go.Proofs.Ytlbjcednekllaaa.ext
