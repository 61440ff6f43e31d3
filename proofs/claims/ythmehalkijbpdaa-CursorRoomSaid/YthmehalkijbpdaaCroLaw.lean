/- CursorRoom: true. No condition. -/
import Derived.Test.YthmehalkijbpdaaCurSt
import Derived.Test.YthmehalkijbpdaaPlnArgs
namespace Go.Proofs.Ythmehalkijbpdaa.cro
set_option maxRecDepth 100000
open Go.RowKit Go.Proofs.Ythmehalkijbpdaa.words Go.Proofs.Ythmehalkijbpdaa.lru Go.Proofs.Ythmehalkijbpdaa.mpi Go.Proofs.Ythmehalkijbpdaa.gat Go.Proofs.Ythmehalkijbpdaa.cur

/-- A table whose numbers are those from a on, so many. -/
def KS (w : World) (t m : Nat) (wr : World) (r n a : Int) (k : Nat) : Prop := ∃ L, CSt w t m wr r n L ∧ keysC L = up a k
theorem ks_len {a : Int} {k : Nat} {L : Cs} (h : keysC L = up a k) : L.length = k := by rw [← keys_len, h, up_len]
theorem KS.opens {w wr : World} {t m : Nat} {r n a n' : Int} {k : Nat} (h : KS w t m wr r n a k) (ep : Int) (hr : (k : Int) < r) (hr2 : r ≤ 1024) (hn0 : 0 ≤ n) (hn : n ≤ 1000000) (hk : a + (k : Int) = n + 1) (hn' : n + 1 = n') :
    Calls Try.prog 22 #[.pointer (some ⟨t, 0, none⟩), .int .i64 ep, .string ⟨#[47]⟩] wr fun e w' => e = .returned (.tuple #[.int .i64 n', .int .i64 0]) ∧ KS w t m w' r n' a (k + 1) := by
  obtain ⟨L, h1, h2⟩ := h
  have hl := ks_len h2
  refine (h1.open_yes ep ⟨#[47]⟩ (by omega) (by omega) hn0 hn (keys_no (by rw [h2, up_mem]; omega)) hn').mono fun _ _ ⟨he, h3⟩ => ⟨he, _, h3, ?_⟩
  rw [keys_snoc, h2, up_snoc, hk, hn']
theorem KS.full {w wr : World} {t m : Nat} {r n a : Int} {k : Nat} (h : KS w t m wr r n a k) (ep : Int) (hr : r ≤ (k : Int)) :
    Calls Try.prog 22 #[.pointer (some ⟨t, 0, none⟩), .int .i64 ep, .string ⟨#[47]⟩] wr fun e w' => e = .returned (.tuple #[.int .i64 0, .int .i64 7]) ∧ KS w t m w' r n a k := by
  obtain ⟨L, h1, h2⟩ := h
  have hl := ks_len h2
  exact (h1.open_full ep ⟨#[47]⟩ (by omega)).mono fun _ _ ⟨he, h3⟩ => ⟨he, L, h3, h2⟩
theorem KS.shuts {w wr : World} {t m : Nat} {r n a : Int} {k : Nat} (h : KS w t m wr r n a (k + 1)) (hf : Fits a) :
    Calls Try.prog 24 #[.pointer (some ⟨t, 0, none⟩), .int .i64 a] wr fun e w' => e = .returned (.int .i64 0) ∧ KS w t m w' r n (a + 1) k := by
  obtain ⟨L, h1, h2⟩ := h
  obtain ⟨c, hc⟩ := keys_yes (L := L) (x := a) (by rw [h2, up_mem]; omega)
  refine (h1.close_yes hf hc).mono fun _ _ ⟨he, h3⟩ => ⟨he, _, h3, ?_⟩
  rw [keys_del, h2, up_less]

set_option maxHeartbeats 12800000 in
theorem law_room (room : Int) (c : Nat) (w0 : World) (_hr : pln.big room) (hc : c ≤ 255) :
    Calls Try.prog 6 #[.int .i64 room, .int .u8 (c : Int)] w0 fun e w' => e = .returned (.bool true) ∧ Below w0.heap.size w0 w' := by
  have HC0 := Lib.hid (cspeaks_any w0)
  obtain ⟨n, hn⟩ : ∃ n : Nat, (n : Int) = min (max room 1) 1024 := ⟨(min (max room 1) 1024).toNat, by omega⟩
  have n1 : 1 ≤ n := by omega
  have n2 : n ≤ 1024 := by omega
  obtain ⟨k, hk⟩ : ∃ k : Nat, k = min c n := ⟨_, rfl⟩
  have kn : k ≤ n := by omega
  have HNW := Lib.hid (fun w => new_cst room (n : Int) w hn)
  have HMM := Lib.hid (show ∃ mm : Int, max room 1 = mm ∧ min mm 1024 = (n : Int) from ⟨_, rfl, hn.symm⟩)
  have hc1 : IntKind.i64.wrap (c : Int) = (c : Int) := IntWalk.i64_in _ (by omega)
  have hcm : min (c : Int) (n : Int) = (k : Int) := by omega
  clear hn hk _hr
  go_enter Try.func6, Try.ntmps6
  go_wp2_with fail
  refine HC0.out.mono ?_
  rintro e w ⟨rfl, hb1⟩
  have HB1 := Lib.hid hb1
  clear hb1 HC0
  go_wp2_with fail
  refine (HNW.out w).mono ?_
  rintro e w1 ⟨t, m, rfl, h1⟩
  have HI : Hid (KS w t m w1 (n : Int) 0 1 0) := Lib.hid ⟨[], h1, rfl⟩
  obtain ⟨mm, hm1, hm2⟩ := HMM.out
  clear h1 HNW
  go_upto_region 5 with fail
  clear hm1 hm2
  go_wp2_with fail
  go_loopw [27] (fun v wr => ∃ i : Nat, v = .int .i64 (i : Int) ∧ i ≤ n ∧ Hid (KS w t m wr (n : Int) (i : Int) 1 i)) (fun v _ => n - (intOf v).toNat)
  case atStart => exact ⟨0, rfl, Nat.zero_le _, HI⟩
  case round =>
    clear HI
    obtain ⟨i, rfl, hi, HS⟩ := hrel
    by_cases hin : i < n
    · have i1 : (i : Int) < (n : Int) := by omega
      have hwr : IntKind.i64.wrap ((i : Int) + 1) = (i : Int) + 1 := IntWalk.i64_in _ (by omega)
      have HP := Lib.hid (HS.out.opens (n' := (i : Int) + 1) (i : Int) (by omega) (by omega) (by omega) (by omega) (by omega) rfl)
      clear HS
      go_wp2_with fail
      refine HP.out.mono ?_
      rintro e w2 ⟨rfl, h2⟩
      have HS2 : Hid (KS w t m w2 (n : Int) ((i + 1 : Nat) : Int) 1 (i + 1)) := Lib.hid (by
        have e : (((i + 1 : Nat)) : Int) = (i : Int) + 1 := by push_cast; rfl
        rw [e]
        exact h2)
      clear h2 HP
      go_wp2_with fail
      go_roundw
      case rel => exact ⟨i + 1, by go_num, by omega, HS2⟩
      case measure => simp [intOf]; omega
    · obtain rfl : n = i := by omega
      have i1 : ¬ (n : Int) < (n : Int) := by omega
      have HP := Lib.hid (HS.out.full 0 (Int.le_refl _))
      clear HS hin
      go_wp2_with fail
      refine HP.out.mono ?_
      rintro e w2 ⟨rfl, h2⟩
      have HS2 : Hid (KS w t m w2 (n : Int) (n : Int) (1 + ((0 : Nat) : Int)) (n - 0)) := Lib.hid h2
      clear h2 HP
      go_wp2_with fail
      clear hc1 hcm
      go_loopw [57] (fun v wr => ∃ i : Nat, v = .int .i64 (i : Int) ∧ i ≤ k ∧ Hid (KS w t m wr (n : Int) (n : Int) (1 + (i : Int)) (n - i))) (fun v _ => k - (intOf v).toNat)
      case atStart => exact ⟨0, rfl, Nat.zero_le _, HS2⟩
      case round =>
        clear HS2
        obtain ⟨i, rfl, hi, HS⟩ := hrel
        by_cases hik : i < k
        · have j1 : (i : Int) < (k : Int) := by omega
          have hwr : IntKind.i64.wrap ((i : Int) + 1) = 1 + (i : Int) := by rw [IntWalk.i64_in _ (by omega)]; omega
          have hs := HS.out
          rw [show n - i = (n - (i + 1)) + 1 by omega] at hs
          have HP := Lib.hid (hs.shuts (fit_small (by omega) (by omega)))
          clear HS hs
          go_wp2_with fail
          refine HP.out.mono ?_
          rintro e w2 ⟨rfl, h2⟩
          have HS2 : Hid (KS w t m w2 (n : Int) (n : Int) (1 + ((i + 1 : Nat) : Int)) (n - (i + 1))) := Lib.hid (by
            have e : 1 + (((i + 1 : Nat)) : Int) = 1 + (i : Int) + 1 := by push_cast; omega
            rw [e]
            exact h2)
          clear h2 HP
          go_wp2_with fail
          go_roundw
          case rel => exact ⟨i + 1, by go_num, by omega, HS2⟩
          case measure => simp [intOf]; omega
        · obtain rfl : k = i := by omega
          have j1 : ¬ (k : Int) < (k : Int) := by omega
          have HS2 : Hid (KS w t m _ (n : Int) ((n : Int) + ((0 : Nat) : Int)) (1 + (k : Int)) (n - k + 0)) := Lib.hid (by
            have h := HS.out
            rw [show (n : Int) + ((0 : Nat) : Int) = (n : Int) by omega]
            exact h)
          clear HS hik
          go_wp2_with fail
          go_loopw [67] (fun v wr => ∃ i : Nat, v = .int .i64 (i : Int) ∧ i ≤ k ∧ Hid (KS w t m wr (n : Int) ((n : Int) + (i : Int)) (1 + (k : Int)) (n - k + i))) (fun v _ => k - (intOf v).toNat)
          case atStart => exact ⟨0, rfl, Nat.zero_le _, HS2⟩
          case round =>
            clear HS2
            obtain ⟨i, rfl, hi, HS⟩ := hrel
            by_cases hik : i < k
            · have j1 : (i : Int) < (k : Int) := by omega
              obtain ⟨s1, hs1⟩ : ∃ s1 : Int, s1 = (n : Int) + (i : Int) := ⟨_, rfl⟩
              have hwr : IntKind.i64.wrap ((n : Int) + (i : Int)) = s1 := by rw [hs1]; exact IntWalk.i64_in _ (by omega)
              have hwr2 : IntKind.i64.wrap (s1 + 1) = s1 + 1 := IntWalk.i64_in _ (by omega)
              have hs := HS.out
              rw [← hs1] at hs
              have HP := Lib.hid (hs.opens (n' := s1 + 1) 0 (by omega) (by omega) (by omega) (by omega) (by omega) rfl)
              have HS1 := Lib.hid hs1
              clear HS hs hs1
              go_wp2_with fail
              refine HP.out.mono ?_
              rintro e w2 ⟨rfl, h2⟩
              have HS2 : Hid (KS w t m w2 (n : Int) ((n : Int) + ((i + 1 : Nat) : Int)) (1 + (k : Int)) (n - k + (i + 1))) := Lib.hid (by
                have e : (n : Int) + (((i + 1 : Nat)) : Int) = s1 + 1 := by rw [HS1.out]; push_cast; omega
                rw [e]
                exact h2)
              clear h2 HP
              go_wp2_with fail
              go_roundw
              case rel => exact ⟨i + 1, by go_num, by omega, HS2⟩
              case measure => simp [intOf]; omega
            · obtain rfl : k = i := by omega
              have j1 : ¬ (k : Int) < (k : Int) := by omega
              have hs := HS.out
              rw [show n - k + k = n by omega] at hs
              have HP := Lib.hid (hs.full 0 (Int.le_refl _))
              clear HS hs hik
              go_wp2_with fail
              refine HP.out.mono ?_
              rintro e w2 ⟨rfl, L, h2, h3⟩
              have HLN := Lib.hid (h2.len (k := (n : Int)) (by rw [← keys_len, h3, up_len]))
              have HBE := Lib.hid (HB1.out.trans (h2.2.mono HB1.out.size))
              clear h2 h3 HP
              go_wp2_with fail
              refine HLN.out.mono ?_
              rintro e wx ⟨rfl, e1⟩
              subst e1
              go_wp2
              go_ret
              exact ⟨rfl, HBE.out⟩
end Go.Proofs.Ythmehalkijbpdaa.cro
