/- GateTurns: true. No condition. -/
import Derived.Test.YthmehalkijbpdaaGatSt
import Derived.Test.YthmehalkijbpdaaPlnArgs
namespace Go.Proofs.Ythmehalkijbpdaa.gtu
set_option maxRecDepth 100000
open Go.RowKit Go.Proofs.Ythmehalkijbpdaa.words Go.Proofs.Ythmehalkijbpdaa.lru Go.Proofs.Ythmehalkijbpdaa.mpi Go.Proofs.Ythmehalkijbpdaa.gat

/-- Behind i of those who want to write. -/
def PB (w : World) (g n i : Nat) (wr : World) : Prop := (n = 0 ∧ 0 < i ∧ St w g wr [] (some 100) (up 101 (i - 1)) 1) ∨ ((n ≠ 0 ∨ i = 0) ∧ St w g wr (up 0 n) none (up 100 i) 0)
/-- Behind j of those who read. -/
def PC (w : World) (g n k j : Nat) (wr : World) : Prop := (n = 0 ∧ j = 0 ∧ PB w g 0 k wr) ∨ (n ≠ 0 ∧ St w g wr (up (j : Int) (n - j)) none (up 100 k) 0)
/-- Behind i of those who wrote. -/
def PD (w : World) (g n k i : Nat) (wr : World) : Prop := (n = 0 ∧ i = 0 ∧ 0 < k ∧ St w g wr [] (some 100) (up 101 (k - 1)) 1) ∨ ((n ≠ 0 ∨ 0 < i ∨ k = 0) ∧ St w g wr [] none (up (100 + (i : Int)) (k - i)) (i : Int))
theorem PC.done {w wr : World} {g n k : Nat} (h : PC w g n k n wr) : PD w g n k 0 wr := by
  rcases h with ⟨rfl, _, h⟩ | ⟨hn, h⟩
  · rcases h with ⟨_, h1, h2⟩ | ⟨h1, h2⟩
    · exact .inl ⟨rfl, rfl, h1, h2⟩
    · rcases h1 with h1 | h1
      · exact absurd rfl h1
      · subst h1
        exact .inr ⟨.inr (.inr rfl), h2⟩
  · rw [Nat.sub_self] at h
    exact .inr ⟨.inl hn, h⟩
theorem PC.reads {w wr : World} {g n k j : Nat} (h : PC w g n k j wr) (hj : j < n) : St w g wr (up (j : Int) (n - j)) none (up 100 k) 0 := by
  rcases h with ⟨h, _⟩ | ⟨_, h⟩
  · omega
  · exact h
theorem PD.ends {w wr : World} {g n k : Nat} (h : PD w g n k k wr) : St w g wr [] none [] (k : Int) := by
  rcases h with ⟨_, h1, h2, _⟩ | ⟨_, h⟩
  · omega
  · rw [Nat.sub_self] at h
    exact h
theorem PD.below {w wr : World} {g n k i : Nat} (h : PD w g n k i wr) : Below w.heap.size w wr := by
  rcases h with ⟨_, _, _, v1, v2, _, h⟩ | ⟨_, v1, v2, _, h⟩
  · exact h
  · exact h

set_option maxHeartbeats 12800000 in
theorem law_turns (a c : Nat) (w0 : World) (ha : a ≤ 255) (hc : c ≤ 255) :
    Calls Try.prog 4 #[.int .u8 (a : Int), .int .u8 (c : Int)] w0 fun e w' => e = .returned (.bool true) ∧ Below w0.heap.size w0 w' := by
  have HC0 := Lib.hid (speaks_any w0)
  obtain ⟨n, hn⟩ : ∃ n, n = a % 20 := ⟨_, rfl⟩
  obtain ⟨k, hk⟩ : ∃ k, k = c % 20 := ⟨_, rfl⟩
  have n20 : n < 20 := by omega
  have k20 : k < 20 := by omega
  have n1 : IntKind.i64.wrap (a : Int) = (a : Int) := IntWalk.i64_in _ (by omega)
  have n2 : IntKind.i64.wrap (c : Int) = (c : Int) := IntWalk.i64_in _ (by omega)
  have n3 : (a : Int).tmod 20 = (n : Int) := by rw [Int.tmod_eq_emod_of_nonneg (by omega)]; omega
  have n4 : (c : Int).tmod 20 = (k : Int) := by rw [Int.tmod_eq_emod_of_nonneg (by omega)]; omega
  have n5 : (a : Int) % 20 = (n : Int) := by omega
  have n6 : (c : Int) % 20 = (k : Int) := by omega
  clear hn hk
  go_enter Try.func4, Try.ntmps4
  go_wp2_with fail
  refine HC0.out.mono ?_
  rintro e w ⟨rfl, hb1⟩
  have HB1 := Lib.hid hb1
  clear hb1 HC0
  obtain ⟨W1, hW1⟩ : ∃ W1, W1 = w.alloc (.cells #[.map none, .int .i64 0, .bool false, .map none, .int .i64 0] 27) := ⟨_, rfl⟩
  obtain ⟨g, hg⟩ : ∃ g, g = w.heap.size := ⟨_, rfl⟩
  have hI : St w g W1 [] none [] 0 := ⟨_, _, by rw [hW1, hg]; exact Gt.new w w.heap.size (Nat.le_refl _), by rw [hW1]; exact (Below.refl _ _).alloc (Nat.le_refl _) _⟩
  have HI := Lib.hid hI
  have HW1 := Lib.hid hW1
  have HG := Lib.hid hg.symm
  clear hI hW1 hg
  go_upto_region 4 with fail
  rw [← HW1.out, HG.out]
  clear HW1
  go_upto_region 5 with fail
  clear n1 n2 n3 n4 n5 n6
  go_wp2_with fail
  go_loopw [22] (fun v wr => ∃ i : Nat, v = .int .i64 (i : Int) ∧ i ≤ n ∧ Hid (St w g wr (up 0 i) none [] 0)) (fun v _ => n - (intOf v).toNat)
  case atStart => exact ⟨0, rfl, Nat.zero_le _, HI⟩
  case round =>
    clear HI
    obtain ⟨i, rfl, hi, HS⟩ := hrel
    by_cases hin : i < n
    · have i1 : (i : Int) < (n : Int) := by omega
      have HP := Lib.hid (HS.out.read_yes (fit_small (x := (i : Int)) (by omega) (by omega)) (up_no (by omega)) (by rw [up_len]; omega))
      go_wp2_with fail
      refine HP.out.mono ?_
      rintro e w2 ⟨rfl, h2⟩
      have HS2 : Hid (St w g w2 (up 0 (i + 1)) none [] 0) := Lib.hid (by
        have e := up_snoc i 0
        rw [Int.zero_add] at e
        rw [e]
        exact h2)
      clear h2 HP
      go_wp2_with fail
      go_roundw
      case rel => exact ⟨i + 1, by go_num, by omega, HS2⟩
      case measure => simp [intOf]; omega
    · obtain rfl : n = i := by omega
      have i1 : ¬ (n : Int) < (n : Int) := by omega
      rename World => wA
      have HPB : Hid (PB w g n 0 wA) := Lib.hid (.inr ⟨.inr rfl, HS.out⟩)
      clear HS hin
      go_wp2_with fail
      go_loopw [30] (fun v wr => ∃ j : Nat, v = .int .i64 (j : Int) ∧ j ≤ k ∧ Hid (PB w g n j wr)) (fun v _ => k - (intOf v).toNat)
      case atStart => exact ⟨0, rfl, Nat.zero_le _, HPB⟩
      case round =>
        clear HPB
        obtain ⟨j, rfl, hj, HS⟩ := hrel
        by_cases hjk : j < k
        · have j1 : (j : Int) < (k : Int) := by omega
          obtain ⟨x, hx⟩ : ∃ x : Int, x = 100 + (j : Int) := ⟨_, rfl⟩
          have hwr : IntKind.i64.wrap (100 + (j : Int)) = x := by rw [hx]; exact IntWalk.i64_in _ (by omega)
          have hfx : Fits x := fit_small (by omega) (by omega)
          have HX := Lib.hid hx
          rcases HS.out with ⟨hn0, hj0, h⟩ | ⟨hor, h⟩
          · have b1 : ((n : Int) == 0) = true := by rw [hn0]; rfl
            have b2 : ((j : Int) == 0) = false := by simp; omega
            have HN0 := Lib.hid hn0
            have HP := Lib.hid (h.write_wait (W' := up 101 j) hfx (by unfold inB; simp; omega) (by
              rw [addW_no (up_no (by omega))]
              have e := up_snoc (j - 1) 101
              rw [Nat.sub_add_cancel hj0] at e
              rw [e]
              congr 2
              omega) (.inr (.inl rfl)) (by decide) (by rw [up_len]; omega))
            clear h hfx hx HS hn0
            go_wp2_with fail
            refine HP.out.mono ?_
            rintro e w2 ⟨rfl, h2⟩
            have HS2 : Hid (PB w g n (j + 1) w2) := Lib.hid (.inl ⟨HN0.out, by omega, h2⟩)
            clear h2 HP
            go_wp2_with fail
            go_roundw
            case rel => exact ⟨j + 1, by go_num, by omega, HS2⟩
            case measure => simp [intOf]; omega
          · by_cases hn0 : n = 0
            · have hj0 : j = 0 := by
                rcases hor with h | h
                · exact absurd hn0 h
                · exact h
              have ex : x = 100 := by rw [hx, hj0]; rfl
              have b1 : ((n : Int) == 0) = true := by rw [hn0]; rfl
              have b2 : ((j : Int) == 0) = true := by rw [hj0]; rfl
              have h' := h
              rw [hn0, hj0] at h'
              have HP := Lib.hid (h'.write_go (x := x) (Wn := []) hfx rfl (by decide) (by decide))
              have HJ0 := Lib.hid hj0
              have HN0 := Lib.hid hn0
              have HEX := Lib.hid ex
              clear h h' hfx hx HS hor hn0 hj0 ex
              go_wp2_with fail
              refine HP.out.mono ?_
              rintro e w2 ⟨rfl, h2⟩
              have HS2 : Hid (PB w g n (j + 1) w2) := Lib.hid (.inl ⟨HN0.out, by omega, by rw [HJ0.out]; rw [HEX.out] at h2; exact h2⟩)
              clear h2 HP
              go_wp2_with fail
              go_roundw
              case rel => exact ⟨j + 1, by go_num, by omega, HS2⟩
              case measure => simp [intOf]; omega
            · have b2 : ((n : Int) == 0) = false := by simp; omega
              have HP := Lib.hid (h.write_wait (W' := up 100 (j + 1)) hfx (by unfold inB; rw [up_no (by omega)]; rfl) (by
                rw [addW_no (up_no (by omega)), up_snoc, hx]) (.inr (.inr (up_ne (by omega)))) (by decide) (by rw [up_len]; omega))
              clear h hfx hx HS hor
              go_wp2_with fail
              refine HP.out.mono ?_
              rintro e w2 ⟨rfl, h2⟩
              have HS2 : Hid (PB w g n (j + 1) w2) := Lib.hid (.inr ⟨.inl hn0, h2⟩)
              clear h2 HP
              go_wp2_with fail
              go_roundw
              case rel => exact ⟨j + 1, by go_num, by omega, HS2⟩
              case measure => simp [intOf]; omega
        · obtain rfl : k = j := by omega
          have j1 : ¬ (k : Int) < (k : Int) := by omega
          rename World => wB
          have HPC : Hid (PC w g n k 0 wB) := Lib.hid (by
            by_cases hn0 : n = 0
            · subst hn0
              exact .inl ⟨rfl, rfl, HS.out⟩
            · rcases HS.out with ⟨h, _⟩ | ⟨_, h⟩
              · exact absurd h hn0
              · exact .inr ⟨hn0, h⟩)
          clear HS hjk
          go_wp2_with fail
          go_loopw [45] (fun v wr => ∃ j : Nat, v = .int .i64 (j : Int) ∧ j ≤ n ∧ Hid (PC w g n k j wr)) (fun v _ => n - (intOf v).toNat)
          case atStart => exact ⟨0, rfl, Nat.zero_le _, HPC⟩
          case round =>
            clear HPC
            obtain ⟨j, rfl, hj, HS⟩ := hrel
            by_cases hjn : j < n
            · have j1 : (j : Int) < (n : Int) := by omega
              have h := HS.out.reads hjn
              have hles : less (up (j : Int) (n - j)) (j : Int) = up ((j : Int) + 1) (n - j - 1) := by
                obtain ⟨m, hm⟩ : ∃ m, n - j = m + 1 := ⟨n - j - 1, by omega⟩
                rw [hm]
                exact up_less _ _
              by_cases hk0 : 0 < k
              · have k1 : (0 : Int) < (k : Int) := by omega
                have HP := Lib.hid (h.write_wait (x := 100) (W' := up 100 k) (fit_small (by decide) (by decide)) (by unfold inB; rw [up_no (by omega)]; rfl) (addW_yes (up_yes (by omega))) (.inr (.inr (up_ne (by omega)))) (by decide) (by rw [up_len]; omega))
                clear h HS
                go_wp2_with fail
                refine HP.out.mono ?_
                rintro e w2 ⟨rfl, h2⟩
                have HP2 := Lib.hid (h2.leave_yes (x := (j : Int)) (R' := up ((j : Int) + 1) (n - j - 1)) (fit_small (by omega) (by omega)) (by unfold inB; rw [up_yes (by omega)]; rfl) hles)
                clear h2 HP
                go_wp2_with fail
                refine HP2.out.mono ?_
                rintro e w3 ⟨rfl, h3⟩
                have HS3 : Hid (PC w g n k (j + 1) w3) := Lib.hid (.inr ⟨by omega, by
                  have e1 : (((j + 1 : Nat)) : Int) = (j : Int) + 1 := by push_cast; rfl
                  have e2 : n - (j + 1) = n - j - 1 := by omega
                  rw [e1, e2]
                  exact h3⟩)
                clear h3 HP2 hles
                go_wp2_with fail
                go_roundw
                case rel => exact ⟨j + 1, by go_num, by omega, HS3⟩
                case measure => simp [intOf]; omega
              · have kd1 : decide ((0 : Int) < (k : Int)) = false := by simp; omega
                have kd2 : decide (0 < k) = false := by simp; omega
                clear hk0
                have HP2 := Lib.hid (h.leave_yes (x := (j : Int)) (R' := up ((j : Int) + 1) (n - j - 1)) (fit_small (by omega) (by omega)) (by unfold inB; rw [up_yes (by omega)]; rfl) hles)
                clear h HS
                go_wp2_with fail
                refine HP2.out.mono ?_
                rintro e w3 ⟨rfl, h3⟩
                have HS3 : Hid (PC w g n k (j + 1) w3) := Lib.hid (.inr ⟨by omega, by
                  have e1 : (((j + 1 : Nat)) : Int) = (j : Int) + 1 := by push_cast; rfl
                  have e2 : n - (j + 1) = n - j - 1 := by omega
                  rw [e1, e2]
                  exact h3⟩)
                clear h3 HP2 hles
                go_wp2_with fail
                go_roundw
                case rel => exact ⟨j + 1, by go_num, by omega, HS3⟩
                case measure => simp [intOf]; omega
            · obtain rfl : n = j := by omega
              have j1 : ¬ (n : Int) < (n : Int) := by omega
              rename World => wC
              have HPD : Hid (PD w g n k 0 wC) := Lib.hid HS.out.done
              clear HS hjn
              go_wp2_with fail
              go_loopw [60] (fun v wr => ∃ i : Nat, v = .int .i64 (i : Int) ∧ i ≤ k ∧ Hid (PD w g n k i wr)) (fun v _ => k - (intOf v).toNat)
              case atStart => exact ⟨0, rfl, Nat.zero_le _, HPD⟩
              case round =>
                clear HPD
                obtain ⟨i, rfl, hi, HS⟩ := hrel
                by_cases hik : i < k
                · have i1 : (i : Int) < (k : Int) := by omega
                  rename World => wD
                  go_wp2_with fail
                  go_loopw [12] (fun v wr => ∃ j : Nat, v = .int .i64 (j : Int) ∧ i + 1 ≤ j ∧ Hid (PD w g n k i wr)) (fun v _ => k - (intOf v).toNat)
                  case atStart => exact ⟨i + 1, by go_num, Nat.le_refl _, HS⟩
                  case round =>
                    clear HS
                    obtain ⟨j, rfl, hj, HS⟩ := hrel
                    by_cases hjk : j < k
                    · have j1 : (j : Int) < (k : Int) := by omega
                      obtain ⟨x, hx⟩ : ∃ x : Int, x = 100 + (j : Int) := ⟨_, rfl⟩
                      have hwr : IntKind.i64.wrap (100 + (j : Int)) = x := by rw [hx]; exact IntWalk.i64_in _ (by omega)
                      have hfx : Fits x := fit_small (by omega) (by omega)
                      rcases HS.out with ⟨hn0, hi0, hk0, h⟩ | ⟨hor, h⟩
                      · have HP := Lib.hid (h.write_wait (W' := up 101 (k - 1)) hfx (by unfold inB; simp; omega) (addW_yes (up_yes (by omega))) (.inr (.inl rfl)) (by decide) (by rw [up_len]; omega))
                        have HN0 := Lib.hid hn0
                        have HI0 := Lib.hid hi0
                        clear h hfx hx HS hn0 hi0
                        go_wp2_with fail
                        refine HP.out.mono ?_
                        rintro e w2 ⟨rfl, h2⟩
                        have HS2 : Hid (PD w g n k i w2) := Lib.hid (.inl ⟨HN0.out, HI0.out, hk0, h2⟩)
                        clear h2 HP
                        go_wp2_with fail
                        go_roundw
                        case rel => exact ⟨j + 1, by go_num, by omega, HS2⟩
                        case measure => simp [intOf]; omega
                      · have hhd : (up (100 + (i : Int)) (k - i)).head? ≠ some x := by
                          obtain ⟨m, hm⟩ : ∃ m, k - i = m + 1 := ⟨k - i - 1, by omega⟩
                          rw [hm]
                          unfold up
                          rw [List.head?_cons]
                          intro h
                          injection h with h
                          omega
                        have HP := Lib.hid (h.write_wait (W' := up (100 + (i : Int)) (k - i)) hfx rfl (addW_yes (up_yes (by omega))) (.inl hhd) (by omega) (by rw [up_len]; omega))
                        clear h hfx hx HS hhd
                        go_wp2_with fail
                        refine HP.out.mono ?_
                        rintro e w2 ⟨rfl, h2⟩
                        have HS2 : Hid (PD w g n k i w2) := Lib.hid (.inr ⟨hor, h2⟩)
                        clear h2 HP
                        go_wp2_with fail
                        go_roundw
                        case rel => exact ⟨j + 1, by go_num, by omega, HS2⟩
                        case measure => simp [intOf]; omega
                    · have j1 : ¬ (j : Int) < (k : Int) := by omega
                      obtain ⟨x, hx⟩ : ∃ x : Int, x = 100 + (i : Int) := ⟨_, rfl⟩
                      have hwr : IntKind.i64.wrap (100 + (i : Int)) = x := by rw [hx]; exact IntWalk.i64_in _ (by omega)
                      have hfx : Fits x := fit_small (by omega) (by omega)
                      have HFX := Lib.hid hfx
                      have hf5 : Fits 5 := fit_small (by decide) (by decide)
                      rcases HS.out with ⟨hn0, hi0, hk0, h⟩ | ⟨hor, h⟩
                      · have ex : x = 100 := by rw [hx, hi0]; rfl
                        have ein : inB [] (some 100) x = true := by rw [ex]; rfl
                        have HP1 := Lib.hid (h.in_ hfx)
                        have HP2 := Lib.hid (h.read_no hf5 (.inr (.inl rfl)))
                        have HP3 := Lib.hid (h.leave_yes (R' := []) hfx ein rfl)
                        rw [ein] at HP1
                        have HI0 := Lib.hid hi0
                        clear h hfx hx HS hf5 hjk ex ein hn0 hi0
                        go_wp2_with fail
                        refine HP1.out.mono ?_
                        rintro e wx ⟨rfl, e1⟩
                        subst e1
                        go_wp2_with fail
                        refine HP2.out.mono ?_
                        rintro e wx ⟨rfl, e1⟩
                        subst e1
                        go_wp2_with fail
                        refine HP3.out.mono ?_
                        rintro e w3 ⟨rfl, h3⟩
                        have HS3 : Hid (PD w g n k (i + 1) w3) := Lib.hid (.inr ⟨.inr (.inl (by omega)), by rw [HI0.out]; exact h3⟩)
                        clear h3 HP1 HP2 HP3
                        go_wp2_with fail
                        go_roundw
                        case rel => exact ⟨i + 1, by go_num, by omega, HS3⟩
                        case measure => simp [intOf]; omega
                      · have hadd : addW (up (100 + (i : Int)) (k - i)) x = x :: up (100 + ((i + 1 : Nat) : Int)) (k - (i + 1)) := by
                          rw [addW_yes (up_yes (by omega))]
                          obtain ⟨m, hm⟩ : ∃ m, k - i = m + 1 := ⟨k - i - 1, by omega⟩
                          have e2 : k - (i + 1) = m := by omega
                          rw [hm, e2, hx]
                          show (100 + (i : Int)) :: up (100 + (i : Int) + 1) m = _
                          congr 2
                        have HP1 := Lib.hid (h.in_ hfx)
                        rw [show inB [] none x = false from rfl] at HP1
                        have HP2 := Lib.hid (h.write_go hfx hadd (by omega) (by rw [up_len]; omega))
                        clear h hfx hx HS hjk hadd hor
                        go_wp2_with fail
                        refine HP1.out.mono ?_
                        rintro e wx ⟨rfl, e1⟩
                        subst e1
                        go_wp2_with fail
                        refine HP2.out.mono ?_
                        rintro e w2 ⟨rfl, h2⟩
                        have HP3 := Lib.hid (h2.read_no hf5 (.inr (.inl rfl)))
                        have HP4 := Lib.hid (h2.leave_yes (x := x) (R' := []) HFX.out (by unfold inB; simp) rfl)
                        clear h2 HP1 HP2
                        go_wp2_with fail
                        refine HP3.out.mono ?_
                        rintro e wx ⟨rfl, e1⟩
                        subst e1
                        go_wp2_with fail
                        refine HP4.out.mono ?_
                        rintro e w3 ⟨rfl, h3⟩
                        have HS3 : Hid (PD w g n k (i + 1) w3) := Lib.hid (.inr ⟨.inr (.inl (by omega)), by
                          have e1 : (((i + 1 : Nat)) : Int) = (i : Int) + 1 := by push_cast; rfl
                          rw [e1] at h3 ⊢
                          exact h3⟩)
                        clear h3 HP3 HP4
                        go_wp2_with fail
                        go_roundw
                        case rel => exact ⟨i + 1, by go_num, by omega, HS3⟩
                        case measure => simp [intOf]; omega
                · obtain rfl : k = i := by omega
                  have i1 : ¬ (k : Int) < (k : Int) := by omega
                  have h := HS.out.ends
                  have HP1 := Lib.hid (h.read_yes (x := 5) (fit_small (by decide) (by decide)) rfl (by decide))
                  clear h HS
                  go_wp2_with fail
                  refine HP1.out.mono ?_
                  rintro e w2 ⟨rfl, h2⟩
                  have HP2 : Hid (Calls Try.prog 15 #[.pointer (some ⟨g, 0, none⟩)] w2 fun e w' => e = .returned (.int .i64 1) ∧ w2 = w') := Lib.hid h2.readers
                  have HP3 : Hid (Calls Try.prog 17 #[.pointer (some ⟨g, 0, none⟩)] w2 fun e w' => e = .returned (.int .i64 0) ∧ w2 = w') := Lib.hid h2.waiting
                  obtain ⟨_, _, _, hbe⟩ := h2
                  have HBE := Lib.hid (HB1.out.trans (hbe.mono HB1.out.size))
                  clear hbe HP1
                  go_wp2_with fail
                  refine HP2.out.mono ?_
                  rintro e wx ⟨rfl, e1⟩
                  subst e1
                  go_wp2_with fail
                  refine HP3.out.mono ?_
                  rintro e wx ⟨rfl, e1⟩
                  subst e1
                  go_wp2
                  go_ret
                  exact ⟨rfl, HBE.out⟩
end Go.Proofs.Ythmehalkijbpdaa.gtu
