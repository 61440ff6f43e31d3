/- What cmp.Compare, strings.Compare, cmp.Or and a head's 'ahead' answer: which one comes first. No condition. -/
import Derived.Test.YtdljogdegcmmiaaGreatDoorChecked
import Derived.Test.YtdljogdegcmmiaaGreatDoorJW2
import Derived.WalkKit
import Derived.WalkSpells
import Derived.WalkLawsBesides
import Derived.Outline
import Derived.LoopTactic
import Derived.Deep.QuietTactic
import Derived.BigQuiet
import Derived.Deep.RegionHeld3
import Derived.Lib.Hide
import Derived.Lib.Small
import Derived.IntWalk
import Derived.KernelRfl
namespace Go.Proofs.YtdljogdegcmmiaaGreatDoor.heap
set_option maxRecDepth 100000
open Go.RowKit Go.Proofs.YtdljogdegcmmiaaGreatDoor.words

theorem ret_bool {a b : Bool} (h : a = b) : Ending.returned (.bool a) = .returned (.bool b) := by rw [h]
theorem ret_int {k : IntKind} {a b : Int} (h : a = b) : Ending.returned (.int k a) = .returned (.int k b) := by rw [h]
theorem isnan_int (x : Int) (w : World) : Calls Tryz.prog 135 #[.int .i64 x] w fun e w' => e = .returned (.bool false) ∧ w = w' := by
  have g : (x != x) = false := by simp
  go_enter Tryz.func135, Tryz.ntmps135
  go_wp2_with fail
  go_ret
  exact ⟨rfl, rfl⟩
theorem compare_int (x y : Int) (w : World) : Calls Tryz.prog 119 #[.int .i64 x, .int .i64 y] w fun e w' => e = .returned (.int .i64 (Lib.compareInt x y)) ∧ w = w' := by
  by_cases h1 : x < y
  · have HF := Lib.hid (show Lib.compareInt x y = -1 by unfold Lib.compareInt; rw [if_pos h1])
    go_enter Tryz.func119, Tryz.ntmps119
    go_wp2_with (go_at_call 135; refine (isnan_int _ _).mono ?_; rintro e w' ⟨rfl, rfl⟩)
    go_ret
    exact ⟨ret_int HF.out.symm, rfl⟩
  · by_cases h2 : y < x
    · have HF := Lib.hid (show Lib.compareInt x y = 1 by unfold Lib.compareInt; rw [if_neg h1, if_pos h2])
      go_enter Tryz.func119, Tryz.ntmps119
      go_wp2_with (go_at_call 135; refine (isnan_int _ _).mono ?_; rintro e w' ⟨rfl, rfl⟩)
      go_ret
      exact ⟨ret_int HF.out.symm, rfl⟩
    · have HF := Lib.hid (show Lib.compareInt x y = 0 by unfold Lib.compareInt; rw [if_neg h1, if_neg h2])
      go_enter Tryz.func119, Tryz.ntmps119
      go_wp2_with (go_at_call 135; refine (isnan_int _ _).mono ?_; rintro e w' ⟨rfl, rfl⟩)
      go_ret
      exact ⟨ret_int HF.out.symm, rfl⟩
theorem bytealg_any (a b : ByteArray) (w : World) : Calls Tryz.prog 134 #[.string a, .string b] w fun e w' => e = .returned (.int .i64 (Lib.compareBytes a.data.toList b.data.toList)) ∧ w = w' := by
  go_enter Tryz.func134, Tryz.ntmps134
  go_wp2_with fail
  rw [run_callFunc_extern Tryz.func157 (by kernel_rfl) (by kernel_rfl) (by kernel_rfl) (e := Extern.BytealgCompare.compare) (by kernel_rfl), Lib.run_compareString]
  simp only [Result.andThen]
  rw [Oper.upon_value]
  go_wp2_with fail
  go_ret
  exact ⟨rfl, rfl⟩
theorem compare_text (a b : ByteArray) (w : World) : Calls Tryz.prog 118 #[.string a, .string b] w fun e w' => e = .returned (.int .i64 (Lib.compareBytes a.data.toList b.data.toList)) ∧ w = w' := by
  go_enter Tryz.func118, Tryz.ntmps118
  go_wp2_with fail
  refine (bytealg_any _ _ _).mono ?_
  rintro e w' ⟨rfl, rfl⟩
  go_wp2_with fail
  go_ret
  exact ⟨rfl, rfl⟩
def orInt (x y : Int) : Int := if x = 0 then y else x
set_option maxHeartbeats 800000 in
theorem or_two (b c : Nat) (x y : Int) (w : World) (h0 : w.cell? ⟨b, 0, none⟩ = some (.int .i64 x)) (h1 : w.cell? ⟨b, 1, none⟩ = some (.int .i64 y)) :
    Calls Tryz.prog 117 #[.slice (some ⟨b, 0, none⟩) 2 c] w fun e w' => e = .returned (.int .i64 (orInt x y)) ∧ w = w' := by
  have HC := Lib.hid (And.intro h0 h1)
  clear h0 h1
  go_enter Tryz.func117, Tryz.ntmps117
  go_wp2_with fail
  go_loop [8] (fun i => ∃ k : Nat, i = .int .i64 (k : Int) ∧ k ≤ 2 ∧ (1 ≤ k → x = 0) ∧ (2 ≤ k → y = 0)) (fun i => 2 - (intOf i).toNat)
  case atStart => exact ⟨0, rfl, by omega, by omega, by omega⟩
  case round =>
    obtain ⟨k, rfl, hk, hx, hy⟩ := hrel
    obtain ⟨c0, c1⟩ := HC.out
    rcases k with _ | _ | k
    · clear c1
      have HX := Lib.hid hx
      have HY := Lib.hid hy
      clear hx hy
      by_cases e : x = 0
      · have g : (x != 0) = false := by simp [e]
        have HE := Lib.hid e
        clear e
        go_wp2_with fail
        go_round
        case rel => exact ⟨1, by go_num, by omega, fun _ => HE.out, by omega⟩
        case measure => simp [intOf]
      · have g : (x != 0) = true := by simp [e]
        have HE := Lib.hid (show x = orInt x y by unfold orInt; rw [if_neg e])
        clear e
        go_wp2_with fail
        go_ret
        exact ⟨ret_int HE.out, rfl⟩
    · clear c0
      have HX := Lib.hid (hx (by omega))
      have HY := Lib.hid hy
      clear hx hy
      by_cases e : y = 0
      · have g : (y != 0) = false := by simp [e]
        have HE := Lib.hid e
        clear e
        go_wp2_with fail
        go_round
        case rel => exact ⟨2, by go_num, by omega, fun _ => HX.out, fun _ => HE.out⟩
        case measure => simp [intOf]
      · have g : (y != 0) = true := by simp [e]
        have HE := Lib.hid (show y = orInt x y by unfold orInt; rw [if_pos HX.out])
        clear e
        go_wp2_with fail
        go_ret
        exact ⟨ret_int HE.out, rfl⟩
    · obtain rfl : k = 0 := by omega
      have HE := Lib.hid (show (0 : Int) = orInt x y by unfold orInt; rw [if_pos (hx (by omega)), hy (by omega)])
      clear hx hy c0 c1
      go_wp2_with fail
      go_ret
      exact ⟨ret_int HE.out, rfl⟩
/-- The sign of the comparison is the order. -/
theorem or_less (a b : Hd) : decide (orInt (Lib.compareBytes a.s.data.toList b.s.data.toList) (Lib.compareInt (a.r : Int) (b.r : Int)) < 0) = ltHB a b := by
  have h := compare_less a.s.data.toList b.s.data.toList
  unfold ltHB ltB orInt
  rw [ByteArray.toList_eq, ByteArray.toList_eq]
  by_cases h0 : a.s.data.toList = b.s.data.toList
  · rw [if_pos (h.2.2 h0), h0, less_self, Bool.false_or, beq_self_eq_true, Bool.true_and]
    unfold Lib.compareInt
    by_cases h1 : (a.r : Int) < b.r
    · rw [if_pos h1, decide_eq_true (show a.r < b.r by omega)]; rfl
    · rw [if_neg h1, decide_eq_false (show ¬ a.r < b.r by omega)]
      split <;> rfl
  · rw [if_neg (fun hc => h0 (h.2.1 hc)), beq_eq_false_iff_ne.2 h0, Bool.false_and, Bool.or_false]
    rw [Bool.eq_iff_iff, decide_eq_true_eq]
    exact h.1
end Go.Proofs.YtdljogdegcmmiaaGreatDoor.heap
