/- What the image's reference reads as a number of so many bytes, or -1 where there aren't as many. Condition: a text of a million bytes at most. -/
import Derived.Test.YtapgagfeghfooaaDoorJImaRDir
namespace Go.Proofs.YtapgagfeghfooaaDoor.ima
set_option maxRecDepth 100000
open Go.RowKit Go.Proofs.YtapgagfeghfooaaDoor.words Go.Proofs.YtapgagfeghfooaaDoor.ext Go.Proofs.YtapgagfeghfooaaDoor.name Go.Proofs.YtapgagfeghfooaaDoor.tre

def numB (s : ByteArray) (p z : Nat) : Int := if p + z ≤ s.size then (num ((s.data.toList.drop p).take z) : Int) else -1
theorem numB_yes {s : ByteArray} {p z : Nat} (h : p + z ≤ s.size) : numB s p z = (num ((s.data.toList.drop p).take z) : Int) := if_pos h
theorem numB_no {s : ByteArray} {p z : Nat} (h : ¬ p + z ≤ s.size) : numB s p z = -1 := if_neg h
theorem cut_list (s : ByteArray) (p z : Nat) (h : p + z ≤ s.size) : (s.extract p (p + z)).data.toList = (s.data.toList.drop p).take z ∧ (s.extract p (p + z)).size = z := by
  have hsz : s.data.toList.length = s.size := rfl
  have h1 : (s.extract p (p + z)).data.toList = (s.data.toList.drop p).take z := by
    simp [List.extract_eq_take_drop]
  refine ⟨h1, ?_⟩
  show (s.extract p (p + z)).data.size = z
  rw [← Array.length_toList, h1, List.length_take, List.length_drop, hsz]
  omega
set_option maxHeartbeats 1600000 in
theorem number_any (s : ByteArray) (p z : Nat) (w : World) (hz : z ≤ 4) (hp : p ≤ 1000000) :
    Calls Tryd.prog 49 #[.string s, .int .i64 (p : Int), .int .i64 (z : Int)] w fun e w' => e = .returned (.int .i64 (numB s p z)) ∧ w' = w := by
  have r0 : -9223372036854775808 ≤ (p : Int) + (z : Int) := by omega
  have r1 : (p : Int) + (z : Int) < 9223372036854775808 := by omega
  have p0 : ¬ (p : Int) < 0 := by omega
  by_cases h : p + z ≤ s.size
  · have g : ¬ (s.size : Int) < (p : Int) + (z : Int) := by omega
    obtain ⟨hc1, hc2⟩ := cut_list s p z h
    obtain ⟨t, ht⟩ : ∃ t, t = s.extract p (p + z) := ⟨_, rfl⟩
    rw [← ht] at hc1 hc2
    have HG := Lib.hid (get_any t w (by omega))
    rw [hc1] at HG
    have hsl : ∀ wx : World, (Instr.slice 9 (.string s) (some (.int .i64 (p : Int))) (some (.int .i64 ((p : Int) + (z : Int)))) none).run Tryd.prog wx = .ok (.string t) wx := fun wx => by
      rw [run_slice_string_if (P := Tryd.prog) (w := wx) 9 s .i64 .i64 p ((p : Int) + (z : Int)) Tryd.underlying9, if_pos ⟨by omega, by omega⟩, if_pos ⟨by omega, by omega⟩, ht, show ((p : Int) + (z : Int)).toNat = p + z by omega]
      rfl
    have HN := Lib.hid (numB_yes h)
    clear hc1 hc2 ht h
    go_enter Tryd.func49, Tryd.ntmps49
    go_wp2_with fail
    refine HG.out.mono ?_
    rintro e w2 ⟨rfl, rfl⟩
    go_wp2_with fail
    go_ret
    exact ⟨by rw [HN.out]; rfl, rfl⟩
  · have g : (s.size : Int) < (p : Int) + (z : Int) := by omega
    have HN := Lib.hid (numB_no h)
    clear h
    go_enter Tryd.func49, Tryd.ntmps49
    go_wp2_with fail
    go_ret
    exact ⟨by rw [HN.out]; rfl, rfl⟩
end Go.Proofs.YtapgagfeghfooaaDoor.ima
