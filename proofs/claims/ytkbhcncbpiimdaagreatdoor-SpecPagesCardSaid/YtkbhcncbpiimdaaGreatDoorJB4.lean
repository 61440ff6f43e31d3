/- What the reference's At and Read answer of extents that are right. Conditions: the places are those of a file that is looked at. -/
import Derived.Test.YtkbhcncbpiimdaaGreatDoorJB3
import Derived.Deep.AppendLies
import Derived.Lib.BufferRead
namespace Go.Proofs.YtkbhcncbpiimdaaGreatDoor.ext
set_option maxRecDepth 100000
open Go.RowKit Go.Proofs.YtkbhcncbpiimdaaGreatDoor.words

theorem byte_get (x : Ex) (q : Nat) (h : q < x.D.size) : ((x.D[q]'h).toNat : Int) = ((x.D.data.toList.getD q 0).toNat : Int) := by
  have : x.D[q]'h = x.D.data.toList[q]'(by rw [size_list]; exact h) := rfl
  rw [this, List.getD_eq_getElem?_getD, List.getElem?_eq_getElem (by rw [size_list]; exact h)]
  rfl
theorem ret_byte {a b : Int} (h : a = b) : Ending.returned (.int .u8 a) = .returned (.int .u8 b) := by rw [h]

set_option maxHeartbeats 1600000 in
theorem at_any (p : Int) (A : Option Addr) (cap : Nat) (L : List Ex) (w : World) (hI : Exts w w.heap.size A L) (hlen : L.length ≤ 4611686018427387904) (hp0 : 0 ≤ p) (hp1 : p ≤ 1048576)
    (hL : ∀ x ∈ L, 0 ≤ x.O ∧ x.O + (x.D.size : Int) ≤ 1048576) :
    Calls Tryz.prog 142 #[.slice A L.length cap, .int .i64 p] w fun e w' => e = .returned (.int .u8 ((atB L p).toNat : Int)) ∧ ∃ n, w.drewN n = w' := by
  have HI := Lib.hid hI
  have HL := Lib.hid hL
  clear hI hL
  go_enter Tryz.func142, Tryz.ntmps142
  go_wp2_with fail
  go_loopw [5] (fun c wr => ∃ (k n : Nat), k ≤ L.length ∧ c = .int .i64 k ∧ Hid (atB L p = atB (L.drop k) p) ∧ wr = w.drewN n)
    (fun c _ => L.length - (intOf c).toNat)
  case atStart => exact ⟨0, 0, Nat.zero_le _, rfl, Lib.hid rfl, rfl⟩
  case round =>
    obtain ⟨k, nd, hk, rfl, HA, rfl⟩ := hrel
    by_cases hlt : k < L.length
    · obtain ⟨x, hx⟩ : ∃ x, L[k]? = some x := ⟨_, List.getElem?_eq_getElem hlt⟩
      obtain ⟨⟨b, off, rfl, hB, c0, c1⟩, o1, o2, hz⟩ := HI.out k x hx
      obtain ⟨l0, l1⟩ := HL.out x (List.mem_of_getElem? hx)
      have HX := Lib.hid hx
      have i0 : (0 : Int) ≤ (k : Int) := by omega
      have i1 : (k : Int) < (L.length : Int) := by omega
      have hw : IntKind.i64.wrap (x.O + (x.D.size : Int)) = x.O + (x.D.size : Int) := IntWalk.i64_in _ ⟨by omega, by omega⟩
      clear hx
      by_cases a1 : x.O ≤ p
      · have g1 : decide (x.O ≤ p) = true := by simpa using a1
        by_cases a2 : p < x.O + (x.D.size : Int)
        · have g2 : decide (p < x.O + (x.D.size : Int)) = true := by simpa using a2
          obtain ⟨q, hq⟩ : ∃ q : Nat, (q : Int) = p - x.O := ⟨(p - x.O).toNat, by omega⟩
          have hq1 : q < x.D.size := by omega
          have hN : ((x.D[q]'hq1).toNat : Int) = ((atB L p).toNat : Int) := by
            rw [HA.out, drop_at HX.out, atB_cons, if_pos ⟨a1, a2⟩, byte_get]
            unfold byteOf
            rw [show (p - x.O).toNat = q by omega]
          have HN := Lib.hid hN
          have hw2 : IntKind.i64.wrap (p - x.O) = (q : Int) := by rw [IntWalk.i64_in _ ⟨by omega, by omega⟩]; omega
          have q0 : (0 : Int) ≤ (q : Int) := by omega
          have q1 : (q : Int) < (x.D.size : Int) := by omega
          clear hN hq a1 a2
          go_wp2_with fail
          go_quiet (fail)
          go_wp2_with fail
          go_quiet (fail)
          go_wp2_with fail
          go_ret
          exact ⟨ret_byte HN.out, by rw [World.drewN_drewN]; exact quiet_mk⟩
        · have g2 : decide (p < x.O + (x.D.size : Int)) = false := by simp; omega
          have HN := Lib.hid (show atB L p = atB (L.drop (k + 1)) p by rw [HA.out, drop_at HX.out, atB_cons, if_neg (by unfold Cov; omega)])
          clear a1 a2
          go_wp2_with fail
          go_quiet (fail)
          go_wp2_with fail
          go_roundw
          case rel => exact ⟨k + 1, _, by omega, by go_num, HN, rfl⟩
          case measure => simp [intOf]; omega
      · have g1 : decide (x.O ≤ p) = false := by simp; omega
        have HN := Lib.hid (show atB L p = atB (L.drop (k + 1)) p by rw [HA.out, drop_at HX.out, atB_cons, if_neg (by unfold Cov; omega)])
        clear a1
        go_wp2_with fail
        go_quiet (fail)
        go_wp2_with fail
        go_roundw
        case rel => exact ⟨k + 1, _, by omega, by go_num, HN, rfl⟩
        case measure => simp [intOf]; omega
    · have HD := Lib.hid (show ((0 : UInt8).toNat : Int) = ((atB L p).toNat : Int) by rw [HA.out, List.drop_of_length_le (by omega)]; rfl)
      go_wp2_with fail
      go_ret
      exact ⟨ret_byte HD.out, nd, rfl⟩
end Go.Proofs.YtkbhcncbpiimdaaGreatDoor.ext
