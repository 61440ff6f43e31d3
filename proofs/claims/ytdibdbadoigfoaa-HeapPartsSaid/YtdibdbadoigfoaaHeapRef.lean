/- What the reference's Less and Rises answer. Condition: texts as they are read. -/
import Derived.Test.YtdibdbadoigfoaaHeapFirst
import Derived.Test.YtdibdbadoigfoaaHeapArgs
namespace Go.Proofs.Ytdibdbadoigfoaa.heap
set_option maxRecDepth 100000
open Go.RowKit Go.Proofs.Ytdibdbadoigfoaa.words

theorem drop_byte (s : ByteArray) (k : Nat) (h : k < s.size) : s.toList.drop k = s[k] :: s.toList.drop (k + 1) := by
  rw [ByteArray.toList_eq]
  have : s[k] = s.data.toList[k]'(by rw [size_text]; exact h) := rfl
  rw [this]
  exact List.drop_eq_getElem_cons _
theorem quiet_mk {w : World} {a b : Nat} : ∃ n, w.drewN n = (w.drewN a).drewN b := ⟨a + b, (World.drewN_drewN ..).symm⟩
theorem quiet_mk3 {w : World} {a b c : Nat} : ∃ n, w.drewN n = ((w.drewN a).drewN b).drewN c := ⟨a + b + c, by rw [World.drewN_drewN, World.drewN_drewN, Nat.add_assoc]⟩
theorem quiet_drew {P : Program} {f : FuncId} {args : Array Value} {w : World} {n : Nat} {v : Value}
    (h : Calls P f args (w.drewN n) fun e w' => e = .returned v ∧ ∃ q, (w.drewN n).drewN q = w') : Calls P f args (w.drewN n) fun e w' => e = .returned v ∧ ∃ m, w' = w.drewN m :=
  h.mono fun _ _ ⟨he, q, hm⟩ => ⟨he, n + q, by rw [← hm, World.drewN_drewN]⟩

theorem quiet_drew2 {P : Program} {f : FuncId} {args : Array Value} {w : World} {d n : Nat} {v : Value}
    (h : Calls P f args (w.drewN (d + n)) fun e w' => e = .returned v ∧ ∃ q, (w.drewN (d + n)).drewN q = w') : Calls P f args (w.drewN (d + n)) fun e w' => e = .returned v ∧ ∃ m, w' = w.drewN (d + m) :=
  h.mono fun _ _ ⟨he, q, hm⟩ => ⟨he, n + q, by rw [← hm, World.drewN_drewN, Nat.add_assoc]⟩

set_option maxHeartbeats 1600000 in
theorem rless_any (a b : ByteArray) (w : World) (ha : a.size ≤ 140737488355328) :
    Calls Try.prog 11 #[.string a, .string b] w fun e w' => e = .returned (.bool (ltB a b)) ∧ ∃ n, w.drewN n = w' := by
  go_enter Try.func11, Try.ntmps11
  go_wp2_with fail
  go_loopw [5] (fun c wr => ∃ (k n : Nat), k ≤ a.size ∧ k ≤ b.size ∧ c = .int .i64 k ∧ Hid (ltB a b = Op.bytesLess (a.toList.drop k) (b.toList.drop k)) ∧ wr = w.drewN n)
    (fun c _ => a.size - (intOf c).toNat)
  case atStart => exact ⟨0, 0, Nat.zero_le _, Nat.zero_le _, rfl, Lib.hid rfl, rfl⟩
  case round =>
    obtain ⟨k, nd, hk, hk2, rfl, HL, rfl⟩ := hrel
    by_cases h1 : k < a.size
    · by_cases h2 : k < b.size
      · have i0 : (0 : Int) ≤ (k : Int) := by omega
        have i1 : (k : Int) < (a.size : Int) := by omega
        have i2 : (k : Int) < (b.size : Int) := by omega
        have HD := Lib.hid (show ltB a b = (decide (a[k] < b[k]) || (a[k] == b[k] && Op.bytesLess (a.toList.drop (k + 1)) (b.toList.drop (k + 1)))) by rw [HL.out, drop_byte a k h1, drop_byte b k h2, less_cons])
        by_cases he : a[k] = b[k]
        · have g1 : ((a[k].toNat : Int) != (b[k].toNat : Int)) = false := by rw [he]; simp
          have HN := Lib.hid (show ltB a b = Op.bytesLess (a.toList.drop (k + 1)) (b.toList.drop (k + 1)) by rw [HD.out, he]; simp)
          have HE := Lib.hid he
          clear he
          go_wp2_with fail
          go_quiet (fail)
          go_wp2_with fail
          go_roundw
          case rel => exact ⟨k + 1, _, by omega, by omega, by go_num, HN, rfl⟩
          case measure => simp [intOf]; omega
        · have g1 : ((a[k].toNat : Int) != (b[k].toNat : Int)) = true := by
            rw [bne_iff_ne]
            intro e
            exact he (UInt8.toNat_inj.1 (by simpa using Int.ofNat_inj.1 e))
          have HF := Lib.hid (show decide (a[k].toNat < b[k].toNat) = ltB a b by
            rw [HD.out, show (a[k] == b[k]) = false by rw [beq_eq_false_iff_ne]; exact he, Bool.false_and, Bool.or_false]
            rfl)
          have HE := Lib.hid he
          clear he
          go_wp2_with fail
          go_quiet (fail)
          go_wp2_with fail
          go_quiet (fail)
          go_wp2_with fail
          go_ret
          exact ⟨ret_bool HF.out, by first | exact quiet_mk | exact quiet_mk3⟩
      · have HF := Lib.hid (show false = ltB a b by rw [HL.out, List.drop_of_length_le (l := b.toList) (by rw [ByteArray.toList_eq, size_text]; omega), less_nil])
        have g : ¬ (a.size : Int) < (b.size : Int) := by omega
        have g3 : ¬ a.size < b.size := by omega
        go_wp2_with fail
        go_ret
        exact ⟨ret_bool HF.out, nd, rfl⟩
    · obtain rfl : k = a.size := by omega
      by_cases h2 : a.size < b.size
      · have HF := Lib.hid (show true = ltB a b by
          rw [HL.out, List.drop_of_length_le (l := a.toList) (by rw [ByteArray.toList_eq, size_text]; omega), drop_byte b _ h2]; rfl)
        go_wp2_with fail
        go_ret
        exact ⟨ret_bool HF.out, nd, rfl⟩
      · have HF := Lib.hid (show false = ltB a b by rw [HL.out, List.drop_of_length_le (l := b.toList) (by rw [ByteArray.toList_eq, size_text]; omega), less_nil])
        go_wp2_with fail
        go_ret
        exact ⟨ret_bool HF.out, nd, rfl⟩
theorem rless_is (a b : ByteArray) (r : Bool) (w : World) (ha : a.size ≤ 140737488355328) (h : ltB a b = r) :
    Calls Try.prog 11 #[.string a, .string b] w fun e w' => e = .returned (.bool r) ∧ ∃ n, w.drewN n = w' := by
  rw [← h]
  exact rless_any a b w ha

def RisesIn (l : List ByteArray) (w : World) (e : Ending) (w' : World) : Prop := (∃ b, e = .returned (.bool b) ∧ (b = true ↔ Ris l)) ∧ ∃ n, w.drewN n = w'
theorem ris_take {l : List ByteArray} {k : Nat} {a b : ByteArray} (h : Ris (l.take (k + 1))) (ha : l[k]? = some a) (hb : l[k + 1]? = some b) (hl : ltB a b = true) : Ris (l.take (k + 1 + 1)) := by
  obtain ⟨hk, hbb⟩ := List.getElem?_eq_some_iff.1 hb
  obtain ⟨hk', haa⟩ := List.getElem?_eq_some_iff.1 ha
  rw [List.take_succ_eq_append_getElem hk, hbb]
  refine h.next b fun q hq => ?_
  rw [List.take_succ_eq_append_getElem hk', haa, List.getLast?_concat] at hq
  rw [← Option.some.inj hq]
  exact hl
set_option maxHeartbeats 1600000 in
theorem rises_any (A : Option Addr) (c : Nat) (l : List ByteArray) (w : World) (hR : Row w w.heap.size A l) (hs : Sml l) (hlen : l.length ≤ 4611686018427387904) :
    Calls Try.prog 6 #[.slice A l.length c] w (RisesIn l w) := by
  have HR := Lib.hid hR
  have HS := Lib.hid hs
  clear hR hs
  go_enter Try.func6, Try.ntmps6
  go_wp2_with fail
  go_loopw [3] (fun v wr => ∃ (k n : Nat), v = .int .i64 ((k + 1 : Nat) : Int) ∧ k ≤ l.length ∧ Hid (Ris (l.take (k + 1))) ∧ wr = w.drewN n) (fun v _ => l.length + 1 - (intOf v).toNat)
  case atStart => exact ⟨0, 0, rfl, Nat.zero_le _, Lib.hid (by rcases l with _ | ⟨s, t⟩ <;> simp [Ris]), rfl⟩
  case round =>
    obtain ⟨k, nd, rfl, hk, HT, rfl⟩ := hrel
    by_cases hlt : k + 1 < l.length
    · obtain ⟨a, ha⟩ : ∃ a, l[k]? = some a := ⟨_, List.getElem?_eq_getElem (by omega)⟩
      obtain ⟨b, hb⟩ : ∃ b, l[k + 1]? = some b := ⟨_, List.getElem?_eq_getElem hlt⟩
      obtain ⟨bk, off, hA, hB, c0⟩ := HR.out k a ha
      obtain ⟨bk', off', hA', _, c1⟩ := HR.out (k + 1) b hb
      rw [hA] at hA'
      injection hA' with hA'
      injection hA' with hA1 hA2
      subst hA1 hA2 hA
      have i0 : (0 : Int) ≤ (k : Int) := by omega
      have i1 : (k : Int) < (l.length : Int) := by omega
      have i2 : (k : Int) + 1 < (l.length : Int) := by omega
      have hsa := HS.out a (List.mem_of_getElem? ha)
      rcases hr : ltB a b with _ | _
      · have HRR := Lib.hid hr
        have HF : Hid (false = true ↔ Ris l) := Lib.hid ⟨fun h => (by cases h), fun h => by
          obtain ⟨h1, rfl⟩ := List.getElem?_eq_some_iff.1 ha
          obtain ⟨h2, rfl⟩ := List.getElem?_eq_some_iff.1 hb
          have := List.pairwise_iff_getElem.1 h k (k + 1) h1 h2 (by omega)
          rw [hr] at this; cases this⟩
        have i3 : (0 : Int) ≤ (k : Int) + 1 := by omega
        have i4 : ((k : Int) + 1).toNat = k + 1 := by omega
        have hwk : IntKind.i64.wrap (k : Int) = (k : Int) := IntWalk.i64_in _ (by omega)
        clear ha hb hr
        go_wp2_with fail
        go_quiet ((go_at_call 11; exact quiet_drew2 (rless_is a b false _ hsa HRR.out)))
        clear hwk i4
        go_wp2_with fail
        go_ret
        exact ⟨⟨false, rfl, HF.out⟩, by first | exact quiet_mk | exact quiet_mk3⟩
      · have HRR := Lib.hid hr
        have HN := Lib.hid (ris_take HT.out ha hb hr)
        have i3 : (0 : Int) ≤ (k : Int) + 1 := by omega
        have i4 : ((k : Int) + 1).toNat = k + 1 := by omega
        have hwk : IntKind.i64.wrap (k : Int) = (k : Int) := IntWalk.i64_in _ (by omega)
        clear ha hb hr
        go_wp2_with fail
        go_quiet ((go_at_call 11; exact quiet_drew2 (rless_is a b true _ hsa HRR.out)))
        clear hwk i4
        go_wp2_with fail
        go_roundw
        case rel => exact ⟨k + 1, _, by go_num, by omega, HN, rfl⟩
        case measure => simp [intOf]; omega
    · have g : ¬ (k : Int) + 1 < (l.length : Int) := by omega
      have HF : Hid (Ris l) := Lib.hid (by have := HT.out; rwa [List.take_of_length_le (by omega)] at this)
      go_wp2_with fail
      go_ret
      exact ⟨⟨true, rfl, fun _ => HF.out, fun _ => rfl⟩, nd, rfl⟩
end Go.Proofs.Ytdibdbadoigfoaa.heap
