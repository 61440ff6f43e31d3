/- What shard.Sum answers, and what the reference's times, xor and Sum answer: the same. No condition but sizes. -/
import Derived.Test.YthhcbmljckgncaaLrvBox
import Derived.Defers
import Derived.Recover
import Derived.Deep.LoopGhost
import Derived.Lib.Hide
import Derived.StillTailTactics
import Derived.IntWalk
import Derived.Deep.Cut
import Derived.KernelRfl
import Derived.WalkSpells
import Derived.WalkLawsBesides
import Derived.Outline
import Derived.LoopTactic
import Derived.BigRegion
import Derived.ChangeAlike
import Derived.Deep.AppendLies
import Derived.BigQuiet
import Derived.Deep.QuietTactic
import Derived.Lib.MinMax
import Derived.Test.YthhcbmljckgncaaChecked
import Derived.Laws.BitsAllLaws
namespace Go.Proofs.Ythhcbmljckgncaa.sha
set_option maxRecDepth 100000
open Go.RowKit Go.Proofs.Ythhcbmljckgncaa.words Go.Proofs.Ythhcbmljckgncaa.lru

/-- A key's sum, a byte on. -/
def stepS (h : Nat) (b : UInt8) : Nat := ((h ^^^ b.toNat) * 16777619) % 4294967296
def sumF (l : List UInt8) : Nat := l.foldl stepS 2166136261
theorem stepS_lt (h : Nat) (b : UInt8) : stepS h b < 4294967296 := Nat.mod_lt _ (by decide)
theorem foldS_lt (l : List UInt8) : ∀ h : Nat, h < 4294967296 → l.foldl stepS h < 4294967296 := by
  induction l with
  | nil => exact fun h hh => hh
  | cons b l ih => exact fun h _ => ih (stepS h b) (stepS_lt h b)
theorem sumF_lt (l : List UInt8) : sumF l < 4294967296 := by
  have h1 : (2166136261 : Nat) < 4294967296 := by simp
  have h2 := foldS_lt l 2166136261 h1
  rw [sumF]
  exact h2
theorem sumF_snoc (l : List UInt8) (b : UInt8) : sumF (l ++ [b]) = stepS (sumF l) b := by rw [sumF, sumF, List.foldl_append, List.foldl_cons, List.foldl_nil]
theorem take_snoc (s : ByteArray) (k : Nat) (h : k < s.size) : s.data.toList.take (k + 1) = s.data.toList.take k ++ [s[k]] := by
  rw [List.take_succ_eq_append_getElem (by simpa using h)]; rfl
theorem byte_lt (b : UInt8) : b.toNat < 256 := UInt8.toNat_lt b
theorem step_u32 (h : Nat) (b : UInt8) (hh : h < 4294967296) : IntKind.u32.wrap (bits .xor .u32 (h : Int) (b.toNat : Int) * 16777619) = (stepS h b : Int) := by
  have hb := byte_lt b
  rw [u32_xor_nat h b.toNat hh (by omega), IntKind.wrap_u32']
  unfold stepS
  rw [Int.natCast_emod, Int.natCast_mul]
  simp
set_option maxHeartbeats 1600000 in
theorem sum_any (s : ByteArray) (w : World) (hs : s.size ≤ 9223372036854775807) :
    Calls Try.prog 55 #[.string s] w fun e w' => e = .returned (.int .u32 (sumF s.data.toList : Int)) ∧ w = w' := by
  go_enter Try.func55, Try.ntmps55
  go_wp2_with fail
  go_loop [7, 3] (fun v v3 => ∃ k : Nat, k ≤ s.size ∧ v = .int .i64 (k : Int) ∧ v3 = .int .u32 (sumF (s.data.toList.take k) : Int)) (fun v _ => s.size - (intOf v).toNat)
  case atStart => exact ⟨0, Nat.zero_le _, rfl, rfl⟩
  case round =>
    obtain ⟨k, hk, rfl, rfl⟩ := hrel
    obtain ⟨h, hh⟩ : ∃ h, h = sumF (s.data.toList.take k) := ⟨_, rfl⟩
    have hlt := sumF_lt (s.data.toList.take k)
    rw [← hh] at hlt ⊢
    have k0 : (0 : Int) ≤ (k : Int) := by omega
    by_cases hks : k < s.size
    · have k1 : (k : Int) < (s.size : Int) := by omega
      have hst := step_u32 h s[k] hlt
      have HN : Hid (sumF (s.data.toList.take (k + 1)) = stepS h s[k]) := Lib.hid (by rw [take_snoc s k hks, sumF_snoc, hh])
      have hbl := byte_lt s[k]
      have hw : IntKind.u32.wrap (s[k].toNat : Int) = (s[k].toNat : Int) := by rw [IntKind.wrap_u32']; omega
      clear hh
      go_wp2_with fail
      go_round
      case rel => exact ⟨k + 1, by omega, by go_num, by rw [HN.out]⟩
      case measure => simp [intOf]; omega
    · obtain rfl : k = s.size := by omega
      have HF : Hid (h = sumF s.data.toList) := Lib.hid (by rw [hh, List.take_of_length_le (by simp)])
      clear hh
      go_wp2_with fail
      go_ret
      exact ⟨by rw [HF.out]; rfl, rfl⟩

/-! The reference -/
theorem times_next {o a b T : Nat} (h : (o + a * b) % 4294967296 = T) :
    ((if b % 2 = 1 then (o + a) % 4294967296 else o) + ((a + a) % 4294967296) * (b / 2)) % 4294967296 = T := by
  rw [← h]
  have hb : b = 2 * (b / 2) + b % 2 := by omega
  obtain ⟨q, hq⟩ : ∃ q, q = b / 2 := ⟨_, rfl⟩
  have e1 : ∀ x, (x + ((a + a) % 4294967296) * q) % 4294967296 = (x + (a + a) * q) % 4294967296 := fun x => by
    rw [Nat.add_mod, Nat.mod_mul_mod, ← Nat.add_mod]
  have e3 : (a + a) * q = a * (2 * q) := by rw [← Nat.two_mul, Nat.mul_comm 2 a, Nat.mul_assoc]
  rw [← hq, e1, e3]
  by_cases h2 : b % 2 = 1
  · rw [if_pos h2]
    have e2 : a * b = a * (2 * q) + a := by
      have : b = 2 * q + 1 := by omega
      rw [this, Nat.mul_add, Nat.mul_one]
    rw [e2, Nat.mod_add_mod]
    congr 1
    omega
  · rw [if_neg h2]
    have : b = 2 * q := by omega
    rw [this]
set_option maxHeartbeats 3200000 in
theorem times_any (a0 b0 : Nat) (w : World) (ha : a0 < 4294967296) (hb : b0 < 4294967296) :
    Calls Try.prog 41 #[.int .u64 (a0 : Int), .int .u64 (b0 : Int)] w fun e w' => e = .returned (.int .u64 (((a0 * b0) % 4294967296 : Nat) : Int)) ∧ w = w' := by
  obtain ⟨T, hT⟩ : ∃ T, T = (a0 * b0) % 4294967296 := ⟨_, rfl⟩
  rw [← hT]
  have HT := Lib.hid hT
  clear hT
  go_enter Try.func41, Try.ntmps41
  go_wp2_with fail
  go_loop [5, 0, 1] (fun v5 v0 v1 => ∃ o a b : Nat, v5 = .int .u64 (o : Int) ∧ v0 = .int .u64 (a : Int) ∧ v1 = .int .u64 (b : Int) ∧ o < 4294967296 ∧ a < 4294967296 ∧ b < 4294967296 ∧ Hid ((o + a * b) % 4294967296 = T)) (fun _ _ v1 => (intOf v1).toNat)
  case atStart => exact ⟨0, a0, b0, rfl, rfl, rfl, by omega, ha, hb, Lib.hid (by rw [HT.out, Nat.zero_add])⟩
  case round =>
    obtain ⟨o, a, b, rfl, rfl, rfl, ho, ha1, hb1, HI⟩ := hrel
    by_cases h0 : 0 < b
    · have g0 : (0 : Int) < (b : Int) := by omega
      have HN := Lib.hid (times_next HI.out)
      have w1 : IntKind.u64.wrap ((a : Int) + (a : Int)) = (a : Int) + (a : Int) := by rw [IntKind.wrap_u64]; omega
      have w2 : IntKind.u64.wrap ((o : Int) + (a : Int)) = (o : Int) + (a : Int) := by rw [IntKind.wrap_u64]; omega
      have z1 : (0 : Int) ≤ (a : Int) + (a : Int) := by omega
      have z2 : (0 : Int) ≤ (o : Int) + (a : Int) := by omega
      have l1 : (a + a) % 4294967296 < 4294967296 := Nat.mod_lt _ (by decide)
      have l2 : (o + a) % 4294967296 < 4294967296 := Nat.mod_lt _ (by decide)
      by_cases h2 : b % 2 = 1
      · have g1 : Int.tmod (b : Int) 2 = 1 := by rw [Int.tmod_eq_emod_of_nonneg (by omega)]; omega
        have g2 : (b : Int) % 2 = 1 := by omega
        have HN2 := Lib.hid (show ((o + a) % 4294967296 + ((a + a) % 4294967296) * (b / 2)) % 4294967296 = T by have h := HN.out; rwa [if_pos h2] at h)
        clear HN
        go_wp2_with fail
        go_round
        case rel => exact ⟨(o + a) % 4294967296, (a + a) % 4294967296, b / 2, congrArg (Value.int .u64) (by omega), congrArg (Value.int .u64) (by omega), congrArg (Value.int .u64) (by omega), l2, l1, by omega, HN2⟩
        case measure => simp [intOf]; omega
      · have g1 : Int.tmod (b : Int) 2 = 0 := by rw [Int.tmod_eq_emod_of_nonneg (by omega)]; omega
        have g2 : (b : Int) % 2 = 0 := by omega
        have HN2 := Lib.hid (show (o + ((a + a) % 4294967296) * (b / 2)) % 4294967296 = T by have h := HN.out; rwa [if_neg h2] at h)
        clear HN
        go_wp2_with fail
        go_round
        case rel => exact ⟨o, (a + a) % 4294967296, b / 2, rfl, congrArg (Value.int .u64) (by omega), congrArg (Value.int .u64) (by omega), ho, l1, by omega, HN2⟩
        case measure => simp [intOf]; omega
    · obtain rfl : b = 0 := by omega
      have HF : Hid (o = T) := Lib.hid (by have h := HI.out; rw [Nat.mul_zero, Nat.add_zero, Nat.mod_eq_of_lt ho] at h; exact h)
      clear HI
      go_wp2_with fail
      go_ret
      exact ⟨by rw [HF.out]; rfl, rfl⟩
theorem xor_next (A B i : Nat) : (A ^^^ B) % 2 ^ (i + 1) = (A ^^^ B) % 2 ^ i + (if A / 2 ^ i % 2 = B / 2 ^ i % 2 then 0 else 2 ^ i) := by
  have h1 : (A ^^^ B) % 2 ^ (i + 1) = (A ^^^ B) % 2 ^ i + 2 ^ i * ((A ^^^ B) / 2 ^ i % 2) := by rw [Nat.pow_succ, Nat.mod_mul]
  rw [h1, Nat.xor_div_two_pow]
  congr 1
  have h2 := @Nat.xor_mod_two_eq_one (A / 2 ^ i) (B / 2 ^ i)
  by_cases h : A / 2 ^ i % 2 = B / 2 ^ i % 2
  · rw [if_pos h]
    have : ¬ ((A / 2 ^ i) ^^^ (B / 2 ^ i)) % 2 = 1 := fun hc => (h2.1 hc) (by rw [h])
    have : ((A / 2 ^ i) ^^^ (B / 2 ^ i)) % 2 = 0 := by omega
    rw [this, Nat.mul_zero]
  · rw [if_neg h]
    have : ((A / 2 ^ i) ^^^ (B / 2 ^ i)) % 2 = 1 := h2.2 (by omega)
    rw [this, Nat.mul_one]
theorem pow_lt32 {i : Nat} (h : i ≤ 32) : 2 ^ i ≤ 4294967296 := Nat.le_trans (Nat.pow_le_pow_right (by decide) h) (by decide)
set_option maxHeartbeats 3200000 in
theorem xor_any (A B : Nat) (w : World) (ha : A < 4294967296) (hb : B < 4294967296) :
    Calls Try.prog 42 #[.int .u64 (A : Int), .int .u64 (B : Int)] w fun e w' => e = .returned (.int .u64 ((A ^^^ B : Nat) : Int)) ∧ w = w' := by
  have HF : Hid ((A ^^^ B) % 2 ^ 32 = A ^^^ B) := Lib.hid (Nat.mod_eq_of_lt (Nat.xor_lt_two_pow (by omega) (by omega)))
  go_enter Try.func42, Try.ntmps42
  go_wp2_with fail
  go_loop [7, 5, 6, 0, 1] (fun v7 v5 v6 v0 v1 => ∃ i o q a b : Nat, v7 = .int .i64 (i : Int) ∧ v5 = .int .u64 (o : Int) ∧ v6 = .int .u64 (q : Int) ∧ v0 = .int .u64 (a : Int) ∧ v1 = .int .u64 (b : Int) ∧ i ≤ 32 ∧ o < 4294967296 ∧ q ≤ 4294967296 ∧ a < 4294967296 ∧ b < 4294967296 ∧ Hid (o = (A ^^^ B) % 2 ^ i ∧ q = 2 ^ i ∧ a = A / 2 ^ i ∧ b = B / 2 ^ i)) (fun v7 _ _ _ _ => 32 - (intOf v7).toNat)
  case atStart => exact ⟨0, 0, 1, A, B, rfl, rfl, rfl, rfl, rfl, by omega, by omega, by omega, ha, hb, Lib.hid ⟨by rw [Nat.pow_zero, Nat.mod_one], rfl, by rw [Nat.pow_zero, Nat.div_one], by rw [Nat.pow_zero, Nat.div_one]⟩⟩
  case round =>
    obtain ⟨i, o, q, a, b, rfl, rfl, rfl, rfl, rfl, hi, ho, hq, ha1, hb1, HI⟩ := hrel
    have i0 : (0 : Int) ≤ (i : Int) := by omega
    by_cases h32 : i < 32
    · have g0 : (i : Int) < 32 := by omega
      have hn := xor_next A B i
      obtain ⟨e1, e2, e3, e4⟩ := HI.out
      rw [← e1, ← e3, ← e4, ← e2] at hn
      have hlt : (A ^^^ B) % 2 ^ (i + 1) < 4294967296 := Nat.lt_of_lt_of_le (Nat.mod_lt _ (Nat.two_pow_pos _)) (pow_lt32 h32)
      have hq2 : q * 2 ≤ 4294967296 := by have := pow_lt32 (i := i + 1) h32; rw [Nat.pow_succ, ← e2] at this; exact this
      have hbits : Hid (q * 2 = 2 ^ (i + 1) ∧ a / 2 = A / 2 ^ (i + 1) ∧ b / 2 = B / 2 ^ (i + 1)) := Lib.hid (by
        rw [e2, e3, e4, Nat.pow_succ, Nat.div_div_eq_div_mul, Nat.div_div_eq_div_mul]
        exact ⟨rfl, rfl, rfl⟩)
      clear e1 e2 e3 e4 HI
      have w1 : IntKind.u64.wrap ((q : Int) * 2) = (q : Int) * 2 := by rw [IntKind.wrap_u64]; omega
      by_cases h2 : a % 2 = b % 2
      · rw [if_pos h2, Nat.add_zero] at hn
        have s1 : ((a : Int) % 2 != (b : Int) % 2) = false := by rw [bne_eq_false_iff_eq]; omega
        have s2 : (((a % 2 : Nat) : Int) != ((b % 2 : Nat) : Int)) = false := by rw [bne_eq_false_iff_eq]; omega
        have HN : Hid (o = (A ^^^ B) % 2 ^ (i + 1) ∧ q * 2 = 2 ^ (i + 1) ∧ a / 2 = A / 2 ^ (i + 1) ∧ b / 2 = B / 2 ^ (i + 1)) := Lib.hid ⟨hn.symm, hbits.out⟩
        clear hn hlt hbits
        go_wp2_with fail
        go_round
        case rel => exact ⟨i + 1, o, q * 2, a / 2, b / 2, by go_num, rfl, congrArg (Value.int .u64) (by omega), congrArg (Value.int .u64) (by omega), congrArg (Value.int .u64) (by omega), by omega, ho, hq2, by omega, by omega, HN⟩
        case measure => simp [intOf]; omega
      · rw [if_neg h2] at hn
        have s1 : ((a : Int) % 2 != (b : Int) % 2) = true := by rw [bne_iff_ne]; omega
        have s2 : (((a % 2 : Nat) : Int) != ((b % 2 : Nat) : Int)) = true := by rw [bne_iff_ne]; omega
        have w2 : IntKind.u64.wrap ((o : Int) + (q : Int)) = (o : Int) + (q : Int) := by rw [IntKind.wrap_u64]; omega
        have hoq : o + q < 4294967296 := by omega
        have HN : Hid (o + q = (A ^^^ B) % 2 ^ (i + 1) ∧ q * 2 = 2 ^ (i + 1) ∧ a / 2 = A / 2 ^ (i + 1) ∧ b / 2 = B / 2 ^ (i + 1)) := Lib.hid ⟨hn.symm, hbits.out⟩
        clear hn hlt hbits
        go_wp2_with fail
        go_round
        case rel => exact ⟨i + 1, o + q, q * 2, a / 2, b / 2, by go_num, congrArg (Value.int .u64) (by omega), congrArg (Value.int .u64) (by omega), congrArg (Value.int .u64) (by omega), congrArg (Value.int .u64) (by omega), by omega, hoq, hq2, by omega, by omega, HN⟩
        case measure => simp [intOf]; omega
    · obtain rfl : i = 32 := by omega
      have HO : Hid (o = A ^^^ B) := Lib.hid (by rw [HI.out.1, HF.out])
      clear HI
      go_wp2_with fail
      go_ret
      exact ⟨by rw [HO.out]; rfl, rfl⟩
set_option maxHeartbeats 1600000 in
theorem refsum_any (s : ByteArray) (w : World) (hs : s.size ≤ 9223372036854775807) :
    Calls Try.prog 13 #[.string s] w fun e w' => e = .returned (.int .u64 (sumF s.data.toList : Int)) ∧ w = w' := by
  go_enter Try.func13, Try.ntmps13
  go_wp2_with fail
  go_loop [4, 3] (fun v v3 => ∃ k : Nat, k ≤ s.size ∧ v = .int .i64 (k : Int) ∧ v3 = .int .u64 (sumF (s.data.toList.take k) : Int)) (fun v _ => s.size - (intOf v).toNat)
  case atStart => exact ⟨0, Nat.zero_le _, rfl, rfl⟩
  case round =>
    obtain ⟨k, hk, rfl, rfl⟩ := hrel
    obtain ⟨h, hh⟩ : ∃ h, h = sumF (s.data.toList.take k) := ⟨_, rfl⟩
    have hlt := sumF_lt (s.data.toList.take k)
    rw [← hh] at hlt ⊢
    have k0 : (0 : Int) ≤ (k : Int) := by omega
    by_cases hks : k < s.size
    · have k1 : (k : Int) < (s.size : Int) := by omega
      have hbl := byte_lt s[k]
      have hw : IntKind.u64.wrap (s[k].toNat : Int) = (s[k].toNat : Int) := by rw [IntKind.wrap_u64]; omega
      have hxl : h ^^^ s[k].toNat < 4294967296 := Nat.xor_lt_two_pow (n := 32) (by omega) (by omega)
      have HX := Lib.hid (xor_any h s[k].toNat w hlt (by omega))
      have HT := Lib.hid (times_any (h ^^^ s[k].toNat) 16777619 w hxl (by decide))
      have HN : Hid (sumF (s.data.toList.take (k + 1)) = stepS h s[k]) := Lib.hid (by rw [take_snoc s k hks, sumF_snoc, hh])
      clear hh
      go_wp2_with fail
      refine HX.out.mono ?_
      rintro e w1 ⟨rfl, rfl⟩
      go_wp2_with fail
      refine HT.out.mono ?_
      rintro e w1 ⟨rfl, rfl⟩
      go_wp2_with fail
      go_round
      case rel => exact ⟨k + 1, by omega, by go_num, by rw [HN.out]; rfl⟩
      case measure => simp [intOf]; omega
    · obtain rfl : k = s.size := by omega
      have HF : Hid (h = sumF s.data.toList) := Lib.hid (by rw [hh, List.take_of_length_le (by simp)])
      clear hh
      go_wp2_with fail
      go_ret
      exact ⟨by rw [HF.out]; rfl, rfl⟩
end Go.Proofs.Ythhcbmljckgncaa.sha
