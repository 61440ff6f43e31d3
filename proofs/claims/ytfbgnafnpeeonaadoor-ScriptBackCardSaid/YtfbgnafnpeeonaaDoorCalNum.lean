/- What call.Number answers, and what the reference's Num does. Condition: at most a billion bytes; a number of 64 bits; what the listed variables hold. -/
import Derived.Test.YtfbgnafnpeeonaaDoorCalBytes
namespace Go.Proofs.YtfbgnafnpeeonaaDoor.cal
set_option maxRecDepth 100000
open Go.RowKit Go.Proofs.YtfbgnafnpeeonaaDoor.words

theorem below_grow (w : World) (k : Nat) (os : Array Obj) : Below w.heap.size w (Sort.grow (w.drewN k) os) :=
  ⟨rfl, rfl, rfl, by show w.heap.size ≤ (w.heap ++ os).size; rw [Array.size_append]; omega, fun i hi => by
    show (w.heap ++ os)[i]? = _
    rw [Array.getElem?_append_left hi]⟩
def I64 (n : Int) : Prop := -9223372036854775808 ≤ n ∧ n ≤ 9223372036854775807
theorem itoa_any (m : Int) (n : Int) (w : World) (hn : I64 n) (hE : Env m w) :
    Calls Tryd.prog 31 #[.int .i64 n] w fun e w' => (∃ r : ByteArray, e = .returned (.string r) ∧ r.data.toList = Lib.itoa n) ∧ Below w.heap.size w w' := by
  refine (Tryd.strconv_Itoa n hn.1 hn.2 w hE.tab).mono ?_
  rintro e w' ⟨rfl, k, os, rfl⟩
  exact ⟨⟨_, rfl, data_mk _⟩, below_grow w k os⟩
def NumOut (l : List UInt8) (e : Ending) : Prop := (numP l = none ∧ e = .returned (.tuple #[.int .i64 0, .bool false])) ∨ (∃ n : Int, numP l = some n ∧ e = .returned (.tuple #[.int .i64 n, .bool true]))
set_option maxHeartbeats 1600000 in
theorem number_any (m : Int) (s : ByteArray) (w : World) (hs : s.size ≤ 1000000000) (hE : Env m w) :
    Calls Tryd.prog 63 #[.string s] w fun e w' => NumOut s.data.toList e ∧ Below w.heap.size w w' := by
  have HE := Lib.hid hE
  cases ha : Lib.atoiAll s.data.toList with
  | ok v =>
    have hv : I64 v := Lib.atoiAll_bounds ha
    have HA := Lib.hid (Tryd.strconv_Atoi_ok s (by omega) v ha w)
    have HN : Hid (numP s.data.toList = if Lib.itoa v = s.data.toList then some v else none) := Lib.hid (by unfold numP; rw [ha])
    have HV := Lib.hid hv
    clear ha hE hv
    go_enter Tryd.func63, Tryd.ntmps63
    go_wp2_with fail
    refine HA.out.mono ?_
    rintro e w1 ⟨rfl, hw1⟩
    have hb1 : Below w.heap.size w w1 := by
      rcases hw1 with rfl | ⟨t, rfl⟩
      · exact Below.refl _ _
      · exact Lib.bytesWorld_below _ _ _
    have HI := Lib.hid (itoa_any m v w1 HV.out (HE.out.later hb1))
    have HB1 := Lib.hid hb1
    clear hb1 hw1 HA
    go_wp2_with fail
    refine HI.out.mono ?_
    rintro e w2 ⟨⟨r, rfl, hr⟩, hb2⟩
    have HF := Lib.hid (HB1.out.trans (hb2.mono HB1.out.size))
    clear hb2 HI
    by_cases hc : r = s
    · have g1 : (r.toList == s.toList) = true := by rw [hc]; exact beq_self_eq_true _
      have HO : Hid (NumOut s.data.toList (.returned (.tuple #[.int .i64 v, .bool true]))) := Lib.hid (.inr ⟨v, by rw [HN.out, if_pos (by rw [← hr, hc])], rfl⟩)
      clear hc hr
      go_wp2_with fail
      go_ret2
      exact ⟨HO.out, HF.out⟩
    · have g1 : (r.toList == s.toList) = false := by rw [beq_eq_false_iff_ne]; exact fun h => hc (data_inj (by rw [← to_list, ← to_list]; exact h))
      have HO : Hid (NumOut s.data.toList (.returned (.tuple #[.int .i64 0, .bool false]))) := Lib.hid (.inl ⟨by rw [HN.out, if_neg (fun h => hc (data_inj (hr.trans h)))], rfl⟩)
      clear hc hr
      go_wp2_with fail
      go_ret2
      exact ⟨HO.out, HF.out⟩
  | range =>
    obtain ⟨tp, p, hv⟩ := hE.rng
    have HA := Lib.hid (Tryd.strconv_Atoi_range_var s (by omega) ha tp p w hv)
    have HO : Hid (NumOut s.data.toList (.returned (.tuple #[.int .i64 0, .bool false]))) := Lib.hid (.inl ⟨by unfold numP; rw [ha], rfl⟩)
    clear ha hE hv
    go_enter Tryd.func63, Tryd.ntmps63
    go_wp2_with fail
    refine HA.out.mono ?_
    rintro e w1 ⟨N, rfl, _, _, hb⟩
    have HF := Lib.hid hb
    clear hb HA
    go_wp2_with fail
    go_ret2
    exact ⟨HO.out, HF.out⟩
  | _ =>
    obtain ⟨tp, p, hv⟩ := hE.syn
    have HA := Lib.hid (Tryd.strconv_Atoi_syntax_var s (by omega) ⟨fun n h => (by rw [ha] at h; cases h), fun h => (by rw [ha] at h; cases h)⟩ tp p w hv)
    have HO : Hid (NumOut s.data.toList (.returned (.tuple #[.int .i64 0, .bool false]))) := Lib.hid (.inl ⟨by unfold numP; rw [ha], rfl⟩)
    clear ha hE hv
    go_enter Tryd.func63, Tryd.ntmps63
    go_wp2_with fail
    refine HA.out.mono ?_
    rintro e w1 ⟨N, rfl, _, _, hb⟩
    have HF := Lib.hid hb
    clear hb HA
    go_wp2_with fail
    go_ret2
    exact ⟨HO.out, HF.out⟩

/-! The reference's Num -/
theorem itoa_neg_one {n : Int} (h0 : n < 0) (h1 : -10 < n) : Lib.itoa n = [45, UInt8.ofNat (48 + n.natAbs)] := by
  unfold Lib.itoa
  rw [if_pos h0, dd_small (by omega)]
theorem itoa_neg_more {n p : Int} {d : Nat} (h0 : n < 0) (h1 : ¬ -10 < n) (hp : p = Int.tdiv n 10) (hd : d = n.natAbs % 10) : Lib.itoa n = Lib.itoa p ++ [UInt8.ofNat (48 + d)] := by
  have hq : p = -((n.natAbs / 10 : Nat) : Int) := by
    rw [hp]
    have : n = -(n.natAbs : Int) := by omega
    rw [this, Int.neg_tdiv, Int.tdiv_eq_ediv_of_nonneg (by omega)]
    omega
  have hpn : p < 0 := by omega
  have ha : p.natAbs = n.natAbs / 10 := by omega
  unfold Lib.itoa
  rw [if_pos h0, if_pos hpn, dd_big (by omega), ha, hd]
  rfl
theorem itoa_one {n : Int} (h0 : 0 ≤ n) (h1 : n < 10) : Lib.itoa n = [UInt8.ofNat (48 + n.toNat)] := by
  unfold Lib.itoa
  rw [if_neg (by omega), dd_small (by omega)]
theorem itoa_more {n p : Int} {d : Nat} (_ : 0 ≤ n) (h1 : ¬ n < 10) (hp : p = n / 10) (hd : d = n.toNat % 10) : Lib.itoa n = Lib.itoa p ++ [UInt8.ofNat (48 + d)] := by
  unfold Lib.itoa
  rw [if_neg (by omega), if_neg (by omega), dd_big (by omega), hp, hd]
  congr 3
  omega
theorem one_byte (w : World) (c : UInt8) (z : Int) (hz : z = (c.toNat : Int)) : (convert 49 9 (.slice (some ⟨w.heap.size, 0, none⟩) 1 1)).run Tryd.prog (w.alloc (.cells #[.int .u8 z] 5)) = .ok (.string ⟨#[c]⟩) (w.alloc (.cells #[.int .u8 z] 5)) := by
  subst hz
  have := run_convert_bytes_back (P := Tryd.prog) (w.alloc (.cells #[.int .u8 (c.toNat : Int)] 5)) 49 9 5 ⟨w.heap.size, 0, none⟩ 1 [c] Tryd.underlying49 Tryd.underlying5 Tryd.underlying9 (fun j hj => by
    obtain rfl : j = 0 := by simpa using hj
    simp [Addr.add])
  exact this
set_option maxHeartbeats 800000 in
theorem num_neg_one (n : Int) (hn : I64 n) (h0 : n < 0) (h1 : -10 < n) (w : World) :
    Calls Tryd.prog 24 #[.int .i64 n] w fun e w' => (∃ r : ByteArray, e = .returned (.string r) ∧ r.data.toList = Lib.itoa n) ∧ Below w.heap.size w w' := by
  obtain ⟨hn0, hn1⟩ := hn
  obtain ⟨q, hq⟩ : ∃ q : Int, q = Int.tmod n 10 := ⟨_, rfl⟩
  obtain ⟨p, hp⟩ : ∃ p : Int, p = Int.tdiv n 10 := ⟨_, rfl⟩
  obtain ⟨d, hd⟩ : ∃ d : Nat, d = n.natAbs % 10 := ⟨_, rfl⟩
  have hqd : q = -(d : Int) := by
    rw [hq, hd]
    have : n = -(n.natAbs : Int) := by omega
    rw [this, Int.neg_tmod, Int.tmod_eq_emod_of_nonneg (by omega)]
    omega
  have hpa : p = -((n.natAbs / 10 : Nat) : Int) := by
    rw [hp]
    have : n = -(n.natAbs : Int) := by omega
    rw [this, Int.neg_tdiv, Int.tdiv_eq_ediv_of_nonneg (by omega)]
    omega
  have q1 : Int.tmod n 10 = q := hq.symm
  have p1 : Int.tdiv n 10 = p := hp.symm
  have q2 : -9 ≤ q := by omega
  have q3 : q ≤ 0 := by omega
  have hob := one_byte w (UInt8.ofNat (48 + d)) (48 - q) (by rw [UInt8.toNat_ofNat']; omega)
  obtain ⟨W1, hW1⟩ : ∃ W1, W1 = w.alloc (.cells #[.int .u8 (48 - q)] 5) := ⟨_, rfl⟩
  have hb1 : Below w.heap.size w W1 := by rw [hW1]; exact (Below.refl _ _).alloc (Nat.le_refl _) _
  obtain ⟨lb, hlb⟩ : ∃ lb : ByteArray, lb = ⟨#[UInt8.ofNat (48 + d)]⟩ := ⟨_, rfl⟩
  rw [← hlb] at hob
  have hlz : lb.size = 1 := by rw [hlb]; rfl
  have HL := Lib.hid hlb
  have HB1 := Lib.hid hb1
  have HW1 := Lib.hid hW1.symm
  have HI := Lib.hid (itoa_neg_one h0 h1)
  have HD := Lib.hid (show d = n.natAbs by omega)
  clear hq hp hd hqd hpa p1 hlb hb1 hW1
  go_enter Tryd.func24, Tryd.ntmps24
  go_wp2_with fail
  go_ret
  exact ⟨⟨_, rfl, by rw [app_data, HL.out, HI.out, HD.out]; rfl⟩, by rw [HW1.out]; exact HB1.out⟩
set_option maxHeartbeats 800000 in
theorem num_one (n : Int) (hn : I64 n) (h0 : 0 ≤ n) (h1 : n < 10) (w : World) :
    Calls Tryd.prog 24 #[.int .i64 n] w fun e w' => (∃ r : ByteArray, e = .returned (.string r) ∧ r.data.toList = Lib.itoa n) ∧ Below w.heap.size w w' := by
  obtain ⟨hn0, hn1⟩ := hn
  obtain ⟨q, hq⟩ : ∃ q : Int, q = n % 10 := ⟨_, rfl⟩
  obtain ⟨p, hp⟩ : ∃ p : Int, p = n / 10 := ⟨_, rfl⟩
  obtain ⟨d, hd⟩ : ∃ d : Nat, d = n.toNat % 10 := ⟨_, rfl⟩
  have hqd : q = (d : Int) := by omega
  have q1 : n % 10 = q := hq.symm
  have p1 : n / 10 = p := hp.symm
  have q0 : Int.tmod n 10 = q := by rw [hq]; exact Int.tmod_eq_emod_of_nonneg h0
  have p0 : Int.tdiv n 10 = p := by rw [hp]; exact Int.tdiv_eq_ediv_of_nonneg h0
  have q2 : 0 ≤ q := by omega
  have q3 : q ≤ 9 := by omega
  have hob := one_byte w (UInt8.ofNat (48 + d)) (48 + q) (by rw [UInt8.toNat_ofNat']; omega)
  obtain ⟨W1, hW1⟩ : ∃ W1, W1 = w.alloc (.cells #[.int .u8 (48 + q)] 5) := ⟨_, rfl⟩
  have hb1 : Below w.heap.size w W1 := by rw [hW1]; exact (Below.refl _ _).alloc (Nat.le_refl _) _
  obtain ⟨lb, hlb⟩ : ∃ lb : ByteArray, lb = ⟨#[UInt8.ofNat (48 + d)]⟩ := ⟨_, rfl⟩
  rw [← hlb] at hob
  have hlz : lb.size = 1 := by rw [hlb]; rfl
  have HL := Lib.hid hlb
  have HB1 := Lib.hid hb1
  have HW1 := Lib.hid hW1.symm
  have HI := Lib.hid (itoa_one h0 h1)
  have HD := Lib.hid (show d = n.toNat by omega)
  clear hq hp hd hqd p0 p1 hlb hb1 hW1
  go_enter Tryd.func24, Tryd.ntmps24
  go_wp2_with fail
  go_ret
  exact ⟨⟨_, rfl, by rw [HL.out, HI.out, HD.out]⟩, by rw [HW1.out]; exact HB1.out⟩
set_option maxHeartbeats 800000 in
theorem num_neg_more (n : Int) (hn : I64 n) (h0 : n < 0) (h1 : ¬ -10 < n) (w : World)
    (hc : ∀ w' : World, Calls Tryd.prog 24 #[.int .i64 (Int.tdiv n 10)] w' fun e w'' => (∃ r : ByteArray, e = .returned (.string r) ∧ r.data.toList = Lib.itoa (Int.tdiv n 10)) ∧ Below w'.heap.size w' w'') :
    Calls Tryd.prog 24 #[.int .i64 n] w fun e w' => (∃ r : ByteArray, e = .returned (.string r) ∧ r.data.toList = Lib.itoa n) ∧ Below w.heap.size w w' := by
  obtain ⟨hn0, hn1⟩ := hn
  obtain ⟨q, hq⟩ : ∃ q : Int, q = Int.tmod n 10 := ⟨_, rfl⟩
  obtain ⟨p, hp⟩ : ∃ p : Int, p = Int.tdiv n 10 := ⟨_, rfl⟩
  obtain ⟨d, hd⟩ : ∃ d : Nat, d = n.natAbs % 10 := ⟨_, rfl⟩
  have hqd : q = -(d : Int) := by
    rw [hq, hd]
    have : n = -(n.natAbs : Int) := by omega
    rw [this, Int.neg_tmod, Int.tmod_eq_emod_of_nonneg (by omega)]
    omega
  have hpa : p = -((n.natAbs / 10 : Nat) : Int) := by
    rw [hp]
    have : n = -(n.natAbs : Int) := by omega
    rw [this, Int.neg_tdiv, Int.tdiv_eq_ediv_of_nonneg (by omega)]
    omega
  have q1 : Int.tmod n 10 = q := hq.symm
  have p1 : Int.tdiv n 10 = p := hp.symm
  have q2 : -9 ≤ q := by omega
  have q3 : q ≤ 0 := by omega
  have pb0 : -922337203685477580 ≤ p := by omega
  have pb1 : p ≤ 0 := by omega
  have hob := one_byte w (UInt8.ofNat (48 + d)) (48 - q) (by rw [UInt8.toNat_ofNat']; omega)
  obtain ⟨W1, hW1⟩ : ∃ W1, W1 = w.alloc (.cells #[.int .u8 (48 - q)] 5) := ⟨_, rfl⟩
  have hb1 : Below w.heap.size w W1 := by rw [hW1]; exact (Below.refl _ _).alloc (Nat.le_refl _) _
  obtain ⟨lb, hlb⟩ : ∃ lb : ByteArray, lb = ⟨#[UInt8.ofNat (48 + d)]⟩ := ⟨_, rfl⟩
  rw [← hlb] at hob
  have hlz : lb.size = 1 := by rw [hlb]; rfl
  have HL := Lib.hid hlb
  have HB1 := Lib.hid hb1
  have HW1 := Lib.hid hW1.symm
  have HI := Lib.hid (itoa_neg_more h0 h1 hp hd)
  have HC := Lib.hid (hc W1)
  rw [p1] at HC
  have HP : Hid ((Lib.itoa p).length ≤ 21) := Lib.hid (Lib.itoa_length_le p (by omega) (by omega))
  clear hc hq hp hd hqd hpa hlb hb1 hW1
  go_enter Tryd.func24, Tryd.ntmps24
  go_wp2_with fail
  rw [HW1.out]
  refine HC.out.mono ?_
  rintro e w2 ⟨⟨r, rfl, hr⟩, hb2⟩
  have hrz : r.size ≤ 21 := by rw [← size_list, hr]; exact HP.out
  have HR := Lib.hid hr
  have HF := Lib.hid (HB1.out.trans (hb2.mono HB1.out.size))
  clear hr hb2 HC hob
  go_wp2_with fail
  go_ret
  exact ⟨⟨_, rfl, by rw [app_data, HR.out, HL.out, HI.out]⟩, HF.out⟩
set_option maxHeartbeats 800000 in
theorem num_more (n : Int) (hn : I64 n) (h0 : 0 ≤ n) (h1 : ¬ n < 10) (w : World)
    (hc : ∀ w' : World, Calls Tryd.prog 24 #[.int .i64 (n / 10)] w' fun e w'' => (∃ r : ByteArray, e = .returned (.string r) ∧ r.data.toList = Lib.itoa (n / 10)) ∧ Below w'.heap.size w' w'') :
    Calls Tryd.prog 24 #[.int .i64 n] w fun e w' => (∃ r : ByteArray, e = .returned (.string r) ∧ r.data.toList = Lib.itoa n) ∧ Below w.heap.size w w' := by
  obtain ⟨hn0, hn1⟩ := hn
  obtain ⟨q, hq⟩ : ∃ q : Int, q = n % 10 := ⟨_, rfl⟩
  obtain ⟨p, hp⟩ : ∃ p : Int, p = n / 10 := ⟨_, rfl⟩
  obtain ⟨d, hd⟩ : ∃ d : Nat, d = n.toNat % 10 := ⟨_, rfl⟩
  have hqd : q = (d : Int) := by omega
  have q1 : n % 10 = q := hq.symm
  have p1 : n / 10 = p := hp.symm
  have q0 : Int.tmod n 10 = q := by rw [hq]; exact Int.tmod_eq_emod_of_nonneg h0
  have p0 : Int.tdiv n 10 = p := by rw [hp]; exact Int.tdiv_eq_ediv_of_nonneg h0
  have q2 : 0 ≤ q := by omega
  have q3 : q ≤ 9 := by omega
  have hob := one_byte w (UInt8.ofNat (48 + d)) (48 + q) (by rw [UInt8.toNat_ofNat']; omega)
  obtain ⟨W1, hW1⟩ : ∃ W1, W1 = w.alloc (.cells #[.int .u8 (48 + q)] 5) := ⟨_, rfl⟩
  have hb1 : Below w.heap.size w W1 := by rw [hW1]; exact (Below.refl _ _).alloc (Nat.le_refl _) _
  obtain ⟨lb, hlb⟩ : ∃ lb : ByteArray, lb = ⟨#[UInt8.ofNat (48 + d)]⟩ := ⟨_, rfl⟩
  rw [← hlb] at hob
  have hlz : lb.size = 1 := by rw [hlb]; rfl
  have HL := Lib.hid hlb
  have HB1 := Lib.hid hb1
  have HW1 := Lib.hid hW1.symm
  have HI := Lib.hid (itoa_more h0 h1 hp hd)
  have HC := Lib.hid (hc W1)
  rw [p1] at HC
  have HP : Hid ((Lib.itoa p).length ≤ 21) := Lib.hid (Lib.itoa_length_le p (by omega) (by omega))
  clear hc hq hp hd hqd hlb hb1 hW1
  go_enter Tryd.func24, Tryd.ntmps24
  go_wp2_with fail
  rw [HW1.out]
  refine HC.out.mono ?_
  rintro e w2 ⟨⟨r, rfl, hr⟩, hb2⟩
  have hrz : r.size ≤ 21 := by rw [← size_list, hr]; exact HP.out
  have HR := Lib.hid hr
  have HF := Lib.hid (HB1.out.trans (hb2.mono HB1.out.size))
  clear hr hb2 HC hob
  go_wp2_with fail
  go_ret
  exact ⟨⟨_, rfl, by rw [app_data, HR.out, HL.out, HI.out]⟩, HF.out⟩
theorem num_any : ∀ (k : Nat) (n : Int), n.natAbs < k → I64 n → ∀ w : World, Calls Tryd.prog 24 #[.int .i64 n] w fun e w' => (∃ r : ByteArray, e = .returned (.string r) ∧ r.data.toList = Lib.itoa n) ∧ Below w.heap.size w w'
  | 0, n, h, _, _ => absurd h (Nat.not_lt_zero _)
  | k + 1, n, hk, hn, w => by
    by_cases h0 : n < 0
    · by_cases h1 : -10 < n
      · exact num_neg_one n hn h0 h1 w
      · have hpa : Int.tdiv n 10 = -((n.natAbs / 10 : Nat) : Int) := by
          have : n = -(n.natAbs : Int) := by omega
          rw [this, Int.neg_tdiv, Int.tdiv_eq_ediv_of_nonneg (by omega)]
          omega
        refine num_neg_more n hn h0 h1 w (num_any k _ (by omega) ?_)
        unfold I64 at hn ⊢
        omega
    · by_cases h1 : n < 10
      · exact num_one n hn (by omega) h1 w
      · refine num_more n hn (by omega) h1 w (num_any k _ (by omega) ?_)
        unfold I64 at hn ⊢
        omega
theorem refnum_any (n : Int) (hn : I64 n) (w : World) : Calls Tryd.prog 24 #[.int .i64 n] w fun e w' => (∃ r : ByteArray, e = .returned (.string r) ∧ r.data.toList = Lib.itoa n) ∧ Below w.heap.size w w' := num_any (n.natAbs + 1) n (Nat.lt_succ_self _) hn w
end Go.Proofs.YtfbgnafnpeeonaaDoor.cal
