/- exploration -/
import Derived.Test.YtikcipibdebcaaaWireText
import Derived.Laws.BitsLemmas
namespace Go.Proofs.Ytikcipibdebcaaa.wire
open Go.RowKit Go.Proofs.Ytikcipibdebcaaa.words

/-- The number that bytes are, the highest first. -/
def num (l : List UInt8) : Nat := l.foldl (fun n b => n * 256 + b.toNat) 0
theorem num_snoc (l : List UInt8) (b : UInt8) : num (l ++ [b]) = num l * 256 + b.toNat := by simp [num]
theorem num_lt : ∀ (k : Nat) (l : List UInt8), l.length = k → num l < 256 ^ k
  | 0, l, h => by
    have : l = [] := List.eq_nil_of_length_eq_zero h
    subst this
    simp [num]
  | k + 1, l, h => by
    obtain ⟨init, b, rfl⟩ : ∃ init b, l = init ++ [b] := ⟨l.dropLast, l.getLast (by intro e; subst e; simp at h), (List.dropLast_concat_getLast _).symm⟩
    have hi := num_lt k init (by simpa using h)
    have hb := b.toNat_lt
    rw [num_snoc, Nat.pow_succ]
    omega
theorem size_list (s : ByteArray) : s.data.toList.length = s.size := by rw [Array.length_toList]; rfl
theorem take_snoc (s : ByteArray) (k : Nat) (h : k < s.size) : s.data.toList.take (k + 1) = s.data.toList.take k ++ [s[k]] := by
  rw [List.take_succ_eq_append_getElem (by simpa using h)]; rfl
theorem num_take (s : ByteArray) (k : Nat) (h : k < s.size) : num (s.data.toList.take (k + 1)) = num (s.data.toList.take k) * 256 + s[k].toNat := by
  rw [take_snoc s k h, num_snoc]

/-! Fits -/
theorem quo_pow (n : Int) (k : Nat) : n / 2 ^ (8 * k) / 256 = n / 2 ^ (8 * (k + 1)) := by
  rw [Int.ediv_ediv_of_nonneg (Int.pow_nonneg (by omega))]
  rw [show 8 * (k + 1) = 8 * k + 8 from by omega, Int.pow_add]
  rfl
theorem fits_bad (n size : Int) (w : World) (h : size < 1 ∨ 4 < size ∨ n < 0) : Calls Try.prog 7 #[.int .i64 n, .int .i64 size] w fun e w' => e = .returned (.bool false) ∧ w = w' := by
  by_cases h1 : size < 1
  · go_enter Try.func7, Try.ntmps7
    go_wp2
    go_ret
    exact ⟨rfl, rfl⟩
  · have d1 : decide (size < 1) = false := by simp; omega
    by_cases h2 : 4 < size
    · go_enter Try.func7, Try.ntmps7
      go_wp2
      go_ret
      exact ⟨rfl, rfl⟩
    · have d2 : decide (4 < size) = false := by simp; omega
      have h3 : n < 0 := by omega
      go_enter Try.func7, Try.ntmps7
      go_wp2
      go_ret
      exact ⟨rfl, rfl⟩
set_option maxHeartbeats 400000 in
theorem fits_good (n : Int) (s : Nat) (w : World) (h1 : 1 ≤ s) (h2 : s ≤ 4) (h3 : 0 ≤ n) (h64 : n ≤ 9223372036854775807) : Calls Try.prog 7 #[.int .i64 n, .int .i64 (s : Int)] w fun e w' => e = .returned (.bool (n / 2 ^ (8 * s) == 0)) ∧ w = w' := by
  have d1 : decide ((s : Int) < 1) = false := by simp; omega
  have d2 : decide (4 < (s : Int)) = false := by simp; omega
  have d3 : decide (n < 0) = false := by simp; omega
  go_enter Try.func7, Try.ntmps7
  go_wp2
  clear d1 d2 d3
  go_loop [0, 5] (fun v c => ∃ k : Nat, k ≤ s ∧ c = .int .i64 k ∧ v = .int .i64 (n / 2 ^ (8 * k))) (fun _ c => s - (intOf c).toNat)
  case atStart => exact ⟨0, Nat.zero_le _, rfl, by simp⟩
  case round =>
    obtain ⟨k, hk, rfl, rfl⟩ := hrel
    have hq : 0 ≤ n / 2 ^ (8 * k) := Int.ediv_nonneg h3 (Int.pow_nonneg (by omega))
    have hq2 : n / 2 ^ (8 * k) ≤ 9223372036854775807 := Int.le_trans (Int.ediv_le_self _ h3) h64
    by_cases hlt : k < s
    · have HQ := Lib.hid (quo_pow n k)
      go_wp2
      go_round
      case rel => exact ⟨k + 1, by omega, by go_num, by rw [← HQ.out]⟩
      case measure => simp [intOf]; omega
    · obtain rfl : k = s := by omega
      go_wp2
      go_ret
      exact ⟨rfl, rfl⟩
theorem fits_any (n size : Int) (w : World) (h64 : n ≤ 9223372036854775807) : Calls Try.prog 7 #[.int .i64 n, .int .i64 size] w fun e w' => e = .returned (.bool (fits n size)) ∧ w = w' := by
  by_cases h : size < 1 ∨ 4 < size ∨ n < 0
  · have e : fits n size = false := decide_eq_false (by omega)
    rw [e]
    exact fits_bad n size w h
  · obtain ⟨s, rfl⟩ := Int.eq_ofNat_of_zero_le (show 0 ≤ size by omega)
    have e : fits n (s : Int) = (n / 2 ^ (8 * s) == 0) := by
      have hp : (0 : Int) < 2 ^ (8 * s) := Int.pow_pos (by omega)
      rw [fits, Bool.eq_iff_iff, decide_eq_true_iff, beq_iff_eq]
      constructor
      · intro hh
        exact Int.ediv_eq_zero_of_lt hh.2.2.1 (by simpa using hh.2.2.2)
      · intro hh
        refine ⟨by omega, by omega, by omega, ?_⟩
        rcases Int.lt_or_le n (2 ^ (8 * s)) with hlt | hle
        · simpa using hlt
        · have : 1 ≤ n / 2 ^ (8 * s) := Int.le_ediv_of_mul_le hp (by omega)
          omega
    rw [e]
    exact fits_good n s w (by omega) (by omega) (by omega) h64

/-! Get -/
set_option maxHeartbeats 400000 in
theorem get_any (s : ByteArray) (w : World) (hs : s.size ≤ 4) : Calls Try.prog 13 #[.string s] w fun e w' => e = .returned (.int .i64 (num s.data.toList : Int)) ∧ w = w' := by
  go_enter Try.func13, Try.ntmps13
  go_wp2
  go_loop [3, 4] (fun v c => ∃ k : Nat, k ≤ s.size ∧ c = .int .i64 k ∧ v = .int .i64 (num (s.data.toList.take k) : Int)) (fun _ c => s.size - (intOf c).toNat)
  case atStart => exact ⟨0, Nat.zero_le _, rfl, by simp [num]⟩
  case round =>
    obtain ⟨k, hk, rfl, rfl⟩ := hrel
    have hn := num_lt k (s.data.toList.take k) (by rw [List.length_take, size_list]; omega)
    have hp : 256 ^ k ≤ 256 ^ 4 := Nat.pow_le_pow_right (by omega) (by omega)
    obtain ⟨m, hm⟩ : ∃ m, m = num (s.data.toList.take k) := ⟨_, rfl⟩
    rw [← hm] at hn ⊢
    have hm4 : m < 4294967296 := by omega
    by_cases hlt : k < s.size
    · have HM := Lib.hid (num_take s k hlt)
      have HN := Lib.hid hm
      have hb1 : (s[k].toNat : Int) ≤ 255 := by have := s[k].toNat_lt; omega
      have hb0 : 0 ≤ (s[k].toNat : Int) := by omega
      clear hn hp hm
      go_wp2
      go_round
      case rel => exact ⟨k + 1, by omega, by go_num, by rw [HM.out, ← HN.out]; go_num⟩
      case measure => simp [intOf]; omega
    · have HN := Lib.hid hm
      clear hn hp hm
      go_wp2
      go_ret
      refine ⟨?_, rfl⟩
      have := HN.out
      rw [List.take_of_length_le (by rw [size_list]; omega)] at this
      show Ending.returned (Value.int .i64 (m : Int)) = _
      rw [this]

/-! Put of the reference -/
theorem info5' : (Try.prog.info? 5).map (fun i => (i.zero, i.size, i.bytes)) = some (some (.int .u8 0), 1, 1) := by kernel_rfl
theorem be_drop (n : Int) (s m : Nat) (h : m < s) : (be n s).drop m = byteAt n (s - 1 - m) :: (be n s).drop (m + 1) := by
  rw [List.drop_eq_getElem_cons (by rw [be_length]; exact h)]
  simp [be]
theorem drop_set (cs : List Value) (m : Nat) (v : Value) (h : m < cs.length) : (cs.set m v).drop m = v :: cs.drop (m + 1) := by
  rw [List.drop_eq_getElem_cons (by simpa using h), List.getElem_set_self, List.drop_set_of_lt (by omega)]
theorem byte_one (q : Int) (n : Int) (e : Nat) (h : q = n / 2 ^ (8 * e)) : Value.int .u8 (q % 256) = Value.int .u8 ((byteAt n e).toNat : Int) := by
  have h1 : 0 ≤ n / 2 ^ (8 * e) % 256 := Int.emod_nonneg _ (by omega)
  have h2 : n / 2 ^ (8 * e) % 256 < 256 := Int.emod_lt_of_pos _ (by omega)
  have h3 : ((UInt8.ofNat (n / 2 ^ (8 * e) % 256).toNat).toNat : Int) = n / 2 ^ (8 * e) % 256 := by
    rw [UInt8.toNat_ofNat']; omega
  rw [byteAt, h3, h]
theorem ref_step {w wr : World} {s m : Nat} {cs : List Value} {n q : Int} (hm : m < s) (hq : q = n / 2 ^ (8 * (s - 1 - m))) (hcl : cs.length = s) (hb : wr.heap[w.heap.size]? = some (.cells cs.toArray 5 (0, 0)))
    (hd : cs.drop (m + 1) = Lib.byteCells ((be n s).drop (m + 1))) (hbel : Below w.heap.size w wr) :
    (cs.set m (.int .u8 (q % 256))).length = s ∧ (wr.setCell ⟨w.heap.size, m, none⟩ (.int .u8 (q % 256))).heap[w.heap.size]? = some (.cells (cs.set m (.int .u8 (q % 256))).toArray 5 (0, 0)) ∧
      (cs.set m (.int .u8 (q % 256))).drop m = Lib.byteCells ((be n s).drop m) ∧ Below w.heap.size w (wr.setCell ⟨w.heap.size, m, none⟩ (.int .u8 (q % 256))) := by
  refine ⟨by simpa using hcl, by simp [World.setCell, Array.getElem?_modify, hb], ?_, hbel.setCell (p := ⟨w.heap.size, m, none⟩) (Nat.le_refl _) _⟩
  rw [drop_set _ _ _ (by omega), be_drop n s m hm, hd, byte_one q n _ hq]
  simp [Lib.byteCells]

set_option maxHeartbeats 800000 in
theorem refput_any (t : ByteArray) (n : Int) (s : Nat) (w : World) (h1 : 1 ≤ s) (h2 : s ≤ 4) (h3 : 0 ≤ n) (h64 : n ≤ 9223372036854775807) (ht : t.size ≤ 1000000000) :
    Calls Try.prog 8 #[.string t, .int .i64 n, .int .i64 (s : Int)] w fun e w' => e = .returned (.string ⟨(t.data.toList ++ be n s).toArray⟩) ∧ Below w.heap.size w w' := by
  obtain ⟨i0, hi, hz0, hz1, hz2⟩ := info_parts info5
  have hmk : ∀ u : World, (Instr.makeSlice 24 (.int .i64 (s : Int)) (.int .i64 (s : Int))).run Try.prog u =
      .ok (.slice (some ⟨u.heap.size, 0, none⟩) s s) (u.alloc (.cells (madeCells #[.int .u8 0] s) 5)) := fun u => by
    have h := run_make (P := Try.prog) u 24 5 i0 (.int .u8 0) Try.underlying24 hi hz0 .i64 .i64 (s : Int) (s : Int) (by omega) (Int.le_refl _) (by rw [hz2]; omega) (by omega)
    simpa [hz1, Value.cells] using h
  go_enter Try.func8, Try.ntmps8
  go_wp2
  clear hmk
  go_loopw [1, 8] (fun v c wr => ∃ (j : Nat) (q : Int) (cs : List Value), j ≤ s ∧ c = .int .i64 ((j : Int) - 1) ∧ v = .int .i64 q ∧ q = n / 2 ^ (8 * (s - j)) ∧ 0 ≤ q ∧ q ≤ 9223372036854775807 ∧
      cs.length = s ∧ wr.heap[w.heap.size]? = some (.cells cs.toArray 5 (0, 0)) ∧ cs.drop j = Lib.byteCells ((be n s).drop j) ∧ Below w.heap.size w wr)
    (fun _ c _ => (intOf c + 1).toNat)
  case atStart =>
    refine ⟨s, n, List.replicate s (.int .u8 0), Nat.le_refl _, rfl, rfl, by simp, h3, h64, by simp, ?_, ?_, (Below.refl _ _).alloc (Nat.le_refl _) _⟩
    · rw [heap_alloc_new]
      congr 2
      apply Array.ext'
      rw [toList_madeCells_one]
    · rw [List.drop_of_length_le (by simp), List.drop_of_length_le (by rw [be_length]; exact Nat.le_refl _)]
      rfl
  case round =>
    obtain ⟨j, q, cs, hj, rfl, rfl, hq, hq0, hq1, hcl, hb, hd, hbel⟩ := hrel
    rcases j with _ | m
    · have HB := Lib.hid hb
      have HD := Lib.hid hd
      have HL := Lib.hid hbel
      have HC := Lib.hid hcl
      obtain ⟨r, hr⟩ : ∃ r : ByteArray, r = ⟨(be n s).toArray⟩ := ⟨_, rfl⟩
      have hrs : r.size ≤ 4 := by rw [hr]; show (be n s).toArray.size ≤ 4; simp [be]; omega
      have hcs : cs = Lib.byteCells (be n s) := by simpa using hd
      have hcv : (convert 24 9 (.slice (some ⟨w.heap.size, 0, none⟩) s s)).run Try.prog wr = .ok (.string r) wr := by
        have h := run_convert_bytes_back (P := Try.prog) wr 24 9 5 ⟨w.heap.size, 0, none⟩ s (be n s) Try.underlying24 Try.underlying5 Try.underlying9
          (Lib.bytes_of_row hb (by rw [be_length]; simp only []; rw [hcs, List.take_of_length_le (by rw [Lib.byteCells_length, be_length]; exact Nat.le_refl _)]))
        rw [be_length] at h
        rw [hr]
        exact h
      have HR := Lib.hid hr
      clear hb hd hbel hcl hq hcs hr
      go_wp2
      go_ret
      refine ⟨?_, HL.out⟩
      show Ending.returned (Value.string (t ++ r)) = _
      rw [HR.out]
      obtain ⟨⟨tl⟩⟩ := t
      rfl
    · have e1 : ((m + 1 : Nat) : Int) - 1 = (m : Int) := by omega
      rw [e1]
      have e2 : s - (m + 1) = s - 1 - m := by omega
      rw [e2] at hq
      have hm : m < s := by omega
      have P := ref_step hm hq hcl hb hd hbel
      have HP := Lib.hid P
      have HQ := Lib.hid hq
      have hlt : w.heap.size < wr.heap.size := lt_of_some hb
      have hce : ∃ u, wr.cell? ⟨w.heap.size, m, none⟩ = some u := ⟨_, (cell_of_blk hb m).trans (by simpa using List.getElem?_eq_getElem (by omega))⟩
      obtain ⟨u, hu⟩ := hce
      have hf := free_of_blk hb m
      have Q2 := Lib.hid (quo_pow n (s - 1 - m))
      clear P hb hd hbel hcl hq e1 e2
      go_wp2
      go_roundw
      case rel =>
        refine ⟨m, q / 256, _, by omega, rfl, rfl, ?_, by omega, by omega, HP.out.1, HP.out.2.1, HP.out.2.2.1, HP.out.2.2.2⟩
        rw [HQ.out, Q2.out]
        congr 3
        omega
      case measure => simp [intOf]
end Go.Proofs.Ytikcipibdebcaaa.wire
