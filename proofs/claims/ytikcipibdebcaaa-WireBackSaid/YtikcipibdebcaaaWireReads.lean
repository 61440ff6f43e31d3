/- The walk of WireReads: at any text and any slice of items it returns true and leaves all that was as it was. Conditions: the text's and the slice's lengths are such. -/
import Derived.Test.YtikcipibdebcaaaWireWrites
namespace Go.Proofs.Ytikcipibdebcaaa.wire
open Go.RowKit Go.Proofs.Ytikcipibdebcaaa.words

theorem rest_size {s t : ByteArray} {p : Nat} (h : t.data.toList = s.data.toList.drop p) (hp : p ≤ s.size) : t.size + p = s.size := by
  have : t.size = s.size - p := by rw [← size_list, h, List.length_drop, size_list]
  omega
/-- What a reader that stands at place p of the text s reads next. -/
theorem cut_at {s t : ByteArray} {p k : Nat} (h : t.data.toList = s.data.toList.drop p) : (s.extract p (p + k)).data.toList = t.data.toList.take k := by
  rw [Lib.extract_data, h]
  have : p + k - p = k := by omega
  rw [this]
theorem take_ok (g B : Nat) (s : ByteArray) (size : Nat) (w : World) (h : Rd g s w) (hB : B ≤ g) (h1 : 1 ≤ size) (h2 : size ≤ 4) (h3 : size ≤ s.size) (hs : s.size ≤ maxLen) :
    Calls Try.prog 14 #[.pointer (some ⟨g, 0, none⟩), .int .i64 (size : Int)] w fun e w' => ∃ s' : ByteArray, e = .returned (.tuple #[.int .i64 (num (s.data.toList.take size) : Int), .bool true]) ∧
      s'.data.toList = s.data.toList.drop size ∧ Rd g s' w' ∧ Kept Rs B w w' :=
  (take_yes g s size w h h1 h2 h3 hs).mono fun _ _ ⟨he, hw⟩ => ⟨_, he, drop_of s size, by rw [← hw]; exact (rd_set h hB).1, by rw [← hw]; exact (rd_set h hB).2⟩
theorem get_cut (s t : ByteArray) (p z : Nat) (w : World) (h : t.data.toList = s.data.toList.drop p) (hz : z ≤ 4) : Calls Try.prog 13 #[.string (s.extract p (p + z))] w fun e w' => e = .returned (.int .i64 (num (t.data.toList.take z) : Int)) ∧ w = w' :=
  (get_any (s.extract p (p + z)) w (by rw [ByteArray.size_extract]; omega)).mono fun _ _ ⟨he, hw⟩ => ⟨by rw [he, cut_at h], hw⟩
theorem same_text {x y : ByteArray} (h : x.data.toList = y.data.toList) : x = y := by
  obtain ⟨⟨l⟩⟩ := x
  obtain ⟨⟨m⟩⟩ := y
  have : l = m := h
  rw [this]

set_option maxRecDepth 100000 in
set_option maxHeartbeats 6400000 in
theorem reads_walk (s : ByteArray) (A : Option Addr) (len cap : Nat) (L : List It) (w : World) (hs : s.size ≤ maxLen) (hL : L.length = len) (hI : Items w w.heap.size A L) (hlen : len ≤ 9223372036854775807) :
    Calls Try.prog 4 #[.string s, .slice A len cap] w fun e w' => e = .returned (.bool true) ∧ Below w.heap.size w w' := by
  unfold maxLen at hs
  have HLe := Lib.hid hL
  have HI := Lib.hid hI
  clear hL hI
  by_cases hbig : 2000 < s.size
  · go_enter Try.func4, Try.ntmps4
    go_wp2_with (go_at_call 6; refine (speaks_any _).mono ?_; rintro e w1 ⟨rfl, hb1⟩)
    go_ret
    exact ⟨rfl, hb1⟩
  · have d1 : decide (2000 < (s.size : Int)) = false := by simp; omega
    by_cases hbig2 : 50 < len
    · go_enter Try.func4, Try.ntmps4
      go_wp2_with (go_at_call 6; refine (speaks_any _).mono ?_; rintro e w1 ⟨rfl, hb1⟩)
      go_ret
      exact ⟨rfl, hb1⟩
    · have d2 : decide (50 < (len : Int)) = false := by simp; omega
      go_enter Try.func4, Try.ntmps4
      go_wp2_with fail
      refine (speaks_any _).mono ?_
      rintro e w1 ⟨rfl, hb1⟩
      have B1 := Lib.hid hb1
      clear hb1
      go_wp2_with fail
      refine (read_any _ _).mono ?_
      rintro e w2 ⟨rfl, rfl⟩
      go_wp2_with fail
      clear d1 d2
      have I1 := Lib.hid (((HI.out).keep B1.out).more B1.out.size)
      go_loopw [6, 30] (fun v c wr => ∃ (k p : Nat) (t : ByteArray), k ≤ len ∧ c = .int .i64 k ∧ v = .int .i64 p ∧ p ≤ s.size ∧ t.data.toList = s.data.toList.drop p ∧ Rd w1.heap.size t wr ∧ Below w1.heap.size w1 wr)
        (fun _ c _ => len - (intOf c).toNat)
      case atStart => exact ⟨0, 0, s, Nat.zero_le _, rfl, rfl, Nat.zero_le _, rfl, heap_alloc_new w1 _, (Below.refl _ _).alloc (Nat.le_refl _) _⟩
      case round =>
        obtain ⟨k, p, t, hk, rfl, rfl, hp, ht, hrd, hbel⟩ := hrel
        by_cases hlt : k < len
        · have I2 := I1.out.keep hbel
          obtain ⟨x, hx⟩ : ∃ x, L[k]? = some x := ⟨_, List.getElem?_eq_getElem (by rw [HLe.out]; exact hlt)⟩
          obtain ⟨⟨b, off, rfl, hB, c0, c1, c2, c3⟩, hN, hS⟩ := I2 k x hx
          obtain ⟨N, Z, S, Is⟩ := x
          simp only at c0 c1 c2 c3 hN hS
          have hts : t.size + p = s.size := rest_size ht hp
          have HT := Lib.hid ht
          have HR := Lib.hid hrd
          have HB := Lib.hid hbel
          have hgl : w1.heap.size < wr.heap.size := lt_of_some hrd
          have HA := Lib.hid (fun o => show Rd w1.heap.size t (wr.alloc o) from (Below.heap_alloc wr o _ hgl).trans hrd)
          have HBX := Lib.hid (fun o => hbel.alloc hbel.size o)
          clear hrd hbel hx I2 ht
          by_cases hhead : 1 ≤ Z ∧ Z ≤ 4 ∧ Z ≤ (t.size : Int)
          · obtain ⟨hz1, hz2, hz3⟩ := hhead
            obtain ⟨z, rfl⟩ := Int.eq_ofNat_of_zero_le (show 0 ≤ Z by omega)
            have hzz : z ≤ t.size := by omega
            have hz3' : (z : Int) ≤ (s.size : Int) - (p : Int) := by omega
            have G := fun wx => get_cut s t p z wx HT.out (by omega)
            have T := fun wx h => take_ok w1.heap.size w1.heap.size t z wx h (Nat.le_refl _) (by omega) (by omega) hzz (by unfold maxLen; omega)
            have X := fun wx h h4 => rtext_yes w1.heap.size w1.heap.size t z wx h (Nat.le_refl _) (by omega) (by omega) hzz (by unfold maxLen; omega) h4
            have F := fun wx h h4 => rtext_few w1.heap.size w1.heap.size t z wx h (Nat.le_refl _) (by omega) (by omega) hzz (by unfold maxLen; omega) h4
            obtain ⟨q, hq⟩ : ∃ q, q = num (t.data.toList.take z) := ⟨_, rfl⟩
            have hq4 : q < 4294967296 := by
              have h1 := num_lt z (t.data.toList.take z) (by rw [List.length_take, size_list]; omega)
              have h2 : 256 ^ z ≤ 256 ^ 4 := Nat.pow_le_pow_right (by omega) (by omega)
              omega
            simp only [← hq] at G T X F
            have HG := Lib.hid G
            have HTk := Lib.hid T
            have HX := Lib.hid X
            have HF := Lib.hid F
            clear G T X F hq
            cases Is
            · go_wp2_with fail
              refine (HG.out _).mono ?_
              rintro e w' ⟨rfl, rfl⟩
              go_wp2_with fail
              refine (HTk.out _ (HA.out _)).mono ?_
              rintro e w3 ⟨t', rfl, ht', hr3, hk3⟩
              have hx3 := hk3.blk (heap_alloc_new wr _) (by decide)
              obtain ⟨f0, f1, f2, f3⟩ := x_cells hx3
              have ht2 : t'.data.toList = s.data.toList.drop (p + z) := by rw [ht', HT.out, List.drop_drop]
              have hts2 : t'.size + (p + z) = s.size := rest_size ht2 (by omega)
              have HT2 := Lib.hid ht2
              have HR3 := Lib.hid hr3
              have HB3 := Lib.hid ((HBX.out _).trans (hk3.below (HBX.out _).size))
              clear ht' hr3 hk3 ht2 hx3 c0 c1 c2 c3
              go_wp2_with fail
              refine (left_any _ _ _ HR3.out).mono ?_
              rintro e w' ⟨rfl, rfl⟩
              go_wp2_with fail
              go_roundw
              case rel => exact ⟨k + 1, p + z, t', by omega, by go_num, by go_num, by omega, HT2.out, HR3.out, HB3.out⟩
              case measure => simp [intOf]; omega
            · by_cases hall : z + q ≤ t.size
              · have hall' : (q : Int) ≤ (s.size : Int) - (p : Int) - (z : Int) := by omega
                go_wp2_with fail
                refine (HG.out _).mono ?_
                rintro e w' ⟨rfl, rfl⟩
                go_wp2_with fail
                refine (HX.out _ (HA.out _) hall).mono ?_
                rintro e w3 ⟨x, t', rfl, hxx, ht', hr3, hk3⟩
                have hx3 := hk3.blk (heap_alloc_new wr _) (by decide)
                obtain ⟨f0, f1, f2, f3⟩ := x_cells hx3
                have ht2 : t'.data.toList = s.data.toList.drop (p + (z + q)) := by rw [ht', HT.out, List.drop_drop]
                have hts2 : t'.size + (p + (z + q)) = s.size := rest_size ht2 (by omega)
                have hxe : x = s.extract (p + z) (p + z + q) := same_text (by
                  rw [hxx, cut_at (t := ⟨(t.data.toList.drop z).toArray⟩) (p := p + z) (by simp only [HT.out, List.drop_drop])])
                subst hxe
                have HT2 := Lib.hid ht2
                have HR3 := Lib.hid hr3
                have HB3 := Lib.hid ((HBX.out _).trans (hk3.below (HBX.out _).size))
                clear ht' hr3 hk3 ht2 hx3 c0 c1 c2 c3 hxx
                go_wp2_with fail
                refine (left_any _ _ _ HR3.out).mono ?_
                rintro e w' ⟨rfl, rfl⟩
                go_wp2_with fail
                go_roundw
                case rel => exact ⟨k + 1, p + (z + q), t', by omega, by go_num, by go_num, by omega, HT2.out, HR3.out, HB3.out⟩
                case measure => simp [intOf]; omega
              · have hall' : ¬ (q : Int) ≤ (s.size : Int) - (p : Int) - (z : Int) := by omega
                have hall2 : decide ((q : Int) ≤ (s.size : Int) - (p : Int) - (z : Int)) = false := by simp; omega
                go_wp2_with fail
                refine (HG.out _).mono ?_
                rintro e w' ⟨rfl, rfl⟩
                go_wp2_with fail
                refine (HF.out _ (HA.out _) (by omega)).mono ?_
                rintro e w3 ⟨rfl, hr3, hk3⟩
                have hx3 := hk3.blk (heap_alloc_new wr _) (by decide)
                obtain ⟨f0, f1, f2, f3⟩ := x_cells hx3
                have HR3 := Lib.hid hr3
                have HB3 := Lib.hid ((HBX.out _).trans (hk3.below (HBX.out _).size))
                clear hr3 hk3 hx3 c0 c1 c2 c3
                go_wp2_with fail
                refine (left_any _ _ _ HR3.out).mono ?_
                rintro e w' ⟨rfl, rfl⟩
                go_wp2_with fail
                go_roundw
                case rel => exact ⟨k + 1, p, t, by omega, by go_num, rfl, hp, HT.out, HR3.out, HB3.out⟩
                case measure => simp [intOf]; omega
          · have hno : Z < 1 ∨ 4 < Z ∨ (t.size : Int) < Z := by omega
            have TN := fun wx h => take_no w1.heap.size t Z wx h hno
            have XN := fun wx h => rtext_no w1.heap.size t Z wx h hno
            have HTN := Lib.hid TN
            have HXN := Lib.hid XN
            have hcase : decide (1 ≤ Z) = false ∨ (1 ≤ Z ∧ decide (Z ≤ 4) = false) ∨ (1 ≤ Z ∧ Z ≤ 4 ∧ decide (Z ≤ (s.size : Int) - (p : Int)) = false) := by
              by_cases a : 1 ≤ Z
              · by_cases b : Z ≤ 4
                · exact .inr (.inr ⟨a, b, by simp; omega⟩)
                · exact .inr (.inl ⟨a, by simpa using b⟩)
              · exact .inl (by simpa using a)
            clear TN XN hno hhead
            rcases hcase with a | ⟨a, a2⟩ | ⟨a, a2, a3⟩
            all_goals
              cases Is
              · go_wp2_with fail
                refine (HTN.out _ (HA.out _)).mono ?_
                rintro e w' ⟨rfl, rfl⟩
                go_wp2_with fail
                refine (left_any _ _ _ (HA.out _)).mono ?_
                rintro e w' ⟨rfl, rfl⟩
                go_wp2_with fail
                go_roundw
                case rel => exact ⟨k + 1, p, t, by omega, by go_num, rfl, hp, HT.out, HA.out _, HBX.out _⟩
                case measure => simp [intOf]; omega
              · go_wp2_with fail
                refine (HXN.out _ (HA.out _)).mono ?_
                rintro e w' ⟨rfl, rfl⟩
                go_wp2_with fail
                refine (left_any _ _ _ (HA.out _)).mono ?_
                rintro e w' ⟨rfl, rfl⟩
                go_wp2_with fail
                go_roundw
                case rel => exact ⟨k + 1, p, t, by omega, by go_num, rfl, hp, HT.out, HA.out _, HBX.out _⟩
                case measure => simp [intOf]; omega
        · go_wp2_with fail
          go_ret
          exact ⟨rfl, B1.out.trans (hbel.mono B1.out.size)⟩
end Go.Proofs.Ytikcipibdebcaaa.wire
