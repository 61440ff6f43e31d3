/- What the reference's digit, Hex, Name answer. Condition: at most a billion bytes. -/
import Derived.Test.YtfbgnafnpeeonaaDoorCalNum
import Derived.Deep.AppendLies
import Derived.Deep.RegionLaw
import Derived.Lib.BufferRead
import Derived.Lib.UnsafeStr
namespace Go.Proofs.YtfbgnafnpeeonaaDoor.cal
set_option maxRecDepth 100000
open Go.RowKit Go.Proofs.YtfbgnafnpeeonaaDoor.words

theorem digit_any (n : Nat) (h : n < 16) (w : World) : Calls Tryd.prog 40 #[.int .i64 (n : Int)] w fun e w' => e = .returned (.int .u8 ((hexD n).toNat : Int)) ∧ w = w' := by
  have n0 : (0 : Int) ≤ (n : Int) := by omega
  by_cases h10 : n < 10
  · have g : (n : Int) < 10 := by omega
    have e : ((hexD n).toNat : Int) = 48 + (n : Int) := by unfold hexD; rw [if_pos h10, UInt8.toNat_ofNat']; omega
    have HE := Lib.hid e
    clear e
    go_enter Tryd.func40, Tryd.ntmps40
    go_wp2
    go_ret
    exact ⟨by rw [HE.out]; rfl, rfl⟩
  · have g : ¬ (n : Int) < 10 := by omega
    have g2 : (n : Int) < 16 := by omega
    have e : ((hexD n).toNat : Int) = 97 + (n : Int) - 10 := by unfold hexD; rw [if_neg h10, UInt8.toNat_ofNat']; omega
    have HE := Lib.hid e
    clear e
    go_enter Tryd.func40, Tryd.ntmps40
    go_wp2
    go_ret
    exact ⟨by rw [HE.out]; rfl, rfl⟩
theorem keep_grown {w w1 w2 : World} {B : Nat} {v : Value} {e size n : Nat} {xs : List Value} (hb : Below w.heap.size w w1) (hown : w1.ownsRow B e size v n xs) (hg : w1.grownBy w2 v.ownBlock) (hB : w.heap.size ≤ B) : Below w.heap.size w w2 :=
  hb.grown hg hb.size (fun k hk => Nat.le_trans hB (hown.lt k hk).1)
theorem byte_append (l : List UInt8) (a b : UInt8) : Lib.byteCells (l ++ [a, b]) = Lib.byteCells l ++ [.int .u8 (a.toNat : Int), .int .u8 (b.toNat : Int)] := by simp [Lib.byteCells]
theorem own_later {w w' : World} {B e size n : Nat} {v : Value} {xs : List Value} (h : w.ownsRow B e size v n xs) (hb : Below w.heap.size w w') : w'.ownsRow B e size v n xs := by
  refine ⟨h.1, ?_⟩
  rcases h.2 with h0 | ⟨g, cap, cur, hv, hbg, hh, hr⟩
  · exact .inl h0
  · exact .inr ⟨g, cap, cur, hv, hbg, (hb.block g (lt_of_some hh)).trans hh, hr⟩
theorem conv_of {B n : Nat} {v : Value} {l : List UInt8} {w : World} (ho : w.ownsRow B 5 1 v n (Lib.byteCells l)) :
    (convert 49 9 v).run Tryd.prog w = .ok (.string ⟨l.toArray⟩) w := by
  have hn : n = l.length := by have := ho.1; simpa [Lib.byteCells] using this.symm
  subst hn
  rcases ho.2 with ⟨rfl, h0⟩ | ⟨g, cap, cur, rfl, _⟩
  · have : l = [] := List.eq_nil_of_length_eq_zero h0
    subst this
    exact Lib.run_convert_nil_bytes w 49 9 5 0 Tryd.underlying49 Tryd.underlying5 Tryd.underlying9
  · refine run_convert_bytes_back w 49 9 5 ⟨g, 0, none⟩ cap l Tryd.underlying49 Tryd.underlying5 Tryd.underlying9 fun j hj => ?_
    exact ho.cells (g := g) rfl j _ (by simp [Lib.byteCells, hj])
set_option maxHeartbeats 3200000 in
theorem refhex_any (s : ByteArray) (w : World) (hs : s.size ≤ 1000000000) :
    Calls Tryd.prog 25 #[.string s] w fun e w' => (∃ r : ByteArray, e = .returned (.string r) ∧ r.data.toList = hexL s.data.toList) ∧ Below w.heap.size w w' := by
  obtain ⟨i0, hi, hz0, hz1, hz2⟩ := info_parts info5
  by_cases e0 : s.data.toList = []
  · have f0 : s.toList.isEmpty = true := by rw [to_list, e0]; rfl
    have HE := Lib.hid (show hexL s.data.toList = [45] by rw [e0]; rfl)
    clear e0
    go_enter Tryd.func25, Tryd.ntmps25
    go_wp2
    go_ret
    exact ⟨⟨_, rfl, HE.out.symm⟩, Below.refl _ _⟩
  · have f0 : s.toList.isEmpty = false := by rw [to_list]; simpa using e0
    have HE := Lib.hid (show hexL s.data.toList = hexP s.data.toList by unfold hexL; rw [if_neg e0])
    clear e0
    obtain ⟨W1, hW1⟩ : ∃ W1, W1 = w.alloc (.cells #[] 5) := ⟨_, rfl⟩
    have hb1 : Below w.heap.size w W1 := by rw [hW1]; exact (Below.refl _ _).alloc (Nat.le_refl _) _
    have hO := (World.ownsRow_made w #[] 0 (Nat.le_refl _) (by decide) rfl : (w.alloc (.cells #[] 5)).ownsRow w.heap.size 5 1 (.slice (some ⟨w.heap.size, 0, none⟩) 0 0) 0 [])
    rw [← hW1] at hO
    have H0 : Hid (W1.ownsRow w.heap.size 5 1 (.slice (some ⟨w.heap.size, 0, none⟩) 0 0) 0 (Lib.byteCells (hexP (s.data.toList.take 0))) ∧ Below w.heap.size w W1) := Lib.hid ⟨hO, hb1⟩
    have HW1 := Lib.hid hW1.symm
    clear hb1 hW1 hO
    go_enter Tryd.func25, Tryd.ntmps25
    go_wp2_with fail
    rw [HW1.out]
    clear HW1
    go_loopw [3, 4] (fun v3 v4 wr => ∃ (k : Nat) (A : Option Addr) (c : Nat), k ≤ s.size ∧ v4 = .int .i64 (k : Int) ∧ v3 = .slice A (2 * k) c ∧ Hid (wr.ownsRow w.heap.size 5 1 (.slice A (2 * k) c) (2 * k) (Lib.byteCells (hexP (s.data.toList.take k))) ∧ Below w.heap.size w wr)) (fun _ v _ => s.size - (intOf v).toNat)
    case atStart => exact ⟨0, _, _, Nat.zero_le _, rfl, rfl, H0⟩
    case round =>
      clear H0
      obtain ⟨k, A, c, hk, rfl, rfl, hH⟩ := hrel
      have k0 : (0 : Int) ≤ (k : Int) := by omega
      by_cases hks : k < s.size
      · have k1 : (k : Int) < (s.size : Int) := by omega
        have hx := s[k].toNat_lt
        have HX := Lib.hid (show Lib.byteCells (hexP (s.data.toList.take (k + 1))) = Lib.byteCells (hexP (s.data.toList.take k)) ++ [.int .u8 ((hexD (s[k].toNat / 16)).toNat : Int), .int .u8 ((hexD (s[k].toNat % 16)).toNat : Int)] by rw [take_snoc s k hks, hexP_snoc, byte_append])
        have HC1 : Hid (∀ w' : World, Calls Tryd.prog 40 #[.int .i64 ((s[k].toNat : Int) / 16)] w' fun e w'' => e = .returned (.int .u8 ((hexD (s[k].toNat / 16)).toNat : Int)) ∧ w' = w'') := Lib.hid fun w' => by
          have := digit_any (s[k].toNat / 16) (by omega) w'
          rwa [show ((s[k].toNat / 16 : Nat) : Int) = (s[k].toNat : Int) / 16 by omega] at this
        have HC2 : Hid (∀ w' : World, Calls Tryd.prog 40 #[.int .i64 (Int.tmod (s[k].toNat : Int) 16)] w' fun e w'' => e = .returned (.int .u8 ((hexD (s[k].toNat % 16)).toNat : Int)) ∧ w' = w'') := Lib.hid fun w' => by
          have := digit_any (s[k].toNat % 16) (by omega) w'
          rwa [show ((s[k].toNat % 16 : Nat) : Int) = Int.tmod (s[k].toNat : Int) 16 by rw [Int.tmod_eq_emod_of_nonneg (by omega)]; omega] at this
        obtain ⟨c1, hc1⟩ : ∃ c1 : Int, c1 = ((hexD (s[k].toNat / 16)).toNat : Int) := ⟨_, rfl⟩
        obtain ⟨c2, hc2⟩ : ∃ c2 : Int, c2 = ((hexD (s[k].toNat % 16)).toNat : Int) := ⟨_, rfl⟩
        rw [← hc1] at HC1 HX
        rw [← hc2] at HC2 HX
        have HB := Lib.hid hH.out.2
        have HOd : Hid (∀ o : Obj, (wr.drew.alloc o).ownsRow w.heap.size 5 1 (.slice A (2 * k) c) (2 * k) (Lib.byteCells (hexP (s.data.toList.take k)))) := Lib.hid fun o => own_later hH.out.1 ((Below.refl wr.heap.size wr).drew.alloc (Nat.le_refl _) o)
        have HZ := Lib.hid HB.out.size
        have w0 : IntKind.i64.wrap (s[k].toNat : Int) = (s[k].toNat : Int) := IntWalk.i64_in _ ⟨by omega, by omega⟩
        have w1 : IntKind.i64.wrap ((s[k].toNat : Int) / 16) = (s[k].toNat : Int) / 16 := IntWalk.i64_in _ ⟨by omega, by omega⟩
        clear hc1 hc2
        go_wp2_with fail
        go_region_law (first
          | (go_simp; go_at_call 40; with_reducible refine (HC1.out _).mono ?_; rintro e wq ⟨rfl, rfl⟩)
          | (go_simp; go_at_call 40; with_reducible refine (HC2.out _).mono ?_; rintro e wq ⟨rfl, rfl⟩)
          | (refine step_append_lies _ (by rfl) _ _ _ (by rfl) w.heap.size 5 i0 _ 1 1 Tryd.underlying49 hi hz0 hz1 hz2 rfl (by omega) (.slice A (2 * k) c) (2 * k) (Lib.byteCells (hexP (s.data.toList.take k))) (by rfl) (HOd.out _)
              ⟨wr.heap.size, 0, none⟩ 2 2 [.int .u8 c1, .int .u8 c2] (by rfl) (by rfl) (World.news_of_block (cs := #[.int .u8 c1, .int .u8 c2]) (heap_alloc_new wr.drew _)) (by simp [Value.oneCell'])
              (by omega) (by simp only [maxLen]; omega) (by omega) (by have h1 := HZ.out; simp; omega) (wr.heap.size + 1) (by simp) ?_; intro gg cap w10 hown10 hgrow10 hat10 hlt10))
        all_goals
          have hO2 : w10.ownsRow w.heap.size 5 1 (.slice (some ⟨gg, 0, none⟩) (2 * (k + 1)) cap) (2 * (k + 1)) (Lib.byteCells (hexP (s.data.toList.take (k + 1)))) := by
            rw [HX.out]
            exact hown10
          have H2 := Lib.hid (And.intro hO2 (keep_grown (HB.out.trans (((Below.refl wr.heap.size wr).drew.alloc (Nat.le_refl _) _).mono HZ.out)) (HOd.out _) hgrow10 (Nat.le_refl _)))
          clear hO2 hown10 hgrow10 hat10 hlt10 HOd HC1 HC2 HX hH
          go_wp2_with fail
          go_roundw
          case rel => exact ⟨k + 1, _, _, by omega, by go_num, rfl, H2⟩
          case measure => simp [intOf]; omega
      · have k1 : ¬ (k : Int) < (s.size : Int) := by omega
        obtain rfl : k = s.size := by omega
        have h1 := hH.out.1
        rw [List.take_of_length_le (by rw [size_list]; exact Nat.le_refl _)] at h1
        have hcv := conv_of h1
        have HF := Lib.hid hH.out.2
        obtain ⟨b, hb⟩ : ∃ b : ByteArray, b = ⟨(hexP s.data.toList).toArray⟩ := ⟨_, rfl⟩
        rw [← hb] at hcv
        have HR := Lib.hid hb
        clear hb h1 hH
        go_wp2_with fail
        go_ret
        exact ⟨⟨b, rfl, by rw [HR.out, HE.out, data_mk]⟩, HF.out⟩
end Go.Proofs.YtfbgnafnpeeonaaDoor.cal
