/- What the reference's Read answers of extents that are right: the bytes of the document. Condition: the file is one that is looked at. -/
import Derived.Test.YtkdldnjnadadgaaGreatDoorJB4
namespace Go.Proofs.YtkdldnjnadadgaaGreatDoor.ext
set_option maxRecDepth 100000
open Go.RowKit Go.Proofs.YtkdldnjnadadgaaGreatDoor.words

/-- A slice of bytes of the call's own, as a text. -/
theorem conv_of {P : Program} {w : World} {B : Nat} {E : TypeId} {v : Value} {bs : List UInt8} {src dst : TypeId} {n : Nat} (hn : n = bs.length) (ho : w.ownsRow B E 1 v n (Lib.byteCells bs)) (hs : P.underlying src = some (.slice E)) (he : P.underlying E = some (.int .u8))
    (hd : P.underlying dst = some .string) : (convert src dst v).run P w = .ok (.string ⟨bs.toArray⟩) w := by
  subst hn
  rcases ho.2 with ⟨rfl, h0⟩ | ⟨g, cap, cur, rfl, hb, hh, hcap, hmax, hcs, hcur⟩
  · have hbs : bs = [] := List.eq_nil_of_length_eq_zero h0
    subst hbs
    exact Lib.run_convert_nil_bytes w src dst E 0 hs he hd
  · refine run_convert_bytes_back w src dst E ⟨g, 0, none⟩ cap bs hs he hd fun j hj => ?_
    exact ho.cells (g := g) rfl j _ (by simp [Lib.byteCells, hj])
theorem keep_grown {S : Nat} {a w w' : World} {v : Value} {base n sz : Nat} {e : TypeId} {xs : List Value} (h : Below S a w) (ho : w.ownsRow base e sz v n xs) (hg : w.grownBy w' v.ownBlock) (hB : S ≤ base) (hs : S ≤ a.heap.size) : Below S a w' :=
  h.trans ⟨hg.os, hg.tape, hg.output, hg.size, fun k hk => hg.block k (Nat.lt_of_lt_of_le (Nat.lt_of_lt_of_le hk hs) h.size) (fun e => by have := (ho.lt k e.symm).1; omega)⟩
theorem info_byte : (Tryz.prog.info? 5).map (fun i => (i.zero, i.size, i.bytes)) = some (some (.int .u8 0), 1, 1) := by kernel_rfl
theorem byteCells_snoc (l : List UInt8) (b : UInt8) : Lib.byteCells (l ++ [b]) = Lib.byteCells l ++ [.int .u8 (b.toNat : Int)] := by simp [Lib.byteCells]

set_option maxHeartbeats 3200000 in
theorem refread_any (size off n : Int) (A : Option Addr) (cap : Nat) (L : List Ex) (w : World) (hI : Exts w w.heap.size A L) (hlen : L.length ≤ 4611686018427387904) (hr : rightB size L = true) (hs : size ≤ 3000)
    (ho1 : -9223372036854775808 ≤ off) (ho2 : off ≤ 9223372036854775807) (hn1 : -9223372036854775808 ≤ n) (hn2 : n ≤ 9223372036854775807) :
    Calls Tryz.prog 86 #[.int .i64 size, .slice A L.length cap, .int .i64 off, .int .i64 n] w fun e w' => (∃ r : ByteArray, e = .returned (.string r) ∧ r.data.toList = readB size L off n) ∧ Below w.heap.size w w' := by
  have HI := Lib.hid hI
  have hR := rightB_iff.1 hr
  have hsz := hR.1
  have HL := Lib.hid (show ∀ x ∈ L, 0 ≤ x.O ∧ x.O + (x.D.size : Int) ≤ 1048576 from fun x hx => ⟨(hR.2.1 x hx).2.1, Int.le_trans (hR.2.1 x hx).2.2 hsz.2⟩)
  have s0 := hsz.1
  clear hI hr hR hsz
  obtain ⟨i0, hi, hz0, hz1, hz2⟩ := info_parts info_byte
  by_cases h0 : off < 0
  · have hR : readB size L off n = [] := by unfold readB countOf; rw [if_pos h0]; rfl
    have HR := Lib.hid hR
    clear hR
    go_enter Tryz.func86, Tryz.ntmps86
    go_wp2_with fail
    go_ret
    exact ⟨⟨⟨#[]⟩, rfl, HR.out.symm⟩, (Below.refl _ _).alloc (Nat.le_refl _) _⟩
  have d0 : decide (off < 0) = false := by simp; omega
  obtain ⟨m, hm⟩ : ∃ m, m = countOf size off n := ⟨_, rfl⟩
  have hm' : m = (min n (size - off)).toNat := by rw [hm]; unfold countOf; rw [if_neg h0]
  have hm0 : m ≤ 3000 := by omega
  have HM := Lib.hid hm
  have hmn : ∀ k : Nat, k < m → (k : Int) < n ∧ (k : Int) < size - off := fun k hk => by omega
  have hmx : ∀ k : Nat, ¬ k < m → ¬ ((k : Int) < n ∧ (k : Int) < size - off) := fun k hk => by omega
  have HMN := Lib.hid hmn
  have HMX := Lib.hid hmx
  clear hm hm' hmn hmx
  go_enter Tryz.func86, Tryz.ntmps86
  go_wp2_with fail
  clear d0
  go_loopw [9, 10] (fun v c wr => ∃ (k : Nat) (va : Option Addr) (vc : Nat), k ≤ m ∧ c = .int .i64 k ∧ v = .slice va k vc ∧ wr.ownsRow w.heap.size 5 1 (.slice va k vc) k (Lib.byteCells (readL L off k)) ∧ Below w.heap.size w wr)
    (fun _ c _ => m - (intOf c).toNat)
  case atStart => exact ⟨0, _, _, Nat.zero_le _, rfl, rfl, World.ownsRow_made w #[] 0 (Nat.le_refl _) (by decide) rfl, (Below.refl _ _).alloc (Nat.le_refl _) _⟩
  case round =>
    obtain ⟨k, va, vc, hk, rfl, rfl, hown, hbel⟩ := hrel
    have HO := Lib.hid hown
    have HB := Lib.hid hbel
    clear hown hbel
    by_cases hlt : k < m
    · obtain ⟨k1, k2⟩ := HMN.out k hlt
      have hIr := (HI.out.keep HB.out).more HB.out.size
      have HIr := Lib.hid hIr
      have p0 : 0 ≤ off + (k : Int) := by omega
      have p1 : off + (k : Int) ≤ 1048576 := by omega
      clear hIr
      go_wp2_with fail
      refine (at_any (off + (k : Int)) _ _ _ _ HIr.out hlen p0 p1 HL.out).mono ?_
      rintro e w2 ⟨rfl, nq, hq⟩
      have HO2 : Hid (w2.ownsRow w.heap.size 5 1 (.slice va k vc) k (Lib.byteCells (readL L off k))) := by rw [← hq]; exact Lib.hid HO.out
      have HB2 : Hid (Below w.heap.size w w2) := by rw [← hq]; exact Lib.hid (below_drewN HB.out nq)
      have HS := Lib.hid (readL_succ L off k)
      obtain ⟨bv, hbv⟩ : ∃ bv, bv = atB L (off + (k : Int)) := ⟨_, rfl⟩
      rw [← hbv] at HS ⊢
      clear hq hbv HO HB HIr
      go_wp2_with (at_builtin; refine wpList_append_lies _ rfl (.tmp 26) (.tmp 32) _ rfl w.heap.size 5 i0 _ 1 1 Tryz.underlying105 hi hz0 hz1 hz2 rfl (by omega) _ _ _ rfl (HO2.out.alloc _) ⟨w2.heap.size, 0, none⟩ 1 1 [.int .u8 (bv.toNat : Int)] rfl rfl (World.news_of_block (cs := #[.int .u8 (bv.toNat : Int)]) (t := 5) (fr := (0, 0)) (heap_alloc_new w2 _)) (by simp [Value.oneCell']) (by omega) (by simp only [maxLen]; omega) (by omega) (by have := HB2.out.size; simp at this ⊢; omega) (w2.heap.size + 1) (by simp) ?_; intro gg gc w4 hown4 hgrow hat hlt4)
      have HB4 := Lib.hid (keep_grown (HB2.out.alloc HB2.out.size _) (HO2.out.alloc _) hgrow (Nat.le_refl _) (Nat.le_refl _))
      clear hgrow hat
      go_roundw
      case rel => exact ⟨k + 1, _, _, by omega, by go_num, rfl, by rw [HS.out, byteCells_snoc]; exact hown4, HB4.out⟩
      case measure => simp [intOf]; omega
    · obtain rfl : k = m := by omega
      have hx := HMX.out k (by omega)
      have hv := conv_of (by rw [readL_length]) HO.out Tryz.underlying105 Tryz.underlying5 Tryz.underlying9
      have HR := Lib.hid (show readL L off k = readB size L off n by unfold readB; rw [← HM.out])
      clear HMX HMN
      by_cases k1 : (k : Int) < n
      · have k2 : ¬ (k : Int) < size - off := fun h => hx ⟨k1, h⟩
        clear hx
        go_wp2_with fail
        go_ret
        exact ⟨⟨_, rfl, HR.out⟩, HB.out⟩
      · clear hx
        go_wp2_with fail
        go_ret
        exact ⟨⟨_, rfl, HR.out⟩, HB.out⟩
end Go.Proofs.YtkdldnjnadadgaaGreatDoor.ext
