/- What extent.Read answers of extents that are right: the bytes of the document. Conditions: the numbers are ints. -/
import Derived.Test.YtkbhcncbpiimdaaGreatDoorJB7
import Derived.Lib.BufferRead
import Derived.Laws.MakeOwn
import Derived.Laws.Small
namespace Go.Proofs.YtkbhcncbpiimdaaGreatDoor.ext
set_option maxRecDepth 100000
open Go.RowKit Go.Proofs.YtkbhcncbpiimdaaGreatDoor.words

theorem Exts.cut {w : World} {B : Nat} {A : Option Addr} {L : List Ex} {cap : Nat} (h : Exts w B A L) (i : Nat) (hc : L.length ≤ cap) : Exts w B (if cap = i then A else A.map (·.add (i * 2))) (L.drop i) := fun j x hx => by
  rw [List.getElem?_drop] at hx
  have hlt : i + j < L.length := (List.getElem?_eq_some_iff.1 hx).1
  obtain ⟨⟨b, off, hA, hB, c0, c1⟩, h1⟩ := h (i + j) x hx
  subst hA
  rw [if_neg (by omega)]
  have add0 : (⟨b, off, none⟩ : Addr).add (i * 2) = ⟨b, off + i * 2, none⟩ := by
    unfold Addr.add
    split <;> simp_all
  rw [show off + (i + j) * 2 = off + i * 2 + j * 2 by omega] at c0 c1
  exact ⟨⟨b, off + i * 2, by rw [Option.map_some, add0], hB, c0, c1⟩, h1⟩
theorem infoExt : (Tryz.prog.info? 199).map (fun i => (i.zero, i.size, i.bytes)) = some (some (.agg #[.int .i64 0, .string ⟨#[]⟩]), 2, 24) := by kernel_rfl
theorem infoByte : (Tryz.prog.info? 5).map (fun i => (i.zero, i.size, i.bytes)) = some (some (.int .u8 0), 1, 1) := by kernel_rfl
theorem run_cut (A : Option Addr) (n cap i : Nat) (h : i ≤ n) (wx : World) :
    (Instr.slice 97 (.slice A n cap) (some (.int .i64 (i : Int))) none none).run Tryz.prog wx = .ok (.slice (if cap = i then A else A.map (·.add (i * 2))) (n - i) (cap - i)) wx := by
  obtain ⟨i0, hi, hz0, hz1, hz2⟩ := info_parts infoExt
  have he : Tryz.prog.elem 97 = 199 := by kernel_rfl
  rw [run_slice_l (P := Tryz.prog) wx 97 A n cap (by kernel_rfl) .i64 (i : Int) (by omega) (by omega), he]
  simp [sizeOf, typeInfo, hi, hz1, Result.andThen, sliced]
theorem Buf.conv {w : World} {g : Nat} {l : List UInt8} (h : Buf w g l) {m : Nat} (hm : l.length = m) (hm2 : m ≤ 1048576) :
    (convert 85 9 (.slice (some ⟨g, 0, none⟩) m m)).run Tryz.prog w = .ok (.string ⟨l.toArray⟩) w := by
  subst hm
  refine run_convert_bytes_back (P := Tryz.prog) w 85 9 5 ⟨g, 0, none⟩ l.length l Tryz.underlying85 Tryz.underlying5 Tryz.underlying9
    (Lib.bytes_of_row h (by simp only []; rw [List.take_of_length_le (by rw [Lib.byteCells_length]; exact Nat.le_refl _)]))
theorem lay_read {L : List Ex} (hp : L.Pairwise fun x y => x.O + (x.D.size : Int) ≤ y.O) {off : Int} {m k : Nat} {x : Ex} (hx : L[k]? = some x) : layB (readL (L.take k) off m) off x = readL (L.take (k + 1)) off m := by
  refine List.ext_getElem? fun i => ?_
  by_cases hi : i < m
  · rw [layB_at (by rw [readL_length]; exact hi), readL_at hi, atB_more hp hx, List.getD_eq_getElem?_getD, readL_at hi]
    rfl
  · rw [List.getElem?_eq_none (by rw [layB_length, readL_length]; omega), List.getElem?_eq_none (by rw [readL_length]; omega)]

set_option maxHeartbeats 3200000 in
theorem read_any (size off n : Int) (A : Option Addr) (cap : Nat) (L : List Ex) (w : World) (hI : Exts w w.heap.size A L) (hlen : L.length ≤ 4611686018427387903) (hcap : L.length ≤ cap) (hr : rightB size L = true)
    (ho1 : -9223372036854775808 ≤ off) (ho2 : off ≤ 9223372036854775807) (hn1 : -9223372036854775808 ≤ n) (hn2 : n ≤ 9223372036854775807) :
    Calls Tryz.prog 139 #[.int .i64 size, .slice A L.length cap, .int .i64 off, .int .i64 n] w fun e w' => (∃ r : ByteArray, e = .returned (.string r) ∧ r.data.toList = readB size L off n) ∧ Below w.heap.size w w' := by
  have HI := Lib.hid hI
  have hR := rightB_iff.1 hr
  have s0 := hR.1.1
  have s1 := hR.1.2
  have HL := Lib.hid (show ∀ x ∈ L, 0 ≤ x.O ∧ x.O + (x.D.size : Int) ≤ 1048576 from fun x hx => ⟨(hR.2.1 x hx).2.1, Int.le_trans (hR.2.1 x hx).2.2 s1⟩)
  have HP := Lib.hid hR.2.2
  clear hI hr hR
  have d1 : ¬ 1048576 < size := by omega
  by_cases h0 : off < 0
  · have hR : readB size L off n = [] := by unfold readB countOf; rw [if_pos h0]; rfl
    have HR := Lib.hid hR
    have g1 : decide (off < 0) = true := by simpa using h0
    clear hR
    go_enter Tryz.func139, Tryz.ntmps139
    go_wp2_with fail
    go_ret
    exact ⟨⟨⟨#[]⟩, rfl, HR.out.symm⟩, Below.refl _ _⟩
  have g1 : decide (off < 0) = false := by simp; omega
  by_cases h1 : size ≤ off
  · have hR : readB size L off n = [] := by unfold readB countOf; rw [if_neg h0, show (min n (size - off)).toNat = 0 by omega]; rfl
    have HR := Lib.hid hR
    have g2 : decide (size ≤ off) = true := by simpa using h1
    clear hR
    go_enter Tryz.func139, Tryz.ntmps139
    go_wp2_with fail
    go_ret
    exact ⟨⟨⟨#[]⟩, rfl, HR.out.symm⟩, Below.refl _ _⟩
  have g2 : decide (size ≤ off) = false := by simp; omega
  by_cases h2 : n < 1
  · have hR : readB size L off n = [] := by unfold readB countOf; rw [if_neg h0, show (min n (size - off)).toNat = 0 by omega]; rfl
    have HR := Lib.hid hR
    have g3 : decide (n < 1) = true := by simpa using h2
    clear hR
    go_enter Tryz.func139, Tryz.ntmps139
    go_wp2_with fail
    go_ret
    exact ⟨⟨⟨#[]⟩, rfl, HR.out.symm⟩, Below.refl _ _⟩
  have g3 : decide (n < 1) = false := by simp; omega
  obtain ⟨m, hm⟩ : ∃ m, m = countOf size off n := ⟨_, rfl⟩
  have hm' : m = (min n (size - off)).toNat := by rw [hm]; unfold countOf; rw [if_neg h0]
  have HM := Lib.hid hm
  have hm0 : 1 ≤ m := by omega
  have hm1 : m ≤ 1048576 := by omega
  have hm2 : off + (m : Int) ≤ 1048576 := by omega
  have hoff : 0 ≤ off := by omega
  have hoff1 : off ≤ 1048576 := by omega
  have HOF := Lib.hid h1
  clear hm h1
  obtain ⟨i0, hi, hz0, hz1, hz2⟩ := info_parts infoByte
  have hmk : ∀ u : World, (Instr.makeSlice 85 (.int .i64 (m : Int)) (.int .i64 (m : Int))).run Tryz.prog u =
      .ok (.slice (some ⟨u.heap.size, 0, none⟩) m m) (u.alloc (.cells (madeCells #[.int .u8 0] m) 5)) := fun u => by
    have h := run_make (P := Tryz.prog) u 85 5 i0 (.int .u8 0) Tryz.underlying85 hi hz0 .i64 .i64 (m : Int) (m : Int) (by omega) (Int.le_refl _) (by rw [hz2]; omega) (by omega)
    simpa [hz1, Value.cells] using h
  obtain ⟨M, hM⟩ : ∃ M, M = madeCells #[.int .u8 0] m := ⟨_, rfl⟩
  rw [← hM] at hmk
  have hB1 : Buf (w.alloc (.cells M 5)) w.heap.size (List.replicate m 0) := by
    unfold Buf
    rw [heap_alloc_new, hM]
    congr 2
    apply Array.ext'
    rw [toList_madeCells_one]
    simp [Lib.byteCells]
  have HB1 := Lib.hid hB1
  have HA1 := Lib.hid (((Below.refl w.heap.size w).alloc (Nat.le_refl _) (.cells M 5)))
  clear hB1 hM hz0 hz1 hz2 hi
  have hmin : (size - off = (m : Int) ∧ (m : Int) < n) ∨ (n = (m : Int) ∧ ¬ size - off < (m : Int)) := by omega
  have HMN := Lib.hid hmin
  clear hmin hm'
  rcases HMN.out with ⟨e1, e2⟩ | ⟨rfl, e2⟩
  all_goals
    go_enter Tryz.func139, Tryz.ntmps139
    go_wp2_with fail
    refine (first_any A cap L off _ ((HI.out.keep HA1.out).more HA1.out.size) hlen HL.out HP.out).mono ?_
    rintro e w2 ⟨⟨i, hi, rfl, hlo⟩, hb2⟩
    have HB2 := Lib.hid (HB1.out.below hb2)
    have HA2 := Lib.hid (HA1.out.trans (hb2.mono HA1.out.size))
    have hsl := run_cut A L.length cap i hi
    have hcutA := HI.out.cut i hcap
    obtain ⟨A2, hA2⟩ : ∃ A2, A2 = (if cap = i then A else A.map (·.add (i * 2))) := ⟨_, rfl⟩
    rw [← hA2] at hsl hcutA
    have HC := Lib.hid hcutA
    have HLO := Lib.hid hlo
    clear hb2 hlo hA2 hcutA HB1 HA1
    try clear e1
    clear e2
    go_wp2_with fail
    clear hsl
    go_loopw [37] (fun c wr => ∃ k : Nat, k ≤ L.length - i ∧ c = .int .i64 k ∧ Buf wr w.heap.size (readL (L.take (i + k)) off m) ∧ Below w.heap.size w wr)
      (fun c _ => L.length - i - (intOf c).toNat)
    case atStart =>
      refine ⟨0, Nat.zero_le _, rfl, ?_, HA2.out⟩
      rw [readL_zero (L := L.take (i + 0)) fun j _ => atB_ahead HLO.out (by omega)]
      exact HB2.out
    case round =>
      obtain ⟨k, hk, rfl, hbuf, hbel⟩ := hrel
      have HBF := Lib.hid hbuf
      have HBL := Lib.hid hbel
      clear hbuf hbel
      by_cases hlt : k < L.length - i
      · obtain ⟨x, hx⟩ : ∃ x, L[i + k]? = some x := ⟨_, List.getElem?_eq_getElem (by omega)⟩
        obtain ⟨⟨b, o, rfl, hB, c0, c1⟩, x1, x2, x3⟩ := (HC.out.keep HBL.out) k x (by rw [List.getElem?_drop]; exact hx)
        obtain ⟨x4, x5⟩ := HL.out x (List.mem_of_getElem? hx)
        have HX := Lib.hid hx
        have HBF1 := Lib.hid (HBF.out.below ((Below.refl wr.heap.size wr).alloc (Nat.le_refl _) (.cells #[.int .i64 x.O, .string x.D] 199)))
        have HBL1 := Lib.hid (HBL.out.alloc HBL.out.size (.cells #[.int .i64 x.O, .string x.D] 199))
        clear hx
        by_cases hbr : off + (m : Int) ≤ x.O
        · have HF := Lib.hid (show readL (L.take (i + k)) off m = readL L off m from (readL_eq fun j hj => (atB_rest HP.out HX.out (by omega)).symm))
          have hcv := HBF1.out.conv (readL_length _ _ _) hm1
          go_wp2_with fail
          go_ret
          exact ⟨⟨_, rfl, by unfold readB; rw [← HM.out]; exact HF.out⟩, HBL1.out⟩
        · have hbr' : x.O < off + (m : Int) := by omega
          have HLR := Lib.hid (lay_read HP.out HX.out (off := off) (m := m))
          go_wp2_with fail
          refine (lay_any w.heap.size m _ off x _ (readL_length _ _ _) HBF1.out hoff hoff1 hm1 x4 x5 hbr').mono ?_
          rintro e w3 ⟨rfl, hb3, hg3⟩
          have HB3 := Lib.hid hb3
          have HBL3 := Lib.hid (show Below w.heap.size w w3 from HBL1.out.trans ⟨hg3.os, hg3.tape, hg3.output, hg3.size, fun q hq => hg3.block q (Nat.lt_of_lt_of_le hq HBL1.out.size) (fun e => by injection e with e; omega)⟩)
          clear hb3 hg3
          go_wp2_with fail
          go_roundw
          case rel => exact ⟨k + 1, by omega, by go_num, by rw [HLR.out] at HB3; exact HB3.out, HBL3.out⟩
          case measure => simp [intOf]; omega
      · have HF := Lib.hid (show readL (L.take (i + k)) off m = readL L off m by rw [List.take_of_length_le (by omega)])
        have hcv := HBF.out.conv (readL_length _ _ _) hm1
        go_wp2_with fail
        go_ret
        exact ⟨⟨_, rfl, by unfold readB; rw [← HM.out]; exact HF.out⟩, HBL.out⟩
end Go.Proofs.YtkbhcncbpiimdaaGreatDoor.ext
