/- exploration -/
import Derived.Test.YtikcipibdebcaaaWirePut
import Derived.Lib.BufferRead
import Derived.Lib.AppendStr
namespace Go.Proofs.Ytikcipibdebcaaa.wire
open Go.RowKit Go.Proofs.Ytikcipibdebcaaa.words

/-- Does a number fit so many bytes? -/
def fits (n size : Int) : Bool := decide (1 ≤ size ∧ size ≤ 4 ∧ 0 ≤ n ∧ n < 2 ^ (8 * size.toNat))
theorem fits_yes {n size : Int} (h : fits n size = true) : ∃ s : Nat, size = (s : Int) ∧ 1 ≤ s ∧ s ≤ 4 ∧ 0 ≤ n ∧ n < 2 ^ (8 * s) := by
  have h := of_decide_eq_true h
  exact ⟨size.toNat, by omega, by omega, by omega, h.2.2.1, h.2.2.2⟩
theorem fits_mk {n : Int} {s : Nat} (h1 : 1 ≤ s) (h2 : s ≤ 4) (h3 : 0 ≤ n) (h4 : n < 2 ^ (8 * s)) : fits n (s : Int) = true :=
  decide_eq_true ⟨by omega, by omega, h3, by simpa using h4⟩
abbrev Ws : TypeId → Prop := fun t => t = 26 ∨ t = 5
theorem put_yes (n size : Int) (b B : Nat) (bs : List UInt8) (w : World) (hw : Wr 26 5 B b bs w) (h : fits n size = true) (hlen : bs.length ≤ 1000000000) :
    Calls Try.prog 10 #[.pointer (some ⟨b, 0, none⟩), .int .i64 n, .int .i64 size] w fun e w' => e = .returned (.bool true) ∧ Wr 26 5 B b (bs ++ be n size.toNat) w' ∧ Kept Ws B w w' := by
  obtain ⟨s, rfl, h1, h2, h3, h4⟩ := fits_yes h
  exact put_fits n s b B bs w hw h1 h2 h3 h4 hlen
theorem put_no (n size : Int) (b : Nat) (w : World) (h : fits n size = false) :
    Calls Try.prog 10 #[.pointer (some ⟨b, 0, none⟩), .int .i64 n, .int .i64 size] w fun e w' => e = .returned (.bool false) ∧ w = w' := by
  have h := of_decide_eq_false h
  by_cases hs : 1 ≤ size ∧ size ≤ 4
  · refine put_big n size b w hs.1 hs.2 ?_
    by_cases hn : n < 0
    · exact .inl hn
    · refine .inr ?_
      have e : (8 * size).toNat = 8 * size.toNat := by omega
      rw [e]
      omega
  · exact put_size n size b w (by omega)

/-- A row's bytes as a string. -/
theorem conv_of {B e src dst : Nat} {v : Value} {bs : List UInt8} {w : World} {P : Program} (ho : w.ownsRow B e 1 v bs.length (Lib.byteCells bs)) (hs : P.underlying src = some (.slice e)) (he : P.underlying e = some (.int .u8)) (hd : P.underlying dst = some .string) :
    (convert src dst v).run P w = .ok (.string ⟨bs.toArray⟩) w := by
  rcases ho.2 with ⟨rfl, h0⟩ | ⟨g, cap, cur, rfl, _⟩
  · have : bs = [] := List.eq_nil_of_length_eq_zero h0
    subst this
    exact Lib.run_convert_nil_bytes w src dst e 0 hs he hd
  · refine run_convert_bytes_back w src dst e ⟨g, 0, none⟩ cap bs hs he hd fun j hj => ?_
    exact ho.cells (g := g) rfl j _ (by simp [Lib.byteCells, hj])

theorem bytes_any (b B : Nat) (bs : List UInt8) (w : World) (hw : Wr 26 5 B b bs w) :
    Calls Try.prog 11 #[.pointer (some ⟨b, 0, none⟩)] w fun e w' => e = .returned (.string ⟨bs.toArray⟩) ∧ w = w' := by
  obtain ⟨_, v, hb, ho⟩ := hw
  have hc : w.cell? ⟨b, 0, none⟩ = some v := cell_of_blk hb 0
  have hv := conv_of ho Try.underlying24 Try.underlying5 Try.underlying9
  clear ho hb
  go_enter Try.func11, Try.ntmps11
  go_wp2
  go_ret
  exact ⟨rfl, rfl⟩

theorem text_no (s : ByteArray) (size : Int) (b : Nat) (w : World) (h : fits (s.size : Int) size = false) :
    Calls Try.prog 9 #[.pointer (some ⟨b, 0, none⟩), .string s, .int .i64 size] w fun e w' => e = .returned (.bool false) ∧ w = w' := by
  have H := Lib.hid h
  clear h
  go_enter Try.func9, Try.ntmps9
  go_wp2_with (go_at_call 10; refine (put_no _ _ _ _ H.out).mono ?_; rintro e w' ⟨rfl, rfl⟩)
  go_ret
  exact ⟨rfl, rfl⟩

theorem text_step {B b : Nat} {cs : List UInt8} {s : ByteArray} {v v' : Value} {wr w1 : World} (hB : B ≤ b) (hb : wr.heap[b]? = some (.cells #[v] 26 (0, 0))) (ho : wr.ownsRow B 5 1 v cs.length (Lib.byteCells cs))
    (hown1 : w1.ownsRow B 5 1 v' (cs.length + s.size) (Lib.byteCells cs ++ Lib.strCells s)) (hg : wr.grownBy w1 v.ownBlock) :
    Wr 26 5 B b (cs ++ s.data.toList) (w1.setCell ⟨b, 0, none⟩ v') ∧ Kept Ws B wr (w1.setCell ⟨b, 0, none⟩ v') := by
  refine Wr.put (T := 26) (E := 5) (bs' := cs ++ s.data.toList) (by decide) hB hb ho ?_ hg
  have e1 : Lib.byteCells (cs ++ s.data.toList) = Lib.byteCells cs ++ Lib.strCells s := by rw [Lib.strCells_eq]; simp only [Lib.byteCells, List.map_append]
  have e3 : s.data.toList.length = s.size := by rw [Array.length_toList]; rfl
  have e2 : (cs ++ s.data.toList).length = cs.length + s.size := by rw [List.length_append, e3]
  rw [e1, e2]
  exact hown1

set_option maxHeartbeats 400000 in
theorem text_yes (s : ByteArray) (size : Int) (b B : Nat) (bs : List UInt8) (w : World) (hw : Wr 26 5 B b bs w) (h : fits (s.size : Int) size = true) (hlen : bs.length ≤ 1000000000) (hs : s.size ≤ 1000000000) :
    Calls Try.prog 9 #[.pointer (some ⟨b, 0, none⟩), .string s, .int .i64 size] w fun e w' => e = .returned (.bool true) ∧ Wr 26 5 B b (bs ++ be (s.size : Int) size.toNat ++ s.data.toList) w' ∧ Kept Ws B w w' := by
  obtain ⟨i0, hi, hz0, hz1, hz2⟩ := info_parts info5
  have H := Lib.hid h
  have HW := Lib.hid hw
  have hsz : size.toNat ≤ 4 := by have := of_decide_eq_true h; omega
  clear h hw
  go_enter Try.func9, Try.ntmps9
  go_wp2_with fail
  refine (put_yes _ _ _ _ _ _ HW.out H.out hlen).mono ?_
  rintro e w1 ⟨rfl, hw1, hk⟩
  have HK := Lib.hid hk
  obtain ⟨cs, hcs⟩ : ∃ cs, cs = bs ++ be (s.size : Int) size.toNat := ⟨_, rfl⟩
  have hcl : cs.length ≤ 1000000004 := by rw [hcs, List.length_append, be_length]; omega
  rw [← hcs] at hw1
  have HCS := Lib.hid hcs
  obtain ⟨hB, v, hb, ho⟩ := hw1
  have hc : w1.cell? ⟨b, 0, none⟩ = some v := cell_of_blk hb 0
  have hbl := lt_of_some hb
  have hne := own_ne ho hb (by decide)
  have HB := Lib.hid hb
  have HO := Lib.hid ho
  clear hb ho hk hcs
  go_wp2_with (at_builtin; refine Lib.wpList_append_own_string _ rfl (.tmp 17) (.tmp 18) _ _ rfl B 5 i0 Try.underlying24 Try.underlying9 hi hz0 hz1 hz2 v _ _ rfl HO.out s rfl (by simp only [maxLen]; omega) (by omega) (by omega) ?_; intro v' w2 hown2 hgrow _; obtain ⟨A2, l2, c2, rfl⟩ := own_slice hown2; have hb2 := (hgrow.block b hbl (Ne.symm hne)).trans HB.out; have hc2 := cell_of_blk hb2 0; have hf2 := free_of_blk hb2 0)
  have HP := Lib.hid (text_step hB HB.out HO.out hown2 hgrow)
  clear hown2 hgrow hb2 hc2 hf2 hc
  go_wp2
  go_ret
  refine ⟨rfl, ?_, HK.out.trans HP.out.2⟩
  rw [← HCS.out]
  exact HP.out.1
end Go.Proofs.Ytikcipibdebcaaa.wire
