/- A word and numbers behind it, as a text. Condition: the numbers lie in memory; at most a million of them; what the listed variables hold. -/
import Derived.Test.YtfbgnafnpeeonaaDoorScrBld
import Derived.Test.YtfbgnafnpeeonaaDoorScrPrintR
namespace Go.Proofs.YtfbgnafnpeeonaaDoor.scr
set_option maxRecDepth 100000
open Go.RowKit Go.Proofs.YtfbgnafnpeeonaaDoor.words Go.Proofs.YtfbgnafnpeeonaaDoor.cal

def cntL (l : List UInt8) (ns : List Int) : List UInt8 := l ++ ns.flatMap fun n => 32 :: Lib.itoa n
theorem cnt_more {l : List UInt8} {ns : List Int} {i : Nat} {n : Int} (h : ns[i]? = some n) : cntL l (ns.take (i + 1)) = cntL l (ns.take i) ++ [32] ++ Lib.itoa n := by
  unfold cntL
  rw [List.take_add_one, h]
  simp
theorem cnt_len {l : List UInt8} : ∀ {ns : List Int}, (∀ n ∈ ns, I64 n) → (cntL l ns).length ≤ l.length + 22 * ns.length
  | [], _ => by simp [cntL]
  | n :: ns, h => by
    have ih := cnt_len (l := l) (ns := ns) fun k hk => h k (List.mem_cons_of_mem _ hk)
    have hn := h n (List.mem_cons_self ..)
    have := Lib.itoa_length_le n hn.1 hn.2
    unfold cntL at ih ⊢
    simp at ih ⊢
    omega
set_option maxHeartbeats 3200000 in
theorem counted_any (m : Int) (s : ByteArray) (A : Option Addr) (ns : List Int) (c : Nat) (w : World) (hs : s.size ≤ 100) (hR : ∀ (i : Nat) x, ns[i]? = some x → ∃ b off, A = some ⟨b, off, none⟩ ∧ b < w.heap.size ∧ w.cell? ⟨b, off + i, none⟩ = some (.int .i64 x))
    (hN : ∀ n ∈ ns, I64 n) (hl : ns.length ≤ 1000000) (hE : Env m w) :
    Calls Tryd.prog 18 #[.string s, .slice A ns.length c] w (StrOut (cntL s.data.toList ns) w) := by
  obtain ⟨W1, hW1⟩ : ∃ W1, W1 = w.alloc (.cells #[.pointer none, .slice none 0 0] 51) := ⟨_, rfl⟩
  have hb1 : Below w.heap.size w W1 := by rw [hW1]; exact (Below.refl _ _).alloc (Nat.le_refl _) _
  have hw0 : Wrt w.heap.size w.heap.size [] W1 := by rw [hW1]; exact fresh_wrt w
  have HSt := Lib.hid (str_any w.heap.size w.heap.size [] s W1 hw0 (by simp) (by omega) hb1.size)
  have HB1 := Lib.hid hb1
  have HR := Lib.hid hR
  have HN := Lib.hid hN
  have HE := Lib.hid hE
  have HL := Lib.hid hl
  have HS := Lib.hid hs
  have HW1 := Lib.hid hW1.symm
  clear hW1 hb1 hw0 hR hN hl hE hs
  go_enter Tryd.func18, Tryd.ntmps18
  go_wp2_with fail
  rw [HW1.out]
  refine HSt.out.mono ?_
  rintro e w2 ⟨rfl, hb, hb2⟩
  have H0 : Hid (Bld w.heap.size w.heap.size (cntL s.data.toList (ns.take 0)) w2 ∧ Below w.heap.size w w2) := Lib.hid ⟨by simpa [cntL] using hb, HB1.out.trans hb2⟩
  clear HSt hb hb2 HW1
  go_wp2_with fail
  go_loopw [12] (fun v wr => ∃ k : Nat, k ≤ ns.length ∧ v = .int .i64 (k : Int) ∧ Hid (Bld w.heap.size w.heap.size (cntL s.data.toList (ns.take k)) wr ∧ Below w.heap.size w wr)) (fun v _ => ns.length - (intOf v).toNat)
  case atStart => exact ⟨0, Nat.zero_le _, rfl, H0⟩
  case round =>
    clear H0
    obtain ⟨k, hk, rfl, hH⟩ := hrel
    have k0 : (0 : Int) ≤ (k : Int) := by omega
    have hln := HL.out
    by_cases hks : k < ns.length
    · have k1 : (k : Int) < (ns.length : Int) := by omega
      obtain ⟨x, hx⟩ : ∃ x, ns[k]? = some x := ⟨_, List.getElem?_eq_getElem hks⟩
      obtain ⟨b, off, rfl, h2, h3⟩ := HR.out k x hx
      have hc := (hH.out.2.cell (p := ⟨b, off + k, none⟩) h2).trans h3
      have hxi := HN.out x (List.mem_of_getElem? hx)
      have HM := Lib.hid (cnt_more (l := s.data.toList) hx)
      have hlen : (cntL s.data.toList (ns.take k)).length ≤ 30000000 := by
        have := cnt_len (l := s.data.toList) (ns := ns.take k) fun n hn => HN.out n (List.mem_of_mem_take hn)
        rw [size_list] at this
        have := HS.out
        simp at *
        omega
      have HBy := Lib.hid (byte_any w.heap.size w.heap.size _ 32 32 rfl wr (.inr hH.out.1) (by omega) hH.out.2.size)
      have HXi := Lib.hid hxi
      have HLn := Lib.hid hlen
      clear hx h2 h3 hxi hlen
      go_wp2_with fail
      refine HBy.out.mono ?_
      rintro e w3 ⟨rfl, hbl3, hb3⟩
      have HB3 := Lib.hid (hH.out.2.trans hb3)
      have HI := Lib.hid (itoa_any m x w3 HXi.out (HE.out.later HB3.out))
      have HBl3 := Lib.hid hbl3
      clear hbl3 hb3 HBy
      go_wp2_with fail
      refine HI.out.mono ?_
      rintro e w4 ⟨⟨r, rfl, hr⟩, hb4⟩
      have hrz := num_size HXi.out hr
      have hbl4 : Bld w.heap.size w.heap.size (cntL s.data.toList (ns.take k) ++ [32]) w4 := bld_later HBl3.out hb4
      have HB4 := Lib.hid (HB3.out.trans (hb4.mono HB3.out.size))
      have HSt := Lib.hid (str_any w.heap.size w.heap.size _ r w4 (.inr hbl4) (by rw [List.length_append]; have := HLn.out; simp; omega) (by omega) HB4.out.size)
      have HRr := Lib.hid hr
      clear hbl4 hb4 HI hr hrz
      go_wp2_with fail
      refine HSt.out.mono ?_
      rintro e w5 ⟨rfl, hbl5, hb5⟩
      rw [HRr.out, ← HM.out] at hbl5
      have H5 := Lib.hid (And.intro hbl5 (HB4.out.trans hb5))
      clear hbl5 hb5 HSt
      go_wp2_with fail
      go_roundw
      case rel => exact ⟨k + 1, by omega, by go_num, H5⟩
      case measure => simp [intOf]; omega
    · have k1 : ¬ (k : Int) < (ns.length : Int) := by omega
      obtain rfl : k = ns.length := by omega
      have h1 := hH.out.1
      rw [List.take_length] at h1
      have HS := Lib.hid (bld_string _ _ _ wr h1 hH.out.2.size)
      clear h1
      go_wp2_with fail
      refine HS.out.mono ?_
      rintro e w5 ⟨rfl, hb5⟩
      have HF := Lib.hid (hH.out.2.trans hb5)
      obtain ⟨r, hr⟩ : ∃ r : ByteArray, r = ⟨(cntL s.data.toList ns).toArray⟩ := ⟨_, rfl⟩
      rw [← hr]
      have HRr := Lib.hid hr
      clear hr hb5 HS
      go_wp2_with fail
      go_ret
      exact ⟨⟨r, rfl, by rw [HRr.out, data_mk]⟩, HF.out⟩
end Go.Proofs.YtfbgnafnpeeonaaDoor.scr
