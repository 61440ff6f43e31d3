/- The law CallWords. Condition: what the listed variables hold. -/
import Derived.Test.YtblhicfllomdlaaDoorCalSpeak
namespace Go.Proofs.YtblhicfllomdlaaDoor.cal
set_option maxRecDepth 100000
open Go.RowKit Go.Proofs.YtblhicfllomdlaaDoor.words

theorem bytes_of {s : ByteArray} {l : List UInt8} {e : Ending} (hl : unH l = some s.data.toList) (h : BytesOut l e) : e = .returned (.tuple #[.string s, .bool true]) := by
  rcases h with ⟨h1, _⟩ | ⟨r, h1, rfl⟩
  · rw [hl] at h1; cases h1
  · rw [hl] at h1
    injection h1 with h1
    rw [data_inj h1]
theorem num_of {n : Int} {l : List UInt8} {e : Ending} (hl : numP l = some n) (h : NumOut l e) : e = .returned (.tuple #[.int .i64 n, .bool true]) := by
  rcases h with ⟨h1, _⟩ | ⟨r, h1, rfl⟩
  · rw [hl] at h1; cases h1
  · rw [hl] at h1
    injection h1 with h1
    rw [h1]
set_option maxHeartbeats 12800000 in
theorem law_words (m : Int) (s : ByteArray) (n : Int) (w : World) (hE : Env m w) (hn : I64 n) : Calls Tryd.prog 3 #[.string s, .int .i64 n] w (AnsB true w) := by
  have HE := Lib.hid hE
  have HSp := Lib.hid (speaks_any m w hE)
  clear hE
  go_enter Tryd.func3, Tryd.ntmps3
  go_wp2_with fail
  refine HSp.out.mono ?_
  rintro e w2 ⟨rfl, hb2⟩
  have HB2 := Lib.hid hb2
  clear hb2 HSp
  by_cases hs : 2000 < s.size
  · have g : (2000 : Int) < (s.size : Int) := by omega
    go_wp2_with fail
    go_ret
    exact ⟨rfl, HB2.out⟩
  have g : ¬ (2000 : Int) < (s.size : Int) := by omega
  obtain ⟨hx, hhx⟩ : ∃ hx : ByteArray, hx.data.toList = hexL s.data.toList := ⟨⟨(hexL s.data.toList).toArray⟩, data_mk _⟩
  have hhz : hx.size ≤ 4001 := by
    have h1 := hexL_len s.data.toList
    rw [← hhx, size_list, size_list] at h1
    omega
  have HHx := Lib.hid hhx
  obtain ⟨nx, hnx⟩ : ∃ nx : ByteArray, nx.data.toList = Lib.itoa n := ⟨⟨(Lib.itoa n).toArray⟩, data_mk _⟩
  have hnz : nx.size ≤ 21 := num_size hnx hn
  have HNx := Lib.hid hnx
  have HI := Lib.hid hn
  have HH0 := Lib.hid ((hex_any s w2 (by omega)).mono fun _ _ h => str_of hhx h)
  clear hhx hnx hn
  go_wp2_with fail
  refine HH0.out.mono ?_
  rintro e w3 ⟨rfl, hb3⟩
  have HB3 := Lib.hid (HB2.out.trans (hb3.mono HB2.out.size))
  have HBy := Lib.hid ((bytes_any hx w3 (by omega)).mono fun _ _ ⟨h, h'⟩ => And.intro (bytes_of (s := s) (by rw [HHx.out]; exact unH_hexL _) h) h')
  clear hb3 HH0
  go_wp2_with fail
  refine HBy.out.mono ?_
  rintro e w4 ⟨rfl, hb4⟩
  have HB4 := Lib.hid (HB3.out.trans (hb4.mono HB3.out.size))
  have HNm := Lib.hid ((refnum_any n HI.out w4).mono fun _ _ h => str_of (s := nx) HNx.out h)
  clear hb4 HBy
  go_wp2_with fail
  refine HNm.out.mono ?_
  rintro e w5 ⟨rfl, hb5⟩
  have HB5 := Lib.hid (HB4.out.trans (hb5.mono HB4.out.size))
  have HNb := Lib.hid ((number_any m nx w5 (by omega) (HE.out.later HB5.out)).mono fun _ _ ⟨h, h'⟩ => And.intro (num_of (n := n) (by rw [HNx.out]; exact numP_itoa n HI.out.1 HI.out.2) h) h')
  clear hb5 HNm
  go_wp2_with fail
  refine HNb.out.mono ?_
  rintro e w6 ⟨rfl, hb6⟩
  have HB6 := Lib.hid (HB5.out.trans (hb6.mono HB5.out.size))
  have HBs := Lib.hid (bytes_any s w6 (by omega))
  have gs : (s.toList == s.toList) = true := beq_self_eq_true _
  have gh : (hx.toList == hx.toList) = true := beq_self_eq_true _
  have gn : (n == n) = true := beq_self_eq_true _
  clear hb6 HNb
  go_wp2_with fail
  refine HBs.out.mono ?_
  rintro e w6b ⟨hbo, hb6⟩
  have HB6b := Lib.hid (HB6.out.trans (hb6.mono HB6.out.size))
  have HNs := Lib.hid (number_any m s w6b (by omega) (HE.out.later HB6b.out))
  clear hb6 HBs
  rcases hbo with ⟨_, rfl⟩ | ⟨c, hc, rfl⟩
  · go_wp2_with fail
    refine HNs.out.mono ?_
    rintro e w7 ⟨hno, hb7⟩
    have HB7 := Lib.hid (HB6b.out.trans (hb7.mono HB6b.out.size))
    have HH := Lib.hid ((hex_any s w7 (by omega)).mono fun _ _ h => str_of (s := hx) HHx.out h)
    clear hb7 HNs
    rcases hno with ⟨_, rfl⟩ | ⟨kk, hk, rfl⟩
    · go_wp2_with fail
      refine HH.out.mono ?_
      rintro e w8 ⟨rfl, hb8⟩
      have HB8 := Lib.hid (HB7.out.trans (hb8.mono HB7.out.size))
      have HRH := Lib.hid ((refhex_any s w8 (by omega)).mono fun _ _ h => str_of (s := hx) HHx.out h)
      clear hb8 HH
      go_wp2_with fail
      refine HRH.out.mono ?_
      rintro e w9 ⟨rfl, hb9⟩
      have HB9 := Lib.hid (HB8.out.trans (hb9.mono HB8.out.size))
      clear hb9 HRH
      go_wp2_with fail
      go_ret
      exact ⟨rfl, HB9.out⟩
    · obtain ⟨hk1, hk2⟩ := numP_some hk
      have HSo := Lib.hid (show s.data.toList = Lib.itoa kk from hk1.symm)
      have HKI : Hid (I64 kk) := Lib.hid hk2
      clear hk hk1 hk2
      go_wp2_with fail
      refine HH.out.mono ?_
      rintro e w8 ⟨rfl, hb8⟩
      have HB8 := Lib.hid (HB7.out.trans (hb8.mono HB7.out.size))
      have HRH := Lib.hid ((refhex_any s w8 (by omega)).mono fun _ _ h => str_of (s := hx) HHx.out h)
      clear hb8 HH
      go_wp2_with fail
      refine HRH.out.mono ?_
      rintro e w9 ⟨rfl, hb9⟩
      have HB9 := Lib.hid (HB8.out.trans (hb9.mono HB8.out.size))
      clear hb9 HRH
      have HRN := Lib.hid ((refnum_any kk HKI.out w9).mono fun _ _ h => str_of (s := s) HSo.out h)
      go_wp2_with fail
      refine HRN.out.mono ?_
      rintro e w11 ⟨rfl, hb11⟩
      have HB11 := Lib.hid (HB9.out.trans (hb11.mono HB9.out.size))
      clear hb11 HRN
      go_wp2_with fail
      go_ret
      exact ⟨rfl, HB11.out⟩
  · have hcz : c.size ≤ 2000 := by have h1 := unH_size hc; rw [size_list, size_list] at h1; omega
    have HOdd := Lib.hid (show s.data.toList = hexL c.data.toList from (hexL_unH hc).symm)
    clear hc
    go_wp2_with fail
    refine HNs.out.mono ?_
    rintro e w7 ⟨hno, hb7⟩
    have HB7 := Lib.hid (HB6b.out.trans (hb7.mono HB6b.out.size))
    have HH := Lib.hid ((hex_any s w7 (by omega)).mono fun _ _ h => str_of (s := hx) HHx.out h)
    clear hb7 HNs
    rcases hno with ⟨_, rfl⟩ | ⟨kk, hk, rfl⟩
    · go_wp2_with fail
      refine HH.out.mono ?_
      rintro e w8 ⟨rfl, hb8⟩
      have HB8 := Lib.hid (HB7.out.trans (hb8.mono HB7.out.size))
      have HRH := Lib.hid ((refhex_any s w8 (by omega)).mono fun _ _ h => str_of (s := hx) HHx.out h)
      clear hb8 HH
      go_wp2_with fail
      refine HRH.out.mono ?_
      rintro e w9 ⟨rfl, hb9⟩
      have HB9 := Lib.hid (HB8.out.trans (hb9.mono HB8.out.size))
      clear hb9 HRH
      have HRC := Lib.hid ((refhex_any c w9 (by omega)).mono fun _ _ h => str_of (s := s) HOdd.out h)
      go_wp2_with fail
      refine HRC.out.mono ?_
      rintro e w10 ⟨rfl, hb10⟩
      have HB10 := Lib.hid (HB9.out.trans (hb10.mono HB9.out.size))
      clear hb10 HRC
      go_wp2_with fail
      go_ret
      exact ⟨rfl, HB10.out⟩
    · obtain ⟨hk1, hk2⟩ := numP_some hk
      have HSo := Lib.hid (show s.data.toList = Lib.itoa kk from hk1.symm)
      have HKI : Hid (I64 kk) := Lib.hid hk2
      clear hk hk1 hk2
      go_wp2_with fail
      refine HH.out.mono ?_
      rintro e w8 ⟨rfl, hb8⟩
      have HB8 := Lib.hid (HB7.out.trans (hb8.mono HB7.out.size))
      have HRH := Lib.hid ((refhex_any s w8 (by omega)).mono fun _ _ h => str_of (s := hx) HHx.out h)
      clear hb8 HH
      go_wp2_with fail
      refine HRH.out.mono ?_
      rintro e w9 ⟨rfl, hb9⟩
      have HB9 := Lib.hid (HB8.out.trans (hb9.mono HB8.out.size))
      clear hb9 HRH
      have HRC := Lib.hid ((refhex_any c w9 (by omega)).mono fun _ _ h => str_of (s := s) HOdd.out h)
      go_wp2_with fail
      refine HRC.out.mono ?_
      rintro e w10 ⟨rfl, hb10⟩
      have HB10 := Lib.hid (HB9.out.trans (hb10.mono HB9.out.size))
      clear hb10 HRC
      have HRN := Lib.hid ((refnum_any kk HKI.out w10).mono fun _ _ h => str_of (s := s) HSo.out h)
      go_wp2_with fail
      refine HRN.out.mono ?_
      rintro e w11 ⟨rfl, hb11⟩
      have HB11 := Lib.hid (HB10.out.trans (hb11.mono HB10.out.size))
      clear hb11 HRN
      go_wp2_with fail
      go_ret
      exact ⟨rfl, HB11.out⟩
end Go.Proofs.YtblhicfllomdlaaDoor.cal
