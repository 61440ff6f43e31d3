/- What the reference's Read answers of extents that are right, of a long file, too, where few bytes are asked for. Condition: the file is one that is looked at, or few bytes are asked for. What the reference answers to a call. Conditions: the trees, their numbers lie in memory; the trees may be. -/
import Derived.Test.YtkdldnjnadadgaaGreatDoorJB5
import Derived.Test.YtkdldnjnadadgaaGreatDoorJU2
import Derived.Test.YtkdldnjnadadgaaGreatDoorJU4
import Derived.Test.YtkdldnjnadadgaaGreatDoorJXP
namespace Go.Proofs.YtkdldnjnadadgaaGreatDoor.ext
set_option maxRecDepth 100000
open Go.RowKit Go.Proofs.YtkdldnjnadadgaaGreatDoor.words

set_option maxHeartbeats 3200000 in
theorem refread_all (size off n : Int) (A : Option Addr) (cap : Nat) (L : List Ex) (w : World) (hI : Exts w w.heap.size A L) (hlen : L.length ≤ 4611686018427387904) (hr : rightB size L = true) (hs : size ≤ 3000 ∨ n ≤ 3000)
    (ho1 : -9223372036854775808 ≤ off) (ho2 : off ≤ 9223372036854775807) (hn1 : -9223372036854775808 ≤ n) (hn2 : n ≤ 9223372036854775807) :
    Calls Tryz.prog 86 #[.int .i64 size, .slice A L.length cap, .int .i64 off, .int .i64 n] w fun e w' => (∃ r : ByteArray, e = .returned (.string r) ∧ r.data.toList = readB size L off n) ∧ Below w.heap.size w w' := by
  have HI := Lib.hid hI
  have hR := rightB_iff.1 hr
  have hsz := hR.1
  have HL := Lib.hid (show ∀ x ∈ L, 0 ≤ x.O ∧ x.O + (x.D.size : Int) ≤ 1048576 from fun x hx => ⟨(hR.2.1 x hx).2.1, Int.le_trans (hR.2.1 x hx).2.2 hsz.2⟩)
  have s0 := hsz.1
  have s1 := hsz.2
  clear hI hr hR hsz
  obtain ⟨i0, hi, hz0, hz1, hz2⟩ := info_parts info_byte
  by_cases h0 : off < 0
  · have hR : readB size L off n = [] := by unfold readB countOf; rw [if_pos h0]; rfl
    have HR := Lib.hid hR
    clear hR
    go_enter Tryz.func86, Tryz.ntmps86
    go_wp2_with fail
    go_ret
    exact ⟨⟨⟨#[]⟩, rfl, HR.out.symm⟩, (Below.refl _ _).alloc (Nat.le_refl _) _⟩
  have d0 : decide (off < 0) = false := by simp; omega
  obtain ⟨m, hm⟩ : ∃ m, m = countOf size off n := ⟨_, rfl⟩
  have hm' : m = (min n (size - off)).toNat := by rw [hm]; unfold countOf; rw [if_neg h0]
  have hm0 : m ≤ 3000 := by omega
  have HM := Lib.hid hm
  have hmn : ∀ k : Nat, k < m → (k : Int) < n ∧ (k : Int) < size - off := fun k hk => by omega
  have hmx : ∀ k : Nat, ¬ k < m → ¬ ((k : Int) < n ∧ (k : Int) < size - off) := fun k hk => by omega
  have HMN := Lib.hid hmn
  have HMX := Lib.hid hmx
  clear hm hm' hmn hmx
  go_enter Tryz.func86, Tryz.ntmps86
  go_wp2_with fail
  clear d0
  go_loopw [9, 10] (fun v c wr => ∃ (k : Nat) (va : Option Addr) (vc : Nat), k ≤ m ∧ c = .int .i64 k ∧ v = .slice va k vc ∧ wr.ownsRow w.heap.size 5 1 (.slice va k vc) k (Lib.byteCells (readL L off k)) ∧ Below w.heap.size w wr)
    (fun _ c _ => m - (intOf c).toNat)
  case atStart => exact ⟨0, _, _, Nat.zero_le _, rfl, rfl, World.ownsRow_made w #[] 0 (Nat.le_refl _) (by decide) rfl, (Below.refl _ _).alloc (Nat.le_refl _) _⟩
  case round =>
    obtain ⟨k, va, vc, hk, rfl, rfl, hown, hbel⟩ := hrel
    have HO := Lib.hid hown
    have HB := Lib.hid hbel
    clear hown hbel
    by_cases hlt : k < m
    · obtain ⟨k1, k2⟩ := HMN.out k hlt
      have hIr := (HI.out.keep HB.out).more HB.out.size
      have HIr := Lib.hid hIr
      have p0 : 0 ≤ off + (k : Int) := by omega
      have p1 : off + (k : Int) ≤ 1048576 := by omega
      clear hIr
      go_wp2_with fail
      refine (at_any (off + (k : Int)) _ _ _ _ HIr.out hlen p0 p1 HL.out).mono ?_
      rintro e w2 ⟨rfl, nq, hq⟩
      have HO2 : Hid (w2.ownsRow w.heap.size 5 1 (.slice va k vc) k (Lib.byteCells (readL L off k))) := by rw [← hq]; exact Lib.hid HO.out
      have HB2 : Hid (Below w.heap.size w w2) := by rw [← hq]; exact Lib.hid (below_drewN HB.out nq)
      have HS := Lib.hid (readL_succ L off k)
      obtain ⟨bv, hbv⟩ : ∃ bv, bv = atB L (off + (k : Int)) := ⟨_, rfl⟩
      rw [← hbv] at HS ⊢
      clear hq hbv HO HB HIr
      go_wp2_with (at_builtin; refine wpList_append_lies _ rfl (.tmp 26) (.tmp 32) _ rfl w.heap.size 5 i0 _ 1 1 Tryz.underlying105 hi hz0 hz1 hz2 rfl (by omega) _ _ _ rfl (HO2.out.alloc _) ⟨w2.heap.size, 0, none⟩ 1 1 [.int .u8 (bv.toNat : Int)] rfl rfl (World.news_of_block (cs := #[.int .u8 (bv.toNat : Int)]) (t := 5) (fr := (0, 0)) (heap_alloc_new w2 _)) (by simp [Value.oneCell']) (by omega) (by simp only [maxLen]; omega) (by omega) (by have := HB2.out.size; simp at this ⊢; omega) (w2.heap.size + 1) (by simp) ?_; intro gg gc w4 hown4 hgrow hat hlt4)
      have HB4 := Lib.hid (keep_grown (HB2.out.alloc HB2.out.size _) (HO2.out.alloc _) hgrow (Nat.le_refl _) (Nat.le_refl _))
      clear hgrow hat
      go_roundw
      case rel => exact ⟨k + 1, _, _, by omega, by go_num, rfl, by rw [HS.out, byteCells_snoc]; exact hown4, HB4.out⟩
      case measure => simp [intOf]; omega
    · obtain rfl : k = m := by omega
      have hx := HMX.out k (by omega)
      have hv := conv_of (by rw [readL_length]) HO.out Tryz.underlying105 Tryz.underlying5 Tryz.underlying9
      have HR := Lib.hid (show readL L off k = readB size L off n by unfold readB; rw [← HM.out])
      clear HMX HMN
      by_cases k1 : (k : Int) < n
      · have k2 : ¬ (k : Int) < size - off := fun h => hx ⟨k1, h⟩
        clear hx
        go_wp2_with fail
        go_ret
        exact ⟨⟨_, rfl, HR.out⟩, HB.out⟩
      · clear hx
        go_wp2_with fail
        go_ret
        exact ⟨⟨_, rfl, HR.out⟩, HB.out⟩
end Go.Proofs.YtkdldnjnadadgaaGreatDoor.ext

namespace Go.Proofs.YtkdldnjnadadgaaGreatDoor.uni
set_option maxRecDepth 100000
open Go.RowKit Go.Proofs.YtkdldnjnadadgaaGreatDoor.words Go.Proofs.YtkdldnjnadadgaaGreatDoor.ext Go.Proofs.YtkdldnjnadadgaaGreatDoor.name Go.Proofs.YtkdldnjnadadgaaGreatDoor.tre Go.Proofs.YtkdldnjnadadgaaGreatDoor.stk Go.Proofs.YtkdldnjnadadgaaGreatDoor.seen Go.Proofs.YtkdldnjnadadgaaGreatDoor.wlk

theorem leads_err {R : List Nd} {f : Bool} {ns ps : List ByteArray} {h : Nat} {o : AtO} (H : Leads R f ns ps h o) : ∀ j, o = .err j → j ≠ 0 := by
  induction H with
  | done => intro j h; cases h
  | up _ ih => exact ih
  | none => intro j h; injection h with h; omega
  | dir _ _ _ _ _ _ ih => exact ih
  | loop => intro j h; injection h with h; omega
  | hop _ _ _ _ _ _ _ _ ih => exact ih
  | not => intro j h; injection h with h; omega
  | leaf => intro j h; cases h
theorem goes_err {R : List Nd} {f : Bool} {s : ByteArray} {j : Int} (h : Goes R f s (.err j)) : j ≠ 0 := by
  rcases h with ⟨_, h⟩ | ⟨_, _, h⟩
  · injection h with h; omega
  · exact leads_err h j rfl
theorem fault_any (k : Int) (w : World) : Calls Tryz.prog 84 #[.int .i64 k] w fun e w' => e = .returned (resV k 0 0 0 ⟨#[]⟩) ∧ Below w.heap.size w w' := by
  obtain ⟨W1, hW1⟩ : ∃ W1, W1 = w.alloc (.cells #[.int .i64 0, .int .i64 0, .int .i64 0, .int .i64 0, .int .i64 0, .string ⟨#[]⟩, .slice none 0 0, .bool false] 66) := ⟨_, rfl⟩
  have hb1 : Below w.heap.size w W1 := by rw [hW1]; exact (Below.refl _ _).alloc (Nat.le_refl _) _
  have hx : W1.heap[w.heap.size]? = some (.cells #[.int .i64 0, .int .i64 0, .int .i64 0, .int .i64 0, .int .i64 0, .string ⟨#[]⟩, .slice none 0 0, .bool false] 66 (0, 0)) := by rw [hW1]; exact heap_alloc_new w _
  have HPut := Lib.hid (put8 (rb := w.heap.size) (Nat.le_refl _) hx hb1 k 0 0 0 ⟨#[]⟩)
  have y0 := cell_of_blk hx 0
  have z0 := free_of_blk hx 0
  have y1 := cell_of_blk hx 1
  have z1 := free_of_blk hx 1
  have y2 := cell_of_blk hx 2
  have z2 := free_of_blk hx 2
  have y3 := cell_of_blk hx 3
  have z3 := free_of_blk hx 3
  have y4 := cell_of_blk hx 4
  have z4 := free_of_blk hx 4
  have y5 := cell_of_blk hx 5
  have z5 := free_of_blk hx 5
  have y6 := cell_of_blk hx 6
  have z6 := free_of_blk hx 6
  have y7 := cell_of_blk hx 7
  have z7 := free_of_blk hx 7
  have HW1 := Lib.hid hW1
  clear hW1 hx hb1
  go_enter Tryz.func84, Tryz.ntmps84
  go_upto_region 1 with fail
  rw [← HW1.out]
  go_wp2_with fail
  obtain ⟨p0, p1, p2, p3, p4, p5, p6, p7, HE⟩ := HPut.out _ rfl
  unfold set8 at p0 p1 p2 p3 p4 p5 p6 p7 HE
  exact bodyPost_ret (v := resV k 0 0 0 ⟨#[]⟩) (by unfold resV; simp [results, Tryz.results84, go_sem, p0, p1, p2, p3, p4, p5, p6, p7]) rfl ⟨rfl, HE⟩
/-- The trees' numbers, in memory: they fall. -/
def IdsAt (w : World) (B : Nat) (Ai : Option Addr) (n : Nat) : Prop := ∀ i : Nat, i < n → ∃ b off, Ai = some ⟨b, off, none⟩ ∧ b < B ∧ w.cell? ⟨b, off + i, none⟩ = some (.int .i64 ((n : Int) - 1 - i))
theorem IdsAt.later {w w' : World} {Ai : Option Addr} {n : Nat} (h : IdsAt w w.heap.size Ai n) (hb : Below w.heap.size w w') : IdsAt w' w'.heap.size Ai n := fun i hi => by
  obtain ⟨b, off, h1, h2, h3⟩ := h i hi
  exact ⟨b, off, h1, Nat.lt_of_lt_of_le h2 hb.size, (hb.cell (p := ⟨b, off + i, none⟩) h2).trans h3⟩
set_option maxHeartbeats 6400000 in
theorem refdo_no (R : List Nd) (A : Option Addr) (c : Nat) (Ai : Option Addr) (ni ci : Nat) (k : Int) (p : ByteArray) (o m id : Int) (img : ByteArray) (w : World) (h : isB k = false ∨ badB k o m = true) :
    Calls Tryz.prog 30 #[.slice A R.length c, .slice Ai ni ci, opV k p o m id img] w fun e w' => e = .returned (resV 1 0 0 0 ⟨#[]⟩) ∧ Below w.heap.size w w' := by
  obtain ⟨g1, W1, hW1, eg1, hxo, hxr, hb1, lg1⟩ := two_boxes w (.cells #[.int .i64 k, .string p, .int .i64 o, .int .i64 m, .int .i64 id, .string img] 63) (.cells #[.int .i64 0, .int .i64 0, .int .i64 0, .int .i64 0, .int .i64 0, .string ⟨#[]⟩, .slice none 0 0, .bool false] 66)
  have HXo := Lib.hid hxo
  have HXr := Lib.hid hxr
  have HB1 := Lib.hid hb1
  have HW1 := Lib.hid hW1
  have HEg1 := Lib.hid eg1
  have HLg1 := Lib.hid lg1
  clear hW1 hb1 hxo hxr eg1 lg1
  unfold opV
  have eo := HXo.out
  have xo0 := cell_of_blk eo 0
  have xo2 := cell_of_blk eo 2
  have xo3 := cell_of_blk eo 3
  clear eo
  have HF0 : Hid (∀ w', Below W1.heap.size W1 w' → Below W1.heap.size W1 w') := Lib.hid fun _ h => h
  clear HF0
  by_cases h1 : k < 1
  · clear h
    go_enter Tryz.func30, Tryz.ntmps30
    go_upto_region 1 with fail
    rw [HW1.out]
    simp only [HEg1.out]
    clear HW1 HEg1
    go_wp2_with fail
    refine (fault_any 1 _).mono ?_
    rintro ex wf ⟨rfl, hbf⟩
    have HBf := Lib.hid ((Below.refl W1.heap.size W1).trans (hbf.mono ((Below.refl W1.heap.size W1)).size))
    clear hbf
    unfold resV
    clear xo0 xo2 xo3
    have eq8 := (HBf.out.block _ (lt_of_some HXr.out)).trans HXr.out
    have HPut := Lib.hid (put8 (rb := g1) HLg1.out eq8 (HB1.out.trans (HBf.out.mono HB1.out.size)) 1 0 0 0 ⟨#[]⟩)
    have y0 := cell_of_blk eq8 0
    have z0 := free_of_blk eq8 0
    have y1 := cell_of_blk eq8 1
    have z1 := free_of_blk eq8 1
    have y2 := cell_of_blk eq8 2
    have z2 := free_of_blk eq8 2
    have y3 := cell_of_blk eq8 3
    have z3 := free_of_blk eq8 3
    have y4 := cell_of_blk eq8 4
    have z4 := free_of_blk eq8 4
    have y5 := cell_of_blk eq8 5
    have z5 := free_of_blk eq8 5
    have y6 := cell_of_blk eq8 6
    have z6 := free_of_blk eq8 6
    have y7 := cell_of_blk eq8 7
    have z7 := free_of_blk eq8 7
    clear eq8
    go_wp2_with fail
    obtain ⟨p0, p1, p2, p3, p4, p5, p6, p7, HE⟩ := HPut.out _ rfl
    unfold set8 at p0 p1 p2 p3 p4 p5 p6 p7 HE
    exact bodyPost_ret (v := resV 1 0 0 0 ⟨#[]⟩) (by unfold resV; simp [results, Tryz.results30, go_sem, p0, p1, p2, p3, p4, p5, p6, p7]) rfl ⟨rfl, HE⟩
  by_cases h2 : 4 < k
  · clear h
    go_enter Tryz.func30, Tryz.ntmps30
    go_upto_region 1 with fail
    rw [HW1.out]
    simp only [HEg1.out]
    clear HW1 HEg1
    go_wp2_with fail
    refine (fault_any 1 _).mono ?_
    rintro ex wf ⟨rfl, hbf⟩
    have HBf := Lib.hid ((Below.refl W1.heap.size W1).trans (hbf.mono ((Below.refl W1.heap.size W1)).size))
    clear hbf
    unfold resV
    clear xo0 xo2 xo3
    have eq8 := (HBf.out.block _ (lt_of_some HXr.out)).trans HXr.out
    have HPut := Lib.hid (put8 (rb := g1) HLg1.out eq8 (HB1.out.trans (HBf.out.mono HB1.out.size)) 1 0 0 0 ⟨#[]⟩)
    have y0 := cell_of_blk eq8 0
    have z0 := free_of_blk eq8 0
    have y1 := cell_of_blk eq8 1
    have z1 := free_of_blk eq8 1
    have y2 := cell_of_blk eq8 2
    have z2 := free_of_blk eq8 2
    have y3 := cell_of_blk eq8 3
    have z3 := free_of_blk eq8 3
    have y4 := cell_of_blk eq8 4
    have z4 := free_of_blk eq8 4
    have y5 := cell_of_blk eq8 5
    have z5 := free_of_blk eq8 5
    have y6 := cell_of_blk eq8 6
    have z6 := free_of_blk eq8 6
    have y7 := cell_of_blk eq8 7
    have z7 := free_of_blk eq8 7
    clear eq8
    go_wp2_with fail
    obtain ⟨p0, p1, p2, p3, p4, p5, p6, p7, HE⟩ := HPut.out _ rfl
    unfold set8 at p0 p1 p2 p3 p4 p5 p6 p7 HE
    exact bodyPost_ret (v := resV 1 0 0 0 ⟨#[]⟩) (by unfold resV; simp [results, Tryz.results30, go_sem, p0, p1, p2, p3, p4, p5, p6, p7]) rfl ⟨rfl, HE⟩
  have hk : k = 4 ∧ (o < 0 ∨ m < 0) := by
    rcases h with h | h
    · exfalso
      unfold isB at h
      simp at h
      omega
    · unfold badB at h
      simp at h
      omega
  obtain ⟨rfl, hk⟩ := hk
  clear h h1 h2
  by_cases ho : o < 0
  · clear hk
    go_enter Tryz.func30, Tryz.ntmps30
    go_upto_region 1 with fail
    rw [HW1.out]
    simp only [HEg1.out]
    clear HW1 HEg1
    go_wp2_with fail
    refine (fault_any 1 _).mono ?_
    rintro ex wf ⟨rfl, hbf⟩
    have HBf := Lib.hid ((Below.refl W1.heap.size W1).trans (hbf.mono ((Below.refl W1.heap.size W1)).size))
    clear hbf
    unfold resV
    clear xo0 xo2 xo3
    have eq8 := (HBf.out.block _ (lt_of_some HXr.out)).trans HXr.out
    have HPut := Lib.hid (put8 (rb := g1) HLg1.out eq8 (HB1.out.trans (HBf.out.mono HB1.out.size)) 1 0 0 0 ⟨#[]⟩)
    have y0 := cell_of_blk eq8 0
    have z0 := free_of_blk eq8 0
    have y1 := cell_of_blk eq8 1
    have z1 := free_of_blk eq8 1
    have y2 := cell_of_blk eq8 2
    have z2 := free_of_blk eq8 2
    have y3 := cell_of_blk eq8 3
    have z3 := free_of_blk eq8 3
    have y4 := cell_of_blk eq8 4
    have z4 := free_of_blk eq8 4
    have y5 := cell_of_blk eq8 5
    have z5 := free_of_blk eq8 5
    have y6 := cell_of_blk eq8 6
    have z6 := free_of_blk eq8 6
    have y7 := cell_of_blk eq8 7
    have z7 := free_of_blk eq8 7
    clear eq8
    go_wp2_with fail
    obtain ⟨p0, p1, p2, p3, p4, p5, p6, p7, HE⟩ := HPut.out _ rfl
    unfold set8 at p0 p1 p2 p3 p4 p5 p6 p7 HE
    exact bodyPost_ret (v := resV 1 0 0 0 ⟨#[]⟩) (by unfold resV; simp [results, Tryz.results30, go_sem, p0, p1, p2, p3, p4, p5, p6, p7]) rfl ⟨rfl, HE⟩
  have hm : m < 0 := by omega
  clear hk
  go_enter Tryz.func30, Tryz.ntmps30
  go_upto_region 1 with fail
  rw [HW1.out]
  simp only [HEg1.out]
  clear HW1 HEg1
  go_wp2_with fail
  refine (fault_any 1 _).mono ?_
  rintro ex wf ⟨rfl, hbf⟩
  have HBf := Lib.hid ((Below.refl W1.heap.size W1).trans (hbf.mono ((Below.refl W1.heap.size W1)).size))
  clear hbf
  unfold resV
  clear xo0 xo2 xo3
  have eq8 := (HBf.out.block _ (lt_of_some HXr.out)).trans HXr.out
  have HPut := Lib.hid (put8 (rb := g1) HLg1.out eq8 (HB1.out.trans (HBf.out.mono HB1.out.size)) 1 0 0 0 ⟨#[]⟩)
  have y0 := cell_of_blk eq8 0
  have z0 := free_of_blk eq8 0
  have y1 := cell_of_blk eq8 1
  have z1 := free_of_blk eq8 1
  have y2 := cell_of_blk eq8 2
  have z2 := free_of_blk eq8 2
  have y3 := cell_of_blk eq8 3
  have z3 := free_of_blk eq8 3
  have y4 := cell_of_blk eq8 4
  have z4 := free_of_blk eq8 4
  have y5 := cell_of_blk eq8 5
  have z5 := free_of_blk eq8 5
  have y6 := cell_of_blk eq8 6
  have z6 := free_of_blk eq8 6
  have y7 := cell_of_blk eq8 7
  have z7 := free_of_blk eq8 7
  clear eq8
  go_wp2_with fail
  obtain ⟨p0, p1, p2, p3, p4, p5, p6, p7, HE⟩ := HPut.out _ rfl
  unfold set8 at p0 p1 p2 p3 p4 p5 p6 p7 HE
  exact bodyPost_ret (v := resV 1 0 0 0 ⟨#[]⟩) (by unfold resV; simp [results, Tryz.results30, go_sem, p0, p1, p2, p3, p4, p5, p6, p7]) rfl ⟨rfl, HE⟩
set_option maxHeartbeats 12800000 in
theorem refdo_1 {R : List Nd} (hg : ∀ t ∈ R, allB t = true) (hR : R.length ≤ 64) (A : Option Addr) (c : Nat) (rs : Nat → Raw) (Ai : Option Addr) (ni ci : Nat) (p : ByteArray) (o m id : Int) (img : ByteArray) (w : World) (hT : Trees w w.heap.size A R rs) (hp : p.size ≤ 1000000) {O : AtO} (hO : Goes R false p O) (hni : ni = R.length) (hId : IdsAt w w.heap.size Ai R.length) {l : Int} (hl : ∀ ns E, O = .ok ns E → LevI R ns l ∧ ns.length ≤ 100000) :
    Calls Tryz.prog 30 #[.slice A R.length c, .slice Ai ni ci, opV 1 p o m id img] w fun e w' => Res (ansO (R.length : Int) l O 1 o m) e ∧ Below w.heap.size w w' := by
  obtain ⟨g1, W1, hW1, eg1, hxo, hxr, hb1, lg1⟩ := two_boxes w (.cells #[.int .i64 1, .string p, .int .i64 o, .int .i64 m, .int .i64 id, .string img] 63) (.cells #[.int .i64 0, .int .i64 0, .int .i64 0, .int .i64 0, .int .i64 0, .string ⟨#[]⟩, .slice none 0 0, .bool false] 66)
  have HXo := Lib.hid hxo
  have HXr := Lib.hid hxr
  have HB1 := Lib.hid hb1
  have HW1 := Lib.hid hW1
  have HEg1 := Lib.hid eg1
  have HLg1 := Lib.hid lg1
  clear hW1 hb1 hxo hxr eg1 lg1
  have HWk : Hid (Calls Tryz.prog 15 #[.slice A R.length c, .string p, .bool false] W1 fun e w'' => (∃ (B1 : Option Addr) (m1 e1 : Nat) (B2 : Option Addr) (m2 e2 : Nat) (kz : Int), e = .returned (.agg #[.slice B1 m1 e1, .slice B2 m2 e2, .int .i64 kz]) ∧ AtIn O (.agg #[.slice B1 m1 e1, .slice B2 m2 e2, .int .i64 kz]) w'') ∧ Below W1.heap.size W1 w'') := Lib.hid (
    (refwalk_any hg hR A c rs p false O W1 (hT.later HB1.out) hp hO).mono fun e w'' ⟨⟨v, he, hv⟩, hw⟩ => by
      obtain ⟨B1, m1, e1, B2, m2, e2, kz, rfl⟩ := hv.shape
      exact ⟨⟨B1, m1, e1, B2, m2, e2, kz, he, hv⟩, hw⟩)
  have HO := Lib.hid hO
  have HT := Lib.hid (hT.later HB1.out)
  have HGg := Lib.hid hg
  have HId := Lib.hid (hId.later HB1.out)
  have HLv := Lib.hid hl
  have HNi := Lib.hid hni
  clear hId hl hni
  clear hg hT hO hp
  unfold opV
  have eo := HXo.out
  have xo0 := cell_of_blk eo 0
  have xo1 := cell_of_blk eo 1
  have xo2 := cell_of_blk eo 2
  have xo3 := cell_of_blk eo 3
  clear eo
  go_enter Tryz.func30, Tryz.ntmps30
  go_upto_region 1 with fail
  rw [HW1.out]
  simp only [HEg1.out]
  clear HW1 HEg1
  go_wp2_with fail
  refine HWk.out.mono ?_
  rintro ex w2 ⟨⟨B1, m1, e1, B2, m2, e2, kz, rfl, hat⟩, hb2⟩
  obtain ⟨q, hq⟩ : ∃ q, q = w2.heap.size := ⟨_, rfl⟩
  obtain ⟨W3, hW3⟩ : ∃ W3, W3 = w2.alloc (.cells #[.slice B1 m1 e1, .slice B2 m2 e2, .int .i64 kz] 34) := ⟨_, rfl⟩
  have hx3 : W3.heap[q]? = some (.cells #[.slice B1 m1 e1, .slice B2 m2 e2, .int .i64 kz] 34 (0, 0)) := by rw [hW3, hq]; exact heap_alloc_new w2 _
  have hb23 : Below w2.heap.size w2 W3 := by rw [hW3]; exact (Below.refl _ _).alloc (Nat.le_refl _) _
  have HB3 := Lib.hid (hb2.trans (hb23.mono hb2.size))
  have HAt := Lib.hid (hat.later hb23)
  have HX3 := Lib.hid hx3
  have a0 := cell_of_blk hx3 0
  have a1 := cell_of_blk hx3 1
  have a2 := cell_of_blk hx3 2
  have HW3 := Lib.hid hW3.symm
  have HQ := Lib.hid hq.symm
  have eo := (HB3.out.block _ (lt_of_some HXo.out)).trans HXo.out
  clear xo0 xo1 xo2 xo3
  have xo0 := cell_of_blk eo 0
  have xo2 := cell_of_blk eo 2
  have xo3 := cell_of_blk eo 3
  clear hW3 hq hx3 hb23 hb2 hat HWk eo
  go_upto_region 4 with fail
  rw [HW3.out]
  simp only [HQ.out]
  clear HW3 HQ
  rcases hOe : O with j | ⟨ns, E⟩
  · subst hOe
    have hj : j ≠ 0 := goes_err HO.out
    obtain rfl : kz = j := at_err HAt.out rfl
    have gj : (kz != 0) = true := by rw [bne_iff_ne]; exact hj
    clear hj
    go_wp2_with fail
    refine (fault_any kz _).mono ?_
    rintro ex wf ⟨rfl, hbf⟩
    have HBf := Lib.hid (HB3.out.trans (hbf.mono (HB3.out).size))
    clear hbf
    unfold resV
    clear a0 a1 a2 xo0 xo2 xo3
    have eq8 := (HBf.out.block _ (lt_of_some HXr.out)).trans HXr.out
    have HPut := Lib.hid (put8 (rb := g1) HLg1.out eq8 (HB1.out.trans (HBf.out.mono HB1.out.size)) kz 0 0 0 ⟨#[]⟩)
    have y0 := cell_of_blk eq8 0
    have z0 := free_of_blk eq8 0
    have y1 := cell_of_blk eq8 1
    have z1 := free_of_blk eq8 1
    have y2 := cell_of_blk eq8 2
    have z2 := free_of_blk eq8 2
    have y3 := cell_of_blk eq8 3
    have z3 := free_of_blk eq8 3
    have y4 := cell_of_blk eq8 4
    have z4 := free_of_blk eq8 4
    have y5 := cell_of_blk eq8 5
    have z5 := free_of_blk eq8 5
    have y6 := cell_of_blk eq8 6
    have z6 := free_of_blk eq8 6
    have y7 := cell_of_blk eq8 7
    have z7 := free_of_blk eq8 7
    clear eq8
    go_wp2_with fail
    obtain ⟨p0, p1, p2, p3, p4, p5, p6, p7, HE⟩ := HPut.out _ rfl
    unfold set8 at p0 p1 p2 p3 p4 p5 p6 p7 HE
    exact bodyPost_ret (v := resV kz 0 0 0 ⟨#[]⟩) (by unfold resV; simp [results, Tryz.results30, go_sem, p0, p1, p2, p3, p4, p5, p6, p7]) rfl ⟨⟨_, rfl, rfl⟩, HE⟩
  subst hOe
  have hAt := HAt.out
  obtain ⟨A1, c1, A2, c2, qs, hv, hrow, _, _, htr, _⟩ := hAt
  injection hv with hv
  have h0 := congrArg (fun x : Array Value => x[0]?) hv
  have h1 := congrArg (fun x : Array Value => x[1]?) hv
  have h2 := congrArg (fun x : Array Value => x[2]?) hv
  simp at h0 h1 h2
  obtain ⟨rfl, rfl, rfl⟩ := h0
  obtain ⟨rfl, rfl, rfl⟩ := h1
  subst h2
  have HRow := Lib.hid hrow
  have HTr := Lib.hid htr
  have HLl := Lib.hid (HLv.out ns E rfl)
  clear HLv
  clear hv hrow htr HAt HO
  rcases E with _ | ⟨d, E⟩
  · skip
    obtain ⟨W4, hW4⟩ : ∃ W4, W4 = W3.alloc (.cells #[.int .i64 0, .bool false, .slice none 0 0, .slice none 0 0, .int .i64 0, .slice none 0 0, .string ⟨#[]⟩] 125) := ⟨_, rfl⟩
    obtain ⟨qn, hqn⟩ : ∃ qn, qn = W3.heap.size := ⟨_, rfl⟩
    have hx4 : W4.heap[qn]? = some (.cells #[.int .i64 0, .bool false, .slice none 0 0, .slice none 0 0, .int .i64 0, .slice none 0 0, .string ⟨#[]⟩] 125 (0, 0)) := by rw [hW4, hqn]; exact heap_alloc_new W3 _
    have hb34 : Below W3.heap.size W3 W4 := by rw [hW4]; exact (Below.refl _ _).alloc (Nat.le_refl _) _
    have HB34 := Lib.hid hb34
    have HB4 := Lib.hid (HB3.out.trans (hb34.mono HB3.out.size))
    have HX4 := Lib.hid hx4
    have HQn := Lib.hid (show W3.heap.size ≤ qn by omega)
    have HW4 := Lib.hid hW4.symm
    have HQe := Lib.hid hqn.symm
    have ea := (hb34.block _ (lt_of_some HX3.out)).trans HX3.out
    have eo := (HB4.out.block _ (lt_of_some HXo.out)).trans HXo.out
    clear hW4 hqn hx4 hb34
    go_upto_region 9 with fail
    rw [HW4.out]
    simp only [HQe.out]
    clear HW4 HQe a0 a1 a2 xo0 xo2 xo3
    have a0 := cell_of_blk ea 0
    have a1 := cell_of_blk ea 1
    have xo0 := cell_of_blk eo 0
    have xo2 := cell_of_blk eo 2
    have xo3 := cell_of_blk eo 3
    clear ea eo
    have HLc := Lib.hid (level_any HGg.out hR A c rs B1 e1 ns W4 (HT.out.later HB4.out) ((HRow.out.keep HB34.out).more HB34.out.size) HLl.out.2)
    go_wp2_with fail
    refine HLc.out.mono ?_
    rintro ex w6 ⟨⟨z, rfl, hz⟩, hb6⟩
    obtain rfl : z = l := hz.uniq HLl.out.1
    have HB6 := Lib.hid (HB4.out.trans (hb6.mono (HB4.out).size))
    clear HLc hb6
    clear a0 xo0 xo2 xo3 a1
    by_cases hz0 : z < 0
    · have HWh : Hid (whI (R.length : Int) z = -1) := Lib.hid (by unfold whI; rw [if_pos hz0])
      have eq8 := (HB6.out.block _ (lt_of_some HXr.out)).trans HXr.out
      have HPut := Lib.hid (put8 (rb := g1) HLg1.out eq8 (HB1.out.trans (HB6.out.mono HB1.out.size)) 0 2 0 (-1) ⟨#[]⟩)
      have y0 := cell_of_blk eq8 0
      have z0 := free_of_blk eq8 0
      have y1 := cell_of_blk eq8 1
      have z1 := free_of_blk eq8 1
      have y2 := cell_of_blk eq8 2
      have z2 := free_of_blk eq8 2
      have y3 := cell_of_blk eq8 3
      have z3 := free_of_blk eq8 3
      have y4 := cell_of_blk eq8 4
      have z4 := free_of_blk eq8 4
      have y5 := cell_of_blk eq8 5
      have z5 := free_of_blk eq8 5
      have y6 := cell_of_blk eq8 6
      have z6 := free_of_blk eq8 6
      have y7 := cell_of_blk eq8 7
      have z7 := free_of_blk eq8 7
      clear eq8
      go_wp2_with fail
      obtain ⟨p0, p1, p2, p3, p4, p5, p6, p7, HE⟩ := HPut.out _ rfl
      unfold set8 at p0 p1 p2 p3 p4 p5 p6 p7 HE
      exact bodyPost_ret (v := resV 0 2 0 (-1) ⟨#[]⟩) (by unfold resV; simp [results, Tryz.results30, go_sem, p0, p1, p2, p3, p4, p5, p6, p7]) rfl ⟨⟨⟨#[]⟩, by show _ = Ending.returned (resV 0 _ 0 (whI (R.length : Int) z) ⟨#[]⟩); rw [HWh.out]; rfl, rfl⟩, HE⟩
    · obtain ⟨kz, rfl, hkl⟩ : ∃ kz : Nat, z = (kz : Int) ∧ kz < R.length := by
        rcases hz with ⟨kz, h1, ⟨t, d', h2, _⟩, _⟩ | ⟨h1, _⟩
        · exact ⟨kz, h1, (List.getElem?_eq_some_iff.1 h2).1⟩
        · omega
      obtain ⟨bi, oi, hAi, hbi, ci0⟩ := HId.out kz hkl
      subst hAi
      have HWh : Hid (whI (R.length : Int) (kz : Int) = (R.length : Int) - 1 - kz) := Lib.hid (by unfold whI; rw [if_neg hz0])
      have ii : w6.cell? ⟨bi, oi + kz, none⟩ = some (.int .i64 ((R.length : Int) - 1 - kz)) := (HB6.out.cell (p := ⟨bi, oi + kz, none⟩) hbi).trans ci0
      have i0 : (0 : Int) ≤ (kz : Int) := by omega
      have i1 : (kz : Int) < (ni : Int) := by have := HNi.out; omega
      clear ci0 hbi hz hz0
      have eq8 := (HB6.out.block _ (lt_of_some HXr.out)).trans HXr.out
      have HPut := Lib.hid (put8 (rb := g1) HLg1.out eq8 (HB1.out.trans (HB6.out.mono HB1.out.size)) 0 2 0 ((R.length : Int) - 1 - kz) ⟨#[]⟩)
      have y0 := cell_of_blk eq8 0
      have z0 := free_of_blk eq8 0
      have y1 := cell_of_blk eq8 1
      have z1 := free_of_blk eq8 1
      have y2 := cell_of_blk eq8 2
      have z2 := free_of_blk eq8 2
      have y3 := cell_of_blk eq8 3
      have z3 := free_of_blk eq8 3
      have y4 := cell_of_blk eq8 4
      have z4 := free_of_blk eq8 4
      have y5 := cell_of_blk eq8 5
      have z5 := free_of_blk eq8 5
      have y6 := cell_of_blk eq8 6
      have z6 := free_of_blk eq8 6
      have y7 := cell_of_blk eq8 7
      have z7 := free_of_blk eq8 7
      clear eq8
      go_wp2_with fail
      obtain ⟨p0, p1, p2, p3, p4, p5, p6, p7, HE⟩ := HPut.out _ rfl
      unfold set8 at p0 p1 p2 p3 p4 p5 p6 p7 HE
      exact bodyPost_ret (v := resV 0 2 0 ((R.length : Int) - 1 - kz) ⟨#[]⟩) (by unfold resV; simp [results, Tryz.results30, go_sem, p0, p1, p2, p3, p4, p5, p6, p7]) rfl ⟨⟨⟨#[]⟩, by show _ = Ending.returned (resV 0 _ 0 (whI (R.length : Int) (kz : Int)) ⟨#[]⟩); rw [HWh.out]; rfl, rfl⟩, HE⟩
  · skip
    obtain ⟨⟨bn, on, hA2, hbn, hcn⟩, hNd⟩ := HTr.out 0 d rfl
    subst hA2
    obtain ⟨rd, hrd⟩ : ∃ rd, rd = qs 0 := ⟨_, rfl⟩
    rw [← hrd] at hcn hNd
    have HNd := Lib.hid hNd
    have HCn := Lib.hid (And.intro hbn hcn)
    clear hrd hcn hNd hbn
    obtain ⟨W4, hW4⟩ : ∃ W4, W4 = W3.alloc (.cells #[.int .i64 0, .bool false, .slice none 0 0, .slice none 0 0, .int .i64 0, .slice none 0 0, .string ⟨#[]⟩] 125) := ⟨_, rfl⟩
    obtain ⟨qn, hqn⟩ : ∃ qn, qn = W3.heap.size := ⟨_, rfl⟩
    have hx4 : W4.heap[qn]? = some (.cells #[.int .i64 0, .bool false, .slice none 0 0, .slice none 0 0, .int .i64 0, .slice none 0 0, .string ⟨#[]⟩] 125 (0, 0)) := by rw [hW4, hqn]; exact heap_alloc_new W3 _
    have hb34 : Below W3.heap.size W3 W4 := by rw [hW4]; exact (Below.refl _ _).alloc (Nat.le_refl _) _
    have HB34 := Lib.hid hb34
    have HB4 := Lib.hid (HB3.out.trans (hb34.mono HB3.out.size))
    have HX4 := Lib.hid hx4
    have HQn := Lib.hid (show W3.heap.size ≤ qn by omega)
    have HW4 := Lib.hid hW4.symm
    have HQe := Lib.hid hqn.symm
    have ea := (hb34.block _ (lt_of_some HX3.out)).trans HX3.out
    have eo := (HB4.out.block _ (lt_of_some HXo.out)).trans HXo.out
    clear hW4 hqn hx4 hb34
    go_upto_region 9 with fail
    rw [HW4.out]
    simp only [HQe.out]
    clear HW4 HQe a0 a1 a2 xo0 xo2 xo3
    have a0 := cell_of_blk ea 0
    have a1 := cell_of_blk ea 1
    have xo0 := cell_of_blk eo 0
    have xo2 := cell_of_blk eo 2
    have xo3 := cell_of_blk eo 3
    clear ea eo
    have l0 : (0 : Int) < ((E.length + 1 : Nat) : Int) := by omega
    have l0' : (0 : Int) < (E.length : Int) + 1 := by omega
    have kc : ∀ (j : Nat) (v : Value), (rawCells d rd)[j]? = some v → W4.cell? ⟨bn, on + j, none⟩ = some v := fun j v hj => by
      have h1 := HCn.out.2 j v hj
      rw [Nat.zero_mul, Nat.add_zero] at h1
      exact (HB34.out.cell (p := ⟨bn, on + j, none⟩) HCn.out.1).trans h1
    have y0 : W4.cell? ⟨bn, on, none⟩ = some (.int .i64 d.K) := kc 0 _ rfl
    have y1 : W4.cell? ⟨bn, on + 1, none⟩ = some (.bool d.O) := kc 1 _ rfl
    have y2 : W4.cell? ⟨bn, on + 2, none⟩ = some (.slice rd.An d.N.length rd.cn) := kc 2 _ rfl
    have y3 : W4.cell? ⟨bn, on + 3, none⟩ = some (.slice rd.Ai d.I.length rd.ci) := kc 3 _ rfl
    have y4 : W4.cell? ⟨bn, on + 4, none⟩ = some (.int .i64 d.S) := kc 4 _ rfl
    have y5 : W4.cell? ⟨bn, on + 5, none⟩ = some (.slice rd.Ae d.E.length rd.ce) := kc 5 _ rfl
    have y6 : W4.cell? ⟨bn, on + 6, none⟩ = some (.string d.T) := kc 6 _ rfl
    have hz := HX4.out
    have z0 := free_of_blk hz 0
    have n0 := cell_of_blk hz 0
    have z1 := free_of_blk hz 1
    have n1 := cell_of_blk hz 1
    have z2 := free_of_blk hz 2
    have n2 := cell_of_blk hz 2
    have z3 := free_of_blk hz 3
    have n3 := cell_of_blk hz 3
    have z4 := free_of_blk hz 4
    have n4 := cell_of_blk hz 4
    have z5 := free_of_blk hz 5
    have n5 := cell_of_blk hz 5
    have z6 := free_of_blk hz 6
    have n6 := cell_of_blk hz 6
    obtain ⟨W5, hW5⟩ : ∃ W5, W5 = W4.setCells qn 0 (rawCells d rd).toList := ⟨_, rfl⟩
    have hbx : Box W5 qn d rd := by rw [hW5]; exact (show Box W4 qn (.mk 0 false [] [] 0 [] ⟨#[]⟩) ⟨none, 0, none, 0, none, 0⟩ from hz).over
    have HB5 := Lib.hid (show Below W3.heap.size W3 W5 by rw [hW5]; exact below_setCells HQn.out _ 0 W4 HB34.out)
    have HBx := Lib.hid hbx
    simp only [World.setCells, rawCells, Nat.reduceAdd, Nat.zero_add] at hW5
    have HW5 := Lib.hid hW5
    clear hW5 hbx hz kc
    go_upto_region 11 with fail
    rw [← HW5.out]
    clear HW5 y0 y1 y2 y3 y4 y5 y6 z0 n0 z1 n1 z2 n2 z3 n3 z4 n4 z5 n5 z6 n6 a0 a1 xo0 xo2 xo3 HX4 l0 l0'
    have HB15 := Lib.hid (HB3.out.trans (HB5.out.mono HB3.out.size))
    obtain ⟨n0, n1, n2, n3, n4, n5, n6⟩ := HBx.out.cells
    have ea := (HB5.out.block _ (lt_of_some HX3.out)).trans HX3.out
    have eo := (HB15.out.block _ (lt_of_some HXo.out)).trans HXo.out
    have a0 := cell_of_blk ea 0
    have xo0 := cell_of_blk eo 0
    have xo2 := cell_of_blk eo 2
    have xo3 := cell_of_blk eo 3
    clear ea eo
    have HLc := Lib.hid (level_any HGg.out hR A c rs B1 e1 ns W5 (HT.out.later HB15.out) ((HRow.out.keep HB5.out).more HB5.out.size) HLl.out.2)
    go_wp2_with fail
    refine HLc.out.mono ?_
    rintro ex w6 ⟨⟨z, rfl, hz⟩, hb6⟩
    obtain rfl : z = l := hz.uniq HLl.out.1
    have HB6 := Lib.hid (HB15.out.trans (hb6.mono (HB15.out).size))
    clear HLc hb6
    clear a0 xo0 xo2 xo3 n0 n1 n2 n3 n4 n5 n6
    by_cases hz0 : z < 0
    · have HWh : Hid (whI (R.length : Int) z = -1) := Lib.hid (by unfold whI; rw [if_pos hz0])
      have eq8 := (HB6.out.block _ (lt_of_some HXr.out)).trans HXr.out
      have HPut := Lib.hid (put8 (rb := g1) HLg1.out eq8 (HB1.out.trans (HB6.out.mono HB1.out.size)) 0 d.K 0 (-1) ⟨#[]⟩)
      have y0 := cell_of_blk eq8 0
      have z0 := free_of_blk eq8 0
      have y1 := cell_of_blk eq8 1
      have z1 := free_of_blk eq8 1
      have y2 := cell_of_blk eq8 2
      have z2 := free_of_blk eq8 2
      have y3 := cell_of_blk eq8 3
      have z3 := free_of_blk eq8 3
      have y4 := cell_of_blk eq8 4
      have z4 := free_of_blk eq8 4
      have y5 := cell_of_blk eq8 5
      have z5 := free_of_blk eq8 5
      have y6 := cell_of_blk eq8 6
      have z6 := free_of_blk eq8 6
      have y7 := cell_of_blk eq8 7
      have z7 := free_of_blk eq8 7
      clear eq8
      go_wp2_with fail
      obtain ⟨p0, p1, p2, p3, p4, p5, p6, p7, HE⟩ := HPut.out _ rfl
      unfold set8 at p0 p1 p2 p3 p4 p5 p6 p7 HE
      exact bodyPost_ret (v := resV 0 d.K 0 (-1) ⟨#[]⟩) (by unfold resV; simp [results, Tryz.results30, go_sem, p0, p1, p2, p3, p4, p5, p6, p7]) rfl ⟨⟨⟨#[]⟩, by show _ = Ending.returned (resV 0 _ 0 (whI (R.length : Int) z) ⟨#[]⟩); rw [HWh.out]; rfl, rfl⟩, HE⟩
    · obtain ⟨kz, rfl, hkl⟩ : ∃ kz : Nat, z = (kz : Int) ∧ kz < R.length := by
        rcases hz with ⟨kz, h1, ⟨t, d', h2, _⟩, _⟩ | ⟨h1, _⟩
        · exact ⟨kz, h1, (List.getElem?_eq_some_iff.1 h2).1⟩
        · omega
      obtain ⟨bi, oi, hAi, hbi, ci0⟩ := HId.out kz hkl
      subst hAi
      have HWh : Hid (whI (R.length : Int) (kz : Int) = (R.length : Int) - 1 - kz) := Lib.hid (by unfold whI; rw [if_neg hz0])
      have ii : w6.cell? ⟨bi, oi + kz, none⟩ = some (.int .i64 ((R.length : Int) - 1 - kz)) := (HB6.out.cell (p := ⟨bi, oi + kz, none⟩) hbi).trans ci0
      have i0 : (0 : Int) ≤ (kz : Int) := by omega
      have i1 : (kz : Int) < (ni : Int) := by have := HNi.out; omega
      clear ci0 hbi hz hz0
      have eq8 := (HB6.out.block _ (lt_of_some HXr.out)).trans HXr.out
      have HPut := Lib.hid (put8 (rb := g1) HLg1.out eq8 (HB1.out.trans (HB6.out.mono HB1.out.size)) 0 d.K 0 ((R.length : Int) - 1 - kz) ⟨#[]⟩)
      have y0 := cell_of_blk eq8 0
      have z0 := free_of_blk eq8 0
      have y1 := cell_of_blk eq8 1
      have z1 := free_of_blk eq8 1
      have y2 := cell_of_blk eq8 2
      have z2 := free_of_blk eq8 2
      have y3 := cell_of_blk eq8 3
      have z3 := free_of_blk eq8 3
      have y4 := cell_of_blk eq8 4
      have z4 := free_of_blk eq8 4
      have y5 := cell_of_blk eq8 5
      have z5 := free_of_blk eq8 5
      have y6 := cell_of_blk eq8 6
      have z6 := free_of_blk eq8 6
      have y7 := cell_of_blk eq8 7
      have z7 := free_of_blk eq8 7
      clear eq8
      go_wp2_with fail
      obtain ⟨p0, p1, p2, p3, p4, p5, p6, p7, HE⟩ := HPut.out _ rfl
      unfold set8 at p0 p1 p2 p3 p4 p5 p6 p7 HE
      exact bodyPost_ret (v := resV 0 d.K 0 ((R.length : Int) - 1 - kz) ⟨#[]⟩) (by unfold resV; simp [results, Tryz.results30, go_sem, p0, p1, p2, p3, p4, p5, p6, p7]) rfl ⟨⟨⟨#[]⟩, by show _ = Ending.returned (resV 0 _ 0 (whI (R.length : Int) (kz : Int)) ⟨#[]⟩); rw [HWh.out]; rfl, rfl⟩, HE⟩
set_option maxHeartbeats 12800000 in
theorem refdo_2 {R : List Nd} (hg : ∀ t ∈ R, allB t = true) (hR : R.length ≤ 64) (A : Option Addr) (c : Nat) (rs : Nat → Raw) (Ai : Option Addr) (ni ci : Nat) (p : ByteArray) (o m id : Int) (img : ByteArray) (w : World) (hT : Trees w w.heap.size A R rs) (hp : p.size ≤ 1000000) {O : AtO} (hO : Goes R true p O) :
    Calls Tryz.prog 30 #[.slice A R.length c, .slice Ai ni ci, opV 2 p o m id img] w fun e w' => Res (ansO (R.length : Int) 0 O 2 o m) e ∧ Below w.heap.size w w' := by
  obtain ⟨g1, W1, hW1, eg1, hxo, hxr, hb1, lg1⟩ := two_boxes w (.cells #[.int .i64 2, .string p, .int .i64 o, .int .i64 m, .int .i64 id, .string img] 63) (.cells #[.int .i64 0, .int .i64 0, .int .i64 0, .int .i64 0, .int .i64 0, .string ⟨#[]⟩, .slice none 0 0, .bool false] 66)
  have HXo := Lib.hid hxo
  have HXr := Lib.hid hxr
  have HB1 := Lib.hid hb1
  have HW1 := Lib.hid hW1
  have HEg1 := Lib.hid eg1
  have HLg1 := Lib.hid lg1
  clear hW1 hb1 hxo hxr eg1 lg1
  have HWk : Hid (Calls Tryz.prog 15 #[.slice A R.length c, .string p, .bool true] W1 fun e w'' => (∃ (B1 : Option Addr) (m1 e1 : Nat) (B2 : Option Addr) (m2 e2 : Nat) (kz : Int), e = .returned (.agg #[.slice B1 m1 e1, .slice B2 m2 e2, .int .i64 kz]) ∧ AtIn O (.agg #[.slice B1 m1 e1, .slice B2 m2 e2, .int .i64 kz]) w'') ∧ Below W1.heap.size W1 w'') := Lib.hid (
    (refwalk_any hg hR A c rs p true O W1 (hT.later HB1.out) hp hO).mono fun e w'' ⟨⟨v, he, hv⟩, hw⟩ => by
      obtain ⟨B1, m1, e1, B2, m2, e2, kz, rfl⟩ := hv.shape
      exact ⟨⟨B1, m1, e1, B2, m2, e2, kz, he, hv⟩, hw⟩)
  have HO := Lib.hid hO
  have HT := Lib.hid (hT.later HB1.out)
  have HGg := Lib.hid hg
  clear hg hT hO hp
  unfold opV
  have eo := HXo.out
  have xo0 := cell_of_blk eo 0
  have xo1 := cell_of_blk eo 1
  have xo2 := cell_of_blk eo 2
  have xo3 := cell_of_blk eo 3
  clear eo
  go_enter Tryz.func30, Tryz.ntmps30
  go_upto_region 1 with fail
  rw [HW1.out]
  simp only [HEg1.out]
  clear HW1 HEg1
  go_wp2_with fail
  refine HWk.out.mono ?_
  rintro ex w2 ⟨⟨B1, m1, e1, B2, m2, e2, kz, rfl, hat⟩, hb2⟩
  obtain ⟨q, hq⟩ : ∃ q, q = w2.heap.size := ⟨_, rfl⟩
  obtain ⟨W3, hW3⟩ : ∃ W3, W3 = w2.alloc (.cells #[.slice B1 m1 e1, .slice B2 m2 e2, .int .i64 kz] 34) := ⟨_, rfl⟩
  have hx3 : W3.heap[q]? = some (.cells #[.slice B1 m1 e1, .slice B2 m2 e2, .int .i64 kz] 34 (0, 0)) := by rw [hW3, hq]; exact heap_alloc_new w2 _
  have hb23 : Below w2.heap.size w2 W3 := by rw [hW3]; exact (Below.refl _ _).alloc (Nat.le_refl _) _
  have HB3 := Lib.hid (hb2.trans (hb23.mono hb2.size))
  have HAt := Lib.hid (hat.later hb23)
  have HX3 := Lib.hid hx3
  have a0 := cell_of_blk hx3 0
  have a1 := cell_of_blk hx3 1
  have a2 := cell_of_blk hx3 2
  have HW3 := Lib.hid hW3.symm
  have HQ := Lib.hid hq.symm
  have eo := (HB3.out.block _ (lt_of_some HXo.out)).trans HXo.out
  clear xo0 xo1 xo2 xo3
  have xo0 := cell_of_blk eo 0
  have xo2 := cell_of_blk eo 2
  have xo3 := cell_of_blk eo 3
  clear hW3 hq hx3 hb23 hb2 hat HWk eo
  go_upto_region 4 with fail
  rw [HW3.out]
  simp only [HQ.out]
  clear HW3 HQ
  rcases hOe : O with j | ⟨ns, E⟩
  · subst hOe
    have hj : j ≠ 0 := goes_err HO.out
    obtain rfl : kz = j := at_err HAt.out rfl
    have gj : (kz != 0) = true := by rw [bne_iff_ne]; exact hj
    clear hj
    go_wp2_with fail
    refine (fault_any kz _).mono ?_
    rintro ex wf ⟨rfl, hbf⟩
    have HBf := Lib.hid (HB3.out.trans (hbf.mono (HB3.out).size))
    clear hbf
    unfold resV
    clear a0 a1 a2 xo0 xo2 xo3
    have eq8 := (HBf.out.block _ (lt_of_some HXr.out)).trans HXr.out
    have HPut := Lib.hid (put8 (rb := g1) HLg1.out eq8 (HB1.out.trans (HBf.out.mono HB1.out.size)) kz 0 0 0 ⟨#[]⟩)
    have y0 := cell_of_blk eq8 0
    have z0 := free_of_blk eq8 0
    have y1 := cell_of_blk eq8 1
    have z1 := free_of_blk eq8 1
    have y2 := cell_of_blk eq8 2
    have z2 := free_of_blk eq8 2
    have y3 := cell_of_blk eq8 3
    have z3 := free_of_blk eq8 3
    have y4 := cell_of_blk eq8 4
    have z4 := free_of_blk eq8 4
    have y5 := cell_of_blk eq8 5
    have z5 := free_of_blk eq8 5
    have y6 := cell_of_blk eq8 6
    have z6 := free_of_blk eq8 6
    have y7 := cell_of_blk eq8 7
    have z7 := free_of_blk eq8 7
    clear eq8
    go_wp2_with fail
    obtain ⟨p0, p1, p2, p3, p4, p5, p6, p7, HE⟩ := HPut.out _ rfl
    unfold set8 at p0 p1 p2 p3 p4 p5 p6 p7 HE
    exact bodyPost_ret (v := resV kz 0 0 0 ⟨#[]⟩) (by unfold resV; simp [results, Tryz.results30, go_sem, p0, p1, p2, p3, p4, p5, p6, p7]) rfl ⟨⟨_, rfl, rfl⟩, HE⟩
  subst hOe
  have hAt := HAt.out
  obtain ⟨A1, c1, A2, c2, qs, hv, hrow, _, _, htr, _⟩ := hAt
  injection hv with hv
  have h0 := congrArg (fun x : Array Value => x[0]?) hv
  have h1 := congrArg (fun x : Array Value => x[1]?) hv
  have h2 := congrArg (fun x : Array Value => x[2]?) hv
  simp at h0 h1 h2
  obtain ⟨rfl, rfl, rfl⟩ := h0
  obtain ⟨rfl, rfl, rfl⟩ := h1
  subst h2
  have HRow := Lib.hid hrow
  have HTr := Lib.hid htr
  clear hv hrow htr HAt HO
  rcases E with _ | ⟨d, E⟩
  · skip
    obtain ⟨W4, hW4⟩ : ∃ W4, W4 = W3.alloc (.cells #[.int .i64 0, .bool false, .slice none 0 0, .slice none 0 0, .int .i64 0, .slice none 0 0, .string ⟨#[]⟩] 125) := ⟨_, rfl⟩
    obtain ⟨qn, hqn⟩ : ∃ qn, qn = W3.heap.size := ⟨_, rfl⟩
    have hx4 : W4.heap[qn]? = some (.cells #[.int .i64 0, .bool false, .slice none 0 0, .slice none 0 0, .int .i64 0, .slice none 0 0, .string ⟨#[]⟩] 125 (0, 0)) := by rw [hW4, hqn]; exact heap_alloc_new W3 _
    have hb34 : Below W3.heap.size W3 W4 := by rw [hW4]; exact (Below.refl _ _).alloc (Nat.le_refl _) _
    have HB34 := Lib.hid hb34
    have HB4 := Lib.hid (HB3.out.trans (hb34.mono HB3.out.size))
    have HX4 := Lib.hid hx4
    have HQn := Lib.hid (show W3.heap.size ≤ qn by omega)
    have HW4 := Lib.hid hW4.symm
    have HQe := Lib.hid hqn.symm
    have ea := (hb34.block _ (lt_of_some HX3.out)).trans HX3.out
    have eo := (HB4.out.block _ (lt_of_some HXo.out)).trans HXo.out
    clear hW4 hqn hx4 hb34
    go_upto_region 9 with fail
    rw [HW4.out]
    simp only [HQe.out]
    clear HW4 HQe a0 a1 a2 xo0 xo2 xo3
    have a0 := cell_of_blk ea 0
    have a1 := cell_of_blk ea 1
    have xo0 := cell_of_blk eo 0
    have xo2 := cell_of_blk eo 2
    have xo3 := cell_of_blk eo 3
    clear ea eo
    have eq8 := (HB4.out.block _ (lt_of_some HXr.out)).trans HXr.out
    have HPut := Lib.hid (put8 (rb := g1) HLg1.out eq8 (HB1.out.trans (HB4.out.mono HB1.out.size)) 0 2 0 0 ⟨#[]⟩)
    have y0 := cell_of_blk eq8 0
    have z0 := free_of_blk eq8 0
    have y1 := cell_of_blk eq8 1
    have z1 := free_of_blk eq8 1
    have y2 := cell_of_blk eq8 2
    have z2 := free_of_blk eq8 2
    have y3 := cell_of_blk eq8 3
    have z3 := free_of_blk eq8 3
    have y4 := cell_of_blk eq8 4
    have z4 := free_of_blk eq8 4
    have y5 := cell_of_blk eq8 5
    have z5 := free_of_blk eq8 5
    have y6 := cell_of_blk eq8 6
    have z6 := free_of_blk eq8 6
    have y7 := cell_of_blk eq8 7
    have z7 := free_of_blk eq8 7
    clear eq8
    go_wp2_with fail
    obtain ⟨p0, p1, p2, p3, p4, p5, p6, p7, HE⟩ := HPut.out _ rfl
    unfold set8 at p0 p1 p2 p3 p4 p5 p6 p7 HE
    exact bodyPost_ret (v := resV 0 2 0 0 ⟨#[]⟩) (by unfold resV; simp [results, Tryz.results30, go_sem, p0, p1, p2, p3, p4, p5, p6, p7]) rfl ⟨⟨_, rfl, rfl⟩, HE⟩
  · skip
    obtain ⟨⟨bn, on, hA2, hbn, hcn⟩, hNd⟩ := HTr.out 0 d rfl
    subst hA2
    obtain ⟨rd, hrd⟩ : ∃ rd, rd = qs 0 := ⟨_, rfl⟩
    rw [← hrd] at hcn hNd
    have HNd := Lib.hid hNd
    have HCn := Lib.hid (And.intro hbn hcn)
    clear hrd hcn hNd hbn
    obtain ⟨W4, hW4⟩ : ∃ W4, W4 = W3.alloc (.cells #[.int .i64 0, .bool false, .slice none 0 0, .slice none 0 0, .int .i64 0, .slice none 0 0, .string ⟨#[]⟩] 125) := ⟨_, rfl⟩
    obtain ⟨qn, hqn⟩ : ∃ qn, qn = W3.heap.size := ⟨_, rfl⟩
    have hx4 : W4.heap[qn]? = some (.cells #[.int .i64 0, .bool false, .slice none 0 0, .slice none 0 0, .int .i64 0, .slice none 0 0, .string ⟨#[]⟩] 125 (0, 0)) := by rw [hW4, hqn]; exact heap_alloc_new W3 _
    have hb34 : Below W3.heap.size W3 W4 := by rw [hW4]; exact (Below.refl _ _).alloc (Nat.le_refl _) _
    have HB34 := Lib.hid hb34
    have HB4 := Lib.hid (HB3.out.trans (hb34.mono HB3.out.size))
    have HX4 := Lib.hid hx4
    have HQn := Lib.hid (show W3.heap.size ≤ qn by omega)
    have HW4 := Lib.hid hW4.symm
    have HQe := Lib.hid hqn.symm
    have ea := (hb34.block _ (lt_of_some HX3.out)).trans HX3.out
    have eo := (HB4.out.block _ (lt_of_some HXo.out)).trans HXo.out
    clear hW4 hqn hx4 hb34
    go_upto_region 9 with fail
    rw [HW4.out]
    simp only [HQe.out]
    clear HW4 HQe a0 a1 a2 xo0 xo2 xo3
    have a0 := cell_of_blk ea 0
    have a1 := cell_of_blk ea 1
    have xo0 := cell_of_blk eo 0
    have xo2 := cell_of_blk eo 2
    have xo3 := cell_of_blk eo 3
    clear ea eo
    have l0 : (0 : Int) < ((E.length + 1 : Nat) : Int) := by omega
    have l0' : (0 : Int) < (E.length : Int) + 1 := by omega
    have kc : ∀ (j : Nat) (v : Value), (rawCells d rd)[j]? = some v → W4.cell? ⟨bn, on + j, none⟩ = some v := fun j v hj => by
      have h1 := HCn.out.2 j v hj
      rw [Nat.zero_mul, Nat.add_zero] at h1
      exact (HB34.out.cell (p := ⟨bn, on + j, none⟩) HCn.out.1).trans h1
    have y0 : W4.cell? ⟨bn, on, none⟩ = some (.int .i64 d.K) := kc 0 _ rfl
    have y1 : W4.cell? ⟨bn, on + 1, none⟩ = some (.bool d.O) := kc 1 _ rfl
    have y2 : W4.cell? ⟨bn, on + 2, none⟩ = some (.slice rd.An d.N.length rd.cn) := kc 2 _ rfl
    have y3 : W4.cell? ⟨bn, on + 3, none⟩ = some (.slice rd.Ai d.I.length rd.ci) := kc 3 _ rfl
    have y4 : W4.cell? ⟨bn, on + 4, none⟩ = some (.int .i64 d.S) := kc 4 _ rfl
    have y5 : W4.cell? ⟨bn, on + 5, none⟩ = some (.slice rd.Ae d.E.length rd.ce) := kc 5 _ rfl
    have y6 : W4.cell? ⟨bn, on + 6, none⟩ = some (.string d.T) := kc 6 _ rfl
    have hz := HX4.out
    have z0 := free_of_blk hz 0
    have n0 := cell_of_blk hz 0
    have z1 := free_of_blk hz 1
    have n1 := cell_of_blk hz 1
    have z2 := free_of_blk hz 2
    have n2 := cell_of_blk hz 2
    have z3 := free_of_blk hz 3
    have n3 := cell_of_blk hz 3
    have z4 := free_of_blk hz 4
    have n4 := cell_of_blk hz 4
    have z5 := free_of_blk hz 5
    have n5 := cell_of_blk hz 5
    have z6 := free_of_blk hz 6
    have n6 := cell_of_blk hz 6
    obtain ⟨W5, hW5⟩ : ∃ W5, W5 = W4.setCells qn 0 (rawCells d rd).toList := ⟨_, rfl⟩
    have hbx : Box W5 qn d rd := by rw [hW5]; exact (show Box W4 qn (.mk 0 false [] [] 0 [] ⟨#[]⟩) ⟨none, 0, none, 0, none, 0⟩ from hz).over
    have HB5 := Lib.hid (show Below W3.heap.size W3 W5 by rw [hW5]; exact below_setCells HQn.out _ 0 W4 HB34.out)
    have HBx := Lib.hid hbx
    simp only [World.setCells, rawCells, Nat.reduceAdd, Nat.zero_add] at hW5
    have HW5 := Lib.hid hW5
    clear hW5 hbx hz kc
    go_upto_region 11 with fail
    rw [← HW5.out]
    clear HW5 y0 y1 y2 y3 y4 y5 y6 z0 n0 z1 n1 z2 n2 z3 n3 z4 n4 z5 n5 z6 n6 a0 a1 xo0 xo2 xo3 HX4 l0 l0'
    have HB15 := Lib.hid (HB3.out.trans (HB5.out.mono HB3.out.size))
    obtain ⟨n0, n1, n2, n3, n4, n5, n6⟩ := HBx.out.cells
    have ea := (HB5.out.block _ (lt_of_some HX3.out)).trans HX3.out
    have eo := (HB15.out.block _ (lt_of_some HXo.out)).trans HXo.out
    have a0 := cell_of_blk ea 0
    have xo0 := cell_of_blk eo 0
    have xo2 := cell_of_blk eo 2
    have xo3 := cell_of_blk eo 3
    clear ea eo
    have eq8 := (HB15.out.block _ (lt_of_some HXr.out)).trans HXr.out
    have HPut := Lib.hid (put8 (rb := g1) HLg1.out eq8 (HB1.out.trans (HB15.out.mono HB1.out.size)) 0 d.K d.S 0 ⟨#[]⟩)
    have y0 := cell_of_blk eq8 0
    have z0 := free_of_blk eq8 0
    have y1 := cell_of_blk eq8 1
    have z1 := free_of_blk eq8 1
    have y2 := cell_of_blk eq8 2
    have z2 := free_of_blk eq8 2
    have y3 := cell_of_blk eq8 3
    have z3 := free_of_blk eq8 3
    have y4 := cell_of_blk eq8 4
    have z4 := free_of_blk eq8 4
    have y5 := cell_of_blk eq8 5
    have z5 := free_of_blk eq8 5
    have y6 := cell_of_blk eq8 6
    have z6 := free_of_blk eq8 6
    have y7 := cell_of_blk eq8 7
    have z7 := free_of_blk eq8 7
    clear eq8
    go_wp2_with fail
    obtain ⟨p0, p1, p2, p3, p4, p5, p6, p7, HE⟩ := HPut.out _ rfl
    unfold set8 at p0 p1 p2 p3 p4 p5 p6 p7 HE
    exact bodyPost_ret (v := resV 0 d.K d.S 0 ⟨#[]⟩) (by unfold resV; simp [results, Tryz.results30, go_sem, p0, p1, p2, p3, p4, p5, p6, p7]) rfl ⟨⟨_, rfl, rfl⟩, HE⟩
set_option maxHeartbeats 12800000 in
theorem refdo_3 {R : List Nd} (hg : ∀ t ∈ R, allB t = true) (hR : R.length ≤ 64) (A : Option Addr) (c : Nat) (rs : Nat → Raw) (Ai : Option Addr) (ni ci : Nat) (p : ByteArray) (o m id : Int) (img : ByteArray) (w : World) (hT : Trees w w.heap.size A R rs) (hp : p.size ≤ 1000000) {O : AtO} (hO : Goes R false p O) :
    Calls Tryz.prog 30 #[.slice A R.length c, .slice Ai ni ci, opV 3 p o m id img] w fun e w' => Res (ansO (R.length : Int) 0 O 3 o m) e ∧ Below w.heap.size w w' := by
  obtain ⟨g1, W1, hW1, eg1, hxo, hxr, hb1, lg1⟩ := two_boxes w (.cells #[.int .i64 3, .string p, .int .i64 o, .int .i64 m, .int .i64 id, .string img] 63) (.cells #[.int .i64 0, .int .i64 0, .int .i64 0, .int .i64 0, .int .i64 0, .string ⟨#[]⟩, .slice none 0 0, .bool false] 66)
  have HXo := Lib.hid hxo
  have HXr := Lib.hid hxr
  have HB1 := Lib.hid hb1
  have HW1 := Lib.hid hW1
  have HEg1 := Lib.hid eg1
  have HLg1 := Lib.hid lg1
  clear hW1 hb1 hxo hxr eg1 lg1
  have HWk : Hid (Calls Tryz.prog 15 #[.slice A R.length c, .string p, .bool false] W1 fun e w'' => (∃ (B1 : Option Addr) (m1 e1 : Nat) (B2 : Option Addr) (m2 e2 : Nat) (kz : Int), e = .returned (.agg #[.slice B1 m1 e1, .slice B2 m2 e2, .int .i64 kz]) ∧ AtIn O (.agg #[.slice B1 m1 e1, .slice B2 m2 e2, .int .i64 kz]) w'') ∧ Below W1.heap.size W1 w'') := Lib.hid (
    (refwalk_any hg hR A c rs p false O W1 (hT.later HB1.out) hp hO).mono fun e w'' ⟨⟨v, he, hv⟩, hw⟩ => by
      obtain ⟨B1, m1, e1, B2, m2, e2, kz, rfl⟩ := hv.shape
      exact ⟨⟨B1, m1, e1, B2, m2, e2, kz, he, hv⟩, hw⟩)
  have HO := Lib.hid hO
  have HT := Lib.hid (hT.later HB1.out)
  have HGg := Lib.hid hg
  clear hg hT hO hp
  unfold opV
  have eo := HXo.out
  have xo0 := cell_of_blk eo 0
  have xo1 := cell_of_blk eo 1
  have xo2 := cell_of_blk eo 2
  have xo3 := cell_of_blk eo 3
  clear eo
  go_enter Tryz.func30, Tryz.ntmps30
  go_upto_region 1 with fail
  rw [HW1.out]
  simp only [HEg1.out]
  clear HW1 HEg1
  go_wp2_with fail
  refine HWk.out.mono ?_
  rintro ex w2 ⟨⟨B1, m1, e1, B2, m2, e2, kz, rfl, hat⟩, hb2⟩
  obtain ⟨q, hq⟩ : ∃ q, q = w2.heap.size := ⟨_, rfl⟩
  obtain ⟨W3, hW3⟩ : ∃ W3, W3 = w2.alloc (.cells #[.slice B1 m1 e1, .slice B2 m2 e2, .int .i64 kz] 34) := ⟨_, rfl⟩
  have hx3 : W3.heap[q]? = some (.cells #[.slice B1 m1 e1, .slice B2 m2 e2, .int .i64 kz] 34 (0, 0)) := by rw [hW3, hq]; exact heap_alloc_new w2 _
  have hb23 : Below w2.heap.size w2 W3 := by rw [hW3]; exact (Below.refl _ _).alloc (Nat.le_refl _) _
  have HB3 := Lib.hid (hb2.trans (hb23.mono hb2.size))
  have HAt := Lib.hid (hat.later hb23)
  have HX3 := Lib.hid hx3
  have a0 := cell_of_blk hx3 0
  have a1 := cell_of_blk hx3 1
  have a2 := cell_of_blk hx3 2
  have HW3 := Lib.hid hW3.symm
  have HQ := Lib.hid hq.symm
  have eo := (HB3.out.block _ (lt_of_some HXo.out)).trans HXo.out
  clear xo0 xo1 xo2 xo3
  have xo0 := cell_of_blk eo 0
  have xo2 := cell_of_blk eo 2
  have xo3 := cell_of_blk eo 3
  clear hW3 hq hx3 hb23 hb2 hat HWk eo
  go_upto_region 4 with fail
  rw [HW3.out]
  simp only [HQ.out]
  clear HW3 HQ
  rcases hOe : O with j | ⟨ns, E⟩
  · subst hOe
    have hj : j ≠ 0 := goes_err HO.out
    obtain rfl : kz = j := at_err HAt.out rfl
    have gj : (kz != 0) = true := by rw [bne_iff_ne]; exact hj
    clear hj
    go_wp2_with fail
    refine (fault_any kz _).mono ?_
    rintro ex wf ⟨rfl, hbf⟩
    have HBf := Lib.hid (HB3.out.trans (hbf.mono (HB3.out).size))
    clear hbf
    unfold resV
    clear a0 a1 a2 xo0 xo2 xo3
    have eq8 := (HBf.out.block _ (lt_of_some HXr.out)).trans HXr.out
    have HPut := Lib.hid (put8 (rb := g1) HLg1.out eq8 (HB1.out.trans (HBf.out.mono HB1.out.size)) kz 0 0 0 ⟨#[]⟩)
    have y0 := cell_of_blk eq8 0
    have z0 := free_of_blk eq8 0
    have y1 := cell_of_blk eq8 1
    have z1 := free_of_blk eq8 1
    have y2 := cell_of_blk eq8 2
    have z2 := free_of_blk eq8 2
    have y3 := cell_of_blk eq8 3
    have z3 := free_of_blk eq8 3
    have y4 := cell_of_blk eq8 4
    have z4 := free_of_blk eq8 4
    have y5 := cell_of_blk eq8 5
    have z5 := free_of_blk eq8 5
    have y6 := cell_of_blk eq8 6
    have z6 := free_of_blk eq8 6
    have y7 := cell_of_blk eq8 7
    have z7 := free_of_blk eq8 7
    clear eq8
    go_wp2_with fail
    obtain ⟨p0, p1, p2, p3, p4, p5, p6, p7, HE⟩ := HPut.out _ rfl
    unfold set8 at p0 p1 p2 p3 p4 p5 p6 p7 HE
    exact bodyPost_ret (v := resV kz 0 0 0 ⟨#[]⟩) (by unfold resV; simp [results, Tryz.results30, go_sem, p0, p1, p2, p3, p4, p5, p6, p7]) rfl ⟨⟨_, rfl, rfl⟩, HE⟩
  subst hOe
  have hAt := HAt.out
  obtain ⟨A1, c1, A2, c2, qs, hv, hrow, _, _, htr, _⟩ := hAt
  injection hv with hv
  have h0 := congrArg (fun x : Array Value => x[0]?) hv
  have h1 := congrArg (fun x : Array Value => x[1]?) hv
  have h2 := congrArg (fun x : Array Value => x[2]?) hv
  simp at h0 h1 h2
  obtain ⟨rfl, rfl, rfl⟩ := h0
  obtain ⟨rfl, rfl, rfl⟩ := h1
  subst h2
  have HRow := Lib.hid hrow
  have HTr := Lib.hid htr
  clear hv hrow htr HAt HO
  rcases E with _ | ⟨d, E⟩
  · skip
    obtain ⟨W4, hW4⟩ : ∃ W4, W4 = W3.alloc (.cells #[.int .i64 0, .bool false, .slice none 0 0, .slice none 0 0, .int .i64 0, .slice none 0 0, .string ⟨#[]⟩] 125) := ⟨_, rfl⟩
    obtain ⟨qn, hqn⟩ : ∃ qn, qn = W3.heap.size := ⟨_, rfl⟩
    have hx4 : W4.heap[qn]? = some (.cells #[.int .i64 0, .bool false, .slice none 0 0, .slice none 0 0, .int .i64 0, .slice none 0 0, .string ⟨#[]⟩] 125 (0, 0)) := by rw [hW4, hqn]; exact heap_alloc_new W3 _
    have hb34 : Below W3.heap.size W3 W4 := by rw [hW4]; exact (Below.refl _ _).alloc (Nat.le_refl _) _
    have HB34 := Lib.hid hb34
    have HB4 := Lib.hid (HB3.out.trans (hb34.mono HB3.out.size))
    have HX4 := Lib.hid hx4
    have HQn := Lib.hid (show W3.heap.size ≤ qn by omega)
    have HW4 := Lib.hid hW4.symm
    have HQe := Lib.hid hqn.symm
    have ea := (hb34.block _ (lt_of_some HX3.out)).trans HX3.out
    have eo := (HB4.out.block _ (lt_of_some HXo.out)).trans HXo.out
    clear hW4 hqn hx4 hb34
    go_upto_region 9 with fail
    rw [HW4.out]
    simp only [HQe.out]
    clear HW4 HQe a0 a1 a2 xo0 xo2 xo3
    have a0 := cell_of_blk ea 0
    have a1 := cell_of_blk ea 1
    have xo0 := cell_of_blk eo 0
    have xo2 := cell_of_blk eo 2
    have xo3 := cell_of_blk eo 3
    clear ea eo
    go_wp2_with fail
    refine (fault_any 1 _).mono ?_
    rintro ex wf ⟨rfl, hbf⟩
    have HBf := Lib.hid (HB4.out.trans (hbf.mono (HB4.out).size))
    clear hbf
    unfold resV
    clear a0 xo0 xo2 xo3 a1
    have eq8 := (HBf.out.block _ (lt_of_some HXr.out)).trans HXr.out
    have HPut := Lib.hid (put8 (rb := g1) HLg1.out eq8 (HB1.out.trans (HBf.out.mono HB1.out.size)) 1 0 0 0 ⟨#[]⟩)
    have y0 := cell_of_blk eq8 0
    have z0 := free_of_blk eq8 0
    have y1 := cell_of_blk eq8 1
    have z1 := free_of_blk eq8 1
    have y2 := cell_of_blk eq8 2
    have z2 := free_of_blk eq8 2
    have y3 := cell_of_blk eq8 3
    have z3 := free_of_blk eq8 3
    have y4 := cell_of_blk eq8 4
    have z4 := free_of_blk eq8 4
    have y5 := cell_of_blk eq8 5
    have z5 := free_of_blk eq8 5
    have y6 := cell_of_blk eq8 6
    have z6 := free_of_blk eq8 6
    have y7 := cell_of_blk eq8 7
    have z7 := free_of_blk eq8 7
    clear eq8
    go_wp2_with fail
    obtain ⟨p0, p1, p2, p3, p4, p5, p6, p7, HE⟩ := HPut.out _ rfl
    unfold set8 at p0 p1 p2 p3 p4 p5 p6 p7 HE
    exact bodyPost_ret (v := resV 1 0 0 0 ⟨#[]⟩) (by unfold resV; simp [results, Tryz.results30, go_sem, p0, p1, p2, p3, p4, p5, p6, p7]) rfl ⟨⟨_, rfl, rfl⟩, HE⟩
  · skip
    obtain ⟨⟨bn, on, hA2, hbn, hcn⟩, hNd⟩ := HTr.out 0 d rfl
    subst hA2
    obtain ⟨rd, hrd⟩ : ∃ rd, rd = qs 0 := ⟨_, rfl⟩
    rw [← hrd] at hcn hNd
    have HNd := Lib.hid hNd
    have HCn := Lib.hid (And.intro hbn hcn)
    clear hrd hcn hNd hbn
    obtain ⟨W4, hW4⟩ : ∃ W4, W4 = W3.alloc (.cells #[.int .i64 0, .bool false, .slice none 0 0, .slice none 0 0, .int .i64 0, .slice none 0 0, .string ⟨#[]⟩] 125) := ⟨_, rfl⟩
    obtain ⟨qn, hqn⟩ : ∃ qn, qn = W3.heap.size := ⟨_, rfl⟩
    have hx4 : W4.heap[qn]? = some (.cells #[.int .i64 0, .bool false, .slice none 0 0, .slice none 0 0, .int .i64 0, .slice none 0 0, .string ⟨#[]⟩] 125 (0, 0)) := by rw [hW4, hqn]; exact heap_alloc_new W3 _
    have hb34 : Below W3.heap.size W3 W4 := by rw [hW4]; exact (Below.refl _ _).alloc (Nat.le_refl _) _
    have HB34 := Lib.hid hb34
    have HB4 := Lib.hid (HB3.out.trans (hb34.mono HB3.out.size))
    have HX4 := Lib.hid hx4
    have HQn := Lib.hid (show W3.heap.size ≤ qn by omega)
    have HW4 := Lib.hid hW4.symm
    have HQe := Lib.hid hqn.symm
    have ea := (hb34.block _ (lt_of_some HX3.out)).trans HX3.out
    have eo := (HB4.out.block _ (lt_of_some HXo.out)).trans HXo.out
    clear hW4 hqn hx4 hb34
    go_upto_region 9 with fail
    rw [HW4.out]
    simp only [HQe.out]
    clear HW4 HQe a0 a1 a2 xo0 xo2 xo3
    have a0 := cell_of_blk ea 0
    have a1 := cell_of_blk ea 1
    have xo0 := cell_of_blk eo 0
    have xo2 := cell_of_blk eo 2
    have xo3 := cell_of_blk eo 3
    clear ea eo
    have l0 : (0 : Int) < ((E.length + 1 : Nat) : Int) := by omega
    have l0' : (0 : Int) < (E.length : Int) + 1 := by omega
    have kc : ∀ (j : Nat) (v : Value), (rawCells d rd)[j]? = some v → W4.cell? ⟨bn, on + j, none⟩ = some v := fun j v hj => by
      have h1 := HCn.out.2 j v hj
      rw [Nat.zero_mul, Nat.add_zero] at h1
      exact (HB34.out.cell (p := ⟨bn, on + j, none⟩) HCn.out.1).trans h1
    have y0 : W4.cell? ⟨bn, on, none⟩ = some (.int .i64 d.K) := kc 0 _ rfl
    have y1 : W4.cell? ⟨bn, on + 1, none⟩ = some (.bool d.O) := kc 1 _ rfl
    have y2 : W4.cell? ⟨bn, on + 2, none⟩ = some (.slice rd.An d.N.length rd.cn) := kc 2 _ rfl
    have y3 : W4.cell? ⟨bn, on + 3, none⟩ = some (.slice rd.Ai d.I.length rd.ci) := kc 3 _ rfl
    have y4 : W4.cell? ⟨bn, on + 4, none⟩ = some (.int .i64 d.S) := kc 4 _ rfl
    have y5 : W4.cell? ⟨bn, on + 5, none⟩ = some (.slice rd.Ae d.E.length rd.ce) := kc 5 _ rfl
    have y6 : W4.cell? ⟨bn, on + 6, none⟩ = some (.string d.T) := kc 6 _ rfl
    have hz := HX4.out
    have z0 := free_of_blk hz 0
    have n0 := cell_of_blk hz 0
    have z1 := free_of_blk hz 1
    have n1 := cell_of_blk hz 1
    have z2 := free_of_blk hz 2
    have n2 := cell_of_blk hz 2
    have z3 := free_of_blk hz 3
    have n3 := cell_of_blk hz 3
    have z4 := free_of_blk hz 4
    have n4 := cell_of_blk hz 4
    have z5 := free_of_blk hz 5
    have n5 := cell_of_blk hz 5
    have z6 := free_of_blk hz 6
    have n6 := cell_of_blk hz 6
    obtain ⟨W5, hW5⟩ : ∃ W5, W5 = W4.setCells qn 0 (rawCells d rd).toList := ⟨_, rfl⟩
    have hbx : Box W5 qn d rd := by rw [hW5]; exact (show Box W4 qn (.mk 0 false [] [] 0 [] ⟨#[]⟩) ⟨none, 0, none, 0, none, 0⟩ from hz).over
    have HB5 := Lib.hid (show Below W3.heap.size W3 W5 by rw [hW5]; exact below_setCells HQn.out _ 0 W4 HB34.out)
    have HBx := Lib.hid hbx
    simp only [World.setCells, rawCells, Nat.reduceAdd, Nat.zero_add] at hW5
    have HW5 := Lib.hid hW5
    clear hW5 hbx hz kc
    go_upto_region 11 with fail
    rw [← HW5.out]
    clear HW5 y0 y1 y2 y3 y4 y5 y6 z0 n0 z1 n1 z2 n2 z3 n3 z4 n4 z5 n5 z6 n6 a0 a1 xo0 xo2 xo3 HX4 l0 l0'
    have HB15 := Lib.hid (HB3.out.trans (HB5.out.mono HB3.out.size))
    obtain ⟨n0, n1, n2, n3, n4, n5, n6⟩ := HBx.out.cells
    have ea := (HB5.out.block _ (lt_of_some HX3.out)).trans HX3.out
    have eo := (HB15.out.block _ (lt_of_some HXo.out)).trans HXo.out
    have a0 := cell_of_blk ea 0
    have xo0 := cell_of_blk eo 0
    have xo2 := cell_of_blk eo 2
    have xo3 := cell_of_blk eo 3
    clear ea eo
    by_cases hK : d.K = 3
    · have gK : (d.K != 3) = false := by rw [hK]; rfl
      have HA3 : Hid (Res (ansO (R.length : Int) 0 (.ok ns (d :: E)) 3 o m) (.returned (resV 0 0 0 0 d.T))) := Lib.hid (by
        have e1 : ansO (R.length : Int) 0 (.ok ns (d :: E)) 3 o m = ⟨0, 0, 0, 0, d.T.data.toList⟩ := by show ansF _ _ d _ _ _ = _; unfold ansF; rw [if_neg (by decide), if_neg (by decide), if_pos rfl, if_pos hK]
        rw [e1]; exact ⟨_, rfl, rfl⟩)
      clear hK
      have eq8 := (HB15.out.block _ (lt_of_some HXr.out)).trans HXr.out
      have HPut := Lib.hid (put8 (rb := g1) HLg1.out eq8 (HB1.out.trans (HB15.out.mono HB1.out.size)) 0 0 0 0 d.T)
      have y0 := cell_of_blk eq8 0
      have z0 := free_of_blk eq8 0
      have y1 := cell_of_blk eq8 1
      have z1 := free_of_blk eq8 1
      have y2 := cell_of_blk eq8 2
      have z2 := free_of_blk eq8 2
      have y3 := cell_of_blk eq8 3
      have z3 := free_of_blk eq8 3
      have y4 := cell_of_blk eq8 4
      have z4 := free_of_blk eq8 4
      have y5 := cell_of_blk eq8 5
      have z5 := free_of_blk eq8 5
      have y6 := cell_of_blk eq8 6
      have z6 := free_of_blk eq8 6
      have y7 := cell_of_blk eq8 7
      have z7 := free_of_blk eq8 7
      clear eq8
      go_wp2_with fail
      obtain ⟨p0, p1, p2, p3, p4, p5, p6, p7, HE⟩ := HPut.out _ rfl
      unfold set8 at p0 p1 p2 p3 p4 p5 p6 p7 HE
      exact bodyPost_ret (v := resV 0 0 0 0 d.T) (by unfold resV; simp [results, Tryz.results30, go_sem, p0, p1, p2, p3, p4, p5, p6, p7]) rfl ⟨HA3.out, HE⟩
    · have gK : (d.K != 3) = true := by rw [bne_iff_ne]; exact hK
      have HA3 : Hid (Res (ansO (R.length : Int) 0 (.ok ns (d :: E)) 3 o m) (.returned (resV 1 0 0 0 ⟨#[]⟩))) := Lib.hid (by
        have e1 : ansO (R.length : Int) 0 (.ok ns (d :: E)) 3 o m = ⟨1, 0, 0, 0, []⟩ := by show ansF _ _ d _ _ _ = _; unfold ansF; rw [if_neg (by decide), if_neg (by decide), if_pos rfl, if_neg hK]
        rw [e1]; exact ⟨_, rfl, rfl⟩)
      clear hK
      go_wp2_with fail
      refine (fault_any 1 _).mono ?_
      rintro ex wf ⟨rfl, hbf⟩
      have HBf := Lib.hid (HB15.out.trans (hbf.mono (HB15.out).size))
      clear hbf
      unfold resV
      clear a0 xo0 xo2 xo3 n0 n1 n2 n3 n4 n5 n6
      have eq8 := (HBf.out.block _ (lt_of_some HXr.out)).trans HXr.out
      have HPut := Lib.hid (put8 (rb := g1) HLg1.out eq8 (HB1.out.trans (HBf.out.mono HB1.out.size)) 1 0 0 0 ⟨#[]⟩)
      have y0 := cell_of_blk eq8 0
      have z0 := free_of_blk eq8 0
      have y1 := cell_of_blk eq8 1
      have z1 := free_of_blk eq8 1
      have y2 := cell_of_blk eq8 2
      have z2 := free_of_blk eq8 2
      have y3 := cell_of_blk eq8 3
      have z3 := free_of_blk eq8 3
      have y4 := cell_of_blk eq8 4
      have z4 := free_of_blk eq8 4
      have y5 := cell_of_blk eq8 5
      have z5 := free_of_blk eq8 5
      have y6 := cell_of_blk eq8 6
      have z6 := free_of_blk eq8 6
      have y7 := cell_of_blk eq8 7
      have z7 := free_of_blk eq8 7
      clear eq8
      go_wp2_with fail
      obtain ⟨p0, p1, p2, p3, p4, p5, p6, p7, HE⟩ := HPut.out _ rfl
      unfold set8 at p0 p1 p2 p3 p4 p5 p6 p7 HE
      exact bodyPost_ret (v := resV 1 0 0 0 ⟨#[]⟩) (by unfold resV; simp [results, Tryz.results30, go_sem, p0, p1, p2, p3, p4, p5, p6, p7]) rfl ⟨HA3.out, HE⟩
set_option maxHeartbeats 12800000 in
theorem refdo_4 {R : List Nd} (hg : ∀ t ∈ R, allB t = true) (hR : R.length ≤ 64) (A : Option Addr) (c : Nat) (rs : Nat → Raw) (Ai : Option Addr) (ni ci : Nat) (p : ByteArray) (o m id : Int) (img : ByteArray) (w : World) (hT : Trees w w.heap.size A R rs) (hp : p.size ≤ 1000000) {O : AtO} (hO : Goes R true p O) (ho : ¬ o < 0) (hm : ¬ m < 0) (ho2 : o ≤ 9223372036854775807) (hm2 : m ≤ 9223372036854775807) (hm3 : m ≤ 3000) (hsm : ∀ ns E, O = .ok ns E → E ≠ [] → allB (hdN E) = true) :
    Calls Tryz.prog 30 #[.slice A R.length c, .slice Ai ni ci, opV 4 p o m id img] w fun e w' => Res (ansO (R.length : Int) 0 O 4 o m) e ∧ Below w.heap.size w w' := by
  obtain ⟨g1, W1, hW1, eg1, hxo, hxr, hb1, lg1⟩ := two_boxes w (.cells #[.int .i64 4, .string p, .int .i64 o, .int .i64 m, .int .i64 id, .string img] 63) (.cells #[.int .i64 0, .int .i64 0, .int .i64 0, .int .i64 0, .int .i64 0, .string ⟨#[]⟩, .slice none 0 0, .bool false] 66)
  have HXo := Lib.hid hxo
  have HXr := Lib.hid hxr
  have HB1 := Lib.hid hb1
  have HW1 := Lib.hid hW1
  have HEg1 := Lib.hid eg1
  have HLg1 := Lib.hid lg1
  clear hW1 hb1 hxo hxr eg1 lg1
  have HWk : Hid (Calls Tryz.prog 15 #[.slice A R.length c, .string p, .bool true] W1 fun e w'' => (∃ (B1 : Option Addr) (m1 e1 : Nat) (B2 : Option Addr) (m2 e2 : Nat) (kz : Int), e = .returned (.agg #[.slice B1 m1 e1, .slice B2 m2 e2, .int .i64 kz]) ∧ AtIn O (.agg #[.slice B1 m1 e1, .slice B2 m2 e2, .int .i64 kz]) w'') ∧ Below W1.heap.size W1 w'') := Lib.hid (
    (refwalk_any hg hR A c rs p true O W1 (hT.later HB1.out) hp hO).mono fun e w'' ⟨⟨v, he, hv⟩, hw⟩ => by
      obtain ⟨B1, m1, e1, B2, m2, e2, kz, rfl⟩ := hv.shape
      exact ⟨⟨B1, m1, e1, B2, m2, e2, kz, he, hv⟩, hw⟩)
  have HO := Lib.hid hO
  have HT := Lib.hid (hT.later HB1.out)
  have HGg := Lib.hid hg
  have HSm := Lib.hid hsm
  have HBd := Lib.hid (And.intro ho2 hm2)
  clear hsm ho2 hm2
  clear hg hT hO hp
  unfold opV
  have eo := HXo.out
  have xo0 := cell_of_blk eo 0
  have xo1 := cell_of_blk eo 1
  have xo2 := cell_of_blk eo 2
  have xo3 := cell_of_blk eo 3
  clear eo
  go_enter Tryz.func30, Tryz.ntmps30
  go_upto_region 1 with fail
  rw [HW1.out]
  simp only [HEg1.out]
  clear HW1 HEg1
  go_wp2_with fail
  refine HWk.out.mono ?_
  rintro ex w2 ⟨⟨B1, m1, e1, B2, m2, e2, kz, rfl, hat⟩, hb2⟩
  obtain ⟨q, hq⟩ : ∃ q, q = w2.heap.size := ⟨_, rfl⟩
  obtain ⟨W3, hW3⟩ : ∃ W3, W3 = w2.alloc (.cells #[.slice B1 m1 e1, .slice B2 m2 e2, .int .i64 kz] 34) := ⟨_, rfl⟩
  have hx3 : W3.heap[q]? = some (.cells #[.slice B1 m1 e1, .slice B2 m2 e2, .int .i64 kz] 34 (0, 0)) := by rw [hW3, hq]; exact heap_alloc_new w2 _
  have hb23 : Below w2.heap.size w2 W3 := by rw [hW3]; exact (Below.refl _ _).alloc (Nat.le_refl _) _
  have HB3 := Lib.hid (hb2.trans (hb23.mono hb2.size))
  have HAt := Lib.hid (hat.later hb23)
  have HX3 := Lib.hid hx3
  have a0 := cell_of_blk hx3 0
  have a1 := cell_of_blk hx3 1
  have a2 := cell_of_blk hx3 2
  have HW3 := Lib.hid hW3.symm
  have HQ := Lib.hid hq.symm
  have eo := (HB3.out.block _ (lt_of_some HXo.out)).trans HXo.out
  clear xo0 xo1 xo2 xo3
  have xo0 := cell_of_blk eo 0
  have xo2 := cell_of_blk eo 2
  have xo3 := cell_of_blk eo 3
  clear hW3 hq hx3 hb23 hb2 hat HWk eo
  go_upto_region 4 with fail
  rw [HW3.out]
  simp only [HQ.out]
  clear HW3 HQ
  rcases hOe : O with j | ⟨ns, E⟩
  · subst hOe
    have hj : j ≠ 0 := goes_err HO.out
    obtain rfl : kz = j := at_err HAt.out rfl
    have gj : (kz != 0) = true := by rw [bne_iff_ne]; exact hj
    clear hj
    go_wp2_with fail
    refine (fault_any kz _).mono ?_
    rintro ex wf ⟨rfl, hbf⟩
    have HBf := Lib.hid (HB3.out.trans (hbf.mono (HB3.out).size))
    clear hbf
    unfold resV
    clear a0 a1 a2 xo0 xo2 xo3
    have eq8 := (HBf.out.block _ (lt_of_some HXr.out)).trans HXr.out
    have HPut := Lib.hid (put8 (rb := g1) HLg1.out eq8 (HB1.out.trans (HBf.out.mono HB1.out.size)) kz 0 0 0 ⟨#[]⟩)
    have y0 := cell_of_blk eq8 0
    have z0 := free_of_blk eq8 0
    have y1 := cell_of_blk eq8 1
    have z1 := free_of_blk eq8 1
    have y2 := cell_of_blk eq8 2
    have z2 := free_of_blk eq8 2
    have y3 := cell_of_blk eq8 3
    have z3 := free_of_blk eq8 3
    have y4 := cell_of_blk eq8 4
    have z4 := free_of_blk eq8 4
    have y5 := cell_of_blk eq8 5
    have z5 := free_of_blk eq8 5
    have y6 := cell_of_blk eq8 6
    have z6 := free_of_blk eq8 6
    have y7 := cell_of_blk eq8 7
    have z7 := free_of_blk eq8 7
    clear eq8
    go_wp2_with fail
    obtain ⟨p0, p1, p2, p3, p4, p5, p6, p7, HE⟩ := HPut.out _ rfl
    unfold set8 at p0 p1 p2 p3 p4 p5 p6 p7 HE
    exact bodyPost_ret (v := resV kz 0 0 0 ⟨#[]⟩) (by unfold resV; simp [results, Tryz.results30, go_sem, p0, p1, p2, p3, p4, p5, p6, p7]) rfl ⟨⟨_, rfl, rfl⟩, HE⟩
  subst hOe
  have hAt := HAt.out
  obtain ⟨A1, c1, A2, c2, qs, hv, hrow, _, _, htr, _⟩ := hAt
  injection hv with hv
  have h0 := congrArg (fun x : Array Value => x[0]?) hv
  have h1 := congrArg (fun x : Array Value => x[1]?) hv
  have h2 := congrArg (fun x : Array Value => x[2]?) hv
  simp at h0 h1 h2
  obtain ⟨rfl, rfl, rfl⟩ := h0
  obtain ⟨rfl, rfl, rfl⟩ := h1
  subst h2
  have HRow := Lib.hid hrow
  have HTr := Lib.hid htr
  have HSd := Lib.hid (HSm.out ns E rfl)
  clear HSm
  clear hv hrow htr HAt HO
  rcases E with _ | ⟨d, E⟩
  · skip
    obtain ⟨W4, hW4⟩ : ∃ W4, W4 = W3.alloc (.cells #[.int .i64 0, .bool false, .slice none 0 0, .slice none 0 0, .int .i64 0, .slice none 0 0, .string ⟨#[]⟩] 125) := ⟨_, rfl⟩
    obtain ⟨qn, hqn⟩ : ∃ qn, qn = W3.heap.size := ⟨_, rfl⟩
    have hx4 : W4.heap[qn]? = some (.cells #[.int .i64 0, .bool false, .slice none 0 0, .slice none 0 0, .int .i64 0, .slice none 0 0, .string ⟨#[]⟩] 125 (0, 0)) := by rw [hW4, hqn]; exact heap_alloc_new W3 _
    have hb34 : Below W3.heap.size W3 W4 := by rw [hW4]; exact (Below.refl _ _).alloc (Nat.le_refl _) _
    have HB34 := Lib.hid hb34
    have HB4 := Lib.hid (HB3.out.trans (hb34.mono HB3.out.size))
    have HX4 := Lib.hid hx4
    have HQn := Lib.hid (show W3.heap.size ≤ qn by omega)
    have HW4 := Lib.hid hW4.symm
    have HQe := Lib.hid hqn.symm
    have ea := (hb34.block _ (lt_of_some HX3.out)).trans HX3.out
    have eo := (HB4.out.block _ (lt_of_some HXo.out)).trans HXo.out
    clear hW4 hqn hx4 hb34
    go_upto_region 9 with fail
    rw [HW4.out]
    simp only [HQe.out]
    clear HW4 HQe a0 a1 a2 xo0 xo2 xo3
    have a0 := cell_of_blk ea 0
    have a1 := cell_of_blk ea 1
    have xo0 := cell_of_blk eo 0
    have xo2 := cell_of_blk eo 2
    have xo3 := cell_of_blk eo 3
    clear ea eo
    go_wp2_with fail
    refine (fault_any 5 _).mono ?_
    rintro ex wf ⟨rfl, hbf⟩
    have HBf := Lib.hid (HB4.out.trans (hbf.mono (HB4.out).size))
    clear hbf
    unfold resV
    clear a0 xo0 xo2 xo3 a1
    have eq8 := (HBf.out.block _ (lt_of_some HXr.out)).trans HXr.out
    have HPut := Lib.hid (put8 (rb := g1) HLg1.out eq8 (HB1.out.trans (HBf.out.mono HB1.out.size)) 5 0 0 0 ⟨#[]⟩)
    have y0 := cell_of_blk eq8 0
    have z0 := free_of_blk eq8 0
    have y1 := cell_of_blk eq8 1
    have z1 := free_of_blk eq8 1
    have y2 := cell_of_blk eq8 2
    have z2 := free_of_blk eq8 2
    have y3 := cell_of_blk eq8 3
    have z3 := free_of_blk eq8 3
    have y4 := cell_of_blk eq8 4
    have z4 := free_of_blk eq8 4
    have y5 := cell_of_blk eq8 5
    have z5 := free_of_blk eq8 5
    have y6 := cell_of_blk eq8 6
    have z6 := free_of_blk eq8 6
    have y7 := cell_of_blk eq8 7
    have z7 := free_of_blk eq8 7
    clear eq8
    go_wp2_with fail
    obtain ⟨p0, p1, p2, p3, p4, p5, p6, p7, HE⟩ := HPut.out _ rfl
    unfold set8 at p0 p1 p2 p3 p4 p5 p6 p7 HE
    exact bodyPost_ret (v := resV 5 0 0 0 ⟨#[]⟩) (by unfold resV; simp [results, Tryz.results30, go_sem, p0, p1, p2, p3, p4, p5, p6, p7]) rfl ⟨⟨_, rfl, rfl⟩, HE⟩
  · skip
    obtain ⟨⟨bn, on, hA2, hbn, hcn⟩, hNd⟩ := HTr.out 0 d rfl
    subst hA2
    obtain ⟨rd, hrd⟩ : ∃ rd, rd = qs 0 := ⟨_, rfl⟩
    rw [← hrd] at hcn hNd
    have HNd := Lib.hid hNd
    have HCn := Lib.hid (And.intro hbn hcn)
    clear hrd hcn hNd hbn
    obtain ⟨W4, hW4⟩ : ∃ W4, W4 = W3.alloc (.cells #[.int .i64 0, .bool false, .slice none 0 0, .slice none 0 0, .int .i64 0, .slice none 0 0, .string ⟨#[]⟩] 125) := ⟨_, rfl⟩
    obtain ⟨qn, hqn⟩ : ∃ qn, qn = W3.heap.size := ⟨_, rfl⟩
    have hx4 : W4.heap[qn]? = some (.cells #[.int .i64 0, .bool false, .slice none 0 0, .slice none 0 0, .int .i64 0, .slice none 0 0, .string ⟨#[]⟩] 125 (0, 0)) := by rw [hW4, hqn]; exact heap_alloc_new W3 _
    have hb34 : Below W3.heap.size W3 W4 := by rw [hW4]; exact (Below.refl _ _).alloc (Nat.le_refl _) _
    have HB34 := Lib.hid hb34
    have HB4 := Lib.hid (HB3.out.trans (hb34.mono HB3.out.size))
    have HX4 := Lib.hid hx4
    have HQn := Lib.hid (show W3.heap.size ≤ qn by omega)
    have HW4 := Lib.hid hW4.symm
    have HQe := Lib.hid hqn.symm
    have ea := (hb34.block _ (lt_of_some HX3.out)).trans HX3.out
    have eo := (HB4.out.block _ (lt_of_some HXo.out)).trans HXo.out
    clear hW4 hqn hx4 hb34
    go_upto_region 9 with fail
    rw [HW4.out]
    simp only [HQe.out]
    clear HW4 HQe a0 a1 a2 xo0 xo2 xo3
    have a0 := cell_of_blk ea 0
    have a1 := cell_of_blk ea 1
    have xo0 := cell_of_blk eo 0
    have xo2 := cell_of_blk eo 2
    have xo3 := cell_of_blk eo 3
    clear ea eo
    have l0 : (0 : Int) < ((E.length + 1 : Nat) : Int) := by omega
    have l0' : (0 : Int) < (E.length : Int) + 1 := by omega
    have kc : ∀ (j : Nat) (v : Value), (rawCells d rd)[j]? = some v → W4.cell? ⟨bn, on + j, none⟩ = some v := fun j v hj => by
      have h1 := HCn.out.2 j v hj
      rw [Nat.zero_mul, Nat.add_zero] at h1
      exact (HB34.out.cell (p := ⟨bn, on + j, none⟩) HCn.out.1).trans h1
    have y0 : W4.cell? ⟨bn, on, none⟩ = some (.int .i64 d.K) := kc 0 _ rfl
    have y1 : W4.cell? ⟨bn, on + 1, none⟩ = some (.bool d.O) := kc 1 _ rfl
    have y2 : W4.cell? ⟨bn, on + 2, none⟩ = some (.slice rd.An d.N.length rd.cn) := kc 2 _ rfl
    have y3 : W4.cell? ⟨bn, on + 3, none⟩ = some (.slice rd.Ai d.I.length rd.ci) := kc 3 _ rfl
    have y4 : W4.cell? ⟨bn, on + 4, none⟩ = some (.int .i64 d.S) := kc 4 _ rfl
    have y5 : W4.cell? ⟨bn, on + 5, none⟩ = some (.slice rd.Ae d.E.length rd.ce) := kc 5 _ rfl
    have y6 : W4.cell? ⟨bn, on + 6, none⟩ = some (.string d.T) := kc 6 _ rfl
    have hz := HX4.out
    have z0 := free_of_blk hz 0
    have n0 := cell_of_blk hz 0
    have z1 := free_of_blk hz 1
    have n1 := cell_of_blk hz 1
    have z2 := free_of_blk hz 2
    have n2 := cell_of_blk hz 2
    have z3 := free_of_blk hz 3
    have n3 := cell_of_blk hz 3
    have z4 := free_of_blk hz 4
    have n4 := cell_of_blk hz 4
    have z5 := free_of_blk hz 5
    have n5 := cell_of_blk hz 5
    have z6 := free_of_blk hz 6
    have n6 := cell_of_blk hz 6
    obtain ⟨W5, hW5⟩ : ∃ W5, W5 = W4.setCells qn 0 (rawCells d rd).toList := ⟨_, rfl⟩
    have hbx : Box W5 qn d rd := by rw [hW5]; exact (show Box W4 qn (.mk 0 false [] [] 0 [] ⟨#[]⟩) ⟨none, 0, none, 0, none, 0⟩ from hz).over
    have HB5 := Lib.hid (show Below W3.heap.size W3 W5 by rw [hW5]; exact below_setCells HQn.out _ 0 W4 HB34.out)
    have HBx := Lib.hid hbx
    simp only [World.setCells, rawCells, Nat.reduceAdd, Nat.zero_add] at hW5
    have HW5 := Lib.hid hW5
    clear hW5 hbx hz kc
    go_upto_region 11 with fail
    rw [← HW5.out]
    clear HW5 y0 y1 y2 y3 y4 y5 y6 z0 n0 z1 n1 z2 n2 z3 n3 z4 n4 z5 n5 z6 n6 a0 a1 xo0 xo2 xo3 HX4 l0 l0'
    have HB15 := Lib.hid (HB3.out.trans (HB5.out.mono HB3.out.size))
    obtain ⟨n0, n1, n2, n3, n4, n5, n6⟩ := HBx.out.cells
    have ea := (HB5.out.block _ (lt_of_some HX3.out)).trans HX3.out
    have eo := (HB15.out.block _ (lt_of_some HXo.out)).trans HXo.out
    have a0 := cell_of_blk ea 0
    have xo0 := cell_of_blk eo 0
    have xo2 := cell_of_blk eo 2
    have xo3 := cell_of_blk eo 3
    clear ea eo
    by_cases hK : d.K = 2
    · have gK : (d.K == 2) = true := by rw [hK]; rfl
      have HA3 : Hid (Res (ansO (R.length : Int) 0 (.ok ns (d :: E)) 4 o m) (.returned (resV 5 0 0 0 ⟨#[]⟩))) := Lib.hid (by
        have e1 : ansO (R.length : Int) 0 (.ok ns (d :: E)) 4 o m = ⟨5, 0, 0, 0, []⟩ := by show ansF _ _ d _ _ _ = _; unfold ansF; rw [if_neg (by decide), if_neg (by decide), if_neg (by decide), if_pos hK]
        rw [e1]; exact ⟨_, rfl, rfl⟩)
      clear hK
      go_wp2_with fail
      refine (fault_any 5 _).mono ?_
      rintro ex wf ⟨rfl, hbf⟩
      have HBf := Lib.hid (HB15.out.trans (hbf.mono (HB15.out).size))
      clear hbf
      unfold resV
      clear a0 xo0 xo2 xo3 n0 n1 n2 n3 n4 n5 n6
      have eq8 := (HBf.out.block _ (lt_of_some HXr.out)).trans HXr.out
      have HPut := Lib.hid (put8 (rb := g1) HLg1.out eq8 (HB1.out.trans (HBf.out.mono HB1.out.size)) 5 0 0 0 ⟨#[]⟩)
      have y0 := cell_of_blk eq8 0
      have z0 := free_of_blk eq8 0
      have y1 := cell_of_blk eq8 1
      have z1 := free_of_blk eq8 1
      have y2 := cell_of_blk eq8 2
      have z2 := free_of_blk eq8 2
      have y3 := cell_of_blk eq8 3
      have z3 := free_of_blk eq8 3
      have y4 := cell_of_blk eq8 4
      have z4 := free_of_blk eq8 4
      have y5 := cell_of_blk eq8 5
      have z5 := free_of_blk eq8 5
      have y6 := cell_of_blk eq8 6
      have z6 := free_of_blk eq8 6
      have y7 := cell_of_blk eq8 7
      have z7 := free_of_blk eq8 7
      clear eq8
      go_wp2_with fail
      obtain ⟨p0, p1, p2, p3, p4, p5, p6, p7, HE⟩ := HPut.out _ rfl
      unfold set8 at p0 p1 p2 p3 p4 p5 p6 p7 HE
      exact bodyPost_ret (v := resV 5 0 0 0 ⟨#[]⟩) (by unfold resV; simp [results, Tryz.results30, go_sem, p0, p1, p2, p3, p4, p5, p6, p7]) rfl ⟨HA3.out, HE⟩
    · have gK : (d.K == 2) = false := by rw [beq_eq_false_iff_ne]; exact hK
      have HA3 : Hid (∀ x : ByteArray, x.data.toList = readB d.S d.E o m → Res (ansO (R.length : Int) 0 (.ok ns (d :: E)) 4 o m) (.returned (resV 0 0 0 0 x))) := Lib.hid fun x hx => by
        have e1 : ansO (R.length : Int) 0 (.ok ns (d :: E)) 4 o m = ⟨0, 0, 0, 0, readB d.S d.E o m⟩ := by show ansF _ _ d _ _ _ = _; unfold ansF; rw [if_neg (by decide), if_neg (by decide), if_neg (by decide), if_neg hK]
        rw [e1]; exact ⟨_, rfl, hx⟩
      have s2 := HSd.out (by simp)
      have HRd := Lib.hid (refread_all d.S o m rd.Ae rd.ce d.E W5 ((HNd.out.later HB5.out).exts) (by have := HNd.out.fit.le; omega) (one_right (allB_one s2)).2.2 (.inr hm3) (by omega) HBd.out.1 (by omega) HBd.out.2)
      clear hK s2
      go_wp2_with fail
      refine HRd.out.mono ?_
      rintro ex w6 ⟨⟨x, rfl, hx⟩, hb6⟩
      have HB6 := Lib.hid (HB15.out.trans (hb6.mono (HB15.out).size))
      have HA4 := Lib.hid (HA3.out x hx)
      clear hx hb6 HRd
      clear a0 xo0 xo2 xo3 n0 n1 n2 n3 n4 n5 n6
      have eq8 := (HB6.out.block _ (lt_of_some HXr.out)).trans HXr.out
      have HPut := Lib.hid (put8 (rb := g1) HLg1.out eq8 (HB1.out.trans (HB6.out.mono HB1.out.size)) 0 0 0 0 x)
      have y0 := cell_of_blk eq8 0
      have z0 := free_of_blk eq8 0
      have y1 := cell_of_blk eq8 1
      have z1 := free_of_blk eq8 1
      have y2 := cell_of_blk eq8 2
      have z2 := free_of_blk eq8 2
      have y3 := cell_of_blk eq8 3
      have z3 := free_of_blk eq8 3
      have y4 := cell_of_blk eq8 4
      have z4 := free_of_blk eq8 4
      have y5 := cell_of_blk eq8 5
      have z5 := free_of_blk eq8 5
      have y6 := cell_of_blk eq8 6
      have z6 := free_of_blk eq8 6
      have y7 := cell_of_blk eq8 7
      have z7 := free_of_blk eq8 7
      clear eq8
      go_wp2_with fail
      obtain ⟨p0, p1, p2, p3, p4, p5, p6, p7, HE⟩ := HPut.out _ rfl
      unfold set8 at p0 p1 p2 p3 p4 p5 p6 p7 HE
      exact bodyPost_ret (v := resV 0 0 0 0 x) (by unfold resV; simp [results, Tryz.results30, go_sem, p0, p1, p2, p3, p4, p5, p6, p7]) rfl ⟨HA4.out, HE⟩
end Go.Proofs.YtkdldnjnadadgaaGreatDoor.uni
