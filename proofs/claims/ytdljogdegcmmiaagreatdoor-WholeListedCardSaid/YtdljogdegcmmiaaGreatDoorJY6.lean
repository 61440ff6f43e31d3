/- The law WholeListed: the list of the root has just those names that are seen, each once, rising. Conditions: the trees lie in memory; the library's MaxLen holds a number. -/
import Derived.Test.YtdljogdegcmmiaaGreatDoorJY5
import Derived.Test.YtdljogdegcmmiaaGreatDoorJY4
import Derived.Test.YtdljogdegcmmiaaGreatDoorJS
import Derived.Test.YtdljogdegcmmiaaGreatDoorJP
namespace Go.Proofs.YtdljogdegcmmiaaGreatDoor.lst
set_option maxRecDepth 100000
open Go.RowKit Go.Proofs.YtdljogdegcmmiaaGreatDoor.words Go.Proofs.YtdljogdegcmmiaaGreatDoor.ext Go.Proofs.YtdljogdegcmmiaaGreatDoor.name Go.Proofs.YtdljogdegcmmiaaGreatDoor.tre Go.Proofs.YtdljogdegcmmiaaGreatDoor.stk Go.Proofs.YtdljogdegcmmiaaGreatDoor.seen Go.Proofs.YtdljogdegcmmiaaGreatDoor.mrg

theorem en_neq (s : ByteArray) (r : Int) (W : World) : Sem.run Tryz.prog (binOp .neq 84 (.agg #[.string s, .int .i64 r]) (.agg #[.string s, .int .i64 r])) W = .ok (.bool false) W := by
  rw [run_neq_struct]
  have hs : Tryz.prog.underlying 9 = some .string := Tryz.underlying9
  have hi : Tryz.prog.underlying 3 = some (.int .i64) := Tryz.underlying3
  rw [run_equalIn_agg W 9999 84 _ _ (by kernel_rfl) (by kernel_rfl)]
  simp [hs, hi, go_sem]
theorem dir_len {w : World} {B : Nat} {A : Option Addr} {T : List Nd} {rs : Nat → Raw} (hT : Trees w B A T rs) (hm : mayB T = true) : ∀ t ∈ T, t.N.length ≤ 4096 ∧ ∀ s ∈ t.N, s.size ≤ 140737488355328 := fun t ht => by
  obtain ⟨i, hi⟩ := List.mem_iff_getElem?.1 ht
  have hok := okay_of (mayB_all hm t ht).1 (hT i t hi).2.tame (mayB_all hm t ht).2
  have hl := (one_right (allB_one hok.all)).2.1
  refine ⟨?_, fun s hs => ?_⟩
  · have h1 := hok.cnt
    have h2 : t.I.length ≤ countL t.I := countL_len t.I
    have h3 : count t = 1 + countL t.I := count_eq t
    omega
  · obtain ⟨j, hj⟩ := List.mem_iff_getElem?.1 hs
    exact ((hT i t hi).2.names j s hj).2
/-- The rows of names, so far. -/
structure RsA (w : World) (D : List Nd) (k : Nat) (v : Value) (wr : World) : Prop where
  ex : ∃ cs : List Value, wr.ownsRow w.heap.size 48 1 v k cs ∧ ∀ (i : Nat) (d : Nd), i < k → D[i]? = some d → ∃ A c, cs[i]? = some (.slice A d.N.length c) ∧ d.N.length ≤ c ∧ c ≤ maxLen ∧ wr.ownsRow w.heap.size 9 1 (.slice A d.N.length c) d.N.length (d.N.map Value.string)
  below : Below w.heap.size w wr
theorem RsA.later {w : World} {D : List Nd} {k : Nat} {v : Value} {wr w2 : World} (h : RsA w D k v wr) (hb : Below wr.heap.size wr w2) : RsA w D k v w2 := by
  obtain ⟨cs, h1, h2⟩ := h.ex
  exact ⟨⟨cs, ownL h1 hb, fun i d hi hd => by
    obtain ⟨A, c, q1, q2, q3, q4⟩ := h2 i d hi hd
    exact ⟨A, c, q1, q2, q3, ownL q4 hb⟩⟩, h.below.trans (hb.mono h.below.size)⟩
theorem RsA.rws {w : World} {D : List Nd} {c : Nat} {A : Option Addr} {wr : World} (h : RsA w D D.length (.slice A D.length c) wr) : heap.Rws wr wr.heap.size A (rowsOf D) := fun i l hl => by
  obtain ⟨d, hd, rfl⟩ := rows_at hl
  obtain ⟨cs, h1, h2⟩ := h.ex
  obtain ⟨Ai, ci, q1, q2, q3, q4⟩ := h2 i d (List.getElem?_eq_some_iff.1 hd).1 hd
  obtain ⟨g, _, e1, _, e2, _, e3⟩ := tre.own_cell h1 q1
  exact ⟨g, 0, Ai, ci, e1, e2, by rw [Nat.zero_add]; exact e3, row_own q4, q2, q3⟩
theorem RsA.next {w w8 w9 w10 : World} {D : List Nd} {k ca cn B : Nat} {d : Nd} {A An : Option Addr} {v' : Value} {cs : List Value} (hb : Below w.heap.size w w8) (ho : w8.ownsRow w.heap.size 48 1 (.slice A k ca) k cs)
    (hr : ∀ (i : Nat) (d : Nd), i < k → D[i]? = some d → ∃ A c, cs[i]? = some (.slice A d.N.length c) ∧ d.N.length ≤ c ∧ c ≤ maxLen ∧ w8.ownsRow w.heap.size 9 1 (.slice A d.N.length c) d.N.length (d.N.map Value.string))
    (hd : D[k]? = some d) (h1 : d.N.length ≤ cn) (h2 : cn ≤ maxLen) (h3 : w8.ownsRow B 9 1 (.slice An d.N.length cn) d.N.length (d.N.map Value.string)) (hB : w.heap.size ≤ B) (hb9 : Below w8.heap.size w8 w9)
    (ho' : w10.ownsRow w.heap.size 48 1 v' (k + 1) (cs ++ [.slice An d.N.length cn])) (hg : w9.grownBy w10 (Value.slice A k ca).ownBlock) : RsA w D (k + 1) v' w10 := by
  have ho9 := ownL ho hb9
  have hk : Kept (fun t => t = 48) w.heap.size w9 w10 := (Kept.refl _ _ w9).grown hg ho9 (Nat.le_refl _) rfl
  have hl : cs.length = k := by have := ho.1; rw [Nat.mul_one] at this; exact this
  refine ⟨⟨_, ho', fun i d' hi hd' => ?_⟩, (hb.trans (hb9.mono hb.size)).trans (hk.below (Nat.le_trans hb.size hb9.size))⟩
  rcases Nat.lt_or_ge i k with hik | hik
  · obtain ⟨A2, c2, q1, q2, q3, q4⟩ := hr i d' hik hd'
    exact ⟨A2, c2, by rw [List.getElem?_append_left (by omega)]; exact q1, q2, q3, hk.own (ownL q4 hb9) (by decide)⟩
  · obtain rfl : i = k := by omega
    rw [hd] at hd'
    obtain rfl := Option.some.inj hd'
    exact ⟨An, cn, by rw [List.getElem?_append_right (by omega), hl, Nat.sub_self]; rfl, h1, h2, hk.own (ownL (tre.own_base h3 hB) hb9) (by decide)⟩
theorem rises_of {D : List Nd} (hD : ∀ d ∈ D, Asc d.N) : ∀ l ∈ rowsOf D, heap.Ris l := fun l hl => by
  obtain ⟨i, hi⟩ := List.mem_iff_getElem?.1 hl
  obtain ⟨d, hd, rfl⟩ := rows_at hi
  exact ris_of (hD d (List.mem_of_getElem? hd))
def aB : ByteArray := ⟨#[97]⟩
theorem one_item {out : List heap.It} (h : heap.Merged [[aB]] out) : out.length = 1 := by
  rw [h.1.length_eq]
  rfl
set_option maxHeartbeats 25600000 in
theorem law_listed (A : Option Addr) (c : Nat) (T : List Nd) (rs : Nat → Raw) (m : Int) (w : World) (hT : Trees w w.heap.size A T rs) (hm : w.cell? ⟨0, 0, none⟩ = some (.int .i64 m)) :
    Calls Tryz.prog 10 #[.slice A T.length c] w fun e w' => e = .returned (.bool true) ∧ Below w.heap.size w w' := by
  obtain ⟨iS, hiS, zS0, zS1, zS2⟩ := info_parts infoStrs
  obtain ⟨Wa, hWa⟩ : ∃ Wa, Wa = w.alloc (.cells #[.string aB] 9) := ⟨_, rfl⟩
  obtain ⟨Wb, hWb⟩ : ∃ Wb, Wb = Wa.alloc (.cells #[.slice (some ⟨w.heap.size, 0, none⟩) 1 1] 48) := ⟨_, rfl⟩
  have hba : Below w.heap.size w Wa := by rw [hWa]; exact (Below.refl _ _).alloc (Nat.le_refl _) _
  have hza : Wa.heap.size = w.heap.size + 1 := by rw [hWa]; simp
  have hbb : Below Wa.heap.size Wa Wb := by rw [hWb]; exact (Below.refl _ _).alloc (Nat.le_refl _) _
  have hka : Wa.heap[w.heap.size]? = some (.cells #[.string aB] 9 (0, 0)) := by rw [hWa]; exact heap_alloc_new w _
  have hkb : Wb.heap[w.heap.size + 1]? = some (.cells #[.slice (some ⟨w.heap.size, 0, none⟩) 1 1] 48 (0, 0)) := by rw [← hza, hWb]; exact heap_alloc_new Wa _
  have hka2 := (hbb.block _ (lt_of_some hka)).trans hka
  have hR0 : heap.Rws Wb Wb.heap.size (some ⟨w.heap.size + 1, 0, none⟩) [[aB]] := fun i l hl => by
    rcases i with _ | i
    · obtain rfl : [aB] = l := by simpa using hl
      refine ⟨_, 0, some ⟨w.heap.size, 0, none⟩, 1, rfl, lt_of_some hkb, cell_of_blk hkb 0, fun j s hs => ?_, Nat.le_refl _, by decide⟩
      rcases j with _ | j
      · obtain rfl : aB = s := by simpa using hs
        exact ⟨_, 0, rfl, lt_of_some hka2, cell_of_blk hka2 0⟩
      · simp at hs
    · simp at hl
  have HM0 := Lib.hid (heap.merge_any (some ⟨w.heap.size + 1, 0, none⟩) 1 [[aB]] Wb hR0 (fun l hl => by
    obtain rfl : l = [aB] := by simpa using hl
    exact List.pairwise_singleton _ _) (by decide) (by decide))
  have HBb := Lib.hid (hba.trans (hbb.mono hba.size))
  unfold aB at hWa
  rw [hWa] at hWb
  have HWb := Lib.hid hWb
  have HT := Lib.hid hT
  have HM := Lib.hid hm
  clear hT hm hWa hWb hba hza hbb hka hkb hka2 hR0
  go_enter Tryz.func10, Tryz.ntmps10
  go_wp2_with fail
  rw [← HWb.out]
  refine HM0.out.mono ?_
  rintro e w0 ⟨v0, out0, rfl, ho0, hmg, hb0⟩
  obtain ⟨A0, c0, rfl, _, _⟩ := own_facts ho0
  have hl0 := one_item hmg
  rw [hl0]
  have HB0 := Lib.hid (HBb.out.trans (hb0.mono HBb.out.size))
  have HON := Lib.hid (onestack_any m w0 (below_cell HM.out HB0.out))
  clear ho0 hmg hl0 hb0 HM0 HBb HWb
  go_wp2_with fail
  refine HON.out.mono ?_
  rintro e w1 ⟨rfl, hb1⟩
  have HB1 := Lib.hid (HB0.out.trans (hb1.mono HB0.out.size))
  have HC := Lib.hid (may_any A c T rs w1 (HT.out.later HB1.out))
  clear hb1 HB0 HON
  go_wp2_with fail
  refine HC.out.mono ?_
  rintro e w2 ⟨rfl, hb2⟩
  have HB2 := Lib.hid (HB1.out.trans (hb2.mono HB1.out.size))
  clear hb2 HC HB1
  rcases hmay : mayB T with _ | _
  · rw [mayI_no hmay]
    go_wp2_with fail
    go_ret
    exact ⟨rfl, HB2.out⟩
  · rw [mayI_yes hmay]
    have HMay := Lib.hid hmay
    clear hmay
    have HC := Lib.hid (stack_any A c T rs m w2 (HT.out.later HB2.out) (below_cell HM.out HB2.out))
    go_wp2_with fail
    refine HC.out.mono ?_
    rintro e w3 ⟨hst, hb3⟩
    rcases hst with ⟨_, A', c', L, rfl, hok⟩ | ⟨hno, _⟩
    · obtain ⟨W4, hW4⟩ : ∃ W4, W4 = w3.alloc (.cells #[.slice A' T.length c', .int .i64 (T.length : Int)] 27) := ⟨_, rfl⟩
      have hb4 : Below w3.heap.size w3 W4 := by rw [hW4]; exact (Below.refl _ _).alloc (Nat.le_refl _) _
      have hk4 : W4.heap[w3.heap.size]? = some (.cells #[.slice A' T.length c', .int .i64 (T.length : Int)] 27 (0, 0)) := by rw [hW4]; exact heap_alloc_new w3 _
      have hb24 := hb3.trans (hb4.mono hb3.size)
      have HB4 := Lib.hid (HB2.out.trans (hb24.mono HB2.out.size))
      have HK := Lib.hid hk4
      have HS := Lib.hid (StkOk.stkM (hok.later hb4))
      have HLen := Lib.hid hok.len
      have HW4 := Lib.hid hW4
      have hfine := (fine_of HT.out HMay.out).rev
      have hT8 := mayB_len HMay.out
      have hdl := dir_len HT.out HMay.out
      obtain ⟨R, hR⟩ : ∃ R, R = T.reverse := ⟨_, rfl⟩
      have hRl : R.length = T.length := by rw [hR, List.length_reverse]
      have hRd : ∀ t ∈ R, t.N.length ≤ 4096 ∧ ∀ s ∈ t.N, s.size ≤ 140737488355328 := fun t ht => hdl t (by rw [hR] at ht; exact List.mem_reverse.1 ht)
      rw [← hR] at hfine HS
      obtain ⟨P, hPe⟩ : ∃ P, P = rootP (tabs R) := ⟨_, rfl⟩
      obtain ⟨D, hDe⟩ : ∃ D, D = R.take (dirsN R) := ⟨_, rfl⟩
      have hats := root_ats hfine.dirs
      have hup := root_up (R := R)
      have hpl := root_len (R := R)
      rw [← hPe] at hats hup hpl
      rw [← hDe] at hats
      have hPD := hats.length
      have hDR : ∀ d ∈ D, d ∈ R := fun d hd => by rw [hDe] at hd; exact List.mem_of_mem_take hd
      have hal := hats.right hfine.all
      have HROOT := Lib.hid (show Calls Tryz.prog 16 #[.agg #[.slice A' T.length c', .int .i64 (T.length : Int)]] W4 fun e w'' => (∃ Ap cp, e = .returned (.slice Ap P.length cp) ∧ Plc w'' w''.heap.size Ap P) ∧ Below W4.heap.size W4 w'' from by
        have h1 := root_any A' c' (T.length : Int) L (tabs R) W4 HS.out (by rw [HLen.out]; omega) tab_root
        rw [HLen.out, ← hPe] at h1
        exact h1.mono fun e w'' ⟨Ap, cp, h2, h3, _, _, h4⟩ => ⟨⟨Ap, cp, h2, h3⟩, h4⟩)
      have HFine := Lib.hid hfine
      have HAts := Lib.hid hats
      have HUp := Lib.hid hup
      have HPD := Lib.hid hPD
      have HDN := Lib.hid (fun d (hd : d ∈ D) => hRd d (hDR d hd))
      have HAL := Lib.hid hal
      have hp8 : P.length ≤ 8 := by omega
      clear hb3 hok hb4 hk4 hb24 hW4 HC hfine hT8 hdl hR hRl hRd hPe hDe hats hup hpl hPD hDR hal
      go_upto_region 7 with fail
      rw [← HW4.out]
      clear HW4
      have s0 := cell_of_blk HK.out 0
      have s1 := cell_of_blk HK.out 1
      go_wp2_with fail
      refine HROOT.out.mono ?_
      rintro e w5 ⟨⟨Ap, cp, rfl, hp5⟩, hb5⟩
      have HS5 := Lib.hid (HS.out.later hb5)
      have HK5 := Lib.hid ((hb5.block _ (lt_of_some HK.out)).trans HK.out)
      have HB5 := Lib.hid (HB4.out.trans (hb5.mono HB4.out.size))
      have HP5 := Lib.hid hp5
      have HR5 : Hid (RsA w5 D 0 (.slice none 0 0) w5) := Lib.hid ⟨⟨[], World.ownsRow_nil _ _ _ _, fun i d hi => absurd hi (Nat.not_lt_zero _)⟩, Below.refl _ _⟩
      clear hp5 hb5 HROOT HS HK HB4 s0 s1
      go_wp2_with fail
      go_loopw [40, 7] (fun v v7 wr => ∃ k : Nat, v = .int .i64 (k : Int) ∧ k ≤ P.length ∧ Hid (RsA w5 D k v7 wr)) (fun v _ _ => P.length - (intOf v).toNat)
      case atStart => exact ⟨0, rfl, Nat.zero_le _, HR5⟩
      case round =>
        clear HR5
        obtain ⟨k, rfl, hk, HR⟩ := hrel
        have k0 : (0 : Int) ≤ (k : Int) := by omega
        by_cases hkp : k < P.length
        · obtain ⟨⟨lv, nd⟩, hx⟩ : ∃ x, P[k]? = some x := ⟨_, List.getElem?_eq_getElem hkp⟩
          have k1 : (k : Int) < (P.length : Int) := by omega
          obtain ⟨bp, op, hAp, _, p0, p1⟩ := (HP5.out.keep HR.out.below) k _ hx
          subst hAp
          obtain ⟨d, hd, t, ht, htd⟩ := HAts.out.at_ hx
          obtain ⟨A7, c7, rfl, _, _⟩ := own_facts HR.out.ex.choose_spec.1
          obtain ⟨cs, ho, hrows⟩ := HR.out.ex
          obtain ⟨W6, hW6⟩ : ∃ W6, W6 = wr.alloc (.cells #[.int .i64 (lv : Int), .int .i64 (nd : Int)] 39) := ⟨_, rfl⟩
          have hb6 : Below wr.heap.size wr W6 := by rw [hW6]; exact (Below.refl _ _).alloc (Nat.le_refl _) _
          have hk6 : W6.heap[wr.heap.size]? = some (.cells #[.int .i64 (lv : Int), .int .i64 (nd : Int)] 39 (0, 0)) := by rw [hW6]; exact heap_alloc_new wr _
          have hb56 := HR.out.below.trans (hb6.mono HR.out.below.size)
          have hS6 := HS5.out.later hb56
          have hE := tabs_at ht
          obtain ⟨y, hy⟩ : ∃ y, L[lv]? = some y := ⟨_, List.getElem?_eq_getElem (by rw [← hS6.es]; exact (List.getElem?_eq_some_iff.1 hE).1)⟩
          have hbr : Brn W6 W6.heap.size y.1 (flatN 0 t) := hS6.brs lv y _ hy hE
          have hd0 : Below W6.heap.size W6 W6.drew := (Below.refl _ _).drew
          have HAT : Hid (Calls Tryz.prog 29 #[.agg #[.slice A' T.length c', .int .i64 (T.length : Int)], .int .i64 (lv : Int)] W6.drew fun e w'' => e = .returned (.pointer (some ⟨y.1, 0, none⟩)) ∧ Below W6.heap.size W6 w'') := Lib.hid (by
            have h := sat_yes A' L.length c' lv (T.length : Int) L y W6.drew (hS6.later hd0).rows rfl hy
            rw [HLen.out] at h
            exact h.mono fun e w'' ⟨h1, h2⟩ => ⟨h1, hd0.trans h2⟩)
          have HNm : Hid (∀ w' : World, Below W6.heap.size W6 w' → Calls Tryz.prog 45 #[.pointer (some ⟨y.1, 0, none⟩), .int .i64 (nd : Int)] w' (NamesOwn d.N w')) := Lib.hid fun w' hb => by
            have h1 := bnames_own y.1 nd _ _ w' (hbr.later hb) (flat_at htd)
            rw [show (entOf nd d).x.N = d.N from alone_N d] at h1
            exact h1
          have hkw := (hb56.block _ (lt_of_some HK5.out)).trans HK5.out
          have HCE := Lib.hid (fun (w' : World) (hb : Below W6.heap.size W6 w') => (show w'.cell? ⟨w3.heap.size, 0, none⟩ = some (.slice A' T.length c') ∧ w'.cell? ⟨w3.heap.size, 1, none⟩ = some (.int .i64 (T.length : Int)) ∧ w'.cell? ⟨wr.heap.size, 1, none⟩ = some (.int .i64 (nd : Int)) from by
            have h1 := (hb.block _ (lt_of_some hkw)).trans hkw
            have h2 := (hb.block _ (lt_of_some hk6)).trans hk6
            exact ⟨cell_of_blk h1 0, cell_of_blk h1 1, cell_of_blk h2 1⟩))
          have s0 := cell_of_blk hkw 0
          have s1 := cell_of_blk hkw 1
          have q0 := cell_of_blk hk6 0
          have q1 := cell_of_blk hk6 1
          have HNX := Lib.hid (fun (w8 w9 w10 : World) (B cn : Nat) (An : Option Addr) (v' : Value) (hb8 : Below W6.heap.size W6 w8) (n1 : d.N.length ≤ cn) (n2 : cn ≤ maxLen) (n3 : w8.ownsRow B 9 1 (.slice An d.N.length cn) d.N.length (d.N.map Value.string)) (hB : w5.heap.size ≤ B) (hb9 : Below w8.heap.size w8 w9)
              (ho' : w10.ownsRow w5.heap.size 48 1 v' (k + 1) (cs ++ [.slice An d.N.length cn])) (hg : w9.grownBy w10 (Value.slice A7 k c7).ownBlock) =>
            (RsA.next (hb56.trans (hb8.mono hb56.size)) (ownL ho (hb6.trans (hb8.mono hb6.size))) (fun i d' hi hd' => by
              obtain ⟨A2, c2, e1, e2, e3, e4⟩ := hrows i d' hi hd'
              exact ⟨A2, c2, e1, e2, e3, ownL e4 (hb6.trans (hb8.mono hb6.size))⟩) hd n1 n2 n3 hB hb9 ho' hg : RsA w5 D (k + 1) v' w10))
          have HO6 := Lib.hid (ownL ho hb6)
          have HZ6 := Lib.hid hb56.size
          have HW6 := Lib.hid hW6
          have hk8 : k ≤ 8 := by omega
          clear hx hd ht htd ho hrows hW6 hb6 hk6 hb56 hS6 hE hy hbr hd0 hkw HR
          go_upto_region 14 with fail
          rw [← HW6.out]
          clear HW6 p0 p1
          go_region_law (first
            | (go_simp; go_at_call 29; refine HAT.out.mono ?_; rintro e w7 ⟨rfl, hb7⟩; obtain ⟨e0, e1, e2⟩ := HCE.out w7 hb7; have HN7 := Lib.hid (HNm.out w7 hb7); have HB7 := Lib.hid hb7; clear hb7)
            | (go_simp; go_at_call 45; refine HN7.out.mono ?_; rintro e w8 ⟨An, cn, rfl, n1, n2, n3, n4⟩; have hb8 := HB7.out.trans (n4.mono HB7.out.size); have HO9 := Lib.hid (fun o => ownL (ownL HO6.out hb8) ((Below.refl w8.heap.size w8).alloc (Nat.le_refl _) o)); have HX8 := Lib.hid (And.intro n1 (And.intro n2 n3)); have HB8 := Lib.hid hb8; obtain ⟨e3, e4, e5⟩ := HCE.out w8 hb8; clear n1 n2 n3 n4 hb8)
            | (refine step_append_lies _ (by rfl) _ _ _ (by rfl) w5.heap.size 48 iS _ 1 24 Tryz.underlying92 hiS zS0 zS1 zS2 rfl (by omega) (.slice A7 k c7) k cs (by rfl) (HO9.out _)
                  ⟨w8.heap.size, 0, none⟩ 1 1 [.slice An d.N.length cn] (by rfl) (by rfl) (World.news_of_block (cs := #[.slice An d.N.length cn]) (heap_alloc_new w8 _)) (by simp [Value.oneCell'])
                  (by omega) (by simp only [maxLen]; omega) (by omega) (by have h1 := HZ6.out; have h2 := HB8.out.size; simp; omega) (w8.heap.size + 1) (by simp) ?_; intro gg cap w10 hown10 hgrow10 hat10 hlt10))
          all_goals
            have HNN := Lib.hid (HNX.out w8 _ w10 _ cn An _ HB8.out HX8.out.1 HX8.out.2.1 HX8.out.2.2 (by have h1 := HZ6.out; have h2 := HB7.out.size; omega) ((Below.refl w8.heap.size w8).alloc (Nat.le_refl _) _) hown10 hgrow10)
            clear hown10 hgrow10 hat10 hlt10
            go_wp2_with fail
            go_roundw
            case rel => exact ⟨k + 1, by go_num, by omega, HNN⟩
            case measure => simp [intOf]; omega
        · obtain rfl : k = P.length := by omega
          obtain ⟨wq, hwq⟩ : ∃ wq, wq = wr := ⟨_, rfl⟩
          subst hwq
          obtain ⟨A7, c7, rfl, _, _⟩ := own_facts HR.out.ex.choose_spec.1
          have hb7 := HR.out.below
          have hk7 := (hb7.block _ (lt_of_some HK5.out)).trans HK5.out
          have hRw : heap.Rws wq wq.heap.size A7 (rowsOf D) := by
            have h := HR.out
            rw [HPD.out] at h
            exact h.rws
          have hS7 := HS5.out.later hb7
          have hP7 := (HP5.out.keep hb7).more hb7.size
          have htot := tot_le (L := rowsOf D) (K := 4096) fun l hl => by
            obtain ⟨i, hi⟩ := List.mem_iff_getElem?.1 hl
            obtain ⟨d, hd, rfl⟩ := rows_at hi
            exact (HDN.out d (List.mem_of_getElem? hd)).1
          have hrl : (rowsOf D).length = P.length := by rw [rows_len, HPD.out]
          rw [hrl] at htot
          have HTot := Lib.hid htot
          have HLS : Hid (Calls Tryz.prog 46 #[.agg #[.slice A' T.length c', .int .i64 (T.length : Int)], .slice Ap P.length cp] wq (ListOut D wq)) := Lib.hid (by
            have h := list_any HFine.out.all HAts.out (fun d hd => (HDN.out d hd).1) A' c' (T.length : Int) L Ap cp wq hS7 hP7 (by omega)
            rw [HLen.out] at h
            exact h)
          have HMG : Hid (∀ w' : World, Below wq.heap.size wq w' → Calls Tryz.prog 43 #[.slice A7 P.length c7] w' (heap.MergedIn w' (rowsOf D))) := Lib.hid fun w' hb => by
            have h := heap.merge_any A7 c7 (rowsOf D) w' (fun i l hl => by
              obtain ⟨gb, off, Ai, ci, e1, e2, e3, e4, e5, e6⟩ := hRw i l hl
              exact ⟨gb, off, Ai, ci, e1, Nat.lt_of_lt_of_le e2 hb.size, (hb.cell (p := ⟨gb, off + i, none⟩) e2).trans e3, (e4.keep hb).more hb.size, e5, e6⟩) (rises_of fun d hd => (HAL.out d hd).1) (by omega) (by omega)
            rw [hrl] at h
            exact h
          have s0 := cell_of_blk hk7 0
          have s1 := cell_of_blk hk7 1
          have HS7 := Lib.hid hS7
          have HP7 := Lib.hid hP7
          have HK7 := Lib.hid hk7
          have HBq := Lib.hid (HB5.out.trans (hb7.mono HB5.out.size))
          clear hb7 hk7 hRw hS7 hP7 htot hrl HR HS5 HP5 HK5 HB5
          go_wp2_with fail
          refine HLS.out.mono ?_
          rintro e w6 ⟨out, E, AE, cE, hmg, hkn, rfl, hoE, hb6⟩
          have hol : out.length ≤ 1000000 := by
            have h1 := hmg.1.length_eq
            have h2 : (heap.allF (rowsOf D)).length ≤ P.length * 4096 := HTot.out
            omega
          have hfl := heap.firsts_le out
          have hel := hkn.len
          have hE6 : E.length ≤ 1000000 := by omega
          have hsml : heap.Sml (E.map Prod.fst) := fun s hs => by
            obtain ⟨l, hl, hsl⟩ := (hmg.names.2 s).1 (hkn.names.subset hs)
            obtain ⟨i, hi⟩ := List.mem_iff_getElem?.1 hl
            obtain ⟨d, hd, rfl⟩ := rows_at hi
            exact (HDN.out d (List.mem_of_getElem? hd)).2 s hsl
          have HSm := Lib.hid hsml
          have HMg := Lib.hid hmg
          have HKn := Lib.hid hkn
          have HRi := Lib.hid (hkn.ris hmg)
          have HLE := Lib.hid (lies_own hoE)
          have HB6 := Lib.hid hb6
          have HNA := Lib.hid (mrg.names_any AE cE E w6 (lies_own hoE) hE6)
          have HOl := Lib.hid hol
          clear hmg hkn hoE hb6 hol hfl hel hsml HLS s0 s1
          go_wp2_with fail
          refine HNA.out.mono ?_
          rintro e w7 ⟨⟨AN, cN, rfl, hon⟩, hb7⟩
          have HRS : Hid (Calls Tryz.prog 47 #[.slice AN E.length cN] w7 (heap.RisesIn (E.map Prod.fst) w7)) := Lib.hid (by
            have hle : (E.map Prod.fst).length = E.length := List.length_map ..
            have h := heap.rises_any AN cN (E.map Prod.fst) w7 (row_own (c := cN) (B := w6.heap.size) (by rw [hle, List.map_map]; exact hon)) HSm.out (by rw [hle]; omega)
            rw [hle] at h
            exact h)
          have HB7 := Lib.hid (HB6.out.trans (hb7.mono HB6.out.size))
          have HE7 := Lib.hid hb7
          clear hon hb7 HNA HSm
          go_wp2_with fail
          refine HRS.out.mono ?_
          rintro e w8 ⟨⟨b, rfl, hbr⟩, n8, rfl⟩
          obtain rfl : b = true := hbr.2 HRi.out
          have HB8 := Lib.hid (heap.below_drewN HB7.out n8)
          have HE8 := Lib.hid (heap.below_drewN HE7.out n8)
          have HM8 := Lib.hid (HMG.out _ HB8.out)
          clear hbr HRS HRi HMG
          go_wp2_with fail
          refine HM8.out.mono ?_
          rintro e w9 ⟨v9, out9, rfl, ho9, hmg9, hb9⟩
          obtain rfl := HMg.out.eq hmg9
          obtain ⟨A9, c9, rfl, _, _⟩ := own_facts ho9
          have HF9 := Lib.hid (heap.first_any A9 c9 out w9 (itms_own ho9) (Nat.le_trans HOl.out (by decide)))
          have HB9 := Lib.hid (HB8.out.trans (hb9.mono HB8.out.size))
          have HE9 := Lib.hid (HE8.out.trans (hb9.mono HE8.out.size))
          clear ho9 hmg9 hb9 HM8
          go_wp2_with fail
          refine HF9.out.mono ?_
          rintro e wa ⟨va, rfl, hoa, hba⟩
          obtain ⟨F, hF⟩ : ∃ F, F = heap.firsts out := ⟨_, rfl⟩
          have hkn := HKn.out
          have hfl := heap.firsts_le out
          rw [← hF] at hoa hfl hkn
          obtain ⟨Aa, ca, rfl, _, _⟩ := own_facts hoa
          have HI := Lib.hid (itms_own hoa)
          have HBa := Lib.hid (HB9.out.trans (hba.mono HB9.out.size))
          have HEa := Lib.hid (HE9.out.trans (hba.mono HE9.out.size))
          have HFe := Lib.hid hF
          have hF6 : F.length ≤ 1000000 := Nat.le_trans hfl HOl.out
          have HKN := Lib.hid hkn
          clear hoa hba hF HF9 hkn hfl HB9 HE7 HE8 HE9
          go_wp2_with fail
          go_loopw [66, 11] (fun v v11 wr => ∃ (j : Nat) (E1 E2 : List (ByteArray × Int)), v = .int .i64 (j : Int) ∧ v11 = .int .i64 (E1.length : Int) ∧ j ≤ F.length ∧ Hid (E.length = E1.length + E2.length) ∧ Hid (E = E1 ++ E2) ∧ Hid (Kinds D (F.drop j) E2) ∧ Hid (Below wa.heap.size wa wr)) (fun v _ _ => F.length - (intOf v).toNat)
          case atStart => exact ⟨0, [], E, rfl, rfl, Nat.zero_le _, Lib.hid (by simp), Lib.hid rfl, HKN, Lib.hid (Below.refl _ _)⟩
          case round =>
            clear HKN
            obtain ⟨j, E1, E2, rfl, rfl, hj, hee, HEE, HKN, HBz⟩ := hrel
            have j0 : (0 : Int) ≤ (j : Int) := by omega
            by_cases hjf : j < F.length
            · obtain ⟨⟨sx, rx⟩, hx⟩ : ∃ x, F[j]? = some x := ⟨_, List.getElem?_eq_getElem hjf⟩
              have j1 : (j : Int) < (F.length : Int) := by omega
              obtain ⟨bF, oF, hAa, hbF, x0, x1⟩ := (HI.out.keep HBz.out) j _ hx
              subst hAa
              have hkd := HKN.out
              have hdr : F.drop j = (sx, rx) :: F.drop (j + 1) := by
                obtain ⟨hkl, hxx⟩ := List.getElem?_eq_some_iff.1 hx
                rw [List.drop_eq_getElem_cons hkl, hxx]
              rw [hdr] at hkd
              obtain ⟨d, i, y, E', hd, hi, hy, hE2, hkn⟩ := hkd.drop
              have hxF : ((sx, rx) : heap.It) ∈ heap.firsts out := by rw [← HFe.out]; exact List.mem_of_getElem? hx
              obtain ⟨Q', hQ⟩ := EntN.some (s := sx) (D := D) fun d hd => (HAL.out d hd).2
              have hBw : Below wq.heap.size wq wr := HBa.out.trans (HBz.out.mono HBa.out.size)
              obtain ⟨W1, hW1⟩ : ∃ W1, W1 = wr.alloc (.cells #[.string sx, .int .i64 (rx : Int)] 99) := ⟨_, rfl⟩
              have hb1 : Below wr.heap.size wr W1 := by rw [hW1]; exact (Below.refl _ _).alloc (Nat.le_refl _) _
              have hk1 : W1.heap[wr.heap.size]? = some (.cells #[.string sx, .int .i64 (rx : Int)] 99 (0, 0)) := by rw [hW1]; exact heap_alloc_new wr _
              have hbr := hBw.trans (hb1.mono hBw.size)
              have hst := (hbr.block _ (lt_of_some HK7.out)).trans HK7.out
              have HLK : Hid (Calls Tryz.prog 28 #[.agg #[.slice A' T.length c', .int .i64 (T.length : Int)], .slice Ap P.length cp, .string sx] W1 (SawTop P rx y W1)) := Lib.hid (by
                have h := (seen_any HFine.out.all HAts.out HUp.out hQ A' c' (T.length : Int) L Ap cp W1 (HS7.out.later hbr) ((HP7.out.keep hbr).more hbr.size) (by omega)).mono fun e w' h => mrg.Saw.top h hQ (fun d hd => (HAL.out d hd).1) hd hi hy (first_top HMg.out hxF)
                rw [HLen.out] at h
                exact h)
              have s0 := cell_of_blk hst 0
              have s1 := cell_of_blk hst 1
              have y0 := cell_of_blk hk1 0
              have y1 := cell_of_blk hk1 1
              have HK1 := Lib.hid hk1
              have HBW := Lib.hid hbr
              have HB1 := Lib.hid (HBz.out.trans (hb1.mono HBz.out.size))
              have HE2 := Lib.hid hE2
              have HKN2 := Lib.hid hkn
              have HW1 := Lib.hid hW1
              have hrP : rx < P.length := by rw [HPD.out]; exact (List.getElem?_eq_some_iff.1 hd).1
              clear hx hkd hdr hd hi hy hE2 hkn hxF hQ hBw hW1 hb1 hk1 hbr hst HKN HBz
              go_upto_region 23 with fail
              rw [← HW1.out]
              clear HW1 x0 x1
              go_wp2_with fail
              refine HLK.out.mono ?_
              rintro e w2 ⟨⟨h4, rfl⟩ | ⟨h4, p, id, Af, nf, cf, hp, rfl⟩, hb2⟩
              · have HR2 := Lib.hid ((HB1.out.trans (hb2.mono HB1.out.size)).alloc (HB1.out.trans (hb2.mono HB1.out.size)).size (.cells #[.int .i64 0, .int .i64 0, .int .i64 0, .slice none 0 0] 41))
                have HK2 : Hid (Kinds D (F.drop (j + 1)) E2) := Lib.hid (by
                  rw [HE2.out, if_pos h4]
                  exact HKN2.out)
                clear hb2 h4 HLK HK1 HBW HB1 HE2 HKN2 s0 s1 y0 y1
                unfold foundV
                go_wp2_with fail
                go_roundw
                case rel => exact ⟨j + 1, E1, E2, by go_num, rfl, by omega, hee, HEE, HK2, Lib.hid (HR2.out)⟩
                case measure => simp [intOf]; omega
              · have hE2 := HE2.out
                rw [if_neg h4] at hE2
                have hel : E.length = E1.length + (1 + E'.length) := by
                  rw [hee.out, hE2, List.length_append]
                  rfl
                have hEx : E[E1.length]? = some (sx, y.K) := by
                  rw [HEE.out, hE2, List.getElem?_append_right (Nat.le_refl _), Nat.sub_self]
                  rfl
                obtain ⟨W3, hW3⟩ : ∃ W3, W3 = w2.alloc (.cells #[.int .i64 y.K, .int .i64 (p.1 : Int), .int .i64 id, .slice Af nf cf] 41) := ⟨_, rfl⟩
                have hb3 : Below w2.heap.size w2 W3 := by rw [hW3]; exact (Below.refl _ _).alloc (Nat.le_refl _) _
                have hk3 : W3.heap[w2.heap.size]? = some (.cells #[.int .i64 y.K, .int .i64 (p.1 : Int), .int .i64 id, .slice Af nf cf] 41 (0, 0)) := by rw [hW3]; exact heap_alloc_new w2 _
                have hBB := HB1.out.trans (hb2.mono HB1.out.size)
                have hBB := hBB.trans (hb3.mono hBB.size)
                have hb23 := hb2.trans (hb3.mono hb2.size)
                have hk13 := (hb23.block _ (lt_of_some HK1.out)).trans HK1.out
                have hbw3 := HBW.out.trans (hb23.mono HBW.out.size)
                obtain ⟨bP, oP, hAp, _, p0, p1⟩ := (HP7.out.keep hbw3) rx _ hp
                obtain ⟨bE, oE, hAE, hbE, e0, e1⟩ := lies_en HLE.out hEx
                subst hAp
                subst hAE
                have hBe := HEa.out.trans (hBB.mono HEa.out.size)
                have e0' := (hBe.cell (p := ⟨bE, oE + E1.length * 2, none⟩) hbE).trans e0
                have e1' := (hBe.cell (p := ⟨bE, oE + E1.length * 2 + 1, none⟩) hbE).trans e1
                clear e0 e1
                have y0' := cell_of_blk hk13 0
                have y1' := cell_of_blk hk13 1
                have z0 := cell_of_blk hk3 0
                have z1 := cell_of_blk hk3 1
                have i0 : (0 : Int) ≤ (E1.length : Int) := by omega
                have i1 : (E1.length : Int) < (E.length : Int) := by omega
                have r0 : (0 : Int) ≤ (rx : Int) := by omega
                have r1 : (rx : Int) < (P.length : Int) := by omega
                have i2 : ((E1.length : Int)).toNat = E1.length := by omega
                have r2 : ((rx : Int)).toNat = rx := by omega
                have hge : decide ((E.length : Int) ≤ (E1.length : Int)) = false := by simp; omega
                have hge2 : decide (E.length ≤ E1.length) = false := by simp; omega
                have hge3 : ¬ E.length ≤ E1.length := by omega
                have hge4 : (!decide ((E1.length : Int) < (E.length : Int))) = false := by simp; omega
                have hge5 : decide ((E1.length : Int) < (E.length : Int)) = true := by simp; omega
                have hneq := fun W => en_neq sx y.K W
                have HR3 := Lib.hid hBB
                have HW3 := Lib.hid hW3
                have HK2 : Hid (Kinds D (F.drop (j + 1)) E') := Lib.hid HKN2.out
                have HEE2 : Hid (E = (E1 ++ [(sx, y.K)]) ++ E') := Lib.hid (by rw [HEE.out, hE2, List.append_assoc])
                have hee2 : Hid (E.length = (E1 ++ [(sx, y.K)]).length + E'.length) := Lib.hid (by rw [hel, List.length_append, List.length_singleton]; omega)
                clear hE2 hel hEx hb2 hb3 hk3 hBB hb23 hk13 hbw3 hbE hBe hp h4 hW3 HLK HK1 HBW HB1 HE2 HKN2 s0 s1 y0 y1
                unfold foundV
                go_upto_region 24 with fail
                rw [← HW3.out]
                clear HW3
                go_upto_region 25 with fail
                go_quiet (fail)
                go_wp2_with fail
                go_roundw
                case rel => exact ⟨j + 1, E1 ++ [(sx, y.K)], E', by go_num, by rw [List.length_append, List.length_singleton]; go_num, by omega, hee2, HEE2, HK2, Lib.hid (heap.below_drewN HR3.out _)⟩
                case measure => simp [intOf]; omega
            · obtain rfl : j = F.length := by omega
              have hE2 := HKN.out
              rw [List.drop_length] at hE2
              have hE0 : E2 = [] := hE2
              subst hE0
              have heq : (E1.length : Int) = (E.length : Int) := by rw [hee.out]; rfl
              have hfin := HBq.out.trans ((HBa.out.trans (HBz.out.mono HBa.out.size)).mono HBq.out.size)
              have HFin := Lib.hid hfin
              clear hE2 hfin HKN HBz
              go_wp2_with fail
              go_ret
              refine ⟨?_, HFin.out⟩
              first | rfl | (rw [heq]; simp) | simp [heq]
    · rw [HMay.out] at hno
      cases hno
end Go.Proofs.YtdljogdegcmmiaaGreatDoor.lst
