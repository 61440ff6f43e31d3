/- The law MergeLists: of any branches, one upon the other, what is listed, wherever one comes, is what the reference lists. Conditions: the trees lie in memory; the library's MaxLen holds a number. -/
import Derived.Test.YtdljogdegcmmiaaGreatDoorJZ1
import Derived.Test.YtdljogdegcmmiaaGreatDoorJY4
namespace Go.Proofs.YtdljogdegcmmiaaGreatDoor.mrg
set_option maxRecDepth 100000
open Go.RowKit Go.Proofs.YtdljogdegcmmiaaGreatDoor.words Go.Proofs.YtdljogdegcmmiaaGreatDoor.ext Go.Proofs.YtdljogdegcmmiaaGreatDoor.name Go.Proofs.YtdljogdegcmmiaaGreatDoor.tre Go.Proofs.YtdljogdegcmmiaaGreatDoor.stk Go.Proofs.YtdljogdegcmmiaaGreatDoor.seen

theorem names_few {w : World} {B : Nat} {A : Option Addr} {T : List Nd} {rs : Nat → Raw} (hT : Trees w B A T rs) (hm : mayB T = true) : ∀ (x : Nat × Nat) (d : Nd), At T.reverse x d → d.N.length ≤ 4096 := fun x d h => by
  have hone := h.one (fine_of hT hm).rev.all
  obtain ⟨t, ht, hd⟩ := h
  have htm : t ∈ T := List.mem_reverse.1 (List.mem_of_getElem? ht)
  obtain ⟨i, hi⟩ := List.mem_iff_getElem?.1 htm
  have hok := okay_of (mayB_all hm t htm).1 (hT i t hi).2.tame (mayB_all hm t htm).2
  have h1 := hok.cnt
  have h2 := (preN_in t d (List.mem_of_getElem? hd)).2.1
  have h3 : d.I.length ≤ countL d.I := countL_len d.I
  have h4 : count d = 1 + countL d.I := count_eq d
  have h5 := (one_right hone).2.1
  omega
set_option maxHeartbeats 25600000 in
theorem law_lists (A : Option Addr) (c : Nat) (T : List Nd) (rs : Nat → Raw) (m : Int) (w : World) (hT : Trees w w.heap.size A T rs) (hm : w.cell? ⟨0, 0, none⟩ = some (.int .i64 m)) :
    Calls Tryz.prog 3 #[.slice A T.length c] w fun e w' => e = .returned (.bool true) ∧ Below w.heap.size w w' := by
  have HT := Lib.hid hT
  have HM := Lib.hid hm
  clear hT hm
  go_enter Tryz.func3, Tryz.ntmps3
  go_wp2_with fail
  refine (mrg.speaks_any m w HM.out).mono ?_
  rintro e w1 ⟨rfl, hb1⟩
  have HB1 := Lib.hid hb1
  have HC := Lib.hid (may_any A c T rs w1 (HT.out.later hb1))
  clear hb1
  go_wp2_with fail
  refine HC.out.mono ?_
  rintro e w2 ⟨rfl, hb2⟩
  have HB2 := Lib.hid (HB1.out.trans (hb2.mono HB1.out.size))
  clear hb2 HC HB1
  rcases hmay : mayB T with _ | _
  · rw [mayI_no hmay]
    go_wp2_with fail
    go_ret
    exact ⟨rfl, HB2.out⟩
  · rw [mayI_yes hmay]
    have HMay := Lib.hid hmay
    clear hmay
    have HC := Lib.hid (stack_any A c T rs m w2 (HT.out.later HB2.out) (below_cell HM.out HB2.out))
    go_wp2_with fail
    refine HC.out.mono ?_
    rintro e w3 ⟨hst, hb3⟩
    rcases hst with ⟨_, A', c', L, rfl, hok⟩ | ⟨hno, _⟩
    · obtain ⟨W4, hW4⟩ : ∃ W4, W4 = w3.alloc (.cells #[.slice A' T.length c', .int .i64 (T.length : Int)] 27) := ⟨_, rfl⟩
      have hb4 : Below w3.heap.size w3 W4 := by rw [hW4]; exact (Below.refl _ _).alloc (Nat.le_refl _) _
      have hk4 : W4.heap[w3.heap.size]? = some (.cells #[.slice A' T.length c', .int .i64 (T.length : Int)] 27 (0, 0)) := by rw [hW4]; exact heap_alloc_new w3 _
      have hb24 := hb3.trans (hb4.mono hb3.size)
      have HB4 := Lib.hid (HB2.out.trans (hb24.mono HB2.out.size))
      have HK := Lib.hid hk4
      have hs4 := StkOk.stkM (hok.later hb4)
      have HLen := Lib.hid hok.len
      have HW4 := Lib.hid hW4
      have HT4 := Lib.hid (HT.out.later HB4.out)
      have hfine := (fine_of HT.out HMay.out).rev
      have hfew := names_few HT.out HMay.out
      have hT8 := mayB_len HMay.out
      obtain ⟨R, hR⟩ : ∃ R, R = T.reverse := ⟨_, rfl⟩
      have hRl : R.length = T.length := by rw [hR, List.length_reverse]
      rw [← hR] at hfine hs4 hfew
      obtain ⟨P, hPe⟩ : ∃ P, P = rootP (tabs R) := ⟨_, rfl⟩
      obtain ⟨D, hDe⟩ : ∃ D, D = R.take (dirsN R) := ⟨_, rfl⟩
      have hats := root_ats hfine.dirs
      have hup := root_up (R := R)
      have hpl := root_len (R := R)
      rw [← hPe] at hats hup hpl
      rw [← hDe] at hats
      have HFine := Lib.hid hfine
      have HAts := Lib.hid hats
      have HUp := Lib.hid hup
      have HFew := Lib.hid hfew
      have HS4 := Lib.hid hs4
      have J1 : Hid (∀ w' : World, Below W4.heap.size W4 w' → Calls Tryz.prog 16 #[.agg #[.slice A' T.length c', .int .i64 (T.length : Int)]] w' fun e w'' => (∃ Ap cp, e = .returned (.slice Ap P.length cp) ∧ Plc w'' w''.heap.size Ap P) ∧ Below W4.heap.size W4 w'') := Lib.hid fun w' hb => by
        have h1 := root_any A' c' (T.length : Int) L (tabs R) w' (HS4.out.later hb) (by rw [HLen.out]; omega) tab_root
        rw [HLen.out, ← hPe] at h1
        exact h1.mono fun e w'' ⟨Ap, cp, h2, h3, _, _, h4⟩ => ⟨⟨Ap, cp, h2, h3⟩, hb.trans (h4.mono hb.size)⟩
      have J2 : Hid (∀ w' : World, Below W4.heap.size W4 w' → Calls Tryz.prog 18 #[.slice A T.length c] w' fun e w'' => (∃ Aa ca qs, e = .returned (.slice Aa R.length ca) ∧ Trees w'' w''.heap.size Aa R qs) ∧ Below w'.heap.size w' w'' ∧ Below W4.heap.size W4 w'') := Lib.hid fun w' hb => by
        have h1 := above_any A c T rs w' (HT4.out.later hb) (by omega)
        rw [← hR] at h1
        exact h1.mono fun e w'' ⟨Aa, ca, qs, h2, h3, _, h4⟩ => ⟨⟨Aa, ca, qs, h2, h3⟩, h4, hb.trans (h4.mono hb.size)⟩
      have J3 : Hid (∀ (w' : World) (Aa : Option Addr) (ca : Nat) (qs : Nat → Raw), Below W4.heap.size W4 w' → Trees w' w'.heap.size Aa R qs → Calls Tryz.prog 17 #[.slice Aa R.length ca] w' fun e w'' => (∃ Ad cd rd, e = .returned (.slice Ad D.length cd) ∧ Trees w'' w''.heap.size Ad D rd) ∧ Below w'.heap.size w' w'' ∧ Below W4.heap.size W4 w'') := Lib.hid fun w' Aa ca qs hb ht => by
        have h1 := dirs_any Aa ca R qs w' ht (by omega)
        rw [← hDe] at h1
        exact h1.mono fun e w'' ⟨Ad, cd, rd, h2, h3, _, h4⟩ => ⟨⟨Ad, cd, rd, h2, h3⟩, h4, hb.trans (h4.mono hb.size)⟩
      have HDe := Lib.hid hDe
      have J4 : Hid (∀ (w' : World) (Ap : Option Addr) (cp : Nat) (Ad : Option Addr) (cd : Nat) (rd : Nat → Raw), Below W4.heap.size W4 w' → Plc w' w'.heap.size Ap P → Trees w' w'.heap.size Ad D rd → Calls Tryz.prog 15 #[.agg #[.slice A' T.length c', .int .i64 (T.length : Int)], .slice Ap P.length cp, .slice Ad D.length cd] w' fun e w'' => e = .returned (.bool true) ∧ Below W4.heap.size W4 w'') := Lib.hid fun w' Ap cp Ad cd rd hb hp ht => by
        have h1 := mwalk_step HFine.out.all HFew.out A' c' (T.length : Int) L 100 (mwalks_all HFine.out.all HFew.out A' c' (T.length : Int) L 100) P D Ap cp Ad cd rd w' HAts.out HUp.out
          (fun d hd => by have := HFine.out.deep d (by rw [HDe.out] at hd; exact List.mem_of_mem_take hd); omega)
          (HS4.out.later hb) hp ht (by omega)
        rw [HLen.out] at h1
        exact h1.mono fun e w'' ⟨h2, h3⟩ => ⟨h2, hb.trans (h3.mono hb.size)⟩
      have HSS : Hid (∀ w' : World, Below W4.heap.size W4 w' → (w'.cell? ⟨w3.heap.size, 0, none⟩ = some (.slice A' T.length c') ∧ w'.cell? ⟨w3.heap.size, 1, none⟩ = some (.int .i64 (T.length : Int)) ∧ Below W4.heap.size W4 w')) := Lib.hid fun w' hb' => by
        have e2 := (hb'.block _ (lt_of_some HK.out)).trans HK.out
        exact ⟨cell_of_blk e2 0, cell_of_blk e2 1, hb'⟩
      have HBv : Hid (Below W4.heap.size W4 W4.drew) := Lib.hid (Below.refl _ _).drew
      clear hb3 hok hb4 hk4 hb24 hW4 HC hs4 hfine hfew hT8 hR hRl hPe hDe hats hup hpl
      go_upto_region 6 with fail
      rw [← HW4.out]
      clear HW4
      refine wp_region_held_drew (S := fun w' => (w'.cell? ⟨w3.heap.size, 0, none⟩ = some (.slice A' T.length c') ∧ w'.cell? ⟨w3.heap.size, 1, none⟩ = some (.int .i64 (T.length : Int)) ∧ Below W4.heap.size W4 w')) (by kernel_rfl) (HSS.out _ HBv.out) (fun hHeld => ?_)
      refine wpAnyH_take (i := 0) (oi := ⟨some 15, _, _, _, _, _⟩) (v := ?_) rfl (by kernel_rfl) (by kernel_rfl) (by kernel_rfl) (fun _ _ _ h => h) (Or.inl ⟨by kernel_rfl, ?_⟩) (by assumption) ?_
      rotate_left 1
      focus (intro w' hSw; (try dsimp only at hSw); go_simp; (try with_reducible rfl))
      try simp only [Act.put, List.setIfInBounds_toArray, List.set_cons_zero, List.set_cons_succ]
      refine wpAnyH_take (i := 1) (oi := ⟨some 16, _, _, _, _, _⟩) (v := ?_) rfl (by kernel_rfl) (by kernel_rfl) (by kernel_rfl) (fun _ _ _ h => h) (Or.inl ⟨by kernel_rfl, ?_⟩) (by assumption) ?_
      rotate_left 1
      focus (intro w' hSw; (try dsimp only at hSw); go_simp; (try with_reducible rfl))
      try simp only [Act.put, List.setIfInBounds_toArray, List.set_cons_zero, List.set_cons_succ]
      refine wpAnyH_take (i := 2) (oi := ⟨some 17, _, _, _, _, _⟩) (v := ?_) rfl (by kernel_rfl) (by kernel_rfl) (by kernel_rfl) (fun _ _ _ h => h) (Or.inl ⟨by kernel_rfl, ?_⟩) (by assumption) ?_
      rotate_left 1
      focus (intro w' hSw; (try dsimp only at hSw); go_simp; (try with_reducible rfl))
      try simp only [Act.put, List.setIfInBounds_toArray, List.set_cons_zero, List.set_cons_succ]
      refine wpAnyH_take (i := 3) (oi := ⟨some 18, _, _, _, _, _⟩) (v := ?_) rfl (by kernel_rfl) (by kernel_rfl) (by kernel_rfl) (fun _ _ _ h => h) (Or.inl ⟨by kernel_rfl, ?_⟩) (by assumption) ?_
      rotate_left 1
      focus (intro w' hSw; (try dsimp only at hSw); go_simp; (try with_reducible rfl))
      try simp only [Act.put, List.setIfInBounds_toArray, List.set_cons_zero, List.set_cons_succ]
      refine wpAnyH_take (i := 5) (oi := ⟨some 20, _, _, _, _, _⟩) (v := ?_) rfl (by kernel_rfl) (by kernel_rfl) (by kernel_rfl) (fun _ _ _ h => h) (Or.inl ⟨by kernel_rfl, ?_⟩) (by assumption) ?_
      rotate_left 1
      focus (intro w' hSw; (try dsimp only at hSw); go_simp; (try with_reducible rfl))
      try simp only [Act.put, List.setIfInBounds_toArray, List.set_cons_zero, List.set_cons_succ]
      refine wpAnyH_ready (rs := [4]) (by kernel_rfl) (by simp) ?_
      refine AllReadyH.cons rfl (fun K hK => ?_) AllReadyH.nil
      go_simp
      go_at_call 16
      refine (J1.out _ HBv.out).mono ?_
      rintro en v1 ⟨⟨Ap, cp, rfl, hp1⟩, hv1⟩
      clear hHeld
      refine hK.out _ _ (HSS.out _ hv1) (fun hHeld => ?_)
      clear hK
      refine wpAnyH_ready (rs := [6]) (by kernel_rfl) (by simp) ?_
      refine AllReadyH.cons rfl (fun K hK => ?_) AllReadyH.nil
      go_simp
      go_at_call 18
      refine (J2.out _ hv1).mono ?_
      rintro en v2 ⟨⟨Aa, ca, qs, rfl, ht2⟩, hv12, hv2⟩
      clear hHeld
      refine hK.out _ _ (HSS.out _ hv2) (fun hHeld => ?_)
      clear hK
      refine wpAnyH_ready (rs := [7]) (by kernel_rfl) (by simp) ?_
      refine AllReadyH.cons rfl (fun K hK => ?_) AllReadyH.nil
      go_simp
      go_at_call 17
      refine (J3.out _ Aa ca qs hv2 ht2).mono ?_
      rintro en v3 ⟨⟨Ad, cd, rd, rfl, ht3⟩, hv23, hv3⟩
      clear hHeld
      refine hK.out _ _ (HSS.out _ hv3) (fun hHeld => ?_)
      clear hK
      refine wpAnyH_ready (rs := [8]) (by kernel_rfl) (by simp) ?_
      refine AllReadyH.cons rfl (fun K hK => ?_) AllReadyH.nil
      go_simp
      go_at_call 15
      refine (J4.out _ Ap cp Ad cd rd hv3 ((((hp1.keep hv12).more hv12.size).keep hv23).more hv23.size) ht3).mono ?_
      rintro en v4 ⟨rfl, hv4⟩
      clear hHeld
      refine hK.out _ _ (HSS.out _ hv4) (fun hHeld => ?_)
      clear hK
      refine wpAnyH_take (i := 9) (oi := ⟨some 24, _, _, _, _, _⟩) (v := ?_) rfl (by kernel_rfl) (by kernel_rfl) (by kernel_rfl) (fun _ _ _ h => h) (Or.inl ⟨by kernel_rfl, ?_⟩) (by assumption) ?_
      rotate_left 1
      focus (intro w' hSw; (try dsimp only at hSw); go_simp; (try with_reducible rfl))
      try simp only [Act.put, List.setIfInBounds_toArray, List.set_cons_zero, List.set_cons_succ]
      refine wpAnyH_take (i := 10) (oi := ⟨some 2, _, _, _, _, _⟩) (v := ?_) rfl (by kernel_rfl) (by kernel_rfl) (by kernel_rfl) (fun _ _ _ h => h) (Or.inl ⟨by kernel_rfl, ?_⟩) (by assumption) ?_
      rotate_left 1
      focus (intro w' hSw; (try dsimp only at hSw); go_simp; (try with_reducible rfl))
      try simp only [Act.put, List.setIfInBounds_toArray, List.set_cons_zero, List.set_cons_succ]
      refine wpAnyH_done (by kernel_rfl) ?_ _
      have HF := Lib.hid (HB4.out.trans (hv4.mono HB4.out.size))
      clear hHeld
      go_wp2_with fail
      go_ret
      exact ⟨rfl, HF.out⟩
    · rw [HMay.out] at hno
      cases hno
end Go.Proofs.YtdljogdegcmmiaaGreatDoor.mrg
