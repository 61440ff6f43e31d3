/- What the reference's List answers: a directory's names, and all that is seen in it. Conditions: the trees lie in memory, and may be. Where the paths of names lead, with links or without them; how long they are. Conditions: the trees may be. (Plain words, and what ID answers.) -/
import Derived.Test.YtkbhcncbpiimdaaGreatDoorJU9
import Derived.Test.YtkbhcncbpiimdaaGreatDoorJM3
namespace Go.Proofs.YtkbhcncbpiimdaaGreatDoor.uni
set_option maxRecDepth 100000
open Go.RowKit Go.Proofs.YtkbhcncbpiimdaaGreatDoor.words Go.Proofs.YtkbhcncbpiimdaaGreatDoor.ext Go.Proofs.YtkbhcncbpiimdaaGreatDoor.name Go.Proofs.YtkbhcncbpiimdaaGreatDoor.tre Go.Proofs.YtkbhcncbpiimdaaGreatDoor.stk Go.Proofs.YtkbhcncbpiimdaaGreatDoor.seen Go.Proofs.YtkbhcncbpiimdaaGreatDoor.wlk

theorem leads_errL {R : List Nd} {f : Bool} {ns ps : List ByteArray} {h : Nat} {o : AtO} (H : Leads R f ns ps h o) : ∀ j, o = .err j → j ≠ 0 := by
  induction H with
  | done => intro j h; cases h
  | up _ ih => exact ih
  | none => intro j h; injection h with h; omega
  | dir _ _ _ _ _ _ ih => exact ih
  | loop => intro j h; injection h with h; omega
  | hop _ _ _ _ _ _ _ _ ih => exact ih
  | not => intro j h; injection h with h; omega
  | leaf => intro j h; cases h
theorem goes_errL {R : List Nd} {f : Bool} {s : ByteArray} {j : Int} (h : Goes R f s (.err j)) : j ≠ 0 := by
  rcases h with ⟨_, h⟩ | ⟨_, _, h⟩
  · injection h with h; omega
  · exact leads_errL h j rfl
def RlOut (O : AtO) (w : World) (e : Ending) (w' : World) : Prop :=
  ((lsE O ≠ 0 ∧ e = .returned (.tuple #[.slice none 0 0, .slice none 0 0, .int .i64 (lsE O)])) ∨
   (∃ (ns : List ByteArray) (E : List Nd) (N : List ByteArray) (E2 : List (ByteArray × Int)) (A1 : Option Addr) (c1 : Nat) (A2 : Option Addr) (c2 : Nat), O = .ok ns E ∧ lsE O = 0 ∧ heap.Ris N ∧ (∀ s, s ∈ N ↔ s ∈ mrg.namesOf E) ∧ mrg.LstK E N E2 ∧
      e = .returned (.tuple #[.slice A1 ns.length c1, .slice A2 E2.length c2, .int .i64 0]) ∧ heap.Row w' w'.heap.size A1 ns ∧ Lies w' A2 (E2.flatMap mrg.enC))) ∧ Below w.heap.size w w'
set_option maxHeartbeats 12800000 in
theorem rlist_any {R : List Nd} (hg : ∀ t ∈ R, allB t = true) (hR : R.length ≤ 64) (A : Option Addr) (c : Nat) (rs : Nat → Raw) (p : ByteArray) (w : World) (hT : Trees w w.heap.size A R rs) (hp : p.size ≤ 1000000) {O : AtO} (hO : Goes R true p O)
    (hcn : lsE O = 0 → ∀ ns E, O = .ok ns E → ∀ d ∈ E, d.N.length ≤ 4096) :
    Calls Tryz.prog 13 #[.slice A R.length c, .string p] w (RlOut O w) := by
  have HWk : Hid (Calls Tryz.prog 43 #[.slice A R.length c, .string p, .bool true] w fun e w'' => (∃ (B1 : Option Addr) (m1 e1 : Nat) (B2 : Option Addr) (m2 e2 : Nat) (kz : Int), e = .returned (.agg #[.slice B1 m1 e1, .slice B2 m2 e2, .int .i64 kz]) ∧ AtIn O (.agg #[.slice B1 m1 e1, .slice B2 m2 e2, .int .i64 kz]) w'') ∧ Below w.heap.size w w'') := Lib.hid (
    (refwalk_any hg hR A c rs p true O w hT hp hO).mono fun e w'' ⟨⟨v, he, hv⟩, hw⟩ => by
      obtain ⟨B1, m1, e1, B2, m2, e2, kz, rfl⟩ := hv.shape
      exact ⟨⟨B1, m1, e1, B2, m2, e2, kz, he, hv⟩, hw⟩)
  have HJ : Hid (∀ j, O = .err j → j ≠ 0) := Lib.hid fun j h => goes_errL (by rw [h] at hO; exact hO)
  have HAl : Hid (∀ ns E, O = .ok ns E → Along (D0 R) ns E) := Lib.hid fun ns E h => (goes_ok hg (by rw [h] at hO; exact hO)).1
  have HGg := Lib.hid (And.intro hg hR)
  have HCn := Lib.hid hcn
  clear hg hR hT hp hO hcn
  go_enter Tryz.func13, Tryz.ntmps13
  go_wp2_with fail
  refine HWk.out.mono ?_
  rintro ex w2 ⟨⟨B1, m1, e1, B2, m2, e2, kz, rfl, hat⟩, hb2⟩
  obtain ⟨W3, hW3⟩ : ∃ W3, W3 = w2.alloc (.cells #[.slice B1 m1 e1, .slice B2 m2 e2, .int .i64 kz] 106) := ⟨_, rfl⟩
  have hx3 : W3.heap[w2.heap.size]? = some (.cells #[.slice B1 m1 e1, .slice B2 m2 e2, .int .i64 kz] 106 (0, 0)) := by rw [hW3]; exact heap_alloc_new w2 _
  have hb23 : Below w2.heap.size w2 W3 := by rw [hW3]; exact (Below.refl _ _).alloc (Nat.le_refl _) _
  have HB3 := Lib.hid (hb2.trans (hb23.mono hb2.size))
  have HAt := Lib.hid (hat.later hb23)
  have HX3 := Lib.hid hx3
  have a1 := cell_of_blk hx3 1
  have a2 := cell_of_blk hx3 2
  have HW3 := Lib.hid hW3.symm
  have HSS : Hid (∀ w' : World, Below W3.heap.size W3 w' → (w'.cell? ⟨w2.heap.size, 0, none⟩ = some (.slice B1 m1 e1) ∧ w'.cell? ⟨w2.heap.size, 1, none⟩ = some (.slice B2 m2 e2) ∧ w'.cell? ⟨w2.heap.size, 2, none⟩ = some (.int .i64 kz) ∧ Below W3.heap.size W3 w')) := Lib.hid fun w' hb => by
    have e2 := (hb.block _ (lt_of_some HX3.out)).trans HX3.out
    exact ⟨cell_of_blk e2 0, cell_of_blk e2 1, cell_of_blk e2 2, hb⟩
  have HBv : Hid (Below W3.heap.size W3 W3.drew) := Lib.hid (Below.refl _ _).drew
  clear hW3 hx3 hb23 hb2 hat HWk
  go_upto_region 2 with fail
  rw [HW3.out]
  clear HW3
  rcases hOe : O with j | ⟨ns, E⟩
  · subst hOe
    have hj : j ≠ 0 := HJ.out j rfl
    obtain rfl : kz = j := by
      have h1 : (.agg #[.slice B1 m1 e1, .slice B2 m2 e2, .int .i64 kz] : Value) = .agg #[.slice none 0 0, .slice none 0 0, .int .i64 j] := HAt.out
      injection h1 with h1
      have h2 := congrArg (fun x : Array Value => x[2]?) h1
      simpa using h2
    have gj : (kz != 0) = true := by rw [bne_iff_ne]; exact hj
    have HJz := Lib.hid hj
    clear hj
    go_upto_region 3 with fail
    refine wp_region_held_drew (S := fun w' => (w'.cell? ⟨w2.heap.size, 0, none⟩ = some (.slice B1 m1 e1) ∧ w'.cell? ⟨w2.heap.size, 1, none⟩ = some (.slice B2 m2 e2) ∧ w'.cell? ⟨w2.heap.size, 2, none⟩ = some (.int .i64 kz) ∧ Below W3.heap.size W3 w')) (by kernel_rfl) (HSS.out _ HBv.out) (fun hHeld => ?_)
    refine wpAnyH_take (i := 0) (oi := ⟨some 14, _, _, _, _, _⟩) (v := ?_) rfl (by kernel_rfl) (by kernel_rfl) (by kernel_rfl) (fun _ _ _ h => h) (Or.inl ⟨by kernel_rfl, ?_⟩) (by assumption) ?_
    rotate_left 1
    focus (intro w' hSw; (try dsimp only at hSw); go_simp; (try with_reducible rfl))
    try simp only [Act.put, List.setIfInBounds_toArray, List.set_cons_zero, List.set_cons_succ]
    refine wpAnyH_take (i := 1) (oi := ⟨some 15, _, _, _, _, _⟩) (v := ?_) rfl (by kernel_rfl) (by kernel_rfl) (by kernel_rfl) (fun _ _ _ h => h) (Or.inl ⟨by kernel_rfl, ?_⟩) (by assumption) ?_
    rotate_left 1
    focus (intro w' hSw; (try dsimp only at hSw); go_simp; (try with_reducible rfl))
    try simp only [Act.put, List.setIfInBounds_toArray, List.set_cons_zero, List.set_cons_succ]
    refine wpAnyH_take (i := 2) (oi := ⟨some 4, _, _, _, _, _⟩) (v := ?_) rfl (by kernel_rfl) (by kernel_rfl) (by kernel_rfl) (fun _ _ _ h => h) (Or.inl ⟨by kernel_rfl, ?_⟩) (by assumption) ?_
    rotate_left 1
    focus (intro w' hSw; (try dsimp only at hSw); go_simp; (try with_reducible rfl))
    try simp only [Act.put, List.setIfInBounds_toArray, List.set_cons_zero, List.set_cons_succ]
    refine wpAnyH_take (i := 3) (oi := ⟨some 5, _, _, _, _, _⟩) (v := ?_) rfl (by kernel_rfl) (by kernel_rfl) (by kernel_rfl) (fun _ _ _ h => h) (Or.inl ⟨by kernel_rfl, ?_⟩) (by assumption) ?_
    rotate_left 1
    focus (intro w' hSw; (try dsimp only at hSw); go_simp; (try with_reducible rfl))
    try simp only [Act.put, List.setIfInBounds_toArray, List.set_cons_zero, List.set_cons_succ]
    refine wpAnyH_take (i := 4) (oi := ⟨some 6, _, _, _, _, _⟩) (v := ?_) rfl (by kernel_rfl) (by kernel_rfl) (by kernel_rfl) (fun _ _ _ h => h) (Or.inl ⟨by kernel_rfl, ?_⟩) (by assumption) ?_
    rotate_left 1
    focus (intro w' hSw; (try dsimp only at hSw); go_simp; (try with_reducible rfl))
    try simp only [Act.put, List.setIfInBounds_toArray, List.set_cons_zero, List.set_cons_succ]
    refine wpAnyH_done (by kernel_rfl) ?_ _
    have HF := Lib.hid (HB3.out.trans (HBv.out.mono HB3.out.size))
    clear hHeld HSS a1 a2
    go_wp2_with fail
    exact bodyPost_ret (v := .tuple #[.slice none 0 0, .slice none 0 0, .int .i64 kz]) (by simp [results, Tryz.results13, go_sem]) rfl ⟨.inl ⟨HJz.out, rfl⟩, HF.out⟩
  subst hOe
  have hAt := HAt.out
  obtain ⟨A1, c1, A2, c2, qs, hv, hrow, _, _, htr, _⟩ := hAt
  injection hv with hv
  have h0 := congrArg (fun x : Array Value => x[0]?) hv
  have h1 := congrArg (fun x : Array Value => x[1]?) hv
  have h2 := congrArg (fun x : Array Value => x[2]?) hv
  simp at h0 h1 h2
  obtain ⟨rfl, rfl, rfl⟩ := h0
  obtain ⟨rfl, rfl, rfl⟩ := h1
  subst h2
  have HRow := Lib.hid hrow
  have HTr := Lib.hid htr
  clear hv hrow htr HAt HJ
  rcases E with _ | ⟨d, E⟩
  · have HEr : Hid (lsE (.ok ns []) = 0) := Lib.hid rfl
    have hal := HAl.out ns [] rfl
    have hgd := hal.good (wlk.Good.root HGg.out.1)
    have hcd := HCn.out HEr.out ns [] rfl
    have hel : ([] : List Nd).length ≤ 64 := by
      have h1 := hal.len
      have h2 : (D0 R).length ≤ R.length := by unfold D0; rw [List.length_take]; exact Nat.min_le_right _ _
      have h3 := HGg.out.2
      omega
    have HLi : Hid (∀ w' : World, Below W3.heap.size W3 w' → Calls Tryz.prog 44 #[.slice B2 ([] : List Nd).length e2] w' (mrg.RefOut [] w')) := Lib.hid fun w' hb => mrg.reflist_any B2 e2 [] qs w' (HTr.out.later hb) hel hgd.asc hcd
    clear hal hgd hcd hel
    go_upto_region 6 with fail
    refine wp_region_held_drew (S := fun w' => (w'.cell? ⟨w2.heap.size, 0, none⟩ = some (.slice B1 ns.length e1) ∧ w'.cell? ⟨w2.heap.size, 1, none⟩ = some (.slice B2 ([] : List Nd).length e2) ∧ w'.cell? ⟨w2.heap.size, 2, none⟩ = some (.int .i64 0) ∧ Below W3.heap.size W3 w')) (by kernel_rfl) (HSS.out _ HBv.out) (fun hHeld => ?_)
    refine wpAnyH_take (i := 0) (oi := ⟨some 28, _, _, _, _, _⟩) (v := ?_) rfl (by kernel_rfl) (by kernel_rfl) (by kernel_rfl) (fun _ _ _ h => h) (Or.inl ⟨by kernel_rfl, ?_⟩) (by assumption) ?_
    rotate_left 1
    focus (intro w' hSw; (try dsimp only at hSw); go_simp; (try with_reducible rfl))
    try simp only [Act.put, List.setIfInBounds_toArray, List.set_cons_zero, List.set_cons_succ]
    refine wpAnyH_take (i := 1) (oi := ⟨some 29, _, _, _, _, _⟩) (v := ?_) rfl (by kernel_rfl) (by kernel_rfl) (by kernel_rfl) (fun _ _ _ h => h) (Or.inl ⟨by kernel_rfl, ?_⟩) (by assumption) ?_
    rotate_left 1
    focus (intro w' hSw; (try dsimp only at hSw); go_simp; (try with_reducible rfl))
    try simp only [Act.put, List.setIfInBounds_toArray, List.set_cons_zero, List.set_cons_succ]
    refine wpAnyH_take (i := 2) (oi := ⟨some 30, _, _, _, _, _⟩) (v := ?_) rfl (by kernel_rfl) (by kernel_rfl) (by kernel_rfl) (fun _ _ _ h => h) (Or.inl ⟨by kernel_rfl, ?_⟩) (by assumption) ?_
    rotate_left 1
    focus (intro w' hSw; (try dsimp only at hSw); go_simp; (try with_reducible rfl))
    try simp only [Act.put, List.setIfInBounds_toArray, List.set_cons_zero, List.set_cons_succ]
    refine wpAnyH_take (i := 3) (oi := ⟨some 31, _, _, _, _, _⟩) (v := ?_) rfl (by kernel_rfl) (by kernel_rfl) (by kernel_rfl) (fun _ _ _ h => h) (Or.inl ⟨by kernel_rfl, ?_⟩) (by assumption) ?_
    rotate_left 1
    focus (intro w' hSw; (try dsimp only at hSw); go_simp; (try with_reducible rfl))
    try simp only [Act.put, List.setIfInBounds_toArray, List.set_cons_zero, List.set_cons_succ]
    refine wpAnyH_ready (rs := [4]) (by kernel_rfl) (by simp) ?_
    refine AllReadyH.cons rfl (fun K hK => ?_) AllReadyH.nil
    go_simp
    go_at_call 44
    refine (HLi.out _ HBv.out).mono ?_
    rintro en v1 ⟨⟨N, E2, A2, c2, hris, hmem, hlk, hle, rfl, hlies⟩, hv1⟩
    have hq1 := HBv.out.trans (hv1.mono HBv.out.size)
    clear hHeld
    refine hK.out _ _ (HSS.out _ hq1) (fun hHeld => ?_)
    clear hK
    refine wpAnyH_take (i := 5) (oi := ⟨some 4, _, _, _, _, _⟩) (v := ?_) rfl (by kernel_rfl) (by kernel_rfl) (by kernel_rfl) (fun _ _ _ h => h) (Or.inl ⟨by kernel_rfl, ?_⟩) (by assumption) ?_
    rotate_left 1
    focus (intro w' hSw; (try dsimp only at hSw); go_simp; (try with_reducible rfl))
    try simp only [Act.put, List.setIfInBounds_toArray, List.set_cons_zero, List.set_cons_succ]
    refine wpAnyH_take (i := 6) (oi := ⟨some 5, _, _, _, _, _⟩) (v := ?_) rfl (by kernel_rfl) (by kernel_rfl) (by kernel_rfl) (fun _ _ _ h => h) (Or.inl ⟨by kernel_rfl, ?_⟩) (by assumption) ?_
    rotate_left 1
    focus (intro w' hSw; (try dsimp only at hSw); go_simp; (try with_reducible rfl))
    try simp only [Act.put, List.setIfInBounds_toArray, List.set_cons_zero, List.set_cons_succ]
    refine wpAnyH_take (i := 7) (oi := ⟨some 6, _, _, _, _, _⟩) (v := ?_) rfl (by kernel_rfl) (by kernel_rfl) (by kernel_rfl) (fun _ _ _ h => h) (Or.inl ⟨by kernel_rfl, ?_⟩) (by assumption) ?_
    rotate_left 1
    focus (intro w' hSw; (try dsimp only at hSw); go_simp; (try with_reducible rfl))
    try simp only [Act.put, List.setIfInBounds_toArray, List.set_cons_zero, List.set_cons_succ]
    refine wpAnyH_done (by kernel_rfl) ?_ _
    have HF := Lib.hid (HB3.out.trans (hq1.mono HB3.out.size))
    have HX := Lib.hid (And.intro hris (And.intro hmem (And.intro hlk (And.intro ((HRow.out.keep hq1).more hq1.size) hlies))))
    clear hHeld hv1 hq1 hris hmem hlk hlies hle HLi HSS HBv a1 a2
    go_wp2_with fail
    obtain ⟨a1, a2, a3, a4, a5⟩ := HX.out
    exact bodyPost_ret (v := .tuple #[.slice B1 ns.length e1, .slice A2 E2.length c2, .int .i64 0]) (by simp [results, Tryz.results13, go_sem]) rfl ⟨.inr ⟨ns, [], N, E2, _, _, _, _, rfl, HEr.out, a1, a2, a3, rfl, a4, a5⟩, HF.out⟩
  obtain ⟨⟨bn, on, hA2, hbn, hcn⟩, _⟩ := HTr.out 0 d rfl
  subst hA2
  have kd : W3.cell? ⟨bn, on, none⟩ = some (.int .i64 d.K) := by
    have h1 := hcn 0 _ rfl
    rw [Nat.zero_mul, Nat.add_zero] at h1
    exact h1
  have l0 : (0 : Int) < ((E.length + 1 : Nat) : Int) := by omega
  have l0' : (0 : Int) < (E.length : Int) + 1 := by omega
  clear hbn hcn
  by_cases hd : d.K = 2
  · rw [hd] at kd
    have HEr : Hid (lsE (.ok ns (d :: E)) = 0) := Lib.hid (if_pos hd)
    have hal := HAl.out ns (d :: E) rfl
    have hgd := hal.good (wlk.Good.root HGg.out.1)
    have hcd := HCn.out HEr.out ns (d :: E) rfl
    have hel : ((d :: E) : List Nd).length ≤ 64 := by
      have h1 := hal.len
      have h2 : (D0 R).length ≤ R.length := by unfold D0; rw [List.length_take]; exact Nat.min_le_right _ _
      have h3 := HGg.out.2
      omega
    have HLi : Hid (∀ w' : World, Below W3.heap.size W3 w' → Calls Tryz.prog 44 #[(.slice (some ⟨bn, on, none⟩) ((d :: E) : List Nd).length e2)] w' (mrg.RefOut (d :: E) w')) := Lib.hid fun w' hb => mrg.reflist_any (some ⟨bn, on, none⟩) e2 (d :: E) qs w' (HTr.out.later hb) hel hgd.asc hcd
    clear hal hgd hcd hel
    clear hd
    go_upto_region 6 with fail
    refine wp_region_held_drew (S := fun w' => (w'.cell? ⟨w2.heap.size, 0, none⟩ = some (.slice B1 ns.length e1) ∧ w'.cell? ⟨w2.heap.size, 1, none⟩ = some (.slice (some ⟨bn, on, none⟩) (d :: E).length e2) ∧ w'.cell? ⟨w2.heap.size, 2, none⟩ = some (.int .i64 0) ∧ Below W3.heap.size W3 w')) (by kernel_rfl) (HSS.out _ HBv.out) (fun hHeld => ?_)
    refine wpAnyH_take (i := 0) (oi := ⟨some 28, _, _, _, _, _⟩) (v := ?_) rfl (by kernel_rfl) (by kernel_rfl) (by kernel_rfl) (fun _ _ _ h => h) (Or.inl ⟨by kernel_rfl, ?_⟩) (by assumption) ?_
    rotate_left 1
    focus (intro w' hSw; (try dsimp only at hSw); go_simp; (try with_reducible rfl))
    try simp only [Act.put, List.setIfInBounds_toArray, List.set_cons_zero, List.set_cons_succ]
    refine wpAnyH_take (i := 1) (oi := ⟨some 29, _, _, _, _, _⟩) (v := ?_) rfl (by kernel_rfl) (by kernel_rfl) (by kernel_rfl) (fun _ _ _ h => h) (Or.inl ⟨by kernel_rfl, ?_⟩) (by assumption) ?_
    rotate_left 1
    focus (intro w' hSw; (try dsimp only at hSw); go_simp; (try with_reducible rfl))
    try simp only [Act.put, List.setIfInBounds_toArray, List.set_cons_zero, List.set_cons_succ]
    refine wpAnyH_take (i := 2) (oi := ⟨some 30, _, _, _, _, _⟩) (v := ?_) rfl (by kernel_rfl) (by kernel_rfl) (by kernel_rfl) (fun _ _ _ h => h) (Or.inl ⟨by kernel_rfl, ?_⟩) (by assumption) ?_
    rotate_left 1
    focus (intro w' hSw; (try dsimp only at hSw); go_simp; (try with_reducible rfl))
    try simp only [Act.put, List.setIfInBounds_toArray, List.set_cons_zero, List.set_cons_succ]
    refine wpAnyH_take (i := 3) (oi := ⟨some 31, _, _, _, _, _⟩) (v := ?_) rfl (by kernel_rfl) (by kernel_rfl) (by kernel_rfl) (fun _ _ _ h => h) (Or.inl ⟨by kernel_rfl, ?_⟩) (by assumption) ?_
    rotate_left 1
    focus (intro w' hSw; (try dsimp only at hSw); go_simp; (try with_reducible rfl))
    try simp only [Act.put, List.setIfInBounds_toArray, List.set_cons_zero, List.set_cons_succ]
    refine wpAnyH_ready (rs := [4]) (by kernel_rfl) (by simp) ?_
    refine AllReadyH.cons rfl (fun K hK => ?_) AllReadyH.nil
    go_simp
    go_at_call 44
    refine (HLi.out _ HBv.out).mono ?_
    rintro en v1 ⟨⟨N, E2, A2, c2, hris, hmem, hlk, hle, rfl, hlies⟩, hv1⟩
    have hq1 := HBv.out.trans (hv1.mono HBv.out.size)
    clear hHeld
    refine hK.out _ _ (HSS.out _ hq1) (fun hHeld => ?_)
    clear hK
    refine wpAnyH_take (i := 5) (oi := ⟨some 4, _, _, _, _, _⟩) (v := ?_) rfl (by kernel_rfl) (by kernel_rfl) (by kernel_rfl) (fun _ _ _ h => h) (Or.inl ⟨by kernel_rfl, ?_⟩) (by assumption) ?_
    rotate_left 1
    focus (intro w' hSw; (try dsimp only at hSw); go_simp; (try with_reducible rfl))
    try simp only [Act.put, List.setIfInBounds_toArray, List.set_cons_zero, List.set_cons_succ]
    refine wpAnyH_take (i := 6) (oi := ⟨some 5, _, _, _, _, _⟩) (v := ?_) rfl (by kernel_rfl) (by kernel_rfl) (by kernel_rfl) (fun _ _ _ h => h) (Or.inl ⟨by kernel_rfl, ?_⟩) (by assumption) ?_
    rotate_left 1
    focus (intro w' hSw; (try dsimp only at hSw); go_simp; (try with_reducible rfl))
    try simp only [Act.put, List.setIfInBounds_toArray, List.set_cons_zero, List.set_cons_succ]
    refine wpAnyH_take (i := 7) (oi := ⟨some 6, _, _, _, _, _⟩) (v := ?_) rfl (by kernel_rfl) (by kernel_rfl) (by kernel_rfl) (fun _ _ _ h => h) (Or.inl ⟨by kernel_rfl, ?_⟩) (by assumption) ?_
    rotate_left 1
    focus (intro w' hSw; (try dsimp only at hSw); go_simp; (try with_reducible rfl))
    try simp only [Act.put, List.setIfInBounds_toArray, List.set_cons_zero, List.set_cons_succ]
    refine wpAnyH_done (by kernel_rfl) ?_ _
    have HF := Lib.hid (HB3.out.trans (hq1.mono HB3.out.size))
    have HX := Lib.hid (And.intro hris (And.intro hmem (And.intro hlk (And.intro ((HRow.out.keep hq1).more hq1.size) hlies))))
    clear hHeld hv1 hq1 hris hmem hlk hlies hle HLi HSS HBv a1 a2
    go_wp2_with fail
    obtain ⟨a1, a2, a3, a4, a5⟩ := HX.out
    exact bodyPost_ret (v := .tuple #[.slice B1 ns.length e1, .slice A2 E2.length c2, .int .i64 0]) (by simp [results, Tryz.results13, go_sem]) rfl ⟨.inr ⟨ns, (d :: E), N, E2, _, _, _, _, rfl, HEr.out, a1, a2, a3, rfl, a4, a5⟩, HF.out⟩
  · have gk : (d.K != 2) = true := by rw [bne_iff_ne]; exact hd
    have HE3 : Hid (lsE (.ok ns (d :: E)) = 3) := Lib.hid (if_neg hd)
    clear hd
    go_wp2_with fail
    exact bodyPost_ret (v := .tuple #[.slice none 0 0, .slice none 0 0, .int .i64 3]) (by simp [results, Tryz.results13, go_sem]) rfl ⟨.inl ⟨by rw [HE3.out]; decide, by rw [HE3.out]⟩, HB3.out⟩
end Go.Proofs.YtkbhcncbpiimdaaGreatDoor.uni

namespace Go.Proofs.YtkbhcncbpiimdaaGreatDoor.uni
set_option maxRecDepth 100000
open Go.RowKit Go.Proofs.YtkbhcncbpiimdaaGreatDoor.words Go.Proofs.YtkbhcncbpiimdaaGreatDoor.ext Go.Proofs.YtkbhcncbpiimdaaGreatDoor.name Go.Proofs.YtkbhcncbpiimdaaGreatDoor.tre Go.Proofs.YtkbhcncbpiimdaaGreatDoor.stk Go.Proofs.YtkbhcncbpiimdaaGreatDoor.seen Go.Proofs.YtkbhcncbpiimdaaGreatDoor.wlk

theorem leads_true {R : List Nd} {ns ps : List ByteArray} {h : Nat} {o : AtO} (H : Leads R false ns ps h o) : ∀ ns' E, o = .ok ns' E → (∀ d ∈ E, d.K ≠ 3) → Leads R true ns ps h o := by
  induction H with
  | done a => intro _ _ _ _; exact .done a
  | up _ ih => intro ns' E e hd; exact .up (ih ns' E e hd)
  | none _ _ _ _ => intro _ _ e; cases e
  | dir n a e s k _ ih => intro ns' E eo hd; exact .dir n a e s k (ih ns' E eo hd)
  | loop _ _ _ _ _ _ => intro _ _ e; cases e
  | hop n a e s k _ p _ ih => intro ns' E eo hd; exact .hop n a e s k (.inl rfl) p (ih ns' E eo hd)
  | not _ _ _ _ _ _ _ => intro _ _ e; cases e
  | leaf n a e s k _ =>
    intro ns' E eo hd
    injection eo with e1 e2
    subst e2
    exact .leaf n a e s k fun h => hd _ (List.mem_cons_self ..) h.1
theorem nm_64 {p : ByteArray} (h : NmD p) : p.size ≤ 64 := by
  obtain ⟨⟨_, hi, hb, _⟩, hd⟩ := h
  have hr : right p.data.toList = true := by
    rcases hr : right p.data.toList with _ | _
    · exfalso
      unfold bad at hb
      rw [hi, hr] at hb
      rcases h2 : (p.data.toList == [46, 46]) with _ | _
      · rw [h2] at hb; cases hb
      · exact hd (text_eq (by rw [eq_of_beq h2]; rfl))
    · rfl
  unfold right at hr
  simp only [Bool.and_eq_true, decide_eq_true_eq] at hr
  have := name.size_list p
  omega
theorem fold_size : ∀ (ns : List ByteArray) (s0 : ByteArray), (∀ n ∈ ns, NmD n) → (ns.foldl childS s0).size ≤ s0.size + ns.length * 65
  | [], s0, _ => by simp
  | n :: ns, s0, h => by
    have h1 := fold_size ns (childS s0 n) fun m hm => h m (List.mem_cons_of_mem _ hm)
    have h2 := childS_size s0 n
    have h3 := nm_64 (h n (List.mem_cons_self ..))
    rw [List.foldl_cons, List.length_cons, Nat.add_mul]
    omega
theorem way_len {R : List Nd} (hk : ∀ d ∈ R, depth d < 16) {ns : List ByteArray} {E : List Nd} (h : Along (D0 R) ns E) (hne : ns ≠ [] → E ≠ []) : ns.length ≤ 15 := by
  rcases Nat.eq_zero_or_pos ns.length with h0 | h0
  · omega
  · obtain ⟨d, E', rfl⟩ := List.exists_cons_of_ne_nil (hne (fun e => by rw [e] at h0; simp at h0))
    have := h.deep (k := 16) (fun d hd => hk d (List.mem_of_mem_take hd)) d (List.mem_cons_self ..)
    omega
theorem way_size {ns : List ByteArray} (hn : ∀ n ∈ ns, NmD n) (hl : ns.length ≤ 15) : (pathOf ns).size ≤ 1024 := by
  have h1 := fold_size ns ⟨#[47]⟩ hn
  have h2 : (⟨#[47]⟩ : ByteArray).size = 1 := rfl
  have h3 : ns.length * 65 ≤ 15 * 65 := Nat.mul_le_mul_right _ hl
  unfold pathOf
  omega
theorem own_goes {R : List Nd} {f : Bool} {ns : List ByteArray} {E : List Nd} (hL : Leads R f [] ns 40 (.ok ns E)) (hn : ∀ n ∈ ns, NmD n) (hl : ns.length ≤ 15) : Goes R f (pathOf ns) (.ok ns E) := by
  have h1 := way_size hn hl
  have h2 := name.size_list (pathOf ns)
  have h3 := path_of ns.length ns rfl hn
  exact .inr ⟨ns, by rw [h3]; exact parts_path _ (nm_of hn) (by rw [← h3]; omega), hL⟩
end Go.Proofs.YtkbhcncbpiimdaaGreatDoor.uni
