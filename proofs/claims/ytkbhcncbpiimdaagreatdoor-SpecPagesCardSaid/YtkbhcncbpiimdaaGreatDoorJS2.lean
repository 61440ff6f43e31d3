/- What a State's Page answers, and what it turns. Conditions: the State, the entries lie in memory. What a State's page and Do answer, and what they turn. Conditions: the State lies in memory; its branches' trees may be. -/
import Derived.Test.YtkbhcncbpiimdaaGreatDoorJS1
import Derived.Test.YtkbhcncbpiimdaaGreatDoorJM2
import Derived.Test.YtkbhcncbpiimdaaGreatDoorJM3
namespace Go.Proofs.YtkbhcncbpiimdaaGreatDoor.spc
set_option maxRecDepth 100000
open Go.RowKit Go.Proofs.YtkbhcncbpiimdaaGreatDoor.words Go.Proofs.YtkbhcncbpiimdaaGreatDoor.ext Go.Proofs.YtkbhcncbpiimdaaGreatDoor.name Go.Proofs.YtkbhcncbpiimdaaGreatDoor.tre Go.Proofs.YtkbhcncbpiimdaaGreatDoor.stk Go.Proofs.YtkbhcncbpiimdaaGreatDoor.seen Go.Proofs.YtkbhcncbpiimdaaGreatDoor.wlk Go.Proofs.YtkbhcncbpiimdaaGreatDoor.uni

theorem row_above {w w' : World} {A : Option Addr} {N : List ByteArray} {q rb : Nat} (h : heap.Row w w.heap.size A N) (hA : ∀ b o fr, A = some ⟨b, o, fr⟩ → q ≤ b) (hrb : rb < q) (ht : lru.Tn (fun j => j = rb) w w') : heap.Row w' w'.heap.size A N := fun i s hs => by
  obtain ⟨b, off, h1, h2, h3⟩ := h i s hs
  have hb := hA _ _ _ h1
  refine ⟨b, off, h1, Nat.lt_of_lt_of_le h2 ht.size, ?_⟩
  rw [show w'.cell? ⟨b, off + i, none⟩ = w.cell? ⟨b, off + i, none⟩ from World.cell?_of_block (w := w) (ht.block b h2 (fun e => by omega))]
  exact h3
theorem tn_set8g {a b : World} {g : Nat} {S : Nat → Prop} (h : lru.Tn S a b) (hg : S g) (u0 u1 u2 u3 u4 u5 u6 u7 : Value) : lru.Tn S a (set8 b g u0 u1 u2 u3 u4 u5 u6 u7) :=
  (((((((h.setCell (p := ⟨g, 0, none⟩) (.inr hg) u0).setCell (p := ⟨g, 1, none⟩) (.inr hg) u1).setCell (p := ⟨g, 2, none⟩) (.inr hg) u2).setCell (p := ⟨g, 3, none⟩) (.inr hg) u3).setCell (p := ⟨g, 4, none⟩) (.inr hg) u4).setCell (p := ⟨g, 5, none⟩) (.inr hg) u5).setCell (p := ⟨g, 6, none⟩) (.inr hg) u6).setCell (p := ⟨g, 7, none⟩) (.inr hg) u7
def nmsE (E : List (ByteArray × Int)) : List ByteArray := E.map Prod.fst
def DoO (B s t m : Nat) (A : Option Addr) (c : Nat) (L : List (Nat × Int)) (ad ep r n : Int) (C : cur.Cs) (er idr : Int) (nm : List ByteArray) (fin : Bool) (w : World) (e : Ending) (w' : World) : Prop :=
  ∃ A' c', SO B s t m (resP er idr A' nm.length c' fin) A c L ad ep r n C w e w' ∧ heap.Row w' w'.heap.size A' nm ∧ (∀ b o fr, A' = some ⟨b, o, fr⟩ → w.heap.size ≤ b) ∧ (A' = none → nm.length = 0 ∧ c' = 0)
theorem DoO.none {B s t m : Nat} {A : Option Addr} {c : Nat} {L : List (Nat × Int)} {ad ep r n : Int} {C : cur.Cs} {er idr : Int} {w w' : World} {e : Ending} (h : SO B s t m (resP er idr none 0 0 false) A c L ad ep r n C w e w') : DoO B s t m A c L ad ep r n C er idr [] false w e w' :=
  ⟨Option.none, 0, h, fun i s h => by simp at h, fun _ _ _ h => (by cases h), fun _ => ⟨rfl, rfl⟩⟩
set_option maxHeartbeats 6400000 in
theorem pg_any {B s t m : Nat} {A : Option Addr} {c : Nat} {L : List (Nat × Int)} {ad ep r n : Int} {C : cur.Cs} {w : World} (k : Int) (p : ByteArray) (o N id : Int) (img : ByteArray) (Al : Option Addr) (cl : Nat) (El : List (ByteArray × Int)) (cu : cur.Cu) (a x : Nat) (h : Sp B s t m A c L ad ep r n C w) (hx : mpi.Fits id) (hv : cur.valC C id = some cu) (hep : cu.ep = ep) (hN : 1 ≤ N) (hat : cu.at_ = (a : Int)) (hal : a ≤ El.length) (hel : El.length ≤ 1000000) (hcl : El.length ≤ cl) (hz : Al = none → cl = 0)
    (hx2 : (x : Int) = min N ((El.length - a : Nat) : Int)) (hE : Lies w Al (El.flatMap mrg.enC)) (hC : C.length ≤ 2000) :
    Calls Tryz.prog 109 #[.pointer (some ⟨s, 0, none⟩), opV k p o N id img, .slice Al El.length cl] w (DoO B s t m A c L ad ep r n (cur.setC C id ⟨ep, cu.dr, ((a + x : Nat) : Int)⟩) 0 0 (nmsE ((El.drop a).take x)) (x == El.length - a) w) := by
  obtain ⟨g1, W1, hW1, eg1, hxo, hxr, hb1, lg1⟩ := two_boxes w (.cells #[.int .i64 k, .string p, .int .i64 o, .int .i64 N, .int .i64 id, .string img] 47) (.cells #[.int .i64 0, .int .i64 0, .int .i64 0, .int .i64 0, .int .i64 0, .string ⟨#[]⟩, .slice none 0 0, .bool false] 44)
  have hp1 := h.later hb1
  obtain ⟨W2, hW2⟩ : ∃ W2, W2 = W1.setCell ⟨w.heap.size, 0, none⟩ (.int .i64 6) := ⟨_, rfl⟩
  have hb2 : Below w.heap.size w W2 := by rw [hW2]; exact hb1.setCell (p := ⟨w.heap.size, 0, none⟩) (Nat.le_refl _) _
  have hb12 : Below w.heap.size W1 W2 := by rw [hW2]; exact (Below.refl _ _).setCell (p := ⟨w.heap.size, 0, none⟩) (Nat.le_refl _) _
  have hxo2 : W2.heap[w.heap.size]? = some (.cells #[.int .i64 6, .string p, .int .i64 o, .int .i64 N, .int .i64 id, .string img] 47 (0, 0)) := by rw [hW2]; simp [World.setCell, Array.getElem?_modify, hxo]
  have hxr2 : W2.heap[g1]? = some zx8 := by rw [hW2]; simp [World.setCell, Array.getElem?_modify, show ¬ w.heap.size = g1 by omega, hxr]; rfl
  have hp2 := hp1.low h.lt hb12
  have HO := Lib.hid hxo2
  have HR := Lib.hid hxr2
  have HP2 := Lib.hid hp2
  have HB2 := Lib.hid hb2
  have HG1 := Lib.hid (show w.heap.size < g1 by omega)
  have HLt := Lib.hid h.lt
  have HE2 : Hid (∀ w', Below w.heap.size w w' → Lies w' Al (El.flatMap mrg.enC)) := Lib.hid fun w' hb j u hj => by
    obtain ⟨b, off, h1, h2, h3⟩ := hE j u hj
    exact ⟨b, off, h1, Nat.lt_of_lt_of_le h2 hb.size, (hb.cell (p := ⟨b, off + j, none⟩) h2).trans h3⟩
  have hge : cur.gotE C id = 0 := by unfold cur.gotE; rw [hv]; rfl
  have hgc : cur.gotC C id = cu := by unfold cur.gotC; rw [hv]; rfl
  have hse : stE C ep id = 0 := by unfold stE; rw [hge, hgc, if_pos rfl, if_pos hep]
  have hsc : stC C ep id = ⟨ep, cu.dr, (a : Int)⟩ := by
    unfold stC
    rw [hgc, hge, if_pos ⟨hep, rfl⟩]
    rcases cu with ⟨c1, c2, c3⟩
    simp only at hep hat ⊢
    rw [hep, hat]
  have HCk : Hid (∀ w' : World, Calls Tryz.prog 19 #[.agg #[.int .i64 6, .string p, .int .i64 o, .int .i64 N, .int .i64 id, .string img]] w' fun e w'' => e = .returned (.int .i64 0) ∧ Below w'.heap.size w' w'') := Lib.hid fun w' => (chk_any 6 p o N id img w').mono fun e w'' ⟨h1, h2⟩ => ⟨by rw [h1]; unfold chkI badB; rw [if_neg]; simp; omega, h2⟩
  have HSt : Hid (∀ w', Sp B s t m A c L ad ep r n C w' → Calls Tryz.prog 36 #[.pointer (some ⟨s, 0, none⟩), .int .i64 id] w' fun e w'' => e = .returned (.tuple #[.agg #[.int .i64 ep, .string cu.dr, .int .i64 (a : Int)], .int .i64 0]) ∧ Below w'.heap.size w' w'') := Lib.hid fun w' h' => by
    have h1 := stale_any id h' hx
    rw [hse, hsc] at h1
    exact h1
  have HPg : Hid (∀ w', Below w.heap.size w w' → Calls Tryz.prog 143 #[.slice Al El.length cl, .int .i64 (a : Int), .int .i64 N] w' (mrg.PageOut El a x w')) := Lib.hid fun w' hb =>
    mrg.page_any Al cl El (a : Int) N a x w' (HE2.out w' hb) hz hel hcl (by omega) (by omega)
  have hwr : IntKind.i64.wrap (cu.at_ + (x : Int)) = ((a + x : Nat) : Int) := by
    rw [hat, IntWalk.i64_in _ (by omega)]
    omega
  have HMv : Hid (∀ w', Sp B s t m A c L ad ep r n C w' → Calls Tryz.prog 144 #[.pointer (some ⟨t, 0, none⟩), .int .i64 id, .int .i64 (x : Int)] w' (cur.KeptIn w' B t m r n (cur.setC C id ⟨ep, cu.dr, ((a + x : Nat) : Int)⟩))) := Lib.hid fun w' h' => by
    have h1 := cur.move_yes B t m r n C id w' (x : Int) _ cu h'.tb hx hv hwr hC
    rw [hep] at h1
    exact h1
  obtain ⟨Ep, hEp⟩ : ∃ Ep, Ep = (El.drop a).take x := ⟨_, rfl⟩
  have hEpl : Ep.length = x := by rw [hEp, List.length_take, List.length_drop]; omega
  have HNm : Hid (∀ (w' : World) (A' : Option Addr) (c' : Nat), Lies w' A' (Ep.flatMap mrg.enC) → Calls Tryz.prog 145 #[.slice A' x c'] w' fun e w'' => (∃ A2 c2, e = .returned (.slice A2 x c2) ∧ heap.Row w'' w''.heap.size A2 (nmsE Ep) ∧ (∀ b o fr, A2 = some ⟨b, o, fr⟩ → w'.heap.size ≤ b) ∧ (A2 = none → x = 0 ∧ c2 = 0)) ∧ Below w'.heap.size w' w'') := Lib.hid fun w' A' c' hL => by
    have h1 := mrg.names_any A' c' Ep w' hL (by omega)
    rw [hEpl] at h1
    refine h1.mono fun e w'' ⟨⟨A2, c2, h2, h3⟩, h4⟩ => ⟨⟨A2, c2, h2, ?_, own_high h3, by obtain ⟨A0, c0, e0, _, h0⟩ := tre.own_facts h3; injection e0 with e1 _ e2; subst e1 e2; exact h0⟩, h4⟩
    have h5 : w''.ownsRow w'.heap.size 9 1 (.slice A2 (nmsE Ep).length c2) (nmsE Ep).length ((nmsE Ep).map Value.string) := by
      unfold nmsE
      rw [List.length_map, hEpl, List.map_map]
      exact h3
    exact mrg.row_own h5
  have HEl := Lib.hid hEpl
  rw [← hEp]
  have HZ := Lib.hid hEp
  have HW1 := Lib.hid hW1
  have HEG := Lib.hid eg1
  have HW2 := Lib.hid hW2
  have x4 := cell_of_blk hxo 0
  have x5 := free_of_blk hxo 0
  clear hW1 eg1 hxr hb1 lg1 hp1 hW2 hb2 hb12 hxo2 hxr2 hp2 hge hgc hse hsc hwr hEp hEpl h hx hv hep hN hat hal hel hcl hz hx2 hE hC hxo
  obtain ⟨q, hq⟩ : ∃ q, q = (x == El.length - a) := ⟨_, rfl⟩
  rw [← hq]
  have HQ := Lib.hid hq
  clear hq
  unfold opV
  go_enter Tryz.func109, Tryz.ntmps109
  go_upto_region 1 with fail
  rw [HW1.out]
  simp only [HEG.out]
  clear HW1 HEG
  go_upto_region 2 with fail
  rw [← HW2.out]
  clear HW2 x4 x5
  have c0 := cell_of_blk HO.out 0
  have c1 := cell_of_blk HO.out 1
  have c2 := cell_of_blk HO.out 2
  have c3 := cell_of_blk HO.out 3
  have c4 := cell_of_blk HO.out 4
  have c5 := cell_of_blk HO.out 5
  go_wp2_with fail
  refine (HCk.out W2).mono ?_
  rintro e w3 ⟨rfl, hb3⟩
  have HB3 := Lib.hid hb3
  have HS3 := Lib.hid (HSt.out w3 (HP2.out.later hb3))
  have eo := (hb3.block _ (lt_of_some HO.out)).trans HO.out
  clear c0 c1 c2 c3 c4 c5 hb3 HCk HSt
  have c4 := cell_of_blk eo 4
  clear eo
  go_wp2_with fail
  refine HS3.out.mono ?_
  rintro e w4 ⟨rfl, hb4⟩
  obtain ⟨W5, hW5⟩ : ∃ W5, W5 = w4.alloc (.cells #[.int .i64 ep, .string cu.dr, .int .i64 (a : Int)] 91) := ⟨_, rfl⟩
  have hb5 : Below w4.heap.size w4 W5 := by rw [hW5]; exact (Below.refl _ _).alloc (Nat.le_refl _) _
  have hx5 : W5.heap[w4.heap.size]? = some (.cells #[.int .i64 ep, .string cu.dr, .int .i64 (a : Int)] 91 (0, 0)) := by rw [hW5]; exact heap_alloc_new w4 _
  have HB5 := Lib.hid (HB3.out.trans ((hb4.trans (hb5.mono hb4.size)).mono HB3.out.size))
  have HX5 := Lib.hid hx5
  have eo := (HB5.out.block _ (lt_of_some HO.out)).trans HO.out
  clear c4
  have c3 := cell_of_blk eo 3
  have x2 := cell_of_blk hx5 2
  have HPc := Lib.hid (HPg.out W5 (HB2.out.trans (HB5.out.mono HB2.out.size)))
  have HW5 := Lib.hid hW5
  clear hW5 hb5 hb4 hx5 eo HS3 HPg
  go_upto_region 6 with fail
  rw [← HW5.out]
  clear HW5
  go_wp2_with fail
  refine HPc.out.mono ?_
  rintro e w6 ⟨A', c', rfl, hown, hb6⟩
  rw [← HQ.out]
  have HB6 := Lib.hid (HB5.out.trans (hb6.mono HB5.out.size))
  have hL6 : Lies w6 A' (Ep.flatMap mrg.enC) := by rw [HZ.out]; exact mrg.lies_own hown
  have HL6 := Lib.hid hL6
  have HH6 := Lib.hid (own_high hown)
  have HS6 := Lib.hid (HP2.out.later HB6.out)
  have HSS : Hid (∀ w' : World, ∀ C', Sp B s t m A c L ad ep r n C' w' → lru.Tn (cur.Bk t m) w6 w' → (w'.cell? ⟨s, 3, none⟩ = some (.pointer (some ⟨t, 0, none⟩)) ∧ w'.cell? ⟨w.heap.size, 4, none⟩ = some (.int .i64 id))) := Lib.hid fun w' C' h' ht => by
    have eo := (HB6.out.block _ (lt_of_some HO.out)).trans HO.out
    have eo' := (ht.block w.heap.size (lt_of_some eo) (fun hj => by
      rcases hj with hj | hj
      · have := HLt.out.2.1; omega
      · have := HLt.out.2.2; omega)).trans eo
    exact ⟨cell_of_blk h'.blk 3, cell_of_blk eo' 4⟩
  have HTd : Hid (lru.Tn (cur.Bk t m) w6 w6.drew) := Lib.hid (lru.Tn.refl _ _).drew
  have HSd : Hid (Sp B s t m A c L ad ep r n C w6.drew) := Lib.hid (HS6.out.later (Below.refl _ _).drew)
  have HMd := Lib.hid (HMv.out w6.drew HSd.out)
  clear hown hb6 hL6 HPc c3 x2 HMv
  go_upto_region 9 with fail
  refine wp_region_held_drew (S := fun w' => (w'.cell? ⟨s, 3, none⟩ = some (.pointer (some ⟨t, 0, none⟩)) ∧ w'.cell? ⟨w.heap.size, 4, none⟩ = some (.int .i64 id))) (by kernel_rfl) (HSS.out _ _ HSd.out HTd.out) (fun hHeld => ?_)
  refine wpAnyH_take (i := 0) (oi := ⟨some 38, _, _, _, _, _⟩) (v := ?_) rfl (by kernel_rfl) (by kernel_rfl) (by kernel_rfl) (fun _ _ _ h => h) (Or.inl ⟨by kernel_rfl, ?_⟩) (by assumption) ?_
  rotate_left 1
  focus (intro w' hSw; (try dsimp only at hSw); go_simp; (try with_reducible rfl))
  try simp only [Act.put, List.setIfInBounds_toArray, List.set_cons_zero, List.set_cons_succ]
  refine wpAnyH_take (i := 1) (oi := ⟨some 39, _, _, _, _, _⟩) (v := ?_) rfl (by kernel_rfl) (by kernel_rfl) (by kernel_rfl) (fun _ _ _ h => h) (Or.inl ⟨by kernel_rfl, ?_⟩) (by assumption) ?_
  rotate_left 1
  focus (intro w' hSw; (try dsimp only at hSw); go_simp; (try with_reducible rfl))
  try simp only [Act.put, List.setIfInBounds_toArray, List.set_cons_zero, List.set_cons_succ]
  refine wpAnyH_take (i := 2) (oi := ⟨some 40, _, _, _, _, _⟩) (v := ?_) rfl (by kernel_rfl) (by kernel_rfl) (by kernel_rfl) (fun _ _ _ h => h) (Or.inl ⟨by kernel_rfl, ?_⟩) (by assumption) ?_
  rotate_left 1
  focus (intro w' hSw; (try dsimp only at hSw); go_simp; (try with_reducible rfl))
  try simp only [Act.put, List.setIfInBounds_toArray, List.set_cons_zero, List.set_cons_succ]
  refine wpAnyH_take (i := 3) (oi := ⟨some 41, _, _, _, _, _⟩) (v := ?_) rfl (by kernel_rfl) (by kernel_rfl) (by kernel_rfl) (fun _ _ _ h => h) (Or.inl ⟨by kernel_rfl, ?_⟩) (by assumption) ?_
  rotate_left 1
  focus (intro w' hSw; (try dsimp only at hSw); go_simp; (try with_reducible rfl))
  try simp only [Act.put, List.setIfInBounds_toArray, List.set_cons_zero, List.set_cons_succ]
  refine wpAnyH_take (i := 4) (oi := ⟨some 42, _, _, _, _, _⟩) (v := ?_) rfl (by kernel_rfl) (by kernel_rfl) (by kernel_rfl) (fun _ _ _ h => h) (Or.inl ⟨by kernel_rfl, ?_⟩) (by assumption) ?_
  rotate_left 1
  focus (intro w' hSw; (try dsimp only at hSw); go_simp; (try with_reducible rfl))
  try simp only [Act.put, List.setIfInBounds_toArray, List.set_cons_zero, List.set_cons_succ]
  refine wpAnyH_take (i := 5) (oi := ⟨some 43, _, _, _, _, _⟩) (v := ?_) rfl (by kernel_rfl) (by kernel_rfl) (by kernel_rfl) (fun _ _ _ h => h) (Or.inl ⟨by kernel_rfl, ?_⟩) (by assumption) ?_
  rotate_left 1
  focus (intro w' hSw; (try dsimp only at hSw); go_simp; (try with_reducible rfl))
  try simp only [Act.put, List.setIfInBounds_toArray, List.set_cons_zero, List.set_cons_succ]
  refine wpAnyH_take (i := 6) (oi := ⟨some 44, _, _, _, _, _⟩) (v := ?_) rfl (by kernel_rfl) (by kernel_rfl) (by kernel_rfl) (fun _ _ _ h => h) (Or.inl ⟨by kernel_rfl, ?_⟩) (by assumption) ?_
  rotate_left 1
  focus (intro w' hSw; (try dsimp only at hSw); go_simp; (try with_reducible rfl))
  try simp only [Act.put, List.setIfInBounds_toArray, List.set_cons_zero, List.set_cons_succ]
  refine wpAnyH_take (i := 7) (oi := ⟨some 45, _, _, _, _, _⟩) (v := ?_) rfl (by kernel_rfl) (by kernel_rfl) (by kernel_rfl) (fun _ _ _ h => h) (Or.inl ⟨by kernel_rfl, ?_⟩) (by assumption) ?_
  rotate_left 1
  focus (intro w' hSw; (try dsimp only at hSw); go_simp; (try with_reducible rfl))
  try simp only [Act.put, List.setIfInBounds_toArray, List.set_cons_zero, List.set_cons_succ]
  refine wpAnyH_ready (rs := [8]) (by kernel_rfl) (by simp) ?_
  refine AllReadyH.cons rfl (fun K hK => ?_) AllReadyH.nil
  go_simp
  go_at_call 144
  refine (HMd.out).mono ?_
  rintro en v1 ⟨rfl, hkp⟩
  have hsp : Sp B s t m A c L ad ep r n (cur.setC C id ⟨ep, cu.dr, ((a + x : Nat) : Int)⟩) v1 := ⟨HSd.out.ge, (hkp.tn.block s (lt_of_some HSd.out.blk) HSd.out.ne).trans HSd.out.blk, hkp.tb⟩
  have htv : lru.Tn (cur.Bk t m) w6 v1 := HTd.out.trans hkp.tn
  clear hHeld
  refine hK.out _ _ (HSS.out _ _ hsp htv) (fun hHeld => ?_)
  clear hK
  refine wpAnyH_done (by kernel_rfl) ?_ _
  clear hHeld HSS HMd
  have hL7 : Lies v1 A' (Ep.flatMap mrg.enC) := fun j u hj => by
    obtain ⟨b, off, h1, h2, h3⟩ := HL6.out j u hj
    refine ⟨b, off, h1, Nat.lt_of_lt_of_le h2 htv.size, ?_⟩
    rw [show v1.cell? ⟨b, off + j, none⟩ = w6.cell? ⟨b, off + j, none⟩ from World.cell?_of_block (w := w6) (htv.block b h2 (fun hj2 => by
      have hbb := HH6.out _ _ _ h1
      have hs5 := HB5.out.size
      have h25 := HB2.out.size
      rcases hj2 with hj2 | hj2
      · have := HLt.out.2.1; omega
      · have := HLt.out.2.2; omega))]
    exact h3
  have HNc := Lib.hid (HNm.out v1 A' c' hL7)
  have htw : lru.Tn (Bs s t m) w v1 := (lru.Tn.of_below (HB2.out.trans (HB6.out.mono HB2.out.size)) _).trans (htv.mono fun _ hk => .inr hk)
  have hxv : v1.heap[g1]? = some zx8 := (htv.block g1 (lt_of_some ((HB6.out.block _ (lt_of_some HR.out)).trans HR.out)) (fun hj => by
    have := HG1.out
    rcases hj with hj | hj
    · have := HLt.out.2.1; omega
    · have := HLt.out.2.2; omega)).trans ((HB6.out.block _ (lt_of_some HR.out)).trans HR.out)
  have HSp := Lib.hid hsp
  have HTw := Lib.hid htw
  have HXv := Lib.hid hxv
  clear hsp htw hxv hL7 hkp htv HNm
  go_wp2_with fail
  refine HNc.out.mono ?_
  rintro e v2 ⟨⟨A2, c2, rfl, hrow, hhi, hnz⟩, hv2⟩
  have HNz := Lib.hid hnz
  have HRw := Lib.hid hrow
  have HHi := Lib.hid hhi
  have HHw : Hid (∀ b o fr, A2 = some ⟨b, o, fr⟩ → w.heap.size ≤ b) := Lib.hid fun b o fr h => Nat.le_trans HTw.out.size (hhi b o fr h)
  have htw2 : lru.Tn (Bs s t m) w v2 := HTw.out.trans (lru.Tn.of_below (w := v2) hv2 _)
  have hxv2 := (hv2.block _ (lt_of_some HXv.out)).trans HXv.out
  have HG2 := Lib.hid (lt_of_some HXv.out)
  have ezx := hxv2
  have HPut := Lib.hid (putS (rb := g1) (HSp.out.later hv2) htw2 HLt.out (Nat.le_of_lt HG1.out) ezx 0 0 A2 x c2 q)
  have y0 := cell_of_blk ezx 0
  have z0 := free_of_blk ezx 0
  have y1 := cell_of_blk ezx 1
  have z1 := free_of_blk ezx 1
  have y2 := cell_of_blk ezx 2
  have z2 := free_of_blk ezx 2
  have y3 := cell_of_blk ezx 3
  have z3 := free_of_blk ezx 3
  have y4 := cell_of_blk ezx 4
  have z4 := free_of_blk ezx 4
  have y5 := cell_of_blk ezx 5
  have z5 := free_of_blk ezx 5
  have y6 := cell_of_blk ezx 6
  have z6 := free_of_blk ezx 6
  have y7 := cell_of_blk ezx 7
  have z7 := free_of_blk ezx 7
  clear ezx
  clear htw2 hxv2 hv2 hrow hhi hnz HNc
  obtain ⟨V9, hV9⟩ : ∃ V9, V9 = set8 v2 g1 (.int .i64 0) (.int .i64 0) (.int .i64 0) (.int .i64 0) (.int .i64 0) (.string ⟨#[]⟩) (.slice A2 x c2) (.bool q) := ⟨_, rfl⟩
  have HRw9 : Hid (heap.Row V9 V9.heap.size A2 (nmsE Ep)) := Lib.hid (row_above HRw.out HHi.out HG2.out (by rw [hV9]; exact tn_set8g (S := fun j => j = g1) (lru.Tn.refl _ _) rfl _ _ _ _ _ _ _ _))
  obtain ⟨p0, p1, p2, p3, p4, p5, p6, p7, HE, hbP⟩ := HPut.out V9 hV9
  have HEh := Lib.hid HE
  unfold set8 at hV9
  have HV9 := Lib.hid hV9
  clear hV9 HPut HE hbP
  go_wp2_with fail
  rw [← HV9.out]
  exact bodyPost_ret (v := resP 0 0 A2 x c2 q) (by unfold resP; simp [results, Tryz.results109, go_sem, p0, p1, p2, p3, p4, p5, p6, p7]) rfl ⟨A2, c2, by rw [show (nmsE Ep).length = x by unfold nmsE; rw [List.length_map]; exact HEl.out]; exact HEh.out, HRw9.out, HHw.out, by rw [show (nmsE Ep).length = x by unfold nmsE; rw [List.length_map]; exact HEl.out]; exact HNz.out⟩
end Go.Proofs.YtkbhcncbpiimdaaGreatDoor.spc

namespace Go.Proofs.YtkbhcncbpiimdaaGreatDoor.spc
set_option maxRecDepth 100000
open Go.RowKit Go.Proofs.YtkbhcncbpiimdaaGreatDoor.words Go.Proofs.YtkbhcncbpiimdaaGreatDoor.ext Go.Proofs.YtkbhcncbpiimdaaGreatDoor.name Go.Proofs.YtkbhcncbpiimdaaGreatDoor.tre Go.Proofs.YtkbhcncbpiimdaaGreatDoor.stk Go.Proofs.YtkbhcncbpiimdaaGreatDoor.seen Go.Proofs.YtkbhcncbpiimdaaGreatDoor.wlk Go.Proofs.YtkbhcncbpiimdaaGreatDoor.uni

theorem listed_uniq {E : List Nd} {X Y : List (ByteArray × Int)} (hD : ∀ d ∈ E, Asc d.N ∧ d.N.length = d.I.length) (h : Listed E X) (h' : Listed E Y) : X = Y := by
  obtain ⟨out, hm, hk⟩ := h
  obtain ⟨out', hm', hk'⟩ := h'
  refine mrg.listed_ref hD hm' hk' (N := (heap.firsts out).map Prod.fst) hm.names.1 (fun s => (hm.names.2 s).trans (Iff.trans ?_ Iff.rfl)) (mrg.Kinds.ref hD hk fun x hx => mrg.first_top hm hx)
  unfold mrg.namesOf mrg.rowsOf
  rw [List.mem_flatMap]
  constructor
  · rintro ⟨l, h1, h2⟩
    obtain ⟨d, h3, rfl⟩ := List.mem_map.1 h1
    exact ⟨d, h3, h2⟩
  · rintro ⟨d, h1, h2⟩
    exact ⟨d.N, List.mem_map_of_mem h1, h2⟩
theorem putD {B s t m : Nat} {A : Option Addr} {c : Nat} {L : List (Nat × Int)} {ad ep r n : Int} {C : cur.Cs} {w w1 w2 : World} {rb : Nat} {er idr : Int} {nm : List ByteArray} {fin : Bool} {A' : Option Addr} {c' : Nat} (hs : Sp B s t m A c L ad ep r n C w2) (ht : lru.Tn (Bs s t m) w1 w2) (hb : Below w.heap.size w w1) (hlt : s < w.heap.size ∧ t < w.heap.size ∧ m < w.heap.size) (hrb : w.heap.size ≤ rb) (hx : w1.heap[rb]? = some zx8)
    (hr : heap.Row w2 w2.heap.size A' nm) (hh : ∀ b o fr, A' = some ⟨b, o, fr⟩ → w1.heap.size ≤ b) (hnz : A' = none → nm.length = 0 ∧ c' = 0) :
    w2.heap[rb]? = some zx8 ∧ ∀ w4, w4 = set8 w2 rb (.int .i64 er) (.int .i64 0) (.int .i64 0) (.int .i64 0) (.int .i64 idr) (.string ⟨#[]⟩) (.slice A' nm.length c') (.bool fin) → w4.cell? ⟨rb, 0, none⟩ = some (.int .i64 er) ∧ w4.cell? ⟨rb, 1, none⟩ = some (.int .i64 0) ∧ w4.cell? ⟨rb, 2, none⟩ = some (.int .i64 0) ∧ w4.cell? ⟨rb, 3, none⟩ = some (.int .i64 0) ∧
      w4.cell? ⟨rb, 4, none⟩ = some (.int .i64 idr) ∧ w4.cell? ⟨rb, 5, none⟩ = some (.string ⟨#[]⟩) ∧ w4.cell? ⟨rb, 6, none⟩ = some (.slice A' nm.length c') ∧ w4.cell? ⟨rb, 7, none⟩ = some (.bool fin) ∧ DoO B s t m A c L ad ep r n C er idr nm fin w (.returned (resP er idr A' nm.length c' fin)) w4 := by
  have hrl := lt_of_some hx
  have hx2 : w2.heap[rb]? = some zx8 := (ht.block rb hrl (fun hj => by
    rcases hj with hj | hj | hj
    · have := hlt.1; omega
    · have := hlt.2.1; omega
    · have := hlt.2.2; omega)).trans hx
  refine ⟨hx2, fun w4 hw => ?_⟩
  obtain ⟨p0, p1, p2, p3, p4, p5, p6, p7, hso, _⟩ := putS hs ((lru.Tn.of_below hb _).trans ht) hlt hrb hx2 er idr A' nm.length c' fin w4 hw
  refine ⟨p0, p1, p2, p3, p4, p5, p6, p7, A', c', hso, row_above hr hh hrl ?_, fun b o fr he => Nat.le_trans hb.size (hh b o fr he), hnz⟩
  rw [hw]
  exact tn_set8g (S := fun j => j = rb) (lru.Tn.refl _ _) rfl _ _ _ _ _ _ _ _
set_option maxHeartbeats 6400000 in
theorem page_ok {B s t m : Nat} {A : Option Addr} {c : Nat} {L : List (Nat × Int)} {ad ep r n : Int} {C : cur.Cs} {w : World} {R : List Nd} {O : AtO} {ns : List ByteArray} {E : List Nd} (k : Int) (p : ByteArray) (o N id : Int) (img : ByteArray) (El : List (ByteArray × Int)) (cu : cur.Cu) (a x : Nat) (h : Sp B s t m A c L ad ep r n C w) (hx : mpi.Fits id) (hv : cur.valC C id = some cu) (hep : cu.ep = ep) (hN : 1 ≤ N) (hat : cu.at_ = (a : Int)) (hal : a ≤ El.length) (hx2 : (x : Int) = min N ((El.length - a : Nat) : Int)) (hC : C.length ≤ 2000) (hOe : O = .ok ns E) (h0 : lsE O = 0) (hld : Listed E El) (hD : ∀ d ∈ E, Asc d.N ∧ d.N.length = d.I.length) (HLi : ∀ w', Below w.heap.size w w' → Calls Tryz.prog 12 #[.agg #[.slice A L.length c, .int .i64 ad], .string cu.dr] w' (LsOut R O w')) :
    Calls Tryz.prog 66 #[.pointer (some ⟨s, 0, none⟩), opV k p o N id img] w (DoO B s t m A c L ad ep r n (cur.setC C id ⟨ep, cu.dr, ((a + x : Nat) : Int)⟩) 0 0 (nmsE ((El.drop a).take x)) (x == El.length - a) w) := by
  obtain ⟨g1, W1, hW1, eg1, hxo, hxr, hb1, lg1⟩ := two_boxes w (.cells #[.int .i64 k, .string p, .int .i64 o, .int .i64 N, .int .i64 id, .string img] 47) (.cells #[.int .i64 0, .int .i64 0, .int .i64 0, .int .i64 0, .int .i64 0, .string ⟨#[]⟩, .slice none 0 0, .bool false] 44)
  have HO := Lib.hid hxo
  have HR := Lib.hid (show W1.heap[g1]? = some zx8 from hxr)
  have HP1 := Lib.hid (h.later hb1)
  have HB1 := Lib.hid hb1
  have HG1 := Lib.hid (show w.heap.size < g1 by omega)
  have HLt := Lib.hid h.lt
  have HW1 := Lib.hid hW1
  have HEG := Lib.hid eg1
  have hge : cur.gotE C id = 0 := by unfold cur.gotE; rw [hv]; rfl
  have hgc : cur.gotC C id = cu := by unfold cur.gotC; rw [hv]; rfl
  have hse : stE C ep id = 0 := by unfold stE; rw [hge, hgc, if_pos rfl, if_pos hep]
  have hsc : stC C ep id = ⟨ep, cu.dr, (a : Int)⟩ := by
    unfold stC
    rw [hgc, hge, if_pos ⟨hep, rfl⟩]
    rcases cu with ⟨c1, c2, c3⟩
    simp only at hep hat ⊢
    rw [hep, hat]
  have HSt := Lib.hid (stale_any id (h.later hb1) hx)
  rw [hse, hsc] at HSt
  have HLs := Lib.hid HLi
  have HOe := Lib.hid (And.intro hOe (And.intro h0 (And.intro hld hD)))
  obtain ⟨C', hC'⟩ : ∃ C', C' = cur.setC C id ⟨ep, cu.dr, ((a + x : Nat) : Int)⟩ := ⟨_, rfl⟩
  obtain ⟨nm, hnm⟩ : ∃ nm, nm = nmsE ((El.drop a).take x) := ⟨_, rfl⟩
  obtain ⟨fin, hfin⟩ : ∃ fin, fin = (x == El.length - a) := ⟨_, rfl⟩
  rw [← hC', ← hnm, ← hfin]
  have HPg : Hid (∀ (w' : World) (Al : Option Addr) (cl : Nat), Sp B s t m A c L ad ep r n C w' → El.length ≤ 1000000 → El.length ≤ cl → (Al = none → cl = 0) → Lies w' Al (El.flatMap mrg.enC) → Calls Tryz.prog 109 #[.pointer (some ⟨s, 0, none⟩), .agg #[.int .i64 k, .string p, .int .i64 o, .int .i64 N, .int .i64 id, .string img], .slice Al El.length cl] w' (DoO B s t m A c L ad ep r n C' 0 0 nm fin w')) := Lib.hid fun w' Al cl h' g1 g2 g3 g4 => by
    rw [hC', hnm, hfin]
    exact pg_any k p o N id img Al cl El cu a x h' hx hv hep hN hat hal g1 g2 g3 hx2 g4 hC
  clear hW1 eg1 hxo hxr hb1 lg1 h hge hgc hse hsc hx hv hep hN hat hal hx2 hC hOe h0 hld hD HLi hC' hnm hfin
  unfold opV
  have c4 := cell_of_blk HO.out 4
  go_enter Tryz.func66, Tryz.ntmps66
  go_upto_region 1 with fail
  rw [HW1.out]
  simp only [HEG.out]
  clear HW1 HEG
  go_wp2_with fail
  refine HSt.out.mono ?_
  rintro e w2 ⟨rfl, hb2⟩
  obtain ⟨W3, hW3⟩ : ∃ W3, W3 = w2.alloc (.cells #[.int .i64 ep, .string cu.dr, .int .i64 (a : Int)] 91) := ⟨_, rfl⟩
  have hb3 : Below w2.heap.size w2 W3 := by rw [hW3]; exact (Below.refl _ _).alloc (Nat.le_refl _) _
  have HX3 := Lib.hid (show W3.heap[w2.heap.size]? = some (.cells #[.int .i64 ep, .string cu.dr, .int .i64 (a : Int)] 91 (0, 0)) by rw [hW3]; exact heap_alloc_new w2 _)
  have HB3 := Lib.hid (hb2.trans (hb3.mono hb2.size))
  have HP3 := Lib.hid (HP1.out.later HB3.out)
  have HW3 := Lib.hid hW3
  have HSS : Hid (∀ w' : World, Below W3.heap.size W3 w' → (w'.cell? ⟨s, 0, none⟩ = some (.slice A L.length c) ∧ w'.cell? ⟨s, 1, none⟩ = some (.int .i64 ad) ∧ w'.cell? ⟨w2.heap.size, 1, none⟩ = some (.string cu.dr) ∧ Below W3.heap.size W3 w')) := Lib.hid fun w' hb => by
    have e1 := (hb.block _ (lt_of_some HX3.out)).trans HX3.out
    have e2 := (HP3.out.later hb).blk
    exact ⟨cell_of_blk e2 0, cell_of_blk e2 1, cell_of_blk e1 1, hb⟩
  have HBv : Hid (Below W3.heap.size W3 W3.drew) := Lib.hid (Below.refl _ _).drew
  have HLd := Lib.hid (HLs.out W3.drew (HB1.out.trans ((HB3.out.trans (HBv.out.mono HB3.out.size)).mono HB1.out.size)))
  clear hW3 hb3 hb2 HSt HLs c4
  go_upto_region 2 with fail
  rw [← HW3.out]
  clear HW3
  go_upto_region 4 with fail
  refine wp_region_held_drew (S := fun w' => (w'.cell? ⟨s, 0, none⟩ = some (.slice A L.length c) ∧ w'.cell? ⟨s, 1, none⟩ = some (.int .i64 ad) ∧ w'.cell? ⟨w2.heap.size, 1, none⟩ = some (.string cu.dr) ∧ Below W3.heap.size W3 w')) (by kernel_rfl) (HSS.out _ HBv.out) (fun hHeld => ?_)
  refine wpAnyH_take (i := 0) (oi := ⟨some 22, _, _, _, _, _⟩) (v := ?_) rfl (by kernel_rfl) (by kernel_rfl) (by kernel_rfl) (fun _ _ _ h => h) (Or.inl ⟨by kernel_rfl, ?_⟩) (by assumption) ?_
  rotate_left 1
  focus (intro w' hSw; (try dsimp only at hSw); go_simp; (try with_reducible rfl))
  try simp only [Act.put, List.setIfInBounds_toArray, List.set_cons_zero, List.set_cons_succ]
  refine wpAnyH_take (i := 1) (oi := ⟨some 23, _, _, _, _, _⟩) (v := ?_) rfl (by kernel_rfl) (by kernel_rfl) (by kernel_rfl) (fun _ _ _ h => h) (Or.inl ⟨by kernel_rfl, ?_⟩) (by assumption) ?_
  rotate_left 1
  focus (intro w' hSw; (try dsimp only at hSw); go_simp; (try with_reducible rfl))
  try simp only [Act.put, List.setIfInBounds_toArray, List.set_cons_zero, List.set_cons_succ]
  refine wpAnyH_take (i := 2) (oi := ⟨some 24, _, _, _, _, _⟩) (v := ?_) rfl (by kernel_rfl) (by kernel_rfl) (by kernel_rfl) (fun _ _ _ h => h) (Or.inl ⟨by kernel_rfl, ?_⟩) (by assumption) ?_
  rotate_left 1
  focus (intro w' hSw; (try dsimp only at hSw); go_simp; (try with_reducible rfl))
  try simp only [Act.put, List.setIfInBounds_toArray, List.set_cons_zero, List.set_cons_succ]
  refine wpAnyH_take (i := 3) (oi := ⟨some 25, _, _, _, _, _⟩) (v := ?_) rfl (by kernel_rfl) (by kernel_rfl) (by kernel_rfl) (fun _ _ _ h => h) (Or.inl ⟨by kernel_rfl, ?_⟩) (by assumption) ?_
  rotate_left 1
  focus (intro w' hSw; (try dsimp only at hSw); go_simp; (try with_reducible rfl))
  try simp only [Act.put, List.setIfInBounds_toArray, List.set_cons_zero, List.set_cons_succ]
  refine wpAnyH_take (i := 4) (oi := ⟨some 26, _, _, _, _, _⟩) (v := ?_) rfl (by kernel_rfl) (by kernel_rfl) (by kernel_rfl) (fun _ _ _ h => h) (Or.inl ⟨by kernel_rfl, ?_⟩) (by assumption) ?_
  rotate_left 1
  focus (intro w' hSw; (try dsimp only at hSw); go_simp; (try with_reducible rfl))
  try simp only [Act.put, List.setIfInBounds_toArray, List.set_cons_zero, List.set_cons_succ]
  refine wpAnyH_take (i := 5) (oi := ⟨some 27, _, _, _, _, _⟩) (v := ?_) rfl (by kernel_rfl) (by kernel_rfl) (by kernel_rfl) (fun _ _ _ h => h) (Or.inl ⟨by kernel_rfl, ?_⟩) (by assumption) ?_
  rotate_left 1
  focus (intro w' hSw; (try dsimp only at hSw); go_simp; (try with_reducible rfl))
  try simp only [Act.put, List.setIfInBounds_toArray, List.set_cons_zero, List.set_cons_succ]
  refine wpAnyH_ready (rs := [6]) (by kernel_rfl) (by simp) ?_
  refine AllReadyH.cons rfl (fun K hK => ?_) AllReadyH.nil
  go_simp
  go_at_call 12
  refine (HLd.out).mono ?_
  rintro en v1 ⟨(⟨hne, _⟩ | ⟨ns', E', El', Al, cl, hOe, _, _, _, _, _, _, _, hld, hle, rfl, hlies, hcl, hzl⟩), hv1⟩
  · exact absurd HOe.out.2.1 hne
  obtain rfl : El' = El := by
    rw [HOe.out.1] at hOe
    injection hOe with _ hE
    subst hE
    exact listed_uniq HOe.out.2.2.2 hld HOe.out.2.2.1
  have hq1 := HBv.out.trans (hv1.mono HBv.out.size)
  have HLl := Lib.hid (And.intro hle (And.intro hcl (And.intro hzl hlies)))
  clear hOe hld hle hlies hcl hzl
  obtain ⟨pq, hpq⟩ : ∃ pq, pq = pathOf ns' := ⟨_, rfl⟩
  rw [← hpq]
  clear hpq
  clear hHeld
  refine hK.out _ _ (HSS.out _ hq1) (fun hHeld => ?_)
  clear hK
  refine wpAnyH_take (i := 7) (oi := ⟨some 21, _, _, _, _, _⟩) (v := ?_) rfl (by kernel_rfl) (by kernel_rfl) (by kernel_rfl) (fun _ _ _ h => h) (Or.inl ⟨by kernel_rfl, ?_⟩) (by assumption) ?_
  rotate_left 1
  focus (intro w' hSw; (try dsimp only at hSw); go_simp; (try with_reducible rfl))
  try simp only [Act.put, List.setIfInBounds_toArray, List.set_cons_zero, List.set_cons_succ]
  refine wpAnyH_take (i := 8) (oi := ⟨some 29, _, _, _, _, _⟩) (v := ?_) rfl (by kernel_rfl) (by kernel_rfl) (by kernel_rfl) (fun _ _ _ h => h) (Or.inl ⟨by kernel_rfl, ?_⟩) (by assumption) ?_
  rotate_left 1
  focus (intro w' hSw; (try dsimp only at hSw); go_simp; (try with_reducible rfl))
  try simp only [Act.put, List.setIfInBounds_toArray, List.set_cons_zero, List.set_cons_succ]
  refine wpAnyH_take (i := 9) (oi := ⟨some 30, _, _, _, _, _⟩) (v := ?_) rfl (by kernel_rfl) (by kernel_rfl) (by kernel_rfl) (fun _ _ _ h => h) (Or.inl ⟨by kernel_rfl, ?_⟩) (by assumption) ?_
  rotate_left 1
  focus (intro w' hSw; (try dsimp only at hSw); go_simp; (try with_reducible rfl))
  try simp only [Act.put, List.setIfInBounds_toArray, List.set_cons_zero, List.set_cons_succ]
  refine wpAnyH_take (i := 10) (oi := ⟨some 31, _, _, _, _, _⟩) (v := ?_) rfl (by kernel_rfl) (by kernel_rfl) (by kernel_rfl) (fun _ _ _ h => h) (Or.inl ⟨by kernel_rfl, ?_⟩) (by assumption) ?_
  rotate_left 1
  focus (intro w' hSw; (try dsimp only at hSw); go_simp; (try with_reducible rfl))
  try simp only [Act.put, List.setIfInBounds_toArray, List.set_cons_zero, List.set_cons_succ]
  refine wpAnyH_take (i := 11) (oi := ⟨some 7, _, _, _, _, _⟩) (v := ?_) rfl (by kernel_rfl) (by kernel_rfl) (by kernel_rfl) (fun _ _ _ h => h) (Or.inl ⟨by kernel_rfl, ?_⟩) (by assumption) ?_
  rotate_left 1
  focus (intro w' hSw; (try dsimp only at hSw); go_simp; (try with_reducible rfl))
  try simp only [Act.put, List.setIfInBounds_toArray, List.set_cons_zero, List.set_cons_succ]
  refine wpAnyH_take (i := 12) (oi := ⟨some 8, _, _, _, _, _⟩) (v := ?_) rfl (by kernel_rfl) (by kernel_rfl) (by kernel_rfl) (fun _ _ _ h => h) (Or.inl ⟨by kernel_rfl, ?_⟩) (by assumption) ?_
  rotate_left 1
  focus (intro w' hSw; (try dsimp only at hSw); go_simp; (try with_reducible rfl))
  try simp only [Act.put, List.setIfInBounds_toArray, List.set_cons_zero, List.set_cons_succ]
  refine wpAnyH_take (i := 13) (oi := ⟨some 9, _, _, _, _, _⟩) (v := ?_) rfl (by kernel_rfl) (by kernel_rfl) (by kernel_rfl) (fun _ _ _ h => h) (Or.inl ⟨by kernel_rfl, ?_⟩) (by assumption) ?_
  rotate_left 1
  focus (intro w' hSw; (try dsimp only at hSw); go_simp; (try with_reducible rfl))
  try simp only [Act.put, List.setIfInBounds_toArray, List.set_cons_zero, List.set_cons_succ]
  refine wpAnyH_done (by kernel_rfl) ?_ _
  clear hHeld HSS HLd
  have HBc : Hid (Below w.heap.size w v1) := Lib.hid (HB1.out.trans ((HB3.out.trans (hq1.mono HB3.out.size)).mono HB1.out.size))
  have hb13 := HB3.out.trans (hq1.mono HB3.out.size)
  have HXr := Lib.hid ((hb13.block _ (lt_of_some HR.out)).trans HR.out)
  have eo := (hb13.block _ (lt_of_some HO.out)).trans HO.out
  have c0 := cell_of_blk eo 0
  have c1 := cell_of_blk eo 1
  have c2 := cell_of_blk eo 2
  have c3 := cell_of_blk eo 3
  have c4 := cell_of_blk eo 4
  have c5 := cell_of_blk eo 5
  have HPc := Lib.hid (HPg.out v1 Al cl (HP3.out.later hq1) HLl.out.1 HLl.out.2.1 HLl.out.2.2.1 HLl.out.2.2.2)
  clear hb13 hq1 hv1 eo HPg HLl HBv HOe
  go_wp2_with fail
  refine HPc.out.mono ?_
  rintro e v2 ⟨A2, c2', ⟨rfl, hsp, htn⟩, hrow, hhi, hnz⟩
  clear c0 c1 c2 c3 c4 c5
  obtain ⟨hxq, hpq⟩ := putD (er := 0) (idr := 0) (fin := fin) (c' := c2') hsp htn HBc.out HLt.out (Nat.le_of_lt HG1.out) HXr.out hrow hhi hnz
  have HPut := Lib.hid hpq
  have y0 := cell_of_blk hxq 0
  have z0 := free_of_blk hxq 0
  have y1 := cell_of_blk hxq 1
  have z1 := free_of_blk hxq 1
  have y2 := cell_of_blk hxq 2
  have z2 := free_of_blk hxq 2
  have y3 := cell_of_blk hxq 3
  have z3 := free_of_blk hxq 3
  have y4 := cell_of_blk hxq 4
  have z4 := free_of_blk hxq 4
  have y5 := cell_of_blk hxq 5
  have z5 := free_of_blk hxq 5
  have y6 := cell_of_blk hxq 6
  have z6 := free_of_blk hxq 6
  have y7 := cell_of_blk hxq 7
  have z7 := free_of_blk hxq 7
  clear hxq hpq hsp htn hrow hhi hnz
  unfold resP
  obtain ⟨nl, hnl⟩ : ∃ nl, nl = nm.length := ⟨_, rfl⟩
  rw [← hnl] at HPut ⊢
  have HNl := Lib.hid hnl
  clear hnl
  go_wp2_with fail
  obtain ⟨p0, p1, p2, p3, p4, p5, p6, p7, HE⟩ := HPut.out _ rfl
  unfold set8 at p0 p1 p2 p3 p4 p5 p6 p7 HE
  exact bodyPost_ret (v := resP 0 0 A2 nl c2' fin) (by unfold resP; simp [results, Tryz.results66, go_sem, p0, p1, p2, p3, p4, p5, p6, p7]) rfl HE
set_option maxHeartbeats 3200000 in
theorem add_bad {B s t m : Nat} {A : Option Addr} {c : Nat} {L : List (Nat × Int)} {ad ep r n : Int} {C : cur.Cs} {w : World} (img : ByteArray) (h : Sp B s t m A c L ad ep r n C w) (HOp : ∀ w', Below w.heap.size w w' → Calls Tryz.prog 110 #[.string img] w' fun e w'' => e = .returned (.tuple #[.pointer none, .int .i64 1]) ∧ Below w'.heap.size w' w'') :
    Calls Tryz.prog 68 #[.pointer (some ⟨s, 0, none⟩), .string img] w (SO B s t m (resP 1 0 none 0 0 false) A c L ad ep r n C w) := by
  obtain ⟨W1, hW1⟩ : ∃ W1, W1 = w.alloc (.cells #[.int .i64 0, .int .i64 0, .int .i64 0, .int .i64 0, .int .i64 0, .string ⟨#[]⟩, .slice none 0 0, .bool false] 44) := ⟨_, rfl⟩
  have hb1 : Below w.heap.size w W1 := by rw [hW1]; exact (Below.refl _ _).alloc (Nat.le_refl _) _
  have HX := Lib.hid (show W1.heap[w.heap.size]? = some zx8 by rw [hW1]; exact heap_alloc_new w _)
  have HB1 := Lib.hid hb1
  have HP1 := Lib.hid (h.later hb1)
  have HLt := Lib.hid h.lt
  have HW1 := Lib.hid hW1
  have HO1 := Lib.hid (HOp W1 hb1)
  clear hW1 hb1 h HOp
  go_enter Tryz.func68, Tryz.ntmps68
  go_upto_region 1 with fail
  rw [← HW1.out]
  clear HW1
  go_wp2_with fail
  refine HO1.out.mono ?_
  rintro e v1 ⟨rfl, hv1⟩
  have HV1 := Lib.hid (HB1.out.trans (hv1.mono HB1.out.size))
  have ezx := ((hv1.block _ (lt_of_some HX.out)).trans HX.out)
  have HPut := Lib.hid (putS (rb := w.heap.size) (HP1.out.later hv1) (lru.Tn.of_below HV1.out _) HLt.out (Nat.le_refl _) ezx 1 0 none 0 0 false)
  have y0 := cell_of_blk ezx 0
  have z0 := free_of_blk ezx 0
  have y1 := cell_of_blk ezx 1
  have z1 := free_of_blk ezx 1
  have y2 := cell_of_blk ezx 2
  have z2 := free_of_blk ezx 2
  have y3 := cell_of_blk ezx 3
  have z3 := free_of_blk ezx 3
  have y4 := cell_of_blk ezx 4
  have z4 := free_of_blk ezx 4
  have y5 := cell_of_blk ezx 5
  have z5 := free_of_blk ezx 5
  have y6 := cell_of_blk ezx 6
  have z6 := free_of_blk ezx 6
  have y7 := cell_of_blk ezx 7
  have z7 := free_of_blk ezx 7
  clear ezx
  clear hv1 HO1
  go_wp2_with fail
  obtain ⟨p0, p1, p2, p3, p4, p5, p6, p7, HE, hbP⟩ := HPut.out _ rfl
  unfold set8 at p0 p1 p2 p3 p4 p5 p6 p7 HE hbP
  exact bodyPost_ret (v := resP 1 0 none 0 0 false) (by unfold resP; simp [results, Tryz.results68, go_sem, p0, p1, p2, p3, p4, p5, p6, p7]) rfl HE
set_option maxHeartbeats 6400000 in
theorem do_5 {B s t m : Nat} {A : Option Addr} {c : Nat} {L : List (Nat × Int)} {ad ep r n : Int} {C : cur.Cs} {w : World} (p : ByteArray) (o N id : Int) (img : ByteArray) (L' : List (Nat × Int)) (ad' ep' r' n' : Int) (C' : cur.Cs) (er idr : Int) (nm : List ByteArray) (fin : Bool) (Q : Option Addr → Nat → Prop) (h : Sp B s t m A c L ad ep r n C w) (hbad : badB 5 o N = false)
    (HIn : ∀ w', Below w.heap.size w w' → Sp B s t m A c L ad ep r n C w' → Calls Tryz.prog 65 #[.pointer (some ⟨s, 0, none⟩), .string p] w' fun e w'' => ∃ A' c', Q A' c' ∧ DoO B s t m A' c' L' ad' ep' r' n' C' er idr nm fin w' e w'') :
    Calls Tryz.prog 30 #[.pointer (some ⟨s, 0, none⟩), opV 5 p o N id img] w fun e w' => ∃ A' c', Q A' c' ∧ DoO B s t m A' c' L' ad' ep' r' n' C' er idr nm fin w e w' := by
  obtain ⟨g1, W1, hW1, eg1, hxo, hxr, hb1, lg1⟩ := two_boxes w (.cells #[.int .i64 5, .string p, .int .i64 o, .int .i64 N, .int .i64 id, .string img] 47) (.cells #[.int .i64 0, .int .i64 0, .int .i64 0, .int .i64 0, .int .i64 0, .string ⟨#[]⟩, .slice none 0 0, .bool false] 44)
  have HO := Lib.hid hxo
  have HR := Lib.hid (show W1.heap[g1]? = some zx8 from hxr)
  have HP1 := Lib.hid (h.later hb1)
  have HB1 := Lib.hid hb1
  have HG1 := Lib.hid (show w.heap.size < g1 by omega)
  have HLt := Lib.hid h.lt
  have HW1 := Lib.hid hW1
  have HEG := Lib.hid eg1
  have HCk := Lib.hid (show Calls Tryz.prog 19 #[.agg #[.int .i64 5, .string p, .int .i64 o, .int .i64 N, .int .i64 id, .string img]] W1 fun e w'' => e = .returned (.int .i64 0) ∧ Below W1.heap.size W1 w'' from (chk_any 5 p o N id img W1).mono fun e w'' ⟨h1, h2⟩ => ⟨by rw [h1]; unfold chkI; rw [hbad]; rfl, h2⟩)
  have HI := Lib.hid HIn
  clear hW1 eg1 hxo hxr hb1 lg1 h hbad HIn
  unfold opV
  have c0 := cell_of_blk HO.out 0
  have c1 := cell_of_blk HO.out 1
  have c2 := cell_of_blk HO.out 2
  have c3 := cell_of_blk HO.out 3
  have c4 := cell_of_blk HO.out 4
  have c5 := cell_of_blk HO.out 5
  go_enter Tryz.func30, Tryz.ntmps30
  go_upto_region 1 with fail
  rw [HW1.out]
  simp only [HEG.out]
  clear HW1 HEG
  go_wp2_with fail
  refine HCk.out.mono ?_
  rintro e w3 ⟨rfl, hb3⟩
  have HBc := Lib.hid (HB1.out.trans (hb3.mono HB1.out.size))
  have HXr := Lib.hid ((hb3.block _ (lt_of_some HR.out)).trans HR.out)
  have eo := (hb3.block _ (lt_of_some HO.out)).trans HO.out
  have HIc := Lib.hid (HI.out w3 HBc.out (HP1.out.later hb3))
  clear c0 c1 c2 c3 c4 c5
  have c0 := cell_of_blk eo 0
  have c1 := cell_of_blk eo 1
  clear hb3 eo HCk HI
  go_wp2_with fail
  refine HIc.out.mono ?_
  rintro e v2 ⟨A9, c9, hQ, A2, c2', ⟨rfl, hsp, htn⟩, hrow, hhi, hnz⟩
  have HQ := Lib.hid hQ
  clear hQ HIc c0 c1
  obtain ⟨hxq, hpq⟩ := putD (er := er) (idr := idr) (fin := fin) (c' := c2') hsp htn HBc.out HLt.out (Nat.le_of_lt HG1.out) HXr.out hrow hhi hnz
  have HPut := Lib.hid hpq
  have y0 := cell_of_blk hxq 0
  have z0 := free_of_blk hxq 0
  have y1 := cell_of_blk hxq 1
  have z1 := free_of_blk hxq 1
  have y2 := cell_of_blk hxq 2
  have z2 := free_of_blk hxq 2
  have y3 := cell_of_blk hxq 3
  have z3 := free_of_blk hxq 3
  have y4 := cell_of_blk hxq 4
  have z4 := free_of_blk hxq 4
  have y5 := cell_of_blk hxq 5
  have z5 := free_of_blk hxq 5
  have y6 := cell_of_blk hxq 6
  have z6 := free_of_blk hxq 6
  have y7 := cell_of_blk hxq 7
  have z7 := free_of_blk hxq 7
  clear hxq hpq hsp htn hrow hhi hnz
  unfold resP
  obtain ⟨nl, hnl⟩ : ∃ nl, nl = nm.length := ⟨_, rfl⟩
  rw [← hnl] at HPut ⊢
  have HNl := Lib.hid hnl
  clear hnl
  go_wp2_with fail
  obtain ⟨p0, p1, p2, p3, p4, p5, p6, p7, HE⟩ := HPut.out _ rfl
  unfold set8 at p0 p1 p2 p3 p4 p5 p6 p7 HE
  exact bodyPost_ret (v := resP er idr A2 nl c2' fin) (by unfold resP; simp [results, Tryz.results30, go_sem, p0, p1, p2, p3, p4, p5, p6, p7]) rfl ⟨A9, c9, HQ.out, HE⟩
set_option maxHeartbeats 6400000 in
theorem do_6 {B s t m : Nat} {A : Option Addr} {c : Nat} {L : List (Nat × Int)} {ad ep r n : Int} {C : cur.Cs} {w : World} (p : ByteArray) (o N id : Int) (img : ByteArray) (L' : List (Nat × Int)) (ad' ep' r' n' : Int) (C' : cur.Cs) (er idr : Int) (nm : List ByteArray) (fin : Bool) (Q : Option Addr → Nat → Prop) (h : Sp B s t m A c L ad ep r n C w) (hbad : badB 6 o N = false)
    (HIn : ∀ w', Below w.heap.size w w' → Sp B s t m A c L ad ep r n C w' → Calls Tryz.prog 66 #[.pointer (some ⟨s, 0, none⟩), .agg #[.int .i64 6, .string p, .int .i64 o, .int .i64 N, .int .i64 id, .string img]] w' fun e w'' => ∃ A' c', Q A' c' ∧ DoO B s t m A' c' L' ad' ep' r' n' C' er idr nm fin w' e w'') :
    Calls Tryz.prog 30 #[.pointer (some ⟨s, 0, none⟩), opV 6 p o N id img] w fun e w' => ∃ A' c', Q A' c' ∧ DoO B s t m A' c' L' ad' ep' r' n' C' er idr nm fin w e w' := by
  obtain ⟨g1, W1, hW1, eg1, hxo, hxr, hb1, lg1⟩ := two_boxes w (.cells #[.int .i64 6, .string p, .int .i64 o, .int .i64 N, .int .i64 id, .string img] 47) (.cells #[.int .i64 0, .int .i64 0, .int .i64 0, .int .i64 0, .int .i64 0, .string ⟨#[]⟩, .slice none 0 0, .bool false] 44)
  have HO := Lib.hid hxo
  have HR := Lib.hid (show W1.heap[g1]? = some zx8 from hxr)
  have HP1 := Lib.hid (h.later hb1)
  have HB1 := Lib.hid hb1
  have HG1 := Lib.hid (show w.heap.size < g1 by omega)
  have HLt := Lib.hid h.lt
  have HW1 := Lib.hid hW1
  have HEG := Lib.hid eg1
  have HCk := Lib.hid (show Calls Tryz.prog 19 #[.agg #[.int .i64 6, .string p, .int .i64 o, .int .i64 N, .int .i64 id, .string img]] W1 fun e w'' => e = .returned (.int .i64 0) ∧ Below W1.heap.size W1 w'' from (chk_any 6 p o N id img W1).mono fun e w'' ⟨h1, h2⟩ => ⟨by rw [h1]; unfold chkI; rw [hbad]; rfl, h2⟩)
  have HI := Lib.hid HIn
  clear hW1 eg1 hxo hxr hb1 lg1 h hbad HIn
  unfold opV
  have c0 := cell_of_blk HO.out 0
  have c1 := cell_of_blk HO.out 1
  have c2 := cell_of_blk HO.out 2
  have c3 := cell_of_blk HO.out 3
  have c4 := cell_of_blk HO.out 4
  have c5 := cell_of_blk HO.out 5
  go_enter Tryz.func30, Tryz.ntmps30
  go_upto_region 1 with fail
  rw [HW1.out]
  simp only [HEG.out]
  clear HW1 HEG
  go_wp2_with fail
  refine HCk.out.mono ?_
  rintro e w3 ⟨rfl, hb3⟩
  have HBc := Lib.hid (HB1.out.trans (hb3.mono HB1.out.size))
  have HXr := Lib.hid ((hb3.block _ (lt_of_some HR.out)).trans HR.out)
  have eo := (hb3.block _ (lt_of_some HO.out)).trans HO.out
  have HIc := Lib.hid (HI.out w3 HBc.out (HP1.out.later hb3))
  clear c0 c1 c2 c3 c4 c5
  have c0 := cell_of_blk eo 0
  have c1 := cell_of_blk eo 1
  have c2 := cell_of_blk eo 2
  have c3 := cell_of_blk eo 3
  have c4 := cell_of_blk eo 4
  have c5 := cell_of_blk eo 5
  clear hb3 eo HCk HI
  go_wp2_with fail
  refine HIc.out.mono ?_
  rintro e v2 ⟨A9, c9, hQ, A2, c2', ⟨rfl, hsp, htn⟩, hrow, hhi, hnz⟩
  have HQ := Lib.hid hQ
  clear hQ HIc c0 c1 c2 c3 c4 c5
  obtain ⟨hxq, hpq⟩ := putD (er := er) (idr := idr) (fin := fin) (c' := c2') hsp htn HBc.out HLt.out (Nat.le_of_lt HG1.out) HXr.out hrow hhi hnz
  have HPut := Lib.hid hpq
  have y0 := cell_of_blk hxq 0
  have z0 := free_of_blk hxq 0
  have y1 := cell_of_blk hxq 1
  have z1 := free_of_blk hxq 1
  have y2 := cell_of_blk hxq 2
  have z2 := free_of_blk hxq 2
  have y3 := cell_of_blk hxq 3
  have z3 := free_of_blk hxq 3
  have y4 := cell_of_blk hxq 4
  have z4 := free_of_blk hxq 4
  have y5 := cell_of_blk hxq 5
  have z5 := free_of_blk hxq 5
  have y6 := cell_of_blk hxq 6
  have z6 := free_of_blk hxq 6
  have y7 := cell_of_blk hxq 7
  have z7 := free_of_blk hxq 7
  clear hxq hpq hsp htn hrow hhi hnz
  unfold resP
  obtain ⟨nl, hnl⟩ : ∃ nl, nl = nm.length := ⟨_, rfl⟩
  rw [← hnl] at HPut ⊢
  have HNl := Lib.hid hnl
  clear hnl
  go_wp2_with fail
  obtain ⟨p0, p1, p2, p3, p4, p5, p6, p7, HE⟩ := HPut.out _ rfl
  unfold set8 at p0 p1 p2 p3 p4 p5 p6 p7 HE
  exact bodyPost_ret (v := resP er idr A2 nl c2' fin) (by unfold resP; simp [results, Tryz.results30, go_sem, p0, p1, p2, p3, p4, p5, p6, p7]) rfl ⟨A9, c9, HQ.out, HE⟩
set_option maxHeartbeats 6400000 in
theorem do_8 {B s t m : Nat} {A : Option Addr} {c : Nat} {L : List (Nat × Int)} {ad ep r n : Int} {C : cur.Cs} {w : World} (p : ByteArray) (o N id : Int) (img : ByteArray) (L' : List (Nat × Int)) (ad' ep' r' n' : Int) (C' : cur.Cs) (er idr : Int) (nm : List ByteArray) (fin : Bool) (Q : Option Addr → Nat → Prop) (h : Sp B s t m A c L ad ep r n C w) (hbad : badB 8 o N = false)
    (HIn : ∀ w', Below w.heap.size w w' → Sp B s t m A c L ad ep r n C w' → Calls Tryz.prog 68 #[.pointer (some ⟨s, 0, none⟩), .string img] w' fun e w'' => ∃ A' c', Q A' c' ∧ DoO B s t m A' c' L' ad' ep' r' n' C' er idr nm fin w' e w'') :
    Calls Tryz.prog 30 #[.pointer (some ⟨s, 0, none⟩), opV 8 p o N id img] w fun e w' => ∃ A' c', Q A' c' ∧ DoO B s t m A' c' L' ad' ep' r' n' C' er idr nm fin w e w' := by
  obtain ⟨g1, W1, hW1, eg1, hxo, hxr, hb1, lg1⟩ := two_boxes w (.cells #[.int .i64 8, .string p, .int .i64 o, .int .i64 N, .int .i64 id, .string img] 47) (.cells #[.int .i64 0, .int .i64 0, .int .i64 0, .int .i64 0, .int .i64 0, .string ⟨#[]⟩, .slice none 0 0, .bool false] 44)
  have HO := Lib.hid hxo
  have HR := Lib.hid (show W1.heap[g1]? = some zx8 from hxr)
  have HP1 := Lib.hid (h.later hb1)
  have HB1 := Lib.hid hb1
  have HG1 := Lib.hid (show w.heap.size < g1 by omega)
  have HLt := Lib.hid h.lt
  have HW1 := Lib.hid hW1
  have HEG := Lib.hid eg1
  have HCk := Lib.hid (show Calls Tryz.prog 19 #[.agg #[.int .i64 8, .string p, .int .i64 o, .int .i64 N, .int .i64 id, .string img]] W1 fun e w'' => e = .returned (.int .i64 0) ∧ Below W1.heap.size W1 w'' from (chk_any 8 p o N id img W1).mono fun e w'' ⟨h1, h2⟩ => ⟨by rw [h1]; unfold chkI; rw [hbad]; rfl, h2⟩)
  have HI := Lib.hid HIn
  clear hW1 eg1 hxo hxr hb1 lg1 h hbad HIn
  unfold opV
  have c0 := cell_of_blk HO.out 0
  have c1 := cell_of_blk HO.out 1
  have c2 := cell_of_blk HO.out 2
  have c3 := cell_of_blk HO.out 3
  have c4 := cell_of_blk HO.out 4
  have c5 := cell_of_blk HO.out 5
  go_enter Tryz.func30, Tryz.ntmps30
  go_upto_region 1 with fail
  rw [HW1.out]
  simp only [HEG.out]
  clear HW1 HEG
  go_wp2_with fail
  refine HCk.out.mono ?_
  rintro e w3 ⟨rfl, hb3⟩
  have HBc := Lib.hid (HB1.out.trans (hb3.mono HB1.out.size))
  have HXr := Lib.hid ((hb3.block _ (lt_of_some HR.out)).trans HR.out)
  have eo := (hb3.block _ (lt_of_some HO.out)).trans HO.out
  have HIc := Lib.hid (HI.out w3 HBc.out (HP1.out.later hb3))
  clear c0 c1 c2 c3 c4 c5
  have c0 := cell_of_blk eo 0
  have c5 := cell_of_blk eo 5
  clear hb3 eo HCk HI
  go_wp2_with fail
  refine HIc.out.mono ?_
  rintro e v2 ⟨A9, c9, hQ, A2, c2', ⟨rfl, hsp, htn⟩, hrow, hhi, hnz⟩
  have HQ := Lib.hid hQ
  clear hQ HIc c0 c5
  obtain ⟨hxq, hpq⟩ := putD (er := er) (idr := idr) (fin := fin) (c' := c2') hsp htn HBc.out HLt.out (Nat.le_of_lt HG1.out) HXr.out hrow hhi hnz
  have HPut := Lib.hid hpq
  have y0 := cell_of_blk hxq 0
  have z0 := free_of_blk hxq 0
  have y1 := cell_of_blk hxq 1
  have z1 := free_of_blk hxq 1
  have y2 := cell_of_blk hxq 2
  have z2 := free_of_blk hxq 2
  have y3 := cell_of_blk hxq 3
  have z3 := free_of_blk hxq 3
  have y4 := cell_of_blk hxq 4
  have z4 := free_of_blk hxq 4
  have y5 := cell_of_blk hxq 5
  have z5 := free_of_blk hxq 5
  have y6 := cell_of_blk hxq 6
  have z6 := free_of_blk hxq 6
  have y7 := cell_of_blk hxq 7
  have z7 := free_of_blk hxq 7
  clear hxq hpq hsp htn hrow hhi hnz
  unfold resP
  obtain ⟨nl, hnl⟩ : ∃ nl, nl = nm.length := ⟨_, rfl⟩
  rw [← hnl] at HPut ⊢
  have HNl := Lib.hid hnl
  clear hnl
  go_wp2_with fail
  obtain ⟨p0, p1, p2, p3, p4, p5, p6, p7, HE⟩ := HPut.out _ rfl
  unfold set8 at p0 p1 p2 p3 p4 p5 p6 p7 HE
  exact bodyPost_ret (v := resP er idr A2 nl c2' fin) (by unfold resP; simp [results, Tryz.results30, go_sem, p0, p1, p2, p3, p4, p5, p6, p7]) rfl ⟨A9, c9, HQ.out, HE⟩
set_option maxHeartbeats 6400000 in
theorem do_9 {B s t m : Nat} {A : Option Addr} {c : Nat} {L : List (Nat × Int)} {ad ep r n : Int} {C : cur.Cs} {w : World} (p : ByteArray) (o N id : Int) (img : ByteArray) (L' : List (Nat × Int)) (ad' ep' r' n' : Int) (C' : cur.Cs) (er idr : Int) (nm : List ByteArray) (fin : Bool) (Q : Option Addr → Nat → Prop) (h : Sp B s t m A c L ad ep r n C w) (hbad : badB 9 o N = false)
    (HIn : ∀ w', Below w.heap.size w w' → Sp B s t m A c L ad ep r n C w' → Calls Tryz.prog 34 #[.pointer (some ⟨s, 0, none⟩), .int .i64 id] w' fun e w'' => ∃ A' c', Q A' c' ∧ DoO B s t m A' c' L' ad' ep' r' n' C' er idr nm fin w' e w'') :
    Calls Tryz.prog 30 #[.pointer (some ⟨s, 0, none⟩), opV 9 p o N id img] w fun e w' => ∃ A' c', Q A' c' ∧ DoO B s t m A' c' L' ad' ep' r' n' C' er idr nm fin w e w' := by
  obtain ⟨g1, W1, hW1, eg1, hxo, hxr, hb1, lg1⟩ := two_boxes w (.cells #[.int .i64 9, .string p, .int .i64 o, .int .i64 N, .int .i64 id, .string img] 47) (.cells #[.int .i64 0, .int .i64 0, .int .i64 0, .int .i64 0, .int .i64 0, .string ⟨#[]⟩, .slice none 0 0, .bool false] 44)
  have HO := Lib.hid hxo
  have HR := Lib.hid (show W1.heap[g1]? = some zx8 from hxr)
  have HP1 := Lib.hid (h.later hb1)
  have HB1 := Lib.hid hb1
  have HG1 := Lib.hid (show w.heap.size < g1 by omega)
  have HLt := Lib.hid h.lt
  have HW1 := Lib.hid hW1
  have HEG := Lib.hid eg1
  have HCk := Lib.hid (show Calls Tryz.prog 19 #[.agg #[.int .i64 9, .string p, .int .i64 o, .int .i64 N, .int .i64 id, .string img]] W1 fun e w'' => e = .returned (.int .i64 0) ∧ Below W1.heap.size W1 w'' from (chk_any 9 p o N id img W1).mono fun e w'' ⟨h1, h2⟩ => ⟨by rw [h1]; unfold chkI; rw [hbad]; rfl, h2⟩)
  have HI := Lib.hid HIn
  clear hW1 eg1 hxo hxr hb1 lg1 h hbad HIn
  unfold opV
  have c0 := cell_of_blk HO.out 0
  have c1 := cell_of_blk HO.out 1
  have c2 := cell_of_blk HO.out 2
  have c3 := cell_of_blk HO.out 3
  have c4 := cell_of_blk HO.out 4
  have c5 := cell_of_blk HO.out 5
  go_enter Tryz.func30, Tryz.ntmps30
  go_upto_region 1 with fail
  rw [HW1.out]
  simp only [HEG.out]
  clear HW1 HEG
  go_wp2_with fail
  refine HCk.out.mono ?_
  rintro e w3 ⟨rfl, hb3⟩
  have HBc := Lib.hid (HB1.out.trans (hb3.mono HB1.out.size))
  have HXr := Lib.hid ((hb3.block _ (lt_of_some HR.out)).trans HR.out)
  have eo := (hb3.block _ (lt_of_some HO.out)).trans HO.out
  have HIc := Lib.hid (HI.out w3 HBc.out (HP1.out.later hb3))
  clear c0 c1 c2 c3 c4 c5
  have c0 := cell_of_blk eo 0
  have c4 := cell_of_blk eo 4
  clear hb3 eo HCk HI
  go_wp2_with fail
  refine HIc.out.mono ?_
  rintro e v2 ⟨A9, c9, hQ, A2, c2', ⟨rfl, hsp, htn⟩, hrow, hhi, hnz⟩
  have HQ := Lib.hid hQ
  clear hQ HIc c0 c4
  obtain ⟨hxq, hpq⟩ := putD (er := er) (idr := idr) (fin := fin) (c' := c2') hsp htn HBc.out HLt.out (Nat.le_of_lt HG1.out) HXr.out hrow hhi hnz
  have HPut := Lib.hid hpq
  have y0 := cell_of_blk hxq 0
  have z0 := free_of_blk hxq 0
  have y1 := cell_of_blk hxq 1
  have z1 := free_of_blk hxq 1
  have y2 := cell_of_blk hxq 2
  have z2 := free_of_blk hxq 2
  have y3 := cell_of_blk hxq 3
  have z3 := free_of_blk hxq 3
  have y4 := cell_of_blk hxq 4
  have z4 := free_of_blk hxq 4
  have y5 := cell_of_blk hxq 5
  have z5 := free_of_blk hxq 5
  have y6 := cell_of_blk hxq 6
  have z6 := free_of_blk hxq 6
  have y7 := cell_of_blk hxq 7
  have z7 := free_of_blk hxq 7
  clear hxq hpq hsp htn hrow hhi hnz
  unfold resP
  obtain ⟨nl, hnl⟩ : ∃ nl, nl = nm.length := ⟨_, rfl⟩
  rw [← hnl] at HPut ⊢
  have HNl := Lib.hid hnl
  clear hnl
  go_wp2_with fail
  obtain ⟨p0, p1, p2, p3, p4, p5, p6, p7, HE⟩ := HPut.out _ rfl
  unfold set8 at p0 p1 p2 p3 p4 p5 p6 p7 HE
  exact bodyPost_ret (v := resP er idr A2 nl c2' fin) (by unfold resP; simp [results, Tryz.results30, go_sem, p0, p1, p2, p3, p4, p5, p6, p7]) rfl ⟨A9, c9, HQ.out, HE⟩
end Go.Proofs.YtkbhcncbpiimdaaGreatDoor.spc
