/- A State in memory: branches, an epoch, cursors; what New, Stale, Begin answer. Conditions: the State lies in memory. What a State's Begin, open, Remove answer, and what they turn. Conditions: the State lies in memory. What a State's change and Remove answer, and what they turn. Conditions: the State lies in memory. -/
import Derived.Test.YtkbhcncbpiimdaaGreatDoorJC1
import Derived.Test.YtkbhcncbpiimdaaGreatDoorJU9
import Derived.Deep.RegionHeld3
namespace Go.Proofs.YtkbhcncbpiimdaaGreatDoor.spc
set_option maxRecDepth 100000
open Go.RowKit Go.Proofs.YtkbhcncbpiimdaaGreatDoor.words Go.Proofs.YtkbhcncbpiimdaaGreatDoor.ext Go.Proofs.YtkbhcncbpiimdaaGreatDoor.name Go.Proofs.YtkbhcncbpiimdaaGreatDoor.tre Go.Proofs.YtkbhcncbpiimdaaGreatDoor.stk Go.Proofs.YtkbhcncbpiimdaaGreatDoor.seen Go.Proofs.YtkbhcncbpiimdaaGreatDoor.wlk Go.Proofs.YtkbhcncbpiimdaaGreatDoor.uni

structure Sp (B s t m : Nat) (A : Option Addr) (c : Nat) (L : List (Nat × Int)) (ad ep r n : Int) (C : cur.Cs) (w : World) : Prop where
  ge : B ≤ s
  blk : w.heap[s]? = some (.cells #[.slice A L.length c, .int .i64 ad, .int .i64 ep, .pointer (some ⟨t, 0, none⟩)] 82 (0, 0))
  tb : cur.Tb w B t m r n C
section
variable {B s t m : Nat} {A : Option Addr} {c : Nat} {L : List (Nat × Int)} {ad ep r n n' : Int} {C C' : cur.Cs} {w w' : World}
theorem Sp.later (h : Sp B s t m A c L ad ep r n C w) (hb : Below w.heap.size w w') : Sp B s t m A c L ad ep r n C w' := ⟨h.ge, (hb.block _ (lt_of_some h.blk)).trans h.blk, h.tb.later hb⟩
theorem Sp.ne (h : Sp B s t m A c L ad ep r n C w) : ¬ cur.Bk t m s := fun hj => absurd (h.tb.type hj h.blk) (by decide)
theorem Sp.kept (h : Sp B s t m A c L ad ep r n C w) (hk : cur.Kept w B t m r n' C' w') (hB : B ≤ w.heap.size) : Sp B s t m A c L ad ep r n' C' w' ∧ Below B w w' :=
  ⟨⟨h.ge, (hk.tn.block s (lt_of_some h.blk) h.ne).trans h.blk, hk.tb⟩, hk.below h.tb hB⟩
theorem Sp.lt (h : Sp B s t m A c L ad ep r n C w) : s < w.heap.size ∧ t < w.heap.size ∧ m < w.heap.size := ⟨lt_of_some h.blk, (h.tb.lt t (.inl rfl)).2, (h.tb.lt m (.inr rfl)).2⟩
theorem Sp.low {q : Nat} (h : Sp B s t m A c L ad ep r n C w) (hq : s < q ∧ t < q ∧ m < q) (hb : Below q w w') : Sp B s t m A c L ad ep r n C w' :=
  ⟨h.ge, (hb.block _ hq.1).trans h.blk, h.tb.tn (S := fun j => q ≤ j) ⟨hb.os, hb.tape, hb.output, hb.size, fun k hk hS => hb.block k (Nat.lt_of_not_le hS)⟩ fun j hj => by
    rcases hj with rfl | rfl
    · exact Nat.not_le_of_lt hq.2.1
    · exact Nat.not_le_of_lt hq.2.2⟩
end
theorem tb_base {w : World} {B B' t m : Nat} {r n : Int} {C : cur.Cs} (h : cur.Tb w B t m r n C) (hB : B' ≤ B) : cur.Tb w B' t m r n C := ⟨Nat.le_trans hB h.1, Nat.le_trans hB h.2.1, h.2.2⟩
def resP (e id : Int) (A : Option Addr) (n c : Nat) (b : Bool) : Value := .agg #[.int .i64 e, .int .i64 0, .int .i64 0, .int .i64 0, .int .i64 id, .string ⟨#[]⟩, .slice A n c, .bool b]
theorem putP {a w3 : World} {B rb : Nat} (hB : B ≤ rb) (hx : w3.heap[rb]? = some zx8) (hb : Below B a w3) (e id : Int) (A : Option Addr) (n c : Nat) (b : Bool) :
    ∀ w4, w4 = set8 w3 rb (.int .i64 e) (.int .i64 0) (.int .i64 0) (.int .i64 0) (.int .i64 id) (.string ⟨#[]⟩) (.slice A n c) (.bool b) → w4.cell? ⟨rb, 0, none⟩ = some (.int .i64 e) ∧ w4.cell? ⟨rb, 1, none⟩ = some (.int .i64 0) ∧ w4.cell? ⟨rb, 2, none⟩ = some (.int .i64 0) ∧ w4.cell? ⟨rb, 3, none⟩ = some (.int .i64 0) ∧
      w4.cell? ⟨rb, 4, none⟩ = some (.int .i64 id) ∧ w4.cell? ⟨rb, 5, none⟩ = some (.string ⟨#[]⟩) ∧ w4.cell? ⟨rb, 6, none⟩ = some (.slice A n c) ∧ w4.cell? ⟨rb, 7, none⟩ = some (.bool b) ∧ Below B a w4 := fun w4 hw => by
  have ho := uni.over8 (u0 := .int .i64 e) (u1 := .int .i64 0) (u2 := .int .i64 0) (u3 := .int .i64 0) (u4 := .int .i64 id) (u5 := .string ⟨#[]⟩) (u6 := .slice A n c) (u7 := .bool b) hx
  have hbd := uni.below8 hb hB (.int .i64 e) (.int .i64 0) (.int .i64 0) (.int .i64 0) (.int .i64 id) (.string ⟨#[]⟩) (.slice A n c) (.bool b)
  rw [← hw] at ho hbd
  exact ⟨cell_of_blk ho 0, cell_of_blk ho 1, cell_of_blk ho 2, cell_of_blk ho 3, cell_of_blk ho 4, cell_of_blk ho 5, cell_of_blk ho 6, cell_of_blk ho 7, hbd⟩
theorem putC {a w3 : World} {B rb : Nat} {T : TypeId} {c0 c1 c2 : Value} (hB : B ≤ rb) (hx : w3.heap[rb]? = some (.cells #[c0, c1, c2] T (0, 0))) (hb : Below B a w3) (u0 u1 u2 : Value) :
    ∀ w4, w4 = set3 w3 rb u0 u1 u2 → w4.cell? ⟨rb, 0, none⟩ = some u0 ∧ w4.cell? ⟨rb, 1, none⟩ = some u1 ∧ w4.cell? ⟨rb, 2, none⟩ = some u2 ∧ Below B a w4 := fun w4 hw => by
  have ho := over3 (u0 := u0) (u1 := u1) (u2 := u2) hx
  have hbd : Below B a (set3 w3 rb u0 u1 u2) := ((hb.setCell (p := ⟨rb, 0, none⟩) hB u0).setCell (p := ⟨rb, 1, none⟩) hB u1).setCell (p := ⟨rb, 2, none⟩) hB u2
  rw [← hw] at ho hbd
  exact ⟨cell_of_blk ho 0, cell_of_blk ho 1, cell_of_blk ho 2, hbd⟩
def MadeS (w : World) (A : Option Addr) (c : Nat) (L : List (Nat × Int)) (ad r : Int) (e : Ending) (w' : World) : Prop := ∃ s t m, e = .returned (.pointer (some ⟨s, 0, none⟩)) ∧ Sp w.heap.size s t m A c L ad 0 r 0 [] w' ∧ Below w.heap.size w w'
set_option maxHeartbeats 3200000 in
theorem snew_any (A : Option Addr) (c : Nat) (L : List (Nat × Int)) (ad room r : Int) (w : World) (hr : r = min (max room 1) 1024) :
    Calls Tryz.prog 27 #[.agg #[.slice A L.length c, .int .i64 ad], .int .i64 room] w (MadeS w A c L ad r) := by
  obtain ⟨W1, hW1⟩ : ∃ W1, W1 = w.alloc (.cells #[.slice A L.length c, .int .i64 ad] 27) := ⟨_, rfl⟩
  have hb1 : Below w.heap.size w W1 := by rw [hW1]; exact (Below.refl _ _).alloc (Nat.le_refl _) _
  have HS := Lib.hid (show W1.heap[w.heap.size]? = some (.cells #[.slice A L.length c, .int .i64 ad] 27 (0, 0)) by rw [hW1]; exact heap_alloc_new w _)
  have HB1 := Lib.hid hb1
  have HW1 := Lib.hid hW1
  have HSS : Hid (∀ w' : World, Below W1.heap.size W1 w' → (w'.cell? ⟨w.heap.size, 0, none⟩ = some (.slice A L.length c) ∧ w'.cell? ⟨w.heap.size, 1, none⟩ = some (.int .i64 ad) ∧ Below W1.heap.size W1 w')) := Lib.hid fun w' hb => by
    have e1 := (hb.block _ (lt_of_some HS.out)).trans HS.out
    exact ⟨cell_of_blk e1 0, cell_of_blk e1 1, hb⟩
  have HBv : Hid (Below W1.heap.size W1 W1.drew) := Lib.hid (Below.refl _ _).drew
  have HC : Hid (∀ w' : World, Calls Tryz.prog 57 #[.int .i64 room] w' (cur.MadeC w' r)) := Lib.hid fun w' => cur.new_any room r w' hr
  clear hW1 hb1 hr
  go_enter Tryz.func27, Tryz.ntmps27
  go_upto_region 1 with fail
  rw [← HW1.out]
  clear HW1
  refine wp_region_held_drew (S := fun w' => (w'.cell? ⟨w.heap.size, 0, none⟩ = some (.slice A L.length c) ∧ w'.cell? ⟨w.heap.size, 1, none⟩ = some (.int .i64 ad) ∧ Below W1.heap.size W1 w')) (by kernel_rfl) (HSS.out _ HBv.out) (fun hHeld => ?_)
  refine wpAnyH_take (i := 0) (oi := ⟨some 5, _, _, _, _, _⟩) (v := ?_) rfl (by kernel_rfl) (by kernel_rfl) (by kernel_rfl) (fun _ _ _ h => h) (Or.inl ⟨by kernel_rfl, ?_⟩) (by assumption) ?_
  rotate_left 1
  focus (intro w' hSw; (try dsimp only at hSw); go_simp; (try with_reducible rfl))
  try simp only [Act.put, List.setIfInBounds_toArray, List.set_cons_zero, List.set_cons_succ]
  refine wpAnyH_take (i := 1) (oi := ⟨some 6, _, _, _, _, _⟩) (v := ?_) rfl (by kernel_rfl) (by kernel_rfl) (by kernel_rfl) (fun _ _ _ h => h) (Or.inl ⟨by kernel_rfl, ?_⟩) (by assumption) ?_
  rotate_left 1
  focus (intro w' hSw; (try dsimp only at hSw); go_simp; (try with_reducible rfl))
  try simp only [Act.put, List.setIfInBounds_toArray, List.set_cons_zero, List.set_cons_succ]
  refine wpAnyH_ready (rs := [2]) (by kernel_rfl) (by simp) ?_
  refine AllReadyH.cons rfl (fun K hK => ?_) AllReadyH.nil
  go_simp
  go_at_call 57
  refine (HC.out _).mono ?_
  rintro en v1 ⟨t, m, rfl, htb, hv1⟩
  have hq1 := HBv.out.trans (hv1.mono HBv.out.size)
  clear hHeld
  refine hK.out _ _ (HSS.out _ hq1) (fun hHeld => ?_)
  clear hK
  refine wpAnyH_take (i := 3) (oi := ⟨some 8, _, _, _, _, _⟩) (v := ?_) rfl (by kernel_rfl) (by kernel_rfl) (by kernel_rfl) (fun _ _ _ h => h) (Or.inl ⟨by kernel_rfl, ?_⟩) (by assumption) ?_
  rotate_left 1
  focus (intro w' hSw; (try dsimp only at hSw); go_simp; (try with_reducible rfl))
  try simp only [Act.put, List.setIfInBounds_toArray, List.set_cons_zero, List.set_cons_succ]
  refine wpAnyH_ready (rs := [4]) (by kernel_rfl) (by simp) ?_
  refine AllReadyH.cons rfl (fun K hK => ?_) AllReadyH.nil
  go_simp
  clear hHeld
  refine hK.out _ _ (HSS.out _ (hq1.alloc (Nat.le_trans HBv.out.size hv1.size) _)) (fun hHeld => ?_)
  clear hK
  refine wpAnyH_take (i := 5) (oi := ⟨some 4, _, _, _, _, _⟩) (v := ?_) rfl (by kernel_rfl) (by kernel_rfl) (by kernel_rfl) (fun _ _ _ h => h) (Or.inl ⟨by kernel_rfl, ?_⟩) (by assumption) ?_
  rotate_left 1
  focus (intro w' hSw; (try dsimp only at hSw); go_simp; (try with_reducible rfl))
  try simp only [Act.put, List.setIfInBounds_toArray, List.set_cons_zero, List.set_cons_succ]
  refine wpAnyH_done (by kernel_rfl) ?_ _
  clear hHeld
  obtain ⟨V, hV⟩ : ∃ V, V = v1.alloc (.cells #[.slice A L.length c, .int .i64 ad, .int .i64 0, .pointer (some ⟨t, 0, none⟩)] 82) := ⟨_, rfl⟩
  have hbV : Below v1.heap.size v1 V := by rw [hV]; exact (Below.refl _ _).alloc (Nat.le_refl _) _
  have hxV : V.heap[v1.heap.size]? = some (.cells #[.slice A L.length c, .int .i64 ad, .int .i64 0, .pointer (some ⟨t, 0, none⟩)] 82 (0, 0)) := by rw [hV]; exact heap_alloc_new v1 _
  have hbw := HB1.out.trans ((hq1.trans (hbV.mono hq1.size)).mono HB1.out.size)
  have HEnd : Hid (MadeS w A c L ad r (.returned (.pointer (some ⟨v1.heap.size, 0, none⟩))) V) := Lib.hid ⟨_, t, m, rfl, ⟨Nat.le_trans HB1.out.size hq1.size, hxV, tb_base (htb.later hbV) (Nat.le_trans HB1.out.size HBv.out.size)⟩, hbw⟩
  have HV := Lib.hid hV
  clear hV hbV hxV hbw htb hv1 hq1 HSS HBv HC
  rw [← HV.out]
  go_wp2_with fail
  go_ret
  exact HEnd.out
def stC (C : cur.Cs) (ep id : Int) : cur.Cu := if (cur.gotC C id).ep = ep ∧ cur.gotE C id = 0 then cur.gotC C id else cur.c0
def stE (C : cur.Cs) (ep id : Int) : Int := if cur.gotE C id = 0 then (if (cur.gotC C id).ep = ep then 0 else 8) else 9
def StaleO (w : World) (x : cur.Cu) (k : Int) (e : Ending) (w' : World) : Prop := e = .returned (.tuple #[.agg #[.int .i64 x.ep, .string x.dr, .int .i64 x.at_], .int .i64 k]) ∧ Below w.heap.size w w'
set_option maxHeartbeats 6400000 in
theorem stale_any {B s t m : Nat} {A : Option Addr} {c : Nat} {L : List (Nat × Int)} {ad ep r n : Int} {C : cur.Cs} {w : World} (id : Int) (h : Sp B s t m A c L ad ep r n C w) (hx : mpi.Fits id) :
    Calls Tryz.prog 36 #[.pointer (some ⟨s, 0, none⟩), .int .i64 id] w (StaleO w (stC C ep id) (stE C ep id)) := by
  obtain ⟨W1, hW1⟩ : ∃ W1, W1 = w.alloc (.cells #[.int .i64 0, .string ⟨#[]⟩, .int .i64 0] 91) := ⟨_, rfl⟩
  have hb1 : Below w.heap.size w W1 := by rw [hW1]; exact (Below.refl _ _).alloc (Nat.le_refl _) _
  have HX := Lib.hid (show W1.heap[w.heap.size]? = some (.cells #[.int .i64 0, .string ⟨#[]⟩, .int .i64 0] 91 (0, 0)) by rw [hW1]; exact heap_alloc_new w _)
  have HB1 := Lib.hid hb1
  have HP1 := Lib.hid (h.later hb1)
  have HG := Lib.hid (show Calls Tryz.prog 72 #[.pointer (some ⟨t, 0, none⟩), .int .i64 id] W1 (cur.GotC W1 (cur.gotC C id) (cur.gotE C id)) from cur.get_any B t m r n C id W1 HP1.out.tb hx)
  have HE9 : Hid (cur.gotE C id = 0 ∨ cur.gotE C id = 9) := Lib.hid (by unfold cur.gotE; split <;> simp)
  have s3 := cell_of_blk HP1.out.blk 3
  have HW1 := Lib.hid hW1
  clear hW1 hb1 h
  obtain ⟨⟨gep, gdr, gat⟩, hgc⟩ : ∃ g, g = cur.gotC C id := ⟨_, rfl⟩
  obtain ⟨ge, hge⟩ : ∃ g, g = cur.gotE C id := ⟨_, rfl⟩
  rw [← hgc, ← hge] at HG
  rw [← hge] at HE9
  have HR : Hid ((ge = 9 → stC C ep id = cur.c0 ∧ stE C ep id = 9) ∧ (ge = 0 → gep = ep → stC C ep id = ⟨gep, gdr, gat⟩ ∧ stE C ep id = 0) ∧ (ge = 0 → gep ≠ ep → stC C ep id = cur.c0 ∧ stE C ep id = 8)) := Lib.hid (by
    unfold stC stE
    rw [← hgc, ← hge]
    refine ⟨fun h => ?_, fun h h2 => ?_, fun h h2 => ?_⟩
    · subst h
      exact ⟨if_neg (fun h => absurd h.2 (by decide)), if_neg (by decide)⟩
    · subst h
      exact ⟨if_pos ⟨h2, rfl⟩, by rw [if_pos rfl]; exact if_pos h2⟩
    · subst h
      exact ⟨if_neg (fun h => h2 h.1), by rw [if_pos rfl]; exact if_neg h2⟩)
  clear hgc hge
  go_enter Tryz.func36, Tryz.ntmps36
  go_upto_region 1 with fail
  rw [← HW1.out]
  clear HW1
  go_wp2_with fail
  refine HG.out.mono ?_
  rintro e w2 ⟨rfl, hb2⟩
  obtain ⟨W3, hW3⟩ : ∃ W3, W3 = w2.alloc (.cells #[.int .i64 gep, .string gdr, .int .i64 gat] 91) := ⟨_, rfl⟩
  have hb3 : Below w2.heap.size w2 W3 := by rw [hW3]; exact (Below.refl _ _).alloc (Nat.le_refl _) _
  have hx3 : W3.heap[w2.heap.size]? = some (.cells #[.int .i64 gep, .string gdr, .int .i64 gat] 91 (0, 0)) := by rw [hW3]; exact heap_alloc_new w2 _
  have hb13 := hb2.trans (hb3.mono hb2.size)
  have HB3 := Lib.hid (HB1.out.trans (hb13.mono HB1.out.size))
  have e1 := ((hb13).block _ (lt_of_some HX.out)).trans HX.out
  have HP3 := Lib.hid (HP1.out.later hb13)
  have HX3 := Lib.hid hx3
  have HE1 := Lib.hid e1
  have HW3 := Lib.hid hW3
  have z0 := free_of_blk e1 0
  have z1 := free_of_blk e1 1
  have z2 := free_of_blk e1 2
  have y0 := cell_of_blk e1 0
  have y1 := cell_of_blk e1 1
  have y2 := cell_of_blk e1 2
  clear hW3 hb3 hb2 hx3 hb13 e1 HG s3
  rcases HE9.out with rfl | rfl
  rotate_left 1
  · have HRn := Lib.hid (HR.out.1 rfl)
    have HPut := Lib.hid (putC (rb := w.heap.size) (Nat.le_refl _) HE1.out HB3.out (.int .i64 0) (.string ⟨#[]⟩) (.int .i64 0))
    go_upto_region 2 with fail
    rw [← HW3.out]
    go_wp2_with fail
    obtain ⟨p0, p1, p2, HEn⟩ := HPut.out _ rfl
    unfold set3 at p0 p1 p2 HEn
    exact bodyPost_ret (v := .tuple #[.agg #[.int .i64 0, .string ⟨#[]⟩, .int .i64 0], .int .i64 9]) (by simp [results, Tryz.results36, go_sem, p0, p1, p2]) rfl ⟨by rw [HRn.out.1, HRn.out.2] <;> rfl, HEn⟩
  have s2 := cell_of_blk HP3.out.blk 2
  have x0 := cell_of_blk HX3.out 0
  have x1 := cell_of_blk HX3.out 1
  have x2 := cell_of_blk HX3.out 2
  have HSS : Hid (∀ w' : World, Below W3.heap.size W3 w' → (w'.cell? ⟨s, 2, none⟩ = some (.int .i64 ep) ∧ w'.cell? ⟨w2.heap.size, 0, none⟩ = some (.int .i64 gep) ∧ Below W3.heap.size W3 w')) := Lib.hid fun w' hb => by
    have e1 := (hb.block _ (lt_of_some HX3.out)).trans HX3.out
    exact ⟨cell_of_blk (HP3.out.later hb).blk 2, cell_of_blk e1 0, hb⟩
  have HBv : Hid (Below W3.heap.size W3 W3.drew) := Lib.hid (Below.refl _ _).drew
  have HB3d := Lib.hid (HB3.out.drew)
  have HE1d : Hid (W3.drew.heap[w.heap.size]? = some (.cells #[.int .i64 0, .string ⟨#[]⟩, .int .i64 0] 91 (0, 0))) := Lib.hid HE1.out
  by_cases hep : gep = ep
  · have HRn := Lib.hid (HR.out.2.1 rfl hep)
    clear HR
    subst hep
    have g1 : (gep != gep) = false := bne_self_eq_false _
    clear x0 s2
    go_upto_region 2 with fail
    rw [← HW3.out]
    go_upto_region 4 with fail
    refine wp_region_held_drew (S := fun w' => (w'.cell? ⟨s, 2, none⟩ = some (.int .i64 gep) ∧ w'.cell? ⟨w2.heap.size, 0, none⟩ = some (.int .i64 gep) ∧ Below W3.heap.size W3 w')) (by kernel_rfl) (HSS.out _ HBv.out) (fun hHeld => ?_)
    refine wpAnyH_take (i := 0) (oi := ⟨some 21, _, _, _, _, _⟩) (v := ?_) rfl (by kernel_rfl) (by kernel_rfl) (by kernel_rfl) (fun _ _ _ h => h) (Or.inl ⟨by kernel_rfl, ?_⟩) (by assumption) ?_
    rotate_left 1
    focus (intro w' hSw; (try dsimp only at hSw); go_simp; (try with_reducible rfl))
    try simp only [Act.put, List.setIfInBounds_toArray, List.set_cons_zero, List.set_cons_succ]
    refine wpAnyH_take (i := 1) (oi := ⟨some 22, _, _, _, _, _⟩) (v := ?_) rfl (by kernel_rfl) (by kernel_rfl) (by kernel_rfl) (fun _ _ _ h => h) (Or.inl ⟨by kernel_rfl, ?_⟩) (by assumption) ?_
    rotate_left 1
    focus (intro w' hSw; (try dsimp only at hSw); go_simp; (try with_reducible rfl))
    try simp only [Act.put, List.setIfInBounds_toArray, List.set_cons_zero, List.set_cons_succ]
    refine wpAnyH_take (i := 2) (oi := ⟨some 23, _, _, _, _, _⟩) (v := ?_) rfl (by kernel_rfl) (by kernel_rfl) (by kernel_rfl) (fun _ _ _ h => h) (Or.inl ⟨by kernel_rfl, ?_⟩) (by assumption) ?_
    rotate_left 1
    focus (intro w' hSw; (try dsimp only at hSw); go_simp; (try with_reducible rfl))
    try simp only [Act.put, List.setIfInBounds_toArray, List.set_cons_zero, List.set_cons_succ]
    refine wpAnyH_take (i := 3) (oi := ⟨some 24, _, _, _, _, _⟩) (v := ?_) rfl (by kernel_rfl) (by kernel_rfl) (by kernel_rfl) (fun _ _ _ h => h) (Or.inl ⟨by kernel_rfl, ?_⟩) (by assumption) ?_
    rotate_left 1
    focus (intro w' hSw; (try dsimp only at hSw); go_simp; (try with_reducible rfl))
    try simp only [Act.put, List.setIfInBounds_toArray, List.set_cons_zero, List.set_cons_succ]
    refine wpAnyH_take (i := 4) (oi := ⟨some 25, _, _, _, _, _⟩) (v := ?_) rfl (by kernel_rfl) (by kernel_rfl) (by kernel_rfl) (fun _ _ _ h => h) (Or.inl ⟨by kernel_rfl, ?_⟩) (by assumption) ?_
    rotate_left 1
    focus (intro w' hSw; (try dsimp only at hSw); go_simp; (try with_reducible rfl))
    try simp only [Act.put, List.setIfInBounds_toArray, List.set_cons_zero, List.set_cons_succ]
    refine wpAnyH_take (i := 5) (oi := ⟨some 26, _, _, _, _, _⟩) (v := ?_) rfl (by kernel_rfl) (by kernel_rfl) (by kernel_rfl) (fun _ _ _ h => h) (Or.inl ⟨by kernel_rfl, ?_⟩) (by assumption) ?_
    rotate_left 1
    focus (intro w' hSw; (try dsimp only at hSw); go_simp; (try with_reducible rfl))
    try simp only [Act.put, List.setIfInBounds_toArray, List.set_cons_zero, List.set_cons_succ]
    refine wpAnyH_take (i := 6) (oi := ⟨some 27, _, _, _, _, _⟩) (v := ?_) rfl (by kernel_rfl) (by kernel_rfl) (by kernel_rfl) (fun _ _ _ h => h) (Or.inl ⟨by kernel_rfl, ?_⟩) (by assumption) ?_
    rotate_left 1
    focus (intro w' hSw; (try dsimp only at hSw); go_simp; (try with_reducible rfl))
    try simp only [Act.put, List.setIfInBounds_toArray, List.set_cons_zero, List.set_cons_succ]
    refine wpAnyH_done (by kernel_rfl) ?_ _
    clear hHeld HSS
    have HPut := Lib.hid (putC (rb := w.heap.size) (Nat.le_refl _) HE1d.out HB3d.out (.int .i64 gep) (.string gdr) (.int .i64 gat))
    obtain ⟨V, hV⟩ : ∃ V, V = W3.drew := ⟨_, rfl⟩
    have hcV : ∀ a, V.cell? a = W3.cell? a := fun a => by rw [hV]; rfl
    rw [← hV] at HPut ⊢
    have y0 : V.cell? ⟨w.heap.size, 0, none⟩ = some (.int .i64 0) := (hcV _).trans y0
    have y1 : V.cell? ⟨w.heap.size, 1, none⟩ = some (.string ⟨#[]⟩) := (hcV _).trans y1
    have y2 : V.cell? ⟨w.heap.size, 2, none⟩ = some (.int .i64 0) := (hcV _).trans y2
    have e1v : V.heap[w.heap.size]? = some (.cells #[.int .i64 0, .string ⟨#[]⟩, .int .i64 0] 91 (0, 0)) := by rw [hV]; exact HE1d.out
    clear z0 z1 z2
    have z0 := free_of_blk e1v 0
    have z1 := free_of_blk e1v 1
    have z2 := free_of_blk e1v 2
    have x3v : V.heap[w2.heap.size]? = some (.cells #[.int .i64 gep, .string gdr, .int .i64 gat] 91 (0, 0)) := by rw [hV]; exact HX3.out
    clear x1 x2
    have x0 := cell_of_blk x3v 0
    have x1 := cell_of_blk x3v 1
    have x2 := cell_of_blk x3v 2
    clear x3v
    clear hcV e1v
    have HV := Lib.hid hV
    clear hV
    go_wp2_with fail
    obtain ⟨p0, p1, p2, HEn⟩ := HPut.out _ rfl
    unfold set3 at p0 p1 p2 HEn
    exact bodyPost_ret (v := .tuple #[.agg #[.int .i64 gep, .string gdr, .int .i64 gat], .int .i64 0]) (by simp [results, Tryz.results36, go_sem, p0, p1, p2]) rfl ⟨by rw [HRn.out.1, HRn.out.2] <;> rfl, HEn⟩
  · have HRn := Lib.hid (HR.out.2.2 rfl hep)
    have g1 : (gep != ep) = true := by rw [bne_iff_ne]; exact hep
    clear x0 s2 HR
    go_upto_region 2 with fail
    rw [← HW3.out]
    go_upto_region 4 with fail
    refine wp_region_held_drew (S := fun w' => (w'.cell? ⟨s, 2, none⟩ = some (.int .i64 ep) ∧ w'.cell? ⟨w2.heap.size, 0, none⟩ = some (.int .i64 gep) ∧ Below W3.heap.size W3 w')) (by kernel_rfl) (HSS.out _ HBv.out) (fun hHeld => ?_)
    refine wpAnyH_take (i := 0) (oi := ⟨some 21, _, _, _, _, _⟩) (v := ?_) rfl (by kernel_rfl) (by kernel_rfl) (by kernel_rfl) (fun _ _ _ h => h) (Or.inl ⟨by kernel_rfl, ?_⟩) (by assumption) ?_
    rotate_left 1
    focus (intro w' hSw; (try dsimp only at hSw); go_simp; (try with_reducible rfl))
    try simp only [Act.put, List.setIfInBounds_toArray, List.set_cons_zero, List.set_cons_succ]
    refine wpAnyH_take (i := 1) (oi := ⟨some 22, _, _, _, _, _⟩) (v := ?_) rfl (by kernel_rfl) (by kernel_rfl) (by kernel_rfl) (fun _ _ _ h => h) (Or.inl ⟨by kernel_rfl, ?_⟩) (by assumption) ?_
    rotate_left 1
    focus (intro w' hSw; (try dsimp only at hSw); go_simp; (try with_reducible rfl))
    try simp only [Act.put, List.setIfInBounds_toArray, List.set_cons_zero, List.set_cons_succ]
    refine wpAnyH_take (i := 2) (oi := ⟨some 23, _, _, _, _, _⟩) (v := ?_) rfl (by kernel_rfl) (by kernel_rfl) (by kernel_rfl) (fun _ _ _ h => h) (Or.inl ⟨by kernel_rfl, ?_⟩) (by assumption) ?_
    rotate_left 1
    focus (intro w' hSw; (try dsimp only at hSw); go_simp; (try with_reducible rfl))
    try simp only [Act.put, List.setIfInBounds_toArray, List.set_cons_zero, List.set_cons_succ]
    refine wpAnyH_take (i := 3) (oi := ⟨some 24, _, _, _, _, _⟩) (v := ?_) rfl (by kernel_rfl) (by kernel_rfl) (by kernel_rfl) (fun _ _ _ h => h) (Or.inl ⟨by kernel_rfl, ?_⟩) (by assumption) ?_
    rotate_left 1
    focus (intro w' hSw; (try dsimp only at hSw); go_simp; (try with_reducible rfl))
    try simp only [Act.put, List.setIfInBounds_toArray, List.set_cons_zero, List.set_cons_succ]
    refine wpAnyH_take (i := 4) (oi := ⟨some 25, _, _, _, _, _⟩) (v := ?_) rfl (by kernel_rfl) (by kernel_rfl) (by kernel_rfl) (fun _ _ _ h => h) (Or.inl ⟨by kernel_rfl, ?_⟩) (by assumption) ?_
    rotate_left 1
    focus (intro w' hSw; (try dsimp only at hSw); go_simp; (try with_reducible rfl))
    try simp only [Act.put, List.setIfInBounds_toArray, List.set_cons_zero, List.set_cons_succ]
    refine wpAnyH_take (i := 5) (oi := ⟨some 26, _, _, _, _, _⟩) (v := ?_) rfl (by kernel_rfl) (by kernel_rfl) (by kernel_rfl) (fun _ _ _ h => h) (Or.inl ⟨by kernel_rfl, ?_⟩) (by assumption) ?_
    rotate_left 1
    focus (intro w' hSw; (try dsimp only at hSw); go_simp; (try with_reducible rfl))
    try simp only [Act.put, List.setIfInBounds_toArray, List.set_cons_zero, List.set_cons_succ]
    refine wpAnyH_take (i := 6) (oi := ⟨some 27, _, _, _, _, _⟩) (v := ?_) rfl (by kernel_rfl) (by kernel_rfl) (by kernel_rfl) (fun _ _ _ h => h) (Or.inl ⟨by kernel_rfl, ?_⟩) (by assumption) ?_
    rotate_left 1
    focus (intro w' hSw; (try dsimp only at hSw); go_simp; (try with_reducible rfl))
    try simp only [Act.put, List.setIfInBounds_toArray, List.set_cons_zero, List.set_cons_succ]
    refine wpAnyH_done (by kernel_rfl) ?_ _
    clear hHeld HSS
    have HPut := Lib.hid (putC (rb := w.heap.size) (Nat.le_refl _) HE1d.out HB3d.out (.int .i64 0) (.string ⟨#[]⟩) (.int .i64 0))
    obtain ⟨V, hV⟩ : ∃ V, V = W3.drew := ⟨_, rfl⟩
    have hcV : ∀ a, V.cell? a = W3.cell? a := fun a => by rw [hV]; rfl
    rw [← hV] at HPut ⊢
    have y0 : V.cell? ⟨w.heap.size, 0, none⟩ = some (.int .i64 0) := (hcV _).trans y0
    have y1 : V.cell? ⟨w.heap.size, 1, none⟩ = some (.string ⟨#[]⟩) := (hcV _).trans y1
    have y2 : V.cell? ⟨w.heap.size, 2, none⟩ = some (.int .i64 0) := (hcV _).trans y2
    have e1v : V.heap[w.heap.size]? = some (.cells #[.int .i64 0, .string ⟨#[]⟩, .int .i64 0] 91 (0, 0)) := by rw [hV]; exact HE1d.out
    clear z0 z1 z2
    have z0 := free_of_blk e1v 0
    have z1 := free_of_blk e1v 1
    have z2 := free_of_blk e1v 2
    clear x1 x2
    clear hcV e1v
    have HV := Lib.hid hV
    clear hV
    go_wp2_with fail
    obtain ⟨p0, p1, p2, HEn⟩ := HPut.out _ rfl
    unfold set3 at p0 p1 p2 HEn
    exact bodyPost_ret (v := .tuple #[.agg #[.int .i64 0, .string ⟨#[]⟩, .int .i64 0], .int .i64 8]) (by simp [results, Tryz.results36, go_sem, p0, p1, p2]) rfl ⟨by rw [HRn.out.1, HRn.out.2] <;> rfl, HEn⟩
end Go.Proofs.YtkbhcncbpiimdaaGreatDoor.spc

namespace Go.Proofs.YtkbhcncbpiimdaaGreatDoor.spc
set_option maxRecDepth 100000
open Go.RowKit Go.Proofs.YtkbhcncbpiimdaaGreatDoor.words Go.Proofs.YtkbhcncbpiimdaaGreatDoor.ext Go.Proofs.YtkbhcncbpiimdaaGreatDoor.name Go.Proofs.YtkbhcncbpiimdaaGreatDoor.tre Go.Proofs.YtkbhcncbpiimdaaGreatDoor.stk Go.Proofs.YtkbhcncbpiimdaaGreatDoor.seen Go.Proofs.YtkbhcncbpiimdaaGreatDoor.wlk Go.Proofs.YtkbhcncbpiimdaaGreatDoor.uni

def Bs (s t m : Nat) (j : Nat) : Prop := j = s ∨ cur.Bk t m j
def SO (B s t m : Nat) (v : Value) (A : Option Addr) (c : Nat) (L : List (Nat × Int)) (ad ep r n : Int) (C : cur.Cs) (w : World) (e : Ending) (w' : World) : Prop := e = .returned v ∧ Sp B s t m A c L ad ep r n C w' ∧ lru.Tn (Bs s t m) w w'
theorem Sp.bs {B s t m : Nat} {A : Option Addr} {c : Nat} {L : List (Nat × Int)} {ad ep r n : Int} {C : cur.Cs} {w : World} (h : Sp B s t m A c L ad ep r n C w) {j : Nat} (hj : Bs s t m j) : B ≤ j := by
  rcases hj with rfl | hj
  · exact h.ge
  · exact (h.tb.lt j hj).1
theorem tn_set8 {S : Nat → Prop} {a b : World} {g : Nat} (h : lru.Tn S a b) (hg : a.heap.size ≤ g) (u0 u1 u2 u3 u4 u5 u6 u7 : Value) : lru.Tn S a (set8 b g u0 u1 u2 u3 u4 u5 u6 u7) :=
  (((((((h.setCell (p := ⟨g, 0, none⟩) (.inl hg) u0).setCell (p := ⟨g, 1, none⟩) (.inl hg) u1).setCell (p := ⟨g, 2, none⟩) (.inl hg) u2).setCell (p := ⟨g, 3, none⟩) (.inl hg) u3).setCell (p := ⟨g, 4, none⟩) (.inl hg) u4).setCell (p := ⟨g, 5, none⟩) (.inl hg) u5).setCell (p := ⟨g, 6, none⟩) (.inl hg) u6).setCell (p := ⟨g, 7, none⟩) (.inl hg) u7
theorem putS {B s t m : Nat} {A : Option Addr} {c : Nat} {L : List (Nat × Int)} {ad ep r n : Int} {C : cur.Cs} {w w3 : World} {rb : Nat} (h : Sp B s t m A c L ad ep r n C w3) (ht : lru.Tn (Bs s t m) w w3) (hlt : s < w.heap.size ∧ t < w.heap.size ∧ m < w.heap.size) (hrb : w.heap.size ≤ rb) (hx : w3.heap[rb]? = some zx8) (e id : Int) (A' : Option Addr) (n' c' : Nat) (b : Bool) :
    ∀ w4, w4 = set8 w3 rb (.int .i64 e) (.int .i64 0) (.int .i64 0) (.int .i64 0) (.int .i64 id) (.string ⟨#[]⟩) (.slice A' n' c') (.bool b) → w4.cell? ⟨rb, 0, none⟩ = some (.int .i64 e) ∧ w4.cell? ⟨rb, 1, none⟩ = some (.int .i64 0) ∧ w4.cell? ⟨rb, 2, none⟩ = some (.int .i64 0) ∧ w4.cell? ⟨rb, 3, none⟩ = some (.int .i64 0) ∧
      w4.cell? ⟨rb, 4, none⟩ = some (.int .i64 id) ∧ w4.cell? ⟨rb, 5, none⟩ = some (.string ⟨#[]⟩) ∧ w4.cell? ⟨rb, 6, none⟩ = some (.slice A' n' c') ∧ w4.cell? ⟨rb, 7, none⟩ = some (.bool b) ∧ SO B s t m (resP e id A' n' c' b) A c L ad ep r n C w (.returned (resP e id A' n' c' b)) w4 ∧ Below w.heap.size w3 w4 := fun w4 hw => by
  obtain ⟨p0, p1, p2, p3, p4, p5, p6, p7, hb⟩ := putP (a := w3) (B := w.heap.size) hrb hx (Below.refl _ _) e id A' n' c' b w4 hw
  refine ⟨p0, p1, p2, p3, p4, p5, p6, p7, ⟨rfl, h.low hlt hb, ?_⟩, hb⟩
  rw [hw]
  exact tn_set8 ht hrb _ _ _ _ _ _ _ _
set_option maxHeartbeats 6400000 in
theorem begin_core {B s t m : Nat} {A : Option Addr} {c : Nat} {L : List (Nat × Int)} {ad ep r n : Int} {C : cur.Cs} {w : World} {n' : Int} {C' : cur.Cs} (dr : ByteArray) (er idr : Int) (h : Sp B s t m A c L ad ep r n C w) (HOp : ∀ w', Sp B s t m A c L ad ep r n C w' → Calls Tryz.prog 71 #[.pointer (some ⟨t, 0, none⟩), .int .i64 ep, .string dr] w' fun e w'' => e = .returned (.tuple #[.int .i64 idr, .int .i64 er]) ∧ cur.Kept w' B t m r n' C' w'') :
    Calls Tryz.prog 35 #[.pointer (some ⟨s, 0, none⟩), .string dr] w (SO B s t m (resP er idr none 0 0 false) A c L ad ep r n' C' w) := by
  obtain ⟨W1, hW1⟩ : ∃ W1, W1 = w.alloc (.cells #[.int .i64 0, .int .i64 0, .int .i64 0, .int .i64 0, .int .i64 0, .string ⟨#[]⟩, .slice none 0 0, .bool false] 44) := ⟨_, rfl⟩
  have hb1 : Below w.heap.size w W1 := by rw [hW1]; exact (Below.refl _ _).alloc (Nat.le_refl _) _
  have HX := Lib.hid (show W1.heap[w.heap.size]? = some zx8 by rw [hW1]; exact heap_alloc_new w _)
  have HB1 := Lib.hid hb1
  have HP1 := Lib.hid (h.later hb1)
  have HLt := Lib.hid h.lt
  have HW1 := Lib.hid hW1
  have HO := Lib.hid (HOp W1.drew (HP1.out.later (Below.refl _ _).drew))
  have HSS : Hid (∀ w' : World, ∀ n' C', Sp B s t m A c L ad ep r n' C' w' → (w'.cell? ⟨s, 2, none⟩ = some (.int .i64 ep) ∧ w'.cell? ⟨s, 3, none⟩ = some (.pointer (some ⟨t, 0, none⟩)))) := Lib.hid fun w' n' C' h => ⟨cell_of_blk h.blk 2, cell_of_blk h.blk 3⟩
  have HPd : Hid (Sp B s t m A c L ad ep r n C W1.drew) := Lib.hid (HP1.out.later (Below.refl _ _).drew)
  clear hW1 hb1 h HOp
  go_enter Tryz.func35, Tryz.ntmps35
  go_upto_region 1 with fail
  rw [← HW1.out]
  clear HW1
  refine wp_region_held_drew (S := fun w' => (w'.cell? ⟨s, 2, none⟩ = some (.int .i64 ep) ∧ w'.cell? ⟨s, 3, none⟩ = some (.pointer (some ⟨t, 0, none⟩)))) (by kernel_rfl) (HSS.out _ _ _ HPd.out) (fun hHeld => ?_)
  refine wpAnyH_take (i := 0) (oi := ⟨some 8, _, _, _, _, _⟩) (v := ?_) rfl (by kernel_rfl) (by kernel_rfl) (by kernel_rfl) (fun _ _ _ h => h) (Or.inl ⟨by kernel_rfl, ?_⟩) (by assumption) ?_
  rotate_left 1
  focus (intro w' hSw; (try dsimp only at hSw); go_simp; (try with_reducible rfl))
  try simp only [Act.put, List.setIfInBounds_toArray, List.set_cons_zero, List.set_cons_succ]
  refine wpAnyH_take (i := 1) (oi := ⟨some 9, _, _, _, _, _⟩) (v := ?_) rfl (by kernel_rfl) (by kernel_rfl) (by kernel_rfl) (fun _ _ _ h => h) (Or.inl ⟨by kernel_rfl, ?_⟩) (by assumption) ?_
  rotate_left 1
  focus (intro w' hSw; (try dsimp only at hSw); go_simp; (try with_reducible rfl))
  try simp only [Act.put, List.setIfInBounds_toArray, List.set_cons_zero, List.set_cons_succ]
  refine wpAnyH_take (i := 2) (oi := ⟨some 10, _, _, _, _, _⟩) (v := ?_) rfl (by kernel_rfl) (by kernel_rfl) (by kernel_rfl) (fun _ _ _ h => h) (Or.inl ⟨by kernel_rfl, ?_⟩) (by assumption) ?_
  rotate_left 1
  focus (intro w' hSw; (try dsimp only at hSw); go_simp; (try with_reducible rfl))
  try simp only [Act.put, List.setIfInBounds_toArray, List.set_cons_zero, List.set_cons_succ]
  refine wpAnyH_take (i := 3) (oi := ⟨some 11, _, _, _, _, _⟩) (v := ?_) rfl (by kernel_rfl) (by kernel_rfl) (by kernel_rfl) (fun _ _ _ h => h) (Or.inl ⟨by kernel_rfl, ?_⟩) (by assumption) ?_
  rotate_left 1
  focus (intro w' hSw; (try dsimp only at hSw); go_simp; (try with_reducible rfl))
  try simp only [Act.put, List.setIfInBounds_toArray, List.set_cons_zero, List.set_cons_succ]
  refine wpAnyH_take (i := 4) (oi := ⟨some 12, _, _, _, _, _⟩) (v := ?_) rfl (by kernel_rfl) (by kernel_rfl) (by kernel_rfl) (fun _ _ _ h => h) (Or.inl ⟨by kernel_rfl, ?_⟩) (by assumption) ?_
  rotate_left 1
  focus (intro w' hSw; (try dsimp only at hSw); go_simp; (try with_reducible rfl))
  try simp only [Act.put, List.setIfInBounds_toArray, List.set_cons_zero, List.set_cons_succ]
  refine wpAnyH_take (i := 5) (oi := ⟨some 13, _, _, _, _, _⟩) (v := ?_) rfl (by kernel_rfl) (by kernel_rfl) (by kernel_rfl) (fun _ _ _ h => h) (Or.inl ⟨by kernel_rfl, ?_⟩) (by assumption) ?_
  rotate_left 1
  focus (intro w' hSw; (try dsimp only at hSw); go_simp; (try with_reducible rfl))
  try simp only [Act.put, List.setIfInBounds_toArray, List.set_cons_zero, List.set_cons_succ]
  refine wpAnyH_take (i := 6) (oi := ⟨some 14, _, _, _, _, _⟩) (v := ?_) rfl (by kernel_rfl) (by kernel_rfl) (by kernel_rfl) (fun _ _ _ h => h) (Or.inl ⟨by kernel_rfl, ?_⟩) (by assumption) ?_
  rotate_left 1
  focus (intro w' hSw; (try dsimp only at hSw); go_simp; (try with_reducible rfl))
  try simp only [Act.put, List.setIfInBounds_toArray, List.set_cons_zero, List.set_cons_succ]
  refine wpAnyH_take (i := 7) (oi := ⟨some 15, _, _, _, _, _⟩) (v := ?_) rfl (by kernel_rfl) (by kernel_rfl) (by kernel_rfl) (fun _ _ _ h => h) (Or.inl ⟨by kernel_rfl, ?_⟩) (by assumption) ?_
  rotate_left 1
  focus (intro w' hSw; (try dsimp only at hSw); go_simp; (try with_reducible rfl))
  try simp only [Act.put, List.setIfInBounds_toArray, List.set_cons_zero, List.set_cons_succ]
  refine wpAnyH_take (i := 8) (oi := ⟨some 16, _, _, _, _, _⟩) (v := ?_) rfl (by kernel_rfl) (by kernel_rfl) (by kernel_rfl) (fun _ _ _ h => h) (Or.inl ⟨by kernel_rfl, ?_⟩) (by assumption) ?_
  rotate_left 1
  focus (intro w' hSw; (try dsimp only at hSw); go_simp; (try with_reducible rfl))
  try simp only [Act.put, List.setIfInBounds_toArray, List.set_cons_zero, List.set_cons_succ]
  refine wpAnyH_ready (rs := [9]) (by kernel_rfl) (by simp) ?_
  refine AllReadyH.cons rfl (fun K hK => ?_) AllReadyH.nil
  go_simp
  go_at_call 71
  refine (HO.out).mono ?_
  rintro en v1 ⟨rfl, hkp⟩
  have hsp : Sp B s t m A c L ad ep r n' C' v1 := ⟨HPd.out.ge, (hkp.tn.block s (lt_of_some HPd.out.blk) HPd.out.ne).trans HPd.out.blk, hkp.tb⟩
  clear hHeld
  refine hK.out _ _ (HSS.out _ _ _ hsp) (fun hHeld => ?_)
  clear hK
  refine wpAnyH_take (i := 10) (oi := ⟨some 7, _, _, _, _, _⟩) (v := ?_) rfl (by kernel_rfl) (by kernel_rfl) (by kernel_rfl) (fun _ _ _ h => h) (Or.inl ⟨by kernel_rfl, ?_⟩) (by assumption) ?_
  rotate_left 1
  focus (intro w' hSw; (try dsimp only at hSw); go_simp; (try with_reducible rfl))
  try simp only [Act.put, List.setIfInBounds_toArray, List.set_cons_zero, List.set_cons_succ]
  refine wpAnyH_take (i := 11) (oi := ⟨some 18, _, _, _, _, _⟩) (v := ?_) rfl (by kernel_rfl) (by kernel_rfl) (by kernel_rfl) (fun _ _ _ h => h) (Or.inl ⟨by kernel_rfl, ?_⟩) (by assumption) ?_
  rotate_left 1
  focus (intro w' hSw; (try dsimp only at hSw); go_simp; (try with_reducible rfl))
  try simp only [Act.put, List.setIfInBounds_toArray, List.set_cons_zero, List.set_cons_succ]
  refine wpAnyH_take (i := 12) (oi := ⟨some 19, _, _, _, _, _⟩) (v := ?_) rfl (by kernel_rfl) (by kernel_rfl) (by kernel_rfl) (fun _ _ _ h => h) (Or.inl ⟨by kernel_rfl, ?_⟩) (by assumption) ?_
  rotate_left 1
  focus (intro w' hSw; (try dsimp only at hSw); go_simp; (try with_reducible rfl))
  try simp only [Act.put, List.setIfInBounds_toArray, List.set_cons_zero, List.set_cons_succ]
  refine wpAnyH_take (i := 13) (oi := ⟨some 5, _, _, _, _, _⟩) (v := ?_) rfl (by kernel_rfl) (by kernel_rfl) (by kernel_rfl) (fun _ _ _ h => h) (Or.inl ⟨by kernel_rfl, ?_⟩) (by assumption) ?_
  rotate_left 1
  focus (intro w' hSw; (try dsimp only at hSw); go_simp; (try with_reducible rfl))
  try simp only [Act.put, List.setIfInBounds_toArray, List.set_cons_zero, List.set_cons_succ]
  refine wpAnyH_take (i := 14) (oi := ⟨some 6, _, _, _, _, _⟩) (v := ?_) rfl (by kernel_rfl) (by kernel_rfl) (by kernel_rfl) (fun _ _ _ h => h) (Or.inl ⟨by kernel_rfl, ?_⟩) (by assumption) ?_
  rotate_left 1
  focus (intro w' hSw; (try dsimp only at hSw); go_simp; (try with_reducible rfl))
  try simp only [Act.put, List.setIfInBounds_toArray, List.set_cons_zero, List.set_cons_succ]
  refine wpAnyH_done (by kernel_rfl) ?_ _
  clear hHeld HSS HO
  have htn : lru.Tn (Bs s t m) w v1 := ((lru.Tn.of_below HB1.out _).drew).then hkp.tn fun k _ hk => .inr hk
  have hxv : v1.heap[w.heap.size]? = some zx8 := (hkp.tn.block w.heap.size (lt_of_some (show W1.drew.heap[w.heap.size]? = some zx8 from HX.out)) (fun hj => by
    rcases hj with hj | hj
    · have := HLt.out.2.1; omega
    · have := HLt.out.2.2; omega)).trans HX.out
  have ezx := hxv
  have HPut := Lib.hid (putS (rb := w.heap.size) hsp htn HLt.out (Nat.le_refl _) ezx er idr none 0 0 false)
  have y0 := cell_of_blk ezx 0
  have z0 := free_of_blk ezx 0
  have y1 := cell_of_blk ezx 1
  have z1 := free_of_blk ezx 1
  have y2 := cell_of_blk ezx 2
  have z2 := free_of_blk ezx 2
  have y3 := cell_of_blk ezx 3
  have z3 := free_of_blk ezx 3
  have y4 := cell_of_blk ezx 4
  have z4 := free_of_blk ezx 4
  have y5 := cell_of_blk ezx 5
  have z5 := free_of_blk ezx 5
  have y6 := cell_of_blk ezx 6
  have z6 := free_of_blk ezx 6
  have y7 := cell_of_blk ezx 7
  have z7 := free_of_blk ezx 7
  clear ezx
  clear hkp hsp htn hxv HPd
  go_wp2_with fail
  obtain ⟨p0, p1, p2, p3, p4, p5, p6, p7, HE, hbP⟩ := HPut.out _ rfl
  unfold set8 at p0 p1 p2 p3 p4 p5 p6 p7 HE hbP
  exact bodyPost_ret (v := resP er idr none 0 0 false) (by unfold resP; simp [results, Tryz.results35, go_sem, p0, p1, p2, p3, p4, p5, p6, p7]) rfl HE
theorem begin_yes {B s t m : Nat} {A : Option Addr} {c : Nat} {L : List (Nat × Int)} {ad ep r n : Int} {C : cur.Cs} {w : World} (dr : ByteArray) (h : Sp B s t m A c L ad ep r n C w) (hr : (C.length : Int) < r) (hl9 : C.length ≤ 2000) (hn0 : 0 ≤ n) (hn : n ≤ 1000000) (hno : cur.valC C (n + 1) = none) : Calls Tryz.prog 35 #[.pointer (some ⟨s, 0, none⟩), .string dr] w (SO B s t m (resP 0 (n + 1) none 0 0 false) A c L ad ep r (n + 1) (C ++ [(n + 1, ⟨ep, dr, 0⟩)]) w) :=
  begin_core dr 0 (n + 1) h fun w' h' => cur.open_yes B t m r n C w' ep dr h'.tb hr hl9 hn0 hn hno
set_option maxHeartbeats 3200000 in
theorem open_err {B s t m : Nat} {A : Option Addr} {c : Nat} {L : List (Nat × Int)} {ad ep r n : Int} {C : cur.Cs} {w : World} {R : List Nd} {O : AtO} (p : ByteArray) (h : Sp B s t m A c L ad ep r n C w) (HLi : ∀ w', Below w.heap.size w w' → Calls Tryz.prog 12 #[.agg #[.slice A L.length c, .int .i64 ad], .string p] w' (LsOut R O w')) (hO : lsE O ≠ 0) :
    Calls Tryz.prog 65 #[.pointer (some ⟨s, 0, none⟩), .string p] w (SO B s t m (resP (lsE O) 0 none 0 0 false) A c L ad ep r n C w) := by
  obtain ⟨W1, hW1⟩ : ∃ W1, W1 = w.alloc (.cells #[.int .i64 0, .int .i64 0, .int .i64 0, .int .i64 0, .int .i64 0, .string ⟨#[]⟩, .slice none 0 0, .bool false] 44) := ⟨_, rfl⟩
  have hb1 : Below w.heap.size w W1 := by rw [hW1]; exact (Below.refl _ _).alloc (Nat.le_refl _) _
  have HX := Lib.hid (show W1.heap[w.heap.size]? = some zx8 by rw [hW1]; exact heap_alloc_new w _)
  have HB1 := Lib.hid hb1
  have HP1 := Lib.hid (h.later hb1)
  have HLt := Lib.hid h.lt
  have HW1 := Lib.hid hW1
  have HL1 := Lib.hid (HLi W1 hb1)
  obtain ⟨z, hz⟩ : ∃ z, z = lsE O := ⟨_, rfl⟩
  rw [← hz] at hO
  have HZ := Lib.hid hz
  have gz : (z != 0) = true := by rw [bne_iff_ne]; exact hO
  have HNz := Lib.hid hO
  clear hz hO
  have s0 := cell_of_blk HP1.out.blk 0
  have s1 := cell_of_blk HP1.out.blk 1
  clear hW1 hb1 h HLi
  go_enter Tryz.func65, Tryz.ntmps65
  go_upto_region 1 with fail
  rw [← HW1.out]
  clear HW1
  go_wp2_with fail
  refine HL1.out.mono ?_
  rintro e v1 ⟨(⟨_, rfl⟩ | ⟨_, _, _, _, _, _, h0, _⟩), hv1⟩
  rotate_left 1
  · exact absurd (HZ.out.trans h0) HNz.out
  rw [← HZ.out]
  have HV1 := Lib.hid (HB1.out.trans (hv1.mono HB1.out.size))
  have ezx := ((hv1.block _ (lt_of_some HX.out)).trans HX.out)
  have HPut := Lib.hid (putS (rb := w.heap.size) (HP1.out.later hv1) (lru.Tn.of_below HV1.out _) HLt.out (Nat.le_refl _) ezx z 0 none 0 0 false)
  have y0 := cell_of_blk ezx 0
  have z0 := free_of_blk ezx 0
  have y1 := cell_of_blk ezx 1
  have z1 := free_of_blk ezx 1
  have y2 := cell_of_blk ezx 2
  have z2 := free_of_blk ezx 2
  have y3 := cell_of_blk ezx 3
  have z3 := free_of_blk ezx 3
  have y4 := cell_of_blk ezx 4
  have z4 := free_of_blk ezx 4
  have y5 := cell_of_blk ezx 5
  have z5 := free_of_blk ezx 5
  have y6 := cell_of_blk ezx 6
  have z6 := free_of_blk ezx 6
  have y7 := cell_of_blk ezx 7
  have z7 := free_of_blk ezx 7
  clear ezx
  clear hv1 HL1 s0 s1
  go_wp2_with fail
  obtain ⟨p0, p1, p2, p3, p4, p5, p6, p7, HE, hbP⟩ := HPut.out _ rfl
  unfold set8 at p0 p1 p2 p3 p4 p5 p6 p7 HE hbP
  exact bodyPost_ret (v := resP z 0 none 0 0 false) (by unfold resP; simp [results, Tryz.results65, go_sem, p0, p1, p2, p3, p4, p5, p6, p7]) rfl (by rw [← HZ.out]; exact HE)
set_option maxHeartbeats 3200000 in
theorem open_ok {B s t m : Nat} {A : Option Addr} {c : Nat} {L : List (Nat × Int)} {ad ep r n : Int} {C : cur.Cs} {w : World} {R : List Nd} {O : AtO} (p : ByteArray) (h : Sp B s t m A c L ad ep r n C w) (HLi : ∀ w', Below w.heap.size w w' → Calls Tryz.prog 12 #[.agg #[.slice A L.length c, .int .i64 ad], .string p] w' (LsOut R O w')) {ns : List ByteArray} {E : List Nd} (hO : O = .ok ns E) (h0 : lsE O = 0) (er idr n' : Int) (C' : cur.Cs) (HBg : ∀ w', Sp B s t m A c L ad ep r n C w' → Calls Tryz.prog 35 #[.pointer (some ⟨s, 0, none⟩), .string (pathOf ns)] w' (SO B s t m (resP er idr none 0 0 false) A c L ad ep r n' C' w')) :
    Calls Tryz.prog 65 #[.pointer (some ⟨s, 0, none⟩), .string p] w fun e w' => SO B s t m (resP er idr none 0 0 false) A c L ad ep r n' C' w e w' ∧ ∃ El, Listed E El ∧ (∀ n ∈ ns, NmD n) ∧ (∀ d ∈ E, d.K = 2) ∧ (ns ≠ [] → E ≠ []) ∧ Along (D0 R) ns E := by
  obtain ⟨W1, hW1⟩ : ∃ W1, W1 = w.alloc (.cells #[.int .i64 0, .int .i64 0, .int .i64 0, .int .i64 0, .int .i64 0, .string ⟨#[]⟩, .slice none 0 0, .bool false] 44) := ⟨_, rfl⟩
  have hb1 : Below w.heap.size w W1 := by rw [hW1]; exact (Below.refl _ _).alloc (Nat.le_refl _) _
  have HX := Lib.hid (show W1.heap[w.heap.size]? = some zx8 by rw [hW1]; exact heap_alloc_new w _)
  have HB1 := Lib.hid hb1
  have HP1 := Lib.hid (h.later hb1)
  have HLt := Lib.hid h.lt
  have HW1 := Lib.hid hW1
  have HL1 := Lib.hid (HLi W1 hb1)
  have H0 := Lib.hid h0
  have HOe := Lib.hid hO
  have HBe := Lib.hid HBg
  clear h0 hO HBg
  have s0 := cell_of_blk HP1.out.blk 0
  have s1 := cell_of_blk HP1.out.blk 1
  clear hW1 hb1 h HLi
  go_enter Tryz.func65, Tryz.ntmps65
  go_upto_region 1 with fail
  rw [← HW1.out]
  clear HW1
  go_wp2_with fail
  refine HL1.out.mono ?_
  rintro e v1 ⟨(⟨hne, _⟩ | ⟨ns', E', El, Al, cl, hOe, _, hdd, _, hnn, _, haa, hzz, hld, _, rfl, _⟩), hv1⟩
  · exact absurd H0.out hne
  rw [HOe.out] at hOe
  injection hOe with e1 e2
  subst e1 e2
  have HLd := Lib.hid (And.intro hld (And.intro hnn (And.intro hdd (And.intro hzz haa))))
  clear hld hnn hdd hzz haa
  have HV1 := Lib.hid hv1
  have HBc := Lib.hid (HBe.out v1 (HP1.out.later hv1))
  clear hv1 HL1 s0 s1 HBe
  obtain ⟨pp, hpp⟩ : ∃ pp, pp = pathOf ns := ⟨_, rfl⟩
  rw [← hpp] at HBc ⊢
  clear hpp
  go_wp2_with fail
  refine HBc.out.mono ?_
  rintro e v2 ⟨rfl, hsp, htn⟩
  have htw : lru.Tn (Bs s t m) w v2 := (lru.Tn.of_below (HB1.out.trans (HV1.out.mono HB1.out.size)) _).trans htn
  have hx1 := (HV1.out.block _ (lt_of_some HX.out)).trans HX.out
  have hx2 : v2.heap[w.heap.size]? = some zx8 := (htn.block w.heap.size (lt_of_some hx1) (fun hj => by
    rcases hj with hj | hj | hj
    · have := HLt.out.1; omega
    · have := HLt.out.2.1; omega
    · have := HLt.out.2.2; omega)).trans hx1
  have ezx := hx2
  have HPut := Lib.hid (putS (rb := w.heap.size) hsp htw HLt.out (Nat.le_refl _) ezx er idr none 0 0 false)
  have y0 := cell_of_blk ezx 0
  have z0 := free_of_blk ezx 0
  have y1 := cell_of_blk ezx 1
  have z1 := free_of_blk ezx 1
  have y2 := cell_of_blk ezx 2
  have z2 := free_of_blk ezx 2
  have y3 := cell_of_blk ezx 3
  have z3 := free_of_blk ezx 3
  have y4 := cell_of_blk ezx 4
  have z4 := free_of_blk ezx 4
  have y5 := cell_of_blk ezx 5
  have z5 := free_of_blk ezx 5
  have y6 := cell_of_blk ezx 6
  have z6 := free_of_blk ezx 6
  have y7 := cell_of_blk ezx 7
  have z7 := free_of_blk ezx 7
  clear ezx
  clear htn htw hx1 hx2 hsp HBc
  unfold resP
  go_wp2_with fail
  obtain ⟨p0, p1, p2, p3, p4, p5, p6, p7, HE, hbP⟩ := HPut.out _ rfl
  unfold set8 at p0 p1 p2 p3 p4 p5 p6 p7 HE hbP
  exact bodyPost_ret (v := resP er idr none 0 0 false) (by unfold resP; simp [results, Tryz.results65, go_sem, p0, p1, p2, p3, p4, p5, p6, p7]) rfl ⟨HE, _, HLd.out⟩
end Go.Proofs.YtkbhcncbpiimdaaGreatDoor.spc

namespace Go.Proofs.YtkbhcncbpiimdaaGreatDoor.spc
set_option maxRecDepth 100000
open Go.RowKit Go.Proofs.YtkbhcncbpiimdaaGreatDoor.words Go.Proofs.YtkbhcncbpiimdaaGreatDoor.ext Go.Proofs.YtkbhcncbpiimdaaGreatDoor.name Go.Proofs.YtkbhcncbpiimdaaGreatDoor.tre Go.Proofs.YtkbhcncbpiimdaaGreatDoor.stk Go.Proofs.YtkbhcncbpiimdaaGreatDoor.seen Go.Proofs.YtkbhcncbpiimdaaGreatDoor.wlk Go.Proofs.YtkbhcncbpiimdaaGreatDoor.uni

theorem over_st {w : World} {g : Nat} {T : TypeId} {c0 c1 c2 c3 u0 u1 : Value} (h : w.heap[g]? = some (.cells #[c0, c1, c2, c3] T (0, 0))) : ((w.setCell ⟨g, 0, none⟩ u0).setCell ⟨g, 1, none⟩ u1).heap[g]? = some (.cells #[u0, u1, c2, c3] T (0, 0)) := by
  simp [World.setCell, Array.getElem?_modify, h]
theorem over_ep {w : World} {g : Nat} {T : TypeId} {c0 c1 c2 c3 u2 : Value} (h : w.heap[g]? = some (.cells #[c0, c1, c2, c3] T (0, 0))) : (w.setCell ⟨g, 2, none⟩ u2).heap[g]? = some (.cells #[c0, c1, u2, c3] T (0, 0)) := by
  simp [World.setCell, Array.getElem?_modify, h]
def Chg (B s t m : Nat) (A : Option Addr) (c : Nat) (L : List (Nat × Int)) (ad ep r n : Int) (C : cur.Cs) (w : World) (e : Ending) (w' : World) : Prop := (∃ u, e = .returned u) ∧ Sp B s t m A c L ad ep r n C w' ∧ lru.Tn (Bs s t m) w w'
set_option maxHeartbeats 3200000 in
theorem change_any {B s t m : Nat} {A : Option Addr} {c : Nat} {L : List (Nat × Int)} {ad ep r n : Int} {C : cur.Cs} {w : World} (A' : Option Addr) (c' : Nat) (L' : List (Nat × Int)) (ad' ep' : Int) (h : Sp B s t m A c L ad ep r n C w) (he : ep' = ep + 1) (h0 : 0 ≤ ep) (h1 : ep ≤ 1000000000) :
    Calls Tryz.prog 70 #[.pointer (some ⟨s, 0, none⟩), .agg #[.slice A' L'.length c', .int .i64 ad']] w (Chg B s t m A' c' L' ad' ep' r n C w) := by
  subst he
  obtain ⟨W1, hW1⟩ : ∃ W1, W1 = w.alloc (.cells #[.slice A' L'.length c', .int .i64 ad'] 27) := ⟨_, rfl⟩
  have hb1 : Below w.heap.size w W1 := by rw [hW1]; exact (Below.refl _ _).alloc (Nat.le_refl _) _
  have hx1 : W1.heap[w.heap.size]? = some (.cells #[.slice A' L'.length c', .int .i64 ad'] 27 (0, 0)) := by rw [hW1]; exact heap_alloc_new w _
  have hp1 := h.later hb1
  obtain ⟨W2, hW2⟩ : ∃ W2, W2 = (W1.setCell ⟨s, 0, none⟩ (.slice A' L'.length c')).setCell ⟨s, 1, none⟩ (.int .i64 ad') := ⟨_, rfl⟩
  have hk2 : W2.heap[s]? = some (.cells #[.slice A' L'.length c', .int .i64 ad', .int .i64 ep, .pointer (some ⟨t, 0, none⟩)] 82 (0, 0)) := by rw [hW2]; exact over_st hp1.blk
  obtain ⟨W3, hW3⟩ : ∃ W3, W3 = W2.setCell ⟨s, 2, none⟩ (.int .i64 (ep + 1)) := ⟨_, rfl⟩
  have hk3 : W3.heap[s]? = some (.cells #[.slice A' L'.length c', .int .i64 ad', .int .i64 (ep + 1), .pointer (some ⟨t, 0, none⟩)] 82 (0, 0)) := by rw [hW3]; exact over_ep hk2
  have htn : lru.Tn (fun j => j = s) W1 W3 := by
    rw [hW3, hW2]
    exact (((lru.Tn.refl (fun j => j = s) W1).setCell (p := ⟨s, 0, none⟩) (.inr rfl) _).setCell (p := ⟨s, 1, none⟩) (.inr rfl) _).setCell (p := ⟨s, 2, none⟩) (.inr rfl) _
  have HEnd : Hid (∀ u, Chg B s t m A' c' L' ad' (ep + 1) r n C w (.returned u) W3) := Lib.hid fun u => ⟨⟨u, rfl⟩, ⟨h.ge, hk3, hp1.tb.tn htn fun j hj e => hp1.ne (by subst e; exact hj)⟩, (lru.Tn.of_below hb1 _).then htn fun k _ hk => .inl hk⟩
  have x0 := cell_of_blk hx1 0
  have x1 := cell_of_blk hx1 1
  have y0 := cell_of_blk hp1.blk 0
  have y1 := cell_of_blk hp1.blk 1
  have z0 := free_of_blk hp1.blk 0
  have z1 := free_of_blk hp1.blk 1
  have HK2 := Lib.hid hk2
  have HW1 := Lib.hid hW1
  have HW2 := Lib.hid hW2
  have HW3 := Lib.hid hW3
  clear hW1 hb1 hx1 hp1 hW2 hk2 hW3 hk3 htn h
  go_enter Tryz.func70, Tryz.ntmps70
  go_upto_region 1 with fail
  rw [← HW1.out]
  clear HW1
  go_upto_region 2 with fail
  rw [← HW2.out]
  clear HW2 x0 x1 y0 y1 z0 z1
  have y2 := cell_of_blk HK2.out 2
  have z2 := free_of_blk HK2.out 2
  go_wp2_with fail
  rw [← HW3.out]
  go_end0
  exact HEnd.out _
set_option maxHeartbeats 3200000 in
theorem remove_no {B s t m : Nat} {A : Option Addr} {c : Nat} {L : List (Nat × Int)} {ad ep r n : Int} {C : cur.Cs} {w : World} (id : Int) (h : Sp B s t m A c L ad ep r n C w) (HRm : ∀ w', Below w.heap.size w w' → Calls Tryz.prog 69 #[stkV A L.length c ad, .int .i64 id] w' fun e w'' => e = .returned (.tuple #[stkV A L.length c ad, .int .i64 2]) ∧ Below w'.heap.size w' w'') :
    Calls Tryz.prog 34 #[.pointer (some ⟨s, 0, none⟩), .int .i64 id] w (SO B s t m (resP 2 0 none 0 0 false) A c L ad ep r n C w) := by
  obtain ⟨W1, hW1⟩ : ∃ W1, W1 = w.alloc (.cells #[.int .i64 0, .int .i64 0, .int .i64 0, .int .i64 0, .int .i64 0, .string ⟨#[]⟩, .slice none 0 0, .bool false] 44) := ⟨_, rfl⟩
  have hb1 : Below w.heap.size w W1 := by rw [hW1]; exact (Below.refl _ _).alloc (Nat.le_refl _) _
  have HX := Lib.hid (show W1.heap[w.heap.size]? = some zx8 by rw [hW1]; exact heap_alloc_new w _)
  have HB1 := Lib.hid hb1
  have HP1 := Lib.hid (h.later hb1)
  have HLt := Lib.hid h.lt
  have HW1 := Lib.hid hW1
  have HR := Lib.hid (HRm W1 hb1)
  have s0 := cell_of_blk HP1.out.blk 0
  have s1 := cell_of_blk HP1.out.blk 1
  clear hW1 hb1 h HRm
  unfold stkV at HR
  go_enter Tryz.func34, Tryz.ntmps34
  go_upto_region 1 with fail
  rw [← HW1.out]
  clear HW1
  go_wp2_with fail
  refine HR.out.mono ?_
  rintro e v1 ⟨rfl, hv1⟩
  obtain ⟨V, hV⟩ : ∃ V, V = v1.alloc (.cells #[.slice A L.length c, .int .i64 ad] 27) := ⟨_, rfl⟩
  have hbV : Below v1.heap.size v1 V := by rw [hV]; exact (Below.refl _ _).alloc (Nat.le_refl _) _
  have hb1V := hv1.trans (hbV.mono hv1.size)
  have HBV := Lib.hid (HB1.out.trans (hb1V.mono HB1.out.size))
  have ezx := ((hb1V.block _ (lt_of_some HX.out)).trans HX.out)
  have HPut := Lib.hid (putS (rb := w.heap.size) (HP1.out.later hb1V) (lru.Tn.of_below HBV.out _) HLt.out (Nat.le_refl _) ezx 2 0 none 0 0 false)
  have y0 := cell_of_blk ezx 0
  have z0 := free_of_blk ezx 0
  have y1 := cell_of_blk ezx 1
  have z1 := free_of_blk ezx 1
  have y2 := cell_of_blk ezx 2
  have z2 := free_of_blk ezx 2
  have y3 := cell_of_blk ezx 3
  have z3 := free_of_blk ezx 3
  have y4 := cell_of_blk ezx 4
  have z4 := free_of_blk ezx 4
  have y5 := cell_of_blk ezx 5
  have z5 := free_of_blk ezx 5
  have y6 := cell_of_blk ezx 6
  have z6 := free_of_blk ezx 6
  have y7 := cell_of_blk ezx 7
  have z7 := free_of_blk ezx 7
  clear ezx
  have HV := Lib.hid hV
  clear hV hbV hb1V hv1 HR s0 s1
  go_upto_region 2 with fail
  rw [← HV.out]
  go_wp2_with fail
  obtain ⟨p0, p1, p2, p3, p4, p5, p6, p7, HE, hbP⟩ := HPut.out _ rfl
  unfold set8 at p0 p1 p2 p3 p4 p5 p6 p7 HE hbP
  exact bodyPost_ret (v := resP 2 0 none 0 0 false) (by unfold resP; simp [results, Tryz.results34, go_sem, p0, p1, p2, p3, p4, p5, p6, p7]) rfl HE
set_option maxHeartbeats 3200000 in
theorem remove_yes {B s t m : Nat} {A : Option Addr} {c : Nat} {L : List (Nat × Int)} {ad ep r n : Int} {C : cur.Cs} {w : World} (id : Int) (L' : List (Nat × Int)) (h : Sp B s t m A c L ad ep r n C w) (h0 : 0 ≤ ep) (h1 : ep ≤ 1000000000) (HRm : ∀ w', Below w.heap.size w w' → Calls Tryz.prog 69 #[stkV A L.length c ad, .int .i64 id] w' fun e w'' => (∃ A' c', e = .returned (.tuple #[stkV A' L'.length c' ad, .int .i64 0])) ∧ Below w'.heap.size w' w'') :
    Calls Tryz.prog 34 #[.pointer (some ⟨s, 0, none⟩), .int .i64 id] w fun e w' => ∃ A' c', SO B s t m (resP 0 0 none 0 0 false) A' c' L' ad (ep + 1) r n C w e w' := by
  obtain ⟨W1, hW1⟩ : ∃ W1, W1 = w.alloc (.cells #[.int .i64 0, .int .i64 0, .int .i64 0, .int .i64 0, .int .i64 0, .string ⟨#[]⟩, .slice none 0 0, .bool false] 44) := ⟨_, rfl⟩
  have hb1 : Below w.heap.size w W1 := by rw [hW1]; exact (Below.refl _ _).alloc (Nat.le_refl _) _
  have HX := Lib.hid (show W1.heap[w.heap.size]? = some zx8 by rw [hW1]; exact heap_alloc_new w _)
  have HB1 := Lib.hid hb1
  have HP1 := Lib.hid (h.later hb1)
  have HLt := Lib.hid h.lt
  have HW1 := Lib.hid hW1
  have HR := Lib.hid (HRm W1 hb1)
  have s0 := cell_of_blk HP1.out.blk 0
  have s1 := cell_of_blk HP1.out.blk 1
  have HEp := Lib.hid (And.intro h0 h1)
  clear hW1 hb1 h HRm h0 h1
  unfold stkV at HR
  go_enter Tryz.func34, Tryz.ntmps34
  go_upto_region 1 with fail
  rw [← HW1.out]
  clear HW1
  go_wp2_with fail
  refine HR.out.mono ?_
  rintro e v1 ⟨⟨A', c', rfl⟩, hv1⟩
  obtain ⟨V, hV⟩ : ∃ V, V = v1.alloc (.cells #[.slice A' L'.length c', .int .i64 ad] 27) := ⟨_, rfl⟩
  have hbV : Below v1.heap.size v1 V := by rw [hV]; exact (Below.refl _ _).alloc (Nat.le_refl _) _
  have hb1V := hv1.trans (hbV.mono hv1.size)
  have HBV := Lib.hid (HB1.out.trans (hb1V.mono HB1.out.size))
  have HPV := Lib.hid (HP1.out.later hb1V)
  have HXV := Lib.hid ((hb1V.block _ (lt_of_some HX.out)).trans HX.out)
  have hxV : V.heap[v1.heap.size]? = some (.cells #[.slice A' L'.length c', .int .i64 ad] 27 (0, 0)) := by rw [hV]; exact heap_alloc_new v1 _
  have q0 := cell_of_blk hxV 0
  have q1 := cell_of_blk hxV 1
  have HCh := Lib.hid (change_any A' c' L' ad (ep + 1) HPV.out rfl HEp.out.1 HEp.out.2)
  have HV := Lib.hid hV
  clear hV hbV hb1V hv1 HR s0 s1 hxV
  go_upto_region 2 with fail
  rw [← HV.out]
  clear HV
  go_wp2_with fail
  refine HCh.out.mono ?_
  rintro e v2 ⟨⟨u, rfl⟩, hsp, htn⟩
  have htw : lru.Tn (Bs s t m) w v2 := (lru.Tn.of_below HBV.out _).trans htn
  have hx2 : v2.heap[w.heap.size]? = some zx8 := (htn.block w.heap.size (lt_of_some HXV.out) (fun hj => by
    rcases hj with hj | hj | hj
    · have := HLt.out.1; omega
    · have := HLt.out.2.1; omega
    · have := HLt.out.2.2; omega)).trans HXV.out
  have ezx := hx2
  have HPut := Lib.hid (putS (rb := w.heap.size) hsp htw HLt.out (Nat.le_refl _) ezx 0 0 none 0 0 false)
  have y0 := cell_of_blk ezx 0
  have z0 := free_of_blk ezx 0
  have y1 := cell_of_blk ezx 1
  have z1 := free_of_blk ezx 1
  have y2 := cell_of_blk ezx 2
  have z2 := free_of_blk ezx 2
  have y3 := cell_of_blk ezx 3
  have z3 := free_of_blk ezx 3
  have y4 := cell_of_blk ezx 4
  have z4 := free_of_blk ezx 4
  have y5 := cell_of_blk ezx 5
  have z5 := free_of_blk ezx 5
  have y6 := cell_of_blk ezx 6
  have z6 := free_of_blk ezx 6
  have y7 := cell_of_blk ezx 7
  have z7 := free_of_blk ezx 7
  clear ezx
  clear htn htw hx2 hsp HCh q0 q1
  go_wp2_with fail
  obtain ⟨p0, p1, p2, p3, p4, p5, p6, p7, HE, hbP⟩ := HPut.out _ rfl
  unfold set8 at p0 p1 p2 p3 p4 p5 p6 p7 HE hbP
  exact bodyPost_ret (v := resP 0 0 none 0 0 false) (by unfold resP; simp [results, Tryz.results34, go_sem, p0, p1, p2, p3, p4, p5, p6, p7]) rfl ⟨A', c', HE⟩
end Go.Proofs.YtkbhcncbpiimdaaGreatDoor.spc
