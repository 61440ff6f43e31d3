/- A script as a text, as the document says. Conditions: the script lies in memory; sizes. -/
import Derived.Test.YtfbgnafnpeeonaaDoorScrMay
import Derived.Test.YtfbgnafnpeeonaaDoorCalRefT
import Derived.BigQuiet
import Derived.Deep.CutRange
namespace Go.Proofs.YtfbgnafnpeeonaaDoor.scr
set_option maxRecDepth 100000
open Go.RowKit Go.Proofs.YtfbgnafnpeeonaaDoor.words Go.Proofs.YtfbgnafnpeeonaaDoor.cal

theorem num_size {n : Int} (hn : I64 n) {r : ByteArray} (h : r.data.toList = Lib.itoa n) : r.size ≤ 21 := by
  rw [← size_list, h]
  exact Lib.itoa_length_le n hn.1 hn.2
theorem textT_app (a b : List (List UInt8)) : textT (a ++ b) = textT a ++ textT b := by simp [textT]
theorem textT_one (p : List UInt8) : textT [p] = p ++ [10] := by simp [textT]
theorem print_le {s : Sc} {a b : List (List UInt8)} (h : linesM s = a ++ b) : (textT a).length ≤ (printM s).length := by
  unfold printM
  rw [h, textT_app, List.length_append]
  omega
/-- What is told ahead of the i-th image; of the i-th client; of the j-th of their calls. -/
def p1 (s : Sc) (i : Nat) : List (List UInt8) := roomL s :: (s.im.take i).map imageL
def p2 (s : Sc) (i : Nat) : List (List UInt8) := roomL s :: (s.im.map imageL ++ (s.cl.take i).flatMap clientL)
def p3 (s : Sc) (i : Nat) (l : List cal.Op) (j : Nat) : List (List UInt8) := p2 s i ++ clientW :: (l.take j).map textM
def p4 (s : Sc) (i : Nat) : List UInt8 := textT (p2 s s.cl.length) ++ pickW ++ (s.pk.take i).flatMap fun n => 32 :: Lib.itoa n
theorem p1_rest (s : Sc) (i : Nat) : ∃ b, linesM s = p1 s i ++ b := ⟨(s.im.drop i).map imageL ++ s.cl.flatMap clientL ++ (if s.pk = [] then [] else [pickL s.pk]), by
  unfold linesM p1
  rw [List.cons_append]
  congr 1
  simp only [← List.append_assoc, ← List.map_append, List.take_append_drop]⟩
theorem p2_rest (s : Sc) (i : Nat) : ∃ b, linesM s = p2 s i ++ b := ⟨(s.cl.drop i).flatMap clientL ++ (if s.pk = [] then [] else [pickL s.pk]), by
  unfold linesM p2
  rw [List.cons_append]
  congr 1
  simp only [List.append_assoc]
  congr 1
  rw [← List.append_assoc, ← List.flatMap_append, List.take_append_drop]⟩
theorem p1_more {s : Sc} {i : Nat} {x : List UInt8} (h : s.im[i]? = some x) : p1 s (i + 1) = p1 s i ++ [imageL x] := by
  unfold p1
  rw [List.take_add_one, h]
  simp
theorem p1_all (s : Sc) : p1 s s.im.length = p2 s 0 := by
  unfold p1 p2
  simp
theorem p3_all {s : Sc} {i : Nat} {l : List cal.Op} (h : s.cl[i]? = some l) : p3 s i l l.length = p2 s (i + 1) := by
  unfold p3 p2
  rw [List.take_add_one, h]
  simp [clientL]
theorem p3_more {s : Sc} {i : Nat} {l : List cal.Op} {j : Nat} {o : cal.Op} (h : l[j]? = some o) : p3 s i l (j + 1) = p3 s i l j ++ [textM o] := by
  unfold p3
  rw [List.take_add_one, h]
  simp
theorem p3_rest {s : Sc} {i : Nat} {l : List cal.Op} (h : s.cl[i]? = some l) (j : Nat) : ∃ b, linesM s = p3 s i l j ++ b := by
  obtain ⟨b, hb⟩ := p2_rest s (i + 1)
  rw [← p3_all h] at hb
  refine ⟨(l.drop j).map textM ++ b, ?_⟩
  rw [hb]
  unfold p3
  simp only [List.append_assoc, List.cons_append, List.take_length]
  congr 2
  rw [← List.append_assoc, ← List.map_append, List.take_append_drop]
theorem join_pk : ∀ (ns : List Int), ns ≠ [] → 32 :: joinC 32 (ns.map Lib.itoa) = ns.flatMap fun n => 32 :: Lib.itoa n
  | [], h => absurd rfl h
  | [a], _ => by simp [joinC]
  | a :: b :: r, _ => by
    have := join_pk (b :: r) (by simp)
    rw [List.map_cons, joinC_more _ _ (by simp), List.flatMap_cons, ← this]
    rfl
theorem print_pk {s : Sc} (h : s.pk ≠ []) : printM s = p4 s s.pk.length ++ [10] := by
  unfold printM p4 linesM p2
  rw [if_neg h]
  have e : roomL s :: (s.im.map imageL ++ s.cl.flatMap clientL ++ [pickL s.pk]) = (roomL s :: (s.im.map imageL ++ (s.cl.take s.cl.length).flatMap clientL)) ++ [pickL s.pk] := by
    rw [List.take_length]
    rfl
  rw [e, textT_app, textT_one, List.take_length, List.take_length, ← join_pk s.pk h]
  unfold pickL
  simp
theorem print_nil {s : Sc} (h : s.pk = []) : printM s = textT (p2 s s.cl.length) := by
  unfold printM linesM p2
  rw [if_pos h, List.append_nil, List.take_length]
theorem p4_more {s : Sc} {i : Nat} {n : Int} (h : s.pk[i]? = some n) : p4 s (i + 1) = p4 s i ++ 32 :: Lib.itoa n := by
  unfold p4
  rw [List.take_add_one, h]
  simp
theorem p4_le {s : Sc} (h : s.pk ≠ []) (i : Nat) : (p4 s i).length ≤ (printM s).length := by
  rw [print_pk h]
  unfold p4
  have e : (s.pk.take i).flatMap (fun n => 32 :: Lib.itoa n) ++ (s.pk.drop i).flatMap (fun n => 32 :: Lib.itoa n) = (s.pk.take s.pk.length).flatMap (fun n => 32 :: Lib.itoa n) := by
    rw [← List.flatMap_append, List.take_append_drop, List.take_length]
  have := congrArg List.length e
  simp only [List.length_append] at this ⊢
  omega
/-- A text that was told so far, with its size. -/
def Told (s : Sc) (l : List UInt8) (r : ByteArray) : Prop := r.data.toList = l ∧ l.length ≤ (printM s).length
theorem Told.size {s : Sc} {l : List UInt8} {r : ByteArray} (h : Told s l r) : r.size ≤ (printM s).length := by rw [← size_list, h.1]; exact h.2
set_option maxHeartbeats 12800000 in
theorem refprint_any (n : Nat) (S : ScB) (Ai Ac Ap : Option Addr) (ci cc cp : Nat) (w : World) (hS : Scr w S Ai Ac Ap) (hn : n ≤ 1000000) (hF : FB n S) (hI : ∀ x ∈ S.im, x.size ≤ 1000000) (hK : S.pk.length ≤ 1000000) (hL : (printM S.m).length ≤ 1000000000000) :
    Calls Tryd.prog 11 #[scV S (.slice Ai S.im.length ci) (.slice Ac S.cl.length cc) (.slice Ap S.pk.length cp)] w (StrOut (printM S.m) w) := by
  obtain ⟨W1, hW1⟩ : ∃ W1, W1 = w.alloc (.cells #[.int .i64 S.sh, .int .i64 S.rm, .int .i64 S.cu, .slice Ai S.im.length ci, .slice Ac S.cl.length cc, .slice Ap S.pk.length cp] 33) := ⟨_, rfl⟩
  obtain ⟨hb1, x1⟩ := sc_at hW1
  obtain ⟨g, hg⟩ : ∃ g, g = w.heap.size := ⟨_, rfl⟩
  rw [← hg] at x1
  have HX := Lib.hid x1
  have HS := Lib.hid (hS.later hb1)
  have HB1 := Lib.hid hb1
  have HFb := Lib.hid hF
  have HIm := Lib.hid (And.intro hI hK)
  have HL := Lib.hid hL
  have HW1 := Lib.hid hW1
  have HG := Lib.hid hg
  obtain ⟨s, hs⟩ : ∃ s, s = S.m := ⟨_, rfl⟩
  have HSm := Lib.hid hs
  have HSS : Hid (∀ w', Below W1.heap.size W1 w' → (w'.cell? ⟨g, 0, none⟩ = some (.int .i64 S.sh) ∧ w'.cell? ⟨g, 1, none⟩ = some (.int .i64 S.rm) ∧ w'.cell? ⟨g, 2, none⟩ = some (.int .i64 S.cu)) ∧ Below W1.heap.size W1 w') := Lib.hid fun w' hb => by
    have e := (hb.block _ (lt_of_some HX.out)).trans HX.out
    exact ⟨⟨cell_of_blk e 0, cell_of_blk e 1, cell_of_blk e 2⟩, hb⟩
  have hSt0 : Hid (Below W1.heap.size W1 W1.drew) := Lib.hid (Below.refl _ _).drew
  clear hW1 hb1 x1 hg hS hF hI hK hL hs
  unfold scV
  go_enter Tryd.func11, Tryd.ntmps11
  go_upto_region 1 with fail
  rw [← HW1.out]
  simp only [← HG.out]
  clear HW1
  refine wp_region_held_drew (S := fun w' => (w'.cell? ⟨g, 0, none⟩ = some (.int .i64 S.sh) ∧ w'.cell? ⟨g, 1, none⟩ = some (.int .i64 S.rm) ∧ w'.cell? ⟨g, 2, none⟩ = some (.int .i64 S.cu)) ∧ Below W1.heap.size W1 w') (by kernel_rfl) (HSS.out _ hSt0.out) (fun hHeld => ?_)
  refine wpAnyH_take (i := 0) (oi := ⟨some 8, _, _, _, _, _⟩) (v := ?_) rfl (by kernel_rfl) (by kernel_rfl) (by kernel_rfl) (fun _ _ _ h => h) (Or.inl ⟨by kernel_rfl, ?_⟩) (by assumption) ?_
  rotate_left 1
  focus (intro w' hSw; (try dsimp only at hSw); go_simp; (try with_reducible rfl))
  try simp only [Act.put, List.setIfInBounds_toArray, List.set_cons_zero, List.set_cons_succ]
  refine wpAnyH_take (i := 1) (oi := ⟨some 9, _, _, _, _, _⟩) (v := ?_) rfl (by kernel_rfl) (by kernel_rfl) (by kernel_rfl) (fun _ _ _ h => h) (Or.inl ⟨by kernel_rfl, ?_⟩) (by assumption) ?_
  rotate_left 1
  focus (intro w' hSw; (try dsimp only at hSw); go_simp; (try with_reducible rfl))
  try simp only [Act.put, List.setIfInBounds_toArray, List.set_cons_zero, List.set_cons_succ]
  refine wpAnyH_take (i := 5) (oi := ⟨some 13, _, _, _, _, _⟩) (v := ?_) rfl (by kernel_rfl) (by kernel_rfl) (by kernel_rfl) (fun _ _ _ h => h) (Or.inl ⟨by kernel_rfl, ?_⟩) (by assumption) ?_
  rotate_left 1
  focus (intro w' hSw; (try dsimp only at hSw); go_simp; (try with_reducible rfl))
  try simp only [Act.put, List.setIfInBounds_toArray, List.set_cons_zero, List.set_cons_succ]
  refine wpAnyH_take (i := 6) (oi := ⟨some 14, _, _, _, _, _⟩) (v := ?_) rfl (by kernel_rfl) (by kernel_rfl) (by kernel_rfl) (fun _ _ _ h => h) (Or.inl ⟨by kernel_rfl, ?_⟩) (by assumption) ?_
  rotate_left 1
  focus (intro w' hSw; (try dsimp only at hSw); go_simp; (try with_reducible rfl))
  try simp only [Act.put, List.setIfInBounds_toArray, List.set_cons_zero, List.set_cons_succ]
  refine wpAnyH_take (i := 10) (oi := ⟨some 18, _, _, _, _, _⟩) (v := ?_) rfl (by kernel_rfl) (by kernel_rfl) (by kernel_rfl) (fun _ _ _ h => h) (Or.inl ⟨by kernel_rfl, ?_⟩) (by assumption) ?_
  rotate_left 1
  focus (intro w' hSw; (try dsimp only at hSw); go_simp; (try with_reducible rfl))
  try simp only [Act.put, List.setIfInBounds_toArray, List.set_cons_zero, List.set_cons_succ]
  refine wpAnyH_take (i := 11) (oi := ⟨some 19, _, _, _, _, _⟩) (v := ?_) rfl (by kernel_rfl) (by kernel_rfl) (by kernel_rfl) (fun _ _ _ h => h) (Or.inl ⟨by kernel_rfl, ?_⟩) (by assumption) ?_
  rotate_left 1
  focus (intro w' hSw; (try dsimp only at hSw); go_simp; (try with_reducible rfl))
  try simp only [Act.put, List.setIfInBounds_toArray, List.set_cons_zero, List.set_cons_succ]
  refine wpAnyH_ready (rs := [2]) (by kernel_rfl) (by simp) ?_
  refine AllReadyH.cons rfl (fun K hK => ?_) AllReadyH.nil
  go_simp
  go_at_call 24
  refine (refnum_any S.sh HFb.out.sh W1.drew).mono ?_
  rintro en v1 ⟨⟨r1, rfl, hr1⟩, hb1⟩
  have hz1 := num_size HFb.out.sh hr1
  have hSt1 := Lib.hid (hSt0.out.trans (hb1.mono hSt0.out.size))
  clear hb1
  have y1 : ¬ 9223372036854775807 < 5 + r1.size := by omega
  have y2 : ¬ 9223372036854775807 < 5 + r1.size + 1 := by omega
  clear hHeld
  refine hK.out _ _ (HSS.out _ hSt1.out) (fun hHeld => ?_)
  clear hK
  refine wpAnyH_take (i := 3) (oi := ⟨some 11, _, _, _, _, _⟩) (v := ?_) rfl (by kernel_rfl) (by kernel_rfl) (by kernel_rfl) (fun _ _ _ h => h) (Or.inl ⟨by kernel_rfl, ?_⟩) (by assumption) ?_
  rotate_left 1
  focus (intro w' hSw; (try dsimp only at hSw); go_simp; (try with_reducible rfl))
  try simp only [Act.put, List.setIfInBounds_toArray, List.set_cons_zero, List.set_cons_succ]
  refine wpAnyH_take (i := 4) (oi := ⟨some 12, _, _, _, _, _⟩) (v := ?_) rfl (by kernel_rfl) (by kernel_rfl) (by kernel_rfl) (fun _ _ _ h => h) (Or.inl ⟨by kernel_rfl, ?_⟩) (by assumption) ?_
  rotate_left 1
  focus (intro w' hSw; (try dsimp only at hSw); go_simp; (try with_reducible rfl))
  try simp only [Act.put, List.setIfInBounds_toArray, List.set_cons_zero, List.set_cons_succ]
  refine wpAnyH_ready (rs := [7]) (by kernel_rfl) (by simp) ?_
  refine AllReadyH.cons rfl (fun K hK => ?_) AllReadyH.nil
  go_simp
  go_at_call 24
  refine (refnum_any S.rm HFb.out.rm v1).mono ?_
  rintro en v2 ⟨⟨r2, rfl, hr2⟩, hb2⟩
  have hz2 := num_size HFb.out.rm hr2
  have hSt2 := Lib.hid (hSt1.out.trans (hb2.mono hSt1.out.size))
  clear hb2
  have y3 : ¬ 9223372036854775807 < 5 + r1.size + 1 + r2.size := by omega
  have y4 : ¬ 9223372036854775807 < 5 + r1.size + 1 + r2.size + 1 := by omega
  clear hHeld
  refine hK.out _ _ (HSS.out _ hSt2.out) (fun hHeld => ?_)
  clear hK
  refine wpAnyH_take (i := 8) (oi := ⟨some 16, _, _, _, _, _⟩) (v := ?_) rfl (by kernel_rfl) (by kernel_rfl) (by kernel_rfl) (fun _ _ _ h => h) (Or.inl ⟨by kernel_rfl, ?_⟩) (by assumption) ?_
  rotate_left 1
  focus (intro w' hSw; (try dsimp only at hSw); go_simp; (try with_reducible rfl))
  try simp only [Act.put, List.setIfInBounds_toArray, List.set_cons_zero, List.set_cons_succ]
  refine wpAnyH_take (i := 9) (oi := ⟨some 17, _, _, _, _, _⟩) (v := ?_) rfl (by kernel_rfl) (by kernel_rfl) (by kernel_rfl) (fun _ _ _ h => h) (Or.inl ⟨by kernel_rfl, ?_⟩) (by assumption) ?_
  rotate_left 1
  focus (intro w' hSw; (try dsimp only at hSw); go_simp; (try with_reducible rfl))
  try simp only [Act.put, List.setIfInBounds_toArray, List.set_cons_zero, List.set_cons_succ]
  refine wpAnyH_ready (rs := [12]) (by kernel_rfl) (by simp) ?_
  refine AllReadyH.cons rfl (fun K hK => ?_) AllReadyH.nil
  go_simp
  go_at_call 24
  refine (refnum_any S.cu HFb.out.cu v2).mono ?_
  rintro en v3 ⟨⟨r3, rfl, hr3⟩, hb3⟩
  have hz3 := num_size HFb.out.cu hr3
  have hSt3 := Lib.hid (hSt2.out.trans (hb3.mono hSt2.out.size))
  clear hb3
  have y5 : ¬ 9223372036854775807 < 5 + r1.size + 1 + r2.size + 1 + r3.size := by omega
  have y6 : ¬ 9223372036854775807 < 5 + r1.size + 1 + r2.size + 1 + r3.size + 1 := by omega
  clear hHeld
  refine hK.out _ _ (HSS.out _ hSt3.out) (fun hHeld => ?_)
  clear hK
  refine wpAnyH_take (i := 13) (oi := ⟨some 21, _, _, _, _, _⟩) (v := ?_) rfl (by kernel_rfl) (by kernel_rfl) (by kernel_rfl) (fun _ _ _ h => h) (Or.inl ⟨by kernel_rfl, ?_⟩) (by assumption) ?_
  rotate_left 1
  focus (intro w' hSw; (try dsimp only at hSw); go_simp; (try with_reducible rfl))
  try simp only [Act.put, List.setIfInBounds_toArray, List.set_cons_zero, List.set_cons_succ]
  refine wpAnyH_take (i := 14) (oi := ⟨some 22, _, _, _, _, _⟩) (v := ?_) rfl (by kernel_rfl) (by kernel_rfl) (by kernel_rfl) (fun _ _ _ h => h) (Or.inl ⟨by kernel_rfl, ?_⟩) (by assumption) ?_
  rotate_left 1
  focus (intro w' hSw; (try dsimp only at hSw); go_simp; (try with_reducible rfl))
  try simp only [Act.put, List.setIfInBounds_toArray, List.set_cons_zero, List.set_cons_succ]
  refine wpAnyH_take (i := 15) (oi := ⟨some 3, _, _, _, _, _⟩) (v := ?_) rfl (by kernel_rfl) (by kernel_rfl) (by kernel_rfl) (fun _ _ _ h => h) (Or.inl ⟨by kernel_rfl, ?_⟩) (by assumption) ?_
  rotate_left 1
  focus (intro w' hSw; (try dsimp only at hSw); go_simp; (try with_reducible rfl))
  try simp only [Act.put, List.setIfInBounds_toArray, List.set_cons_zero, List.set_cons_succ]
  refine wpAnyH_done (by kernel_rfl) ?_ _
  clear hHeld HSS hSt0 hSt1 hSt2 y1 y2 y3 y4 y5 y6
  obtain ⟨out, hout⟩ : ∃ out : ByteArray, out = (⟨#[114, 111, 111, 109, 32]⟩ : ByteArray) ++ r1 ++ ⟨#[32]⟩ ++ r2 ++ ⟨#[32]⟩ ++ r3 ++ ⟨#[10]⟩ := ⟨_, rfl⟩
  rw [← hout]
  have HT0 : Hid (Told s (textT (p1 s 0)) out) := Lib.hid (by
    obtain ⟨b, hb⟩ := p1_rest s 0
    refine ⟨?_, print_le hb⟩
    rw [hout, HSm.out]
    simp only [app_data, hr1, hr2, hr3]
    unfold p1 roomL
    simp only [List.take_zero, List.map_nil, textT_one]
    simp [joinC, roomW, ScB.m])
  have HB3 := hSt3
  clear hout hr1 hr2 hr3 hz1 hz2 hz3 hSt3
  have hLs : (printM s).length ≤ 1000000000000 := by rw [HSm.out]; exact HL.out
  go_wp2_with fail
  go_loopw [3, 4] (fun v3 v4 wr => ∃ (i : Nat) (out : ByteArray), v3 = .string out ∧ v4 = .int .i64 (i : Int) ∧ i ≤ S.im.length ∧ Hid (Told s (textT (p1 s i)) out) ∧ Hid (Below W1.heap.size W1 wr)) (fun _ v4 _ => S.im.length - (intOf v4).toNat)
  case atStart => exact ⟨0, out, rfl, rfl, Nat.zero_le _, HT0, HB3⟩
  case round =>
    obtain ⟨i, out, rfl, rfl, hi, HT, HB⟩ := hrel
    clear HT0 HB3
    obtain ⟨wq, hwq⟩ : ∃ wq, wq = wr := ⟨_, rfl⟩
    subst hwq
    have xr := (HB.out.block _ (lt_of_some HX.out)).trans HX.out
    have y3 := cell_of_blk xr 3
    have hIn : S.im.length ≤ 1000000 := by have := HFb.out.li; omega
    have HN := Lib.hid hn
    have HLs := Lib.hid hLs
    have hts := HT.out.size
    by_cases hlt : i < S.im.length
    · obtain ⟨x, hx⟩ : ∃ x, S.im[i]? = some x := ⟨_, List.getElem?_eq_getElem hlt⟩
      obtain ⟨b, off, rfl, h2, h3⟩ := (HS.out.later HB.out).im i x hx
      have hxz := HIm.out.1 x (List.mem_of_getElem? hx)
      have hsx : s.im[i]? = some x.data.toList := by rw [HSm.out]; show (S.im.map _)[i]? = _; rw [List.getElem?_map, hx]; rfl
      have HM := Lib.hid (p1_more hsx)
      have HH := Lib.hid (refhex_any x wq (by omega))
      have i0 : (0 : Int) ≤ (i : Int) := by omega
      have i1 : (i : Int) < (S.im.length : Int) := by omega
      have g1 : ¬ 9223372036854775807 < out.size + 6 := by omega
      clear hx hsx h2 xr hxz
      go_wp2_with fail
      refine HH.out.mono ?_
      rintro e w5 ⟨⟨r, rfl, hr⟩, hb5⟩
      have HT2 : Hid (Told s (textT (p1 s (i + 1))) (out ++ ⟨#[105, 109, 97, 103, 101, 32]⟩ ++ r ++ ⟨#[10]⟩)) := Lib.hid (by
        obtain ⟨b, hb⟩ := p1_rest s (i + 1)
        refine ⟨?_, print_le hb⟩
        rw [HM.out, textT_app, textT_one]
        simp only [app_data, hr, HT.out.1]
        simp [imageL, imageW])
      have HBn := Lib.hid (HB.out.trans (hb5.mono HB.out.size))
      have hsz := HT2.out.size
      simp only [ByteArray.size_append] at hsz
      have e6 : (⟨#[105, 109, 97, 103, 101, 32]⟩ : ByteArray).size = 6 := rfl
      have e1 : (⟨#[10]⟩ : ByteArray).size = 1 := rfl
      rw [e6, e1] at hsz
      have g2 : ¬ 9223372036854775807 < out.size + 6 + r.size := by omega
      have g3 : ¬ 9223372036854775807 < out.size + 6 + r.size + 1 := by omega
      have hLs := HLs.out
      clear hb5 hr HH hsz e6 e1
      go_wp2_with fail
      go_roundw
      case rel => exact ⟨i + 1, _, rfl, by go_num, by omega, HT2, HBn⟩
      case measure => simp [intOf]; omega
    · obtain rfl : i = S.im.length := by omega
      have HT2 : Hid (Told s (textT (p2 s 0)) out) := Lib.hid (by rw [← p1_all, HSm.out]; have h1 := HT.out; rw [HSm.out] at h1; simpa [ScB.m] using h1)
      clear HT xr
      have HB3 := HB
      go_wp2_with fail
      clear y3 hts hIn hi hlt HB
      go_loopw [3, 5, 6] (fun v3 v5 v6 wr => ∃ (i : Nat) (out : ByteArray), v3 = .string out ∧ v5 = .int .i64 (i : Int) ∧ i ≤ S.cl.length ∧ Hid (Told s (textT (p2 s i)) out) ∧ Hid (Below W1.heap.size W1 wr)) (fun _ v5 _ _ => S.cl.length - (intOf v5).toNat)
      case atStart => exact ⟨0, out, rfl, rfl, Nat.zero_le _, HT2, HB3⟩
      case round =>
        obtain ⟨i, out, rfl, rfl, hi, HT, HB⟩ := hrel
        clear HT2 HB3
        obtain ⟨wp, hwp⟩ : ∃ wp, wp = wr := ⟨_, rfl⟩
        subst hwp
        have xr := (HB.out.block _ (lt_of_some HX.out)).trans HX.out
        have y4 := cell_of_blk xr 4
        have hIn : S.cl.length ≤ 1000000 := by have := HFb.out.lc; have := HN.out; omega
        have hts := HT.out.size
        have hLs := HLs.out
        by_cases hlt : i < S.cl.length
        · obtain ⟨l, hl⟩ : ∃ l, S.cl[i]? = some l := ⟨_, List.getElem?_eq_getElem hlt⟩
          have hlm : l ∈ S.cl := List.mem_of_getElem? hl
          obtain ⟨b, off, A2, c2, rfl, h2, h3, h4⟩ := (HS.out.later HB.out).cl i l hl
          have hln : l.length ≤ 1000000 := by have := HFb.out.lo l hlm; have := HN.out; omega
          obtain ⟨lm, hlm2⟩ : ∃ lm, lm = l.map OpB.m := ⟨_, rfl⟩
          have hsl : s.cl[i]? = some lm := by rw [HSm.out, hlm2]; show (S.cl.map _)[i]? = _; rw [List.getElem?_map, hl]; rfl
          have HLm := Lib.hid (And.intro hlm2 (And.intro hsl hlm))
          have i0 : (0 : Int) ≤ (i : Int) := by omega
          have i1 : (i : Int) < (S.cl.length : Int) := by omega
          have HT3 : Hid (Told s (textT (p3 s i lm 0)) (out ++ ⟨#[99, 108, 105, 101, 110, 116, 10]⟩)) := Lib.hid (by
            obtain ⟨b, hb⟩ := p3_rest hsl 0
            refine ⟨?_, print_le hb⟩
            unfold p3
            rw [textT_app]
            simp only [app_data, HT.out.1]
            simp [textT, clientW])
          have g1 : ¬ 9223372036854775807 < out.size + 7 := by omega
          have H4 := Lib.hid h4
          have HC := Lib.hid (And.intro h2 h3)
          clear hl hlm hlm2 hsl h4 xr h2
          go_wp2_with fail
          go_loopw [3, 6] (fun v3 v6 wr => ∃ (j : Nat) (out : ByteArray), v3 = .string out ∧ v6 = .int .i64 (j : Int) ∧ j ≤ l.length ∧ Hid (Told s (textT (p3 s i lm j)) out) ∧ Hid (Below wp.heap.size wp wr)) (fun _ v6 _ => l.length - (intOf v6).toNat)
          case atStart => exact ⟨0, _, rfl, rfl, Nat.zero_le _, HT3, Lib.hid (Below.refl _ _)⟩
          case round =>
            obtain ⟨j, out, rfl, rfl, hj, HTj, HBj⟩ := hrel
            have HB2 := Lib.hid (HB.out.trans (HBj.out.mono HB.out.size))
            have xo := (HB2.out.block _ (lt_of_some HX.out)).trans HX.out
            have z4 := cell_of_blk xo 4
            have zc := (HBj.out.cell (p := ⟨b, off + i, none⟩) HC.out.1).trans HC.out.2
            have hts := HTj.out.size
            clear y4 h3 xo g1
            by_cases hlj : j < l.length
            · obtain ⟨o, ho⟩ : ∃ o, l[j]? = some o := ⟨_, List.getElem?_eq_getElem hlj⟩
              obtain ⟨b2, off2, rfl, h6, h7⟩ := H4.out j o ho
              have k : ∀ (q : Nat) (u : Value), o.c[q]? = some u → wr.cell? ⟨b2, off2 + j * 6 + q, none⟩ = some u := fun q u hu => (HBj.out.cell (p := ⟨b2, off2 + j * 6 + q, none⟩) h6).trans (h7 q u hu)
              have u0 := k 0 _ rfl
              have u1 := k 1 _ rfl
              have u2 := k 2 _ rfl
              have u3 := k 3 _ rfl
              have u4 := k 4 _ rfl
              have u5 := k 5 _ rfl
              rw [Nat.add_zero] at u0
              have j0 : (0 : Int) ≤ (j : Int) := by omega
              have j1 : (j : Int) < (l.length : Int) := by omega
              have HM : Hid (p3 s i lm (j + 1) = p3 s i lm j ++ [textM o.m]) := Lib.hid (p3_more (by rw [HLm.out.1, List.getElem?_map, ho]; rfl))
              have HOn := Lib.hid (reftext_any o.K o.P o.O o.N o.I o.G wr (HFb.out.op l HLm.out.2.2 o (List.mem_of_getElem? ho)))
              clear ho h6 h7 k
              unfold opV at HOn
              go_wp2_with fail
              refine HOn.out.mono ?_
              rintro e w5 ⟨⟨r, rfl, hr⟩, hb5⟩
              have HBn := Lib.hid (HBj.out.trans (hb5.mono HBj.out.size))
              have HT4 : Hid (Told s (textT (p3 s i lm (j + 1))) (out ++ r ++ ⟨#[10]⟩)) := Lib.hid (by
                obtain ⟨b, hb⟩ := p3_rest HLm.out.2.1 (j + 1)
                refine ⟨?_, print_le hb⟩
                rw [HM.out, textT_app, textT_one]
                simp only [app_data, hr, HTj.out.1]
                simp [OpB.m])
              have hsz := HT4.out.size
              simp only [ByteArray.size_append] at hsz
              have e1 : (⟨#[10]⟩ : ByteArray).size = 1 := rfl
              rw [e1] at hsz
              have g2 : ¬ 9223372036854775807 < out.size + r.size := by omega
              have g3 : ¬ 9223372036854775807 < out.size + r.size + 1 := by omega
              clear hb5 hr HOn hsz e1
              go_wp2_with fail
              go_roundw
              case rel => exact ⟨j + 1, _, rfl, by go_num, by omega, HT4, HBn⟩
              case measure => simp [intOf]; omega
            · obtain rfl : j = l.length := by omega
              have HT4 : Hid (Told s (textT (p2 s (i + 1))) out) := Lib.hid (by
                have h1 := HTj.out
                have h2 : p3 s i lm l.length = p2 s (i + 1) := by rw [← p3_all HLm.out.2.1, HLm.out.1, List.length_map]
                rw [h2] at h1
                exact h1)
              go_wp2_with fail
              go_roundw
              case rel => exact ⟨i + 1, out, rfl, by go_num, by omega, HT4, HB2⟩
              case measure => simp [intOf]; omega
        · obtain rfl : i = S.cl.length := by omega
          have hscl : s.cl.length = S.cl.length := by rw [HSm.out]; simp [ScB.m]
          have HTc : Hid (Told s (textT (p2 s s.cl.length)) out) := Lib.hid (by rw [hscl]; exact HT.out)
          have y5 := cell_of_blk xr 5
          have HBc := HB
          clear HT xr hscl HB
          by_cases hpk : S.pk = []
          · have hs0 : s.pk = [] := by rw [HSm.out]; exact hpk
            have HFin : Hid (StrOut (printM S.m) w (.returned (.string out)) wp) := Lib.hid ⟨⟨out, rfl, by rw [← HSm.out, print_nil hs0]; exact HTc.out.1⟩, HB1.out.trans (HBc.out.mono HB1.out.size)⟩
            have hl0 : S.pk.length = 0 := by rw [hpk]; rfl
            rw [hl0] at y5
            clear hs0 hpk
            go_wp2_with fail
            go_ret
            exact HFin.out
          · have hs0 : s.pk ≠ [] := by rw [HSm.out]; exact hpk
            have hl1 : 0 < S.pk.length := List.length_pos_iff.2 hpk
            have hl2 : (0 : Int) < (S.pk.length : Int) := by omega
            have HPk := Lib.hid (And.intro hs0 hpk)
            have HT5 : Hid (Told s (p4 s 0) (out ++ ⟨#[112, 105, 99, 107]⟩)) := Lib.hid (by
              refine ⟨?_, p4_le hs0 0⟩
              unfold p4
              simp only [app_data, HTc.out.1]
              simp [pickW])
            have hts := HTc.out.size
            have g1 : ¬ 9223372036854775807 < out.size + 4 := by omega
            clear hs0 hpk
            go_wp2_with fail
            clear y4 hi hlt hIn
            go_loopw [3, 7] (fun v3 v7 wr => ∃ (i : Nat) (out : ByteArray), v3 = .string out ∧ v7 = .int .i64 (i : Int) ∧ i ≤ S.pk.length ∧ Hid (Told s (p4 s i) out) ∧ Hid (Below W1.heap.size W1 wr)) (fun _ v7 _ => S.pk.length - (intOf v7).toNat)
            case atStart => exact ⟨0, _, rfl, rfl, Nat.zero_le _, HT5, HBc⟩
            case round =>
              obtain ⟨i, out, rfl, rfl, hi, HT, HB⟩ := hrel
              have xr := (HB.out.block _ (lt_of_some HX.out)).trans HX.out
              clear y5 HT5 HBc g1 hts HTc
              have y5 := cell_of_blk xr 5
              have hIn := HIm.out.2
              have hts := HT.out.size
              by_cases hlt : i < S.pk.length
              · obtain ⟨x, hx⟩ : ∃ x, S.pk[i]? = some x := ⟨_, List.getElem?_eq_getElem hlt⟩
                obtain ⟨b, off, rfl, h2, h3⟩ := (HS.out.later HB.out).pk i x hx
                have hxi := HFb.out.pk x (List.mem_of_getElem? hx)
                have hsx : s.pk[i]? = some x := by rw [HSm.out]; exact hx
                have HM := Lib.hid (p4_more hsx)
                have HH := Lib.hid (refnum_any x hxi wr)
                have i0 : (0 : Int) ≤ (i : Int) := by omega
                have i1 : (i : Int) < (S.pk.length : Int) := by omega
                have g1 : ¬ 9223372036854775807 < out.size + 1 := by omega
                clear hx hsx h2 xr hxi
                go_wp2_with fail
                refine HH.out.mono ?_
                rintro e w5 ⟨⟨r, rfl, hr⟩, hb5⟩
                have HT6 : Hid (Told s (p4 s (i + 1)) (out ++ ⟨#[32]⟩ ++ r)) := Lib.hid (by
                  refine ⟨?_, p4_le HPk.out.1 (i + 1)⟩
                  rw [HM.out]
                  simp only [app_data, hr, HT.out.1]
                  simp)
                have HBn := Lib.hid (HB.out.trans (hb5.mono HB.out.size))
                have hsz := HT6.out.size
                simp only [ByteArray.size_append] at hsz
                have e1 : (⟨#[32]⟩ : ByteArray).size = 1 := rfl
                rw [e1] at hsz
                have g2 : ¬ 9223372036854775807 < out.size + 1 + r.size := by omega
                clear hb5 hr HH hsz e1
                go_wp2_with fail
                go_roundw
                case rel => exact ⟨i + 1, _, rfl, by go_num, by omega, HT6, HBn⟩
                case measure => simp [intOf]; omega
              · obtain rfl : i = S.pk.length := by omega
                have HFin : Hid (StrOut (printM S.m) w (.returned (.string (out ++ ⟨#[10]⟩))) wr) := Lib.hid ⟨⟨_, rfl, by
                  rw [← HSm.out, print_pk HPk.out.1]
                  have h1 := HT.out.1
                  have h2 : s.pk.length = S.pk.length := by rw [HSm.out]; rfl
                  rw [app_data, h1, h2]⟩, HB1.out.trans (HB.out.mono HB1.out.size)⟩
                have g1 : ¬ 9223372036854775807 < out.size + 1 := by omega
                clear xr
                go_wp2_with fail
                go_ret
                exact HFin.out
end Go.Proofs.YtfbgnafnpeeonaaDoor.scr
