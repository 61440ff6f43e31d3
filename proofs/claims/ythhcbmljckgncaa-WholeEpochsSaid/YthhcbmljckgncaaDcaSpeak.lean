/- What socagelaw15's speaks answers. No condition. -/
import Derived.Test.YthhcbmljckgncaaDcaSay
namespace Go.Proofs.Ythhcbmljckgncaa.dca
set_option maxRecDepth 100000
open Go.RowKit Go.Proofs.Ythhcbmljckgncaa.words Go.Proofs.Ythhcbmljckgncaa.lru Go.Proofs.Ythhcbmljckgncaa.sha Go.Proofs.Ythhcbmljckgncaa.lrd Go.Proofs.Ythhcbmljckgncaa.shd

theorem two {α : Type} {l : List α} (h : l.length = 2) : ∃ a b, l = [a, b] := by
  match l, h with
  | [a, b], _ => exact ⟨a, b, rfl⟩
theorem news_at {gs : List Nat} {r i g : Nat} (h : gs[i]? = some g) : (news gs r)[i]? = some ⟨g, none, r, []⟩ := by unfold news; rw [List.getElem?_map, h]; rfl
theorem news_len (gs : List Nat) (r : Nat) : (news gs r).length = gs.length := by unfold news; rw [List.length_map]
theorem fam_held {w : World} {B : Nat} {C : List Cc} (h : Fam w B C) : Held w B (gsOf C) (nsOf C) := by
  refine ⟨by simp [gsOf, nsOf], fun i g hg => ?_⟩
  unfold gsOf at hg
  rw [List.getElem?_map] at hg
  rcases hc : C[i]? with _ | c
  · rw [hc] at hg; cases hg
  · rw [hc] at hg
    injection hg with hg
    subst hg
    exact ⟨c.bo, c.r, c.L, h.lru i c hc, by unfold nsOf; rw [List.getElem?_map, hc]; rfl⟩
theorem dmost_any (B q h : Nat) (C : List Cc) (x y : Int) (w : World) (d : Dc w B q h C x y) (h2 : C.length ≤ 256) :
    Calls Try.prog 23 #[.pointer (some ⟨h, 0, none⟩)] w fun e w' => e = .returned (.int .i64 (mostF (nsOf C) : Int)) ∧ w = w' :=
  most_any B h (gsOf C) (nsOf C) w d.shd (by rw [gs_len]; exact h2) (fam_held d.fam)
theorem most_two {gs : List Nat} {i g r n : Nat} {bo : Option Nat} {L : List (ByteArray × Ent)} (h : gs.length = 2) (hi : i < 2) : mostF (nsOf ((news gs r).set i ⟨g, bo, n, L⟩)) = L.length := by
  obtain ⟨a, b, rfl⟩ := two h
  have h2 : i = 0 ∨ i = 1 := by omega
  rcases h2 with rfl | rfl
  · simp [news, nsOf, mostF]
  · simp [news, nsOf, mostF]
theorem got_one (k : ByteArray) (v : Ent) : lrd.gotB [(k, v)] k = true ∧ lrd.gotI [(k, v)] k = v ∧ getL [(k, v)] k = [(k, v)] := by
  have h : val [(k, v)] k = some v := by simp [val]
  refine ⟨by unfold lrd.gotB; rw [h]; rfl, by unfold lrd.gotI; rw [h]; rfl, ?_⟩
  unfold getL
  rw [h]
  simp [rest]
theorem put_one (k : ByteArray) (v : Ent) {r : Nat} (hr : 1 ≤ r) : putL [] r k v = [(k, v)] := (put_new (κ := ByteArray) (ν := Ent) (L := []) (k := k) (fun p hp => by cases hp) (by simp; omega) v k).1
def v1 (A : Option Addr) (c : Nat) : Ent := ⟨1, true, 0, 0, 0, A, 0, c, ⟨#[]⟩⟩
def kRA : ByteArray := childB root ⟨#[97]⟩
/-- The three calls of speaks. -/
structure Ones (w w1 : World) (q h i : Nat) (gs : List Nat) (g : Nat) : Prop where
  len : gs.length = 2
  lt : i < 2
  key : i = ofF kRA 2
  at_ : gs[i]? = some g
  dc : Dc w1 w.heap.size q h (news gs 2) 0 0
  below : Below w.heap.size w w1
theorem Ones.of {w w1 : World} {q h : Nat} {gs : List Nat} (hl : gs.length = 2) (d : Dc w1 w.heap.size q h (news gs 2) 0 0) (hb : Below w.heap.size w w1) : ∃ i g, Ones w w1 q h i gs g := by
  have hi : ofF kRA 2 < 2 := ofF_lt kRA (by decide)
  obtain ⟨g, hg⟩ : ∃ g, gs[ofF kRA 2]? = some g := ⟨_, List.getElem?_eq_getElem (by omega)⟩
  exact ⟨_, g, hl, hi, rfl, hg, d, hb⟩
def After (w w1 : World) (q h i g : Nat) (gs : List Nat) (A : Option Addr) (c : Nat) (x y : Int) (w2 : World) : Prop :=
  ∃ bo', Dc w2 w.heap.size q h ((news gs 2).set i ⟨g, bo', 2, [(kRA, v1 A c)]⟩) x y ∧ Kept DS w.heap.size w1 w2
theorem Ones.keep {w w1 : World} {q h i g : Nat} {gs : List Nat} (o : Ones w w1 q h i gs g) :
    Calls Try.prog 17 #[.pointer (some ⟨q, 0, none⟩), .string ⟨#[47]⟩, .string ⟨#[97]⟩, .agg #[.int .i64 1, .bool true, .int .i64 0, .int .i64 0, .int .i64 0, .slice none 0 0, .string ⟨#[]⟩]] w1 fun e w' => e = .returned (.bool true) ∧ ∃ A c, After w w1 q h i g gs A c 0 0 w' := by
  have hn : (news gs 2).length = 2 := by rw [news_len, o.len]
  refine (keep_yes w.heap.size q h i ⟨g, none, 2, []⟩ (news gs 2) 0 0 (v1 none 0) root ⟨#[97]⟩ kRA w1 o.dc o.below.size rfl (by omega) (by omega) (by rw [hn]; exact o.key) (news_at o.at_) (by simp) (by decide) (by decide) 0 [] (by simp) (Sp.nil _ _ _) (.inl rfl)).mono ?_
  rintro e w' ⟨rfl, A, c', _, ⟨bo', hd⟩, hk⟩
  refine ⟨rfl, A, c', bo', ?_, hk⟩
  rw [put_one kRA _ (show (1 : Nat) ≤ 2 by omega)] at hd
  exact hd
theorem After.lookNo {w w1 w2 : World} {q h i g : Nat} {gs : List Nat} {A : Option Addr} {c : Nat} (o : Ones w w1 q h i gs g) (a : After w w1 q h i g gs A c 0 0 w2) :
    Calls Try.prog 20 #[.pointer (some ⟨q, 0, none⟩), .int .i64 2, .string ⟨#[47]⟩, .string ⟨#[97]⟩] w2 fun e w' => e = .returned (.tuple #[.agg #[.int .i64 0, .bool false, .int .i64 0, .int .i64 0, .int .i64 0, .slice none 0 0, .string ⟨#[]⟩], .bool false]) ∧ After w w1 q h i g gs A c 0 1 w' := by
  obtain ⟨bo', d, hk⟩ := a
  have hn : ((news gs 2).set i ⟨g, bo', 2, [(kRA, v1 A c)]⟩).length = 2 := by rw [List.length_set, news_len, o.len]
  have hx : ((news gs 2).set i ⟨g, bo', 2, [(kRA, v1 A c)]⟩)[i]? = some ⟨g, bo', 2, [(kRA, v1 A c)]⟩ := by rw [List.getElem?_set, if_pos rfl, if_pos (by rw [news_len, o.len]; exact o.lt)]
  obtain ⟨g1, g2, g3⟩ := got_one kRA (v1 A c)
  refine (look_no w.heap.size q h i ⟨g, bo', 2, [(kRA, v1 A c)]⟩ _ 0 0 2 root ⟨#[97]⟩ kRA w2 d (Nat.le_trans o.below.size hk.size) rfl (by omega) (by omega) (by rw [hn]; exact o.key) hx (by simp) (by decide) (by decide) (by decide) (.inr (by rw [g2]; show (1 : Int) ≠ 2; decide))).mono ?_
  rintro e w' ⟨rfl, ⟨bo2, hd⟩, hk2⟩
  refine ⟨rfl, bo2, ?_, hk.trans hk2⟩
  rw [g3, List.set_set] at hd
  exact hd
theorem After.lookYes {w w1 w2 : World} {q h i g : Nat} {gs : List Nat} {A : Option Addr} {c : Nat} (o : Ones w w1 q h i gs g) (a : After w w1 q h i g gs A c 0 1 w2) :
    Calls Try.prog 20 #[.pointer (some ⟨q, 0, none⟩), .int .i64 1, .string ⟨#[47]⟩, .string ⟨#[97]⟩] w2 fun e w' => ∃ A' c', e = .returned (.tuple #[.agg #[.int .i64 1, .bool true, .int .i64 0, .int .i64 0, .int .i64 0, .slice A' 0 c', .string ⟨#[]⟩], .bool true]) ∧ After w w1 q h i g gs A c 1 1 w' := by
  obtain ⟨bo', d, hk⟩ := a
  have hn : ((news gs 2).set i ⟨g, bo', 2, [(kRA, v1 A c)]⟩).length = 2 := by rw [List.length_set, news_len, o.len]
  have hx : ((news gs 2).set i ⟨g, bo', 2, [(kRA, v1 A c)]⟩)[i]? = some ⟨g, bo', 2, [(kRA, v1 A c)]⟩ := by rw [List.getElem?_set, if_pos rfl, if_pos (by rw [news_len, o.len]; exact o.lt)]
  obtain ⟨g1, g2, g3⟩ := got_one kRA (v1 A c)
  refine (look_yes w.heap.size q h i ⟨g, bo', 2, [(kRA, v1 A c)]⟩ _ 0 1 1 root ⟨#[97]⟩ kRA w2 d (Nat.le_trans o.below.size hk.size) rfl (by omega) (by omega) (by rw [hn]; exact o.key) hx (by simp) (by decide) (by decide) (by decide) 0 [] (by simp) g1 (by rw [g2]; rfl) (by rw [g2]; exact Sp.nil _ _ _)).mono ?_
  rintro e w' ⟨A', c', rfl, _, ⟨bo2, hd⟩, hk2⟩
  rw [g2]
  refine ⟨A', c', rfl, bo2, ?_, hk.trans hk2⟩
  rw [g3, List.set_set] at hd
  exact hd
set_option maxHeartbeats 6400000 in
theorem speaks_any (w : World) : Calls Try.prog 8 #[] w fun e w' => e = .returned (.bool true) ∧ Below w.heap.size w w' := by
  have HC0 := Lib.hid (dnew_any 2 2 2 2 w (by decide) (by decide))
  go_enter Try.func8, Try.ntmps8
  go_wp2_with fail
  refine HC0.out.mono ?_
  rintro e w1 ⟨q, h, gs, rfl, hgl, hd, hb⟩
  obtain ⟨i, g, ho⟩ := Ones.of hgl hd hb
  have HO := Lib.hid ho
  have HK := Lib.hid ho.keep
  clear hgl hd hb ho HC0
  go_wp2_with fail
  refine HK.out.mono ?_
  rintro e w2 ⟨rfl, A, c, h2⟩
  have HL1 := Lib.hid (h2.lookNo HO.out)
  clear h2 HK
  go_wp2_with fail
  refine HL1.out.mono ?_
  rintro e w3 ⟨rfl, h3⟩
  obtain ⟨w4, hw4⟩ : ∃ w4, w4 = w3.alloc (.cells #[.int .i64 0, .bool false, .int .i64 0, .int .i64 0, .int .i64 0, .slice none 0 0, .string ⟨#[]⟩] 50) := ⟨_, rfl⟩
  have hb4 : Below w3.heap.size w3 w4 := by rw [hw4]; exact (Below.refl _ _).alloc (Nat.le_refl _) _
  have h4 : After w w1 q h i g gs A c 0 1 w4 := by
    obtain ⟨bo', d, hk⟩ := h3
    exact ⟨bo', d.later hb4, hk.trans (Kept.of_below hb4 _ _)⟩
  have HL2 := Lib.hid (h4.lookYes HO.out)
  have HW4 := Lib.hid hw4
  clear h3 hb4 h4 hw4 HL1
  go_upto_region 5 with fail
  rw [← HW4.out]
  go_wp2_with fail
  refine HL2.out.mono ?_
  rintro e w5 ⟨A', c', rfl, h5⟩
  obtain ⟨w6, hw6⟩ : ∃ w6, w6 = w5.alloc (.cells #[.int .i64 1, .bool true, .int .i64 0, .int .i64 0, .int .i64 0, .slice A' 0 c', .string ⟨#[]⟩] 50) := ⟨_, rfl⟩
  have hb6 : Below w5.heap.size w5 w6 := by rw [hw6]; exact (Below.refl _ _).alloc (Nat.le_refl _) _
  have hk6 : w6.heap[w5.heap.size]? = some (.cells #[.int .i64 1, .bool true, .int .i64 0, .int .i64 0, .int .i64 0, .slice A' 0 c', .string ⟨#[]⟩] 50 (0, 0)) := by rw [hw6]; exact heap_alloc_new w5 _
  obtain ⟨bo', hd5, hkk⟩ := h5
  have hd6 := hd5.later hb6
  have HCN := Lib.hid (counts_any _ _ _ _ _ _ _ hd6)
  have HBF : Hid (Below w.heap.size w w6) := Lib.hid ((HO.out.below.trans (hkk.below HO.out.below.size)).trans (hb6.mono (Nat.le_trans HO.out.below.size hkk.size)))
  have HD6 := Lib.hid hd6
  have HK6 := Lib.hid hk6
  have HW6 := Lib.hid hw6
  clear hb6 hd5 hkk hd6 hk6 hw6 HL2
  go_upto_region 6 with fail
  rw [← HW6.out]
  go_wp2_with fail
  refine HCN.out.mono ?_
  rintro e w7 ⟨rfl, hb7⟩
  have hd7 := HD6.out.later hb7
  have hk7 := (hb7.block _ (lt_of_some HK6.out)).trans HK6.out
  have e1 := cell_of_blk hk7 1
  have c0 := cell_of_blk hd7.blk 0
  unfold ptrC at c0
  have HM : Hid (Calls Try.prog 23 #[.pointer (some ⟨h, 0, none⟩)] w7 fun e w' => e = .returned (.int .i64 1) ∧ w7 = w') := Lib.hid (by
    have := dmost_any _ _ _ _ _ _ w7 hd7 (by rw [List.length_set, news_len, HO.out.len]; decide)
    rw [most_two HO.out.len HO.out.lt] at this
    exact this)
  have HB7 := Lib.hid (HBF.out.trans (hb7.mono HBF.out.size))
  clear hd7 hk7 hb7
  go_wp2_with fail
  refine HM.out.mono ?_
  rintro e w8 ⟨rfl, rfl⟩
  go_wp2_with fail
  go_ret
  exact ⟨rfl, HB7.out⟩
end Go.Proofs.Ythhcbmljckgncaa.dca
