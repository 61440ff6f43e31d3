/- What socagelaw16's speaks answers. No condition. -/
import Derived.Test.YthhcbmljckgncaaLcaTake
namespace Go.Proofs.Ythhcbmljckgncaa.lca
set_option maxRecDepth 100000
open Go.RowKit Go.Proofs.Ythhcbmljckgncaa.words Go.Proofs.Ythhcbmljckgncaa.lru Go.Proofs.Ythhcbmljckgncaa.sha Go.Proofs.Ythhcbmljckgncaa.lrl Go.Proofs.Ythhcbmljckgncaa.shl

theorem two {α : Type} {l : List α} (h : l.length = 2) : ∃ a b, l = [a, b] := by
  match l, h with
  | [a, b], _ => exact ⟨a, b, rfl⟩
theorem most_two {gs : List Nat} {i g r n : Nat} {bo : Option Nat} {L : List (ByteArray × Lst)} (h : gs.length = 2) (hi : i < 2) : mostF (nsOf ((news gs r).set i ⟨g, bo, n, L⟩)) = L.length := by
  obtain ⟨a, b, rfl⟩ := two h
  have h2 : i = 0 ∨ i = 1 := by omega
  rcases h2 with rfl | rfl
  · simp [news, nsOf, mostF]
  · simp [news, nsOf, mostF]
theorem got_one (k : ByteArray) (v : Lst) : lrl.gotB [(k, v)] k = true ∧ lrl.gotI [(k, v)] k = v ∧ getL [(k, v)] k = [(k, v)] := by
  have h : val [(k, v)] k = some v := by simp [val]
  refine ⟨by unfold lrl.gotB; rw [h]; rfl, by unfold lrl.gotI; rw [h]; rfl, ?_⟩
  rw [getL_some h]
  simp [rest]
theorem put_one (k : ByteArray) (v : Lst) {r : Nat} (hr : 1 ≤ r) : putL [] r k v = [(k, v)] := (put_new (κ := ByteArray) (ν := Lst) (L := []) (k := k) (fun p hp => by cases hp) (by simp; omega) v k).1
def kR : ByteArray := ⟨#[47]⟩
def oneL : List (ByteArray × Int) := [(⟨#[97]⟩, 1)]
theorem one_any (w : World) : Calls Try.prog 49 #[] w (Enrd oneL w) := by
  obtain ⟨W2, hW2⟩ : ∃ W2, W2 = w.alloc (.cells #[.string ⟨#[97]⟩, .int .i64 1] 81) := ⟨_, rfl⟩
  have HE : Hid (Enrd oneL w (.returned (.slice (some ⟨w.heap.size, 0, none⟩) 1 1)) W2) := Lib.hid ⟨⟨some ⟨w.heap.size, 0, none⟩, 1, rfl, by
    rw [hW2]
    exact own_full w w.heap.size 2 1 81 (oneL.flatMap enC) (Nat.le_refl _) (by decide) rfl⟩, by rw [hW2]; exact (Below.refl _ _).alloc (Nat.le_refl _) _⟩
  rw [hW2] at HE
  clear hW2
  go_enter Try.func49, Try.ntmps49
  go_wp2_with fail
  go_ret
  exact HE.out
structure Ones (w w1 : World) (q h i : Nat) (gs : List Nat) (g : Nat) : Prop where
  len : gs.length = 2
  lt : i < 2
  key : i = ofF kR 2
  at_ : gs[i]? = some g
  dc : Lc w1 w.heap.size q h (news gs 2) 0
  below : Below w.heap.size w w1
theorem Ones.of {w w1 : World} {q h : Nat} {gs : List Nat} (hl : gs.length = 2) (d : Lc w1 w.heap.size q h (news gs 2) 0) (hb : Below w.heap.size w w1) : ∃ i g, Ones w w1 q h i gs g := by
  have hi : ofF kR 2 < 2 := ofF_lt kR (by decide)
  obtain ⟨g, hg⟩ : ∃ g, gs[ofF kR 2]? = some g := ⟨_, List.getElem?_eq_getElem (by omega)⟩
  exact ⟨_, g, hl, hi, rfl, hg, d, hb⟩
def v1 (A : Option Addr) (c : Nat) : Lst := ⟨1, A, 1, c⟩
/-- Behind the first call. -/
def After (w : World) (q h i g : Nat) (gs : List Nat) (w2 : World) : Prop :=
  ∃ bo' A c, Lc w2 w.heap.size q h ((news gs 2).set i ⟨g, bo', 2, [(kR, v1 A c)]⟩) 1 ∧ Enr w2 0 (.slice A 1 c) oneL ∧ Below w.heap.size w w2
theorem Ones.take {w w1 : World} {q h i g : Nat} {gs : List Nat} (o : Ones w w1 q h i gs g) :
    Calls Try.prog 32 #[.pointer (some ⟨q, 0, none⟩), .int .i64 1, .string ⟨#[47]⟩, .func (.func 49) #[] #[]] w1 fun e w' => ∃ A c, e = .returned (.slice A 1 c) ∧ After w q h i g gs w' := by
  have hn : (news gs 2).length = 2 := by rw [news_len, o.len]
  refine (take_new w.heap.size q h i ⟨g, none, 2, []⟩ (news gs 2) 0 1 kR w1 49 #[] none oneL (fun _ => True)
    ⟨o.dc, by omega, by omega, by rw [hn]; exact o.key, news_at o.at_, by simp, by decide, by decide, o.below.size, fun _ _ => by kernel_rfl, fun _ e => (by cases e), fun w2 _ => (one_any w2).mono fun e w3 h => ⟨h.1, Mpd.of_below h.2, trivial⟩, by decide, .inl rfl⟩ (.inl rfl)).mono ?_
  rintro e w' ⟨A, c', rfl, ht, A2, c2, he2, _, bo', hd⟩
  rw [put_one kR _ (show (1 : Nat) ≤ 2 by omega)] at hd
  exact ⟨A, c', rfl, bo', A2, c2, hd, he2.mono (Nat.zero_le _), o.below.trans (ht.2.1.below (fun _ e => by cases e) o.below.size)⟩
theorem After.facts {i g : Nat} {gs : List Nat} {bo' : Option Nat} {A : Option Addr} {c : Nat} (hl : gs.length = 2) (hi : i < 2) :
    ((news gs 2).set i ⟨g, bo', 2, [(kR, v1 A c)]⟩).length = 2 ∧ ((news gs 2).set i ⟨g, bo', 2, [(kR, v1 A c)]⟩)[i]? = some ⟨g, bo', 2, [(kR, v1 A c)]⟩ :=
  ⟨by rw [List.length_set, news_len, hl], by rw [List.getElem?_set, if_pos rfl, if_pos (by rw [news_len, hl]; exact hi)]⟩
theorem After.take {w w1 w2 : World} {q h i g : Nat} {gs : List Nat} (o : Ones w w1 q h i gs g) (a : After w q h i g gs w2) (V : Value) :
    Calls Try.prog 32 #[.pointer (some ⟨q, 0, none⟩), .int .i64 1, .string ⟨#[47]⟩, V] w2 fun e w' => ∃ A c, e = .returned (.slice A 1 c) ∧ Enr w' 0 (.slice A 1 c) oneL ∧ After w q h i g gs w' := by
  obtain ⟨bo', A, c, d, he, hb⟩ := a
  obtain ⟨hn, hx⟩ := After.facts (i := i) (g := g) (bo' := bo') (A := A) (c := c) o.len o.lt
  obtain ⟨g1, g2, g3⟩ := got_one kR (v1 A c)
  refine (take_hit w.heap.size q h i ⟨g, bo', 2, [(kR, v1 A c)]⟩ _ 1 1 kR w2 d (by omega) (by omega) (by rw [hn]; exact o.key) hx (by simp) (by decide) V 0 oneL (by decide) ⟨g1, by rw [g2]; rfl, by rw [g2]; rfl, by rw [g2]; exact he⟩).mono ?_
  rintro e w' ⟨A', c', rfl, he', ⟨bo2, hd⟩, hk⟩
  rw [g3, List.set_set] at hd
  exact ⟨A', c', rfl, he'.mono (Nat.zero_le _), bo2, A, c, hd, he.kept hk (by unfold LS; decide), hb.trans (hk.below hb.size)⟩
theorem After.look {w w1 w2 : World} {q h i g : Nat} {gs : List Nat} (o : Ones w w1 q h i gs g) (a : After w q h i g gs w2) {A' : Option Addr} {c' : Nat} (ha : Enr w2 0 (.slice A' 1 c') oneL) :
    Calls Try.prog 28 #[.pointer (some ⟨q, 0, none⟩), .int .i64 2, .string ⟨#[47]⟩] w2 fun e w' => e = .returned (.tuple #[.slice none 0 0, .bool false]) ∧ Enr w' 0 (.slice A' 1 c') oneL ∧ After w q h i g gs w' := by
  obtain ⟨bo', A, c, d, he, hb⟩ := a
  obtain ⟨hn, hx⟩ := After.facts (i := i) (g := g) (bo' := bo') (A := A) (c := c) o.len o.lt
  obtain ⟨g1, g2, g3⟩ := got_one kR (v1 A c)
  refine (look_no w.heap.size q h i ⟨g, bo', 2, [(kR, v1 A c)]⟩ _ 1 2 kR w2 d (by omega) (by omega) (by rw [hn]; exact o.key) hx (by simp) (by decide) (.inr (by rw [g2]; show (1 : Int) ≠ 2; decide))).mono ?_
  rintro e w' ⟨rfl, ⟨bo2, hd⟩, hk⟩
  rw [g3, List.set_set] at hd
  exact ⟨rfl, ha.kept hk (by unfold LS; decide), bo2, A, c, hd, he.kept hk (by unfold LS; decide), hb.trans (hk.below hb.size)⟩
set_option maxHeartbeats 6400000 in
theorem speaks_any (w : World) : Calls Try.prog 26 #[] w fun e w' => e = .returned (.bool true) ∧ Below w.heap.size w w' := by
  have HC0 := Lib.hid (lnew_any 2 2 2 2 w (by decide) (by decide))
  go_enter Try.func26, Try.ntmps26
  go_wp2_with fail
  refine HC0.out.mono ?_
  rintro e w1 ⟨q, h, gs, rfl, hgl, hd, hb⟩
  obtain ⟨i, g, ho⟩ := Ones.of hgl hd hb
  have HO := Lib.hid ho
  have HT := Lib.hid ho.take
  clear hgl hd hb ho HC0
  go_wp2_with fail
  refine HT.out.mono ?_
  rintro e w2 ⟨Aa, ca, rfl, h2⟩
  have HT2 := Lib.hid (h2.take HO.out (.func (.func 49) #[] #[]))
  clear h2 HT
  go_wp2_with fail
  refine HT2.out.mono ?_
  rintro e w3 ⟨Ab, cb, rfl, he3, h3⟩
  have HL := Lib.hid (h3.look HO.out he3)
  clear h3 he3 HT2
  go_wp2_with fail
  refine HL.out.mono ?_
  rintro e w4 ⟨rfl, he4, bo', A, c, d, _, hb⟩
  obtain ⟨b, hA, _, s0, _⟩ := he4.at (i := 0) (p := (⟨#[97]⟩, 1)) rfl
  subst hA
  have c0 := cell_of_blk d.blk 0
  unfold ptrC at c0
  obtain ⟨hn, _⟩ := After.facts (i := i) (g := g) (bo' := bo') (A := A) (c := c) HO.out.len HO.out.lt
  have HMD := Lib.hid (made_any _ _ _ _ _ _ d)
  have HMS := Lib.hid (lmost_any _ _ _ _ _ _ d (by omega))
  rw [most_two HO.out.len HO.out.lt] at HMS
  have HB := Lib.hid hb
  clear he4 d hb hn HL
  go_wp2_with fail
  refine HMD.out.mono ?_
  rintro e w5 ⟨rfl, rfl⟩
  go_wp2_with fail
  refine HMS.out.mono ?_
  rintro e w6 ⟨rfl, rfl⟩
  go_wp2_with fail
  go_ret
  exact ⟨rfl, HB.out⟩
end Go.Proofs.Ythhcbmljckgncaa.lca
