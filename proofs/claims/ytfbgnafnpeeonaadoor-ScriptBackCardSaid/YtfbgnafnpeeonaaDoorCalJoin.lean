/- What call's joined answers: words, a blank between each two. Condition: at most a billion bytes in all. -/
import Derived.Test.YtfbgnafnpeeonaaDoorCalTold
import Derived.Lib.Join
namespace Go.Proofs.YtfbgnafnpeeonaaDoor.cal
set_option maxRecDepth 100000
open Go.RowKit Go.Proofs.YtfbgnafnpeeonaaDoor.words

/-- Texts lie at a place. -/
def Sl (w : World) (A : Option Addr) (Q : List ByteArray) : Prop := ∀ (i : Nat) x, Q[i]? = some x → ∃ b off, A = some ⟨b, off, none⟩ ∧ b < w.heap.size ∧ w.cell? ⟨b, off + i, none⟩ = some (.string x)
theorem Sl.later {w w' : World} {A : Option Addr} {Q : List ByteArray} (h : Sl w A Q) (hb : Below w.heap.size w w') : Sl w' A Q := fun i x hx => by
  obtain ⟨b, off, h1, h2, h3⟩ := h i x hx
  exact ⟨b, off, h1, Nat.lt_of_lt_of_le h2 hb.size, below_cell h3 hb⟩
def dataL (Q : List ByteArray) : List (List UInt8) := Q.map fun x => x.data.toList
theorem join_eq : ∀ L : List (List UInt8), Lib.join L [32] = joinM L
  | [] => rfl
  | [a] => by simp [Lib.join, List.intercalate, List.intersperse, joinM]
  | a :: b :: r => by
    have ih := join_eq (b :: r)
    rw [joinM, ← ih]
    simp [Lib.join, List.intercalate, List.intersperse_cons_cons]
theorem info9 : (Tryd.prog.info? 9).map (fun i => (i.zero, i.size, i.bytes)) = some (some (.string ⟨#[]⟩), 1, 16) := by kernel_rfl
theorem add_place (b off j : Nat) : (⟨b, off, none⟩ : Addr).add j = ⟨b, off + j, none⟩ := by unfold Addr.add; split <;> simp_all
theorem sl_cells {w : World} {ad : Addr} {Q : List ByteArray} (h : Sl w (some ad) Q) : ∀ j u, (Q.map Value.string)[j]? = some u → w.cell? (ad.add j) = some u := fun j u hu => by
  rw [List.getElem?_map] at hu
  obtain ⟨x, hx, rfl⟩ := Option.map_eq_some_iff.1 hu
  obtain ⟨b, off, h1, _, h3⟩ := h j x hx
  injection h1 with h1
  subst h1
  rw [add_place]
  exact h3
theorem str_one (Q : List ByteArray) : ∀ u ∈ Q.map Value.string, u.oneCell' = true := fun u hu => by
  obtain ⟨x, _, rfl⟩ := List.mem_map.1 hu
  rfl
/-- A row of texts of one's own is read. -/
theorem own_sl {w : World} {B n : Nat} {v : Value} {Q : List ByteArray} (h : w.ownsRow B 9 1 v n (Q.map Value.string)) (h0 : 1 ≤ Q.length) : n = Q.length ∧ ∃ g cap, v = .slice (some ⟨g, 0, none⟩) n cap ∧ Q.length ≤ cap ∧ g < w.heap.size ∧ ∀ (j : Nat) x, Q[j]? = some x → w.cell? ⟨g, 0 + j, none⟩ = some (.string x) := by
  have hn : n = Q.length := by have := h.1; simpa using this.symm
  refine ⟨hn, ?_⟩
  rcases h.2 with ⟨_, hz⟩ | ⟨g, cap, cur, hv, _, hg, hc, _⟩
  · omega
  · subst hv
    refine ⟨g, cap, rfl, by omega, lt_of_some hg, fun j x hx => ?_⟩
    have := h.cells (g := g) rfl j (.string x) (by rw [List.getElem?_map, hx]; rfl)
    rw [add_place] at this
    exact this
set_option maxHeartbeats 3200000 in
theorem joined_any (f0 : ByteArray) (A : Option Addr) (c : Nat) (Q : List ByteArray) (w : World) (hS : Sl w A Q) (hA : A = none → Q.length = 0 ∧ c = 0) (hl : (joinM (f0.data.toList :: dataL Q)).length ≤ 1000000000) (hQ : Q.length ≤ 1000000) :
    Calls Tryd.prog 33 #[.string f0, .slice A Q.length c] w (StrOut (joinM (f0.data.toList :: dataL Q)) w) := by
  obtain ⟨i0, hi, hz0, hz1, hz2⟩ := info_parts info9
  obtain ⟨W1, hW1⟩ : ∃ W1, W1 = w.alloc (.cells #[.string f0] 9) := ⟨_, rfl⟩
  have hb1 : Below w.heap.size w W1 := by rw [hW1]; exact (Below.refl _ _).alloc (Nat.le_refl _) _
  have hO : (w.alloc (.cells #[.string f0] 9)).ownsRow w.heap.size 9 1 (.slice (some ⟨w.heap.size, 0, none⟩) 1 1) 1 [.string f0] := ⟨rfl, .inr ⟨w.heap.size, 1, #[.string f0], rfl, Nat.le_refl _, heap_alloc_new w _, Nat.le_refl _, by decide, rfl, rfl⟩⟩
  rw [← hW1] at hO
  have HO := Lib.hid hO
  have HS1 := Lib.hid (hS.later hb1)
  have HB1 := Lib.hid hb1
  have HL := Lib.hid hl
  clear hb1 hO hS hl
  subst hW1
  go_enter Tryd.func33, Tryd.ntmps33
  have HJn : Hid (∀ (n : Nat) (v : Value) (w2 : World), w2.ownsRow w.heap.size 9 1 v n ((f0 :: Q).map Value.string) → Below w.heap.size w w2 → ∃ A2 c2, v = .slice A2 n c2 ∧ Calls Tryd.prog 14 #[.slice A2 n c2, .string ⟨#[32]⟩] w2 (StrOut (joinM (f0.data.toList :: dataL Q)) w)) := Lib.hid fun n v w2 ho hb => by
    obtain ⟨hn, g, cap, hv, hcap, hg, hc⟩ := own_sl ho (by simp)
    refine ⟨_, _, hv, ?_⟩
    rw [hn]
    have he : Lib.join ((f0 :: Q).map (·.data.toList)) (⟨#[32]⟩ : ByteArray).data.toList = joinM (f0.data.toList :: dataL Q) := join_eq _
    have hj := Tryd.strings_Join g 0 cap (f0 :: Q) ⟨#[32]⟩ w2 hc hg (by simp only [List.length_cons]; omega) hcap (by rw [he]; have := HL.out; omega)
    rw [he] at hj
    exact hj.mono fun e w' ⟨h1, h2⟩ => ⟨⟨_, h1, data_mk _⟩, hb.trans (h2.mono hb.size)⟩
  rcases A with _ | ad
  · obtain ⟨hq, rfl⟩ := hA rfl
    have hQ0 : Q = [] := List.eq_nil_of_length_eq_zero hq
    subst hQ0
    have HC := HJn.out 1 _ _ HO.out HB1.out
    obtain ⟨A2, c2, hv, hC⟩ := HC
    injection hv with e1 e2 e3
    subst e1
    subst e3
    have HC2 := Lib.hid hC
    have t0 : ([] : List ByteArray).length = 0 := rfl
    clear HJn hA hq
    go_wp2_with (at_builtin; refine wpList_append_own_none rfl (.tmp 6) (.tmp 7) 24 rfl w.heap.size 9 i0 1 Tryd.underlying24 hi _ _ _ rfl HO.out rfl ?_)
    refine HC2.out.mono ?_
    rintro e w3 ⟨⟨r, rfl, hr⟩, hb3⟩
    have HF := Lib.hid (And.intro hr hb3)
    clear hr hb3 HC2
    go_wp2_with fail
    go_ret
    exact ⟨⟨r, rfl, HF.out.1⟩, HF.out.2⟩
  · go_wp2_with (at_builtin; refine wpList_append_own _ rfl (.tmp 6) (.tmp 7) 24 rfl w.heap.size 9 i0 _ 1 16 Tryd.underlying24 hi hz0 hz1 hz2 rfl (by decide) _ _ _ rfl HO.out ad Q.length c (Q.map Value.string) rfl (by simp) (sl_cells HS1.out) (str_one Q) (by unfold maxLen; omega) (by omega) HB1.out.size ?_; intro v' w2 hown' hgrow _; have hb2 := keep_grown HB1.out HO.out hgrow (Nat.le_refl _); obtain ⟨A2, c2, rfl, hC⟩ := HJn.out _ _ _ hown' hb2; have HC2 := Lib.hid hC; clear hown' hgrow hC hb2)
    refine HC2.out.mono ?_
    rintro e w3 ⟨⟨r, rfl, hr⟩, hb3⟩
    have HF := Lib.hid (And.intro hr hb3)
    clear hr hb3 HC2
    go_wp2_with fail
    go_ret
    exact ⟨⟨r, rfl, HF.out.1⟩, HF.out.2⟩
end Go.Proofs.YtfbgnafnpeeonaaDoor.cal
