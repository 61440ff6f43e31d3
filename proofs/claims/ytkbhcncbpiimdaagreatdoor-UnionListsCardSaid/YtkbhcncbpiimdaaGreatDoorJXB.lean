/- What name.Child and name.Parent answer. Conditions: the texts are shorter than a billion bytes; Parent: of a text that has a slash. A way's cells, and a way that is one target longer. Plain words of memory, no program's call. -/
import Derived.Test.YtkbhcncbpiimdaaGreatDoorJC
import Derived.Test.YtkbhcncbpiimdaaGreatDoorJXA
namespace Go.Proofs.YtkbhcncbpiimdaaGreatDoor.name
set_option maxRecDepth 100000
open Go.RowKit Go.Proofs.YtkbhcncbpiimdaaGreatDoor.words

theorem append_data (a b : ByteArray) : (a ++ b).data.toList = a.data.toList ++ b.data.toList := by
  obtain ⟨⟨l⟩⟩ := a
  obtain ⟨⟨m⟩⟩ := b
  rfl
theorem same_text {x y : ByteArray} (h : x.data.toList = y.data.toList) : x = y := by
  obtain ⟨⟨l⟩⟩ := x
  obtain ⟨⟨m⟩⟩ := y
  have : l = m := h
  rw [this]
theorem child_any (d s : ByteArray) (w : World) (h1 : d.size ≤ 1000000000) (h2 : s.size ≤ 1000000000) :
    Calls Tryz.prog 136 #[.string d, .string s] w fun e w' => (∃ r : ByteArray, e = .returned (.string r) ∧ r.data.toList = if d.data.toList = [47] then 47 :: s.data.toList else d.data.toList ++ 47 :: s.data.toList) ∧ w = w' := by
  by_cases c : d.toList = [47]
  · have f1 : (d.toList == [47]) = true := by rw [c]; rfl
    have e : (d ++ s).data.toList = 47 :: s.data.toList := by rw [append_data, ← to_list, c]; rfl
    have E := Lib.hid e
    rw [← to_list, if_pos c]
    clear c e
    go_enter Tryz.func136, Tryz.ntmps136
    go_wp2
    go_ret
    exact ⟨⟨_, rfl, E.out⟩, rfl⟩
  · have f1 : (d.toList == [47]) = false := by simpa using c
    have e : (d ++ ⟨#[47]⟩ ++ s).data.toList = d.data.toList ++ 47 :: s.data.toList := by
      rw [append_data, append_data, List.append_assoc]; rfl
    have E := Lib.hid e
    have hz : (d ++ ⟨#[47]⟩).size ≤ 1000000001 := by rw [ByteArray.size_append]; show d.size + 1 ≤ _; omega
    have c' : d.data.toList ≠ [47] := by rw [← to_list]; exact c
    rw [if_neg c']
    clear c c' e
    go_enter Tryz.func136, Tryz.ntmps136
    go_wp2
    go_ret
    exact ⟨⟨_, rfl, E.out⟩, rfl⟩

end Go.Proofs.YtkbhcncbpiimdaaGreatDoor.name

namespace Go.Proofs.YtkbhcncbpiimdaaGreatDoor.wlk
set_option maxRecDepth 100000
open Go.RowKit Go.Proofs.YtkbhcncbpiimdaaGreatDoor.words Go.Proofs.YtkbhcncbpiimdaaGreatDoor.ext Go.Proofs.YtkbhcncbpiimdaaGreatDoor.name Go.Proofs.YtkbhcncbpiimdaaGreatDoor.tre Go.Proofs.YtkbhcncbpiimdaaGreatDoor.stk Go.Proofs.YtkbhcncbpiimdaaGreatDoor.seen

/-- What a row of cells says of targets. -/
def Olds (w : World) (B : Nat) (ts : List Tg) (olds : List Value) : Prop :=
  olds.length = ts.length * 5 ∧ ∀ (k : Nat) (t : Tg), ts[k]? = some t → ∃ Aq cq, (∀ r, r < 5 → olds[k * 5 + r]? = (tgC t Aq cq)[r]?) ∧ Plc w B Aq t.Q ∧ t.Q.length ≤ cq ∧ (Aq = none → t.Q.length = 0 ∧ cq = 0)
theorem Olds.keep {w w' : World} {B : Nat} {ts : List Tg} {olds : List Value} (h : Olds w B ts olds) (hb : Below B w w') : Olds w' B ts olds := ⟨h.1, fun k t hk => by
  obtain ⟨Aq, cq, h1, h2, h3, h4⟩ := h.2 k t hk
  exact ⟨Aq, cq, h1, h2.keep hb, h3, h4⟩⟩
theorem Olds.more {w : World} {B B' : Nat} {ts : List Tg} {olds : List Value} (h : Olds w B ts olds) (hB : B ≤ B') : Olds w B' ts olds := ⟨h.1, fun k t hk => by
  obtain ⟨Aq, cq, h1, h2, h3, h4⟩ := h.2 k t hk
  exact ⟨Aq, cq, h1, h2.more hB, h3, h4⟩⟩
theorem way_olds {w : World} {B b off : Nat} {ts : List Tg} (h : Way w B (some ⟨b, off, none⟩) ts) : ∃ olds, Olds w B ts olds ∧ ∀ j u, olds[j]? = some u → w.cell? ⟨b, off + j, none⟩ = some u := by
  have hcell : ∀ (k : Nat) (t : Tg), ts[k]? = some t → ∃ Aq cq, (∀ r, r < 5 → w.cell? ⟨b, off + (k * 5 + r), none⟩ = (tgC t Aq cq)[r]?) ∧ Plc w B Aq t.Q ∧ t.Q.length ≤ cq ∧ (Aq = none → t.Q.length = 0 ∧ cq = 0) := fun k t hk => by
    obtain ⟨b', off', Aq, cq, hA, ht⟩ := h k t hk
    injection hA with hA
    injection hA with e1 e2
    subst e1 e2
    refine ⟨Aq, cq, fun r hr => ?_, ht.plc, ht.len, ht.nil⟩
    rw [← Nat.add_assoc]
    rcases r with _ | _ | _ | _ | _ | r
    · exact ht.c0
    · exact ht.c1
    · exact ht.c2
    · exact ht.c3
    · exact ht.c4
    · omega
  have hsome : ∀ j, j < ts.length * 5 → ∃ u, w.cell? ⟨b, off + j, none⟩ = some u := fun j hj => by
    obtain ⟨q, r, rfl, hr⟩ : ∃ q r, j = q * 5 + r ∧ r < 5 := ⟨j / 5, j % 5, by omega, by omega⟩
    obtain ⟨t, ht⟩ : ∃ t, ts[q]? = some t := ⟨_, List.getElem?_eq_getElem (by omega)⟩
    obtain ⟨Aq, cq, h1, _⟩ := hcell q t ht
    exact ⟨(tgC t Aq cq)[r]'(by simpa [tgC] using hr), (h1 r hr).trans (List.getElem?_eq_getElem _)⟩
  have hat : ∀ j, j < ts.length * 5 → ((List.range (ts.length * 5)).map fun j => (w.cell? ⟨b, off + j, none⟩).getD (.bool false))[j]? = w.cell? ⟨b, off + j, none⟩ := fun j hj => by
    obtain ⟨u, hu⟩ := hsome j hj
    rw [List.getElem?_map, List.getElem?_range hj, Option.map_some, hu]
    rfl
  refine ⟨(List.range (ts.length * 5)).map fun j => (w.cell? ⟨b, off + j, none⟩).getD (.bool false), ⟨by simp, fun k t hk => ?_⟩, fun j u hj => ?_⟩
  · obtain ⟨Aq, cq, h1, h2⟩ := hcell k t hk
    have hkl := (List.getElem?_eq_some_iff.1 hk).1
    exact ⟨Aq, cq, fun r hr => (hat _ (by omega)).trans (h1 r hr), h2⟩
  · have hl := (List.getElem?_eq_some_iff.1 hj).1
    rw [List.length_map, List.length_range] at hl
    rw [hat j hl] at hj
    exact hj
theorem Olds.snoc {w : World} {B : Nat} {ts : List Tg} {olds : List Value} (h : Olds w B ts olds) {t : Tg} {A : Option Addr} {c : Nat} (hp : Plc w B A t.Q) (hl : t.Q.length ≤ c) (hn : A = none → t.Q.length = 0 ∧ c = 0) : Olds w B (ts ++ [t]) (olds ++ tgC t A c) := by
  refine ⟨by rw [List.length_append, List.length_append, h.1]; simp [tgC]; omega, fun k x hk => ?_⟩
  rcases Nat.lt_or_ge k ts.length with hlt | hge
  · rw [List.getElem?_append_left hlt] at hk
    obtain ⟨Aq, cq, h1, h2⟩ := h.2 k x hk
    exact ⟨Aq, cq, fun r hr => by rw [List.getElem?_append_left (by rw [h.1]; omega)]; exact h1 r hr, h2⟩
  · rw [List.getElem?_append_right hge] at hk
    have hk0 : k = ts.length := by
      have := (List.getElem?_eq_some_iff.1 hk).1
      simp at this
      omega
    subst hk0
    obtain rfl : t = x := by simpa using hk
    exact ⟨A, c, fun r hr => by rw [List.getElem?_append_right (by rw [h.1]; omega), h.1, Nat.add_sub_cancel_left], hp, hl, hn⟩
theorem own_way {w : World} {B n c : Nat} {A : Option Addr} {ts : List Tg} {olds : List Value} (h : w.ownsRow B 58 5 (.slice A n c) n olds) (ho : Olds w w.heap.size ts olds) : Way w w.heap.size A ts := fun k t hk => by
  obtain ⟨Aq, cq, h1, h2, h3, h4⟩ := ho.2 k t hk
  have cell : ∀ r u, (tgC t Aq cq)[r]? = some u → r < 5 → ∃ g, A = some ⟨g, 0, none⟩ ∧ g < w.heap.size ∧ w.cell? ⟨g, k * 5 + r, none⟩ = some u := fun r u hu hr => by
    obtain ⟨g, _, e1, _, e2, _, e3⟩ := tre.own_cell h (j := k * 5 + r) (u := u) ((h1 r hr).trans hu)
    exact ⟨g, e1, e2, e3⟩
  obtain ⟨g, hA, hg, c0⟩ := cell 0 _ rfl (by omega)
  subst hA
  have same : ∀ r u, (tgC t Aq cq)[r]? = some u → r < 5 → w.cell? ⟨g, k * 5 + r, none⟩ = some u := fun r u hu hr => by
    obtain ⟨g', e1, _, e3⟩ := cell r u hu hr
    injection e1 with e1
    injection e1 with e1
    rw [e1]
    exact e3
  exact ⟨g, 0, Aq, cq, rfl, hg, by rw [Nat.zero_add]; exact c0, by rw [Nat.zero_add]; exact same 1 _ rfl (by omega), by rw [Nat.zero_add]; exact same 2 _ rfl (by omega), by rw [Nat.zero_add]; exact same 3 _ rfl (by omega), by rw [Nat.zero_add]; exact same 4 _ rfl (by omega), h2, h3, h4⟩
/-- A name in a path. -/
def childS (d s : ByteArray) : ByteArray := ⟨⟨if d.data.toList = [47] then 47 :: s.data.toList else d.data.toList ++ 47 :: s.data.toList⟩⟩
theorem child_is (d s : ByteArray) (w : World) (h1 : d.size ≤ 1000000000) (h2 : s.size ≤ 1000000000) :
    Calls Tryz.prog 136 #[.string d, .string s] w fun e w' => e = .returned (.string (childS d s)) ∧ w = w' :=
  (child_any d s w h1 h2).mono fun e w' ⟨⟨r, he, hr⟩, hw⟩ => ⟨by rw [he, same_text (x := r) (y := childS d s) (by rw [hr]; rfl)], hw⟩
end Go.Proofs.YtkbhcncbpiimdaaGreatDoor.wlk
