/- What name.Child and name.Parent answer. Conditions: the texts are shorter than a billion bytes; Parent: of a text that has a slash. -/
import Derived.Test.YthckibibheemkaaDoorNameRefSplit
namespace Go.Proofs.YthckibibheemkaaDoor.name
open Go.RowKit Go.Proofs.YthckibibheemkaaDoor.words

theorem append_data (a b : ByteArray) : (a ++ b).data.toList = a.data.toList ++ b.data.toList := by
  obtain ⟨⟨l⟩⟩ := a
  obtain ⟨⟨m⟩⟩ := b
  rfl
theorem same_text {x y : ByteArray} (h : x.data.toList = y.data.toList) : x = y := by
  obtain ⟨⟨l⟩⟩ := x
  obtain ⟨⟨m⟩⟩ := y
  have : l = m := h
  rw [this]
theorem child_any (d s : ByteArray) (w : World) (h1 : d.size ≤ 1000000000) (h2 : s.size ≤ 1000000000) :
    Calls Tryd.prog 14 #[.string d, .string s] w fun e w' => (∃ r : ByteArray, e = .returned (.string r) ∧ r.data.toList = if d.data.toList = [47] then 47 :: s.data.toList else d.data.toList ++ 47 :: s.data.toList) ∧ w = w' := by
  by_cases c : d.toList = [47]
  · have f1 : (d.toList == [47]) = true := by rw [c]; rfl
    have e : (d ++ s).data.toList = 47 :: s.data.toList := by rw [append_data, ← to_list, c]; rfl
    have E := Lib.hid e
    rw [← to_list, if_pos c]
    clear c e
    go_enter Tryd.func14, Tryd.ntmps14
    go_wp2
    go_ret
    exact ⟨⟨_, rfl, E.out⟩, rfl⟩
  · have f1 : (d.toList == [47]) = false := by simpa using c
    have e : (d ++ ⟨#[47]⟩ ++ s).data.toList = d.data.toList ++ 47 :: s.data.toList := by
      rw [append_data, append_data, List.append_assoc]; rfl
    have E := Lib.hid e
    have hz : (d ++ ⟨#[47]⟩).size ≤ 1000000001 := by rw [ByteArray.size_append]; show d.size + 1 ≤ _; omega
    have c' : d.data.toList ≠ [47] := by rw [← to_list]; exact c
    rw [if_neg c']
    clear c c' e
    go_enter Tryd.func14, Tryd.ntmps14
    go_wp2
    go_ret
    exact ⟨⟨_, rfl, E.out⟩, rfl⟩

theorem last_slash (d : ByteArray) (p n : List UInt8) (h : d.data.toList = p ++ 47 :: n) (hn : (47 : UInt8) ∉ n) : Lib.lastIndexByte d 47 = (p.length : Int) := by
  have hs : d.size = p.length + 1 + n.length := by rw [← size_list, h, List.length_append, List.length_cons]; omega
  have at_ : ∀ j (hj : j < d.size), d.data[j]! = d.data.toList[j]'(by rw [size_list]; exact hj) := fun j hj => by
    rw [getElem!_pos d.data j hj]; rfl
  have hp : ((d.data[p.length]!).toNat : Int) = 47 := by
    rw [at_ p.length (by omega)]
    simp [h]
  rcases Lib.lastIndexByte_spec d 47 with ⟨_, hno⟩ | ⟨i, hi, he, hc, hno⟩
  · exact absurd hp (hno _ (by omega))
  · rw [he]
    rcases Nat.lt_trichotomy i p.length with hlt | heq | hgt
    · exact absurd hp (hno _ hlt (by omega))
    · rw [heq]
    · exfalso
      rw [at_ i hi] at hc
      obtain ⟨k, hk⟩ : ∃ k, i = p.length + (k + 1) := ⟨i - p.length - 1, by omega⟩
      have e : d.data.toList[i]? = n[k]? := by
        rw [h, hk, List.getElem?_append_right (by omega), show p.length + (k + 1) - p.length = k + 1 by omega, List.getElem?_cons_succ]
      have hil : i < d.data.toList.length := by rw [size_list]; exact hi
      rw [List.getElem?_eq_getElem hil, List.getElem?_eq_getElem (by omega : k < n.length)] at e
      have e2 := Option.some.inj e
      apply hn
      have e3 : d.data.toList[i] = 47 := UInt8.toNat_inj.1 (by simpa using Int.ofNat_inj.1 hc)
      rw [← e3, e2]
      exact List.getElem_mem _
theorem parent_any (d : ByteArray) (p n : List UInt8) (w : World) (h : d.data.toList = p ++ 47 :: n) (hn : (47 : UInt8) ∉ n) (hd : d.size ≤ 1000000000) :
    Calls Tryd.prog 15 #[.string d] w fun e w' => (∃ r : ByteArray, e = .returned (.string r) ∧ r.data.toList = if p = [] then [47] else p) ∧ w = w' := by
  have hli := last_slash d p n h hn
  have hs : d.size = p.length + 1 + n.length := by rw [← size_list, h, List.length_append, List.length_cons]; omega
  have HI := Lib.hid hli
  by_cases hp : p.length = 0
  · have hpe : p = [] := List.eq_nil_of_length_eq_zero hp
    have HL := Lib.hid (show Lib.lastIndexByte d 47 = 0 by rw [hli, hp]; rfl)
    rw [if_pos hpe]
    clear hli hs h hp hpe
    go_enter Tryd.func15, Tryd.ntmps15
    go_wp2_with fail
    refine (Tryd.strings_LastIndexByte d 47 (by omega) w).mono ?_
    rintro e w' ⟨rfl, rfl⟩
    rw [HL.out]
    go_wp2_with fail
    go_ret
    exact ⟨⟨_, rfl, rfl⟩, rfl⟩
  · have hpe : p ≠ [] := fun e => hp (by rw [e]; rfl)
    have HE := Lib.hid (show (d.extract 0 p.length).data.toList = p by rw [Lib.extract_data, h]; simp)
    have hp1 : (1 : Int) ≤ (p.length : Int) := by omega
    have hp2 : (p.length : Int) ≤ (d.size : Int) := by omega
    rw [if_neg hpe]
    clear hli hs h hp hpe
    go_enter Tryd.func15, Tryd.ntmps15
    go_wp2_with fail
    refine (Tryd.strings_LastIndexByte d 47 (by omega) w).mono ?_
    rintro e w' ⟨rfl, rfl⟩
    rw [HI.out]
    go_wp2_with fail
    go_ret
    exact ⟨⟨_, rfl, HE.out⟩, rfl⟩
end Go.Proofs.YthckibibheemkaaDoor.name
