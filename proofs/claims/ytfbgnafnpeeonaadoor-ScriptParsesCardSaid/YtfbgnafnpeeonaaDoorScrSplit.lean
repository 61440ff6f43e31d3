/- strings.Split and Join at a line feed. Conditions: at most a million bytes; the library's MaxLen holds a number. -/
import Derived.Test.YtfbgnafnpeeonaaDoorScrPrintR
import Derived.Lib.SplitLaws
import Derived.Lib.IndexAny
namespace Go.Proofs.YtfbgnafnpeeonaaDoor.scr
set_option maxRecDepth 100000
open Go.RowKit Go.Proofs.YtfbgnafnpeeonaaDoor.words Go.Proofs.YtfbgnafnpeeonaaDoor.cal

theorem split_spl (c : UInt8) : ∀ l : List UInt8, Lib.splitK [c] 0 (Lib.count l [c]) l = spl c l
  | [] => by rw [Lib.count_one]; rfl
  | b :: l => by
    have ih := split_spl c l
    by_cases hb : b = c
    · subst hb
      have hix : Lib.index (b :: l) [b] = 0 := by rw [Lib.index_one]; simp [Lib.indexByte]
      rw [Lib.count_cons_eq, Nat.add_comm 1, Lib.splitK, if_neg (by rw [hix]; decide), hix, spl_hit, ← ih]
      rfl
    · rw [Lib.count_cons_ne b c l hb]
      rcases hn : Lib.count l [c] with _ | k
      · rw [hn] at ih
        rw [spl_on hb ih.symm]
        rfl
      · have hpos : Lib.index l [c] ≠ -1 := fun e => by
          have := Lib.count_miss e
          omega
        have hge : -1 ≤ Lib.index l [c] := by rw [Lib.index_one]; exact Lib.indexByte_ge _ _
        obtain ⟨i, hi⟩ : ∃ i : Nat, Lib.index l [c] = i := ⟨(Lib.index l [c]).toNat, by omega⟩
        have hib : Lib.indexByte l c = (i : Int) := by rw [← Lib.index_one]; exact hi
        have hi2 : Lib.index (b :: l) [c] = ((i + 1 : Nat) : Int) := by
          have e1 : (b == c) = false := by simpa using hb
          rw [Lib.index_one, Lib.indexByte, e1, hib]
          have e2 : ((i : Int) == -1) = false := by rw [beq_eq_false_iff_ne]; omega
          rw [e2]
          simp
        rw [hn, Lib.splitK, if_neg (by rw [hi, beq_iff_eq]; omega), hi] at ih
        rw [spl_on hb ih.symm, Lib.splitK, if_neg (by rw [hi2, beq_iff_eq]; omega), hi2]
        simp
theorem splitn_any (m : Int) (s : ByteArray) (w : World) (hs : s.size ≤ 1000000) (hE : Env m w) :
    Calls Tryd.prog 13 #[.string s, .string ⟨#[10]⟩] w fun e w' => ∃ P : List ByteArray, e = .returned (.slice (some ⟨w.heap.size, 0, none⟩) P.length P.length) ∧ P.map (fun x => x.data.toList) = spl 10 s.data.toList ∧ P.length ≤ 1000001 ∧ w.alloc (.cells (P.map Value.string).toArray 9) = w' :=
  (Tryd.strings_Split s ⟨#[10]⟩ m w (by omega) hE.max (by decide)).mono fun e w' ⟨he, hw⟩ => ⟨Lib.splitB ⟨#[10]⟩ 0 (Lib.countB s ⟨#[10]⟩) s, by
    have hl : (Lib.splitB ⟨#[10]⟩ 0 (Lib.countB s ⟨#[10]⟩) s).length = Lib.countB s ⟨#[10]⟩ + 1 := Lib.splitB_all ⟨#[10]⟩ (by decide) 0 _ s rfl
    have h2 : (Lib.splitB ⟨#[10]⟩ 0 (Lib.countB s ⟨#[10]⟩) s).map (fun x => x.data.toList) = spl 10 s.data.toList := by
      rw [← split_spl]
      exact Lib.splitB_data ⟨#[10]⟩ 0 (Lib.countB s ⟨#[10]⟩) s
    have h3 := congrArg List.length h2
    rw [List.length_map] at h3
    have h4 := spl_len 10 s.data.toList
    rw [size_list] at h4
    exact ⟨by rw [hl]; exact he, h2, by omega, hw.symm⟩⟩
theorem join_C (c : UInt8) : ∀ l : List (List UInt8), Lib.join l [c] = joinC c l
  | [] => rfl
  | [a] => by rw [Lib.join_one]; rfl
  | a :: b :: r => by
    rw [joinC_more c a (by simp), ← join_C c (b :: r)]
    unfold Lib.join
    simp [List.intercalate, List.intersperse]
theorem joinC_text : ∀ (ls : List (List UInt8)), ls ≠ [] → joinC 10 ls ++ [10] = textT ls
  | [], h => absurd rfl h
  | [a], _ => by simp [joinC, textT]
  | a :: b :: r, _ => by
    have h := joinC_text (b :: r) (by simp)
    show (a ++ 10 :: joinC 10 (b :: r)) ++ [10] = (a ++ [10]) ++ textT (b :: r)
    rw [← h]
    simp
end Go.Proofs.YtfbgnafnpeeonaaDoor.scr
