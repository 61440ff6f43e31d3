/- A path's pieces as a plain function on bytes, and that the library's cutting gives them. No program, no condition. -/
import Derived.Test.YtniklphdnakehaaDoorNameRight
import Derived.Lib.SplitLaws
import Derived.Lib.IndexAny
namespace Go.Proofs.YtniklphdnakehaaDoor.name
set_option maxRecDepth 100000

/-- The pieces between the slashes. -/
def cut : List UInt8 → List (List UInt8)
  | [] => [[]]
  | b :: l => if b = 47 then [] :: cut l else match cut l with
    | [] => [[b]]
    | p :: r => (b :: p) :: r
theorem cut_ne : ∀ l, cut l ≠ []
  | [] => by simp [cut]
  | b :: l => by
    unfold cut
    split
    · simp
    · split <;> simp
theorem split_cut : ∀ l : List UInt8, Lib.splitK [47] 0 (Lib.count l [47]) l = cut l
  | [] => by rw [Lib.count_one]; rfl
  | b :: l => by
    have ih := split_cut l
    by_cases hb : b = 47
    · subst hb
      have hix : Lib.index (47 :: l) [47] = 0 := by rw [Lib.index_one]; simp [Lib.indexByte]
      rw [Lib.count_cons_eq, Nat.add_comm 1, Lib.splitK, if_neg (by rw [hix]; decide), hix, cut, if_pos rfl, ← ih]
      rfl
    · rw [Lib.count_cons_ne b 47 l hb, cut, if_neg hb, ← ih]
      rcases hn : Lib.count l [47] with _ | k
      · rfl
      · have hpos : Lib.index l [47] ≠ -1 := fun e => by
          have := Lib.count_miss e
          omega
        have hge : -1 ≤ Lib.index l [47] := by rw [Lib.index_one]; exact Lib.indexByte_ge _ _
        obtain ⟨i, hi⟩ : ∃ i : Nat, Lib.index l [47] = i := ⟨(Lib.index l [47]).toNat, by omega⟩
        have hib : Lib.indexByte l 47 = (i : Int) := by rw [← Lib.index_one]; exact hi
        have hi2 : Lib.index (b :: l) [47] = ((i + 1 : Nat) : Int) := by
          have e1 : (b == (47 : UInt8)) = false := by simpa using hb
          rw [Lib.index_one, Lib.indexByte, e1, hib]
          have e2 : ((i : Int) == -1) = false := by rw [beq_eq_false_iff_ne]; omega
          rw [e2]
          simp
        rw [Lib.splitK, if_neg (by rw [hi2, beq_iff_eq]; omega), hi2, Lib.splitK, if_neg (by rw [hi, beq_iff_eq]; omega), hi]
        simp
theorem pieces_cut (s : ByteArray) : (Lib.splitB ⟨#[47]⟩ 0 (Lib.countB s ⟨#[47]⟩) s).map (fun x => x.data.toList) = cut s.data.toList := by
  have h := Lib.splitB_data ⟨#[47]⟩ 0 (Lib.countB s ⟨#[47]⟩) s
  rw [← split_cut]
  exact h

/-- A piece that is left out. -/
def idle (p : List UInt8) : Bool := p == [] || p == [46]
/-- A piece that no path has. -/
def bad (p : List UInt8) : Bool := !idle p && !(p == [46, 46]) && !right p
/-- A path's parts. -/
def parts (l : List UInt8) : Option (List (List UInt8)) := if l.length < 1 ∨ 1024 < l.length ∨ (cut l).any bad = true then none else some ((cut l).filter fun p => !idle p)
end Go.Proofs.YtniklphdnakehaaDoor.name
