/- What the laws' own check of one path answers: true, and it leaves all that was as it was. Condition: the library's MaxLen holds a number. -/
import Derived.Test.YthckibibheemkaaDoorNameDir
namespace Go.Proofs.YthckibibheemkaaDoor.name
open Go.RowKit Go.Proofs.YthckibibheemkaaDoor.words

theorem speaks_parts : parts (⟨#[97, 47, 47, 46, 47, 98, 47, 46, 46, 47, 99]⟩ : ByteArray).data.toList = some [[97], [98], [46, 46], [99]] := by decide +kernel
theorem four {α : Type} {l : List α} (h : l.length = 4) : ∃ a b c d, l = [a, b, c, d] := by
  match l, h with
  | [a, b, c, d], _ => exact ⟨a, b, c, d, rfl⟩
theorem speaks_four {Q : List ByteArray} (h : Q.map (fun x => x.data.toList) = [[97], [98], [46, 46], [99]]) : Q = [⟨#[97]⟩, ⟨#[98]⟩, ⟨#[46, 46]⟩, ⟨#[99]⟩] := by
  have hl : Q.length = 4 := by have := congrArg List.length h; simpa using this
  obtain ⟨a, b, c, d, rfl⟩ := four hl
  simp only [List.map_cons, List.map_nil, List.cons.injEq, and_true] at h
  rw [same_text (x := a) (y := ⟨#[97]⟩) h.1, same_text (x := b) (y := ⟨#[98]⟩) h.2.1, same_text (x := c) (y := ⟨#[46, 46]⟩) h.2.2.1, same_text (x := d) (y := ⟨#[99]⟩) h.2.2.2]
theorem Strs.lit (w : World) : Strs (w.alloc (.cells #[.string ⟨#[97]⟩, .string ⟨#[98]⟩, .string ⟨#[46, 46]⟩, .string ⟨#[99]⟩] 9)) (.slice (some ⟨w.heap.size, 0, none⟩) 4 4) [⟨#[97]⟩, ⟨#[98]⟩, ⟨#[46, 46]⟩, ⟨#[99]⟩] := by
  refine ⟨_, 4, rfl, fun i x hx => ⟨_, 0, rfl, by simp, ?_⟩⟩
  rw [Nat.zero_add, cell_of_blk (heap_alloc_new w _) i]
  match i, hx with
  | 0, hx => simpa using hx
  | 1, hx => simpa using hx
  | 2, hx => simpa using hx
  | 3, hx => simpa using hx
  | i + 4, hx => simp at hx
theorem split_none {B : Nat} {l : List UInt8} {e : Ending} {w' : World} (h : SplitsTo B l e w') (hp : parts l = none) : e = .returned (.tuple #[.slice none 0 0, .bool false, .int .i64 1]) := by
  rcases h with ⟨_, he⟩ | ⟨v, Q, hs, _⟩
  · exact he
  · rw [hp] at hs; cases hs
theorem split_some {B : Nat} {l : List UInt8} {e : Ending} {w' : World} {ps : List (List UInt8)} (h : SplitsTo B l e w') (hp : parts l = some ps) :
    ∃ (v : Value) (Q : List ByteArray), Q.map (fun x => x.data.toList) = ps ∧ e = .returned (.tuple #[v, .bool (l.head? == some 47), .int .i64 0]) ∧ w'.ownsRow B 9 1 v Q.length (Q.map Value.string) := by
  rcases h with ⟨hn, _⟩ | ⟨v, Q, hs, he, ho⟩
  · rw [hp] at hn; cases hn
  · rw [hp] at hs
    exact ⟨v, Q, (Option.some.inj hs).symm, he, ho⟩

set_option maxHeartbeats 1600000 in
theorem speaks_any (m : Int) (w : World) (hm : w.cell? ⟨0, 0, none⟩ = some (.int .i64 m)) :
    Calls Tryd.prog 6 #[] w fun e w' => e = .returned (.bool true) ∧ Below w.heap.size w w' := by
  have HM := Lib.hid hm
  clear hm
  go_enter Tryd.func6, Tryd.ntmps6
  go_wp2_with fail
  refine (split_any _ m _ (by decide +kernel) HM.out).mono ?_
  rintro e w1 ⟨hs, hb⟩
  obtain ⟨v, Q, hQ, rfl, ho⟩ := split_some hs speaks_parts
  obtain rfl := speaks_four hQ
  have hhead : ((⟨#[97, 47, 47, 46, 47, 98, 47, 46, 46, 47, 99]⟩ : ByteArray).data.toList.head? == some 47) = false := by decide +kernel
  rw [hhead]
  have HS := Lib.hid ((Strs.of_own ho))
  have HB := Lib.hid hb
  obtain ⟨A, c, rfl⟩ := own_form ho
  clear hs hQ ho hb hhead
  go_wp2_with fail
  refine (same_yes _ _ _ _ (HS.out.keep ((Below.refl _ _).alloc (Nat.le_refl _) _)) (Strs.lit w1) (by decide)).mono ?_
  rintro e w' ⟨rfl, n, rfl⟩
  go_wp2_with fail
  refine (right_yes _ _ (by decide +kernel) (by decide +kernel)).mono ?_
  rintro e w' ⟨rfl, rfl⟩
  go_wp2_with fail
  refine (right_no _ _ (by decide +kernel) (by decide +kernel)).mono ?_
  rintro e w' ⟨rfl, rfl⟩
  go_wp2_with fail
  refine (child_any _ _ _ (by decide +kernel) (by decide +kernel)).mono ?_
  rintro e w' ⟨⟨r, rfl, hr⟩, rfl⟩
  obtain rfl : r = ⟨#[47, 97]⟩ := same_text (hr.trans (by decide +kernel))
  clear hr
  go_wp2_with fail
  refine (parent_any _ [47, 97] [98] _ (by decide +kernel) (by decide +kernel) (by decide +kernel)).mono ?_
  rintro e w' ⟨⟨r, rfl, hr⟩, rfl⟩
  obtain rfl : r = ⟨#[47, 97]⟩ := same_text (hr.trans (by decide +kernel))
  clear hr
  go_wp2_with fail
  go_ret
  exact ⟨rfl, below_drewN (HB.out.alloc HB.out.size _) n⟩
end Go.Proofs.YthckibibheemkaaDoor.name
