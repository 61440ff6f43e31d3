/- What strings.SplitSeq at a blank hands to the body of a loop: the pieces of a text, one behind the other. Conditions: at most a million bytes; the library's MaxLen holds a number; the body leaves the iterator's variables alone. -/
import Derived.Test.YtfbgnafnpeeonaaDoorScrMath
import Derived.Test.YtfbgnafnpeeonaaDoorCalEnv
import Derived.Test.YtfbgnafnpeeonaaDoorShelf
import Derived.RangeFuncNested
import Derived.RangeFuncBound
import Derived.RangeFuncCalls
import Derived.RangeFuncLeaves
import Derived.RangeFuncBox
import Derived.Shelf.Abstract
import Derived.Shelf.RegionOpen
import Derived.OwnWalkIn
import Derived.TacticsInMore
import Derived.LoopNIn
import Derived.LoopIn
import Derived.Maps.AppendAt
namespace Go.Proofs.YtfbgnafnpeeonaaDoor.scr
set_option maxRecDepth 100000
open Go.RowKit Go.Proofs.YtfbgnafnpeeonaaDoor.words Go.Proofs.YtfbgnafnpeeonaaDoor.cal
attribute [local go_sem] Oper.semAt_some

/-- The iterator's variables: the separator, what is left of the text, and a nought. -/
structure SqC (g1 g2 g3 : Nat) (rest : ByteArray) (W : World) : Prop where
  c1 : W.heap[g1]? = some (.cells #[.string ⟨#[32]⟩] 9 (0, 0))
  c2 : W.heap[g2]? = some (.cells #[.string rest] 9 (0, 0))
  c3 : W.heap[g3]? = some (.cells #[.int .i64 0] 3 (0, 0))
theorem index_no {s : ByteArray} (h : Lib.indexByte s.data.toList 32 < 0) : spl 32 s.data.toList = [s.data.toList] := by
  have hc : cutC 32 s.data.toList = (s.data.toList, [], false) := by
    unfold cutC Lib.cut
    rw [Lib.index_one, if_neg (by omega)]
  exact cutC_spn hc
theorem index_hit {s : ByteArray} {i : Nat} (h : Lib.indexByte s.data.toList 32 = i) : spl 32 s.data.toList = (s.extract 0 i).data.toList :: spl 32 (s.extract (i + 1) s.size).data.toList ∧ i < s.size := by
  have hc : cutC 32 s.data.toList = (s.data.toList.take i, s.data.toList.drop (i + 1), true) := by
    unfold cutC Lib.cut
    rw [Lib.index_one, if_pos (by omega), h]
    rfl
  have h1 := cutC_spl hc
  have h2 := (cutC_yes hc).1
  refine ⟨?_, ?_⟩
  · rw [h1, Lib.extract_from_zero, Lib.extract_to_end]
  · have := congrArg List.length h2
    rw [size_list] at this
    simp at this
    omega
noncomputable def leftM (g : Nat) (W : World) : Nat := match W.cell? ⟨g, 0, none⟩ with
  | some (.string r) => r.size
  | _ => 0
theorem left_of {g1 g2 g3 : Nat} {r : ByteArray} {W : World} (h : SqC g1 g2 g3 r W) : leftM g2 W = r.size := by unfold leftM; rw [cell_of_blk h.c2 0]; rfl
set_option maxHeartbeats 3200000 in
theorem seq_any (n : Nat) (hn : 1 ≤ n) (l g1 g2 g3 : Nat) (s : ByteArray) (J : List ByteArray → ByteArray → World → Prop) (Jx : World → Prop) (hs : s.size ≤ 1000000)
    (hC : ∀ pre rest W, J pre rest W → SqC g1 g2 g3 rest W)
    (hS : ∀ pre rest rest' W, J pre rest W → J pre rest' (W.setCell ⟨g2, 0, none⟩ (.string rest')))
    (hY : ∀ pre rest x W, J pre rest W → x.size ≤ 1000000 → x.data.toList ∈ spl 32 s.data.toList → pre.length < (spl 32 s.data.toList).length → YieldAt Fence.wide (n - 1) Tryd.prog l #[.string x] W fun e W' =>
      (e = .returned (.bool true) ∧ J (pre ++ [x]) rest W') ∨ (e = .returned (.bool false) ∧ Jx W'))
    (W : World) (h0 : J [] s W) :
    CallsIn Fence.wide n Tryd.prog 86 #[.func (.yield l) #[] #[], .pointer (some ⟨g1, 0, none⟩), .pointer (some ⟨g2, 0, none⟩), .pointer (some ⟨g3, 0, none⟩)] W fun e W' => (∃ v, e = .returned v) ∧
      ((∃ ps rest, ps.map (fun x => x.data.toList) = spl 32 s.data.toList ∧ J ps rest W') ∨ Jx W') := by
  have c := hC _ _ _ h0
  have a1 := cell_of_blk c.c1 0
  refine callsIn_of_wp Tryd.func86 rfl trivial ?_ rfl
  simp only [Tryd.ntmps86, List.size_toArray, List.length_cons, List.length_nil, Nat.reduceAdd, Nat.reduceSub, Array.replicate_succ, Array.replicate_zero, List.push_toArray, List.append_toArray, List.nil_append, List.cons_append]
  gi_wp2
  gi_loopw [7, 8] (fun v7 v8 wr => ∃ (pre : List ByteArray) (rest : ByteArray), pre.map (fun x => x.data.toList) ++ spl 32 rest.data.toList = spl 32 s.data.toList ∧ rest.size ≤ 1000000 ∧ J pre rest wr) (fun _ _ wr => leftM g2 wr)
  case atStart => exact ⟨[], s, rfl, hs, h0⟩
  case round =>
    obtain ⟨pre, rest, hp, hz, hj⟩ := hrel
    have c' := hC _ _ _ hj
    have b1 := cell_of_blk c'.c1 0
    have b2 := cell_of_blk c'.c2 0
    have b3 := cell_of_blk c'.c3 0
    have f2 := free_of_blk c'.c2 0
    have hix := callsIn_wide (n := n - 1).2 (Tryd.strings_Index_one rest 32 wr)
    obtain ⟨i, hi⟩ : ∃ i, i = Lib.indexByte rest.data.toList 32 := ⟨_, rfl⟩
    rw [← hi] at hix
    by_cases hneg : i < 0
    · have hsp := index_no (s := rest) (by rw [← hi]; exact hneg)
      rw [hsp] at hp
      obtain ⟨fn, tmps, assign, body, hy, hR⟩ := hY pre rest rest wr hj hz (by rw [← hp]; simp) (by rw [← hp]; simp)
      clear hi hsp
      gi_wp2_with (refine ⟨trivial, ?_⟩; gi_at_call 44; refine hix.mono ?_; rintro e w' ⟨rfl, rfl⟩)
      refine hR.mono ?_
      rintro e W3 (⟨rfl, hJ3⟩ | ⟨rfl, hJx3⟩)
      · gi_wp2
        go_end0
        exact ⟨⟨_, rfl⟩, .inl ⟨pre ++ [rest], rest, by rw [List.map_append]; exact hp, hJ3⟩⟩
      · gi_wp2
        go_end0
        exact ⟨⟨_, rfl⟩, .inr hJx3⟩
    · obtain ⟨k, rfl⟩ : ∃ k : Nat, i = k := ⟨i.toNat, by omega⟩
      obtain ⟨hsp, hlt⟩ := index_hit (s := rest) hi.symm
      rw [hsp] at hp
      have hx : (rest.extract 0 k).size ≤ 1000000 := by rw [ByteArray.size_extract]; omega
      obtain ⟨fn, tmps, assign, body, hy, hR⟩ := hY pre rest (rest.extract 0 k) wr hj hx (by rw [← hp]; simp) (by rw [← hp]; simp)
      clear hi hsp
      have k0 : (k : Int) ≤ rest.size := by omega
      have hkk : IntKind.i64.wrap ((k : Int) + 0) = (k : Int) := by rw [Int.add_zero]; exact IntWalk.i64_in _ ⟨by omega, by omega⟩
      gi_wp2_with (refine ⟨trivial, ?_⟩; gi_at_call 44; refine hix.mono ?_; rintro e w' ⟨rfl, rfl⟩)
      refine hR.mono ?_
      rintro e W3 (⟨rfl, hJ3⟩ | ⟨rfl, hJx3⟩)
      · have c3 := hC _ _ _ hJ3
        have d1 := cell_of_blk c3.c1 0
        have d2 := cell_of_blk c3.c2 0
        have d3 := cell_of_blk c3.c3 0
        have e2 := free_of_blk c3.c2 0
        gi_wp2
        go_roundw
        case rel => exact ⟨pre ++ [rest.extract 0 k], rest.extract (k + 1) rest.size, by simpa using hp, by rw [ByteArray.size_extract]; omega, hS _ _ _ _ hJ3⟩
        case measure =>
          rw [left_of c', left_of (hC _ _ _ (hS _ _ _ _ hJ3)), ByteArray.size_extract]
          omega
      · gi_wp2
        refine bodyPost_ret (results_none rfl _ _ _) rfl ?_
        exact ⟨⟨_, rfl⟩, .inr hJx3⟩
end Go.Proofs.YtfbgnafnpeeonaaDoor.scr
