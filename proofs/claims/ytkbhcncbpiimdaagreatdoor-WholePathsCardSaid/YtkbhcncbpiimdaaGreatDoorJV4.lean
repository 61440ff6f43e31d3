/- How a case that came in is read: its trees, its path, whether the last link is followed. No condition. -/
import Derived.Test.YtkbhcncbpiimdaaGreatDoorJK
namespace Go.Proofs.YtkbhcncbpiimdaaGreatDoor.wlk
set_option maxRecDepth 100000
open Go.ChangeShapes Go.WideShapes Go.RowKit Go.Proofs.YtkbhcncbpiimdaaGreatDoor.words Go.Proofs.YtkbhcncbpiimdaaGreatDoor.ext Go.Proofs.YtkbhcncbpiimdaaGreatDoor.name Go.Proofs.YtkbhcncbpiimdaaGreatDoor.tre Go.Proofs.YtkbhcncbpiimdaaGreatDoor.stk

theorem cellsCase : Tryz.prog.cellsOf 65 = 3 := by kernel_rfl
theorem three_of {α : Type} {l : List α} (h : l.length = 3) : ∃ a b c, l = [a, b, c] := by
  match l, h with
  | [a, b, c], _ => exact ⟨a, b, c, rfl⟩
theorem case_of {H : Type} {enc : TypeId × Value → H} {W : World} {base : Nat} {spare : Nat → Bool} {held : Bool} {fuel : Nat} {cs : List Value} {x : DataW H × List MemPlace}
    (h : DataW.trod enc Tryz.prog W base spare held fuel 65 cs = some x) (hs : Sized 65 x.1) :
    ∃ (a : Option Addr) (T : List Nd) (c : Nat) (s : ByteArray) (f : Bool) (rs : Nat → Raw), cs = [.slice a T.length c, .string s, .bool f] ∧ Trees W W.heap.size a T rs ∧ T.length * 112 ≤ 140737488355328 ∧ s.size ≤ 140737488355328 := by
  obtain ⟨xs, m, hfu, hxe, hlen, hxl, hf⟩ := DataW.trod_struct Tryz.underlying65 h
  rw [cellsCase] at hlen
  obtain ⟨c0, c1, c2, rfl⟩ := three_of hlen
  obtain ⟨x0, x1, x2, rfl⟩ := three_of hxl
  have sz : ∀ (j : Nat) (t : TypeId) (d : DataW H), ([22, 9, 4] : List TypeId)[j]? = some t → ([x0.1, x1.1, x2.1] : List (DataW H))[j]? = some d → Sized t d := fun j t d ht hd k hk => hs k (by
    rw [hxe]
    simp only [DataW.weights, Tryz.underlying65]
    exact DataW.weights_mem_each (j := j) ht hd k hk)
  have g0 : DataW.trod enc Tryz.prog W base spare held m 22 (([c0, c1, c2].drop 0).take (Tryz.prog.cellsOf 22)) = some x0 := hf 0 _ rfl
  have g1 : DataW.trod enc Tryz.prog W base spare held m 9 (([c0, c1, c2].drop 1).take (Tryz.prog.cellsOf 9)) = some x1 := hf 1 _ rfl
  have g2 : DataW.trod enc Tryz.prog W base spare held m 4 (([c0, c1, c2].drop 2).take (Tryz.prog.cellsOf 4)) = some x2 := hf 2 _ rfl
  rw [cellsNodes] at g0
  rw [cellsStr] at g1
  rw [cellsBool] at g2
  obtain ⟨a, l, c, rfl⟩ := slice_is Tryz.underlying22 (show DataW.trod enc Tryz.prog W base spare held m 22 [c0] = some x0 from g0)
  obtain ⟨s, e1, e1', _⟩ := DataW.trod_string Tryz.underlying9 (show DataW.trod enc Tryz.prog W base spare held m 9 [c1] = some x1 from g1)
  obtain ⟨f, e2, _⟩ := DataW.trod_bool Tryz.underlying4 (show DataW.trod enc Tryz.prog W base spare held m 4 [c2] = some x2 from g2)
  obtain ⟨T, rfl, rs, hT, hl, _, _⟩ := nodes_of (show DataW.trod enc Tryz.prog W base spare held m 22 [.slice a l c] = some x0 from g0) (sz 0 _ _ rfl rfl)
  have hsz : s.size ≤ 140737488355328 := text_size (by rw [e1']) (sz 1 _ _ rfl rfl)
  injection e1 with e1 _
  injection e2 with e2 _
  exact ⟨a, T, c, s, f, rs, by rw [e1, e2], hT, hl, hsz⟩
end Go.Proofs.YtkbhcncbpiimdaaGreatDoor.wlk
