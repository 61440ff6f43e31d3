/- How a call that came in is read. No condition. -/
import Derived.Test.YtkbhcncbpiimdaaGreatDoorJK
namespace Go.Proofs.YtkbhcncbpiimdaaGreatDoor.uni
set_option maxRecDepth 100000
open Go.ChangeShapes Go.WideShapes Go.RowKit Go.Proofs.YtkbhcncbpiimdaaGreatDoor.words Go.Proofs.YtkbhcncbpiimdaaGreatDoor.ext Go.Proofs.YtkbhcncbpiimdaaGreatDoor.name Go.Proofs.YtkbhcncbpiimdaaGreatDoor.tre Go.Proofs.YtkbhcncbpiimdaaGreatDoor.stk

def I64 (n : Int) : Prop := -9223372036854775808 ≤ n ∧ n ≤ 9223372036854775807
section
variable {H : Type} {enc : TypeId × Value → H} {W : World} {base : Nat} {spare : Nat → Bool} {held : Bool}
theorem cellsOp : Tryz.prog.cellsOf 47 = 6 := by kernel_rfl
theorem int_i64 {n : Int} (h : (Lit.int .i64 n).wf = true) : I64 n := by
  simp [Lit.wf, IntKind.min, IntKind.max, IntKind.signed, IntKind.bits] at h
  unfold I64
  omega
theorem six_of {α : Type} {l : List α} (h : l.length = 6) : ∃ a b c d e f, l = [a, b, c, d, e, f] := by
  match l, h with
  | [a, b, c, d, e, f], _ => exact ⟨a, b, c, d, e, f, rfl⟩
theorem op_of {fuel : Nat} {cs : List Value} {x : DataW H × List MemPlace} (h : DataW.trod enc Tryz.prog W base spare held fuel 47 cs = some x) (hs : Sized 47 x.1) :
    ∃ (k : Int) (p : ByteArray) (o n i : Int) (g : ByteArray), cs = [.int .i64 k, .string p, .int .i64 o, .int .i64 n, .int .i64 i, .string g] ∧ I64 o ∧ I64 n ∧ I64 i ∧ p.size ≤ 140737488355328 ∧ g.size ≤ 140737488355328 := by
  obtain ⟨xs, m, hfu, hxe, hlen, hxl, hf⟩ := DataW.trod_struct Tryz.underlying47 h
  rw [cellsOp] at hlen
  obtain ⟨c0, c1, c2, c3, c4, c5, rfl⟩ := six_of hlen
  obtain ⟨x0, x1, x2, x3, x4, x5, rfl⟩ := six_of hxl
  have sz : ∀ (j : Nat) (t : TypeId) (d : DataW H), ([3, 9, 3, 3, 3, 9] : List TypeId)[j]? = some t → ([x0.1, x1.1, x2.1, x3.1, x4.1, x5.1] : List (DataW H))[j]? = some d → Sized t d := fun j t d ht hd k hk => hs k (by
    rw [hxe]
    simp only [DataW.weights, Tryz.underlying47]
    exact DataW.weights_mem_each (j := j) ht hd k hk)
  have g0 : DataW.trod enc Tryz.prog W base spare held m 3 (([c0, c1, c2, c3, c4, c5].drop 0).take (Tryz.prog.cellsOf 3)) = some x0 := hf 0 _ rfl
  rw [cellsInt] at g0
  have g1 : DataW.trod enc Tryz.prog W base spare held m 9 (([c0, c1, c2, c3, c4, c5].drop 1).take (Tryz.prog.cellsOf 9)) = some x1 := hf 1 _ rfl
  rw [cellsStr] at g1
  have g2 : DataW.trod enc Tryz.prog W base spare held m 3 (([c0, c1, c2, c3, c4, c5].drop 2).take (Tryz.prog.cellsOf 3)) = some x2 := hf 2 _ rfl
  rw [cellsInt] at g2
  have g3 : DataW.trod enc Tryz.prog W base spare held m 3 (([c0, c1, c2, c3, c4, c5].drop 3).take (Tryz.prog.cellsOf 3)) = some x3 := hf 3 _ rfl
  rw [cellsInt] at g3
  have g4 : DataW.trod enc Tryz.prog W base spare held m 3 (([c0, c1, c2, c3, c4, c5].drop 4).take (Tryz.prog.cellsOf 3)) = some x4 := hf 4 _ rfl
  rw [cellsInt] at g4
  have g5 : DataW.trod enc Tryz.prog W base spare held m 9 (([c0, c1, c2, c3, c4, c5].drop 5).take (Tryz.prog.cellsOf 9)) = some x5 := hf 5 _ rfl
  rw [cellsStr] at g5
  obtain ⟨v0, e0, _, b0⟩ := DataW.trod_int Tryz.underlying3 (show DataW.trod enc Tryz.prog W base spare held m 3 [c0] = some x0 from g0)
  have w0 := int_i64 b0
  injection e0 with e0 _
  subst e0
  obtain ⟨v1, e1, f1, _⟩ := DataW.trod_string Tryz.underlying9 (show DataW.trod enc Tryz.prog W base spare held m 9 [c1] = some x1 from g1)
  have w1 : v1.size ≤ 140737488355328 := text_size (by rw [f1]) (sz 1 _ _ rfl rfl)
  injection e1 with e1 _
  subst e1
  obtain ⟨v2, e2, _, b2⟩ := DataW.trod_int Tryz.underlying3 (show DataW.trod enc Tryz.prog W base spare held m 3 [c2] = some x2 from g2)
  have w2 := int_i64 b2
  injection e2 with e2 _
  subst e2
  obtain ⟨v3, e3, _, b3⟩ := DataW.trod_int Tryz.underlying3 (show DataW.trod enc Tryz.prog W base spare held m 3 [c3] = some x3 from g3)
  have w3 := int_i64 b3
  injection e3 with e3 _
  subst e3
  obtain ⟨v4, e4, _, b4⟩ := DataW.trod_int Tryz.underlying3 (show DataW.trod enc Tryz.prog W base spare held m 3 [c4] = some x4 from g4)
  have w4 := int_i64 b4
  injection e4 with e4 _
  subst e4
  obtain ⟨v5, e5, f5, _⟩ := DataW.trod_string Tryz.underlying9 (show DataW.trod enc Tryz.prog W base spare held m 9 [c5] = some x5 from g5)
  have w5 : v5.size ≤ 140737488355328 := text_size (by rw [f5]) (sz 5 _ _ rfl rfl)
  injection e5 with e5 _
  subst e5
  exact ⟨v0, v1, v2, v3, v4, v5, rfl, w2, w3, w4, w1, w5⟩
end
end Go.Proofs.YtkbhcncbpiimdaaGreatDoor.uni
