/- How records, and answers, that came in are read. No condition. -/
import Derived.Test.YtkigkdiphhecaaaGreatPlnArgs
import Derived.Test.YtkigkdiphhecaaaGreatTlPages
namespace Go.Proofs.YtkigkdiphhecaaaGreat.tal
set_option maxRecDepth 100000
open Go.ChangeShapes Go.WideShapes Go.RowKit Go.Proofs.YtkigkdiphhecaaaGreat.words Go.Proofs.YtkigkdiphhecaaaGreat.lru Go.Proofs.YtkigkdiphhecaaaGreat.pln

section
variable {H : Type} {enc : TypeId × Value → H} {W : World} {base : Nat} {spare : Nat → Bool} {held : Bool}
theorem cellsErr : Tryz.prog.cellsOf 23 = 1 := by kernel_rfl
theorem cellsTx : Tryz.prog.cellsOf 24 = 1 := by kernel_rfl
theorem cellsOp : Tryz.prog.cellsOf 30 = 6 := by kernel_rfl
theorem cellsRes : Tryz.prog.cellsOf 26 = 8 := by kernel_rfl
theorem cellsRec : Tryz.prog.cellsOf 32 = 19 := by kernel_rfl
theorem names_of {fuel : Nat} {v : Value} {x : DataW H × List MemPlace} (h : DataW.trod enc Tryz.prog W base spare held fuel 24 [v] = some x) : ∃ (A : Option Addr) (N : List ByteArray) (c : Nat), v = .slice A N.length c ∧ Txs W A N ∧ (A = none → N.length = 0 ∧ c = 0) ∧ N.length ≤ 9223372036854775807 := by
  rcases Deep.open_slice Tryz.underlying24 h with ⟨hc, _⟩ | ⟨a, len, cap, _, _, _, _, hc, _⟩
  · injection hc with hc
    exact ⟨none, [], 0, hc, fun i x hx => by simp at hx, fun _ => ⟨rfl, rfl⟩, by simp⟩
  · injection hc with hc
    subst hc
    obtain ⟨N, rfl, h2, _, h3⟩ := texts_of h
    exact ⟨some a, N, cap, rfl, h2, fun h => (by cases h), h3⟩
def resL (a : Rc) : List Value := [.int .i64 a.e, .int .i64 a.rk, .int .i64 a.z, .int .i64 a.wh, .int .i64 a.id, .string a.x, .slice a.A a.N.length a.c, .bool a.fin]
theorem len6_of {α : Type} {l : List α} (h : l.length = 6) : ∃ c0 c1 c2 c3 c4 c5, l = [c0, c1, c2, c3, c4, c5] := by
  match l, h with
  | [c0, c1, c2, c3, c4, c5], _ => exact ⟨c0, c1, c2, c3, c4, c5, rfl⟩
theorem op_of {fuel : Nat} {cs : List Value} {x : DataW H × List MemPlace} (h : DataW.trod enc Tryz.prog W base spare held fuel 30 cs = some x) : ∃ (k : Int) (p : ByteArray) (o n i : Int) (g : ByteArray), cs = [.int .i64 k, .string p, .int .i64 o, .int .i64 n, .int .i64 i, .string g] := by
  obtain ⟨xs, n, _, _, hlen, hxl, hf⟩ := DataW.trod_struct Tryz.underlying30 h
  rw [cellsOp] at hlen
  obtain ⟨c0, c1, c2, c3, c4, c5, rfl⟩ := len6_of hlen
  obtain ⟨x0, x1, x2, x3, x4, x5, rfl⟩ := len6_of (l := xs) hxl
  have g0 : DataW.trod enc Tryz.prog W base spare held n 3 (([c0, c1, c2, c3, c4, c5].drop 0).take (Tryz.prog.cellsOf 3)) = some x0 := hf 0 _ rfl
  rw [cellsInt] at g0
  have g1 : DataW.trod enc Tryz.prog W base spare held n 9 (([c0, c1, c2, c3, c4, c5].drop 1).take (Tryz.prog.cellsOf 9)) = some x1 := hf 1 _ rfl
  rw [cellsStr] at g1
  have g2 : DataW.trod enc Tryz.prog W base spare held n 3 (([c0, c1, c2, c3, c4, c5].drop 2).take (Tryz.prog.cellsOf 3)) = some x2 := hf 2 _ rfl
  rw [cellsInt] at g2
  have g3 : DataW.trod enc Tryz.prog W base spare held n 3 (([c0, c1, c2, c3, c4, c5].drop 3).take (Tryz.prog.cellsOf 3)) = some x3 := hf 3 _ rfl
  rw [cellsInt] at g3
  have g4 : DataW.trod enc Tryz.prog W base spare held n 3 (([c0, c1, c2, c3, c4, c5].drop 4).take (Tryz.prog.cellsOf 3)) = some x4 := hf 4 _ rfl
  rw [cellsInt] at g4
  have g5 : DataW.trod enc Tryz.prog W base spare held n 9 (([c0, c1, c2, c3, c4, c5].drop 5).take (Tryz.prog.cellsOf 9)) = some x5 := hf 5 _ rfl
  rw [cellsStr] at g5
  obtain ⟨v0, e0, _, _⟩ := DataW.trod_int Tryz.underlying3 (show DataW.trod enc Tryz.prog W base spare held n 3 [c0] = some x0 from g0)
  obtain rfl := List.head_eq_of_cons_eq e0
  obtain ⟨v1, e1, _, _⟩ := DataW.trod_string Tryz.underlying9 (show DataW.trod enc Tryz.prog W base spare held n 9 [c1] = some x1 from g1)
  obtain rfl := List.head_eq_of_cons_eq e1
  obtain ⟨v2, e2, _, _⟩ := DataW.trod_int Tryz.underlying3 (show DataW.trod enc Tryz.prog W base spare held n 3 [c2] = some x2 from g2)
  obtain rfl := List.head_eq_of_cons_eq e2
  obtain ⟨v3, e3, _, _⟩ := DataW.trod_int Tryz.underlying3 (show DataW.trod enc Tryz.prog W base spare held n 3 [c3] = some x3 from g3)
  obtain rfl := List.head_eq_of_cons_eq e3
  obtain ⟨v4, e4, _, _⟩ := DataW.trod_int Tryz.underlying3 (show DataW.trod enc Tryz.prog W base spare held n 3 [c4] = some x4 from g4)
  obtain rfl := List.head_eq_of_cons_eq e4
  obtain ⟨v5, e5, _, _⟩ := DataW.trod_string Tryz.underlying9 (show DataW.trod enc Tryz.prog W base spare held n 9 [c5] = some x5 from g5)
  obtain rfl := List.head_eq_of_cons_eq e5
  exact ⟨v0, v1, v2, v3, v4, v5, rfl⟩
theorem len8_of {α : Type} {l : List α} (h : l.length = 8) : ∃ c0 c1 c2 c3 c4 c5 c6 c7, l = [c0, c1, c2, c3, c4, c5, c6, c7] := by
  match l, h with
  | [c0, c1, c2, c3, c4, c5, c6, c7], _ => exact ⟨c0, c1, c2, c3, c4, c5, c6, c7, rfl⟩
theorem res_of {fuel : Nat} {cs : List Value} {x : DataW H × List MemPlace} (h : DataW.trod enc Tryz.prog W base spare held fuel 26 cs = some x) : ∃ a : Rc, cs = resL a ∧ Txs W a.A a.N ∧ (a.A = none → a.N.length = 0 ∧ a.c = 0) ∧ a.N.length ≤ 9223372036854775807 := by
  obtain ⟨xs, n, _, _, hlen, hxl, hf⟩ := DataW.trod_struct Tryz.underlying26 h
  rw [cellsRes] at hlen
  obtain ⟨c0, c1, c2, c3, c4, c5, c6, c7, rfl⟩ := len8_of hlen
  obtain ⟨x0, x1, x2, x3, x4, x5, x6, x7, rfl⟩ := len8_of (l := xs) hxl
  have g0 : DataW.trod enc Tryz.prog W base spare held n 23 (([c0, c1, c2, c3, c4, c5, c6, c7].drop 0).take (Tryz.prog.cellsOf 23)) = some x0 := hf 0 _ rfl
  rw [cellsErr] at g0
  have g1 : DataW.trod enc Tryz.prog W base spare held n 3 (([c0, c1, c2, c3, c4, c5, c6, c7].drop 1).take (Tryz.prog.cellsOf 3)) = some x1 := hf 1 _ rfl
  rw [cellsInt] at g1
  have g2 : DataW.trod enc Tryz.prog W base spare held n 3 (([c0, c1, c2, c3, c4, c5, c6, c7].drop 2).take (Tryz.prog.cellsOf 3)) = some x2 := hf 2 _ rfl
  rw [cellsInt] at g2
  have g3 : DataW.trod enc Tryz.prog W base spare held n 3 (([c0, c1, c2, c3, c4, c5, c6, c7].drop 3).take (Tryz.prog.cellsOf 3)) = some x3 := hf 3 _ rfl
  rw [cellsInt] at g3
  have g4 : DataW.trod enc Tryz.prog W base spare held n 3 (([c0, c1, c2, c3, c4, c5, c6, c7].drop 4).take (Tryz.prog.cellsOf 3)) = some x4 := hf 4 _ rfl
  rw [cellsInt] at g4
  have g5 : DataW.trod enc Tryz.prog W base spare held n 9 (([c0, c1, c2, c3, c4, c5, c6, c7].drop 5).take (Tryz.prog.cellsOf 9)) = some x5 := hf 5 _ rfl
  rw [cellsStr] at g5
  have g6 : DataW.trod enc Tryz.prog W base spare held n 24 (([c0, c1, c2, c3, c4, c5, c6, c7].drop 6).take (Tryz.prog.cellsOf 24)) = some x6 := hf 6 _ rfl
  rw [cellsTx] at g6
  have g7 : DataW.trod enc Tryz.prog W base spare held n 4 (([c0, c1, c2, c3, c4, c5, c6, c7].drop 7).take (Tryz.prog.cellsOf 4)) = some x7 := hf 7 _ rfl
  rw [cellsBool] at g7
  obtain ⟨v0, e0, _, _⟩ := DataW.trod_int Tryz.underlying23 (show DataW.trod enc Tryz.prog W base spare held n 23 [c0] = some x0 from g0)
  obtain rfl := List.head_eq_of_cons_eq e0
  obtain ⟨v1, e1, _, _⟩ := DataW.trod_int Tryz.underlying3 (show DataW.trod enc Tryz.prog W base spare held n 3 [c1] = some x1 from g1)
  obtain rfl := List.head_eq_of_cons_eq e1
  obtain ⟨v2, e2, _, _⟩ := DataW.trod_int Tryz.underlying3 (show DataW.trod enc Tryz.prog W base spare held n 3 [c2] = some x2 from g2)
  obtain rfl := List.head_eq_of_cons_eq e2
  obtain ⟨v3, e3, _, _⟩ := DataW.trod_int Tryz.underlying3 (show DataW.trod enc Tryz.prog W base spare held n 3 [c3] = some x3 from g3)
  obtain rfl := List.head_eq_of_cons_eq e3
  obtain ⟨v4, e4, _, _⟩ := DataW.trod_int Tryz.underlying3 (show DataW.trod enc Tryz.prog W base spare held n 3 [c4] = some x4 from g4)
  obtain rfl := List.head_eq_of_cons_eq e4
  obtain ⟨v5, e5, _, _⟩ := DataW.trod_string Tryz.underlying9 (show DataW.trod enc Tryz.prog W base spare held n 9 [c5] = some x5 from g5)
  obtain rfl := List.head_eq_of_cons_eq e5
  obtain ⟨A, N, c, rfl, t1, t2, t3⟩ := names_of (show DataW.trod enc Tryz.prog W base spare held n 24 [c6] = some x6 from g6)
  obtain ⟨v7, e7, _⟩ := DataW.trod_bool Tryz.underlying4 (show DataW.trod enc Tryz.prog W base spare held n 4 [c7] = some x7 from g7)
  obtain rfl := List.head_eq_of_cons_eq e7
  exact ⟨⟨0, 0, 0, ⟨#[]⟩, 0, 0, 0, ⟨#[]⟩, v0, v1, v2, v3, v4, v5, N, v7, 0, 0, 0, A, c⟩, rfl, t1, t2, t3⟩
theorem len19_of {α : Type} {l : List α} (h : l.length = 19) : ∃ c0 c1 c2 c3 c4 c5 c6 c7 c8 c9 c10 c11 c12 c13 c14 c15 c16 c17 c18, l = [c0, c1, c2, c3, c4, c5, c6, c7, c8, c9, c10, c11, c12, c13, c14, c15, c16, c17, c18] := by
  match l, h with
  | [c0, c1, c2, c3, c4, c5, c6, c7, c8, c9, c10, c11, c12, c13, c14, c15, c16, c17, c18], _ => exact ⟨c0, c1, c2, c3, c4, c5, c6, c7, c8, c9, c10, c11, c12, c13, c14, c15, c16, c17, c18, rfl⟩
theorem len7f_of {α : Type} {l : List α} (h : l.length = 7) : ∃ x0 x1 x2 x3 x4 x5 x6, l = [x0, x1, x2, x3, x4, x5, x6] := by
  match l, h with
  | [x0, x1, x2, x3, x4, x5, x6], _ => exact ⟨x0, x1, x2, x3, x4, x5, x6, rfl⟩
theorem rec_of {fuel : Nat} {cs : List Value} {x : DataW H × List MemPlace} (h : DataW.trod enc Tryz.prog W base spare held fuel 32 cs = some x) : ∃ r : Rc, cs = r.cs ∧ Txs W r.A r.N ∧ (r.A = none → r.N.length = 0 ∧ r.c = 0) := by
  obtain ⟨xs, n, _, _, hlen, hxl, hf⟩ := DataW.trod_struct Tryz.underlying32 h
  rw [cellsRec] at hlen
  obtain ⟨c0, c1, c2, c3, c4, c5, c6, c7, c8, c9, c10, c11, c12, c13, c14, c15, c16, c17, c18, rfl⟩ := len19_of hlen
  obtain ⟨x0, x1, x2, x3, x4, x5, x6, rfl⟩ := len7f_of (l := xs) hxl
  have g0 : DataW.trod enc Tryz.prog W base spare held n 3 (([c0, c1, c2, c3, c4, c5, c6, c7, c8, c9, c10, c11, c12, c13, c14, c15, c16, c17, c18].drop 0).take (Tryz.prog.cellsOf 3)) = some x0 := hf 0 _ rfl
  rw [cellsInt] at g0
  have g1 : DataW.trod enc Tryz.prog W base spare held n 3 (([c0, c1, c2, c3, c4, c5, c6, c7, c8, c9, c10, c11, c12, c13, c14, c15, c16, c17, c18].drop 1).take (Tryz.prog.cellsOf 3)) = some x1 := hf 1 _ rfl
  rw [cellsInt] at g1
  have g2 : DataW.trod enc Tryz.prog W base spare held n 30 (([c0, c1, c2, c3, c4, c5, c6, c7, c8, c9, c10, c11, c12, c13, c14, c15, c16, c17, c18].drop 2).take (Tryz.prog.cellsOf 30)) = some x2 := hf 2 _ rfl
  rw [cellsOp] at g2
  have g3 : DataW.trod enc Tryz.prog W base spare held n 26 (([c0, c1, c2, c3, c4, c5, c6, c7, c8, c9, c10, c11, c12, c13, c14, c15, c16, c17, c18].drop 8).take (Tryz.prog.cellsOf 26)) = some x3 := hf 3 _ rfl
  rw [cellsRes] at g3
  have g4 : DataW.trod enc Tryz.prog W base spare held n 3 (([c0, c1, c2, c3, c4, c5, c6, c7, c8, c9, c10, c11, c12, c13, c14, c15, c16, c17, c18].drop 16).take (Tryz.prog.cellsOf 3)) = some x4 := hf 4 _ rfl
  rw [cellsInt] at g4
  have g5 : DataW.trod enc Tryz.prog W base spare held n 3 (([c0, c1, c2, c3, c4, c5, c6, c7, c8, c9, c10, c11, c12, c13, c14, c15, c16, c17, c18].drop 17).take (Tryz.prog.cellsOf 3)) = some x5 := hf 5 _ rfl
  rw [cellsInt] at g5
  have g6 : DataW.trod enc Tryz.prog W base spare held n 3 (([c0, c1, c2, c3, c4, c5, c6, c7, c8, c9, c10, c11, c12, c13, c14, c15, c16, c17, c18].drop 18).take (Tryz.prog.cellsOf 3)) = some x6 := hf 6 _ rfl
  rw [cellsInt] at g6
  obtain ⟨v0, e0, _, _⟩ := DataW.trod_int Tryz.underlying3 (show DataW.trod enc Tryz.prog W base spare held n 3 [c0] = some x0 from g0)
  obtain rfl := List.head_eq_of_cons_eq e0
  obtain ⟨v1, e1, _, _⟩ := DataW.trod_int Tryz.underlying3 (show DataW.trod enc Tryz.prog W base spare held n 3 [c1] = some x1 from g1)
  obtain rfl := List.head_eq_of_cons_eq e1
  obtain ⟨vk, vp, vo, vn, vi, vg, eo⟩ := op_of (show DataW.trod enc Tryz.prog W base spare held n 30 [c2, c3, c4, c5, c6, c7] = some x2 from g2)
  simp only [List.cons.injEq] at eo
  obtain ⟨rfl, rfl, rfl, rfl, rfl, rfl, _⟩ := eo
  obtain ⟨a, ea, t1, t2, t3⟩ := res_of (show DataW.trod enc Tryz.prog W base spare held n 26 [c8, c9, c10, c11, c12, c13, c14, c15] = some x3 from g3)
  unfold resL at ea
  simp only [List.cons.injEq] at ea
  obtain ⟨rfl, rfl, rfl, rfl, rfl, rfl, rfl, rfl, _⟩ := ea
  obtain ⟨v4, e4, _, _⟩ := DataW.trod_int Tryz.underlying3 (show DataW.trod enc Tryz.prog W base spare held n 3 [c16] = some x4 from g4)
  obtain rfl := List.head_eq_of_cons_eq e4
  obtain ⟨v5, e5, _, _⟩ := DataW.trod_int Tryz.underlying3 (show DataW.trod enc Tryz.prog W base spare held n 3 [c17] = some x5 from g5)
  obtain rfl := List.head_eq_of_cons_eq e5
  obtain ⟨v6, e6, _, _⟩ := DataW.trod_int Tryz.underlying3 (show DataW.trod enc Tryz.prog W base spare held n 3 [c18] = some x6 from g6)
  obtain rfl := List.head_eq_of_cons_eq e6
  exact ⟨⟨v0, v1, vk, vp, vo, vn, vi, vg, a.e, a.rk, a.z, a.wh, a.id, a.x, a.N, a.fin, v4, v5, v6, a.A, a.c⟩, rfl, t1, t2⟩
instance : Inhabited Rc := ⟨rec0⟩
theorem recs_of {fuel : Nat} {a0 : Option Addr} {len cap : Nat} {x : DataW H × List MemPlace} (h : DataW.trod enc Tryz.prog W base spare held fuel 22 [.slice a0 len cap] = some x) :
    ∃ L : List Rc, L.length = len ∧ Recs W a0 L ∧ RecsN W L ∧ len ≤ 9223372036854775807 := by
  obtain ⟨L, h1, h2, h3⟩ := row_of 19 Rc.cs (fun r => Txs W r.A r.N ∧ (r.A = none → r.N.length = 0 ∧ r.c = 0)) Tryz.underlying22 cellsRec (fun y => by rw [y.len]; omega) (fun f cs x hv => rec_of hv) h
  refine ⟨L, h1, fun i y hy => ?_, fun y hy => by obtain ⟨i, hi⟩ := List.mem_iff_getElem?.1 hy; exact (h2 i y hi).2, h3⟩
  obtain ⟨⟨b, off, e1, e2, e3⟩, _⟩ := h2 i y hy
  exact ⟨b, off, e1, e2, e3⟩
end
end Go.Proofs.YtkigkdiphhecaaaGreat.tal
