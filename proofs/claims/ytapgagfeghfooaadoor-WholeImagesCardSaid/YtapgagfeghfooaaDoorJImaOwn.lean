/- A branch's Names in a row of the call's own; where the entries of a node stand among a tree's nodes. Condition: the branch lies in memory. -/
import Derived.Test.YtapgagfeghfooaaDoorJImaStrip
import Derived.Test.YtapgagfeghfooaaDoorJBraLooks
namespace Go.Proofs.YtapgagfeghfooaaDoor.ima
set_option maxRecDepth 100000
open Go.RowKit Go.Proofs.YtapgagfeghfooaaDoor.words Go.Proofs.YtapgagfeghfooaaDoor.ext Go.Proofs.YtapgagfeghfooaaDoor.name Go.Proofs.YtapgagfeghfooaaDoor.tre

/-- Names, in a row of the call's own. -/
def NamesOwn (N : List ByteArray) (w : World) (en : Ending) (w' : World) : Prop := ∃ A c, en = .returned (.slice A N.length c) ∧ N.length ≤ c ∧ c ≤ maxLen ∧ w'.ownsRow w.heap.size 9 1 (.slice A N.length c) N.length (N.map Value.string) ∧ Below w.heap.size w w'
theorem own_max {w : World} {B size n c k : Nat} {E : TypeId} {A : Option Addr} {xs : List Value} (h : w.ownsRow B E size (.slice A n c) k xs) : c ≤ maxLen := by
  rcases h.2 with ⟨h0, _⟩ | ⟨g, cap, cur, h1, _, _, _, h4, _⟩
  · injection h0 with _ _ h0
    rw [h0]
    exact Nat.zero_le _
  · injection h1 with _ _ h1
    rw [h1]
    exact h4
set_option maxHeartbeats 1600000 in
theorem bnames_own (g k : Nat) (L : List Ent) (e : Ent) (w : World) (h : Brn w w.heap.size g L) (he : L[k]? = some e) :
    Calls Tryd.prog 38 #[.pointer (some ⟨g, 0, none⟩), .int .i64 (k : Int)] w (NamesOwn e.x.N w) := by
  have H := Lib.hid (at_yes g k L e w h he)
  clear h he
  go_enter Tryd.func38, Tryd.ntmps38
  go_wp2_with fail
  refine H.out.mono ?_
  rintro en w1 ⟨r, A, c, rfl, hen, hb⟩
  have hf1 : ∀ w' : World, Sem.run Tryd.prog (Instr.field 93 (.agg #[.int .i64 e.x.K, .bool e.x.O, .slice r.An e.x.N.length r.cn, .slice r.Ai e.x.I.length r.ci, .int .i64 e.x.S, .slice r.Ae e.x.E.length r.ce, .string e.x.T, .slice A e.ids.length c]) 0) w' = .ok (.agg #[.int .i64 e.x.K, .bool e.x.O, .slice r.An e.x.N.length r.cn, .slice r.Ai e.x.I.length r.ci, .int .i64 e.x.S, .slice r.Ae e.x.E.length r.ce, .string e.x.T]) w' := fun w' => field_node _ _ _ _ _ w'
  have hf2 : ∀ w' : World, Sem.run Tryd.prog (Instr.field 27 (.agg #[.int .i64 e.x.K, .bool e.x.O, .slice r.An e.x.N.length r.cn, .slice r.Ai e.x.I.length r.ci, .int .i64 e.x.S, .slice r.Ae e.x.E.length r.ce, .string e.x.T]) 2) w' = .ok (.slice r.An e.x.N.length r.cn) w' := fun _ => by kernel_rfl
  have HC := Lib.hid ((copy_txt r.An e.x.N.length r.cn _ w1 (lies_txt hen.nd.names) hen.nd.fit.zn hen.nd.fit.ln (by rw [List.length_map, Nat.mul_one]) (txtCells_one e.x.N)).mono fun _ _ h => own_of h)
  have HB := Lib.hid hb
  clear hb H hen
  go_wp2_with fail
  refine HC.out.mono ?_
  rintro en w2 ⟨A3, c3, rfl, h31, h32, ho3, hb2⟩
  have HF := Lib.hid (show NamesOwn e.x.N w (.returned (.slice A3 e.x.N.length c3)) w2 from ⟨A3, c3, rfl, h31, own_max ho3, tre.own_base ho3 HB.out.size, HB.out.trans (hb2.mono HB.out.size)⟩)
  clear ho3 hb2 h31 h32 HC HB
  go_wp2_with fail
  go_ret
  exact HF.out
mutual
theorem preN_sub : ∀ (n x : Nd) (k : Nat), (preN n)[k]? = some x → ∃ M, (preN n).drop k = preN x ++ M
  | .mk K O N I S E T, x, k, h => by
    rcases k with _ | k
    · rw [preN_eq] at h
      obtain rfl : Nd.mk K O N I S E T = x := by simpa using h
      exact ⟨[], by rw [List.drop_zero, List.append_nil]⟩
    · rw [preN_eq] at h ⊢
      rw [List.drop_succ_cons]
      exact preL_sub I x k (by rw [List.getElem?_cons_succ] at h; exact h)
theorem preL_sub : ∀ (L : List Nd) (x : Nd) (k : Nat), (preL L)[k]? = some x → ∃ M, (preL L).drop k = preN x ++ M
  | [], x, k, h => by rw [preL_nil] at h; simp at h
  | y :: L, x, k, h => by
    rw [preL_cons] at h ⊢
    by_cases hk : k < (preN y).length
    · rw [List.getElem?_append_left hk] at h
      obtain ⟨M, hM⟩ := preN_sub y x k h
      exact ⟨M ++ preL L, by rw [List.drop_append_of_le_length (Nat.le_of_lt hk), hM, List.append_assoc]⟩
    · rw [List.getElem?_append_right (by omega)] at h
      obtain ⟨M, hM⟩ := preL_sub L x _ h
      refine ⟨M, ?_⟩
      rw [List.drop_append, List.drop_eq_nil_of_le (by omega), List.nil_append, hM]
end
theorem preL_at : ∀ {L : List Nd} {i : Nat} {y : Nd}, L[i]? = some y → (preL L)[countL (L.take i)]? = some y
  | [], i, y, h => by simp at h
  | x :: L, 0, y, h => by
    obtain rfl : x = y := by simpa using h
    rw [List.take_zero, countL_nil, preL_cons, preN_eq]
    rfl
  | x :: L, i + 1, y, h => by
    rw [List.take_succ_cons, countL_cons, preL_cons, List.getElem?_append_right (by rw [preN_length]; omega), preN_length, Nat.add_sub_cancel_left]
    exact preL_at (by simpa using h)
theorem preN_kid {n x y : Nd} {k i : Nat} (hx : (preN n)[k]? = some x) (hy : x.I[i]? = some y) : (preN n)[k + 1 + countL (x.I.take i)]? = some y := by
  obtain ⟨M, hM⟩ := preN_sub n x k hx
  have h1 := preL_at hy
  have h2 : ((preN n).drop k)[1 + countL (x.I.take i)]? = some y := by
    have hlt : countL (x.I.take i) < (preL x.I).length := (List.getElem?_eq_some_iff.1 h1).1
    rw [hM, preN_eq, Nat.add_comm, List.cons_append, List.getElem?_cons_succ, List.getElem?_append_left hlt]
    exact h1
  rw [List.getElem?_drop] at h2
  rw [← h2]
  congr 1
  omega
end Go.Proofs.YtapgagfeghfooaaDoor.ima
