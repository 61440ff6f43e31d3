/- What the reference's All hands back: a node and all in it, one behind the other. Conditions: the node was read, it is no deeper than k, and there are no more than 4096 nodes. What the law's own check of one branch answers: true, and it leaves all that was as it was. Condition: the library's MaxLen holds a number. What the law BranchNodes answers: true. Conditions: the node is one that was read; the library's MaxLen holds a number. What the reference's Entry answers: where an entry comes among all. Condition: the nodes were read. And an append of a row that may be none. What the law BranchLooks answers: true. Conditions: the node is one that was read, and the text; the library's MaxLen holds a number. -/
import Derived.Test.YtkbhcncbpiimdaaGreatDoorJI
import Derived.Test.YtkbhcncbpiimdaaGreatDoorJH
import Derived.Test.YtkbhcncbpiimdaaGreatDoorJE
import Derived.Laws.AppendOwnNone
namespace Go.Proofs.YtkbhcncbpiimdaaGreatDoor.tre
set_option maxRecDepth 100000
open Go.RowKit Go.Proofs.YtkbhcncbpiimdaaGreatDoor.words Go.Proofs.YtkbhcncbpiimdaaGreatDoor.ext Go.Proofs.YtkbhcncbpiimdaaGreatDoor.name

theorem rowCells_app : ∀ (L M : List Nd) (rs : Nat → Raw), rowCells (L ++ M) rs = rowCells L rs ++ rowCells M (fun i => rs (L.length + i))
  | [], M, rs => by
    rw [List.nil_append]
    show _ = [] ++ _
    rw [List.nil_append]
    congr 1
    funext i
    rw [show ([] : List Nd).length + i = i by simp]
  | x :: L, M, rs => by
    rw [List.cons_append, rowCells, rowCells_app L M (fun i => rs (i + 1)), rowCells, List.append_assoc]
    congr 2
    congr 1
    funext i
    rw [show L.length + i + 1 = (x :: L).length + i by simp; omega]
theorem own_base {w : World} {B B' size n : Nat} {E : TypeId} {v : Value} {xs : List Value} (h : w.ownsRow B E size v n xs) (hB : B' ≤ B) : w.ownsRow B' E size v n xs := by
  refine ⟨h.1, ?_⟩
  rcases h.2 with h0 | ⟨g, cap, cur, h1, h2, h3⟩
  · exact .inl h0
  · exact .inr ⟨g, cap, cur, h1, Nat.le_trans hB h2, h3⟩
end Go.Proofs.YtkbhcncbpiimdaaGreatDoor.tre

namespace Go.Proofs.YtkbhcncbpiimdaaGreatDoor.tre
set_option maxRecDepth 100000
open Go.RowKit Go.Proofs.YtkbhcncbpiimdaaGreatDoor.words Go.Proofs.YtkbhcncbpiimdaaGreatDoor.ext Go.Proofs.YtkbhcncbpiimdaaGreatDoor.name

def xyz : ByteArray := ⟨#[120, 121, 122]⟩
theorem text_eq {x y : ByteArray} (h : x.data.toList = y.data.toList) : x = y := by
  obtain ⟨⟨a⟩⟩ := x
  obtain ⟨⟨b⟩⟩ := y
  simp only at h
  subst h
  rfl
def whV (r : Raw) : Value := .agg #[.int .i64 4, .bool false, .slice r.An 0 r.cn, .slice r.Ai 0 r.ci, .int .i64 0, .slice r.Ae 0 r.ce, .string ⟨#[]⟩]
def dcV (r : Raw) : Value := .agg #[.int .i64 2, .bool false, .slice r.An 1 r.cn, .slice r.Ai 1 r.ci, .int .i64 0, .slice r.Ae 0 r.ce, .string ⟨#[]⟩]
theorem wh_v (r : Raw) : ndV whiteN r = whV r := rfl
end Go.Proofs.YtkbhcncbpiimdaaGreatDoor.tre

namespace Go.Proofs.YtkbhcncbpiimdaaGreatDoor.tre
set_option maxRecDepth 100000
open Go.RowKit Go.Proofs.YtkbhcncbpiimdaaGreatDoor.words Go.Proofs.YtkbhcncbpiimdaaGreatDoor.ext Go.Proofs.YtkbhcncbpiimdaaGreatDoor.name

theorem alone_K (x : Nd) : (aloneN x).K = x.K := by cases x; rfl
theorem alone_O (x : Nd) : (aloneN x).O = x.O := by cases x; rfl
theorem alone_N (x : Nd) : (aloneN x).N = x.N := by cases x; rfl
theorem alone_T (x : Nd) : (aloneN x).T = x.T := by cases x; rfl
theorem refB_all {n : Nd} (h : refB n = true) : allB n = true := by
  unfold refB at h
  simp only [Bool.and_eq_true] at h
  exact h.1.1.2
structure Okay (n : Nd) : Prop where
  dep : depth n ≤ 30
  cnt : count n ≤ 400
  cc : countC n = (count n : Int)
  all : allB n = true
theorem okay_of {n : Nd} (hs : smallB n = true) (ht : Tame n) (hr : treeB n = true) : Okay n := by
  have h1 := smallB_depth hs
  rw [tree_same hs ht] at hr
  have ha := refB_all hr
  have hc := smallB_count hs ha ht
  refine ⟨h1, hc, ?_, ha⟩
  rw [countC_eq (by omega)]
  unfold wrap64
  omega
theorem flat_at {n x : Nd} {k : Nat} (h : (preN n)[k]? = some x) : (flatN 0 n)[k]? = some (entOf k x) := by
  have := ents_at (k := 0) h
  rw [Nat.zero_add] at this
  exact this
end Go.Proofs.YtkbhcncbpiimdaaGreatDoor.tre

namespace Go.Proofs.YtkbhcncbpiimdaaGreatDoor.tre
set_option maxRecDepth 100000
open Go.RowKit Go.Proofs.YtkbhcncbpiimdaaGreatDoor.words Go.Proofs.YtkbhcncbpiimdaaGreatDoor.ext Go.Proofs.YtkbhcncbpiimdaaGreatDoor.name

mutual
theorem preN_in : ∀ (n x : Nd), x ∈ preN n → depth x ≤ depth n ∧ count x ≤ count n ∧ (allB n = true → allB x = true)
  | .mk K O N I S E T, x, h => by
    rw [preN] at h
    rcases List.mem_cons.1 h with rfl | h
    · exact ⟨Nat.le_refl _, Nat.le_refl _, id⟩
    · obtain ⟨h1, h2, h3⟩ := preL_in I x h
      refine ⟨by rw [depth]; omega, by rw [count]; omega, fun ha => h3 ?_⟩
      rw [allB] at ha
      exact (Bool.and_eq_true _ _ ▸ ha).1
theorem preL_in : ∀ (L : List Nd) (x : Nd), x ∈ preL L → depth x + 1 ≤ depthL L ∧ count x ≤ countL L ∧ (allL L = true → allB x = true)
  | [], x, h => by rw [preL_nil] at h; cases h
  | y :: L, x, h => by
    rw [preL_cons] at h
    rw [depthL_cons, countL_cons, allL_cons]
    rcases List.mem_append.1 h with h | h
    · obtain ⟨h1, h2, h3⟩ := preN_in y x h
      refine ⟨by omega, by omega, fun ha => h3 ?_⟩
      exact (Bool.and_eq_true _ _ ▸ ha).1
    · obtain ⟨h1, h2, h3⟩ := preL_in L x h
      refine ⟨by omega, by omega, fun ha => h3 ?_⟩
      exact (Bool.and_eq_true _ _ ▸ ha).2
end
theorem allB_one {n : Nd} (h : allB n = true) : oneB n = true := by
  rw [allB_eq] at h
  exact (Bool.and_eq_true _ _ ▸ h).2
theorem none_len {n : Nd} (h : noneB n = true) : n.N.length = 0 ∧ n.I.length = 0 := by
  unfold noneB at h
  simp only [Bool.and_eq_true, beq_iff_eq] at h
  exact ⟨h.1.2, h.2⟩
theorem empty_right {n : Nd} (h : emptyB n = true) : rightB n.S n.E = true := by
  unfold emptyB at h
  simp only [Bool.and_eq_true, beq_iff_eq] at h
  rw [h.1, List.eq_nil_of_length_eq_zero h.2]
  decide
theorem one_right {n : Nd} (h : oneB n = true) : Asc n.N ∧ n.N.length = n.I.length ∧ rightB n.S n.E = true := by
  by_cases h1 : n.K = 1
  · rw [oneB_1 h1] at h
    simp only [Bool.and_eq_true] at h
    obtain ⟨a, b⟩ := none_len h.1.1
    exact ⟨by rw [List.eq_nil_of_length_eq_zero a]; exact fun _ _ _ _ _ hx => (no_at hx).elim, by omega, h.2⟩
  by_cases h2 : n.K = 2
  · rw [oneB_2 h2] at h
    simp only [Bool.and_eq_true, beq_iff_eq] at h
    exact ⟨riseB_asc h.2.2, h.2.1, empty_right h.1.1⟩
  by_cases h3 : n.K = 3
  · rw [oneB_3 h3] at h
    simp only [Bool.and_eq_true] at h
    obtain ⟨a, b⟩ := none_len h.1.1
    exact ⟨by rw [List.eq_nil_of_length_eq_zero a]; exact fun _ _ _ _ _ hx => (no_at hx).elim, by omega, empty_right h.1.2⟩
  by_cases h4 : n.K = 4
  · rw [oneB_4 h4] at h
    simp only [Bool.and_eq_true] at h
    obtain ⟨a, b⟩ := none_len h.1.1
    exact ⟨by rw [List.eq_nil_of_length_eq_zero a]; exact fun _ _ _ _ _ hx => (no_at hx).elim, by omega, empty_right h.1.2⟩
  rw [oneB_0 h1 h2 h3 h4] at h
  cases h
theorem wpList_append_opt {P : Program} {w : World} {ops : Array Oper} {rest : List Oper} {o : Oper} {a : Act} {Q : Exit → Act → World → Prop} (hgd : o.guard = none) (s x : Operand) (t : TypeId)
    (ho : o.op = .call { callee := .builtin .append, args := #[s, x], argTypes := #[t, t] })
    (base : Nat) (e : TypeId) (i : TypeInfo) (z : Value) (size bytes : Nat) (ht : P.underlying t = some (.slice e)) (hi : P.info? e = some i) (hz : i.zero = some z)
    (hsize : i.size = size) (hby : i.bytes = bytes) (hzs : z.cells.size = size) (hsz : 0 < size)
    (v : Value) (n : Nat) (xs : List Value) (hs : a.eval s = v) (hown : w.ownsRow base e size v n xs)
    (A : Option Addr) (m c : Nat) (news : List Value) (hA : A = none → m = 0 ∧ c = 0) (hx : a.eval x = .slice A m c) (hl : news.length = m * size) (hnews : Lies w A news) (h1 : ∀ u ∈ news, u.oneCell' = true)
    (h63 : n + m ≤ maxLen) (hbytes : (n + m) * bytes ≤ 140737488355328) (hbase : base ≤ w.heap.size)
    (h : ∀ v' w', w'.ownsRow base e size v' (n + m) (xs ++ news) → w.grownBy w' v.ownBlock → wpList P ops Q rest (a.put o.dst v') w') : wpList P ops Q (o :: rest) a w := by
  rcases A with _ | ad
  · obtain ⟨rfl, rfl⟩ := hA rfl
    have hn : news = [] := List.eq_nil_of_length_eq_zero (by rw [hl, Nat.zero_mul])
    refine wpList_append_own_none hgd s x t ho base e i size ht hi v n xs hs hown hx (h v w ?_ ⟨rfl, rfl, rfl, Nat.le_refl _, fun _ _ _ => rfl⟩)
    rw [hn, List.append_nil, Nat.add_zero]
    exact hown
  · refine wpList_append_own w hgd s x t ho base e i z size bytes ht hi hz hsize hby hzs hsz v n xs hs hown ad m c news hx hl (fun j u hj => ?_) h1 h63 hbytes hbase fun v' w' k1 k2 _ => h v' w' k1 k2
    obtain ⟨b, off, e1, _, e3⟩ := hnews j u hj
    injection e1 with e1
    subst e1
    rw [add_place]
    exact e3

end Go.Proofs.YtkbhcncbpiimdaaGreatDoor.tre

namespace Go.Proofs.YtkbhcncbpiimdaaGreatDoor.tre
set_option maxRecDepth 100000
open Go.RowKit Go.Proofs.YtkbhcncbpiimdaaGreatDoor.words Go.Proofs.YtkbhcncbpiimdaaGreatDoor.ext Go.Proofs.YtkbhcncbpiimdaaGreatDoor.name

def Looked (x : Nd) (k : Nat) (y : ByteArray) (w : World) (e : Ending) (w' : World) : Prop :=
  ((∃ q : Nat, x.N[q]? = some y ∧ q < x.I.length ∧ e = .returned (.tuple #[.int .i64 ((k + 1 + countL (x.I.take q) : Nat) : Int), .bool true])) ∨ (e = .returned (.tuple #[.int .i64 0, .bool false]) ∧ ∀ j : Nat, x.N[j]? ≠ some y)) ∧ Below w.heap.size w w'
theorem looked_any (g k : Nat) (n x : Nd) (y : ByteArray) (w : World) (h : Brn w w.heap.size g (flatN 0 n)) (hx : (preN n)[k]? = some x) (ho : oneB x = true) :
    Calls Tryz.prog 125 #[.pointer (some ⟨g, 0, none⟩), .int .i64 (k : Int), .string y] w (Looked x k y w) := by
  obtain ⟨h1, h2, _⟩ := one_right ho
  have hl : (entOf k x).ids.length = x.I.length := kidsL_length _ _
  have hN : (entOf k x).x.N = x.N := alone_N x
  refine (blook_yes g k _ _ y w h (flat_at hx) (by rw [hN]; exact h1) (by rw [hl, hN]; exact h2.symm)).mono fun e w' ⟨hh, hb⟩ => ⟨?_, hb⟩
  rw [hN] at hh
  rcases hh with ⟨q, id, e1, e2, e3⟩ | ⟨e1, e2⟩
  · have hq : q < x.I.length := by rw [← h2]; exact (List.getElem?_eq_some_iff.1 e1).1
    have e4 := kidsL_at (k := k + 1) hq
    rw [show (entOf k x).ids = kidsL (k + 1) x.I from rfl, e4] at e2
    obtain rfl := Option.some.inj e2
    exact .inl ⟨q, e1, hq, e3⟩
  · exact .inr ⟨e1, e2⟩

end Go.Proofs.YtkbhcncbpiimdaaGreatDoor.tre
