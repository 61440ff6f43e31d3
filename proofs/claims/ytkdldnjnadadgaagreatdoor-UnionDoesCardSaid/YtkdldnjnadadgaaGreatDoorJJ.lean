/- What the reference's All hands back: a node and all in it, one behind the other. Conditions: the node was read, it is no deeper than k, and there are no more than 4096 nodes. What the law's own check of one branch answers: true, and it leaves all that was as it was. Condition: the library's MaxLen holds a number. What the law BranchNodes answers: true. Conditions: the node is one that was read; the library's MaxLen holds a number. What the reference's Entry answers: where an entry comes among all. Condition: the nodes were read. And an append of a row that may be none. What the law BranchLooks answers: true. Conditions: the node is one that was read, and the text; the library's MaxLen holds a number. -/
import Derived.Test.YtkdldnjnadadgaaGreatDoorJI
import Derived.Test.YtkdldnjnadadgaaGreatDoorJH
import Derived.Test.YtkdldnjnadadgaaGreatDoorJE
import Derived.Laws.AppendOwnNone
namespace Go.Proofs.YtkdldnjnadadgaaGreatDoor.tre
set_option maxRecDepth 100000
open Go.RowKit Go.Proofs.YtkdldnjnadadgaaGreatDoor.words Go.Proofs.YtkdldnjnadadgaaGreatDoor.ext Go.Proofs.YtkdldnjnadadgaaGreatDoor.name

theorem infoNode : (Tryz.prog.info? 125).map (fun i => (i.zero, i.size, i.bytes)) = some (some (.agg #[.int .i64 0, .bool false, .slice none 0 0, .slice none 0 0, .int .i64 0, .slice none 0 0, .string ⟨#[]⟩]), 7, 112) := by kernel_rfl
theorem rowCells_app : ∀ (L M : List Nd) (rs : Nat → Raw), rowCells (L ++ M) rs = rowCells L rs ++ rowCells M (fun i => rs (L.length + i))
  | [], M, rs => by
    rw [List.nil_append]
    show _ = [] ++ _
    rw [List.nil_append]
    congr 1
    funext i
    rw [show ([] : List Nd).length + i = i by simp]
  | x :: L, M, rs => by
    rw [List.cons_append, rowCells, rowCells_app L M (fun i => rs (i + 1)), rowCells, List.append_assoc]
    congr 2
    congr 1
    funext i
    rw [show L.length + i + 1 = (x :: L).length + i by simp; omega]
theorem rowCells_eq : ∀ {L : List Nd} {rs rs' : Nat → Raw}, (∀ i < L.length, rs i = rs' i) → rowCells L rs = rowCells L rs'
  | [], _, _, _ => rfl
  | y :: L, rs, rs', h => by
    rw [rowCells, rowCells, h 0 (by simp), rowCells_eq (L := L) (rs := fun i => rs (i + 1)) (rs' := fun i => rs' (i + 1)) fun i hi => h (i + 1) (by simp; omega)]
/-- Rows of nodes that were read. -/
def Nds (W0 : World) (L : List Nd) (rs : Nat → Raw) : Prop := ∀ (i : Nat) (x : Nd), L[i]? = some x → NdAt W0 W0.heap.size x (rs i)
theorem join_rows (W0 : World) (L M : List Nd) (rs rs2 : Nat → Raw) (h1 : Nds W0 L rs) (h2 : Nds W0 M rs2) : ∃ rs3, rowCells (L ++ M) rs3 = rowCells L rs ++ rowCells M rs2 ∧ Nds W0 (L ++ M) rs3 := by
  refine ⟨fun i => if i < L.length then rs i else rs2 (i - L.length), ?_, fun i x hx => ?_⟩
  · rw [rowCells_app]
    congr 1
    · exact rowCells_eq fun i hi => if_pos hi
    · refine rowCells_eq fun i _ => ?_
      show (if L.length + i < L.length then _ else rs2 (L.length + i - L.length)) = _
      rw [if_neg (by omega), show L.length + i - L.length = i by omega]
  · rcases Nat.lt_or_ge i L.length with hi | hi
    · rw [List.getElem?_append_left hi] at hx
      show NdAt W0 _ x (if i < L.length then _ else _)
      rw [if_pos hi]
      exact h1 i x hx
    · rw [List.getElem?_append_right hi] at hx
      show NdAt W0 _ x (if i < L.length then _ else _)
      rw [if_neg (by omega)]
      exact h2 _ x hx
def AllOf (W0 : World) (n : Nd) (w : World) (e : Ending) (w' : World) : Prop :=
  ∃ A c rs, e = .returned (.slice A (count n) c) ∧ w'.ownsRow w.heap.size 125 7 (.slice A (count n) c) (count n) (rowCells (preN n) rs) ∧ Nds W0 (preN n) rs ∧ Below w.heap.size w w'
theorem own_built {w : World} {n : Nd} {r : Raw} {B : Nat} (hB : B ≤ w.heap.size) : (w.alloc (.cells (rawCells n r) 125)).ownsRow B 125 7 (.slice (some ⟨w.heap.size, 0, none⟩) 1 1) 1 (rowCells [n] fun _ => r) :=
  ⟨by rw [rowCells_length]; rfl, .inr ⟨w.heap.size, 1, rawCells n r, rfl, hB, heap_alloc_new w _, Nat.le_refl _, by decide, rfl, by
    rw [rowCells, rowCells, List.append_nil]
    exact List.take_of_length_le (by rw [raw_length]; decide)⟩⟩

theorem row_later {w w' : World} {B size n : Nat} {E : TypeId} {v : Value} {xs : List Value} (h : w.ownsRow B E size v n xs) (hb : Below w.heap.size w w') : w'.ownsRow B E size v n xs := by
  refine ⟨h.1, ?_⟩
  rcases h.2 with h0 | ⟨g, cap, cur, h1, h2, h3, h4⟩
  · exact .inl h0
  · exact .inr ⟨g, cap, cur, h1, h2, (hb.block g (lt_of_some h3)).trans h3, h4⟩
theorem own_base {w : World} {B B' size n : Nat} {E : TypeId} {v : Value} {xs : List Value} (h : w.ownsRow B E size v n xs) (hB : B' ≤ B) : w.ownsRow B' E size v n xs := by
  refine ⟨h.1, ?_⟩
  rcases h.2 with h0 | ⟨g, cap, cur, h1, h2, h3⟩
  · exact .inl h0
  · exact .inr ⟨g, cap, cur, h1, Nat.le_trans hB h2, h3⟩
theorem row_some {w : World} {B : Nat} {n : Nd} {A : Option Addr} {c : Nat} {rs : Nat → Raw} (h : w.ownsRow B 125 7 (.slice A (count n) c) (count n) (rowCells (preN n) rs)) :
    ∃ g, A = some ⟨g, 0, none⟩ ∧ ∀ (i : Nat) (u : Value), (rowCells (preN n) rs)[i]? = some u → w.cell? ((⟨g, 0, none⟩ : Addr).add i) = some u := by
  have hx : (preN n)[0]? = some n := by rw [preN_eq]; rfl
  obtain ⟨g, _, h1, _⟩ := own_cell h (rowCells_at (rs := rs) hx 0 _ rfl)
  refine ⟨g, h1, fun i u hu => ?_⟩
  obtain ⟨g', _, h1', _, _, _, h5⟩ := own_cell h hu
  rw [h1] at h1'
  injection h1' with h1'
  injection h1' with h1'
  subst h1'
  rw [add_place, Nat.zero_add]
  exact h5

end Go.Proofs.YtkdldnjnadadgaaGreatDoor.tre

namespace Go.Proofs.YtkdldnjnadadgaaGreatDoor.tre
set_option maxRecDepth 100000
open Go.RowKit Go.Proofs.YtkdldnjnadadgaaGreatDoor.words Go.Proofs.YtkdldnjnadadgaaGreatDoor.ext Go.Proofs.YtkdldnjnadadgaaGreatDoor.name

def cb : ByteArray := ⟨#[99]⟩
def xyz : ByteArray := ⟨#[120, 121, 122]⟩
def dC : Nd := dirN [cb] [whiteN]
def dT : Nd := dirN [ab, bb] [dC, textN xyz]
theorem dT_right : treeB dT = true := by decide +kernel
theorem dT_count : countC dT = (count dT : Int) := by decide +kernel
theorem dT_four : count dT = 4 := by decide +kernel
theorem dT_depth : depth dT ≤ 1000 := by decide +kernel
theorem dT_pre : preN dT = [dT, dC, whiteN, textN xyz] := by
  rw [preN_eq, show dT.I = [dC, textN xyz] from rfl, preL_cons, preL_cons, preL_nil, preN_eq, preN_eq, show dC.I = [whiteN] from rfl, preL_cons, preL_nil, preN_eq, show whiteN.I = [] from rfl, show (textN xyz).I = [] from rfl, preL_nil]
  rfl
theorem dT_len : (flatN 0 dT).length = 4 := by rw [flatN_length, dT_four]
theorem dT_at {k : Nat} {x : Nd} (h : (preN dT)[k]? = some x) : (flatN 0 dT)[k]? = some (entOf k x) := by
  have := ents_at (k := 0) h
  rw [Nat.zero_add] at this
  exact this
theorem dT_0 : (flatN 0 dT)[0]? = some (entOf 0 dT) := dT_at (by rw [dT_pre]; rfl)
theorem dT_2 : (flatN 0 dT)[2]? = some (entOf 2 whiteN) := dT_at (by rw [dT_pre]; rfl)
theorem dT_3 : (flatN 0 dT)[3]? = some (entOf 3 (textN xyz)) := dT_at (by rw [dT_pre]; rfl)
theorem dT_asc : Asc [ab, bb] := riseB_asc (by decide +kernel)
theorem dT_ids : (entOf 0 dT).ids = [1, 3] := by
  show kidsL 1 [dC, textN xyz] = _
  rw [kidsL, kidsL, kidsL]
  have : count dC = 2 := by decide +kernel
  rw [this]
theorem xyz_len : (ofB xyz).length = 1 := by decide +kernel
theorem xyz_read : readB 3 (ofB xyz) 1 9 = [121, 122] := by decide +kernel
theorem look_b (g : Nat) (w : World) (h : Brn w w.heap.size g (flatN 0 dT)) : Calls Tryz.prog 142 #[.pointer (some ⟨g, 0, none⟩), .int .i64 0, .string ⟨#[98]⟩] w fun e w' => e = .returned (.tuple #[.int .i64 3, .bool true]) ∧ Below w.heap.size w w' :=
  (blook_yes g 0 _ _ bb w h dT_0 dT_asc (by rw [dT_ids]; rfl)).mono fun e w' ⟨hx, hb⟩ => by
    refine ⟨?_, hb⟩
    rcases hx with ⟨i, id, h1, h2, h3⟩ | ⟨_, hno⟩
    · obtain rfl : i = 1 := dT_asc.one h1 (show ([ab, bb] : List ByteArray)[1]? = some bb from rfl)
      rw [dT_ids] at h2
      obtain rfl : 3 = id := by simpa using h2
      exact h3
    · exact (hno 1 rfl).elim
theorem text_eq {x y : ByteArray} (h : x.data.toList = y.data.toList) : x = y := by
  obtain ⟨⟨a⟩⟩ := x
  obtain ⟨⟨b⟩⟩ := y
  simp only at h
  subst h
  rfl
theorem read_yz (g : Nat) (w : World) (h : Brn w w.heap.size g (flatN 0 dT)) : Calls Tryz.prog 150 #[.pointer (some ⟨g, 0, none⟩), .int .i64 3, .int .i64 1, .int .i64 9] w fun e w' => e = .returned (.string ⟨#[121, 122]⟩) ∧ Below w.heap.size w w' :=
  (bread_yes g 3 _ _ 1 9 w h dT_3 (show rightB (xyz.size : Int) (ofB xyz) = true from ofB_right xyz (by decide)) (by decide) (by decide) (by decide) (by decide)).mono fun e w' ⟨⟨s, h1, h2⟩, hb⟩ => by
    refine ⟨?_, hb⟩
    rw [h1, text_eq (y := ⟨#[121, 122]⟩) (h2.trans xyz_read)]
theorem kind_4 (g : Nat) (w : World) (h : Brn w w.heap.size g (flatN 0 dT)) : Calls Tryz.prog 76 #[.pointer (some ⟨g, 0, none⟩), .int .i64 2] w fun e w' => e = .returned (.int .i64 4) ∧ Below w.heap.size w w' :=
  bkind_yes g 2 _ _ w h dT_2
theorem size_3 (g : Nat) (w : World) (h : Brn w w.heap.size g (flatN 0 dT)) : Calls Tryz.prog 77 #[.pointer (some ⟨g, 0, none⟩), .int .i64 3] w fun e w' => e = .returned (.int .i64 3) ∧ Below w.heap.size w w' :=
  bsize_yes g 3 _ _ w h dT_3
def whV (r : Raw) : Value := .agg #[.int .i64 4, .bool false, .slice r.An 0 r.cn, .slice r.Ai 0 r.ci, .int .i64 0, .slice r.Ae 0 r.ce, .string ⟨#[]⟩]
def dcV (r : Raw) : Value := .agg #[.int .i64 2, .bool false, .slice r.An 1 r.cn, .slice r.Ai 1 r.ci, .int .i64 0, .slice r.Ae 0 r.ce, .string ⟨#[]⟩]
def dtV (r : Raw) : Value := .agg #[.int .i64 2, .bool false, .slice r.An 2 r.cn, .slice r.Ai 2 r.ci, .int .i64 0, .slice r.Ae 0 r.ce, .string ⟨#[]⟩]
def xyV (r : Raw) : Value := .agg #[.int .i64 1, .bool false, .slice r.An 0 r.cn, .slice r.Ai 0 r.ci, .int .i64 3, .slice r.Ae 1 r.ce, .string ⟨#[]⟩]
theorem wh_v (r : Raw) : ndV whiteN r = whV r := rfl
theorem dc_v (r : Raw) : ndV dC r = dcV r := rfl
theorem dt_v (r : Raw) : ndV dT r = dtV r := rfl
theorem xy_cells (r : Raw) : rawCells (textN xyz) r = #[.int .i64 1, .bool false, .slice r.An 0 r.cn, .slice r.Ai 0 r.ci, .int .i64 3, .slice r.Ae 1 r.ce, .string ⟨#[]⟩] := by
  unfold rawCells
  rw [show (textN xyz).E.length = 1 from xyz_len]
  rfl
theorem xy_v (r : Raw) : ndV (textN xyz) r = xyV r := by unfold ndV; rw [xy_cells]; rfl

end Go.Proofs.YtkdldnjnadadgaaGreatDoor.tre

namespace Go.Proofs.YtkdldnjnadadgaaGreatDoor.tre
set_option maxRecDepth 100000
open Go.RowKit Go.Proofs.YtkdldnjnadadgaaGreatDoor.words Go.Proofs.YtkdldnjnadadgaaGreatDoor.ext Go.Proofs.YtkdldnjnadadgaaGreatDoor.name

theorem alone_K (x : Nd) : (aloneN x).K = x.K := by cases x; rfl
theorem alone_O (x : Nd) : (aloneN x).O = x.O := by cases x; rfl
theorem alone_N (x : Nd) : (aloneN x).N = x.N := by cases x; rfl
theorem alone_S (x : Nd) : (aloneN x).S = x.S := by cases x; rfl
theorem alone_E (x : Nd) : (aloneN x).E = x.E := by cases x; rfl
theorem alone_T (x : Nd) : (aloneN x).T = x.T := by cases x; rfl
theorem refB_all {n : Nd} (h : refB n = true) : allB n = true := by
  unfold refB at h
  simp only [Bool.and_eq_true] at h
  exact h.1.1.2
/-- What is known of a tree that is looked at, and may be. -/
structure Okay (n : Nd) : Prop where
  dep : depth n ≤ 30
  cnt : count n ≤ 400
  cc : countC n = (count n : Int)
  all : allB n = true
theorem okay_of {n : Nd} (hs : smallB n = true) (ht : Tame n) (hr : treeB n = true) : Okay n := by
  have h1 := smallB_depth hs
  rw [tree_same hs ht] at hr
  have ha := refB_all hr
  have hc := smallB_count hs ha ht
  refine ⟨h1, hc, ?_, ha⟩
  rw [countC_eq (by omega)]
  unfold wrap64
  omega
theorem flat_at {n x : Nd} {k : Nat} (h : (preN n)[k]? = some x) : (flatN 0 n)[k]? = some (entOf k x) := by
  have := ents_at (k := 0) h
  rw [Nat.zero_add] at this
  exact this
theorem read_none (off n : Int) (h : off = 0) : readB 0 [] off n = [] := by
  unfold readB countOf
  rw [h, if_neg (by omega), show (min n ((0 : Int) - 0)).toNat = 0 by omega]
  rfl
theorem bread_zero (g : Nat) (i : Int) (L : List Ent) (w : World) (h : Brn w w.heap.size g L) (hi : i < 0 ∨ (L.length : Int) ≤ i) :
    Calls Tryz.prog 150 #[.pointer (some ⟨g, 0, none⟩), .int .i64 i, .int .i64 0, .int .i64 9] w fun e w' => e = .returned (.string ⟨#[]⟩) ∧ Below w.heap.size w w' :=
  (bread_no g i L 0 9 w h hi (by decide) (by decide) (by decide) (by decide)).mono fun _ _ ⟨⟨s, h1, h2⟩, h3⟩ => ⟨by rw [h1, text_eq (y := ⟨#[]⟩) (h2.trans (read_none 0 9 rfl))], h3⟩
theorem row_nd {w : World} {B : Nat} {n : Nd} {A : Option Addr} {c : Nat} {rs : Nat → Raw} (h : w.ownsRow B 125 7 (.slice A (count n) c) (count n) (rowCells (preN n) rs)) :
    ∃ b, A = some ⟨b, 0, none⟩ ∧ b < w.heap.size ∧ ∀ (k : Nat) (x : Nd), (preN n)[k]? = some x → ∀ j v, (rawCells x (rs k))[j]? = some v → w.cell? ⟨b, k * 7 + j, none⟩ = some v := by
  have hx : (preN n)[0]? = some n := by rw [preN_eq]; rfl
  obtain ⟨g, _, h1, _, h3, _⟩ := own_cell h (rowCells_at (rs := rs) hx 0 _ rfl)
  refine ⟨g, h1, h3, fun k x hk j v hj => ?_⟩
  obtain ⟨g', _, h1', _, _, _, h5⟩ := own_cell h (rowCells_at (rs := rs) hk j v hj)
  rw [h1] at h1'
  injection h1' with h1'
  injection h1' with h1'
  subst h1'
  exact h5

end Go.Proofs.YtkdldnjnadadgaaGreatDoor.tre

namespace Go.Proofs.YtkdldnjnadadgaaGreatDoor.tre
set_option maxRecDepth 100000
open Go.RowKit Go.Proofs.YtkdldnjnadadgaaGreatDoor.words Go.Proofs.YtkdldnjnadadgaaGreatDoor.ext Go.Proofs.YtkdldnjnadadgaaGreatDoor.name

mutual
theorem preN_in : ∀ (n x : Nd), x ∈ preN n → depth x ≤ depth n ∧ count x ≤ count n ∧ (allB n = true → allB x = true)
  | .mk K O N I S E T, x, h => by
    rw [preN] at h
    rcases List.mem_cons.1 h with rfl | h
    · exact ⟨Nat.le_refl _, Nat.le_refl _, id⟩
    · obtain ⟨h1, h2, h3⟩ := preL_in I x h
      refine ⟨by rw [depth]; omega, by rw [count]; omega, fun ha => h3 ?_⟩
      rw [allB] at ha
      exact (Bool.and_eq_true _ _ ▸ ha).1
theorem preL_in : ∀ (L : List Nd) (x : Nd), x ∈ preL L → depth x + 1 ≤ depthL L ∧ count x ≤ countL L ∧ (allL L = true → allB x = true)
  | [], x, h => by rw [preL_nil] at h; cases h
  | y :: L, x, h => by
    rw [preL_cons] at h
    rw [depthL_cons, countL_cons, allL_cons]
    rcases List.mem_append.1 h with h | h
    · obtain ⟨h1, h2, h3⟩ := preN_in y x h
      refine ⟨by omega, by omega, fun ha => h3 ?_⟩
      exact (Bool.and_eq_true _ _ ▸ ha).1
    · obtain ⟨h1, h2, h3⟩ := preL_in L x h
      refine ⟨by omega, by omega, fun ha => h3 ?_⟩
      exact (Bool.and_eq_true _ _ ▸ ha).2
end
theorem allB_one {n : Nd} (h : allB n = true) : oneB n = true := by
  rw [allB_eq] at h
  exact (Bool.and_eq_true _ _ ▸ h).2
theorem none_len {n : Nd} (h : noneB n = true) : n.N.length = 0 ∧ n.I.length = 0 := by
  unfold noneB at h
  simp only [Bool.and_eq_true, beq_iff_eq] at h
  exact ⟨h.1.2, h.2⟩
theorem empty_right {n : Nd} (h : emptyB n = true) : rightB n.S n.E = true := by
  unfold emptyB at h
  simp only [Bool.and_eq_true, beq_iff_eq] at h
  rw [h.1, List.eq_nil_of_length_eq_zero h.2]
  decide
/-- Of a node that may be: its names rise, there is an entry for each, and its extents are right. -/
theorem one_right {n : Nd} (h : oneB n = true) : Asc n.N ∧ n.N.length = n.I.length ∧ rightB n.S n.E = true := by
  by_cases h1 : n.K = 1
  · rw [oneB_1 h1] at h
    simp only [Bool.and_eq_true] at h
    obtain ⟨a, b⟩ := none_len h.1.1
    exact ⟨by rw [List.eq_nil_of_length_eq_zero a]; exact fun _ _ _ _ _ hx => (no_at hx).elim, by omega, h.2⟩
  by_cases h2 : n.K = 2
  · rw [oneB_2 h2] at h
    simp only [Bool.and_eq_true, beq_iff_eq] at h
    exact ⟨riseB_asc h.2.2, h.2.1, empty_right h.1.1⟩
  by_cases h3 : n.K = 3
  · rw [oneB_3 h3] at h
    simp only [Bool.and_eq_true] at h
    obtain ⟨a, b⟩ := none_len h.1.1
    exact ⟨by rw [List.eq_nil_of_length_eq_zero a]; exact fun _ _ _ _ _ hx => (no_at hx).elim, by omega, empty_right h.1.2⟩
  by_cases h4 : n.K = 4
  · rw [oneB_4 h4] at h
    simp only [Bool.and_eq_true] at h
    obtain ⟨a, b⟩ := none_len h.1.1
    exact ⟨by rw [List.eq_nil_of_length_eq_zero a]; exact fun _ _ _ _ _ hx => (no_at hx).elim, by omega, empty_right h.1.2⟩
  rw [oneB_0 h1 h2 h3 h4] at h
  cases h
theorem wpList_append_opt {P : Program} {w : World} {ops : Array Oper} {rest : List Oper} {o : Oper} {a : Act} {Q : Exit → Act → World → Prop} (hgd : o.guard = none) (s x : Operand) (t : TypeId)
    (ho : o.op = .call { callee := .builtin .append, args := #[s, x], argTypes := #[t, t] })
    (base : Nat) (e : TypeId) (i : TypeInfo) (z : Value) (size bytes : Nat) (ht : P.underlying t = some (.slice e)) (hi : P.info? e = some i) (hz : i.zero = some z)
    (hsize : i.size = size) (hby : i.bytes = bytes) (hzs : z.cells.size = size) (hsz : 0 < size)
    (v : Value) (n : Nat) (xs : List Value) (hs : a.eval s = v) (hown : w.ownsRow base e size v n xs)
    (A : Option Addr) (m c : Nat) (news : List Value) (hA : A = none → m = 0 ∧ c = 0) (hx : a.eval x = .slice A m c) (hl : news.length = m * size) (hnews : Lies w A news) (h1 : ∀ u ∈ news, u.oneCell' = true)
    (h63 : n + m ≤ maxLen) (hbytes : (n + m) * bytes ≤ 140737488355328) (hbase : base ≤ w.heap.size)
    (h : ∀ v' w', w'.ownsRow base e size v' (n + m) (xs ++ news) → w.grownBy w' v.ownBlock → wpList P ops Q rest (a.put o.dst v') w') : wpList P ops Q (o :: rest) a w := by
  rcases A with _ | ad
  · obtain ⟨rfl, rfl⟩ := hA rfl
    have hn : news = [] := List.eq_nil_of_length_eq_zero (by rw [hl, Nat.zero_mul])
    refine wpList_append_own_none hgd s x t ho base e i size ht hi v n xs hs hown hx (h v w ?_ ⟨rfl, rfl, rfl, Nat.le_refl _, fun _ _ _ => rfl⟩)
    rw [hn, List.append_nil, Nat.add_zero]
    exact hown
  · refine wpList_append_own w hgd s x t ho base e i z size bytes ht hi hz hsize hby hzs hsz v n xs hs hown ad m c news hx hl (fun j u hj => ?_) h1 h63 hbytes hbase fun v' w' k1 k2 _ => h v' w' k1 k2
    obtain ⟨b, off, e1, _, e3⟩ := hnews j u hj
    injection e1 with e1
    subst e1
    rw [add_place]
    exact e3

end Go.Proofs.YtkdldnjnadadgaaGreatDoor.tre

namespace Go.Proofs.YtkdldnjnadadgaaGreatDoor.tre
set_option maxRecDepth 100000
open Go.RowKit Go.Proofs.YtkdldnjnadadgaaGreatDoor.words Go.Proofs.YtkdldnjnadadgaaGreatDoor.ext Go.Proofs.YtkdldnjnadadgaaGreatDoor.name

theorem infoText : (Tryz.prog.info? 9).map (fun i => (i.zero, i.size, i.bytes)) = some (some (.string ⟨#[]⟩), 1, 16) := by kernel_rfl
def Looked (x : Nd) (k : Nat) (y : ByteArray) (w : World) (e : Ending) (w' : World) : Prop :=
  ((∃ q : Nat, x.N[q]? = some y ∧ q < x.I.length ∧ e = .returned (.tuple #[.int .i64 ((k + 1 + countL (x.I.take q) : Nat) : Int), .bool true])) ∨ (e = .returned (.tuple #[.int .i64 0, .bool false]) ∧ ∀ j : Nat, x.N[j]? ≠ some y)) ∧ Below w.heap.size w w'
theorem looked_any (g k : Nat) (n x : Nd) (y : ByteArray) (w : World) (h : Brn w w.heap.size g (flatN 0 n)) (hx : (preN n)[k]? = some x) (ho : oneB x = true) :
    Calls Tryz.prog 142 #[.pointer (some ⟨g, 0, none⟩), .int .i64 (k : Int), .string y] w (Looked x k y w) := by
  obtain ⟨h1, h2, _⟩ := one_right ho
  have hl : (entOf k x).ids.length = x.I.length := kidsL_length _ _
  have hN : (entOf k x).x.N = x.N := alone_N x
  refine (blook_yes g k _ _ y w h (flat_at hx) (by rw [hN]; exact h1) (by rw [hl, hN]; exact h2.symm)).mono fun e w' ⟨hh, hb⟩ => ⟨?_, hb⟩
  rw [hN] at hh
  rcases hh with ⟨q, id, e1, e2, e3⟩ | ⟨e1, e2⟩
  · have hq : q < x.I.length := by rw [← h2]; exact (List.getElem?_eq_some_iff.1 e1).1
    have e4 := kidsL_at (k := k + 1) hq
    rw [show (entOf k x).ids = kidsL (k + 1) x.I from rfl, e4] at e2
    obtain rfl := Option.some.inj e2
    exact .inl ⟨q, e1, hq, e3⟩
  · exact .inr ⟨e1, e2⟩

end Go.Proofs.YtkdldnjnadadgaaGreatDoor.tre
