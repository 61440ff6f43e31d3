/- What the reference's Entry answers: where an entry comes among all. Condition: the nodes were read. And an append of a row that may be none. -/
import Derived.Test.YthpnmkfgodmnfaaDoorBraNodes
import Derived.Laws.AppendOwnNone
namespace Go.Proofs.YthpnmkfgodmnfaaDoor.tre
set_option maxRecDepth 100000
open Go.RowKit Go.Proofs.YthpnmkfgodmnfaaDoor.words Go.Proofs.YthpnmkfgodmnfaaDoor.ext Go.Proofs.YthpnmkfgodmnfaaDoor.name

mutual
theorem preN_in : ∀ (n x : Nd), x ∈ preN n → depth x ≤ depth n ∧ count x ≤ count n ∧ (allB n = true → allB x = true)
  | .mk K O N I S E T, x, h => by
    rw [preN] at h
    rcases List.mem_cons.1 h with rfl | h
    · exact ⟨Nat.le_refl _, Nat.le_refl _, id⟩
    · obtain ⟨h1, h2, h3⟩ := preL_in I x h
      refine ⟨by rw [depth]; omega, by rw [count]; omega, fun ha => h3 ?_⟩
      rw [allB] at ha
      exact (Bool.and_eq_true _ _ ▸ ha).1
theorem preL_in : ∀ (L : List Nd) (x : Nd), x ∈ preL L → depth x + 1 ≤ depthL L ∧ count x ≤ countL L ∧ (allL L = true → allB x = true)
  | [], x, h => by rw [preL_nil] at h; cases h
  | y :: L, x, h => by
    rw [preL_cons] at h
    rw [depthL_cons, countL_cons, allL_cons]
    rcases List.mem_append.1 h with h | h
    · obtain ⟨h1, h2, h3⟩ := preN_in y x h
      refine ⟨by omega, by omega, fun ha => h3 ?_⟩
      exact (Bool.and_eq_true _ _ ▸ ha).1
    · obtain ⟨h1, h2, h3⟩ := preL_in L x h
      refine ⟨by omega, by omega, fun ha => h3 ?_⟩
      exact (Bool.and_eq_true _ _ ▸ ha).2
end
theorem allB_one {n : Nd} (h : allB n = true) : oneB n = true := by
  rw [allB_eq] at h
  exact (Bool.and_eq_true _ _ ▸ h).2
theorem none_len {n : Nd} (h : noneB n = true) : n.N.length = 0 ∧ n.I.length = 0 := by
  unfold noneB at h
  simp only [Bool.and_eq_true, beq_iff_eq] at h
  exact ⟨h.1.2, h.2⟩
theorem empty_right {n : Nd} (h : emptyB n = true) : rightB n.S n.E = true := by
  unfold emptyB at h
  simp only [Bool.and_eq_true, beq_iff_eq] at h
  rw [h.1, List.eq_nil_of_length_eq_zero h.2]
  decide
/-- Of a node that may be: its names rise, there is an entry for each, and its extents are right. -/
theorem one_right {n : Nd} (h : oneB n = true) : Asc n.N ∧ n.N.length = n.I.length ∧ rightB n.S n.E = true := by
  by_cases h1 : n.K = 1
  · rw [oneB_1 h1] at h
    simp only [Bool.and_eq_true] at h
    obtain ⟨a, b⟩ := none_len h.1.1
    exact ⟨by rw [List.eq_nil_of_length_eq_zero a]; exact fun _ _ _ _ _ hx => (no_at hx).elim, by omega, h.2⟩
  by_cases h2 : n.K = 2
  · rw [oneB_2 h2] at h
    simp only [Bool.and_eq_true, beq_iff_eq] at h
    exact ⟨riseB_asc h.2.2, h.2.1, empty_right h.1.1⟩
  by_cases h3 : n.K = 3
  · rw [oneB_3 h3] at h
    simp only [Bool.and_eq_true] at h
    obtain ⟨a, b⟩ := none_len h.1.1
    exact ⟨by rw [List.eq_nil_of_length_eq_zero a]; exact fun _ _ _ _ _ hx => (no_at hx).elim, by omega, empty_right h.1.2⟩
  by_cases h4 : n.K = 4
  · rw [oneB_4 h4] at h
    simp only [Bool.and_eq_true] at h
    obtain ⟨a, b⟩ := none_len h.1.1
    exact ⟨by rw [List.eq_nil_of_length_eq_zero a]; exact fun _ _ _ _ _ hx => (no_at hx).elim, by omega, empty_right h.1.2⟩
  rw [oneB_0 h1 h2 h3 h4] at h
  cases h
theorem wpList_append_opt {P : Program} {w : World} {ops : Array Oper} {rest : List Oper} {o : Oper} {a : Act} {Q : Exit → Act → World → Prop} (hgd : o.guard = none) (s x : Operand) (t : TypeId)
    (ho : o.op = .call { callee := .builtin .append, args := #[s, x], argTypes := #[t, t] })
    (base : Nat) (e : TypeId) (i : TypeInfo) (z : Value) (size bytes : Nat) (ht : P.underlying t = some (.slice e)) (hi : P.info? e = some i) (hz : i.zero = some z)
    (hsize : i.size = size) (hby : i.bytes = bytes) (hzs : z.cells.size = size) (hsz : 0 < size)
    (v : Value) (n : Nat) (xs : List Value) (hs : a.eval s = v) (hown : w.ownsRow base e size v n xs)
    (A : Option Addr) (m c : Nat) (news : List Value) (hA : A = none → m = 0 ∧ c = 0) (hx : a.eval x = .slice A m c) (hl : news.length = m * size) (hnews : Lies w A news) (h1 : ∀ u ∈ news, u.oneCell' = true)
    (h63 : n + m ≤ maxLen) (hbytes : (n + m) * bytes ≤ 140737488355328) (hbase : base ≤ w.heap.size)
    (h : ∀ v' w', w'.ownsRow base e size v' (n + m) (xs ++ news) → w.grownBy w' v.ownBlock → wpList P ops Q rest (a.put o.dst v') w') : wpList P ops Q (o :: rest) a w := by
  rcases A with _ | ad
  · obtain ⟨rfl, rfl⟩ := hA rfl
    have hn : news = [] := List.eq_nil_of_length_eq_zero (by rw [hl, Nat.zero_mul])
    refine wpList_append_own_none hgd s x t ho base e i size ht hi v n xs hs hown hx (h v w ?_ ⟨rfl, rfl, rfl, Nat.le_refl _, fun _ _ _ => rfl⟩)
    rw [hn, List.append_nil, Nat.add_zero]
    exact hown
  · refine wpList_append_own w hgd s x t ho base e i z size bytes ht hi hz hsize hby hzs hsz v n xs hs hown ad m c news hx hl (fun j u hj => ?_) h1 h63 hbytes hbase fun v' w' k1 k2 _ => h v' w' k1 k2
    obtain ⟨b, off, e1, _, e3⟩ := hnews j u hj
    injection e1 with e1
    subst e1
    rw [add_place]
    exact e3

set_option maxHeartbeats 3200000 in
theorem entry_any (w5 w6 w : World) (n x : Nd) (bl c k q : Nat) (rs : Nat → Raw) (hN : Nds w5 (preN n) rs) (h56 : Below w5.heap.size w5 w6) (hbl : bl < w6.heap.size)
    (hcl : ∀ (k : Nat) (x : Nd), (preN n)[k]? = some x → ∀ j v, (rawCells x (rs k))[j]? = some v → w6.cell? ⟨bl, k * 7 + j, none⟩ = some v) (hb : Below w6.heap.size w6 w) (hx : (preN n)[k]? = some x) (hq : q ≤ x.I.length) (hc : count n ≤ 400) :
    Calls Tryd.prog 32 #[.slice (some ⟨bl, 0, none⟩) (count n) c, .int .i64 (k : Int), .int .i64 (q : Int)] w fun e w' => e = .returned (.int .i64 ((k + 1 + countL (x.I.take q) : Nat) : Int)) ∧ Below w.heap.size w w' := by
  have hkl : k < count n := by rw [← preN_length]; exact (List.getElem?_eq_some_iff.1 hx).1
  obtain ⟨_, hcx, _⟩ := preN_in n x (List.mem_of_getElem? hx)
  have hcx' := count_eq x
  have hqb : x.I.length ≤ 400 := by
    have := countL_len x.I
    omega
  obtain ⟨rx, hrx⟩ : ∃ rx, rx = rs k := ⟨_, rfl⟩
  have hNx : NdAt w5 w5.heap.size x rx := by rw [hrx]; exact hN k x hx
  have h3 : w6.cell? ⟨bl, k * 7 + 3, none⟩ = some (.slice rx.Ai x.I.length rx.ci) := by
    have := hcl k x hx 3 _ rfl
    rw [← hrx] at this
    exact this
  have HNx := Lib.hid hNx
  have H3 := Lib.hid h3
  have H56 := Lib.hid h56
  have HB := Lib.hid hb
  have q1 : IntKind.i64.wrap ((k : Int) + 1) = (k : Int) + 1 := IntWalk.i64_in _ (by omega)
  clear hN hcl hb hx hrx hNx h3 h56
  go_enter Tryd.func32, Tryd.ntmps32
  go_wp2_with fail
  go_loopw [7, 8] (fun v7 v8 wr => ∃ j : Nat, j ≤ q ∧ v8 = .int .i64 j ∧ v7 = .int .i64 ((k + 1 + countL (x.I.take j) : Nat) : Int) ∧ Hid (Below w.heap.size w wr)) (fun _ v8 _ => q - (intOf v8).toNat)
  case atStart => exact ⟨0, Nat.zero_le _, rfl, by rw [List.take_zero, countL_nil]; rfl, Lib.hid (Below.refl _ _)⟩
  case round =>
    obtain ⟨j, hj, rfl, rfl, HBr⟩ := hrel
    by_cases hlt : j < q
    · have hlt2 : j < x.I.length := by omega
      obtain ⟨y, hy⟩ : ∃ y, x.I[j]? = some y := ⟨_, List.getElem?_eq_getElem hlt2⟩
      have hb6 : Below w6.heap.size w6 wr := HB.out.trans (HBr.out.mono HB.out.size)
      have hb5 : Below w5.heap.size w5 wr := H56.out.trans (hb6.mono H56.out.size)
      obtain ⟨ry, hry, b, off, hA, hBb, c0, c1, c2, c3, c4, c5, c6⟩ := HNx.out.entry hy hb5
      have b3 : wr.cell? ⟨bl, k * 7 + 3, none⟩ = some (.slice (some ⟨b, off, none⟩) x.I.length rx.ci) := by
        have := (hb6.cell (p := ⟨bl, k * 7 + 3, none⟩) hbl).trans H3.out
        rw [hA] at this
        exact this
      have hct := count_take hy
      have hcall := pre_at w5 (depth y + 1) y ry wr (Nat.lt_succ_self _) hry hb5 (by omega)
      unfold ndV rawCells at hcall
      have HC := Lib.hid hcall
      have i0 : (0 : Int) ≤ (k : Int) := by omega
      have i1 : (k : Int) < (count n : Int) := by omega
      have j0 : (0 : Int) ≤ (j : Int) := by omega
      have j1 : (j : Int) < (x.I.length : Int) := by omega
      obtain ⟨M, hM⟩ : ∃ M, M = k + 1 + countL (x.I.take j) := ⟨_, rfl⟩
      have hM2 : k + 1 + countL (x.I.take (j + 1)) = M + count y := by rw [take_at hy, countL_snoc, hM]; omega
      have hMb : M + count y ≤ 1000 := by omega
      have q2 : IntKind.i64.wrap ((M : Int) + (count y : Int)) = ((M + count y : Nat) : Int) := by rw [IntWalk.i64_in _ (by omega)]; omega
      rw [← hM]
      have HM2 := Lib.hid hM2
      clear hy hb6 hb5 hry hA hct hcall hM hM2
      go_wp2_with fail
      refine HC.out.mono ?_
      rintro e w7 ⟨A7, c7, rs7, rfl, _, _, hb7⟩
      have HB7 := Lib.hid (HBr.out.trans (hb7.mono HBr.out.size))
      clear hb7 HC b3 c0 c1 c2 c3 c4 c5 c6
      go_wp2_with fail
      go_roundw
      case rel => exact ⟨j + 1, by omega, by go_num, by rw [HM2.out, Int.natCast_add], HB7⟩
      case measure => simp [intOf]; omega
    · obtain rfl : j = q := by omega
      go_wp2_with fail
      go_ret
      exact ⟨rfl, HBr.out⟩
end Go.Proofs.YthpnmkfgodmnfaaDoor.tre
