/- What is seen of a root by a name, and what a branch upon it turns of that: plain words. And what Look answers of the root. Conditions: the stack lies in memory, and its trees may be. Trees, and one more behind them, in a row of one's own; and what an append yields, wherever the row that comes behind lies. -/
import Derived.Test.YtdljogdegcmmiaaGreatDoorJP
import Derived.Test.YtdljogdegcmmiaaGreatDoorJH
import Derived.Laws.AppendOwnNone
namespace Go.Proofs.YtdljogdegcmmiaaGreatDoor.seen
set_option maxRecDepth 100000
open Go.RowKit Go.Proofs.YtdljogdegcmmiaaGreatDoor.words Go.Proofs.YtdljogdegcmmiaaGreatDoor.ext Go.Proofs.YtdljogdegcmmiaaGreatDoor.name Go.Proofs.YtdljogdegcmmiaaGreatDoor.tre Go.Proofs.YtdljogdegcmmiaaGreatDoor.stk

/-- Look's answer of the root: the kind, the spot, how many directories, and whether anything is seen. -/
def Hits (R : List Nd) (s : ByteArray) (k l i : Int) (n : Nat) (b : Bool) : Prop :=
  ∃ Q', EntN s (R.take (dirsN R)) Q' ∧ ((b = false ∧ seenOf Q' = [] ∧ k = 0 ∧ l = 0 ∧ i = 0 ∧ n = 0) ∨
    (b = true ∧ ∃ (lv nd : Nat) (d : Nd), (seenOf Q')[0]? = some d ∧ k = d.K ∧ l = (lv : Int) ∧ i = (nd : Int) ∧ Top (rootP (tabs R)) (R.take (dirsN R)) s (lv, nd) ∧ n = if d.K = 2 then (seenOf Q').length else 0))
theorem root_spot {R : List Nd} {k : Nat} {p : Nat × Nat} (h : (rootP (tabs R))[k]? = some p) : p = (k, 0) := by
  unfold rootP at h
  rw [List.getElem?_take] at h
  split at h
  · unfold roots at h
    rw [List.getElem?_map] at h
    obtain ⟨x, hx, rfl⟩ := Option.map_eq_some_iff.1 h
    rw [List.getElem?_range (by
      have := (List.getElem?_eq_some_iff.1 hx).1
      rwa [List.length_range] at this)] at hx
    rw [← Option.some.inj hx]
  · cases h
theorem top_of {R D : List Nd} {s : ByteArray} {lv nd : Nat} (h : Top (rootP (tabs R)) D s (lv, nd)) : ∃ (y : Nd) (i : Nat), D[lv]? = some y ∧ y.N[i]? = some s ∧ (∀ z ∈ D.take lv, ∀ j : Nat, z.N[j]? ≠ some s) ∧ nd = 1 + countL (y.I.take i) := by
  obtain ⟨k, p, y, i, h1, h2, h3, h4, h5⟩ := h
  obtain rfl := root_spot h1
  injection h2 with e1 e2
  subst e1 e2
  exact ⟨y, i, h3, h4, h5, by omega⟩
theorem first_eq {D : List Nd} {s : ByteArray} {k k' : Nat} {y y' : Nd} {i i' : Nat} (h1 : D[k]? = some y) (h2 : y.N[i]? = some s) (h3 : ∀ z ∈ D.take k, ∀ j : Nat, z.N[j]? ≠ some s) (g1 : D[k']? = some y') (g2 : y'.N[i']? = some s) (g3 : ∀ z ∈ D.take k', ∀ j : Nat, z.N[j]? ≠ some s) : k = k' := by
  rcases Nat.lt_trichotomy k k' with hl | hl | hl
  · exact (g3 y (List.mem_of_getElem? (by rw [List.getElem?_take_of_lt hl]; exact h1)) i h2).elim
  · exact hl
  · exact (h3 y' (List.mem_of_getElem? (by rw [List.getElem?_take_of_lt hl]; exact g1)) i' g2).elim
theorem Fine.asc {R : List Nd} (h : Fine R) : ∀ d ∈ R, Asc d.N ∧ d.N.length = d.I.length := fun d hd => by
  obtain ⟨h1, h2, _⟩ := one_right (allB_one (h.all d hd))
  exact ⟨h1, h2⟩
theorem Hits.uniq {R : List Nd} {s : ByteArray} {k l i k' l' i' : Int} {n n' : Nat} {b b' : Bool} (hf : Fine R) (h : Hits R s k l i n b) (g : Hits R s k' l' i' n' b') : k = k' ∧ l = l' ∧ i = i' ∧ n = n' ∧ b = b' := by
  obtain ⟨Q, h1, h2⟩ := h
  obtain ⟨Q2, g1, g2⟩ := g
  have hasc : ∀ d ∈ R.take (dirsN R), Asc d.N := fun d hd => (hf.asc d (List.mem_of_mem_take hd)).1
  obtain rfl := EntN.uniq hasc h1 g1
  rcases h2 with ⟨rfl, a1, rfl, rfl, rfl, rfl⟩ | ⟨rfl, lv, nd, d, a1, rfl, rfl, rfl, a2, rfl⟩
  · rcases g2 with ⟨rfl, b1, rfl, rfl, rfl, rfl⟩ | ⟨rfl, lv, nd, d, b1, _⟩
    · exact ⟨rfl, rfl, rfl, rfl, rfl⟩
    · rw [a1] at b1; cases b1
  · rcases g2 with ⟨rfl, b1, rfl, rfl, rfl, rfl⟩ | ⟨rfl, lv', nd', d', b1, rfl, rfl, rfl, b2, rfl⟩
    · rw [b1] at a1; cases a1
    · rw [a1] at b1
      obtain rfl := Option.some.inj b1
      obtain ⟨y, j, t1, t2, t3, t4⟩ := top_of a2
      obtain ⟨y', j', r1, r2, r3, r4⟩ := top_of b2
      obtain rfl := first_eq t1 t2 t3 r1 r2 r3
      rw [t1] at r1
      obtain rfl := Option.some.inj r1
      obtain rfl := (hasc y (List.mem_of_getElem? t1)).one t2 r2
      exact ⟨rfl, rfl, by rw [t4, r4], rfl, rfl⟩
theorem seenOf_count {y : Nd} {Q : List Nd} (hk : y.K = 2) : (seenOf (y :: Q)).length = if y.O = true then 1 else dirsN (Q.take (headN Q)) + 1 := by
  obtain ⟨h1, _⟩ := seenOf_dirs (D := Q) hk
  rw [h1, List.length_take, Nat.min_eq_left]
  · rw [headN, if_pos hk, List.take_succ_cons, dirsN]
  · refine Nat.le_trans (dirsN_le _) ?_
    rw [List.length_take]
    exact Nat.min_le_right _ _
theorem seenOf_head {Q : List Nd} {d : Nd} (h : (seenOf Q)[0]? = some d) : Q[0]? = some d := by
  rcases Q with _ | ⟨x, Q⟩
  · simp [seenOf] at h
  · unfold seenOf at h
    simp only at h
    split at h
    · simp at h
    · split at h
      · rw [List.getElem?_take] at h
        split at h
        · rw [List.getElem?_take] at h
          split at h
          · exact h
          · cases h
        · cases h
      · rw [List.getElem?_take] at h
        split at h
        · exact h
        · cases h
theorem seenOf_some {y : Nd} {Q : List Nd} (hk : y.K ≠ 4) : (seenOf (y :: Q))[0]? = some y := by
  by_cases h2 : y.K = 2
  · obtain ⟨h1, h3⟩ := seenOf_dirs (D := Q) h2
    rw [h1, List.getElem?_take_of_lt (by omega)]
    rfl
  · unfold seenOf
    simp only
    rw [if_neg hk, if_neg h2]
    rfl
theorem seenOf_none {Q : List Nd} (h : seenOf Q = []) : headN Q = 0 := by
  rcases Q with _ | ⟨x, Q⟩
  · rfl
  · by_cases hk : x.K = 4
    · rw [headN, if_neg (by omega)]
    · have := seenOf_some (Q := Q) hk
      rw [h] at this
      cases this
theorem dirs_cons (n : Nd) (R : List Nd) : (n :: R).take (dirsN (n :: R)) = if n.O = true then [n] else n :: R.take (dirsN R) := by
  rw [dirsN]
  split
  · rfl
  · rw [List.take_succ_cons]
/-- A branch that hasn't the name. -/
theorem hit_none {n : Nd} {R : List Nd} {s : ByteArray} {k l i k' l' i' : Int} {c c' : Nat} {b b' : Bool} (hf : Fine R) (hno : ∀ j : Nat, n.N[j]? ≠ some s) (h : Hits (n :: R) s k l i c b) (g : Hits R s k' l' i' c' b') :
    (n.O = true → b = false) ∧ (n.O = false → b = b' ∧ k = k' ∧ c = c' ∧ (b = true → l = l' + 1 ∧ i = i')) := by
  obtain ⟨Q, h1, h2⟩ := h
  obtain ⟨Q2, g1, g2⟩ := g
  rw [dirs_cons] at h1 h2
  have hasc : ∀ d ∈ R.take (dirsN R), Asc d.N := fun d hd => (hf.asc d (List.mem_of_mem_take hd)).1
  refine ⟨fun hO => ?_, fun hO => ?_⟩
  · rw [if_pos hO] at h1
    obtain ⟨o, Q', e1, e2, e3⟩ := h1
    have e3' : Q' = [] := e3
    subst e3'
    rcases e1 with ⟨j, y, e4, _⟩ | ⟨rfl, _⟩
    · exact (hno j e4).elim
    · rcases h2 with h2 | ⟨_, lv, nd, d, a1, _⟩
      · exact h2.1
      · rw [e2] at a1; cases a1
  · rw [if_neg (by rw [hO]; decide)] at h1 h2
    obtain ⟨o, Q', e1, e2, e3⟩ := h1
    have hQ : Q = Q2 := by
      rcases e1 with ⟨j, y, e4, _⟩ | ⟨rfl, _⟩
      · exact (hno j e4).elim
      · rw [e2]
        exact EntN.uniq hasc e3 g1
    subst hQ
    rcases h2 with ⟨rfl, a1, rfl, rfl, rfl, rfl⟩ | ⟨rfl, lv, nd, d, a1, rfl, rfl, rfl, a2, rfl⟩
    · rcases g2 with ⟨rfl, b1, rfl, rfl, rfl, rfl⟩ | ⟨rfl, lv', nd', d', b1, _⟩
      · exact ⟨rfl, rfl, rfl, fun h => by cases h⟩
      · rw [a1] at b1; cases b1
    · rcases g2 with ⟨rfl, b1, rfl, rfl, rfl, rfl⟩ | ⟨rfl, lv', nd', d', b1, rfl, rfl, rfl, b2, rfl⟩
      · rw [b1] at a1; cases a1
      · rw [a1] at b1
        obtain rfl := Option.some.inj b1
        refine ⟨rfl, rfl, rfl, fun _ => ?_⟩
        obtain ⟨y, j, t1, t2, t3, t4⟩ := top_of a2
        obtain ⟨y', j', r1, r2, r3, r4⟩ := top_of b2
        rcases lv with _ | lv
        · obtain rfl : n = y := by simpa using t1
          exact (hno j t2).elim
        · have t1' : (R.take (dirsN R))[lv]? = some y := by simpa using t1
          have t3' : ∀ z ∈ (R.take (dirsN R)).take lv, ∀ j : Nat, z.N[j]? ≠ some s := fun z hz => t3 z (by rw [List.take_succ_cons]; exact List.mem_cons_of_mem _ hz)
          obtain rfl := first_eq t1' t2 t3' r1 r2 r3
          rw [t1'] at r1
          obtain rfl := Option.some.inj r1
          obtain rfl := (hasc y (List.mem_of_getElem? t1')).one t2 r2
          exact ⟨by omega, by rw [t4, r4]⟩
/-- A branch that has it. -/
theorem hit_some {n y : Nd} {R : List Nd} {s : ByteArray} {k l i k' l' i' : Int} {c c' j : Nat} {b b' : Bool} (hn : Asc n.N) (hf : Fine R) (hj : n.N[j]? = some s) (hy : n.I[j]? = some y) (h : Hits (n :: R) s k l i c b) (g : Hits R s k' l' i' c' b') :
    (y.K = 4 → b = false) ∧ (y.K ≠ 4 → b = true ∧ k = y.K ∧ l = 0 ∧ (y.K ≠ 2 ∨ y.O = true ∨ n.O = true → c ≤ 1) ∧ (y.K = 2 → y.O = false → n.O = false → c = 1 + if b' = true ∧ k' = 2 then c' else 0)) := by
  obtain ⟨Q, h1, h2⟩ := h
  obtain ⟨Q2, g1, g2⟩ := g
  rw [dirs_cons] at h1 h2
  have hasc : ∀ d ∈ R.take (dirsN R), Asc d.N := fun d hd => (hf.asc d (List.mem_of_mem_take hd)).1
  have hQ : ∃ Ql, Q = y :: Ql ∧ (n.O = true → Ql = []) ∧ (n.O = false → Ql = Q2) := by
    rcases hO : n.O with _ | _
    · rw [hO, if_neg (by decide)] at h1
      obtain ⟨o, Q', e1, e2, e3⟩ := h1
      rcases e1 with ⟨j', z, e4, e5, rfl⟩ | ⟨rfl, e4⟩
      · obtain rfl := hn.one hj e4
        rw [hy] at e5
        obtain rfl := Option.some.inj e5
        exact ⟨Q', e2, fun h => (by cases h), fun _ => EntN.uniq hasc e3 g1⟩
      · exact (e4 j hj).elim
    · rw [hO, if_pos rfl] at h1
      obtain ⟨o, Q', e1, e2, e3⟩ := h1
      have e3' : Q' = [] := e3
      rcases e1 with ⟨j', z, e4, e5, rfl⟩ | ⟨rfl, e4⟩
      · obtain rfl := hn.one hj e4
        rw [hy] at e5
        obtain rfl := Option.some.inj e5
        exact ⟨Q', e2, fun _ => e3', fun h => (by cases h)⟩
      · exact (e4 j hj).elim
  obtain ⟨Ql, rfl, hl1, hl2⟩ := hQ
  refine ⟨fun hk => ?_, fun hk => ?_⟩
  · rcases h2 with h2 | ⟨_, lv, nd, d, a1, _⟩
    · exact h2.1
    · have : seenOf (y :: Ql) = [] := by unfold seenOf; simp only; rw [if_pos hk]
      rw [this] at a1; cases a1
  · have hs := seenOf_some (Q := Ql) hk
    rcases h2 with ⟨_, a1, _⟩ | ⟨rfl, lv, nd, d, a1, rfl, rfl, rfl, a2, rfl⟩
    · rw [a1] at hs; cases hs
    · rw [hs] at a1
      obtain rfl := Option.some.inj a1
      have hlv : lv = 0 := by
        obtain ⟨z, i, t1, t2, t3, t4⟩ := top_of a2
        rcases lv with _ | lv
        · rfl
        · refine (t3 n ?_ j hj).elim
          split <;> rw [List.take_succ_cons] <;> exact List.mem_cons_self ..
      subst hlv
      refine ⟨rfl, rfl, rfl, fun hc => ?_, fun h2 hO hn' => ?_⟩
      · split
        · rename_i h2
          rw [seenOf_count h2]
          rcases hc with hc | hc | hc
          · exact absurd h2 hc
          · rw [if_pos hc]; exact Nat.le_refl _
          · obtain rfl := hl1 hc
            split
            · exact Nat.le_refl _
            · exact Nat.le_refl _
        · exact Nat.zero_le _
      · rw [if_pos h2, seenOf_count h2, if_neg (by rw [hO]; decide)]
        obtain rfl := hl2 hn'
        rcases g2 with ⟨rfl, b1, _⟩ | ⟨rfl, lv', nd', d', b1, rfl, rfl, rfl, b2, rfl⟩
        · rw [seenOf_none b1, if_neg (fun h => by cases h.1)]
          rfl
        · have hd := seenOf_head b1
          rcases Ql with _ | ⟨x, Ql⟩
          · simp at hd
          · obtain rfl : x = d' := by simpa using hd
            by_cases hx : x.K = 2
            · rw [if_pos ⟨rfl, hx⟩, if_pos hx, seenOf_count hx, headN, if_pos hx, List.take_succ_cons, dirsN]
              omega
            · rw [if_neg (fun h => hx h.2), headN, if_neg hx]
              rfl
theorem Sees.hits {R : List Nd} {s : ByteArray} {Q' : List Nd} {w w' : World} {en : Ending} (hQ : EntN s (R.take (dirsN R)) Q') (h : Sees R (rootP (tabs R)) (R.take (dirsN R)) s Q' w en w') :
    (∃ k l i Af nf cf b, Hits R s k l i nf b ∧ en = .returned (.tuple #[.agg #[.int .i64 k, .int .i64 l, .int .i64 i, .slice Af nf cf], .bool b])) ∧ Below w.heap.size w w' := by
  obtain ⟨h, hb⟩ := h
  refine ⟨?_, hb⟩
  rcases h with ⟨h1, rfl⟩ | ⟨lv, nd, d, Af, nf, cf, h1, h2, h3, h4, rfl⟩
  · exact ⟨0, 0, 0, none, 0, 0, false, ⟨Q', hQ, .inl ⟨rfl, h1, rfl, rfl, rfl, rfl⟩⟩, rfl⟩
  · refine ⟨d.K, (lv : Int), (nd : Int), Af, nf, cf, true, ⟨Q', hQ, .inr ⟨rfl, lv, nd, d, h1, rfl, rfl, rfl, h3, ?_⟩⟩, rfl⟩
    rcases h4 with ⟨h5, h6⟩ | ⟨h5, Q, h6, h7, _⟩
    · rw [if_neg h5, h6]
    · rw [if_pos h5, h6, h7.length]
/-- Root, and Look of it. -/
theorem rooted_any {R : List Nd} (hf : Fine R) (A : Option Addr) (c : Nat) (ad : Int) (L : List (Nat × Int)) (w : World) (h : StkM w A L (tabs R)) (hl : L.length ≤ 64) :
    Calls Tryz.prog 16 #[.agg #[.slice A L.length c, .int .i64 ad]] w fun e w' => (∃ Ap cp, e = .returned (.slice Ap (rootP (tabs R)).length cp) ∧ Plc w' w'.heap.size Ap (rootP (tabs R))) ∧ Below w.heap.size w w' :=
  have _ := hf
  (root_any A c ad L (tabs R) w h hl tab_root).mono fun _ _ ⟨Ap, cp, h2, h3, _, _, h4⟩ => ⟨⟨Ap, cp, h2, h3⟩, h4⟩
theorem looked_root {R : List Nd} (hf : Fine R) (A : Option Addr) (c : Nat) (ad : Int) (L : List (Nat × Int)) (Ap : Option Addr) (cp : Nat) (s : ByteArray) (w : World) (h : StkM w A L (tabs R)) (hl : L.length ≤ 64) (hp : Plc w w.heap.size Ap (rootP (tabs R))) :
    Calls Tryz.prog 28 #[.agg #[.slice A L.length c, .int .i64 ad], .slice Ap (rootP (tabs R)).length cp, .string s] w fun e w' => (∃ k l i Af nf cf b, Hits R s k l i nf b ∧ e = .returned (.tuple #[.agg #[.int .i64 k, .int .i64 l, .int .i64 i, .slice Af nf cf], .bool b])) ∧ Below w.heap.size w w' := by
  obtain ⟨Q', hQ⟩ := EntN.some (s := s) (D := R.take (dirsN R)) (fun d hd => (hf.asc d (List.mem_of_mem_take hd)).2)
  have hlen := root_len (R := R)
  have hR : R.length = L.length := by rw [← h.es, tabs_length]
  exact (seen_any hf.all (root_ats hf.dirs) root_up hQ A c ad L Ap cp w h hp (by omega)).mono fun _ _ h => h.sees.hits hQ
end Go.Proofs.YtdljogdegcmmiaaGreatDoor.seen

namespace Go.Proofs.YtdljogdegcmmiaaGreatDoor.seen
set_option maxRecDepth 100000
open Go.RowKit Go.Proofs.YtdljogdegcmmiaaGreatDoor.words Go.Proofs.YtdljogdegcmmiaaGreatDoor.ext Go.Proofs.YtdljogdegcmmiaaGreatDoor.name Go.Proofs.YtdljogdegcmmiaaGreatDoor.tre Go.Proofs.YtdljogdegcmmiaaGreatDoor.stk

/-- An append, wherever the row that comes behind lies. -/
theorem step_append_opt {P : Program} {ops : Array Oper} {o : Oper} {a : Act} {K : Act → World → Prop} {Q : Exit → Act → World → Prop} {E : Prop} (w : World) (hgd : o.guard = none) (s x : Operand) (t : TypeId)
    (ho : o.op = .call { callee := .builtin .append, args := #[s, x], argTypes := #[t, t] })
    (base : Nat) (e : TypeId) (i : TypeInfo) (z : Value) (size bytes : Nat) (ht : P.underlying t = some (.slice e)) (hi : P.info? e = some i) (hz : i.zero = some z)
    (hsize : i.size = size) (hby : i.bytes = bytes) (hzs : z.cells.size = size) (hsz : 0 < size)
    (v : Value) (n : Nat) (xs : List Value) (hs : a.eval s = v) (hown : w.ownsRow base e size v n xs)
    (A : Option Addr) (m c : Nat) (news : List Value) (hA : A = none → m = 0 ∧ c = 0) (hx : a.eval x = .slice A m c) (hl : news.length = m * size) (hnews : Lies w A news) (h1 : ∀ u ∈ news, u.oneCell' = true)
    (h63 : n + m ≤ maxLen) (hbytes : (n + m) * bytes ≤ 140737488355328) (hbase : base ≤ w.heap.size)
    (h : ∀ v' w', w'.ownsRow base e size v' (n + m) (xs ++ news) → w.grownBy w' v.ownBlock → K (a.put o.dst v') w') : if Region.wanted o (yielded ops a.tmps) = true then Oper.wp P o a w K Q else E := by
  have hw : Region.wanted o (yielded ops a.tmps) = true := by simp [Region.wanted, hgd]
  rw [if_pos hw]
  rcases A with _ | ad
  · obtain ⟨rfl, rfl⟩ := hA rfl
    have hn : news = [] := List.eq_nil_of_length_eq_zero (by rw [hl, Nat.zero_mul])
    have hrun := run_append_owned_none (P := P) (w := w) base t o.type e i size ht hi v n xs hown
    have hh := h v w (by rw [hn, List.append_nil, Nat.add_zero]; exact hown) ⟨rfl, rfl, rfl, Nat.le_refl _, fun _ _ _ => rfl⟩
    unfold Oper.wp
    simp [execOp, ho, resolve, invoke, builtin, hs, hx, hrun, Result.andThen]
    exact hh
  · refine wp_append_own w s x t ho base e i z size bytes ht hi hz hsize hby hzs hsz v n xs hs hown ad m c news hx hl (fun j u hj => ?_) h1 h63 hbytes hbase fun v' w' k1 k2 _ => h v' w' k1 k2
    obtain ⟨b, off, e1, _, e3⟩ := hnews j u hj
    injection e1 with e1
    subst e1
    rw [add_place]
    exact e3
theorem trees_lies {w : World} {A : Option Addr} {T : List Nd} {rs : Nat → Raw} (h : Trees w w.heap.size A T rs) : Lies w A (rowCells T rs) := fun j u hj => by
  have hlen := (List.getElem?_eq_some_iff.1 hj).1
  rw [rowCells_length] at hlen
  have hi : j / 7 < T.length := by omega
  have hx := List.getElem?_eq_getElem hi
  obtain ⟨⟨b, off, hA, hb, hc⟩, _⟩ := h _ _ hx
  have hq : j % 7 < (rawCells T[j / 7] (rs (j / 7))).size := by show j % 7 < 7; omega
  have hv := Array.getElem?_eq_getElem hq
  have e := rowCells_at hx _ _ hv
  rw [show j / 7 * 7 + j % 7 = j by omega, hj] at e
  obtain rfl := Option.some.inj e
  refine ⟨b, off, hA, hb, ?_⟩
  have := hc _ _ hv
  rwa [show off + j / 7 * 7 + j % 7 = off + j by omega] at this
/-- Trees, and one more behind them. -/
theorem own_more {w : World} {B k c : Nat} {A : Option Addr} {T : List Nd} {n : Nd} {rs : Nat → Raw} {r : Raw} (hk : k = T.length + 1) (h1 : w.ownsRow B 106 7 (.slice A k c) k (rowCells T rs ++ (rawCells n r).toList)) (hT : ∀ (i : Nat) (x : Nd), T[i]? = some x → NdAt w w.heap.size x (rs i)) (hn : NdAt w w.heap.size n r) :
    Trees w w.heap.size A (T ++ [n]) (putR rs T.length r) := by
  subst hk
  rw [← rowCells_putR] at h1
  refine own_trees h1 fun i x hx => ?_
  unfold putR
  rcases Nat.lt_or_ge i T.length with hl | hl
  · rw [List.getElem?_append_left hl] at hx
    rw [if_neg (by omega)]
    exact hT i x hx
  · rw [List.getElem?_append_right hl] at hx
    have hi : i - T.length = 0 := by
      rcases hd : i - T.length with _ | d
      · rfl
      · rw [hd] at hx; simp at hx
    rw [hi] at hx
    obtain rfl : n = x := by simpa using hx
    rw [if_pos (by omega)]
    exact hn
theorem one_cells (n : Nd) (r : Raw) : ∀ u ∈ (rawCells n r).toList, u.oneCell' = true := by
  have := rowCells_one [n] (fun _ => r)
  rwa [rowCells, rowCells, List.append_nil] at this
theorem node_news (w : World) (n : Nd) (r : Raw) : Lies (w.alloc (.cells (rawCells n r) 106)) (some ⟨w.heap.size, 0, none⟩) (rawCells n r).toList := fun j u hj =>
  ⟨w.heap.size, 0, rfl, by simp, by
    have := new_cell w (rawCells n r) 106 j
    rw [add_place, Nat.zero_add] at this
    rw [Nat.zero_add, this, ← Array.getElem?_toList]
    exact hj⟩
theorem lies_grown {w w' : World} {b : Nat} {xs : List Value} {row : Option Nat} (h : Lies w (some ⟨b, 0, none⟩) xs) (hb : b < w.heap.size) (hg : w.grownBy w' row) (hne : some b ≠ row) : Lies w' (some ⟨b, 0, none⟩) xs := fun j u hj => by
  obtain ⟨b', off, e1, e2, e3⟩ := h j u hj
  injection e1 with e1
  injection e1 with e1 e1'
  subst e1 e1'
  have hk := hg.block b hb hne
  exact ⟨b, 0, rfl, by
    have := World.block_lt_of_cell? w' _ ((World.cell?_of_block hk).trans e3)
    exact this, (World.cell?_of_block hk).trans e3⟩
theorem own_block_lt {w : World} {B size g n c k : Nat} {E : TypeId} {xs : List Value} (h : w.ownsRow B E size (.slice (some ⟨g, 0, none⟩) n c) k xs) : g < w.heap.size := by
  rcases h.2 with ⟨h0, _⟩ | ⟨g', cap, cur, h1, _, h3, _⟩
  · cases h0
  · injection h1 with h1
    injection h1 with h1
    injection h1 with h1
    subst h1
    exact lt_of_some h3
theorem mayB_less {T : List Nd} {n : Nd} (h : mayB (T ++ [n]) = true) : mayB T = true ∧ T.length ≤ 7 := by
  have h1 := mayB_len h
  rw [List.length_append, List.length_singleton] at h1
  exact ⟨mayB_yes (by omega) fun t ht => mayB_all h t (List.mem_append_left _ ht), by omega⟩
theorem hits_bound {R : List Nd} {s : ByteArray} {k l i : Int} {n : Nat} {b : Bool} (h : Hits R s k l i n b) : 0 ≤ l ∧ l ≤ R.length ∧ n ≤ R.length := by
  obtain ⟨Q, h1, h2⟩ := h
  rcases h2 with ⟨_, _, _, rfl, _, rfl⟩ | ⟨_, lv, nd, d, _, _, rfl, _, h3, rfl⟩
  · omega
  · obtain ⟨y, j, h4, _⟩ := top_of h3
    have := (List.getElem?_eq_some_iff.1 h4).1
    rw [List.length_take] at this
    have e1 := seenOf_len Q
    have e2 := h1.len
    rw [List.length_take] at e2
    refine ⟨by omega, by omega, ?_⟩
    split <;> omega
open Go.ChangeShapes Go.WideShapes in
theorem slice_tight {H : Type} {enc : TypeId × Value → H} {W : World} {base : Nat} {spare : Nat → Bool} {held : Bool} {t e : TypeId} (hu : Tryz.prog.underlying t = some (.slice e)) {fuel : Nat} {a0 : Option Addr} {len cap : Nat} {x : DataW H × List MemPlace} (h : DataW.trod enc Tryz.prog W base spare held fuel t [.slice a0 len cap] = some x) (hs : Sized t x.1) :
    len * Tryz.prog.bytesOf e ≤ reachBytes := by
  rcases DataW.trod_slice hu h with ⟨hc, _⟩ | ⟨a, l, c, elems, rest, n, _, hc, hx, _, hl, _, hlen, _⟩
  · simp at hc
    obtain ⟨rfl, rfl, rfl⟩ := hc
    rw [Nat.zero_mul]
    exact Nat.zero_le _
  · simp at hc
    obtain ⟨rfl, rfl, rfl⟩ := hc
    subst hx
    have hw := hs _ (by
      simp only [DataW.weights, hu]
      exact List.mem_cons_self ..)
    rw [List.length_map, List.length_map, hlen] at hw
    exact Nat.le_trans (Nat.mul_le_mul_right _ (Nat.le_add_right _ _)) hw
end Go.Proofs.YtdljogdegcmmiaaGreatDoor.seen
