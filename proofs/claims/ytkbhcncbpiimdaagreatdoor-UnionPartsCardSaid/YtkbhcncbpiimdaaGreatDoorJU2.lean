/- In which tree, from above, what a path leads to stands: the first one that has all of its names. Conditions: the trees may be, and are directories. (Plain words only.) What is answered where a walk has led: union's Finish, in plain words. Conditions: the stack lies in memory, its trees may be, its numbers fall. -/
import Derived.Test.YtkbhcncbpiimdaaGreatDoorJXI
import Derived.Test.YtkbhcncbpiimdaaGreatDoorJU1
namespace Go.Proofs.YtkbhcncbpiimdaaGreatDoor.uni
set_option maxRecDepth 100000
open Go.RowKit Go.Proofs.YtkbhcncbpiimdaaGreatDoor.words Go.Proofs.YtkbhcncbpiimdaaGreatDoor.ext Go.Proofs.YtkbhcncbpiimdaaGreatDoor.name Go.Proofs.YtkbhcncbpiimdaaGreatDoor.tre Go.Proofs.YtkbhcncbpiimdaaGreatDoor.stk Go.Proofs.YtkbhcncbpiimdaaGreatDoor.seen Go.Proofs.YtkbhcncbpiimdaaGreatDoor.wlk

/-- A tree has names, as directories but the last one. -/
def Reach : Nd → List ByteArray → Nd → Prop
  | n, [], d => d = n
  | n, p :: ns, d => n.K = 2 ∧ ∃ m, Has n p (some m) ∧ Reach m ns d
theorem Reach.snoc {p : ByteArray} {m d : Nd} (hk : m.K = 2) (hh : Has m p (some d)) : ∀ {ns : List ByteArray} {n : Nd}, Reach n ns m → Reach n (ns ++ [p]) d
  | [], n, h => by
    have h' : m = n := h
    subst h'
    exact ⟨hk, d, hh, rfl⟩
  | q :: ns, n, ⟨h1, x, h2, h3⟩ => ⟨h1, x, h2, Reach.snoc hk hh h3⟩
theorem Reach.pre {p : ByteArray} {d : Nd} : ∀ {ns : List ByteArray} {n : Nd}, Reach n (ns ++ [p]) d → ∃ m, Reach n ns m ∧ m.K = 2 ∧ Has m p (some d)
  | [], n, ⟨h1, x, h2, h3⟩ => by
    have h' : d = x := h3
    subst h'
    exact ⟨n, rfl, h1, h2⟩
  | q :: ns, n, ⟨h1, x, h2, h3⟩ => by
    obtain ⟨m, g1, g2, g3⟩ := Reach.pre h3
    exact ⟨m, ⟨h1, x, h2, g1⟩, g2, g3⟩
theorem has_uniq {n : Nd} {p : ByteArray} {a b : Nd} (ha : Asc n.N) (h : Has n p (some a)) (h' : Has n p (some b)) : a = b := by
  rcases h with ⟨i, y, h1, h2, h3⟩ | ⟨h1, _⟩
  · rcases h' with ⟨j, z, g1, g2, g3⟩ | ⟨g1, _⟩
    · obtain rfl := Asc.one ha h1 g1
      rw [h2] at g2
      injection h3 with h3
      injection g3 with g3
      rw [h3, g3]
      exact Option.some.inj g2
    · cases g1
  · cases h1
theorem has_all {n : Nd} {p : ByteArray} {m : Nd} (hn : allB n = true) (h : Has n p (some m)) : allB m = true := by
  rcases h with ⟨i, y, h1, h2, h3⟩ | ⟨h1, _⟩
  · injection h3 with h3
    subst h3
    rw [allB_eq, Bool.and_eq_true] at hn
    exact allL_in hn.1 (List.mem_of_getElem? h2)
  · cases h1
theorem reach_uniq : ∀ {ns : List ByteArray} {n a b : Nd}, allB n = true → Reach n ns a → Reach n ns b → a = b
  | [], n, a, b, _, h, h' => by
    have e1 : a = n := h
    have e2 : b = n := h'
    rw [e1, e2]
  | p :: ns, n, a, b, hn, ⟨_, x, h2, h3⟩, ⟨_, y, g2, g3⟩ => by
    have ha := (one_right (allB_one hn)).1
    obtain rfl := has_uniq ha h2 g2
    exact reach_uniq (has_all hn h2) h3 g3
/-- A place holds the uppermost ones that have the names. -/
structure Lv (R : List Nd) (ns : List ByteArray) (P : List (Nat × Nat)) (D : List Nd) : Prop where
  ats : Ats R P D
  up : Up P
  has : ∀ (i : Nat) (x : Nat × Nat) (d : Nd), P[i]? = some x → D[i]? = some d → ∃ t, R[x.1]? = some t ∧ Reach t ns d
  all : ∀ (k : Nat) (t d : Nd), R[k]? = some t → Reach t ns d → (∃ x ∈ P, x.1 = k) ∨ ∀ x ∈ P, x.1 < k
theorem Lv.take {R : List Nd} {ns : List ByteArray} {P : List (Nat × Nat)} {D : List Nd} (h : Lv R ns P D) (n : Nat) : Lv R ns (P.take n) (D.take n) := by
  refine ⟨h.ats.take n, h.up.take n, fun i x d h1 h2 => ?_, fun k t d h1 h2 => ?_⟩
  · rw [List.getElem?_take] at h1 h2
    split at h1
    · rename_i hi
      rw [if_pos hi] at h2
      exact h.has i x d h1 h2
    · cases h1
  · rcases h.all k t d h1 h2 with ⟨x, hx, rfl⟩ | h3
    · obtain ⟨i, hi⟩ := List.getElem?_of_mem hx
      by_cases hin : i < n
      · exact .inl ⟨x, List.mem_of_getElem? (i := i) (by rw [List.getElem?_take_of_lt hin]; exact hi), rfl⟩
      · refine .inr fun y hy => ?_
        obtain ⟨j, hj⟩ := List.getElem?_of_mem hy
        rw [List.getElem?_take] at hj
        split at hj
        · exact h.up.lt (i := j) (j := i) (by omega) hj hi
        · cases hj
    · exact .inr fun x hx => h3 x (List.mem_of_mem_take hx)
theorem ents_has {R : List Nd} {p : ByteArray} : ∀ {P : List (Nat × Nat)} {D : List Nd} {Q0 : List (Nat × Nat)} {Q' : List Nd}, (∀ d ∈ D, d.N.length = d.I.length) → Ats R P D → EntsOf (tabs R) p P Q0 → EntN p D Q' →
    (∀ (i : Nat) (x' : Nat × Nat) (d : Nd), Q0[i]? = some x' → Q'[i]? = some d → ∃ (j : Nat) (x : Nat × Nat) (m : Nd), P[j]? = some x ∧ D[j]? = some m ∧ x.1 = x'.1 ∧ Has m p (some d)) ∧
    (∀ (j : Nat) (x : Nat × Nat) (m d : Nd), P[j]? = some x → D[j]? = some m → Has m p (some d) → ∃ x' ∈ Q0, x'.1 = x.1)
  | [], [], Q0, Q', _, _, h2, h3 => by
    have e1 : Q0 = [] := h2
    subst e1
    exact ⟨fun i x' d h => by simp at h, fun j x m d h => by simp at h⟩
  | x :: P, m :: D, Q0, Q', hl, ⟨h1, h1'⟩, ⟨e, o, Q1, h2, h3, h4, h5⟩, ⟨o', Q1', g3, g4, g5⟩ => by
    subst h4
    subst g4
    obtain ⟨k1, k2⟩ := ents_has (fun d hd => hl d (List.mem_cons_of_mem _ hd)) h1' h5 g5
    rw [h1.ent] at h2
    injection h2 with h2
    have hN : e.x.N = m.N := by rw [← h2]; exact alone_N m
    rcases h3 with ⟨i, id, a1, a2, rfl⟩ | ⟨rfl, a1⟩
    · rcases g3 with ⟨j, y, b1, b2, rfl⟩ | ⟨rfl, b1⟩
      · refine ⟨fun q x' d hq hd => ?_, fun j' x2 m2 d hx2 hm2 hh => ?_⟩
        · rcases q with _ | q
          · simp at hq hd
            subst hd
            exact ⟨0, x, m, rfl, rfl, by rw [← hq], .inl ⟨j, y, b1, b2, rfl⟩⟩
          · simp at hq hd
            obtain ⟨j2, x2, m2, c1, c2, c3⟩ := k1 q x' d hq hd
            exact ⟨j2 + 1, x2, m2, c1, c2, c3⟩
        · rcases j' with _ | j'
          · simp at hx2
            exact ⟨(x.1, id), by simp, by rw [← hx2]⟩
          · simp at hx2 hm2
            obtain ⟨x', c1, c2⟩ := k2 j' x2 m2 d hx2 hm2 hh
            exact ⟨x', List.mem_append_right _ c1, c2⟩
      · rw [hN] at a1
        exact absurd a1 (b1 i)
    · rcases g3 with ⟨j, y, b1, b2, rfl⟩ | ⟨rfl, b1⟩
      · rw [← hN] at b1
        exact absurd b1 (a1 j)
      · refine ⟨fun q x' d hq hd => ?_, fun j' x2 m2 d hx2 hm2 hh => ?_⟩
        · simp at hq hd
          obtain ⟨j2, x2, m2, c1, c2, c3⟩ := k1 q x' d hq hd
          exact ⟨j2 + 1, x2, m2, c1, c2, c3⟩
        · rcases j' with _ | j'
          · simp at hm2
            subst hm2
            rcases hh with ⟨i2, y2, d1, _, _⟩ | ⟨d1, _⟩
            · exact absurd d1 (b1 i2)
            · cases d1
          · simp at hx2 hm2
            obtain ⟨x', c1, c2⟩ := k2 j' x2 m2 d hx2 hm2 hh
            exact ⟨x', by simpa using c1, c2⟩
  | [], _ :: _, _, _, _, h, _, _ => h.elim
  | _ :: _, [], _, _, _, h, _, _ => h.elim
theorem Lv.step {R : List Nd} (hg : ∀ t ∈ R, allB t = true) {ns : List ByteArray} {P : List (Nat × Nat)} {D : List Nd} (h : Lv R ns P D) (hd : ∀ d ∈ D, d.K = 2) (hG : wlk.Good D) {p : ByteArray} {Q0 : List (Nat × Nat)} {Q' : List Nd} (h0 : EntsOf (tabs R) p P Q0) (hQ : EntN p D Q') :
    Lv R (ns ++ [p]) Q0 Q' := by
  obtain ⟨j1, j2, j3, j4⟩ := join hg h.ats h0 hQ
  obtain ⟨k1, k2⟩ := ents_has (fun d hd => (hG.asc d hd).2) h.ats h0 hQ
  refine ⟨j1, h.up.sub j2, fun i x d h1 h2 => ?_, fun k t d h1 h2 => ?_⟩
  · obtain ⟨j, x2, m, c1, c2, c3, c4⟩ := k1 i x d h1 h2
    obtain ⟨t, a1, a2⟩ := h.has j x2 m c1 c2
    rw [← c3]
    exact ⟨t, a1, a2.snoc (hd m (List.mem_of_getElem? c2)) c4⟩
  · obtain ⟨m, a1, a2, a3⟩ := h2.pre
    rcases h.all k t m h1 a1 with ⟨x, hx, hxk⟩ | h3
    · obtain ⟨i, hi⟩ := List.getElem?_of_mem hx
      obtain ⟨m', hm', _⟩ := h.ats.at_ hi
      obtain ⟨t', b1, b2⟩ := h.has i x m' hi hm'
      rw [hxk, h1] at b1
      injection b1 with b1
      subst b1
      obtain rfl := reach_uniq (hg t (List.mem_of_getElem? h1)) a1 b2
      obtain ⟨x', c1, c2⟩ := k2 i x m d hi hm' a3
      exact .inl ⟨x', c1, c2.trans hxk⟩
    · refine .inr fun x hx => ?_
      have : x.1 ∈ P.map Prod.fst := j2.subset (List.mem_map_of_mem hx)
      obtain ⟨y, hy, e⟩ := List.mem_map.1 this
      rw [← e]
      exact h3 y hy
theorem root_spot {R : List Nd} {k : Nat} {p : Nat × Nat} (h : (rootP (tabs R))[k]? = some p) : p = (k, 0) := by
  unfold rootP at h
  rw [List.getElem?_take] at h
  split at h
  · unfold roots at h
    rw [List.getElem?_map] at h
    obtain ⟨x, hx, rfl⟩ := Option.map_eq_some_iff.1 h
    rw [List.getElem?_range (by
      have := (List.getElem?_eq_some_iff.1 hx).1
      rwa [List.length_range] at this)] at hx
    rw [← Option.some.inj hx]
  · cases h
theorem Lv.root {R : List Nd} (hk : ∀ t ∈ R, t.K = 2) : Lv R [] (rootP (tabs R)) (D0 R) := by
  refine ⟨root_ats hk, root_up, fun i x d h1 h2 => ?_, fun k t d h1 _ => ?_⟩
  · obtain ⟨d', h3, t, h4, h5⟩ := (root_ats hk).at_ h1
    have e : D0 R = R.take (dirsN R) := rfl
    rw [e, h3] at h2
    injection h2 with h2
    subst h2
    have hx := root_spot h1
    rw [hx] at h5
    refine ⟨t, h4, ?_⟩
    rw [preN_eq] at h5
    injection h5 with h5
    exact h5.symm
  · by_cases hl : k < (rootP (tabs R)).length
    · have h2 : (rootP (tabs R))[k]? = some (rootP (tabs R))[k] := List.getElem?_eq_getElem hl
      refine .inl ⟨_, List.mem_of_getElem? h2, ?_⟩
      rw [root_spot h2]
    · refine .inr fun x hx => ?_
      obtain ⟨j, hj⟩ := List.getElem?_of_mem hx
      have := (List.getElem?_eq_some_iff.1 hj).1
      rw [root_spot hj]
      show j < k
      omega
/-- What is seen along names is directories, or one thing that is none. -/
theorem along_kind {R : List Nd} (hk : ∀ t ∈ R, t.K = 2) {ns : List ByteArray} {F : List Nd} (h : Along (D0 R) ns F) : (∀ d ∈ F, d.K = 2) ∨ ∃ d, F = [d] ∧ d.K ≠ 2 := by
  rcases List.eq_nil_or_concat ns with rfl | ⟨ms, p, rfl⟩
  · rw [Along_nil] at h
    rw [h]
    exact .inl fun d hd => hk d (List.mem_of_mem_take hd)
  · rw [List.concat_eq_append] at h
    obtain ⟨E, Q, _, _, rfl⟩ := h.pre
    rcases Q with _ | ⟨d, Q⟩
    · exact .inl fun d hd => by simp [seenOf] at hd
    · by_cases h4 : d.K = 4
      · refine .inl fun x hx => ?_
        unfold seenOf at hx
        simp only at hx
        rw [if_pos h4] at hx
        cases hx
      · by_cases h2 : d.K = 2
        · refine .inl fun x hx => ?_
          unfold seenOf at hx
          simp only at hx
          rw [if_neg h4, if_pos h2] at hx
          exact head_dirs _ x (List.mem_of_mem_take hx)
        · refine .inr ⟨d, ?_, h2⟩
          unfold seenOf
          simp only
          rw [if_neg h4, if_neg h2]
          rfl
theorem leaf_none {d : Nd} (h : oneB d = true) (hk : d.K ≠ 2) : d.N = [] := by
  have key : noneB d = true → d.N = [] := fun hn => by
    unfold noneB at hn
    simp at hn
    exact hn.1.2
  unfold oneB at h
  by_cases h1 : d.K = 1
  · rw [if_pos h1] at h
    simp at h
    exact key h.1.1
  rw [if_neg h1, if_neg hk] at h
  by_cases h3 : d.K = 3
  · rw [if_pos h3] at h
    simp at h
    exact key h.1.1
  rw [if_neg h3] at h
  by_cases h4 : d.K = 4
  · rw [if_pos h4] at h
    simp at h
    exact key h.1.1
  rw [if_neg h4] at h
  cases h
/-- Where something is seen by a name, it is looked for in directories. -/
theorem pre_dirs {R : List Nd} (hg : ∀ t ∈ R, allB t = true) (hk : ∀ t ∈ R, t.K = 2) {ns : List ByteArray} {F Q' : List Nd} {p : ByteArray} (h : Along (D0 R) ns F) (hQ : EntN p F Q') (hne : Q' ≠ []) : (∀ d ∈ F, d.K = 2) ∧ F ≠ [] := by
  rcases along_kind hk h with h1 | ⟨d, rfl, h1⟩
  · refine ⟨h1, fun e => ?_⟩
    subst e
    exact hne hQ
  · exfalso
    have hN := leaf_none ((h.good (wlk.Good.root hg)).one (List.mem_cons_self ..)) h1
    obtain ⟨o, Q1, h2, rfl, h3⟩ := hQ
    have h3' : Q1 = [] := h3
    subst h3'
    rcases h2 with ⟨i, y, a1, _, _⟩ | ⟨rfl, _⟩
    · rw [hN] at a1; simp at a1
    · exact hne rfl
theorem lev_dirs {R : List Nd} (hg : ∀ t ∈ R, allB t = true) (hk : ∀ t ∈ R, t.K = 2) : ∀ {rs : List ByteArray} {Q : List (Nat × Nat)} {D : List Nd}, PlR R rs Q → Along (D0 R) rs.reverse D → (∀ d ∈ D, d.K = 2) → D ≠ [] → Lv R rs.reverse Q D
  | [], Q, D, h, ha, _, _ => by
    have e1 : Q = rootP (tabs R) := h
    have e2 : D = D0 R := ha
    rw [e1, e2]
    exact Lv.root hk
  | p :: rs, Q, D, ⟨P, Q0, h1, h2, h3⟩, ha, hd, hne => by
    rw [List.reverse_cons] at ha ⊢
    obtain ⟨F, Q', g1, g2, rfl⟩ := ha.pre
    rcases Q' with _ | ⟨d, Q'⟩
    · exact absurd rfl hne
    obtain ⟨f1, f2⟩ := pre_dirs hg hk g1 g2 (by simp)
    have L0 := lev_dirs hg hk h1 g1 f1 f2
    have L1 := L0.step hg f1 (g1.good (wlk.Good.root hg)) h2 g2
    have hd2 : d.K = 2 := by
      by_cases h4 : d.K = 4
      · exfalso
        apply hne
        unfold seenOf
        simp only
        rw [if_pos h4]
      · by_cases h22 : d.K = 2
        · exact h22
        · refine hd d ?_
          unfold seenOf
          simp only
          rw [if_neg h4, if_neg h22]
          exact List.mem_cons_self ..
    obtain ⟨s1, _⟩ := seenOf_dirs (D := Q') hd2
    rw [h3, s1, oneN_dirs L1.ats]
    exact L1.take _
/-- In which tree it is. -/
def LevI (R : List Nd) (ns : List ByteArray) (z : Int) : Prop :=
  (∃ k : Nat, z = (k : Int) ∧ (∃ t d, R[k]? = some t ∧ Reach t ns d) ∧ ∀ j, j < k → ∀ t d, R[j]? = some t → ¬ Reach t ns d) ∨ (z = -1 ∧ ∀ (j : Nat) t d, R[j]? = some t → ¬ Reach t ns d)
theorem LevI.uniq {R : List Nd} {ns : List ByteArray} {z z' : Int} (h : LevI R ns z) (h' : LevI R ns z') : z = z' := by
  rcases h with ⟨k, rfl, ⟨t, d, h1, h2⟩, h3⟩ | ⟨rfl, h3⟩
  · rcases h' with ⟨k', rfl, ⟨t', d', h1', h2'⟩, h3'⟩ | ⟨rfl, h3'⟩
    · rcases Nat.lt_trichotomy k k' with h | h | h
      · exact absurd h2 (h3' k h t d h1)
      · rw [h]
      · exact absurd h2' (h3 k' h t' d' h1')
    · exact absurd h2 (h3' k t d h1)
  · rcases h' with ⟨k', rfl, ⟨t', d', h1', h2'⟩, _⟩ | ⟨rfl, _⟩
    · exact absurd h2' (h3 k' t' d' h1')
    · rfl
theorem Lv.first {R : List Nd} {ns : List ByteArray} {P : List (Nat × Nat)} {D : List Nd} (h : Lv R ns P D) {x : Nat × Nat} (hx : P[0]? = some x) : LevI R ns (x.1 : Int) := by
  obtain ⟨d, h1, _⟩ := h.ats.at_ hx
  obtain ⟨t, h2, h3⟩ := h.has 0 x d hx h1
  refine .inl ⟨x.1, rfl, ⟨t, d, h2, h3⟩, fun j hj t' d' h4 h5 => ?_⟩
  rcases h.all j t' d' h4 h5 with ⟨y, hy, rfl⟩ | h6
  · obtain ⟨i, hi⟩ := List.getElem?_of_mem hy
    rcases i with _ | i
    · rw [hx] at hi
      injection hi with hi
      subst hi
      omega
    · have := h.up.lt (i := 0) (j := i + 1) (by omega) hx hi
      omega
  · have := h6 x (List.mem_of_getElem? hx)
    omega
/-- What a walk has led to: where it lies, and in which tree. -/
theorem lev_of {R : List Nd} (hg : ∀ t ∈ R, allB t = true) (hk : ∀ t ∈ R, t.K = 2) {t : Tg} {ns : List ByteArray} {d : Nd} {E : List Nd} (hH : Hold R t (d :: E)) (hS : Spt R ns t) (hA : Along (D0 R) ns (d :: E)) :
    ∃ lv nd : Nat, t.l = (lv : Int) ∧ t.i = (nd : Int) ∧ At R (lv, nd) d ∧ t.K = d.K ∧ LevI R ns (lv : Int) := by
  rcases hH with ⟨h1, h2, h3, h4, h5, h6⟩ | ⟨lv, nd, d', h1, h2, h3, h4, h5, h6, h7⟩
  · rcases hS with ⟨_, s2, s3, s4⟩ | ⟨s1, _⟩
    · have hL := lev_dirs hg hk (rs := ns.reverse) s2 (by rw [List.reverse_reverse]; exact hA) h1 (by simp)
      rw [List.reverse_reverse] at hL
      rcases hQ : t.Q with _ | ⟨⟨lv, nd⟩, Q⟩
      · rw [hQ] at h3; exact h3.elim
      · rw [hQ] at h3 h5 h6 hL
        exact ⟨lv, nd, h5, h6, h3.1, by rw [h2]; exact (h1 d (List.mem_cons_self ..)).symm, hL.first rfl⟩
    · exact absurd h2 s1
  · injection h1 with e1 e2
    subst e1
    rcases hS with ⟨s1, _⟩ | ⟨_, _, ms, p, P, Q0, x, rfl, s3, s4, s5, s6, s7⟩
    · rw [h4] at s1
      rcases h2 with h | h <;> omega
    · obtain ⟨F, Q', g1, g2, g3⟩ := hA.pre
      rcases Q' with _ | ⟨d', Q'⟩
      · simp [seenOf] at g3
      obtain ⟨f1, f2⟩ := pre_dirs hg hk g1 g2 (by simp)
      have L0 := lev_dirs hg hk (rs := ms.reverse) s3 (by rw [List.reverse_reverse]; exact g1) f1 f2
      rw [List.reverse_reverse] at L0
      have L1 := (L0.step hg f1 (g1.good (wlk.Good.root hg)) s4 g2).first s5
      have e1 : lv = x.1 := by omega
      exact ⟨lv, nd, h5, h6, h3, h4, by rw [e1]; exact L1⟩
end Go.Proofs.YtkbhcncbpiimdaaGreatDoor.uni

namespace Go.Proofs.YtkbhcncbpiimdaaGreatDoor.uni
set_option maxRecDepth 100000
open Go.RowKit Go.Proofs.YtkbhcncbpiimdaaGreatDoor.words Go.Proofs.YtkbhcncbpiimdaaGreatDoor.ext Go.Proofs.YtkbhcncbpiimdaaGreatDoor.name Go.Proofs.YtkbhcncbpiimdaaGreatDoor.tre Go.Proofs.YtkbhcncbpiimdaaGreatDoor.stk Go.Proofs.YtkbhcncbpiimdaaGreatDoor.seen Go.Proofs.YtkbhcncbpiimdaaGreatDoor.wlk

def dirN : Nd := .mk 2 false [] [] 0 [] ⟨#[]⟩
/-- What lies uppermost; a directory without anything, where nothing does. -/
def hdN : List Nd → Nd
  | [] => dirN
  | d :: _ => d
/-- An answer. -/
structure An where
  e : Int
  k : Int
  z : Int
  wh : Int
  x : List UInt8
def whI (n l : Int) : Int := if l < 0 then -1 else n - 1 - l
/-- What is answered where something is. -/
def ansF (n l : Int) (d : Nd) (k o m : Int) : An :=
  if k = 1 then ⟨0, d.K, 0, whI n l, []⟩ else if k = 2 then ⟨0, d.K, d.S, 0, []⟩ else if k = 3 then (if d.K = 3 then ⟨0, 0, 0, 0, d.T.data.toList⟩ else ⟨1, 0, 0, 0, []⟩) else (if d.K = 2 then ⟨5, 0, 0, 0, []⟩ else ⟨0, 0, 0, 0, readB d.S d.E o m⟩)
/-- What is answered. -/
def ansO (n l : Int) (O : AtO) (k o m : Int) : An := match O with
  | .err j => ⟨j, 0, 0, 0, []⟩
  | .ok _ E => ansF n l (hdN E) k o m
def ansM (n l : Int) (O : AtO) (k o m : Int) : An := if isB k = false ∨ badB k o m = true then ⟨1, 0, 0, 0, []⟩ else ansO n l O k o m
/-- It is handed back. -/
def Res (a : An) (e : Ending) : Prop := ∃ x : ByteArray, e = .returned (resV a.e a.k a.z a.wh x) ∧ x.data.toList = a.x
theorem d0_nil {R : List Nd} (h : D0 R = []) : R = [] := by
  rcases R with _ | ⟨t, R⟩
  · rfl
  · exfalso
    unfold D0 dirsN at h
    split at h <;> simp at h
theorem isB_of {k : Int} (h : isB k = true) : k = 1 ∨ k = 2 ∨ k = 3 ∨ k = 4 := by
  unfold isB at h
  simp at h
  omega
/-- The numbers of a stack's branches fall. -/
def Falls (L : List (Nat × Int)) : Prop := ∀ (j : Nat) (x : Nat × Int), L[j]? = some x → x.2 = (L.length : Int) - 1 - j
theorem fin_of {R : List Nd} (hg : ∀ t ∈ R, allB t = true) (hk : ∀ t ∈ R, t.K = 2) (A : Option Addr) (c : Nat) (ad : Int) (L : List (Nat × Int)) {w : World} (hst : StkM w A L (tabs R)) (hL : Falls L) {t : Tg} {ns : List ByteArray} {E : List Nd} (hH : Hold R t E) (hS : Spt R ns t) (hA : Along (D0 R) ns E) (hne : ns ≠ [] → E ≠ []) {l : Int} (hl : LevI R ns l)
    {k o m : Int} (hi : isB k = true) (p : ByteArray) (id : Int) (img : ByteArray) (ho1 : -9223372036854775808 ≤ o) (ho2 : o ≤ 9223372036854775807) (hm1 : -9223372036854775808 ≤ m) (hm2 : m ≤ 9223372036854775807) (Aq : Option Addr) (cq : Nat) :
    Calls Tryz.prog 22 #[stkV A L.length c ad, opV k p o m id img, tgA t.S t.K t.l t.i Aq t.Q.length cq] w fun e w' => Res (ansF (R.length : Int) l (hdN E) k o m) e ∧ Below w.heap.size w w' := by
  have hLR : L.length = R.length := by rw [← hst.es, tabs_length]
  have key : ∃ (v : Option Addr) (K wh z : Int), t.K = (hdN E).K ∧ AtC A L.length c ad t.l v w ∧ IdC A L.length c ad t.l (whI (R.length : Int) l) w ∧
      (∀ w' : World, Below w.heap.size w w' → Calls Tryz.prog 53 #[.agg #[.slice A L.length c, .int .i64 ad], .agg #[.string t.S, .int .i64 t.K, .int .i64 t.l, .int .i64 t.i, .slice Aq t.Q.length cq]] w' fun e w'' => e = .returned (.int .i64 (hdN E).S) ∧ Below w'.heap.size w' w'') ∧
      ((hdN E).K ≠ 2 → ∃ y, v = some ⟨y, 0, none⟩ ∧ NodeC y t.i (hdN E) w) := by
    rcases E with _ | ⟨d, E⟩
    · have hns : ns = [] := by
        rcases ns with _ | ⟨n, ns⟩
        · rfl
        · exact absurd rfl (hne (by simp))
      subst hns
      have hR : R = [] := d0_nil (by rw [Along_nil] at hA; exact hA.symm)
      subst hR
      have hL0 : L = [] := List.eq_nil_of_length_eq_zero hLR
      subst hL0
      have hK : t.K = 2 := by
        rcases hH with h | ⟨_, _, _, h, _⟩
        · exact h.2.1
        · cases h
      have hl1 : l = -1 := by
        rcases hl with ⟨k, _, ⟨t, d, h, _⟩, _⟩ | ⟨h, _⟩
        · simp at h
        · exact h
      have hAt : AtC A ([] : List (Nat × Int)).length c ad t.l none w := fun w' hb => sat_no A 0 c t.l ad w' (by omega)
      refine ⟨none, 0, 0, 0, hK, hAt, fun w' hb => ?_, fun w' hb => ?_, fun h => absurd rfl h⟩
      · rw [hl1]
        exact sid_no A 0 c t.l ad w' (by omega)
      · exact size_no A 0 c ad t.S t.K t.l t.i Aq t.Q.length cq w' (hAt.later hb)
    · obtain ⟨lv, nd, h1, h2, h3, h4, h5⟩ := lev_of hg hk hH hS hA
      have hll := h5.uniq hl
      subst hll
      have h3c := h3
      obtain ⟨t', ht, htd⟩ := h3c
      have hE' := tabs_at ht
      have hEe : (flatN 0 t')[nd]? = some (entOf nd d) := flat_at htd
      obtain ⟨y, hy⟩ : ∃ y, L[lv]? = some y := ⟨_, List.getElem?_eq_getElem (by rw [← hst.es]; exact (List.getElem?_eq_some_iff.1 hE').1)⟩
      have hone := h3.one hg
      have hAt : AtC A L.length c ad t.l (some ⟨y.1, 0, none⟩) w := fun w' hb => by
        rw [h1]
        exact sat_yes A L.length c lv ad L y w' (hst.later hb).rows rfl hy
      have hN : NodeC y.1 t.i d w := fun w' hb => by
        have hB := (hst.later hb).brs lv y _ hy hE'
        rw [h2]
        refine ⟨(bsize_yes y.1 nd _ _ w' hB hEe).mono fun _ _ ⟨he, hw⟩ => ⟨by rw [he, show (entOf nd d).x.S = d.S from alone_S d], hw⟩, (btarget_yes y.1 nd _ _ w' hB hEe).mono fun _ _ ⟨he, hw⟩ => ⟨by rw [he, show (entOf nd d).x.T = d.T from alone_T d], hw⟩, fun off n a1 a2 a3 a4 => ?_⟩
        have h6 := bread_yes y.1 nd _ (entOf nd d) off n w' hB hEe (by rw [show (entOf nd d).x.S = d.S from alone_S d, show (entOf nd d).x.E = d.E from alone_E d]; exact (one_right hone).2.2) a1 a2 a3 a4
        rw [show (entOf nd d).x.S = d.S from alone_S d, show (entOf nd d).x.E = d.E from alone_E d] at h6
        exact h6
      refine ⟨_, 0, 0, 0, h4, hAt, fun w' hb => ?_, fun w' hb => ?_, fun _ => ⟨y.1, rfl, hN⟩⟩
      · have h6 := sid_yes A L.length c lv ad L y w' (hst.later hb).rows rfl hy
        rw [hL lv y hy, hLR] at h6
        unfold whI
        rw [if_neg (by omega), h1, ← hLR]
        rw [hLR]
        exact h6
      · exact size_yes A L.length c ad t.S t.K t.l t.i Aq t.Q.length cq w' y.1 d (hAt.later hb) (hN.later hb)
  obtain ⟨v, _, _, _, hK, hAt, hId, hSz, hNd⟩ := key
  have hx0 : (⟨#[]⟩ : ByteArray).data.toList = [] := rfl
  rcases isB_of hi with rfl | rfl | rfl | rfl
  · refine (fin_1 A L.length c ad p o m id img t.S t.K t.l t.i Aq t.Q.length cq w _ hId).mono fun e w' ⟨h1, h2⟩ => ⟨⟨_, ?_, hx0⟩, h2⟩
    rw [h1, hK]
    rfl
  · refine (fin_2 A L.length c ad p o m id img t.S t.K t.l t.i Aq t.Q.length cq w _ hSz).mono fun e w' ⟨h1, h2⟩ => ⟨⟨_, ?_, hx0⟩, h2⟩
    rw [h1, hK]
    rfl
  · by_cases h3 : (hdN E).K = 3
    · obtain ⟨y, rfl, hN⟩ := hNd (by omega)
      rw [h3] at hK
      rw [hK] at hSz ⊢
      refine (fin_3 A L.length c ad p o m id img t.S 3 t.l t.i Aq t.Q.length cq w 0 (fun x => x = (hdN E).T) (fun w' hb => (rlink_yes A L.length c ad t.S t.l t.i Aq t.Q.length cq w' y (hdN E) (hAt.later hb) (hN.later hb)).mono fun e w'' ⟨h1, h2⟩ => ⟨⟨_, h1, rfl⟩, h2⟩)).mono fun e w' ⟨⟨x, h1, h4⟩, h2⟩ => ⟨?_, h2⟩
      have e1 : ansF (R.length : Int) l (hdN E) 3 o m = ⟨0, 0, 0, 0, (hdN E).T.data.toList⟩ := by unfold ansF; rw [if_neg (by decide), if_neg (by decide), if_pos rfl, if_pos h3]
      rw [e1]
      exact ⟨x, h1, by rw [h4]⟩
    · refine (fin_3 A L.length c ad p o m id img t.S t.K t.l t.i Aq t.Q.length cq w 1 (fun x => x = ⟨#[]⟩) (fun w' hb => (rlink_no A L.length c ad t.S t.K t.l t.i Aq t.Q.length cq w' v (hAt.later hb) (by rw [hK]; exact h3)).mono fun e w'' ⟨h1, h2⟩ => ⟨⟨_, h1, rfl⟩, h2⟩)).mono fun e w' ⟨⟨x, h1, h4⟩, h2⟩ => ⟨?_, h2⟩
      have e1 : ansF (R.length : Int) l (hdN E) 3 o m = ⟨1, 0, 0, 0, []⟩ := by unfold ansF; rw [if_neg (by decide), if_neg (by decide), if_pos rfl, if_neg h3]
      rw [e1]
      exact ⟨x, h1, by rw [h4]⟩
  · by_cases h3 : (hdN E).K = 2
    · rw [h3] at hK
      rw [hK]
      refine (fin_4 A L.length c ad p o m id img t.S 2 t.l t.i Aq t.Q.length cq w 5 (fun x => x = ⟨#[]⟩) (fun w' hb => (rat_no A L.length c ad 4 p o m id img t.S t.l t.i Aq t.Q.length cq w').mono fun e w'' ⟨h1, h2⟩ => ⟨⟨_, h1, rfl⟩, h2⟩)).mono fun e w' ⟨⟨x, h1, h4⟩, h2⟩ => ⟨?_, h2⟩
      have e1 : ansF (R.length : Int) l (hdN E) 4 o m = ⟨5, 0, 0, 0, []⟩ := by unfold ansF; rw [if_neg (by decide), if_neg (by decide), if_neg (by decide), if_pos h3]
      rw [e1]
      exact ⟨x, h1, by rw [h4]⟩
    · obtain ⟨y, rfl, hN⟩ := hNd h3
      refine (fin_4 A L.length c ad p o m id img t.S t.K t.l t.i Aq t.Q.length cq w 0 (fun x => x.data.toList = readB (hdN E).S (hdN E).E o m) (fun w' hb => (rat_yes A L.length c ad 4 p o m id img t.S t.K t.l t.i Aq t.Q.length cq w' y (hdN E) (hAt.later hb) (hN.later hb) (by rw [hK]; exact h3) ho1 ho2 hm1 hm2))).mono fun e w' ⟨⟨x, h1, h4⟩, h2⟩ => ⟨?_, h2⟩
      have e1 : ansF (R.length : Int) l (hdN E) 4 o m = ⟨0, 0, 0, 0, readB (hdN E).S (hdN E).E o m⟩ := by unfold ansF; rw [if_neg (by decide), if_neg (by decide), if_neg (by decide), if_neg h3]
      rw [e1]
      exact ⟨x, h1, h4⟩
end Go.Proofs.YtkbhcncbpiimdaaGreatDoor.uni
