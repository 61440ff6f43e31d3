/- How what is listed hangs together with what is looked up by name: of each first item the uppermost directory's entry. Plain words, no program's call. -/
import Derived.Test.YtdljogdegcmmiaaGreatDoorJY1
import Derived.Test.YtdljogdegcmmiaaGreatDoorJW11
namespace Go.Proofs.YtdljogdegcmmiaaGreatDoor.mrg
set_option maxRecDepth 100000
open Go.RowKit Go.Proofs.YtdljogdegcmmiaaGreatDoor.words Go.Proofs.YtdljogdegcmmiaaGreatDoor.ext Go.Proofs.YtdljogdegcmmiaaGreatDoor.name Go.Proofs.YtdljogdegcmmiaaGreatDoor.tre Go.Proofs.YtdljogdegcmmiaaGreatDoor.stk Go.Proofs.YtdljogdegcmmiaaGreatDoor.seen

theorem le_name {y x : heap.It} (h : heap.leI y x) : heap.ltB x.1 y.1 = false := by
  rcases hb : heap.ltB x.1 y.1 with _ | _
  · rfl
  · exact absurd (.inl hb) h
/-- A first item is the least one of its name. -/
theorem firstF_least : ∀ {l : List heap.It} {p : Option ByteArray}, l.Pairwise heap.leI → (∀ q, p = some q → ∀ x ∈ l, heap.ltB x.1 q = false) → ∀ x ∈ heap.firstF p l, ∀ z ∈ l, z.1 = x.1 → heap.leI x z
  | [], p, _, _, x, hx, _, _, _ => by cases hx
  | y :: l, p, h, hp, x, hx, z, hz, he => by
    obtain ⟨h1, h2⟩ := List.pairwise_cons.1 h
    have hy : ∀ q, some y.1 = some q → ∀ x ∈ l, heap.ltB x.1 q = false := fun q hq x hx => by
      injection hq with hq
      rw [← hq]
      exact le_name (h1 x hx)
    have hr := heap.firstF_ris h hp
    rw [heap.firstF] at hx hr
    by_cases hpy : p = some y.1
    · rw [if_pos hpy] at hx hr
      rcases List.mem_cons.1 hz with rfl | hz
      · have h3 := hr.1 _ hpy x hx
        rw [he, heap.ltB_self] at h3
        cases h3
      · exact firstF_least h2 (fun q hq x hx => hp q hq x (List.mem_cons_of_mem _ hx)) x hx z hz he
    · rw [if_neg hpy] at hx
      rcases List.mem_cons.1 hx with rfl | hx
      · rcases List.mem_cons.1 hz with rfl | hz
        · rintro (hc | ⟨_, hc⟩)
          · rw [heap.ltB_self] at hc; cases hc
          · exact absurd hc (Nat.lt_irrefl _)
        · exact h1 z hz
      · rcases List.mem_cons.1 hz with rfl | hz
        · have h3 := (heap.firstF_ris h2 hy).1 _ rfl x hx
          rw [he, heap.ltB_self] at h3
          cases h3
        · exact firstF_least h2 hy x hx z hz he
theorem first_top {D : List Nd} {out : List heap.It} (h : heap.Merged (rowsOf D) out) {x : heap.It} (hx : x ∈ heap.firsts out) : ∀ z ∈ D.take x.2, ∀ j : Nat, z.N[j]? ≠ some x.1 := fun z hz j hj => by
  obtain ⟨k, hk⟩ := List.mem_iff_getElem?.1 hz
  rw [List.getElem?_take] at hk
  split at hk
  · rename_i hlt
    have hm : ((x.1, k) : heap.It) ∈ heap.allF (rowsOf D) := heap.mem_allF.2 ⟨z.N, by unfold rowsOf; rw [List.getElem?_map, hk]; rfl, List.mem_of_getElem? hj⟩
    have hle := firstF_least h.2 (fun q hq => by cases hq) x hx (x.1, k) (h.1.symm.subset hm) rfl
    exact hle (.inr ⟨rfl, hlt⟩)
  · cases hk
/-- The uppermost entry of a name is the first one of them. -/
theorem ent_head {s : ByteArray} : ∀ {D Q : List Nd} {k i : Nat} {d y : Nd}, EntN s D Q → (∀ d ∈ D, Asc d.N) → D[k]? = some d → d.N[i]? = some s → d.I[i]? = some y → (∀ z ∈ D.take k, ∀ j : Nat, z.N[j]? ≠ some s) → Q[0]? = some y
  | [], Q, k, i, d, y, _, _, hk, _, _, _ => by simp at hk
  | c :: D, Q, k, i, d, y, ⟨o, Q', hh, hq, hr⟩, ha, hk, hi, hy, ht => by
    rcases k with _ | k
    · obtain rfl : c = d := by simpa using hk
      rcases hh with ⟨i', z, b1, b2, rfl⟩ | ⟨rfl, b1⟩
      · obtain rfl := (ha c (List.mem_cons_self ..)).one b1 hi
        rw [b2] at hy
        obtain rfl := Option.some.inj hy
        rw [hq]
        rfl
      · exact absurd hi (b1 i)
    · rw [List.take_succ_cons] at ht
      rcases hh with ⟨i', z, b1, b2, rfl⟩ | ⟨rfl, b1⟩
      · exact absurd b1 (ht c (List.mem_cons_self ..) i')
      · rw [hq]
        exact ent_head hr (fun d hd => ha d (List.mem_cons_of_mem _ hd)) (by simpa using hk) hi hy fun z hz => ht z (List.mem_cons_of_mem _ hz)
theorem seenOf_head {y : Nd} {Q : List Nd} (h : Q[0]? = some y) (hk : y.K ≠ 4) : (seenOf Q)[0]? = some y := by
  rcases Q with _ | ⟨x, Q⟩
  · simp at h
  · obtain rfl : x = y := by simpa using h
    by_cases h2 : x.K = 2
    · obtain ⟨e, hl⟩ := seenOf_dirs (D := Q) h2
      rw [e, List.getElem?_take_of_lt (by omega)]
      rfl
    · unfold seenOf
      simp only
      rw [if_neg hk, if_neg h2]
      rfl
theorem seenOf_white {y : Nd} {Q : List Nd} (h : Q[0]? = some y) (hk : y.K = 4) : seenOf Q = [] := by
  rcases Q with _ | ⟨x, Q⟩
  · simp at h
  · obtain rfl : x = y := by simpa using h
    unfold seenOf
    simp only
    rw [if_pos hk]
theorem top_at {P : List (Nat × Nat)} {D : List Nd} {s : ByteArray} {x : Nat × Nat} {k i : Nat} {d : Nd} (h : Top P D s x) (hk : D[k]? = some d) (hi : d.N[i]? = some s) (ht : ∀ z ∈ D.take k, ∀ j : Nat, z.N[j]? ≠ some s) : ∃ p, P[k]? = some p ∧ x.1 = p.1 := by
  obtain ⟨k', p, y', i', h1, h2, h3, h4, h5⟩ := h
  have e : k' = k := by
    rcases Nat.lt_trichotomy k' k with hlt | he | hgt
    · exact absurd h4 (ht y' (List.mem_of_getElem? (by rw [List.getElem?_take, if_pos hlt]; exact h3)) i')
    · exact he
    · exact absurd hi (h5 d (List.mem_of_getElem? (by rw [List.getElem?_take, if_pos hgt]; exact hk)) i)
  subst e
  exact ⟨p, h1, by rw [h2]⟩
/-- What is looked up of a first item's name. -/
def SawTop (P : List (Nat × Nat)) (k : Nat) (y : Nd) (w : World) (en : Ending) (w' : World) : Prop :=
  ((y.K = 4 ∧ en = .returned (.tuple #[foundV 0 0 0 none 0 0, .bool false])) ∨ (y.K ≠ 4 ∧ ∃ (p : Nat × Nat) (id : Int) (A : Option Addr) (n c : Nat), P[k]? = some p ∧ en = .returned (.tuple #[foundV y.K (p.1 : Int) id A n c, .bool true]))) ∧ Below w.heap.size w w'
theorem Saw.top {R : List Nd} {P : List (Nat × Nat)} {D Q' : List Nd} {s : ByteArray} {w w' : World} {en : Ending} {k i : Nat} {d y : Nd} (h : Saw R P D s Q' w en w') (hQ : EntN s D Q') (ha : ∀ d ∈ D, Asc d.N) (hk : D[k]? = some d) (hi : d.N[i]? = some s) (hy : d.I[i]? = some y) (ht : ∀ z ∈ D.take k, ∀ j : Nat, z.N[j]? ≠ some s) : SawTop P k y w en w' := by
  have hh := ent_head hQ ha hk hi hy ht
  refine ⟨?_, h.2⟩
  by_cases h4 : y.K = 4
  · have hs := seenOf_white hh h4
    rcases h.1 with ⟨_, rfl⟩ | ⟨x, d', h1, _⟩ | ⟨x, d', Q, A, c, h1, _⟩
    · exact .inl ⟨h4, rfl⟩
    · rw [hs] at h1; cases h1
    · rw [hs] at h1; simp at h1
  · have hs := seenOf_head hh h4
    rcases h.1 with ⟨h1, _⟩ | ⟨x, d', h1, _, _, htop, rfl⟩ | ⟨x, d', Q, A, c, h1, _, _, htop, _, _, _, _, rfl, _, _⟩
    · rw [h1] at hs; simp at hs
    · rw [h1] at hs
      obtain rfl : d' = y := by simpa using hs
      obtain ⟨p, hp, hx⟩ := top_at htop hk hi ht
      exact .inr ⟨h4, p, _, _, _, _, hp, by rw [hx]⟩
    · rw [h1] at hs
      obtain rfl := Option.some.inj hs
      obtain ⟨p, hp, hx⟩ := top_at htop hk hi ht
      exact .inr ⟨h4, p, _, _, _, _, hp, by rw [hx]⟩
/-- The names of what is listed are some of the first items'. -/
theorem Kinds.names {D : List Nd} : ∀ {F : List heap.It} {E : List (ByteArray × Int)}, Kinds D F E → (E.map Prod.fst).Sublist (F.map Prod.fst)
  | [], E, h => by
    have h' : E = [] := h
    subst h'
    exact List.Sublist.refl _
  | z :: F, E, ⟨_, _, y, E', _, _, _, q4, q5⟩ => by
    have ih := Kinds.names q5
    subst q4
    split
    · exact List.Sublist.cons _ ih
    · exact List.Sublist.cons_cons _ ih
theorem Kinds.ris {D : List Nd} {out : List heap.It} {E : List (ByteArray × Int)} (h : heap.Merged (rowsOf D) out) (hk : Kinds D (heap.firsts out) E) : heap.Ris (E.map Prod.fst) := List.Pairwise.sublist hk.names h.names.1
theorem Kinds.drop {D : List Nd} : ∀ {F : List heap.It} {E : List (ByteArray × Int)} {x : heap.It}, Kinds D (x :: F) E → ∃ (d : Nd) (i : Nat) (y : Nd) (E' : List (ByteArray × Int)), D[x.2]? = some d ∧ d.N[i]? = some x.1 ∧ d.I[i]? = some y ∧ E = (if y.K = 4 then [] else [(x.1, y.K)]) ++ E' ∧ Kinds D F E' := fun h => h
end Go.Proofs.YtdljogdegcmmiaaGreatDoor.mrg
