/- What the reference's insert answers: a rising row with one name more, or the row itself. Condition: texts as they are read. How what is listed hangs together with what is looked up by name: of each first item the uppermost directory's entry. Plain words, no program's call. What the reference's List answers: of each name that a tree has what is seen of it. Conditions: the trees lie in memory, rising; texts as they are read. What is listed is seen, and is what the reference lists. No program. -/
import Derived.Test.YtkbhcncbpiimdaaGreatDoorJM2
import Derived.Test.YtkbhcncbpiimdaaGreatDoorJW4
import Derived.Test.YtkbhcncbpiimdaaGreatDoorJM1
namespace Go.Proofs.YtkbhcncbpiimdaaGreatDoor.mrg
set_option maxRecDepth 100000
open Go.RowKit Go.Proofs.YtkbhcncbpiimdaaGreatDoor.words Go.Proofs.YtkbhcncbpiimdaaGreatDoor.ext Go.Proofs.YtkbhcncbpiimdaaGreatDoor.name Go.Proofs.YtkbhcncbpiimdaaGreatDoor.tre Go.Proofs.YtkbhcncbpiimdaaGreatDoor.stk Go.Proofs.YtkbhcncbpiimdaaGreatDoor.seen

/-- A name put where it belongs. -/
def insL (s : ByteArray) : List ByteArray → List ByteArray
  | [] => [s]
  | x :: l => if x = s then x :: l else if heap.ltB s x = true then s :: x :: l else x :: insL s l
theorem insL_mem {s : ByteArray} : ∀ {l : List ByteArray} {x : ByteArray}, x ∈ insL s l ↔ x = s ∨ x ∈ l
  | [], x => by simp [insL]
  | y :: l, x => by
    have ih := insL_mem (s := s) (l := l) (x := x)
    unfold insL
    split
    · rename_i h
      subst h
      simp
    · split
      · simp
      · rw [List.mem_cons, ih, List.mem_cons]
        constructor
        · rintro (h | h | h)
          · exact .inr (.inl h)
          · exact .inl h
          · exact .inr (.inr h)
        · rintro (h | h | h)
          · exact .inr (.inl h)
          · exact .inl h
          · exact .inr (.inr h)
theorem insL_ris {s : ByteArray} : ∀ {l : List ByteArray}, heap.Ris l → heap.Ris (insL s l)
  | [], _ => List.pairwise_singleton _ _
  | y :: l, h => by
    obtain ⟨h1, h2⟩ := List.pairwise_cons.1 h
    unfold insL
    split
    · exact h
    · rename_i hne
      split
      · rename_i hlt
        refine List.pairwise_cons.2 ⟨fun z hz => ?_, h⟩
        rcases List.mem_cons.1 hz with rfl | hz
        · exact hlt
        · exact heap.ltB_trans hlt (h1 z hz)
      · rename_i hlt
        refine List.pairwise_cons.2 ⟨fun z hz => ?_, insL_ris h2⟩
        rcases insL_mem.1 hz with rfl | hz
        · rcases heap.ltB_tri y z with h3 | h3 | h3
          · exact h3
          · exact absurd h3 hne
          · exact absurd h3 hlt
        · exact h1 z hz
def InsOut (w : World) (l : List ByteArray) (s : ByteArray) (e : Ending) (w' : World) : Prop :=
  (∃ A' c' N', e = .returned (.slice A' N'.length c') ∧ heap.Ris N' ∧ (∀ x, x ∈ N' ↔ x = s ∨ x ∈ l) ∧ N'.length ≤ l.length + 1 ∧ heap.Row w' w'.heap.size A' N') ∧ Below w.heap.size w w'
/-- What is put so far, and what is still to come. -/
def InsI (s : ByteArray) (l O : List ByteArray) (k : Nat) (b : Bool) : Prop := insL s l = O ++ (if b then l.drop k else insL s (l.drop k))
theorem drop_at {l : List ByteArray} {k : Nat} {x : ByteArray} (hx : l[k]? = some x) : l.drop k = x :: l.drop (k + 1) := by
  obtain ⟨hkl, hxx⟩ := List.getElem?_eq_some_iff.1 hx
  rw [List.drop_eq_getElem_cons hkl, hxx]
theorem InsI.on {s x : ByteArray} {l O : List ByteArray} {k : Nat} (h : InsI s l O k true) (hx : l[k]? = some x) : InsI s l (O ++ [x]) (k + 1) true := by
  unfold InsI at *
  rw [h, if_pos rfl, if_pos rfl, drop_at hx]
  simp
theorem InsI.put {s x : ByteArray} {l O : List ByteArray} {k : Nat} (h : InsI s l O k false) (hx : l[k]? = some x) (hne : x ≠ s) (hlt : heap.ltB s x = true) : InsI s l (O ++ [s] ++ [x]) (k + 1) true := by
  unfold InsI at *
  rw [h, if_neg (by decide), if_pos rfl, drop_at hx, insL, if_neg hne, if_pos hlt]
  simp
theorem InsI.skip {s x : ByteArray} {l O : List ByteArray} {k : Nat} (h : InsI s l O k false) (hx : l[k]? = some x) (hne : x ≠ s) (hlt : heap.ltB s x = false) : InsI s l (O ++ [x]) (k + 1) false := by
  unfold InsI at *
  rw [h, if_neg (by decide), if_neg (by decide), drop_at hx, insL, if_neg hne, if_neg (by rw [hlt]; decide)]
  simp
theorem InsI.fin {s : ByteArray} {l O : List ByteArray} (h : InsI s l O l.length true) : insL s l = O := by
  unfold InsI at h
  rw [h, if_pos rfl, List.drop_length]
  simp
theorem InsOut.of {w w' : World} {l O : List ByteArray} {s : ByteArray} {v : Value} (hr : heap.Ris l) (he : insL s l = O) (hl : O.length ≤ l.length + 1) (ho : w'.ownsRow w.heap.size 9 1 v O.length (O.map Value.string)) (hb : Below w.heap.size w w') : InsOut w l s (.returned v) w' := by
  obtain ⟨A, c, rfl, _, _⟩ := own_facts ho
  subst he
  exact ⟨⟨A, c, _, rfl, insL_ris hr, fun x => insL_mem, hl, row_own ho⟩, hb⟩
end Go.Proofs.YtkbhcncbpiimdaaGreatDoor.mrg

namespace Go.Proofs.YtkbhcncbpiimdaaGreatDoor.mrg
set_option maxRecDepth 100000
open Go.RowKit Go.Proofs.YtkbhcncbpiimdaaGreatDoor.words Go.Proofs.YtkbhcncbpiimdaaGreatDoor.ext Go.Proofs.YtkbhcncbpiimdaaGreatDoor.name Go.Proofs.YtkbhcncbpiimdaaGreatDoor.tre Go.Proofs.YtkbhcncbpiimdaaGreatDoor.stk Go.Proofs.YtkbhcncbpiimdaaGreatDoor.seen

theorem le_name {y x : heap.It} (h : heap.leI y x) : heap.ltB x.1 y.1 = false := by
  rcases hb : heap.ltB x.1 y.1 with _ | _
  · rfl
  · exact absurd (.inl hb) h
/-- A first item is the least one of its name. -/
theorem firstF_least : ∀ {l : List heap.It} {p : Option ByteArray}, l.Pairwise heap.leI → (∀ q, p = some q → ∀ x ∈ l, heap.ltB x.1 q = false) → ∀ x ∈ heap.firstF p l, ∀ z ∈ l, z.1 = x.1 → heap.leI x z
  | [], p, _, _, x, hx, _, _, _ => by cases hx
  | y :: l, p, h, hp, x, hx, z, hz, he => by
    obtain ⟨h1, h2⟩ := List.pairwise_cons.1 h
    have hy : ∀ q, some y.1 = some q → ∀ x ∈ l, heap.ltB x.1 q = false := fun q hq x hx => by
      injection hq with hq
      rw [← hq]
      exact le_name (h1 x hx)
    have hr := heap.firstF_ris h hp
    rw [heap.firstF] at hx hr
    by_cases hpy : p = some y.1
    · rw [if_pos hpy] at hx hr
      rcases List.mem_cons.1 hz with rfl | hz
      · have h3 := hr.1 _ hpy x hx
        rw [he, heap.ltB_self] at h3
        cases h3
      · exact firstF_least h2 (fun q hq x hx => hp q hq x (List.mem_cons_of_mem _ hx)) x hx z hz he
    · rw [if_neg hpy] at hx
      rcases List.mem_cons.1 hx with rfl | hx
      · rcases List.mem_cons.1 hz with rfl | hz
        · rintro (hc | ⟨_, hc⟩)
          · rw [heap.ltB_self] at hc; cases hc
          · exact absurd hc (Nat.lt_irrefl _)
        · exact h1 z hz
      · rcases List.mem_cons.1 hz with rfl | hz
        · have h3 := (heap.firstF_ris h2 hy).1 _ rfl x hx
          rw [he, heap.ltB_self] at h3
          cases h3
        · exact firstF_least h2 hy x hx z hz he
theorem first_top {D : List Nd} {out : List heap.It} (h : heap.Merged (rowsOf D) out) {x : heap.It} (hx : x ∈ heap.firsts out) : ∀ z ∈ D.take x.2, ∀ j : Nat, z.N[j]? ≠ some x.1 := fun z hz j hj => by
  obtain ⟨k, hk⟩ := List.mem_iff_getElem?.1 hz
  rw [List.getElem?_take] at hk
  split at hk
  · rename_i hlt
    have hm : ((x.1, k) : heap.It) ∈ heap.allF (rowsOf D) := heap.mem_allF.2 ⟨z.N, by unfold rowsOf; rw [List.getElem?_map, hk]; rfl, List.mem_of_getElem? hj⟩
    have hle := firstF_least h.2 (fun q hq => by cases hq) x hx (x.1, k) (h.1.symm.subset hm) rfl
    exact hle (.inr ⟨rfl, hlt⟩)
  · cases hk
/-- The uppermost entry of a name is the first one of them. -/
theorem ent_head {s : ByteArray} : ∀ {D Q : List Nd} {k i : Nat} {d y : Nd}, EntN s D Q → (∀ d ∈ D, Asc d.N) → D[k]? = some d → d.N[i]? = some s → d.I[i]? = some y → (∀ z ∈ D.take k, ∀ j : Nat, z.N[j]? ≠ some s) → Q[0]? = some y
  | [], Q, k, i, d, y, _, _, hk, _, _, _ => by simp at hk
  | c :: D, Q, k, i, d, y, ⟨o, Q', hh, hq, hr⟩, ha, hk, hi, hy, ht => by
    rcases k with _ | k
    · obtain rfl : c = d := by simpa using hk
      rcases hh with ⟨i', z, b1, b2, rfl⟩ | ⟨rfl, b1⟩
      · obtain rfl := (ha c (List.mem_cons_self ..)).one b1 hi
        rw [b2] at hy
        obtain rfl := Option.some.inj hy
        rw [hq]
        rfl
      · exact absurd hi (b1 i)
    · rw [List.take_succ_cons] at ht
      rcases hh with ⟨i', z, b1, b2, rfl⟩ | ⟨rfl, b1⟩
      · exact absurd b1 (ht c (List.mem_cons_self ..) i')
      · rw [hq]
        exact ent_head hr (fun d hd => ha d (List.mem_cons_of_mem _ hd)) (by simpa using hk) hi hy fun z hz => ht z (List.mem_cons_of_mem _ hz)
theorem seenOf_head {y : Nd} {Q : List Nd} (h : Q[0]? = some y) (hk : y.K ≠ 4) : (seenOf Q)[0]? = some y := by
  rcases Q with _ | ⟨x, Q⟩
  · simp at h
  · obtain rfl : x = y := by simpa using h
    by_cases h2 : x.K = 2
    · obtain ⟨e, hl⟩ := seenOf_dirs (D := Q) h2
      rw [e, List.getElem?_take_of_lt (by omega)]
      rfl
    · unfold seenOf
      simp only
      rw [if_neg hk, if_neg h2]
      rfl
theorem seenOf_white {y : Nd} {Q : List Nd} (h : Q[0]? = some y) (hk : y.K = 4) : seenOf Q = [] := by
  rcases Q with _ | ⟨x, Q⟩
  · simp at h
  · obtain rfl : x = y := by simpa using h
    unfold seenOf
    simp only
    rw [if_pos hk]
theorem top_at {P : List (Nat × Nat)} {D : List Nd} {s : ByteArray} {x : Nat × Nat} {k i : Nat} {d : Nd} (h : Top P D s x) (hk : D[k]? = some d) (hi : d.N[i]? = some s) (ht : ∀ z ∈ D.take k, ∀ j : Nat, z.N[j]? ≠ some s) : ∃ p, P[k]? = some p ∧ x.1 = p.1 := by
  obtain ⟨k', p, y', i', h1, h2, h3, h4, h5⟩ := h
  have e : k' = k := by
    rcases Nat.lt_trichotomy k' k with hlt | he | hgt
    · exact absurd h4 (ht y' (List.mem_of_getElem? (by rw [List.getElem?_take, if_pos hlt]; exact h3)) i')
    · exact he
    · exact absurd hi (h5 d (List.mem_of_getElem? (by rw [List.getElem?_take, if_pos hgt]; exact hk)) i)
  subst e
  exact ⟨p, h1, by rw [h2]⟩
/-- What is looked up of a first item's name. -/
def SawTop (P : List (Nat × Nat)) (k : Nat) (y : Nd) (w : World) (en : Ending) (w' : World) : Prop :=
  ((y.K = 4 ∧ en = .returned (.tuple #[foundV 0 0 0 none 0 0, .bool false])) ∨ (y.K ≠ 4 ∧ ∃ (p : Nat × Nat) (id : Int) (A : Option Addr) (n c : Nat), P[k]? = some p ∧ en = .returned (.tuple #[foundV y.K (p.1 : Int) id A n c, .bool true]))) ∧ Below w.heap.size w w'
theorem Saw.top {R : List Nd} {P : List (Nat × Nat)} {D Q' : List Nd} {s : ByteArray} {w w' : World} {en : Ending} {k i : Nat} {d y : Nd} (h : Saw R P D s Q' w en w') (hQ : EntN s D Q') (ha : ∀ d ∈ D, Asc d.N) (hk : D[k]? = some d) (hi : d.N[i]? = some s) (hy : d.I[i]? = some y) (ht : ∀ z ∈ D.take k, ∀ j : Nat, z.N[j]? ≠ some s) : SawTop P k y w en w' := by
  have hh := ent_head hQ ha hk hi hy ht
  refine ⟨?_, h.2⟩
  by_cases h4 : y.K = 4
  · have hs := seenOf_white hh h4
    rcases h.1 with ⟨_, rfl⟩ | ⟨x, d', h1, _⟩ | ⟨x, d', Q, A, c, h1, _⟩
    · exact .inl ⟨h4, rfl⟩
    · rw [hs] at h1; cases h1
    · rw [hs] at h1; simp at h1
  · have hs := seenOf_head hh h4
    rcases h.1 with ⟨h1, _⟩ | ⟨x, d', h1, _, _, htop, rfl⟩ | ⟨x, d', Q, A, c, h1, _, _, htop, _, _, _, _, rfl, _, _⟩
    · rw [h1] at hs; simp at hs
    · rw [h1] at hs
      obtain rfl : d' = y := by simpa using hs
      obtain ⟨p, hp, hx⟩ := top_at htop hk hi ht
      exact .inr ⟨h4, p, _, _, _, _, hp, by rw [hx]⟩
    · rw [h1] at hs
      obtain rfl := Option.some.inj hs
      obtain ⟨p, hp, hx⟩ := top_at htop hk hi ht
      exact .inr ⟨h4, p, _, _, _, _, hp, by rw [hx]⟩
/-- The names of what is listed are some of the first items'. -/
theorem Kinds.names {D : List Nd} : ∀ {F : List heap.It} {E : List (ByteArray × Int)}, Kinds D F E → (E.map Prod.fst).Sublist (F.map Prod.fst)
  | [], E, h => by
    have h' : E = [] := h
    subst h'
    exact List.Sublist.refl _
  | z :: F, E, ⟨_, _, y, E', _, _, _, q4, q5⟩ => by
    have ih := Kinds.names q5
    subst q4
    split
    · exact List.Sublist.cons _ ih
    · exact List.Sublist.cons_cons _ ih
theorem Kinds.drop {D : List Nd} : ∀ {F : List heap.It} {E : List (ByteArray × Int)} {x : heap.It}, Kinds D (x :: F) E → ∃ (d : Nd) (i : Nat) (y : Nd) (E' : List (ByteArray × Int)), D[x.2]? = some d ∧ d.N[i]? = some x.1 ∧ d.I[i]? = some y ∧ E = (if y.K = 4 then [] else [(x.1, y.K)]) ++ E' ∧ Kinds D F E' := fun h => h
end Go.Proofs.YtkbhcncbpiimdaaGreatDoor.mrg

namespace Go.Proofs.YtkbhcncbpiimdaaGreatDoor.mrg
set_option maxRecDepth 100000
open Go.RowKit Go.Proofs.YtkbhcncbpiimdaaGreatDoor.words Go.Proofs.YtkbhcncbpiimdaaGreatDoor.ext Go.Proofs.YtkbhcncbpiimdaaGreatDoor.name Go.Proofs.YtkbhcncbpiimdaaGreatDoor.tre Go.Proofs.YtkbhcncbpiimdaaGreatDoor.stk Go.Proofs.YtkbhcncbpiimdaaGreatDoor.seen

/-- What is seen of a name: it and its kind, or nothing. -/
def EntK (T : List Nd) (s : ByteArray) (E : List (ByteArray × Int)) : Prop := ∃ Q, EntN s T Q ∧ E = ((seenOf Q)[0]?.map fun y => (s, y.K)).toList
theorem EntK.uniq {T : List Nd} {s : ByteArray} {E E' : List (ByteArray × Int)} (ha : ∀ d ∈ T, Asc d.N) (h : EntK T s E) (h' : EntK T s E') : E = E' := by
  obtain ⟨Q, h1, h2⟩ := h
  obtain ⟨Q', h3, h4⟩ := h'
  rw [h2, h4, EntN.uniq ha h1 h3]
theorem EntK.len {T : List Nd} {s : ByteArray} {E : List (ByteArray × Int)} (h : EntK T s E) : E.length ≤ 1 := by
  obtain ⟨Q, _, rfl⟩ := h
  rcases (seenOf Q)[0]? with _ | y <;> simp
def LstK (T : List Nd) : List ByteArray → List (ByteArray × Int) → Prop
  | [], E => E = []
  | s :: N, E => ∃ E1 E2, EntK T s E1 ∧ E = E1 ++ E2 ∧ LstK T N E2
theorem LstK.snoc {T : List Nd} {s : ByteArray} {E1 : List (ByteArray × Int)} (h1 : EntK T s E1) : ∀ {N : List ByteArray} {E : List (ByteArray × Int)}, LstK T N E → LstK T (N ++ [s]) (E ++ E1)
  | [], E, h => by
    have h' : E = [] := h
    subst h'
    exact ⟨E1, [], h1, by simp, rfl⟩
  | x :: N, E, ⟨E2, E3, q1, q2, q3⟩ => ⟨E2, _, q1, by rw [q2, List.append_assoc], LstK.snoc h1 q3⟩
theorem LstK.uniq {T : List Nd} (ha : ∀ d ∈ T, Asc d.N) : ∀ {N : List ByteArray} {E E' : List (ByteArray × Int)}, LstK T N E → LstK T N E' → E = E'
  | [], E, E', h, h' => by
    have h1 : E = [] := h
    have h2 : E' = [] := h'
    rw [h1, h2]
  | s :: N, E, E', ⟨E1, E2, q1, q2, q3⟩, ⟨E3, E4, q4, q5, q6⟩ => by rw [q2, q5, EntK.uniq ha q1 q4, LstK.uniq ha q3 q6]
/-- Names so far. -/
structure Nms (w : World) (M : List ByteArray) (n : Nat) (v : Value) (wr : World) : Prop where
  ex : ∃ A c N, v = .slice A N.length c ∧ heap.Ris N ∧ (∀ s, s ∈ N ↔ s ∈ M) ∧ N.length ≤ n ∧ heap.Row wr wr.heap.size A N
  below : Below w.heap.size w wr
theorem Nms.next {w wr w' : World} {M N : List ByteArray} {n : Nat} {s : ByteArray} {v : Value} (hb : Below w.heap.size w wr) (hm : ∀ s, s ∈ N ↔ s ∈ M) (hn : N.length ≤ n) (h : InsOut wr N s (.returned v) w') : Nms w (M ++ [s]) (n + 1) v w' := by
  obtain ⟨⟨A', c', N', h1, h2, h3, h4, h5⟩, hb'⟩ := h
  injection h1 with h1
  exact ⟨⟨A', c', N', h1, h2, fun x => by rw [h3, hm, List.mem_append, List.mem_singleton]; exact or_comm, by omega, h5⟩, hb.trans (hb'.mono hb.size)⟩
theorem take_at {l : List ByteArray} {j : Nat} {s : ByteArray} (h : l[j]? = some s) : l.take (j + 1) = l.take j ++ [s] := by
  obtain ⟨hkl, hxx⟩ := List.getElem?_eq_some_iff.1 h
  rw [List.take_succ_eq_append_getElem hkl, hxx]
end Go.Proofs.YtkbhcncbpiimdaaGreatDoor.mrg

namespace Go.Proofs.YtkbhcncbpiimdaaGreatDoor.mrg
set_option maxRecDepth 100000
open Go.RowKit Go.Proofs.YtkbhcncbpiimdaaGreatDoor.words Go.Proofs.YtkbhcncbpiimdaaGreatDoor.ext Go.Proofs.YtkbhcncbpiimdaaGreatDoor.name Go.Proofs.YtkbhcncbpiimdaaGreatDoor.tre Go.Proofs.YtkbhcncbpiimdaaGreatDoor.stk Go.Proofs.YtkbhcncbpiimdaaGreatDoor.seen

/-- What is listed is there. -/
theorem Kinds.mem {D : List Nd} : ∀ {F : List heap.It} {E : List (ByteArray × Int)}, Kinds D F E → ∀ z ∈ E, ∃ x ∈ F, ∃ (d : Nd) (i : Nat) (y : Nd), z = (x.1, y.K) ∧ y.K ≠ 4 ∧ D[x.2]? = some d ∧ d.N[i]? = some x.1 ∧ d.I[i]? = some y
  | [], E, h, z, hz => by
    have h' : E = [] := h
    rw [h'] at hz
    cases hz
  | x :: F, E, ⟨d, i, y, E', q1, q2, q3, q4, q5⟩, z, hz => by
    rw [q4] at hz
    rcases List.mem_append.1 hz with hz | hz
    · by_cases h4 : y.K = 4
      · rw [if_pos h4] at hz; cases hz
      · rw [if_neg h4] at hz
        exact ⟨x, List.mem_cons_self .., d, i, y, by simpa using hz, h4, q1, q2, q3⟩
    · obtain ⟨x', hx, r⟩ := q5.mem z hz
      exact ⟨x', List.mem_cons_of_mem _ hx, r⟩
/-- What is listed is looked up. -/
theorem listed_seen {D : List Nd} (hD : ∀ d ∈ D, Asc d.N ∧ d.N.length = d.I.length) {out : List heap.It} {E : List (ByteArray × Int)} (hm : heap.Merged (rowsOf D) out) (hk : Kinds D (heap.firsts out) E) {s : ByteArray} {K : Int} (hz : (s, K) ∈ E) : ∃ Q' y, EntN s D Q' ∧ (seenOf Q')[0]? = some y ∧ y.K = K := by
  obtain ⟨x, hx, d, i, y, he, h4, h1, h2, h3⟩ := hk.mem _ hz
  injection he with e1 e2
  subst e1
  obtain ⟨Q', hQ⟩ := EntN.some (s := x.1) (D := D) fun d hd => (hD d hd).2
  exact ⟨Q', y, hQ, seenOf_head (ent_head hQ (fun d hd => (hD d hd).1) h1 h2 h3 (first_top hm hx)) h4, e2.symm⟩
end Go.Proofs.YtkbhcncbpiimdaaGreatDoor.mrg
