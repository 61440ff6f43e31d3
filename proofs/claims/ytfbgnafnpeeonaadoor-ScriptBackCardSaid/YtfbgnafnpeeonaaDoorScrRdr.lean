/- A script's reader in memory: a box and the rows that it made. Condition: none. -/
import Derived.Test.YtfbgnafnpeeonaaDoorScrNum
import Derived.Test.YtfbgnafnpeeonaaDoorCalParse
import Derived.Test.YtfbgnafnpeeonaaDoorLruRow
import Derived.Laws.OwnMore
namespace Go.Proofs.YtfbgnafnpeeonaaDoor.scr
set_option maxRecDepth 100000
open Go.RowKit Go.Proofs.YtfbgnafnpeeonaaDoor.words Go.Proofs.YtfbgnafnpeeonaaDoor.cal

structure OpB where
  K : Int
  P : ByteArray
  O : Int
  N : Int
  I : Int
  G : ByteArray
def OpB.m (o : OpB) : cal.Op := opM o.K o.P o.O o.N o.I o.G
def OpB.v (o : OpB) : Value := opV o.K o.P o.O o.N o.I o.G
def OpB.c (o : OpB) : List Value := [.int .i64 o.K, .string o.P, .int .i64 o.O, .int .i64 o.N, .int .i64 o.I, .string o.G]
def opCells (l : List OpB) : List Value := l.flatMap OpB.c
structure ScB where
  sh : Int
  rm : Int
  cu : Int
  im : List ByteArray
  cl : List (List OpB)
  pk : List Int
def ScB.m (s : ScB) : Sc := ⟨s.sh, s.rm, s.cu, s.im.map fun x => x.data.toList, s.cl.map fun l => l.map OpB.m, s.pk⟩
def scb0 : ScB := ⟨0, 0, 0, [], [], []⟩
theorem scb0_m : scb0.m = sc0 := rfl
/-- Rows of calls, each in a block of its own. -/
def Rows (w : World) (B : Nat) (vc : Value) (cl : List (List OpB)) : Prop :=
  ∃ vs : List Value, w.ownsRow B 43 1 vc cl.length vs ∧ vs.length = cl.length ∧ (∀ (i : Nat) (v : Value) (l : List OpB), vs[i]? = some v → cl[i]? = some l → w.ownsRow B 45 6 v l.length (opCells l)) ∧
    (∀ (i j : Nat) (u v : Value) (b : Nat), vs[i]? = some u → vs[j]? = some v → u.ownBlock = some b → v.ownBlock = some b → i = j)
/-- What a reader's steps turn. -/
def RT (t : TypeId) : Prop := t = 58 ∨ t = 9 ∨ t = 43 ∨ t = 45 ∨ t = 3
structure Rdr (w : World) (B g : Nat) (s : ScB) (k : Nat) (vi vc vp : Value) : Prop where
  ge : B ≤ g
  blk : w.heap[g]? = some (.cells #[.int .i64 s.sh, .int .i64 s.rm, .int .i64 s.cu, vi, vc, vp, .int .i64 k] 58 (0, 0))
  im : w.ownsRow B 9 1 vi s.im.length (s.im.map Value.string)
  cl : Rows w B vc s.cl
  pk : w.ownsRow B 3 1 vp s.pk.length (s.pk.map (Value.int .i64))
section
variable {w w' : World} {B g : Nat} {s : ScB} {k : Nat} {vi vc vp : Value} {cl : List (List OpB)}
theorem own_later {e : TypeId} {size n : Nat} {v : Value} {xs : List Value} (h : w.ownsRow B e size v n xs) (hb : Below w.heap.size w w') : w'.ownsRow B e size v n xs := by
  refine ⟨h.1, ?_⟩
  rcases h.2 with h0 | ⟨g, cap, cur, h1, h2, h3, h4⟩
  · exact .inl h0
  · exact .inr ⟨g, cap, cur, h1, h2, (hb.block _ (lt_of_some h3)).trans h3, h4⟩
theorem Rows.map (h : Rows w B vc cl) (hk : ∀ {e : TypeId} {size n : Nat} {v : Value} {xs : List Value}, e = 43 ∨ e = 45 → w.ownsRow B e size v n xs → w'.ownsRow B e size v n xs) : Rows w' B vc cl := by
  obtain ⟨vs, h1, h2, h3, h4⟩ := h
  exact ⟨vs, hk (.inl rfl) h1, h2, fun i v l hv hl => hk (.inr rfl) (h3 i v l hv hl), h4⟩
theorem Rows.later (h : Rows w B vc cl) (hb : Below w.heap.size w w') : Rows w' B vc cl := h.map fun _ h => own_later h hb
theorem Rows.kept {S : TypeId → Prop} {B' : Nat} (h : Rows w B vc cl) (hk : Kept S B' w w') (h1 : ¬ S 43) (h2 : ¬ S 45) : Rows w' B vc cl := h.map fun he h => hk.own h (by rcases he with rfl | rfl <;> assumption)
theorem Rdr.later (h : Rdr w B g s k vi vc vp) (hb : Below w.heap.size w w') : Rdr w' B g s k vi vc vp :=
  ⟨h.ge, (hb.block _ (lt_of_some h.blk)).trans h.blk, own_later h.im hb, h.cl.later hb, own_later h.pk hb⟩
theorem Rows.nil (w : World) (B : Nat) : Rows w B (.slice none 0 0) [] := ⟨[], World.ownsRow_nil _ _ _ _, rfl, fun _ _ _ h => (by cases h), fun _ _ _ _ _ h => (by cases h)⟩
theorem own_at_some {e : TypeId} {size n : Nat} {v : Value} {xs : List Value} (h : w.ownsRow B e size v n xs) {b : Nat} (hb : v.ownBlock = some b) : ∃ cs f, w.heap[b]? = some (.cells cs e f) := by
  rcases h.2 with ⟨rfl, _⟩ | ⟨j, cap, cur, rfl, _, hh, _⟩
  · simp [Value.ownBlock] at hb
  · obtain rfl : j = b := by simpa [Value.ownBlock] using hb
    exact ⟨_, _, hh⟩
theorem grown_own {W1 : World} {v0 : Value} {e e0 : TypeId} {size size0 n n0 : Nat} {v : Value} {xs xs0 : List Value} (h0 : w.ownsRow B e0 size0 v0 n0 xs0) (hg : w.grownBy W1 v0.ownBlock) (h : w.ownsRow B e size v n xs) (hne : e ≠ e0 ∨ ∀ b, v.ownBlock = some b → v0.ownBlock ≠ some b) : W1.ownsRow B e size v n xs := by
  refine h.kept hg ?_
  cases hv : v.ownBlock with
  | none => exact .inl rfl
  | some b =>
    right
    intro e'
    rcases hne with hne | hne
    · obtain ⟨cs, f, h1⟩ := own_at_some h hv
      obtain ⟨cs', f', h2⟩ := own_at_some h0 e'.symm
      rw [h1] at h2
      injection h2 with h2
      injection h2 with _ h2
      exact hne h2
    · exact hne b hv e'.symm
section
variable {W1 : World} {vs : List Value} {v' : Value} (ho : w.ownsRow B 43 1 vc cl.length vs) (hl : vs.length = cl.length) (hr : ∀ (i : Nat) (v : Value) (l : List OpB), vs[i]? = some v → cl[i]? = some l → w.ownsRow B 45 6 v l.length (opCells l))
  (hd : ∀ (i j : Nat) (u v : Value) (b : Nat), vs[i]? = some u → vs[j]? = some v → u.ownBlock = some b → v.ownBlock = some b → i = j)
include ho hl hr hd
/-- A client more, who has asked for nothing yet. -/
theorem rows_client (hown : W1.ownsRow B 43 1 v' (cl.length + 1) (vs ++ [.slice none 0 0])) (hg : w.grownBy W1 vc.ownBlock) : Rows W1 B v' (cl ++ [[]]) := by
  refine ⟨vs ++ [.slice none 0 0], by rw [List.length_append]; exact hown, by simp [hl], fun i v l hv hc => ?_, fun i j u v b hu hv hb hb' => ?_⟩
  · rcases Nat.lt_or_ge i vs.length with hi | hi
    · rw [List.getElem?_append_left hi] at hv
      rw [List.getElem?_append_left (by omega)] at hc
      exact grown_own ho hg (hr i v l hv hc) (.inl (by decide))
    · rw [List.getElem?_append_right hi] at hv
      rw [List.getElem?_append_right (by omega)] at hc
      obtain ⟨h1, h2⟩ := List.getElem?_eq_some_iff.1 hv
      obtain ⟨h3, h4⟩ := List.getElem?_eq_some_iff.1 hc
      simp at h1 h2 h4
      subst h2 h4
      exact World.ownsRow_nil _ _ _ _
  · have h0 : ∀ (i : Nat) (u : Value), (vs ++ [.slice none 0 0])[i]? = some u → u.ownBlock = some b → vs[i]? = some u := fun i u hu hb => by
      rcases Nat.lt_or_ge i vs.length with hi | hi
      · rwa [List.getElem?_append_left hi] at hu
      · rw [List.getElem?_append_right hi] at hu
        obtain ⟨h1, h2⟩ := List.getElem?_eq_some_iff.1 hu
        simp at h1 h2
        subst h2
        simp [Value.ownBlock] at hb
    exact hd i j u v b (h0 i u hu hb) (h0 j v hv hb') hb hb'
/-- A call more of the client who was read last. -/
theorem rows_op {a : List (List OpB)} {l : List OpB} {q : Nat} {c : Nat} {v : Value} {o : OpB} {W2 : World} (hcl : cl = a ++ [l]) (hvc : vc = .slice (some ⟨q, 0, none⟩) cl.length c) (hv : vs[a.length]? = some v)
    (hown : W1.ownsRow B 45 6 v' (l.length + 1) (opCells l ++ o.c)) (hg : w.grownBy W1 v.ownBlock) (hne : ∀ b, v'.ownBlock = some b → v.ownBlock = some b ∨ w.heap.size ≤ b) (hW2 : W2 = W1.setCell ⟨q, a.length, none⟩ v') : Rows W2 B vc (a ++ [l ++ [o]]) := by
  have hlen : cl.length = a.length + 1 := by rw [hcl]; simp
  have hvl := hr a.length v l hv (by rw [hcl]; simp)
  have ho1 : W1.ownsRow B 43 1 vc cl.length vs := grown_own hvl hg ho (.inl (by decide))
  subst hvc
  have hst := (ho1.stored a.length v').1
  rw [← hW2] at hst
  have hk12 : ∀ {size n : Nat} {u : Value} {xs : List Value}, W1.ownsRow B 45 size u n xs → W2.ownsRow B 45 size u n xs := fun {size n u xs} h => by
    rw [hW2]
    refine own_setCell h (fun e => ?_) _
    obtain ⟨cs, f, h1⟩ := own_at_some h e
    obtain ⟨cs', f', h2⟩ := own_at_some (b := q) ho1 rfl
    rw [h1] at h2
    injection h2 with h2
    injection h2 with _ h2
    revert h2
    decide
  have hvb : ∀ b, v.ownBlock = some b → b < w.heap.size := fun b hb => (World.ownsRow.lt hvl b hb).2
  have hset : ∀ (i : Nat) (u : Value), (vs.set a.length v')[i]? = some u → (i = a.length ∧ u = v') ∨ (i ≠ a.length ∧ vs[i]? = some u) := fun i u hu => by
    by_cases hi : i = a.length
    · subst hi
      rw [List.getElem?_set_self (by omega)] at hu
      injection hu with hu
      exact .inl ⟨rfl, hu.symm⟩
    · rw [List.getElem?_set_ne (Ne.symm hi)] at hu
      exact .inr ⟨hi, hu⟩
  have hl2 : (a ++ [l ++ [o]]).length = cl.length := by rw [hlen]; simp
  have hother : ∀ (i : Nat) (u : Value) (b : Nat), i ≠ a.length → vs[i]? = some u → u.ownBlock = some b → v'.ownBlock ≠ some b := fun i u b hi hu hb hb' => by
    have hil : i < vs.length := (List.getElem?_eq_some_iff.1 hu).1
    obtain ⟨l', hl'⟩ : ∃ l', cl[i]? = some l' := ⟨_, List.getElem?_eq_getElem (by omega)⟩
    rcases hne b hb' with h | h
    · exact hi (hd i a.length u v b hu hv hb h)
    · have := (World.ownsRow.lt (hr i u l' hu hl') b hb).2
      omega
  refine ⟨vs.set a.length v', by rw [hl2]; exact hst, by rw [List.length_set, hl2, hl], fun i u l' hu hl' => ?_, fun i j u u' b hu hu' hb hb' => ?_⟩
  · rcases hset i u hu with ⟨rfl, rfl⟩ | ⟨hi, hu⟩
    · have : l' = l ++ [o] := by simpa using hl'.symm
      subst this
      refine hk12 ?_
      have : opCells (l ++ [o]) = opCells l ++ o.c := by simp [opCells]
      rw [this, List.length_append]
      exact hown
    · have hil : i < vs.length := (List.getElem?_eq_some_iff.1 hu).1
      have hl3 : cl[i]? = some l' := by
        rw [hcl]
        rw [List.getElem?_append_left (by omega)] at hl' ⊢
        exact hl'
      exact hk12 (grown_own hvl hg (hr i u l' hu hl3) (.inr fun b hb e => hi (hd i a.length u v b hu hv hb e)))
  · rcases hset i u hu with ⟨e1, e2⟩ | ⟨hi, hu2⟩
    · rcases hset j u' hu' with ⟨e3, _⟩ | ⟨hj, hu3⟩
      · rw [e1, e3]
      · rw [e2] at hb
        exact absurd hb (hother j u' b hj hu3 hb')
    · rcases hset j u' hu' with ⟨_, e4⟩ | ⟨hj, hu3⟩
      · rw [e4] at hb'
        exact absurd hb' (hother i u b hi hu2 hb)
      · exact hd i j u u' b hu2 hu3 hb hb'
end
end
end Go.Proofs.YtfbgnafnpeeonaaDoor.scr
