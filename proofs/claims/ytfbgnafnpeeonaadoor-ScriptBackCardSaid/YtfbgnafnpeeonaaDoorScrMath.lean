/- Plain words for scripts: texts cut at a byte (spl), numbers in words (numsL), a script's lines (linesM), how a reader takes them (takeM, prsM), there and back. No program, no condition. -/
import Derived.Test.YtfbgnafnpeeonaaDoorCalMath
namespace Go.Proofs.YtfbgnafnpeeonaaDoor.scr
set_option maxRecDepth 100000
open Go.Lib Go.Proofs.YtfbgnafnpeeonaaDoor.cal

/-! ### A text, cut at a byte -/
def spl (c : UInt8) : List UInt8 → List (List UInt8)
  | [] => [[]]
  | b :: l => if b = c then [] :: spl c l else match spl c l with
    | [] => [[b]]
    | p :: r => (b :: p) :: r
theorem spl_ne (c : UInt8) : ∀ l, spl c l ≠ []
  | [] => by simp [spl]
  | b :: l => by
    unfold spl
    split
    · simp
    · split <;> simp
theorem spl_hit (c : UInt8) (l : List UInt8) : spl c (c :: l) = [] :: spl c l := by rw [spl, if_pos rfl]
theorem spl_on {c b : UInt8} (h : b ≠ c) {l p : List UInt8} {r : List (List UInt8)} (hl : spl c l = p :: r) : spl c (b :: l) = (b :: p) :: r := by rw [spl, if_neg h, hl]
theorem spl_no {c : UInt8} : ∀ {l : List UInt8}, c ∉ l → spl c l = [l]
  | [], _ => rfl
  | b :: l, h => spl_on (by rintro rfl; exact h (List.mem_cons_self ..)) (spl_no fun e => h (List.mem_cons_of_mem _ e))
theorem spl_app {c : UInt8} : ∀ {a : List UInt8} (b : List UInt8), c ∉ a → spl c (a ++ c :: b) = a :: spl c b
  | [], b, _ => spl_hit c b
  | x :: a, b, h => spl_on (by rintro rfl; exact h (List.mem_cons_self ..)) (spl_app b fun e => h (List.mem_cons_of_mem _ e))
theorem spl_mem {c : UInt8} : ∀ {l p : List UInt8}, p ∈ spl c l → c ∉ p
  | [], p, h => by
    have : p = [] := by simpa [spl] using h
    subst this
    simp
  | b :: l, p, h => by
    by_cases hb : b = c
    · subst hb
      rw [spl_hit] at h
      rcases List.mem_cons.1 h with rfl | h
      · simp
      · exact spl_mem h
    · obtain ⟨q, r, hq⟩ := List.exists_cons_of_ne_nil (spl_ne c l)
      rw [spl_on hb hq] at h
      rcases List.mem_cons.1 h with rfl | h
      · intro hc
        rcases List.mem_cons.1 hc with hc | hc
        · exact hb hc.symm
        · exact spl_mem (by rw [hq]; exact List.mem_cons_self ..) hc
      · exact spl_mem (l := l) (by rw [hq]; exact List.mem_cons_of_mem _ h)
theorem spl_len (c : UInt8) : ∀ l : List UInt8, (spl c l).length ≤ l.length + 1
  | [] => by simp [spl]
  | b :: l => by
    have ih := spl_len c l
    by_cases hb : b = c
    · subst hb
      rw [spl_hit, List.length_cons, List.length_cons]
      omega
    · obtain ⟨q, r, hq⟩ := List.exists_cons_of_ne_nil (spl_ne c l)
      rw [hq] at ih
      rw [spl_on hb hq]
      simp at ih ⊢
      omega
def joinC (c : UInt8) : List (List UInt8) → List UInt8
  | [] => []
  | [a] => a
  | a :: b :: r => a ++ c :: joinC c (b :: r)
theorem joinC_more (c : UInt8) (a : List UInt8) {r : List (List UInt8)} (h : r ≠ []) : joinC c (a :: r) = a ++ c :: joinC c r := by
  rcases r with _ | ⟨b, r⟩
  · exact absurd rfl h
  · rfl
theorem joinM_C : ∀ l, joinM l = joinC 32 l
  | [] => rfl
  | [_] => rfl
  | a :: b :: r => by show a ++ 32 :: joinM (b :: r) = a ++ 32 :: joinC 32 (b :: r); rw [joinM_C (b :: r)]
theorem joinC_head (c b : UInt8) (p : List UInt8) (r : List (List UInt8)) : joinC c ((b :: p) :: r) = b :: joinC c (p :: r) := by
  rcases r with _ | ⟨q, r⟩ <;> rfl
theorem join_spl (c : UInt8) : ∀ l, joinC c (spl c l) = l
  | [] => rfl
  | b :: l => by
    by_cases hb : b = c
    · subst hb
      rw [spl_hit, joinC_more _ _ (spl_ne _ _), join_spl]
      rfl
    · obtain ⟨q, r, hq⟩ := List.exists_cons_of_ne_nil (spl_ne c l)
      rw [spl_on hb hq, joinC_head, ← hq, join_spl]
theorem spl_join {c : UInt8} : ∀ {ps : List (List UInt8)}, ps ≠ [] → (∀ p ∈ ps, c ∉ p) → spl c (joinC c ps) = ps
  | [], h, _ => absurd rfl h
  | [a], _, h => spl_no (h a (List.mem_cons_self ..))
  | a :: b :: r, _, h => by
    rw [joinC_more c a (by simp), spl_app _ (h a (List.mem_cons_self ..)), spl_join (by simp) fun p hp => h p (List.mem_cons_of_mem _ hp)]
/-- A line, cut at the first such byte. -/
def cutC (c : UInt8) (l : List UInt8) : List UInt8 × List UInt8 × Bool := cut l [c]
theorem occ_consC {c : UInt8} {l : List UInt8} {i : Nat} (h : occAt l [c] i = true) : ∃ t, l.drop i = c :: t := by
  unfold occAt at h
  rcases hd : l.drop i with _ | ⟨x, t⟩
  · rw [hd] at h; cases h
  · rw [hd] at h
    have : (c == x) = true := by simpa [List.isPrefixOf] using h
    exact ⟨t, by rw [← eq_of_beq this]⟩
theorem occ_nil {c : UInt8} {l : List UInt8} {i : Nat} (h : occAt l [c] i = false) (hi : l[i]? = some c) : False := by
  obtain ⟨hl, hc⟩ := List.getElem?_eq_some_iff.1 hi
  have : l.drop i = c :: l.drop (i + 1) := by rw [List.drop_eq_getElem_cons hl, hc]
  unfold occAt at h
  rw [this] at h
  simp [List.isPrefixOf] at h
theorem cutC_yes {c : UInt8} {l a b : List UInt8} (h : cutC c l = (a, b, true)) : l = a ++ c :: b ∧ c ∉ a := by
  unfold cutC cut at h
  rcases index_spec l [c] with ⟨h1, _⟩ | ⟨i, h1, h2, h3, h4⟩
  · rw [h1, if_neg (by decide)] at h
    cases h
  · rw [h1, if_pos (by omega)] at h
    obtain ⟨t, ht⟩ := occ_consC h3
    simp only [Prod.mk.injEq, Int.toNat_natCast, List.length_singleton, and_true] at h
    obtain ⟨rfl, rfl⟩ := h
    have e : l.drop (i + 1) = t := by rw [← List.drop_drop, ht]; rfl
    refine ⟨by rw [e, ← ht, List.take_append_drop], fun hm => ?_⟩
    obtain ⟨j, hj⟩ := List.mem_iff_getElem?.1 hm
    rw [List.getElem?_take] at hj
    split at hj
    · rename_i hlt
      exact occ_nil (h4 j hlt) hj
    · cases hj
theorem cutC_no {c : UInt8} {l a b : List UInt8} (h : cutC c l = (a, b, false)) : a = l ∧ b = [] ∧ c ∉ l := by
  unfold cutC cut at h
  split at h
  · cases h
  · rename_i hn
    injection h with h1 h2
    injection h2 with h2 _
    refine ⟨h1.symm, h2.symm, fun hm => ?_⟩
    obtain ⟨j, hj⟩ := List.mem_iff_getElem?.1 hm
    rcases index_spec l [c] with ⟨_, h5⟩ | ⟨i, h5, _⟩
    · exact occ_nil (h5 j (by have := (List.getElem?_eq_some_iff.1 hj).1; omega)) hj
    · omega
theorem cutC_spl {c : UInt8} {l a b : List UInt8} (h : cutC c l = (a, b, true)) : spl c l = a :: spl c b := by
  obtain ⟨h1, h2⟩ := cutC_yes h
  rw [h1, spl_app b h2]
theorem cutC_spn {c : UInt8} {l a b : List UInt8} (h : cutC c l = (a, b, false)) : spl c l = [l] := spl_no (cutC_no h).2.2
theorem cutC_at {c : UInt8} (a b : List UInt8) (h : c ∉ a) : cutC c (a ++ c :: b) = (a, b, true) := by
  rcases hc : cutC c (a ++ c :: b) with ⟨x, y, f⟩
  cases f with
  | false =>
    have := (cutC_no hc).2.2
    simp at this
  | true =>
    have h1 := cutC_spl hc
    have h2 := (cutC_yes hc).1
    rw [spl_app b h] at h1
    injection h1 with h1 _
    subst h1
    have := List.append_cancel_left h2
    injection this with _ h3
    rw [h3]
theorem cutC_none {c : UInt8} {l : List UInt8} (h : c ∉ l) : cutC c l = (l, [], false) := by
  rcases hc : cutC c l with ⟨x, y, f⟩
  cases f with
  | false =>
    obtain ⟨h1, h2, _⟩ := cutC_no hc
    rw [h1, h2]
  | true =>
    have h2 := (cutC_yes hc).1
    rw [h2] at h
    simp at h
/-! ### Numbers -/
def numsL : List (List UInt8) → Option (List Int)
  | [] => some []
  | w :: r => match numP w with
    | some n => (numsL r).map (n :: ·)
    | none => none
theorem numsL_snoc : ∀ (l : List (List UInt8)) (w : List UInt8) (ns : List Int), numsL l = some ns → numsL (l ++ [w]) = (numP w).map fun n => ns ++ [n]
  | [], w, ns, h => by
    simp only [numsL, Option.some.injEq] at h
    subst h
    simp only [List.nil_append, numsL]
    cases numP w <;> rfl
  | x :: l, w, ns, h => by
    simp only [numsL, List.cons_append] at h ⊢
    cases hx : numP x with
    | none => rw [hx] at h; cases h
    | some n =>
      rw [hx] at h
      simp only at h ⊢
      obtain ⟨ms, hm, rfl⟩ := Option.map_eq_some_iff.1 h
      rw [numsL_snoc l w ms hm]
      cases numP w <;> rfl
theorem numsL_bad : ∀ (l : List (List UInt8)) (w : List UInt8), w ∈ l → numP w = none → numsL l = none
  | [], w, h, _ => by cases h
  | x :: l, w, h, hw => by
    simp only [numsL]
    rcases List.mem_cons.1 h with rfl | h
    · rw [hw]
    · rw [numsL_bad l w h hw]
      cases numP x <;> rfl
theorem numsL_some : ∀ {l : List (List UInt8)} {ns : List Int}, numsL l = some ns → ns.map itoa = l ∧ ∀ n ∈ ns, -9223372036854775808 ≤ n ∧ n ≤ 9223372036854775807
  | [], ns, h => by
    simp only [numsL, Option.some.injEq] at h
    subst h
    exact ⟨rfl, fun _ h => by cases h⟩
  | x :: l, ns, h => by
    simp only [numsL] at h
    cases hx : numP x with
    | none => rw [hx] at h; cases h
    | some n =>
      rw [hx] at h
      obtain ⟨ms, hm, rfl⟩ := Option.map_eq_some_iff.1 h
      obtain ⟨h1, h2⟩ := numsL_some hm
      obtain ⟨e1, e2⟩ := numP_some hx
      refine ⟨by rw [List.map_cons, h1, e1], fun k hk => ?_⟩
      rcases List.mem_cons.1 hk with rfl | hk
      · exact e2
      · exact h2 k hk
theorem numsL_itoa : ∀ {ns : List Int}, (∀ n ∈ ns, -9223372036854775808 ≤ n ∧ n ≤ 9223372036854775807) → numsL (ns.map itoa) = some ns
  | [], _ => rfl
  | n :: ns, h => by
    have h1 := h n (List.mem_cons_self ..)
    rw [List.map_cons, numsL, numP_itoa n h1.1 h1.2, numsL_itoa fun k hk => h k (List.mem_cons_of_mem _ hk)]
    rfl
/-- The numbers of words, a blank between each two. -/
def numsM (l : List UInt8) : Option (List Int) := numsL (spl 32 l)
theorem numsM_itoa {ns : List Int} (h0 : ns ≠ []) (h : ∀ n ∈ ns, -9223372036854775808 ≤ n ∧ n ≤ 9223372036854775807) : numsM (joinC 32 (ns.map itoa)) = some ns := by
  unfold numsM
  rw [spl_join (by simpa using h0) fun p hp => by obtain ⟨n, _, rfl⟩ := List.mem_map.1 hp; exact itoa_no32 n, numsL_itoa h]
theorem numsM_some {l : List UInt8} {ns : List Int} (h : numsM l = some ns) : joinC 32 (ns.map itoa) = l ∧ ns ≠ [] ∧ ∀ n ∈ ns, -9223372036854775808 ≤ n ∧ n ≤ 9223372036854775807 := by
  unfold numsM at h
  obtain ⟨h1, h2⟩ := numsL_some h
  refine ⟨by rw [h1, join_spl], fun e => ?_, h2⟩
  rw [e] at h1
  exact spl_ne 32 l h1.symm
/-! ### Scripts -/
structure Sc where
  sh : Int
  rm : Int
  cu : Int
  im : List (List UInt8)
  cl : List (List cal.Op)
  pk : List Int
  deriving DecidableEq
def sc0 : Sc := ⟨0, 0, 0, [], [], []⟩
def roomW : List UInt8 := [114, 111, 111, 109]
def imageW : List UInt8 := [105, 109, 97, 103, 101]
def clientW : List UInt8 := [99, 108, 105, 101, 110, 116]
def pickW : List UInt8 := [112, 105, 99, 107]
def roomL (s : Sc) : List UInt8 := roomW ++ 32 :: joinC 32 ([s.sh, s.rm, s.cu].map itoa)
def imageL (x : List UInt8) : List UInt8 := imageW ++ 32 :: hexL x
def pickL (ns : List Int) : List UInt8 := pickW ++ 32 :: joinC 32 (ns.map itoa)
def clientL (ops : List cal.Op) : List (List UInt8) := clientW :: ops.map textM
def linesM (s : Sc) : List (List UInt8) := roomL s :: (s.im.map imageL ++ s.cl.flatMap clientL ++ (if s.pk = [] then [] else [pickL s.pk]))
/-- A script as a text. -/
def textT (ls : List (List UInt8)) : List UInt8 := ls.flatMap (· ++ [10])
def printM (s : Sc) : List UInt8 := textT (linesM s)
/-- What was read: 0 nothing, 1 the room, 2 clients, 3 picks. -/
structure Rd where
  s : Sc
  k : Nat
def rd0 : Rd := ⟨sc0, 0⟩
def snocOp (l : List (List cal.Op)) (o : cal.Op) : List (List cal.Op) := l.dropLast ++ [l.getLastD [] ++ [o]]
def takeM (r : Rd) (line : List UInt8) : Option Rd :=
  if r.k = 0 then (if (cutL line).1 = roomW then (match numsM (cutL line).2.1 with
    | some [a, b, c] => some ⟨{ r.s with sh := a, rm := b, cu := c }, 1⟩
    | _ => none) else none)
  else if r.k = 3 then none
  else if (cutL line).1 = imageW then (if r.k = 1 then (unH (cutL line).2.1).map fun x => ⟨{ r.s with im := r.s.im ++ [x] }, 1⟩ else none)
  else if line = clientW then some ⟨{ r.s with cl := r.s.cl ++ [[]] }, 2⟩
  else if (cutL line).1 = pickW then (numsM (cutL line).2.1).map fun ns => ⟨{ r.s with pk := ns }, 3⟩
  else if r.k = 2 then (parseM line).map fun o => ⟨{ r.s with cl := snocOp r.s.cl o }, 2⟩
  else none
theorem take_0 {r : Rd} {line : List UInt8} {r' : Rd} (hk : r.k = 0) (h : takeM r line = some r') : ∃ a b c, (cutL line).1 = roomW ∧ numsM (cutL line).2.1 = some [a, b, c] ∧ r' = ⟨{ r.s with sh := a, rm := b, cu := c }, 1⟩ := by
  unfold takeM at h
  rw [if_pos hk] at h
  split at h
  · rename_i hr
    split at h
    · rename_i a b c hn
      injection h with h
      exact ⟨a, b, c, hr, hn, h.symm⟩
    · cases h
  · cases h
/-- The ways of a line behind the first one. -/
theorem take_on {r : Rd} {line : List UInt8} {r' : Rd} (hk : r.k ≠ 0) (h : takeM r line = some r') : r.k ≠ 3 ∧
    ((∃ x, (cutL line).1 = imageW ∧ r.k = 1 ∧ unH (cutL line).2.1 = some x ∧ r' = ⟨{ r.s with im := r.s.im ++ [x] }, 1⟩) ∨
     (line = clientW ∧ r' = ⟨{ r.s with cl := r.s.cl ++ [[]] }, 2⟩) ∨
     (∃ ns, (cutL line).1 = pickW ∧ numsM (cutL line).2.1 = some ns ∧ r' = ⟨{ r.s with pk := ns }, 3⟩) ∨
     (∃ o, r.k = 2 ∧ parseM line = some o ∧ r' = ⟨{ r.s with cl := snocOp r.s.cl o }, 2⟩)) := by
  unfold takeM at h
  rw [if_neg hk] at h
  split at h
  · cases h
  rename_i h3
  refine ⟨h3, ?_⟩
  split at h
  · rename_i hi
    split at h
    · rename_i h1
      obtain ⟨x, hx, rfl⟩ := Option.map_eq_some_iff.1 h
      exact .inl ⟨x, hi, h1, hx, rfl⟩
    · cases h
  split at h
  · rename_i hc
    injection h with h
    exact .inr (.inl ⟨hc, h.symm⟩)
  split at h
  · rename_i hp
    obtain ⟨x, hx, rfl⟩ := Option.map_eq_some_iff.1 h
    exact .inr (.inr (.inl ⟨x, hp, hx, rfl⟩))
  split at h
  · rename_i h2
    obtain ⟨x, hx, rfl⟩ := Option.map_eq_some_iff.1 h
    exact .inr (.inr (.inr ⟨x, h2, hx, rfl⟩))
  · cases h
def lnsM (r : Rd) : List (List UInt8) := if r.k = 0 then [] else linesM r.s
structure Gd (r : Rd) : Prop where
  k0 : r.k = 0 → r.s = sc0
  k1 : r.k = 1 → r.s.cl = [] ∧ r.s.pk = []
  k2 : r.k = 2 → r.s.cl ≠ [] ∧ r.s.pk = []
  k3 : r.k = 3 → r.s.pk ≠ []
  ks : r.k ≤ 3
  ok : ∀ ops ∈ r.s.cl, ∀ o ∈ ops, rightM o = true
theorem gd_0 : Gd rd0 := ⟨fun _ => rfl, fun h => (by cases h), fun h => (by cases h), fun h => (by cases h), Nat.zero_le _, fun _ h => (by cases h)⟩
theorem cut_word {line w : List UInt8} (h : (cutL line).1 = w) (hn : (cutL line).2.1 ≠ []) : line = w ++ 32 :: (cutL line).2.1 := by
  have h1 := cut3 line
  cases hb : (cutL line).2.2 with
  | true =>
    rw [hb] at h1
    have := cutL_some h1
    rw [h] at this
    exact this
  | false =>
    rw [hb] at h1
    exact absurd (cutL_none h1).2 hn
theorem nums_ne {l : List UInt8} {ns : List Int} (h : numsM l = some ns) : l ≠ [] := by
  rintro rfl
  obtain ⟨h1, h2, _⟩ := numsM_some h
  rcases ns with _ | ⟨n, ns⟩
  · exact h2 rfl
  · rcases ns with _ | ⟨m, ns⟩
    · exact itoa_ne n h1
    · simp [joinC] at h1
theorem unH_ne {l x : List UInt8} (h : unH l = some x) : l ≠ [] := by
  rintro rfl
  cases h
theorem snoc_ops (l : List (List cal.Op)) (o : cal.Op) (h : l ≠ []) : (snocOp l o).flatMap clientL = l.flatMap clientL ++ [textM o] := by
  obtain ⟨a, x, rfl⟩ : ∃ a x, l = a ++ [x] := ⟨l.dropLast, l.getLast h, (List.dropLast_concat_getLast h).symm⟩
  unfold snocOp
  simp [clientL, List.getLastD_eq_getLast?]
theorem snoc_mem {l : List (List cal.Op)} {o : cal.Op} (h : l ≠ []) {ops : List cal.Op} (hm : ops ∈ snocOp l o) : ops ∈ l ∨ ∃ x ∈ l, ops = x ++ [o] := by
  obtain ⟨a, x, rfl⟩ : ∃ a x, l = a ++ [x] := ⟨l.dropLast, l.getLast h, (List.dropLast_concat_getLast h).symm⟩
  unfold snocOp at hm
  simp [List.getLastD_eq_getLast?] at hm
  rcases hm with hm | hm
  · exact .inl (by simp [hm])
  · exact .inr ⟨x, by simp, hm⟩
theorem take_good {r : Rd} {line : List UInt8} {r' : Rd} (hg : Gd r) (h : takeM r line = some r') : Gd r' ∧ lnsM r' = lnsM r ++ [line] ∧ r'.k ≠ 0 := by
  by_cases hk : r.k = 0
  · obtain ⟨a, b, c, h1, h2, rfl⟩ := take_0 hk h
    have hs := hg.k0 hk
    have hl := cut_word h1 (nums_ne h2)
    refine ⟨⟨fun e => (by cases e), fun _ => ?_, fun e => (by cases e), fun e => (by cases e), (by simp), ?_⟩, ?_, by simp⟩
    · simp only [hs]; exact ⟨rfl, rfl⟩
    · simp only [hs]; exact fun _ h => by cases h
    · unfold lnsM
      rw [if_pos hk, if_neg (by simp)]
      simp only [hs]
      unfold linesM roomL
      rw [hl, ← (numsM_some h2).1]
      rfl
  obtain ⟨h3, hw⟩ := take_on hk h
  have e0 : lnsM r = linesM r.s := by unfold lnsM; rw [if_neg hk]
  have hpk : r.s.pk = [] := by
    have := hg.ks
    rcases (show r.k = 1 ∨ r.k = 2 by omega) with e | e
    · exact (hg.k1 e).2
    · exact (hg.k2 e).2
  rcases hw with ⟨x, h1, h2, h4, rfl⟩ | ⟨h1, rfl⟩ | ⟨ns, h1, h2, rfl⟩ | ⟨o, h1, h2, rfl⟩
  · have hl := cut_word h1 (unH_ne h4)
    obtain ⟨c1, c2⟩ := hg.k1 h2
    refine ⟨⟨fun e => (by cases e), fun _ => ⟨c1, c2⟩, fun e => (by cases e), fun e => (by cases e), (by simp), hg.ok⟩, ?_, by simp⟩
    rw [e0]
    unfold lnsM linesM roomL
    rw [if_neg (by simp)]
    simp only [c1, c2]
    rw [hl, ← hexL_unH h4]
    simp [imageL]
  · have hok : ∀ ops ∈ r.s.cl ++ [[]], ∀ o ∈ ops, rightM o = true := fun ops ho o hm => by
      rcases List.mem_append.1 ho with ho | ho
      · exact hg.ok ops ho o hm
      · obtain rfl : ops = [] := by simpa using ho
        cases hm
    refine ⟨⟨fun e => (by cases e), fun e => (by cases e), fun _ => ⟨by simp, hpk⟩, fun e => (by cases e), (by simp), hok⟩, ?_, by simp⟩
    rw [e0]
    unfold lnsM linesM roomL
    rw [if_neg (by simp)]
    simp only [hpk]
    rw [h1]
    simp [clientL]
  · have hl := cut_word h1 (nums_ne h2)
    obtain ⟨n1, n2, _⟩ := numsM_some h2
    refine ⟨⟨fun e => (by cases e), fun e => (by cases e), fun e => (by cases e), fun _ => n2, (by simp), hg.ok⟩, ?_, by simp⟩
    rw [e0]
    unfold lnsM linesM roomL
    rw [if_neg (by simp)]
    simp only [hpk]
    rw [hl, ← n1, if_neg n2]
    simp [pickL]
  · obtain ⟨c1, c2⟩ := hg.k2 h1
    obtain ⟨p1, p2⟩ := parse_some h2
    have hok : ∀ ops ∈ snocOp r.s.cl o, ∀ q ∈ ops, rightM q = true := fun ops ho q hm => by
      rcases snoc_mem c1 ho with ho | ⟨x, hx, rfl⟩
      · exact hg.ok ops ho q hm
      · rcases List.mem_append.1 hm with hm | hm
        · exact hg.ok x hx q hm
        · obtain rfl : q = o := by simpa using hm
          exact p1
    refine ⟨⟨fun e => (by cases e), fun e => (by cases e), fun _ => ⟨?_, c2⟩, fun e => (by cases e), (by simp), hok⟩, ?_, by simp⟩
    · show snocOp r.s.cl o ≠ []
      unfold snocOp
      simp
    rw [e0]
    unfold lnsM linesM roomL
    rw [if_neg (by simp)]
    simp only [c2]
    rw [snoc_ops _ _ c1, p2]
    simp
/-! ### There and back -/
def takesM (r : Rd) : List (List UInt8) → Option Rd
  | [] => some r
  | p :: ps => match takeM r p with
    | some r' => takesM r' ps
    | none => none
theorem takes_good : ∀ {ps : List (List UInt8)} {r r' : Rd}, Gd r → takesM r ps = some r' → Gd r' ∧ lnsM r' = lnsM r ++ ps ∧ (ps ≠ [] → r'.k ≠ 0)
  | [], r, r', hg, h => by
    injection h with h
    subst h
    exact ⟨hg, by simp, fun e => absurd rfl e⟩
  | p :: ps, r, r', hg, h => by
    simp only [takesM] at h
    cases ht : takeM r p with
    | none => rw [ht] at h; cases h
    | some r1 =>
      rw [ht] at h
      obtain ⟨g1, g2, g3⟩ := take_good hg ht
      obtain ⟨q1, q2, q3⟩ := takes_good g1 h
      refine ⟨q1, by rw [q2, g2]; simp, fun _ => ?_⟩
      by_cases hp : ps = []
      · subst hp
        injection h with h
        rw [← h]
        exact g3
      · exact q3 hp
theorem takes_app : ∀ {ps qs : List (List UInt8)} {r r1 : Rd}, takesM r ps = some r1 → takesM r (ps ++ qs) = takesM r1 qs
  | [], qs, r, r1, h => by
    injection h with h
    subst h
    rfl
  | p :: ps, qs, r, r1, h => by
    simp only [takesM, List.cons_append] at h ⊢
    cases ht : takeM r p with
    | none => rw [ht] at h; cases h
    | some r2 =>
      rw [ht] at h
      exact takes_app h
/-- What a script may be told as. -/
structure Fits (s : Sc) : Prop where
  sh : -9223372036854775808 ≤ s.sh ∧ s.sh ≤ 9223372036854775807
  rm : -9223372036854775808 ≤ s.rm ∧ s.rm ≤ 9223372036854775807
  cu : -9223372036854775808 ≤ s.cu ∧ s.cu ≤ 9223372036854775807
  pk : ∀ n ∈ s.pk, -9223372036854775808 ≤ n ∧ n ≤ 9223372036854775807
  op : ∀ ops ∈ s.cl, ∀ o ∈ ops, o.fit
  ok : ∀ ops ∈ s.cl, ∀ o ∈ ops, rightM o = true
theorem cutL_C (l : List UInt8) : cutL l = cutC 32 l := rfl
theorem text_shape {o : cal.Op} (hr : rightM o = true) : ∃ s, textM o = wordL o.K ++ 32 :: s ∧ 1 ≤ o.K ∧ o.K ≤ 9 := by
  have hr' := hr
  unfold rightM at hr'
  simp only [Bool.and_eq_true, decide_eq_true_eq] at hr'
  obtain ⟨⟨hw, _⟩, ht⟩ := hr'
  have hk : 1 ≤ o.K ∧ o.K ≤ 9 := by
    rcases kind_cases o.K with h | ⟨h, _⟩
    · omega
    · exact absurd h hw
  unfold textM
  rw [if_neg hw]
  obtain ⟨w, ws, hws⟩ : ∃ w ws, restM o = w :: ws := by
    unfold restM
    split
    · exact ⟨_, _, rfl⟩
    split
    · exact ⟨_, _, rfl⟩
    split
    · exact ⟨_, _, rfl⟩
    split <;> exact ⟨_, _, rfl⟩
  rw [hws]
  exact ⟨joinM (w :: ws), rfl, hk.1, hk.2⟩
theorem word_other : ∀ k : Int, 1 ≤ k → k ≤ 9 → wordL k ≠ imageW ∧ wordL k ≠ pickW ∧ wordL k ≠ roomW := fun k h1 h2 => by
  have : k = 1 ∨ k = 2 ∨ k = 3 ∨ k = 4 ∨ k = 5 ∨ k = 6 ∨ k = 7 ∨ k = 8 ∨ k = 9 := by omega
  rcases this with rfl | rfl | rfl | rfl | rfl | rfl | rfl | rfl | rfl <;> decide
theorem take_room (s : Sc) (hf : Fits s) : takeM rd0 (roomL s) = some ⟨{ sc0 with sh := s.sh, rm := s.rm, cu := s.cu }, 1⟩ := by
  unfold takeM roomL
  rw [if_pos (show rd0.k = 0 from rfl), cutL_C, cutC_at _ _ (by decide)]
  simp only [if_true]
  rw [numsM_itoa (by simp) (by
    intro n hn
    simp only [List.mem_cons, List.not_mem_nil, or_false] at hn
    rcases hn with rfl | rfl | rfl
    · exact hf.sh
    · exact hf.rm
    · exact hf.cu)]
  rfl
theorem take_image (r : Rd) (hk : r.k = 1) (x : List UInt8) : takeM r (imageL x) = some ⟨{ r.s with im := r.s.im ++ [x] }, 1⟩ := by
  unfold takeM imageL
  rw [if_neg (by omega), if_neg (by omega), cutL_C, cutC_at _ _ (by decide)]
  simp only [if_true]
  rw [if_pos hk, unH_hexL]
  rfl
theorem take_client (r : Rd) (hk : r.k = 1 ∨ r.k = 2) : takeM r clientW = some ⟨{ r.s with cl := r.s.cl ++ [[]] }, 2⟩ := by
  unfold takeM
  rw [if_neg (by omega), if_neg (by omega), cutL_C, cutC_none (by decide), if_neg (by decide), if_pos rfl]
theorem take_op (r : Rd) (hk : r.k = 2) (o : cal.Op) (hr : rightM o = true) (hf : o.fit) : takeM r (textM o) = some ⟨{ r.s with cl := snocOp r.s.cl o }, 2⟩ := by
  obtain ⟨s, hs, h1, h9⟩ := text_shape hr
  obtain ⟨w1, w2, w3⟩ := word_other o.K h1 h9
  have hn := (kind_word o.K ⟨h1, h9⟩).2.1
  have hp := parse_text o hr hf
  unfold takeM
  rw [if_neg (by omega), if_neg (by omega)]
  have hc : (cutL (textM o)).1 = wordL o.K := by rw [hs, cutL_C, cutC_at _ _ hn]
  rw [hc, if_neg w1, if_neg, if_neg w2, if_pos hk, hp]
  · rfl
  · intro e
    have h32 : (32 : UInt8) ∈ clientW := by rw [← e, hs]; simp
    revert h32
    decide
theorem take_picks (r : Rd) (hk : r.k = 1 ∨ r.k = 2) (ns : List Int) (h0 : ns ≠ []) (hf : ∀ n ∈ ns, -9223372036854775808 ≤ n ∧ n ≤ 9223372036854775807) : takeM r (pickL ns) = some ⟨{ r.s with pk := ns }, 3⟩ := by
  unfold takeM pickL
  rw [if_neg (by omega), if_neg (by omega), cutL_C, cutC_at _ _ (by decide)]
  simp only []
  rw [if_neg (by decide), if_neg, if_pos trivial, numsM_itoa h0 hf]
  · rfl
  · intro e
    have h32 : (32 : UInt8) ∈ clientW := by rw [← e]; simp
    revert h32
    decide
theorem takes_images : ∀ (xs : List (List UInt8)) (r : Rd), r.k = 1 → takesM r (xs.map imageL) = some ⟨{ r.s with im := r.s.im ++ xs }, 1⟩
  | [], r, hk => by
    obtain ⟨s, k⟩ := r
    subst hk
    simp [takesM]
  | x :: xs, r, hk => by
    simp only [List.map_cons, takesM, take_image r hk x]
    rw [takes_images xs _ rfl]
    simp
theorem takes_ops : ∀ (ops : List cal.Op) (r : Rd), r.k = 2 → (∀ o ∈ ops, rightM o = true ∧ o.fit) → ∀ (a : List (List cal.Op)) (x : List cal.Op), r.s.cl = a ++ [x] → takesM r (ops.map textM) = some ⟨{ r.s with cl := a ++ [x ++ ops] }, 2⟩
  | [], r, hk, _, a, x, hc => by
    obtain ⟨s, k⟩ := r
    subst hk
    simp [takesM, ← hc]
  | o :: ops, r, hk, h, a, x, hc => by
    have h1 := h o (List.mem_cons_self ..)
    simp only [List.map_cons, takesM, take_op r hk o h1.1 h1.2]
    rw [takes_ops ops _ rfl (fun q hq => h q (List.mem_cons_of_mem _ hq)) a (x ++ [o]) (by
      show snocOp r.s.cl o = _
      unfold snocOp
      rw [hc]
      simp)]
    simp
theorem takes_clients : ∀ (cl : List (List cal.Op)) (r : Rd), (r.k = 1 ∨ r.k = 2) → (∀ ops ∈ cl, ∀ o ∈ ops, rightM o = true ∧ o.fit) → ∃ k, (k = 1 ∨ k = 2) ∧ takesM r (cl.flatMap clientL) = some ⟨{ r.s with cl := r.s.cl ++ cl }, k⟩
  | [], r, hk, _ => ⟨r.k, hk, by
    obtain ⟨s, k⟩ := r
    simp [takesM]⟩
  | ops :: cl, r, hk, h => by
    have h1 : takesM r (clientL ops) = some ⟨{ r.s with cl := r.s.cl ++ [ops] }, 2⟩ := by
      unfold clientL
      simp only [takesM, take_client r hk]
      rw [takes_ops ops _ rfl (h ops (List.mem_cons_self ..)) r.s.cl [] rfl]
      simp
    obtain ⟨k, hk2, h2⟩ := takes_clients cl ⟨{ r.s with cl := r.s.cl ++ [ops] }, 2⟩ (.inr rfl) fun q hq => h q (List.mem_cons_of_mem _ hq)
    refine ⟨k, hk2, ?_⟩
    rw [List.flatMap_cons, takes_app h1, h2]
    simp
theorem takes_all (s : Sc) (hf : Fits s) : ∃ k, takesM rd0 (linesM s) = some ⟨s, k⟩ := by
  have h1 := takes_images s.im ⟨{ sc0 with sh := s.sh, rm := s.rm, cu := s.cu }, 1⟩ rfl
  obtain ⟨k, hk, h2⟩ := takes_clients s.cl ⟨{ sc0 with sh := s.sh, rm := s.rm, cu := s.cu, im := s.im }, 1⟩ (.inl rfl) fun ops ho o hm => ⟨hf.ok ops ho o hm, hf.op ops ho o hm⟩
  have h12 := (takes_app (qs := s.cl.flatMap clientL) h1).trans h2
  unfold linesM
  simp only [takesM, take_room s hf]
  obtain ⟨sh, rm, cu, im, cl, pk⟩ := s
  by_cases hp : pk = []
  · subst hp
    refine ⟨k, ?_⟩
    simp only [if_true, List.append_nil]
    exact h12
  · refine ⟨3, ?_⟩
    simp only [hp, if_false]
    rw [takes_app h12]
    simp only [takesM]
    rw [take_picks _ hk pk hp hf.pk]
    rfl
/-- How a text is read: its pieces between line feeds. -/
def prsM : Rd → Nat → List (List UInt8) → Rd ⊕ Nat
  | _, n, [] => .inr n
  | _, n, [_] => .inr n
  | r, n, p :: q :: ps => match takeM r p with
    | none => .inr n
    | some r' => if q = [] ∧ ps = [] then .inl r' else prsM r' (n + 1) (q :: ps)
theorem prs_all : ∀ {ls : List (List UInt8)} {r r' : Rd} {n : Nat}, ls ≠ [] → takesM r ls = some r' → prsM r n (ls ++ [[]]) = .inl r'
  | [], _, _, _, h, _ => absurd rfl h
  | [p], r, r', n, _, h => by
    simp only [takesM] at h
    simp only [List.cons_append, List.nil_append, prsM]
    cases ht : takeM r p with
    | none => rw [ht] at h; cases h
    | some r1 =>
      rw [ht] at h
      injection h with h
      subst h
      simp
  | p :: q :: ls, r, r', n, _, h => by
    rw [takesM] at h
    show prsM r n (p :: q :: (ls ++ [[]])) = _
    rw [prsM]
    cases ht : takeM r p with
    | none => rw [ht] at h; cases h
    | some r1 =>
      rw [ht] at h
      simp only
      rw [if_neg (by simp)]
      exact prs_all (ls := q :: ls) (by simp) h
theorem prs_bad : ∀ {ls : List (List UInt8)} {r r' : Rd} {n : Nat} {p : List UInt8}, takesM r ls = some r' → takeM r' p = none → prsM r n (ls ++ [p, []]) = .inr (n + ls.length)
  | [], r, r', n, p, h, hp => by
    injection h with h
    subst h
    simp only [List.nil_append, prsM, hp, List.length_nil, Nat.add_zero]
  | x :: ls, r, r', n, p, h, hp => by
    rw [takesM] at h
    obtain ⟨q, qs, hq⟩ : ∃ q qs, ls ++ [p, []] = q :: qs := List.exists_cons_of_ne_nil (by simp)
    have hqs : ¬ (q = [] ∧ qs = []) := fun e => by
      rw [e.2] at hq
      have := congrArg List.length hq
      simp at this
    rw [List.cons_append, hq, prsM]
    cases ht : takeM r x with
    | none => rw [ht] at h; cases h
    | some r1 =>
      rw [ht] at h
      simp only
      rw [if_neg hqs, ← hq, prs_bad (n := n + 1) h hp, List.length_cons]
      congr 1
      omega
theorem prs_yes : ∀ {ps : List (List UInt8)} {r r' : Rd} {n : Nat}, prsM r n ps = .inl r' → ∃ ls, ls ≠ [] ∧ ps = ls ++ [[]] ∧ takesM r ls = some r'
  | [], r, r', n, h => by cases h
  | [_], r, r', n, h => by cases h
  | p :: q :: ps, r, r', n, h => by
    rw [prsM] at h
    cases ht : takeM r p with
    | none => rw [ht] at h; cases h
    | some r1 =>
      rw [ht] at h
      simp only at h
      by_cases hq : q = [] ∧ ps = []
      · rw [if_pos hq] at h
        injection h with h
        subst h
        obtain ⟨rfl, rfl⟩ := hq
        exact ⟨[p], by simp, rfl, by simp [takesM, ht]⟩
      · rw [if_neg hq] at h
        obtain ⟨ls, _, h2, h3⟩ := prs_yes h
        exact ⟨p :: ls, by simp, by rw [h2]; rfl, by rw [takesM, ht]; exact h3⟩
theorem prs_no : ∀ {ps : List (List UInt8)} {r : Rd} {n b : Nat}, ps ≠ [] → prsM r n ps = .inr b → ∃ i r1, b = n + i ∧ i < ps.length ∧ takesM r (ps.take i) = some r1 ∧ (i + 1 = ps.length ∨ ∀ x, ps[i]? = some x → takeM r1 x = none)
  | [], _, _, _, h, _ => absurd rfl h
  | [p], r, n, b, _, h => by
    injection h with h
    subst h
    exact ⟨0, r, rfl, by simp, rfl, .inl rfl⟩
  | p :: q :: ps, r, n, b, _, h => by
    rw [prsM] at h
    cases ht : takeM r p with
    | none =>
      rw [ht] at h
      injection h with h
      subst h
      exact ⟨0, r, rfl, by simp, rfl, .inr fun x hx => by
        obtain rfl : p = x := by simpa using hx
        exact ht⟩
    | some r1 =>
      rw [ht] at h
      simp only at h
      by_cases hq : q = [] ∧ ps = []
      · rw [if_pos hq] at h; cases h
      · rw [if_neg hq] at h
        obtain ⟨i, r2, h1, h2, h3, h4⟩ := prs_no (by simp) h
        refine ⟨i + 1, r2, by omega, by simp at h2 ⊢; omega, by rw [List.take_succ_cons, takesM, ht]; exact h3, ?_⟩
        rcases h4 with h4 | h4
        · left
          simp at h4 ⊢
          omega
        · right
          intro x hx
          exact h4 x (by simpa using hx)
/-! ### Texts of lines -/
theorem textT_join : ∀ ls : List (List UInt8), joinC 10 (ls ++ [[]]) = textT ls
  | [] => rfl
  | p :: ls => by
    rw [List.cons_append, joinC_more _ _ (by simp), textT_join ls]
    simp [textT]
theorem textT_spl {ls : List (List UInt8)} (h : ∀ p ∈ ls, 10 ∉ p) : spl 10 (textT ls) = ls ++ [[]] := by
  rw [← textT_join, spl_join (by simp) fun p hp => by
    rcases List.mem_append.1 hp with hp | hp
    · exact h p hp
    · obtain rfl : p = [] := by simpa using hp
      simp]
theorem textT_snoc (ls : List (List UInt8)) (p : List UInt8) : textT (ls ++ [p]) = textT ls ++ p ++ [10] := by simp [textT]
theorem spl_text {l : List UInt8} {ls : List (List UInt8)} (h : spl 10 l = ls ++ [[]]) : textT ls = l := by rw [← textT_join, ← h, join_spl]
/-- The script of a text, or the line that is none. -/
def parseS (l : List UInt8) : Sc ⊕ Nat := match prsM rd0 1 (spl 10 l) with
  | .inl r => .inl r.s
  | .inr n => .inr n
theorem hexP_no10 : ∀ l : List UInt8, 10 ∉ hexP l
  | [] => by simp [hexP]
  | b :: r => by
    have hd : ∀ n : Fin 16, hexD n.val ≠ 10 := by decide +kernel
    have hb := b.toNat_lt
    intro h
    rcases List.mem_cons.1 h with h | h
    · exact hd ⟨b.toNat / 16, by omega⟩ h.symm
    · rcases List.mem_cons.1 h with h | h
      · exact hd ⟨b.toNat % 16, by omega⟩ h.symm
      · exact hexP_no10 r h
theorem hexL_no10 (l : List UInt8) : 10 ∉ hexL l := by
  unfold hexL
  split
  · decide
  · exact hexP_no10 l
theorem itoa_no10 (n : Int) : 10 ∉ itoa n := by
  unfold itoa
  split
  · intro h
    rcases List.mem_cons.1 h with h | h
    · revert h; decide
    · have := dd_digit (n.natAbs + 1) n.natAbs (Nat.lt_succ_self _) _ h
      revert this; decide
  · intro h
    have := dd_digit (n.toNat + 1) n.toNat (Nat.lt_succ_self _) _ h
    revert this; decide
theorem joinC_no {c d : UInt8} (hd : d ≠ c) : ∀ {ps : List (List UInt8)}, (∀ p ∈ ps, d ∉ p) → d ∉ joinC c ps
  | [], _ => by simp [joinC]
  | [a], h => h a (List.mem_cons_self ..)
  | a :: b :: r, h => by
    rw [joinC_more c a (by simp)]
    intro hm
    rcases List.mem_append.1 hm with hm | hm
    · exact h a (List.mem_cons_self ..) hm
    · rcases List.mem_cons.1 hm with hm | hm
      · exact hd hm
      · exact joinC_no hd (fun p hp => h p (List.mem_cons_of_mem _ hp)) hm
theorem text_no10 {o : cal.Op} (hr : rightM o = true) : 10 ∉ textM o := by
  have hr' := hr
  unfold rightM at hr'
  simp only [Bool.and_eq_true, decide_eq_true_eq, Bool.not_eq_true', decide_eq_false_iff_not] at hr'
  obtain ⟨⟨hw, hp⟩, _⟩ := hr'
  have hwd : 10 ∉ wordL o.K := by
    rcases kind_cases o.K with h | ⟨h, _⟩
    · rcases h with h | h | h | h | h | h | h | h | h <;> rw [h] <;> decide
    · rw [h]; simp
  unfold textM
  rw [if_neg hw, joinM_C]
  refine joinC_no (by decide) fun p hm => ?_
  rcases List.mem_cons.1 hm with rfl | hm
  · exact hwd
  unfold restM at hm
  split at hm
  · simp only [List.mem_cons, List.not_mem_nil, or_false] at hm
    rcases hm with rfl | rfl | rfl
    · exact itoa_no10 _
    · exact itoa_no10 _
    · exact hp
  split at hm
  · simp only [List.mem_cons, List.not_mem_nil, or_false] at hm
    rcases hm with rfl | rfl <;> exact itoa_no10 _
  split at hm
  · simp only [List.mem_cons, List.not_mem_nil, or_false] at hm
    subst hm
    exact itoa_no10 _
  split at hm
  · simp only [List.mem_cons, List.not_mem_nil, or_false] at hm
    subst hm
    exact hexL_no10 _
  · simp only [List.mem_cons, List.not_mem_nil, or_false] at hm
    subst hm
    exact hp
theorem lines_no10 {s : Sc} (ok : ∀ ops ∈ s.cl, ∀ o ∈ ops, rightM o = true) : ∀ p ∈ linesM s, 10 ∉ p := fun p hp => by
  have hnum : ∀ ns : List Int, 10 ∉ joinC 32 (ns.map itoa) := fun ns => joinC_no (by decide) fun p hp => by
    obtain ⟨n, _, rfl⟩ := List.mem_map.1 hp
    exact itoa_no10 n
  have hap : ∀ (w x : List UInt8), 10 ∉ w → 10 ∉ x → 10 ∉ w ++ 32 :: x := fun w x h1 h2 hm => by
    rcases List.mem_append.1 hm with hm | hm
    · exact h1 hm
    · rcases List.mem_cons.1 hm with hm | hm
      · revert hm; decide
      · exact h2 hm
  unfold linesM at hp
  rcases List.mem_cons.1 hp with rfl | hp
  · exact hap _ _ (by decide) (hnum _)
  rcases List.mem_append.1 hp with hp | hp
  · rcases List.mem_append.1 hp with hp | hp
    · obtain ⟨x, _, rfl⟩ := List.mem_map.1 hp
      exact hap _ _ (by decide) (hexL_no10 x)
    · obtain ⟨ops, ho, hm⟩ := List.mem_flatMap.1 hp
      rcases List.mem_cons.1 hm with rfl | hm
      · decide
      · obtain ⟨o, hq, rfl⟩ := List.mem_map.1 hm
        exact text_no10 (ok ops ho o hq)
  · split at hp
    · cases hp
    · obtain rfl : p = pickL s.pk := by simpa using hp
      exact hap _ _ (by decide) (hnum _)
/-- THERE AND BACK. -/
theorem parse_print {s : Sc} (hf : Fits s) : parseS (printM s) = .inl s := by
  obtain ⟨k, hk⟩ := takes_all s hf
  unfold parseS printM
  rw [textT_spl (lines_no10 hf.ok), prs_all (by simp [linesM]) hk]
theorem print_parse {l : List UInt8} {s : Sc} (h : parseS l = .inl s) : printM s = l ∧ ∀ ops ∈ s.cl, ∀ o ∈ ops, rightM o = true := by
  unfold parseS at h
  cases hp : prsM rd0 1 (spl 10 l) with
  | inr n => rw [hp] at h; cases h
  | inl r =>
    rw [hp] at h
    injection h with h
    subst h
    obtain ⟨ls, h1, h2, h3⟩ := prs_yes hp
    obtain ⟨g1, g2, g3⟩ := takes_good gd_0 h3
    have e : lnsM r = linesM r.s := by unfold lnsM; rw [if_neg (g3 h1)]
    rw [e] at g2
    refine ⟨?_, g1.ok⟩
    unfold printM
    rw [g2]
    exact spl_text h2
theorem parse_bad {l : List UInt8} {b : Nat} (h : parseS l = .inr b) : 1 ≤ b ∧ b ≤ (spl 10 l).length ∧ (2 ≤ b → ∃ s, parseS (textT ((spl 10 l).take (b - 1))) = .inl s ∧
    (b = (spl 10 l).length ∨ ∀ x, (spl 10 l)[b - 1]? = some x → parseS (textT ((spl 10 l).take (b - 1)) ++ x ++ [10]) = .inr b)) := by
  unfold parseS at h
  cases hp : prsM rd0 1 (spl 10 l) with
  | inl r => rw [hp] at h; cases h
  | inr n =>
    rw [hp] at h
    injection h with h
    subst h
    obtain ⟨i, r1, rfl, h2, h3, h4⟩ := prs_no (spl_ne 10 l) hp
    refine ⟨by omega, by omega, fun hb => ?_⟩
    have e : 1 + i - 1 = i := by omega
    rw [e]
    have hno : ∀ p ∈ (spl 10 l).take i, 10 ∉ p := fun p hp => spl_mem (List.mem_of_mem_take hp)
    have hne : (spl 10 l).take i ≠ [] := fun e => by
      have h5 := congrArg List.length e
      rw [List.length_take, List.length_nil] at h5
      omega
    refine ⟨r1.s, ?_, ?_⟩
    · unfold parseS
      rw [textT_spl hno, prs_all hne h3]
    · rcases h4 with h4 | h4
      · exact .inl (by omega)
      · refine .inr fun x hx => ?_
        rw [← textT_snoc]
        unfold parseS
        rw [textT_spl fun p hp => ?_, List.append_assoc]
        · show (match prsM rd0 1 ((spl 10 l).take i ++ [x, []]) with | .inl r => Sum.inl r.s | .inr n => Sum.inr n) = _
          rw [prs_bad h3 (h4 x hx), List.length_take, Nat.min_eq_left (by omega)]
        · rcases List.mem_append.1 hp with hp | hp
          · exact hno p hp
          · obtain rfl : p = x := by simpa using hp
            exact spl_mem (List.mem_of_getElem? hx)
end Go.Proofs.YtfbgnafnpeeonaaDoor.scr
