/- Plain words for calls in words: bytes in words (hexL, unH), numbers (numP), what is asked for (Op, textM, rightM, parseM), there and back. No program, no condition. -/
import Derived.WalkKit
import Derived.Lib.IndexLaws
import Derived.Lib.CutLaws
import Derived.Lib.ItoaMem
import Derived.Lib.ItoaLen
import Derived.Lib.AtoiAllCases
namespace Go.Proofs.YtfbgnafnpeeonaaDoor.cal
set_option maxRecDepth 100000
open Go.Lib

/-- A digit of 16. -/
def hexD (n : Nat) : UInt8 := if n < 10 then UInt8.ofNat (48 + n) else UInt8.ofNat (87 + n)
def dgs : List UInt8 := [48, 49, 50, 51, 52, 53, 54, 55, 56, 57, 97, 98, 99, 100, 101, 102]
def hexP : List UInt8 → List UInt8
  | [] => []
  | b :: r => hexD (b.toNat / 16) :: hexD (b.toNat % 16) :: hexP r
/-- Bytes in words. -/
def hexL (l : List UInt8) : List UInt8 := if l = [] then [45] else hexP l
def unP : List UInt8 → Option (List UInt8)
  | [] => some []
  | [_] => none
  | a :: b :: r => if indexByte dgs a < 0 ∨ indexByte dgs b < 0 then none else (unP r).map (UInt8.ofNat (16 * (indexByte dgs a).toNat + (indexByte dgs b).toNat) :: ·)
/-- The bytes of such words. -/
def unH (w : List UInt8) : Option (List UInt8) := if w = [45] then some [] else if w = [] then none else unP w

theorem dig_fin : ∀ n : Fin 16, indexByte dgs (hexD n.val) = (n.val : Int) := by decide +kernel
theorem dig (n : Nat) (h : n < 16) : indexByte dgs (hexD n) = (n : Int) := dig_fin ⟨n, h⟩
theorem undig_fin : ∀ c : Fin 256, indexByte dgs (UInt8.ofNat c.val) = -1 ∨ (0 ≤ indexByte dgs (UInt8.ofNat c.val) ∧ indexByte dgs (UInt8.ofNat c.val) < 16 ∧ hexD (indexByte dgs (UInt8.ofNat c.val)).toNat = UInt8.ofNat c.val) := by decide +kernel
theorem undig (c : UInt8) : indexByte dgs c = -1 ∨ (0 ≤ indexByte dgs c ∧ indexByte dgs c < 16 ∧ hexD (indexByte dgs c).toNat = c) := by
  have h := undig_fin ⟨c.toNat, c.toNat_lt⟩
  simpa using h
theorem hexD_ne (n : Nat) (h : n < 16) : hexD n ≠ 45 ∧ hexD n ≠ 32 := by
  have : ∀ n : Fin 16, hexD n.val ≠ 45 ∧ hexD n.val ≠ 32 := by decide +kernel
  exact this ⟨n, h⟩
theorem unP_hexP : ∀ l : List UInt8, unP (hexP l) = some l
  | [] => rfl
  | b :: r => by
    have hb := b.toNat_lt
    have h1 := dig (b.toNat / 16) (by omega)
    have h2 := dig (b.toNat % 16) (by omega)
    show (if _ then _ else _) = _
    rw [h1, h2, if_neg (by omega), unP_hexP r]
    have : 16 * ((b.toNat / 16 : Nat) : Int).toNat + ((b.toNat % 16 : Nat) : Int).toNat = b.toNat := by omega
    rw [this]
    simp
theorem hexP_unP : ∀ (w l : List UInt8), unP w = some l → hexP l = w
  | [], l, h => by simp only [unP, Option.some.injEq] at h; subst h; rfl
  | [_], l, h => by cases h
  | a :: b :: r, l, h => by
    have h : (if indexByte dgs a < 0 ∨ indexByte dgs b < 0 then none else (unP r).map (UInt8.ofNat (16 * (indexByte dgs a).toNat + (indexByte dgs b).toNat) :: ·)) = some l := h
    split at h
    · cases h
    · rename_i hn
      obtain ⟨t, ht, rfl⟩ := Option.map_eq_some_iff.1 h
      have ih := hexP_unP r t ht
      rcases undig a with ha | ⟨a0, a1, a2⟩
      · omega
      rcases undig b with hb | ⟨b0, b1, b2⟩
      · omega
      show _ :: _ :: hexP t = _
      have e : (UInt8.ofNat (16 * (indexByte dgs a).toNat + (indexByte dgs b).toNat)).toNat = 16 * (indexByte dgs a).toNat + (indexByte dgs b).toNat := by
        rw [UInt8.toNat_ofNat']
        omega
      rw [e, ih, show (16 * (indexByte dgs a).toNat + (indexByte dgs b).toNat) / 16 = (indexByte dgs a).toNat by omega, show (16 * (indexByte dgs a).toNat + (indexByte dgs b).toNat) % 16 = (indexByte dgs b).toNat by omega, a2, b2]
theorem hexP_len : ∀ l : List UInt8, (hexP l).length = 2 * l.length
  | [] => rfl
  | b :: r => by show (hexP r).length + 1 + 1 = 2 * (r.length + 1); rw [hexP_len r]; omega
theorem hexL_ne (l : List UInt8) : hexL l ≠ [] := by
  unfold hexL
  split
  · simp
  · rename_i h
    rcases l with _ | ⟨b, r⟩
    · exact absurd rfl h
    · simp [hexP]
theorem unH_hexL (l : List UInt8) : unH (hexL l) = some l := by
  unfold unH hexL
  by_cases h : l = []
  · subst h; rfl
  · rw [if_neg h]
    have h1 := hexP_len l
    have h2 : 1 ≤ l.length := List.length_pos_iff.2 h
    rw [if_neg (fun e => by rw [e] at h1; simp at h1; omega), if_neg (fun e => by rw [e] at h1; simp at h1; omega)]
    exact unP_hexP l
theorem hexL_unH {w l : List UInt8} (h : unH w = some l) : hexL l = w := by
  unfold unH at h
  by_cases h1 : w = [45]
  · rw [if_pos h1] at h
    injection h with h
    subst h
    exact h1.symm
  · rw [if_neg h1] at h
    by_cases h2 : w = []
    · rw [if_pos h2] at h; cases h
    · rw [if_neg h2] at h
      have h3 := hexP_unP w l h
      unfold hexL
      rw [if_neg, h3]
      rintro rfl
      exact h2 h3.symm
theorem hexP_no32 : ∀ l : List UInt8, 32 ∉ hexP l
  | [] => by simp [hexP]
  | b :: r => by
    have hb := b.toNat_lt
    intro h
    rcases List.mem_cons.1 h with h | h
    · exact (hexD_ne (b.toNat / 16) (by omega)).2 h.symm
    · rcases List.mem_cons.1 h with h | h
      · exact (hexD_ne (b.toNat % 16) (by omega)).2 h.symm
      · exact hexP_no32 r h

/-! ### Numbers -/
theorem dd_small {u : Nat} (h : u < 10) : decDigits u = [UInt8.ofNat (48 + u)] := by rw [decDigits, dif_pos h]
theorem dd_big {u : Nat} (h : ¬ u < 10) : decDigits u = decDigits (u / 10) ++ [UInt8.ofNat (48 + u % 10)] := by rw [decDigits, dif_neg h]
theorem parse_app : ∀ (l : List UInt8) (acc u : Nat) (c : UInt8), parseUint10 acc l = .ok u → 48 ≤ c.toNat → c.toNat ≤ 57 → u * 10 + (c.toNat - 48) < 18446744073709551616 → parseUint10 acc (l ++ [c]) = .ok (u * 10 + (c.toNat - 48))
  | [], acc, u, c, h, h1, h2, h3 => by
    simp only [parseUint10] at h
    injection h with h
    subst h
    simp only [List.nil_append, parseUint10]
    rw [if_pos ⟨h1, h2⟩, if_neg (by omega), if_neg (by omega)]
  | b :: r, acc, u, c, h, h1, h2, h3 => by
    simp only [parseUint10, List.cons_append] at h ⊢
    split at h
    · rename_i hb
      rw [if_pos hb]
      split at h
      · cases h
      · rename_i hc
        rw [if_neg hc]
        split at h
        · cases h
        · rename_i hd
          rw [if_neg hd]
          exact parse_app r _ u c h h1 h2 h3
    · cases h
theorem dg_nat (k : Nat) (h : k < 10) : (UInt8.ofNat (48 + k)).toNat = 48 + k := by rw [UInt8.toNat_ofNat']; omega
theorem parse_dd : ∀ (n u : Nat), u < n → u < 18446744073709551616 → parseUint10 0 (decDigits u) = .ok u
  | 0, u, h, _ => absurd h (Nat.not_lt_zero _)
  | n + 1, u, h, hu => by
    by_cases h1 : u < 10
    · rw [dd_small h1]
      have e := dg_nat u h1
      simp only [parseUint10, e]
      rw [if_pos (by omega), if_neg (by omega), if_neg (by omega)]
      congr 1
      omega
    · rw [dd_big h1]
      have e := dg_nat (u % 10) (by omega)
      have ih := parse_dd n (u / 10) (by omega) (by omega)
      have := parse_app _ 0 _ (UInt8.ofNat (48 + u % 10)) ih (by omega) (by omega) (by rw [e]; omega)
      rw [this, e]
      congr 1
      omega
theorem dd_ne (u : Nat) : decDigits u ≠ [] := fun h => by
  have := decDigits_length u
  rw [h] at this
  have := nDigits_pos u
  simp at *
  omega
theorem dd_digit : ∀ (n u : Nat), u < n → ∀ c ∈ decDigits u, 48 ≤ c.toNat ∧ c.toNat ≤ 57
  | 0, u, h => absurd h (Nat.not_lt_zero _)
  | n + 1, u, h => fun c hc => by
    by_cases h1 : u < 10
    · rw [dd_small h1] at hc
      obtain rfl : c = UInt8.ofNat (48 + u) := by simpa using hc
      rw [dg_nat u h1]
      omega
    · rw [dd_big h1] at hc
      rcases List.mem_append.1 hc with hc | hc
      · exact dd_digit n (u / 10) (by omega) c hc
      · obtain rfl : c = UInt8.ofNat (48 + u % 10) := by simpa using hc
        rw [dg_nat (u % 10) (by omega)]
        omega
theorem mag_dd (u : Nat) (hu : u < 18446744073709551616) : parseMag (decDigits u) = .ok u := by
  unfold parseMag
  rw [if_neg (dd_ne u)]
  exact parse_dd (u + 1) u (Nat.lt_succ_self _) hu
theorem atoi_itoa (n : Int) (h0 : -9223372036854775808 ≤ n) (h1 : n ≤ 9223372036854775807) : atoiAll (itoa n) = .ok n := by
  unfold itoa
  by_cases h : n < 0
  · rw [if_pos h, atoiAll_minus, mag_dd _ (by omega)]
    show (if _ then _ else _) = _
    rw [if_neg (by omega)]
    congr 1
    omega
  · rw [if_neg h]
    obtain ⟨c, r, hc⟩ := List.exists_cons_of_ne_nil (dd_ne n.toNat)
    have hd := dd_digit (n.toNat + 1) n.toNat (Nat.lt_succ_self _) c (by rw [hc]; exact List.mem_cons_self ..)
    have hm := mag_dd n.toNat (by omega)
    rw [hc] at hm ⊢
    rw [atoiAll_plain c r (by omega) (by omega), hm]
    show (if _ then _ else _) = _
    rw [if_neg (by omega)]
    congr 1
    omega
/-- The number of a word, as it is written. -/
def numP (w : List UInt8) : Option Int := match atoiAll w with
  | .ok v => if itoa v = w then some v else none
  | _ => none
theorem numP_itoa (n : Int) (h0 : -9223372036854775808 ≤ n) (h1 : n ≤ 9223372036854775807) : numP (itoa n) = some n := by
  unfold numP
  rw [atoi_itoa n h0 h1]
  exact if_pos rfl
theorem numP_some {w : List UInt8} {n : Int} (h : numP w = some n) : itoa n = w ∧ -9223372036854775808 ≤ n ∧ n ≤ 9223372036854775807 := by
  unfold numP at h
  cases ha : atoiAll w with
  | ok v =>
    rw [ha] at h
    have h : (if itoa v = w then some v else none) = some n := h
    by_cases hi : itoa v = w
    · rw [if_pos hi] at h
      injection h with h
      subst h
      exact ⟨hi, atoiAll_bounds ha⟩
    · rw [if_neg hi] at h; cases h
  | range => rw [ha] at h; cases h
  | _ => rw [ha] at h; cases h
theorem itoa_no32 (n : Int) : 32 ∉ itoa n := by
  unfold itoa
  split
  · intro h
    rcases List.mem_cons.1 h with h | h
    · revert h; decide
    · have := dd_digit (n.natAbs + 1) n.natAbs (Nat.lt_succ_self _) _ h
      revert this; decide
  · intro h
    have := dd_digit (n.toNat + 1) n.toNat (Nat.lt_succ_self _) _ h
    revert this; decide

/-! ### Words -/
/-- A line, cut at its first blank. -/
def cutL (l : List UInt8) : List UInt8 × List UInt8 × Bool := cut l [32]
theorem occ_cons {l : List UInt8} {i : Nat} (h : occAt l [32] i = true) : ∃ t, l.drop i = 32 :: t := by
  unfold occAt at h
  rcases hd : l.drop i with _ | ⟨c, t⟩
  · rw [hd] at h; cases h
  · rw [hd] at h
    have : (32 == c) = true := by simpa [List.isPrefixOf] using h
    exact ⟨t, by rw [← eq_of_beq this]⟩
theorem cutL_some {l a b : List UInt8} (h : cutL l = (a, b, true)) : l = a ++ 32 :: b := by
  unfold cutL cut at h
  rcases index_spec l [32] with ⟨h1, _⟩ | ⟨i, h1, h2, h3, _⟩
  · rw [h1, if_neg (by decide)] at h
    cases h
  · rw [h1, if_pos (by omega)] at h
    obtain ⟨t, ht⟩ := occ_cons h3
    simp only [Prod.mk.injEq, Int.toNat_natCast, List.length_singleton, and_true] at h
    obtain ⟨rfl, rfl⟩ := h
    have e : l.drop (i + 1) = t := by rw [← List.drop_drop, ht]; rfl
    rw [e, ← ht, List.take_append_drop]
theorem cutL_at (a b : List UInt8) (h : 32 ∉ a) : cutL (a ++ 32 :: b) = (a, b, true) := by
  unfold cutL cut
  have hi : index (a ++ 32 :: b) [32] = (a.length : Int) := by
    refine index_first (by simp) (by unfold occAt; rw [List.drop_left]; simp [List.isPrefixOf]) fun j hj => ?_
    rw [Bool.eq_false_iff]
    intro ho
    obtain ⟨t, ht⟩ := occ_cons ho
    have h1 : (a ++ 32 :: b)[j]? = some 32 := by
      have := congrArg (·[0]?) ht
      simpa using this
    rw [List.getElem?_append_left hj] at h1
    exact h (List.mem_of_getElem? h1)
  rw [hi, if_pos (by omega)]
  simp
theorem cutL_none {l a b : List UInt8} (h : cutL l = (a, b, false)) : a = l ∧ b = [] := by
  unfold cutL cut at h
  split at h
  · cases h
  · injection h with h1 h2
    injection h2 with h2 _
    exact ⟨h1.symm, h2.symm⟩

/-! ### What is asked for -/
structure Op where
  K : Int
  P : List UInt8
  O : Int
  N : Int
  I : Int
  G : List UInt8
  deriving DecidableEq
def op0 : Op := ⟨0, [], 0, 0, 0, []⟩
def wds : List (List UInt8) := [[], [108, 111, 111, 107, 117, 112], [115, 116, 97, 116], [114, 101, 97, 100, 108, 105, 110, 107], [114, 101, 97, 100], [111, 112, 101, 110], [112, 97, 103, 101], [99, 108, 111, 115, 101], [97, 100, 100], [114, 101, 109, 111, 118, 101]]
/-- What a kind is called. -/
def wordL (k : Int) : List UInt8 := if k < 0 ∨ 10 ≤ k then [] else wds.getD k.toNat []
/-- The kind that is called so. -/
def kindL (w : List UInt8) : Int := ((wds.findIdx? (· == w)).getD 0 : Nat)
def toldM (o : Op) : Op :=
  if o.K = 4 then ⟨o.K, o.P, o.O, o.N, 0, []⟩ else if o.K = 6 then ⟨o.K, [], 0, o.N, o.I, []⟩ else if o.K = 7 ∨ o.K = 9 then ⟨o.K, [], 0, 0, o.I, []⟩ else if o.K = 8 then ⟨o.K, [], 0, 0, 0, o.G⟩ else ⟨o.K, o.P, 0, 0, 0, []⟩
def rightM (o : Op) : Bool := decide (wordL o.K ≠ []) && (!decide (10 ∈ o.P)) && decide (o = toldM o)
def restM (o : Op) : List (List UInt8) :=
  if o.K = 4 then [itoa o.O, itoa o.N, o.P] else if o.K = 6 then [itoa o.I, itoa o.N] else if o.K = 7 ∨ o.K = 9 then [itoa o.I] else if o.K = 8 then [hexL o.G] else [o.P]
/-- Words, a blank between each two. -/
def joinM : List (List UInt8) → List UInt8
  | [] => []
  | [a] => a
  | a :: b :: r => a ++ 32 :: joinM (b :: r)
def textM (o : Op) : List UInt8 := if wordL o.K = [] then [] else joinM (wordL o.K :: restM o)
def numsM (a b : List UInt8) : Option (Int × Int) := match numP a, numP b with
  | some x, some y => some (x, y)
  | _, _ => none
def readM (k : Int) (s : List UInt8) : Option Op :=
  if k = 4 then (if (cutL (cutL s).2.1).2.2 then (numsM (cutL s).1 (cutL (cutL s).2.1).1).map fun x => ⟨k, (cutL (cutL s).2.1).2.1, x.1, x.2, 0, []⟩ else none)
  else if k = 6 then (numsM (cutL s).1 (cutL s).2.1).map fun x => ⟨k, [], 0, x.2, x.1, []⟩
  else if k = 7 ∨ k = 9 then (numP s).map fun x => ⟨k, [], 0, 0, x, []⟩
  else if k = 8 then (unH s).map fun x => ⟨k, [], 0, 0, 0, x⟩
  else some ⟨k, s, 0, 0, 0, []⟩
def parseM (l : List UInt8) : Option Op :=
  if (cutL l).2.2 then (match readM (kindL (cutL l).1) (cutL l).2.1 with
    | some o => if rightM o then some o else none
    | none => none) else none
/-- The document's: is nothing set but what its kind needs, and no line feed in its path? -/
def onlyM (o : Op) : Bool :=
  !decide (10 ∈ o.P) && (
    if o.K = 1 ∨ o.K = 2 ∨ o.K = 3 ∨ o.K = 5 then decide (o.O = 0) && decide (o.N = 0) && decide (o.I = 0) && decide (o.G = [])
    else if o.K = 4 then decide (o.I = 0) && decide (o.G = [])
    else if o.K = 6 then decide (o.P = []) && decide (o.O = 0) && decide (o.G = [])
    else if o.K = 7 ∨ o.K = 9 then decide (o.P = []) && decide (o.O = 0) && decide (o.N = 0) && decide (o.G = [])
    else if o.K = 8 then decide (o.P = []) && decide (o.O = 0) && decide (o.N = 0) && decide (o.I = 0)
    else false)
theorem kind_cases (k : Int) : (k = 1 ∨ k = 2 ∨ k = 3 ∨ k = 4 ∨ k = 5 ∨ k = 6 ∨ k = 7 ∨ k = 8 ∨ k = 9) ∨ wordL k = [] ∧ ¬ (1 ≤ k ∧ k ≤ 9) := by
  by_cases h : 1 ≤ k ∧ k ≤ 9
  · left; omega
  · right
    refine ⟨?_, h⟩
    unfold wordL
    split
    · rfl
    · obtain rfl : k = 0 := by omega
      rfl
theorem right_only (o : Op) : rightM o = onlyM o := by
  obtain ⟨k, p, off, n, i, g⟩ := o
  rcases kind_cases k with (rfl | rfl | rfl | rfl | rfl | rfl | rfl | rfl | rfl) | ⟨h1, h2⟩
  case inr =>
    have e1 : rightM ⟨k, p, off, n, i, g⟩ = false := by simp [rightM, h1]
    rw [e1]
    unfold onlyM
    simp only
    rw [if_neg (by omega), if_neg (by omega), if_neg (by omega), if_neg (by omega), if_neg (by omega)]
    simp
  all_goals
    have hw : ∀ q : Int, wordL q = wordL q := fun _ => rfl
    simp [rightM, onlyM, toldM, wordL, wds]
    try (cases decide (10 ∈ p) <;> simp <;> grind)
theorem kind_word (k : Int) (h : 1 ≤ k ∧ k ≤ 9) : kindL (wordL k) = k ∧ 32 ∉ wordL k ∧ wordL k ≠ [] := by
  have : k = 1 ∨ k = 2 ∨ k = 3 ∨ k = 4 ∨ k = 5 ∨ k = 6 ∨ k = 7 ∨ k = 8 ∨ k = 9 := by omega
  rcases this with rfl | rfl | rfl | rfl | rfl | rfl | rfl | rfl | rfl <;> decide
theorem find_word : ∀ (L : List (List UInt8)) (w : List UInt8) (i : Nat), L.findIdx? (· == w) = some i → L[i]? = some w
  | [], w, i, h => by cases h
  | x :: L, w, i, h => by
    rw [List.findIdx?_cons] at h
    by_cases hx : (x == w) = true
    · rw [if_pos hx] at h
      injection h with h
      subst h
      rw [eq_of_beq hx]
      rfl
    · rw [if_neg hx] at h
      obtain ⟨j, hj, rfl⟩ := Option.map_eq_some_iff.1 h
      exact find_word L w j hj
theorem word_kind (w : List UInt8) : wordL (kindL w) = w ∨ kindL w = 0 := by
  unfold kindL
  cases h : wds.findIdx? (· == w) with
  | none => exact .inr rfl
  | some i =>
    left
    have h1 := find_word _ _ _ h
    have h2 : i < 10 := (List.getElem?_eq_some_iff.1 h1).1
    show wordL (i : Int) = w
    unfold wordL
    rw [if_neg (by omega), List.getD_eq_getElem?_getD, Int.toNat_natCast, h1]
    rfl
theorem joinM_two (a b : List UInt8) : joinM [a, b] = a ++ 32 :: b := rfl
theorem joinM_three (a b c : List UInt8) : joinM [a, b, c] = a ++ 32 :: (b ++ 32 :: c) := rfl
theorem joinM_four (a b c d : List UInt8) : joinM [a, b, c, d] = a ++ 32 :: (b ++ 32 :: (c ++ 32 :: d)) := rfl
def Op.fit (o : Op) : Prop := (-9223372036854775808 ≤ o.O ∧ o.O ≤ 9223372036854775807) ∧ (-9223372036854775808 ≤ o.N ∧ o.N ≤ 9223372036854775807) ∧ (-9223372036854775808 ≤ o.I ∧ o.I ≤ 9223372036854775807)
theorem parse_text (o : Op) (hr : rightM o = true) (hf : o.fit) : parseM (textM o) = some o := by
  obtain ⟨⟨o0, o1⟩, ⟨n0, n1⟩, ⟨i0, i1⟩⟩ := hf
  have hr' := hr
  unfold rightM at hr'
  simp only [Bool.and_eq_true, decide_eq_true_eq] at hr'
  obtain ⟨⟨hw, _⟩, ht⟩ := hr'
  have hk : 1 ≤ o.K ∧ o.K ≤ 9 := by
    rcases kind_cases o.K with h | ⟨h, _⟩
    · omega
    · exact absurd h hw
  obtain ⟨hk1, hk2, hk3⟩ := kind_word o.K hk
  have key : ∀ s, textM o = wordL o.K ++ 32 :: s → readM o.K s = some o → parseM (textM o) = some o := fun s h1 h2 => by
    unfold parseM
    rw [h1, cutL_at _ _ hk2]
    simp only [hk1, h2, if_true, hr]
  unfold textM at key ⊢
  rw [if_neg hk3] at key ⊢
  unfold toldM at ht
  unfold restM at key ⊢
  by_cases h4 : o.K = 4
  · rw [if_pos h4] at key ht ⊢
    refine key _ (joinM_four _ _ _ _) ?_
    unfold readM
    rw [if_pos h4, cutL_at _ _ (itoa_no32 _)]
    simp only
    rw [cutL_at _ _ (itoa_no32 _)]
    simp only [numsM, numP_itoa _ o0 o1, numP_itoa _ n0 n1, if_true, Option.map_some]
    rw [← ht]
  rw [if_neg h4] at key ht ⊢
  by_cases h6 : o.K = 6
  · rw [if_pos h6] at key ht ⊢
    refine key _ (joinM_three _ _ _) ?_
    unfold readM
    rw [if_neg h4, if_pos h6, cutL_at _ _ (itoa_no32 _)]
    simp only [numsM, numP_itoa _ i0 i1, numP_itoa _ n0 n1, Option.map_some]
    rw [← ht]
  rw [if_neg h6] at key ht ⊢
  by_cases h7 : o.K = 7 ∨ o.K = 9
  · rw [if_pos h7] at key ht ⊢
    refine key _ (joinM_two _ _) ?_
    unfold readM
    rw [if_neg h4, if_neg h6, if_pos h7, numP_itoa _ i0 i1, Option.map_some, ← ht]
  rw [if_neg h7] at key ht ⊢
  by_cases h8 : o.K = 8
  · rw [if_pos h8] at key ht ⊢
    refine key _ (joinM_two _ _) ?_
    unfold readM
    rw [if_neg h4, if_neg h6, if_neg h7, if_pos h8, unH_hexL, Option.map_some, ← ht]
  rw [if_neg h8] at key ht ⊢
  refine key _ (joinM_two _ _) ?_
  unfold readM
  rw [if_neg h4, if_neg h6, if_neg h7, if_neg h8, ← ht]
theorem nums_some {a b : List UInt8} {x : Int × Int} (h : numsM a b = some x) : itoa x.1 = a ∧ itoa x.2 = b := by
  unfold numsM at h
  cases ha : numP a with
  | none => rw [ha] at h; cases h
  | some u =>
    cases hb : numP b with
    | none => rw [ha, hb] at h; cases h
    | some v =>
      rw [ha, hb] at h
      injection h with h
      subst h
      exact ⟨(numP_some ha).1, (numP_some hb).1⟩
theorem read_kind {k : Int} {s : List UInt8} {o : Op} (h : readM k s = some o) : o.K = k := by
  unfold readM at h
  split at h
  · split at h
    · obtain ⟨_, _, rfl⟩ := Option.map_eq_some_iff.1 h; rfl
    · cases h
  · split at h
    · obtain ⟨_, _, rfl⟩ := Option.map_eq_some_iff.1 h; rfl
    · split at h
      · obtain ⟨_, _, rfl⟩ := Option.map_eq_some_iff.1 h; rfl
      · split at h
        · obtain ⟨_, _, rfl⟩ := Option.map_eq_some_iff.1 h; rfl
        · injection h with h; subst h; rfl
theorem cut3 (l : List UInt8) : cutL l = ((cutL l).1, (cutL l).2.1, (cutL l).2.2) := rfl
theorem itoa_ne (n : Int) : itoa n ≠ [] := by
  unfold itoa
  split
  · simp
  · exact dd_ne _
theorem read_text {k : Int} {s : List UInt8} {o : Op} (h : readM k s = some o) (hw : wordL k ≠ []) : textM o = wordL k ++ 32 :: s := by
  have hk := read_kind h
  unfold textM
  rw [hk, if_neg hw]
  unfold restM
  rw [hk]
  unfold readM at h
  by_cases h4 : k = 4
  · rw [if_pos h4] at h ⊢
    split at h
    · rename_i hb
      obtain ⟨x, hx, rfl⟩ := Option.map_eq_some_iff.1 h
      obtain ⟨e1, e2⟩ := nums_some hx
      have c2 := cut3 (cutL s).2.1
      rw [hb] at c2
      have d2 := cutL_some c2
      have c1 := cut3 s
      have hb1 : (cutL s).2.2 = true := by
        cases hq : (cutL s).2.2 with
        | true => rfl
        | false =>
          rw [hq] at c1
          have := (cutL_none c1).2
          rw [this] at d2
          simp at d2
      rw [hb1] at c1
      have d1 := cutL_some c1
      rw [joinM_four, e1, e2, ← d2, ← d1]
    · cases h
  rw [if_neg h4] at h ⊢
  by_cases h6 : k = 6
  · rw [if_pos h6] at h ⊢
    obtain ⟨x, hx, rfl⟩ := Option.map_eq_some_iff.1 h
    obtain ⟨e1, e2⟩ := nums_some hx
    have c1 := cut3 s
    have hb1 : (cutL s).2.2 = true := by
      cases hq : (cutL s).2.2 with
      | true => rfl
      | false =>
        rw [hq] at c1
        have := (cutL_none c1).2
        rw [this] at e2
        exact absurd e2 (itoa_ne _)
    rw [hb1] at c1
    have d1 := cutL_some c1
    rw [joinM_three, e1, e2, ← d1]
  rw [if_neg h6] at h ⊢
  by_cases h7 : k = 7 ∨ k = 9
  · rw [if_pos h7] at h ⊢
    obtain ⟨x, hx, rfl⟩ := Option.map_eq_some_iff.1 h
    rw [joinM_two, (numP_some hx).1]
  rw [if_neg h7] at h ⊢
  by_cases h8 : k = 8
  · rw [if_pos h8] at h ⊢
    obtain ⟨x, hx, rfl⟩ := Option.map_eq_some_iff.1 h
    rw [joinM_two, hexL_unH hx]
  rw [if_neg h8] at h ⊢
  injection h with h
  subst h
  exact joinM_two _ _
theorem parse_some {l : List UInt8} {o : Op} (h : parseM l = some o) : rightM o = true ∧ textM o = l := by
  unfold parseM at h
  split at h
  · rename_i hb
    have c1 := cut3 l
    rw [hb] at c1
    have d1 := cutL_some c1
    cases hr : readM (kindL (cutL l).1) (cutL l).2.1 with
    | none => rw [hr] at h; cases h
    | some x =>
      rw [hr] at h
      simp only at h
      by_cases hx : rightM x = true
      · rw [if_pos hx] at h
        injection h with h
        subst h
        refine ⟨hx, ?_⟩
        have hk := read_kind hr
        have hw : wordL (kindL (cutL l).1) ≠ [] := by
          unfold rightM at hx
          simp only [Bool.and_eq_true, decide_eq_true_eq] at hx
          rw [← hk]
          exact hx.1.1
        rw [read_text hr hw]
        rcases word_kind (cutL l).1 with e | e
        · rw [e, ← d1]
        · rw [e] at hw
          exact absurd rfl hw
      · rw [if_neg hx] at h; cases h
  · cases h
end Go.Proofs.YtfbgnafnpeeonaaDoor.cal
