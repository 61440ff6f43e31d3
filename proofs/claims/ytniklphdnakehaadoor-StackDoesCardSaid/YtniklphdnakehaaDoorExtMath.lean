/- Plain words for what is in files: extents of a file of so many bytes, the byte at a place, what is read, the extents of bytes. No program, no condition. -/
namespace Go.Proofs.YtniklphdnakehaaDoor.ext
set_option maxRecDepth 100000

/-- Bytes from a place on. -/
structure Ex where
  O : Int
  D : ByteArray
instance : Inhabited Ex := ⟨⟨0, ⟨#[]⟩⟩⟩

def fitOne (size e : Int) (x : Ex) : Bool := decide (1 ≤ x.D.size ∧ e ≤ x.O ∧ x.O + (x.D.size : Int) ≤ size)
def rightFrom (size : Int) : Int → List Ex → Bool
  | _, [] => true
  | e, x :: L => fitOne size e x && rightFrom size (x.O + (x.D.size : Int)) L
def rightB (size : Int) (L : List Ex) : Bool := decide (0 ≤ size ∧ size ≤ 1048576) && rightFrom size 0 L
def Cov (x : Ex) (p : Int) : Prop := x.O ≤ p ∧ p < x.O + (x.D.size : Int)
instance (x : Ex) (p : Int) : Decidable (Cov x p) := by unfold Cov; exact inferInstance
def byteOf (x : Ex) (p : Int) : UInt8 := x.D.data.toList.getD (p - x.O).toNat 0
def atB : List Ex → Int → UInt8
  | [], _ => 0
  | x :: L, p => if Cov x p then byteOf x p else atB L p
def readL (L : List Ex) (off : Int) (m : Nat) : List UInt8 := (List.range m).map fun i : Nat => atB L (off + (i : Int))
def countOf (size off n : Int) : Nat := if off < 0 then 0 else (min n (size - off)).toNat
def readB (size : Int) (L : List Ex) (off n : Int) : List UInt8 := readL L off (countOf size off n)

theorem drop_at {α : Type} {L : List α} {k : Nat} {x : α} (h : L[k]? = some x) : L.drop k = x :: L.drop (k + 1) := by
  obtain ⟨hk, rfl⟩ := List.getElem?_eq_some_iff.1 h
  exact List.drop_eq_getElem_cons hk
theorem take_at {α : Type} {L : List α} {k : Nat} {x : α} (h : L[k]? = some x) : L.take (k + 1) = L.take k ++ [x] := by
  obtain ⟨hk, rfl⟩ := List.getElem?_eq_some_iff.1 h
  exact List.take_succ_eq_append_getElem hk

theorem rightFrom_cons (size e : Int) (x : Ex) (L : List Ex) : rightFrom size e (x :: L) = (fitOne size e x && rightFrom size (x.O + (x.D.size : Int)) L) := rfl
theorem fitOne_yes {size e : Int} {x : Ex} (h1 : 1 ≤ x.D.size) (h2 : e ≤ x.O) (h3 : x.O + (x.D.size : Int) ≤ size) : fitOne size e x = true := decide_eq_true ⟨h1, h2, h3⟩
theorem fitOne_no {size e : Int} {x : Ex} (h : ¬ (1 ≤ x.D.size ∧ e ≤ x.O ∧ x.O + (x.D.size : Int) ≤ size)) : fitOne size e x = false := decide_eq_false h

/-- Extents that are right: each fits, and each pair stands in order. -/
theorem rightFrom_iff (size : Int) : ∀ (L : List Ex) (e : Int), rightFrom size e L = true ↔
    (∀ x ∈ L, 1 ≤ x.D.size ∧ e ≤ x.O ∧ x.O + (x.D.size : Int) ≤ size) ∧ L.Pairwise fun x y => x.O + (x.D.size : Int) ≤ y.O
  | [], e => by simp [rightFrom]
  | x :: L, e => by
    rw [rightFrom_cons, Bool.and_eq_true, rightFrom_iff size L, List.pairwise_cons]
    unfold fitOne
    rw [decide_eq_true_iff]
    constructor
    · rintro ⟨⟨h1, h2, h3⟩, h4, h5⟩
      refine ⟨fun y hy => ?_, fun y hy => (h4 y hy).2.1, h5⟩
      rcases List.mem_cons.1 hy with rfl | hy
      · exact ⟨h1, h2, h3⟩
      · have := h4 y hy
        exact ⟨this.1, by omega, this.2.2⟩
    · rintro ⟨h1, h2, h3⟩
      refine ⟨h1 x (List.mem_cons_self ..), fun y hy => ⟨(h1 y (List.mem_cons_of_mem _ hy)).1, h2 y hy, (h1 y (List.mem_cons_of_mem _ hy)).2.2⟩, h3⟩
theorem rightB_iff {size : Int} {L : List Ex} : rightB size L = true ↔ (0 ≤ size ∧ size ≤ 1048576) ∧
    (∀ x ∈ L, 1 ≤ x.D.size ∧ 0 ≤ x.O ∧ x.O + (x.D.size : Int) ≤ size) ∧ L.Pairwise fun x y => x.O + (x.D.size : Int) ≤ y.O := by
  unfold rightB
  rw [Bool.and_eq_true, decide_eq_true_iff, rightFrom_iff]

theorem atB_cons (x : Ex) (L : List Ex) (p : Int) : atB (x :: L) p = if Cov x p then byteOf x p else atB L p := rfl
theorem atB_none : ∀ {L : List Ex} {p : Int}, (∀ x ∈ L, ¬ Cov x p) → atB L p = 0
  | [], _, _ => rfl
  | x :: L, p, h => by
    rw [atB_cons, if_neg (h x (List.mem_cons_self ..))]
    exact atB_none fun y hy => h y (List.mem_cons_of_mem _ hy)
theorem atB_append_none : ∀ {L M : List Ex} {p : Int}, (∀ x ∈ M, ¬ Cov x p) → atB (L ++ M) p = atB L p
  | [], M, p, h => atB_none h
  | x :: L, M, p, h => by
    rw [List.cons_append, atB_cons, atB_cons, atB_append_none h]
theorem atB_append_right : ∀ {L M : List Ex} {p : Int}, (∀ x ∈ L, ¬ Cov x p) → atB (L ++ M) p = atB M p
  | [], _, _, _ => rfl
  | x :: L, M, p, h => by
    rw [List.cons_append, atB_cons, if_neg (h x (List.mem_cons_self ..))]
    exact atB_append_right fun y hy => h y (List.mem_cons_of_mem _ hy)
theorem atB_all : ∀ {L : List Ex} {p : Int} {b : UInt8}, (∀ x ∈ L, Cov x p → byteOf x p = b) → (∃ x ∈ L, Cov x p) → atB L p = b
  | [], _, _, _, h => by obtain ⟨x, hx, _⟩ := h; cases hx
  | x :: L, p, b, h1, h2 => by
    rw [atB_cons]
    by_cases hc : Cov x p
    · rw [if_pos hc]
      exact h1 x (List.mem_cons_self ..) hc
    · rw [if_neg hc]
      obtain ⟨y, hy, hyc⟩ := h2
      rcases List.mem_cons.1 hy with rfl | hy
      · exact absurd hyc hc
      · exact atB_all (fun z hz => h1 z (List.mem_cons_of_mem _ hz)) ⟨y, hy, hyc⟩
theorem atB_single (x : Ex) (p : Int) : atB [x] p = if Cov x p then byteOf x p else 0 := rfl

/-! What is in a buffer while extents are laid into it, one behind the other -/
theorem pair_at {L : List Ex} (hp : L.Pairwise fun x y => x.O + (x.D.size : Int) ≤ y.O) {i j : Nat} {x y : Ex} (hij : i < j) (hx : L[i]? = some x) (hy : L[j]? = some y) : x.O + (x.D.size : Int) ≤ y.O := by
  obtain ⟨hi, rfl⟩ := List.getElem?_eq_some_iff.1 hx
  obtain ⟨hj, rfl⟩ := List.getElem?_eq_some_iff.1 hy
  exact List.pairwise_iff_getElem.1 hp i j hi hj hij
theorem mem_take_at {L : List Ex} {k : Nat} {y : Ex} (h : y ∈ L.take k) : ∃ i, i < k ∧ L[i]? = some y := by
  obtain ⟨i, hi⟩ := List.mem_iff_getElem?.1 h
  have hlt : i < k := by
    have := (List.getElem?_eq_some_iff.1 hi).1
    rw [List.length_take] at this
    omega
  rw [List.getElem?_take_of_lt hlt] at hi
  exact ⟨i, hlt, hi⟩
theorem mem_drop_at {L : List Ex} {k : Nat} {y : Ex} (h : y ∈ L.drop k) : ∃ i, k ≤ i ∧ L[i]? = some y := by
  obtain ⟨i, hi⟩ := List.mem_iff_getElem?.1 h
  rw [List.getElem?_drop] at hi
  exact ⟨k + i, by omega, hi⟩
/-- One extent more. -/
theorem atB_more {L : List Ex} (hp : L.Pairwise fun x y => x.O + (x.D.size : Int) ≤ y.O) {k : Nat} {x : Ex} (hx : L[k]? = some x) (p : Int) :
    atB (L.take (k + 1)) p = if Cov x p then byteOf x p else atB (L.take k) p := by
  rw [take_at hx]
  by_cases hc : Cov x p
  · rw [if_pos hc, atB_append_right, atB_single, if_pos hc]
    intro y hy hyc
    obtain ⟨i, hi, hyi⟩ := mem_take_at hy
    have := pair_at hp hi hyi hx
    unfold Cov at hc hyc
    omega
  · rw [if_neg hc, atB_append_none]
    intro y hy
    rw [List.mem_singleton] at hy
    subst hy
    exact hc
/-- The extents behind one that begins behind a place have nothing of it. -/
theorem atB_rest {L : List Ex} (hp : L.Pairwise fun x y => x.O + (x.D.size : Int) ≤ y.O) {k : Nat} {x : Ex} (hx : L[k]? = some x) {p : Int} (h : p < x.O) : atB L p = atB (L.take k) p := by
  conv => lhs; rw [← List.take_append_drop k L]
  refine atB_append_none fun y hy hc => ?_
  obtain ⟨i, hi, hyi⟩ := mem_drop_at hy
  unfold Cov at hc
  rcases Nat.lt_or_ge k i with hlt | hge
  · have := pair_at hp hlt hx hyi
    have hs : (0 : Int) ≤ x.D.size := Int.natCast_nonneg _
    omega
  · obtain rfl : i = k := by omega
    rw [hx] at hyi
    injection hyi with e
    subst e
    omega
theorem atB_ahead {L : List Ex} {k : Nat} {off p : Int} (h : ∀ i x, i < k → L[i]? = some x → x.O + (x.D.size : Int) ≤ off) (hp : off ≤ p) : atB (L.take k) p = 0 := by
  refine atB_none fun y hy hc => ?_
  obtain ⟨i, hi, hyi⟩ := mem_take_at hy
  have := h i y hi hyi
  unfold Cov at hc
  omega
theorem readL_length (L : List Ex) (off : Int) (m : Nat) : (readL L off m).length = m := by simp [readL]
theorem readL_at {L : List Ex} {off : Int} {m i : Nat} (h : i < m) : (readL L off m)[i]? = some (atB L (off + (i : Int))) := by
  simp [readL, List.getElem?_range h]
theorem readL_succ (L : List Ex) (off : Int) (k : Nat) : readL L off (k + 1) = readL L off k ++ [atB L (off + (k : Int))] := by
  simp [readL, List.range_succ]
theorem readL_eq {L M : List Ex} {off : Int} {m : Nat} (h : ∀ i : Nat, i < m → atB L (off + (i : Int)) = atB M (off + (i : Int))) : readL L off m = readL M off m := by
  unfold readL
  exact List.map_congr_left fun i hi => h i (List.mem_range.1 hi)
theorem readL_zero {L : List Ex} {off : Int} {m : Nat} (h : ∀ i : Nat, i < m → atB L (off + (i : Int)) = 0) : readL L off m = List.replicate m 0 := by
  rw [List.eq_replicate_iff]
  refine ⟨readL_length _ _ _, fun b hb => ?_⟩
  unfold readL at hb
  obtain ⟨i, hi, rfl⟩ := List.mem_map.1 hb
  exact h i (List.mem_range.1 hi)

/-! The extents of bytes -/
def byteAt (s : ByteArray) (p : Nat) : UInt8 := s.data.toList.getD p 0
def ofStep (s : ByteArray) (st : Nat × List Ex) (i : Nat) : Nat × List Ex :=
  if i < s.size ∧ byteAt s i ≠ 0 then st else (i + 1, if st.1 < i then st.2 ++ [⟨(st.1 : Int), s.extract st.1 i⟩] else st.2)
def ofSt (s : ByteArray) (k : Nat) : Nat × List Ex := (List.range k).foldl (ofStep s) (0, [])
def ofB (s : ByteArray) : List Ex := (ofSt s (s.size + 1)).2
theorem ofSt_succ (s : ByteArray) (k : Nat) : ofSt s (k + 1) = ofStep s (ofSt s k) k := by
  unfold ofSt
  rw [List.range_succ, List.foldl_append]
  rfl
theorem ofSt_on {s : ByteArray} {k : Nat} (h : k < s.size ∧ byteAt s k ≠ 0) : ofSt s (k + 1) = ofSt s k := by
  rw [ofSt_succ]; unfold ofStep; rw [if_pos h]
theorem ofSt_none {s : ByteArray} {k : Nat} (h : ¬ (k < s.size ∧ byteAt s k ≠ 0)) (h2 : ¬ (ofSt s k).1 < k) : ofSt s (k + 1) = (k + 1, (ofSt s k).2) := by
  rw [ofSt_succ]; unfold ofStep; rw [if_neg h, if_neg h2]
theorem ofSt_some {s : ByteArray} {k : Nat} (h : ¬ (k < s.size ∧ byteAt s k ≠ 0)) (h2 : (ofSt s k).1 < k) : ofSt s (k + 1) = (k + 1, (ofSt s k).2 ++ [⟨((ofSt s k).1 : Int), s.extract (ofSt s k).1 k⟩]) := by
  rw [ofSt_succ]; unfold ofStep; rw [if_neg h, if_pos h2]

/-- A row of bytes of s none of which is a nought. -/
def Row (s : ByteArray) (x : Ex) : Prop := ∃ a b : Nat, a < b ∧ b ≤ s.size ∧ x = ⟨(a : Int), s.extract a b⟩ ∧ ∀ j, a ≤ j → j < b → byteAt s j ≠ 0
theorem size_piece (s : ByteArray) {a b : Nat} (h1 : a ≤ b) (h2 : b ≤ s.size) : (s.extract a b).size = b - a := by
  rw [ByteArray.size_extract]; omega
structure OfInv (s : ByteArray) (k : Nat) (st : Nat × List Ex) : Prop where
  le : st.1 ≤ k
  on : ∀ j, st.1 ≤ j → j < k → j < s.size → byteAt s j ≠ 0
  last : st.1 = k ∨ k ≤ s.size
  row : ∀ x ∈ st.2, Row s x ∧ x.O + (x.D.size : Int) < (st.1 : Int)
  gap : st.2.Pairwise fun x y => x.O + (x.D.size : Int) < y.O
  cov : ∀ p : Nat, p < st.1 → p < s.size → byteAt s p ≠ 0 → ∃ x ∈ st.2, Cov x p
  count : st.2.length ≤ st.1
theorem ofInv (s : ByteArray) : ∀ k, k ≤ s.size + 1 → OfInv s k (ofSt s k)
  | 0, _ => ⟨Nat.le_refl _, fun j _ h => absurd h (Nat.not_lt_zero _), .inl rfl, (fun x hx => by cases hx), List.Pairwise.nil, fun p h => absurd h (Nat.not_lt_zero _), Nat.le_refl _⟩
  | k + 1, hk => by
    have h := ofInv s k (by omega)
    by_cases ho : k < s.size ∧ byteAt s k ≠ 0
    · rw [ofSt_on ho]
      refine ⟨Nat.le_succ_of_le h.le, fun j h1 h2 h3 => ?_, .inr (by omega), h.row, h.gap, h.cov, h.count⟩
      rcases Nat.lt_or_ge j k with hj | hj
      · exact h.on j h1 hj h3
      · obtain rfl : j = k := by omega
        exact ho.2
    · by_cases hf : (ofSt s k).1 < k
      · rw [ofSt_some ho hf]
        have hks : k ≤ s.size := by omega
        have hrow : Row s ⟨((ofSt s k).1 : Int), s.extract (ofSt s k).1 k⟩ := ⟨_, k, hf, hks, rfl, fun j h1 h2 => h.on j h1 h2 (by omega)⟩
        have hsz : ((s.extract (ofSt s k).1 k).size : Int) = (k : Int) - ((ofSt s k).1 : Int) := by rw [size_piece s (by omega) hks]; omega
        refine ⟨Nat.le_refl _, fun j h1 h2 => absurd h2 (by show ¬ j < k + 1; have : k + 1 ≤ j := h1; omega), .inl rfl, fun x hx => ?_, ?_, fun p h1 h2 h3 => ?_, ?_⟩
        · rcases List.mem_append.1 hx with hx | hx
          · have := (h.row x hx).2
            have := h.le
            exact ⟨(h.row x hx).1, by show _ < ((k + 1 : Nat) : Int); omega⟩
          · rw [List.mem_singleton] at hx
            subst hx
            refine ⟨hrow, ?_⟩
            show ((ofSt s k).1 : Int) + ((s.extract (ofSt s k).1 k).size : Int) < ((k + 1 : Nat) : Int)
            omega
        · rw [List.pairwise_append]
          refine ⟨h.gap, List.pairwise_singleton _ _, fun x hx y hy => ?_⟩
          rw [List.mem_singleton] at hy
          subst hy
          exact (h.row x hx).2
        · by_cases hp : p < (ofSt s k).1
          · obtain ⟨x, hx, hc⟩ := h.cov p hp h2 h3
            exact ⟨x, List.mem_append_left _ hx, hc⟩
          · refine ⟨_, List.mem_append_right _ (List.mem_singleton.2 rfl), ?_⟩
            have hpk : p ≠ k := by rintro rfl; exact ho ⟨h2, h3⟩
            have : p < k + 1 := h1
            unfold Cov
            show ((ofSt s k).1 : Int) ≤ (p : Int) ∧ (p : Int) < ((ofSt s k).1 : Int) + ((s.extract (ofSt s k).1 k).size : Int)
            omega
        · show ((ofSt s k).2 ++ [_]).length ≤ k + 1
          rw [List.length_append]
          have := h.count
          have := h.le
          simp
          omega
      · rw [ofSt_none ho hf]
        refine ⟨Nat.le_refl _, fun j h1 h2 => absurd h2 (by show ¬ j < k + 1; have : k + 1 ≤ j := h1; omega), .inl rfl, fun x hx => ?_, h.gap, fun p h1 h2 h3 => ?_, ?_⟩
        · have := (h.row x hx).2
          have := h.le
          exact ⟨(h.row x hx).1, by show _ < ((k + 1 : Nat) : Int); omega⟩
        · have h1' : p < k + 1 := h1
          have hpk : p ≠ k := by rintro rfl; exact ho ⟨h2, h3⟩
          exact h.cov p (by have := h.le; omega) h2 h3
        · show (ofSt s k).2.length ≤ k + 1
          have := h.count
          have := h.le
          omega
theorem ofB_inv (s : ByteArray) : OfInv s (s.size + 1) (s.size + 1, ofB s) := by
  have h := ofInv s (s.size + 1) (Nat.le_refl _)
  have e : (ofSt s (s.size + 1)).1 = s.size + 1 := by
    rcases h.last with h1 | h1
    · exact h1
    · omega
  have : ofSt s (s.size + 1) = (s.size + 1, ofB s) := Prod.ext e rfl
  rwa [this] at h
theorem Row.facts {s : ByteArray} {x : Ex} (h : Row s x) : 1 ≤ x.D.size ∧ 0 ≤ x.O ∧ x.O + (x.D.size : Int) ≤ s.size := by
  obtain ⟨a, b, h1, h2, rfl, _⟩ := h
  have := size_piece s (Nat.le_of_lt h1) h2
  show 1 ≤ (s.extract a b).size ∧ (0 : Int) ≤ (a : Int) ∧ (a : Int) + ((s.extract a b).size : Int) ≤ _
  omega
theorem extract_list (s : ByteArray) (a b : Nat) : (s.extract a b).data.toList = (s.data.toList.take b).drop a := by
  rw [ByteArray.data_extract, Array.toList_extract, List.extract_eq_take_drop, List.take_drop]
  by_cases h : a ≤ b
  · rw [show a + (b - a) = b by omega]
  · rw [show b - a = 0 by omega, Nat.add_zero, List.drop_of_length_le (by rw [List.length_take]; omega), List.drop_of_length_le (by rw [List.length_take]; omega)]
theorem Row.byte {s : ByteArray} {x : Ex} (h : Row s x) {p : Nat} (hc : Cov x p) : byteOf x p = byteAt s p := by
  obtain ⟨a, b, h1, h2, rfl, _⟩ := h
  unfold Cov at hc
  have hz := size_piece s (Nat.le_of_lt h1) h2
  have hc' : (a : Int) ≤ (p : Int) ∧ (p : Int) < (a : Int) + ((s.extract a b).size : Int) := hc
  show (s.extract a b).data.toList.getD ((p : Int) - (a : Int)).toNat 0 = _
  unfold byteAt
  rw [extract_list, List.getD_eq_getElem?_getD, List.getD_eq_getElem?_getD, List.getElem?_drop, show a + ((p : Int) - (a : Int)).toNat = p by omega, List.getElem?_take_of_lt (by omega)]
theorem Row.none {s : ByteArray} {x : Ex} (h : Row s x) {i : Nat} (hi : i < x.D.size) : x.D.data.toList.getD i 0 ≠ 0 := by
  obtain ⟨a, b, h1, h2, rfl, h3⟩ := h
  have hz := size_piece s (Nat.le_of_lt h1) h2
  have hi' : i < (s.extract a b).size := hi
  show (s.extract a b).data.toList.getD i 0 ≠ 0
  rw [extract_list, List.getD_eq_getElem?_getD, List.getElem?_drop, List.getElem?_take_of_lt (by omega), ← List.getD_eq_getElem?_getD]
  exact h3 (a + i) (by omega) (by omega)
theorem ofB_right (s : ByteArray) (hs : s.size ≤ 1048576) : rightB s.size (ofB s) = true := by
  have h := ofB_inv s
  rw [rightB_iff]
  refine ⟨⟨by omega, by omega⟩, fun x hx => ((h.row x hx).1).facts, h.gap.imp fun hxy => by omega⟩
theorem ofB_at (s : ByteArray) {p : Nat} (hp : p < s.size) : atB (ofB s) p = byteAt s p := by
  have h := ofB_inv s
  by_cases h0 : byteAt s p = 0
  · rw [h0]
    refine atB_none fun x hx hc => ?_
    have hr := (h.row x hx).1
    have hb := hr.byte hc
    unfold Cov at hc
    refine hr.none (i := ((p : Int) - x.O).toNat) (by omega) ?_
    rw [h0] at hb
    exact hb
  · exact atB_all (fun x hx hc => (h.row x hx).1.byte hc) (h.cov p (by omega) hp h0)
theorem ofB_read (s : ByteArray) : readB s.size (ofB s) 0 s.size = s.data.toList := by
  unfold readB countOf
  rw [if_neg (by omega), show (min (s.size : Int) ((s.size : Int) - 0)).toNat = s.size by omega]
  have hl : s.data.toList.length = s.size := by rw [Array.length_toList]; rfl
  refine List.ext_getElem? fun i => ?_
  by_cases hi : i < s.size
  · rw [readL_at hi, Int.zero_add, ofB_at s hi]
    unfold byteAt
    rw [List.getD_eq_getElem?_getD, List.getElem?_eq_getElem (by omega)]
    rfl
  · rw [List.getElem?_eq_none (by rw [readL_length]; omega), List.getElem?_eq_none (by omega)]
theorem ofB_length (s : ByteArray) : (ofB s).length ≤ s.size + 1 := (ofB_inv s).count
end Go.Proofs.YtniklphdnakehaaDoor.ext
