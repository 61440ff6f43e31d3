/- A cache as a list of keys with their values, that which was used last first: what is got, what is put, and what goes. No program, no condition. -/
import Derived.Test.YtfbgnafnpeeonaaDoorWords
namespace Go.Proofs.YtfbgnafnpeeonaaDoor.lru
set_option maxRecDepth 100000

section
variable {κ ν : Type}
/-- Each key once, and no more than there is room for. -/
structure Ok (L : List (κ × ν)) (r : Nat) : Prop where
  nd : (L.map (·.1)).Nodup
  len : L.length ≤ r
  pos : 1 ≤ r
theorem split_at {L : List (κ × ν)} {i : Nat} {p : κ × ν} (h : L[i]? = some p) : L = L.take i ++ p :: L.drop (i + 1) := by
  obtain ⟨hi, hp⟩ := List.getElem?_eq_some_iff.1 h
  rw [← hp, List.getElem_cons_drop hi, List.take_append_drop]
theorem nd_parts {L A B : List (κ × ν)} {p : κ × ν} (h : L = A ++ p :: B) (nd : (L.map (·.1)).Nodup) : (∀ q ∈ A, q.1 ≠ p.1) ∧ (∀ q ∈ B, q.1 ≠ p.1) := by
  subst h
  rw [List.map_append, List.map_cons, List.nodup_append] at nd
  obtain ⟨_, h2, h3⟩ := nd
  rw [List.nodup_cons] at h2
  exact ⟨fun q hq => h3 _ (List.mem_map_of_mem hq) _ (List.mem_cons_self ..), fun q hq he => h2.1 (he ▸ List.mem_map_of_mem hq)⟩
theorem Ok.new {r : Nat} (h : 1 ≤ r) : Ok ([] : List (κ × ν)) r := ⟨List.nodup_nil, Nat.zero_le _, h⟩
end
section
variable {κ ν : Type} [DecidableEq κ]
/-- All pairs but that of a key. -/
def rest (L : List (κ × ν)) (k : κ) : List (κ × ν) := L.filter fun p => !decide (p.1 = k)
def val (L : List (κ × ν)) (k : κ) : Option ν := (L.find? fun p => decide (p.1 = k)).map (·.2)
def getL (L : List (κ × ν)) (k : κ) : List (κ × ν) := match val L k with
  | some v => (k, v) :: rest L k
  | none => L
def goneB (L : List (κ × ν)) (r : Nat) (k : κ) : Bool := decide (r < (rest L k).length + 1)
def goneK (L : List (κ × ν)) (r : Nat) (k z : κ) : κ := if goneB L r k = true then (((rest L k).getLast?).map (·.1)).getD z else z
def putL (L : List (κ × ν)) (r : Nat) (k : κ) (v : ν) : List (κ × ν) := if goneB L r k = true then ((k, v) :: rest L k).dropLast else (k, v) :: rest L k
theorem rest_none {L : List (κ × ν)} {k : κ} (h : ∀ p ∈ L, p.1 ≠ k) : rest L k = L :=
  List.filter_eq_self.2 fun p hp => by simp [h p hp]
theorem mem_rest {L : List (κ × ν)} {k : κ} {p : κ × ν} : p ∈ rest L k ↔ p ∈ L ∧ p.1 ≠ k := by simp [rest]
theorem rest_le (L : List (κ × ν)) (k : κ) : (rest L k).length ≤ L.length := List.length_filter_le _ _
theorem rest_at {L : List (κ × ν)} {i : Nat} {k : κ} {x : ν} (h : L[i]? = some (k, x)) (nd : (L.map (·.1)).Nodup) : rest L k = L.take i ++ L.drop (i + 1) := by
  have hs := split_at h
  obtain ⟨h1, h2⟩ := nd_parts hs nd
  have e : rest L k = rest (L.take i ++ (k, x) :: L.drop (i + 1)) k := by rw [← hs]
  rw [e]
  unfold rest
  rw [List.filter_append, List.filter_cons_of_neg (by simp)]
  have r1 := rest_none h1
  have r2 := rest_none h2
  unfold rest at r1 r2
  rw [r1, r2]
theorem rest_at_len {L : List (κ × ν)} {i : Nat} {k : κ} {x : ν} (h : L[i]? = some (k, x)) (nd : (L.map (·.1)).Nodup) : (rest L k).length + 1 = L.length := by
  rw [rest_at h nd]
  have hi := (List.getElem?_eq_some_iff.1 h).1
  simp
  omega
theorem val_none {L : List (κ × ν)} {k : κ} (h : ∀ p ∈ L, p.1 ≠ k) : val L k = none := by
  unfold val
  rw [List.find?_eq_none.2 (fun p hp => by simp [h p hp])]
  rfl
theorem val_at {L : List (κ × ν)} {i : Nat} {k : κ} {x : ν} (h : L[i]? = some (k, x)) (nd : (L.map (·.1)).Nodup) : val L k = some x := by
  have hs := split_at h
  obtain ⟨h1, _⟩ := nd_parts hs nd
  have e : val L k = val (L.take i ++ (k, x) :: L.drop (i + 1)) k := by rw [← hs]
  rw [e]
  unfold val
  rw [List.find?_append, List.find?_eq_none.2 (fun p hp => by simp [h1 p hp])]
  simp
theorem val_mem {L : List (κ × ν)} {k : κ} {x : ν} (h : val L k = some x) : (k, x) ∈ L := by
  unfold val at h
  rcases he : L.find? (fun p => decide (p.1 = k)) with _ | q
  · rw [he] at h; cases h
  · rw [he] at h
    obtain ⟨a, b⟩ := q
    have hk : a = k := by simpa using List.find?_some he
    have hx : b = x := by simpa using h
    have := List.mem_of_find?_eq_some he
    rwa [hk, hx] at this
/-- A key is there, at a place, or it isn't. -/
theorem there (L : List (κ × ν)) (k : κ) : (∃ (i : Nat) (x : ν), L[i]? = some (k, x)) ∨ ∀ p ∈ L, p.1 ≠ k := by
  by_cases h : ∃ p, p ∈ L ∧ p.1 = k
  · obtain ⟨⟨a, x⟩, hp, rfl⟩ := h
    obtain ⟨i, hi⟩ := List.mem_iff_getElem?.1 hp
    exact .inl ⟨i, x, hi⟩
  · exact .inr fun p hp he => h ⟨p, hp, he⟩
theorem nd_rest {L : List (κ × ν)} (k : κ) (nd : (L.map (·.1)).Nodup) : ((rest L k).map (·.1)).Nodup :=
  List.Sublist.nodup (List.Sublist.map _ List.filter_sublist) nd
theorem nd_use {L : List (κ × ν)} (k : κ) (v : ν) (nd : (L.map (·.1)).Nodup) : (((k, v) :: rest L k).map (·.1)).Nodup := by
  rw [List.map_cons, List.nodup_cons]
  refine ⟨fun h => ?_, nd_rest k nd⟩
  obtain ⟨p, hp, he⟩ := List.mem_map.1 h
  exact (mem_rest.1 hp).2 he
theorem Ok.get {L : List (κ × ν)} {r : Nat} (h : Ok L r) (k : κ) : Ok (getL L k) r := by
  unfold getL
  split
  · rename_i v hv
    obtain ⟨i, hi⟩ := List.mem_iff_getElem?.1 (val_mem hv)
    refine ⟨nd_use k v h.nd, ?_, h.pos⟩
    have := rest_at_len hi h.nd
    have := h.len
    rw [List.length_cons]; omega
  · exact h
theorem Ok.put {L : List (κ × ν)} {r : Nat} (h : Ok L r) (k : κ) (v : ν) : Ok (putL L r k v) r := by
  unfold putL
  split
  · refine ⟨List.Sublist.nodup (List.Sublist.map _ (List.dropLast_sublist _)) (nd_use k v h.nd), ?_, h.pos⟩
    have := rest_le L k
    have := h.len
    rw [List.length_dropLast, List.length_cons]; omega
  · rename_i hg
    refine ⟨nd_use k v h.nd, ?_, h.pos⟩
    have : ¬ r < (rest L k).length + 1 := by simpa [goneB] using hg
    rw [List.length_cons]; omega

/-- What is put over a key that is there. -/
theorem put_at {L : List (κ × ν)} {r i : Nat} {k : κ} {x : ν} (h : Ok L r) (hi : L[i]? = some (k, x)) (v : ν) (z : κ) :
    putL L r k v = (k, v) :: (L.take i ++ L.drop (i + 1)) ∧ goneB L r k = false ∧ goneK L r k z = z := by
  have hg : goneB L r k = false := by
    have := rest_at_len hi h.nd
    have := h.len
    simp [goneB]; omega
  refine ⟨?_, hg, ?_⟩
  · unfold putL; rw [hg, if_neg (by simp), rest_at hi h.nd]
  · unfold goneK; rw [hg, if_neg (by simp)]
/-- What is put where there is room. -/
theorem put_new {L : List (κ × ν)} {r : Nat} {k : κ} (hn : ∀ p ∈ L, p.1 ≠ k) (hl : L.length < r) (v : ν) (z : κ) :
    putL L r k v = (k, v) :: L ∧ goneB L r k = false ∧ goneK L r k z = z := by
  have hr := rest_none hn
  have hg : goneB L r k = false := by simp [goneB, hr]; omega
  refine ⟨?_, hg, ?_⟩
  · unfold putL; rw [hg, if_neg (by simp), hr]
  · unfold goneK; rw [hg, if_neg (by simp)]
/-- What is put where there is no room. -/
theorem put_full {L : List (κ × ν)} {n : Nat} {k : κ} {p : κ × ν} (hn : ∀ p ∈ L, p.1 ≠ k) (hl : L.length = n + 1) (hp : L[n]? = some p) (v : ν) (z : κ) :
    putL L (n + 1) k v = (k, v) :: (L.take n ++ L.drop (n + 1)) ∧ goneB L (n + 1) k = true ∧ goneK L (n + 1) k z = p.1 := by
  have hr := rest_none hn
  have hg : goneB L (n + 1) k = true := by simp [goneB, hr]; omega
  refine ⟨?_, hg, ?_⟩
  · unfold putL
    rw [if_pos hg, hr, List.drop_of_length_le (by omega), List.append_nil]
    rcases L with _ | ⟨a, L⟩
    · simp at hl
    · rw [List.dropLast_cons_of_ne_nil (by simp), List.dropLast_eq_take, hl]
      rfl
  · unfold goneK
    rw [if_pos hg, hr, List.getLast?_eq_getElem?, hl, Nat.add_sub_cancel, hp]
    rfl
theorem got_at {L : List (κ × ν)} {r i : Nat} {k : κ} {x : ν} (h : Ok L r) (hi : L[i]? = some (k, x)) : val L k = some x ∧ getL L k = (k, x) :: (L.take i ++ L.drop (i + 1)) := by
  have hv := val_at hi h.nd
  refine ⟨hv, ?_⟩
  unfold getL
  rw [hv, rest_at hi h.nd]
theorem get_none {L : List (κ × ν)} {k : κ} (hn : ∀ p ∈ L, p.1 ≠ k) : val L k = none ∧ getL L k = L := by
  have hv := val_none hn
  refine ⟨hv, ?_⟩
  unfold getL
  rw [hv]
theorem rest_rest (L : List (κ × ν)) (k : κ) : rest (rest L k) k = rest L k := rest_none fun _ hp => (mem_rest.1 hp).2
theorem rest_get (L : List (κ × ν)) (k : κ) : rest (getL L k) k = rest L k := by
  unfold getL
  split
  · rename_i v hv
    have : rest ((k, v) :: rest L k) k = rest (rest L k) k := by unfold rest; rw [List.filter_cons_of_neg (by simp)]
    rw [this, rest_rest]
  · rfl
theorem gone_get (L : List (κ × ν)) (r : Nat) (k : κ) : goneB (getL L k) r k = goneB L r k := by unfold goneB; rw [rest_get]
theorem put_get (L : List (κ × ν)) (r : Nat) (k : κ) (v : ν) : putL (getL L k) r k v = putL L r k v := by unfold putL; rw [gone_get, rest_get]
theorem get_len {L : List (κ × ν)} {r : Nat} (h : Ok L r) (k : κ) : (getL L k).length = L.length := by
  unfold getL
  split
  · rename_i v hv
    obtain ⟨i, hi⟩ := List.mem_iff_getElem?.1 (val_mem hv)
    rw [List.length_cons, rest_at_len hi h.nd]
  · rfl
theorem put_le (L : List (κ × ν)) (r : Nat) (k : κ) (v : ν) : (putL L r k v).length ≤ L.length + 1 := by
  unfold putL
  have := rest_le L k
  split
  · rw [List.length_dropLast, List.length_cons]; omega
  · rw [List.length_cons]; omega
end
end Go.Proofs.YtfbgnafnpeeonaaDoor.lru
