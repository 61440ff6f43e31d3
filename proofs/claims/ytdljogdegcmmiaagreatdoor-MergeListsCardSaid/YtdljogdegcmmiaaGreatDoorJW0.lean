/- Heaps as lists: what a step up and a step down leave, that the first one is a least one, and rows merged as a sorted permutation. No program, no condition. -/
import Derived.WalkKit
namespace Go.Proofs.YtdljogdegcmmiaaGreatDoor.heap
open List

/-- A strict order in which what is not behind goes on. -/
structure Ord {α : Type} (lt : α → α → Prop) : Prop where
  asym : ∀ a b, lt a b → ¬ lt b a
  neg : ∀ a b c, ¬ lt a b → ¬ lt b c → ¬ lt a c

variable {α : Type} {lt : α → α → Prop}

def swapL (L : List α) (i j : Nat) (hi : i < L.length) (hj : j < L.length) : List α := (L.set i L[j]).set j L[i]
theorem swapL_length (L : List α) (i j : Nat) (hi : i < L.length) (hj : j < L.length) : (swapL L i j hi hj).length = L.length := by simp [swapL]
theorem swapL_perm (L : List α) (i j : Nat) (hi : i < L.length) (hj : j < L.length) : swapL L i j hi hj ~ L := List.set_set_perm hi hj
theorem swapL_get (L : List α) (i j k : Nat) (hi : i < L.length) (hj : j < L.length) (hk : k < (swapL L i j hi hj).length) :
    (swapL L i j hi hj)[k] = if k = j then L[i] else if k = i then L[j] else L[k]'(by simpa [swapL] using hk) := by
  simp only [swapL, List.getElem_set]
  by_cases h1 : k = j
  · subst h1; simp
  · rw [if_neg (fun e => h1 e.symm), if_neg h1]
    by_cases h2 : k = i
    · subst h2; simp
    · rw [if_neg (fun e => h2 e.symm), if_neg h2]

/-- The first n are a heap. -/
def Hp (lt : α → α → Prop) (L : List α) (n : Nat) : Prop := ∀ k p (hk : k < L.length) (hp : p < L.length), 0 < k → k < n → p = (k - 1) / 2 → ¬ lt L[k] L[p]
/-- The first n are a heap, but for the one at j, which may be ahead of its parent. -/
def Up (lt : α → α → Prop) (L : List α) (n j : Nat) : Prop :=
  (∀ k p (hk : k < L.length) (hp : p < L.length), 0 < k → k < n → k ≠ j → p = (k - 1) / 2 → ¬ lt L[k] L[p]) ∧
  (∀ k p (hk : k < L.length) (hp : p < L.length), 0 < k → k < n → (k - 1) / 2 = j → 0 < j → p = (j - 1) / 2 → ¬ lt L[k] L[p])
/-- The first n are a heap, but for the one at i, which may be behind its children. -/
def Down (lt : α → α → Prop) (L : List α) (n i : Nat) : Prop :=
  (∀ k p (hk : k < L.length) (hp : p < L.length), 0 < k → k < n → (k - 1) / 2 ≠ i → p = (k - 1) / 2 → ¬ lt L[k] L[p]) ∧
  (∀ k p (hk : k < L.length) (hp : p < L.length), 0 < k → k < n → (k - 1) / 2 = i → 0 < i → p = (i - 1) / 2 → ¬ lt L[k] L[p])

theorem Hp.zero (L : List α) : Hp lt L 0 := fun _ _ _ _ _ h => absurd h (Nat.not_lt_zero _)
theorem Hp.mono {L : List α} {n m : Nat} (h : Hp lt L n) (hm : m ≤ n) : Hp lt L m := fun k p hk hp h0 h1 h2 => h k p hk hp h0 (by omega) h2
theorem Hp.take {L : List α} {n : Nat} (h : Hp lt L n) (m : Nat) (hm : m ≤ n) : Hp lt (L.take m) m := fun k p hk hp h0 h1 h2 => by
  rw [List.getElem_take, List.getElem_take]
  exact h k p _ _ h0 (by omega) h2
/-- What is put behind a heap. -/
theorem Up.push {L : List α} (h : Hp lt L L.length) (x : α) : Up lt (L ++ [x]) (L.length + 1) L.length := by
  refine ⟨fun k p hk hp h0 h1 h2 h3 => ?_, fun k p hk hp h0 h1 h2 => by omega⟩
  rw [List.getElem_append_left (by omega), List.getElem_append_left (by omega)]
  exact h k p _ _ h0 (by omega) h3
theorem Up.done0 {L : List α} {n : Nat} (h : Up lt L n 0) : Hp lt L n := fun k p hk hp h0 h1 h2 => h.1 k p hk hp h0 h1 (by omega) h2
theorem Up.done {L : List α} {n j p : Nat} (h : Up lt L n j) (hj : j < L.length) (hp : p < L.length) (e : p = (j - 1) / 2) (hn : ¬ lt L[j] L[p]) : Hp lt L n := fun k q hk hq h0 h1 h2 => by
  by_cases hkj : k = j
  · subst hkj
    obtain rfl : q = p := by omega
    exact hn
  · exact h.1 k q hk hq h0 h1 hkj h2
theorem Up.step (O : Ord lt) {L : List α} {n j p : Nat} (h : Up lt L n j) (hj : j < L.length) (hp : p < L.length) (hjn : j < n) (h0 : 0 < j) (e : p = (j - 1) / 2) (hl : lt L[j] L[p]) : Up lt (swapL L p j hp hj) n p := by
  have hpj : p ≠ j := by omega
  constructor
  · intro k q hk hq k0 k1 k2 k3
    have hkL : k < L.length := by rw [swapL_length] at hk; exact hk
    have hqL : q < L.length := by rw [swapL_length] at hq; exact hq
    rw [swapL_get, swapL_get]
    by_cases e1 : k = j
    · subst e1
      obtain rfl : q = p := by omega
      rw [if_pos rfl, if_neg hpj, if_pos rfl]
      exact O.asym _ _ hl
    · rw [if_neg e1, if_neg k2]
      by_cases e2 : q = p
      · rw [if_neg (by omega), if_pos e2]
        have a1 := h.1 k p hkL hp k0 k1 e1 (by omega)
        intro hc
        exact O.neg _ _ _ a1 (O.asym _ _ hl) hc
      · by_cases e3 : q = j
        · rw [if_pos e3]
          exact h.2 k p hkL hp k0 k1 (by omega) h0 e
        · rw [if_neg e3, if_neg e2]
          exact h.1 k q hkL hqL k0 k1 e1 k3
  · intro k q hk hq k0 k1 k2 k3 k4
    have hkL : k < L.length := by rw [swapL_length] at hk; exact hk
    have hqL : q < L.length := by rw [swapL_length] at hq; exact hq
    rw [swapL_get, swapL_get]
    rw [if_neg (show ¬ q = j by omega), if_neg (show ¬ q = p by omega)]
    have a2 := h.1 p q hp hqL k3 (by omega) hpj k4
    by_cases e1 : k = j
    · rw [if_pos e1]
      exact a2
    · rw [if_neg e1, if_neg (by omega)]
      exact O.neg _ _ _ (h.1 k p hkL hp k0 k1 e1 (by omega)) a2

theorem Down.done {L : List α} {n i : Nat} (h : Down lt L n i) (hi : i < L.length) (hc : ∀ k (hk : k < L.length), 0 < k → k < n → (k - 1) / 2 = i → ¬ lt L[k] L[i]) : Hp lt L n := fun k q hk hq h0 h1 h2 => by
  by_cases e : (k - 1) / 2 = i
  · obtain rfl : q = i := by omega
    exact hc k hk h0 h1 e
  · exact h.1 k q hk hq h0 h1 e h2
/-- j: the child of i that no child of i is ahead of. -/
theorem Down.stop (O : Ord lt) {L : List α} {n i j : Nat} (h : Down lt L n i) (hi : i < L.length) (hj : j < L.length) (hm : ∀ k (hk : k < L.length), 0 < k → k < n → (k - 1) / 2 = i → ¬ lt L[k] L[j]) (hl : ¬ lt L[j] L[i]) : Hp lt L n :=
  h.done hi fun k hk h0 h1 h2 => O.neg _ _ _ (hm k hk h0 h1 h2) hl
theorem Down.step (O : Ord lt) {L : List α} {n i j : Nat} (h : Down lt L n i) (hi : i < L.length) (hj : j < L.length) (j0 : 0 < j) (hjn : j < n) (e : (j - 1) / 2 = i) (hm : ∀ k (hk : k < L.length), 0 < k → k < n → (k - 1) / 2 = i → ¬ lt L[k] L[j]) (hl : lt L[j] L[i]) : Down lt (swapL L i j hi hj) n j := by
  have hij : i ≠ j := by omega
  constructor
  · intro k q hk hq k0 k1 k2 k3
    have hkL : k < L.length := by rw [swapL_length] at hk; exact hk
    have hqL : q < L.length := by rw [swapL_length] at hq; exact hq
    rw [swapL_get, swapL_get]
    rw [if_neg (show ¬ q = j by omega)]
    by_cases e1 : k = j
    · subst e1
      obtain rfl : q = i := by omega
      rw [if_pos rfl, if_pos rfl]
      exact O.asym _ _ hl
    · rw [if_neg e1]
      by_cases e2 : q = i
      · subst e2
        rw [if_neg (by omega), if_pos rfl]
        exact hm k hkL k0 k1 (by omega)
      · rw [if_neg e2]
        by_cases e3 : k = i
        · rw [if_pos e3]
          subst e3
          exact h.2 j q hj hqL j0 hjn e k0 k3
        · rw [if_neg e3]
          exact h.1 k q hkL hqL k0 k1 (by omega) k3
  · intro k q hk hq k0 k1 k2 k3 k4
    have hkL : k < L.length := by rw [swapL_length] at hk; exact hk
    have hqL : q < L.length := by rw [swapL_length] at hq; exact hq
    rw [swapL_get, swapL_get]
    rw [if_neg (show ¬ q = j by omega), if_pos (show q = i by omega), if_neg (show ¬ k = j by omega), if_neg (show ¬ k = i by omega)]
    exact h.1 k j hkL hj k0 k1 (by omega) (by omega)
/-- Behind the exchange of the first and the last one of a heap. -/
theorem Down.start {L : List α} {n : Nat} (h : Hp lt L (n + 1)) (hn : n < L.length) : Down lt (swapL L 0 n (by omega) hn) n 0 := by
  refine ⟨fun k p hk hp h0 h1 h2 h3 => ?_, fun k p hk hp h0 h1 h2 h3 => by omega⟩
  rw [swapL_get, swapL_get, if_neg (by omega), if_neg (by omega), if_neg (by omega), if_neg (by omega)]
  exact h k p _ _ h0 (by omega) h3
/-- Nothing in a heap is ahead of its first one. -/
theorem Hp.least (O : Ord lt) {L : List α} {n : Nat} (h : Hp lt L n) : ∀ k (hk : k < L.length), k < n → ¬ lt L[k] (L[0]'(by omega)) := by
  intro k
  induction k using Nat.strongRecOn with
  | _ k ih =>
    intro hk hn
    by_cases h0 : k = 0
    · subst h0
      exact fun hc => O.asym _ _ hc hc
    · exact O.neg _ _ _ (h k ((k - 1) / 2) hk (by omega) (by omega) hn rfl) (ih _ (by omega) (by omega) (by omega))
end Go.Proofs.YtdljogdegcmmiaaGreatDoor.heap
