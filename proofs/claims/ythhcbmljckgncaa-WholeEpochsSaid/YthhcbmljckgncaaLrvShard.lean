/- What shards of caches of any kind have in common. No program's call, no condition. -/
import Derived.Test.YthhcbmljckgncaaShaSum
namespace Go.Proofs.Ythhcbmljckgncaa.sha
set_option maxRecDepth 100000
open Go.RowKit Go.Proofs.Ythhcbmljckgncaa.words Go.Proofs.Ythhcbmljckgncaa.lru

/-- In which of n shards a key is. -/
def ofF (k : ByteArray) (n : Nat) : Nat := sumF k.data.toList % n
theorem ofF_lt (k : ByteArray) {n : Nat} (h : 0 < n) : ofF k n < n := Nat.mod_lt _ h
theorem drawn_below {w w2 : World} (h2 : ∃ n, w2 = w.drew.drewN n) : Below w.heap.size w w2 := by
  obtain ⟨n, rfl⟩ := h2
  exact ⟨rfl, rfl, rfl, Nat.le_refl _, fun _ _ => rfl⟩
/-- The greatest of some numbers. -/
def mostF (l : List Nat) : Nat := l.foldl max 0
theorem mostF_snoc (l : List Nat) (x : Nat) : mostF (l ++ [x]) = max (mostF l) x := by rw [mostF, mostF, List.foldl_append, List.foldl_cons, List.foldl_nil]
theorem most_le (l : List Nat) (r : Nat) (h : ∀ x ∈ l, x ≤ r) : mostF l ≤ r := by
  have hg : ∀ (l : List Nat) (a : Nat), a ≤ r → (∀ x ∈ l, x ≤ r) → l.foldl max a ≤ r := fun l => by
    induction l with
    | nil => exact fun a ha _ => ha
    | cons y l ih => exact fun a ha hx => ih (max a y) (Nat.max_le.2 ⟨ha, hx y (List.mem_cons_self ..)⟩) fun x hx' => hx x (List.mem_cons_of_mem _ hx')
  exact hg l 0 (Nat.zero_le _) h
/-! Rows of pointers -/
def ptrC (g : Nat) : Value := .pointer (some ⟨g, 0, none⟩)
end Go.Proofs.Ythhcbmljckgncaa.sha
