/- What merge's Names answers of entries, and Page: so many of them from one on, and whether there are none behind them. Conditions: the entries lie in memory. -/
import Derived.Test.YtkbhcncbpiimdaaGreatDoorJM1
import Derived.Test.YtkbhcncbpiimdaaGreatDoorJP
namespace Go.Proofs.YtkbhcncbpiimdaaGreatDoor.mrg
set_option maxRecDepth 100000
open Go.RowKit Go.Proofs.YtkbhcncbpiimdaaGreatDoor.words Go.Proofs.YtkbhcncbpiimdaaGreatDoor.ext Go.Proofs.YtkbhcncbpiimdaaGreatDoor.name Go.Proofs.YtkbhcncbpiimdaaGreatDoor.tre Go.Proofs.YtkbhcncbpiimdaaGreatDoor.stk Go.Proofs.YtkbhcncbpiimdaaGreatDoor.seen

theorem enC_at : ∀ {E : List (ByteArray × Int)} {k : Nat} {x : ByteArray × Int}, E[k]? = some x → ∀ j, j < 2 → (E.flatMap enC)[k * 2 + j]? = (enC x)[j]?
  | [], k, x, hk, _, _ => by simp at hk
  | y :: E, k, x, hk, j, hj => by
    rw [List.flatMap_cons]
    have hl : (enC y).length = 2 := rfl
    rcases k with _ | k
    · obtain rfl : y = x := by simpa using hk
      rw [List.getElem?_append_left (by omega), Nat.zero_mul, Nat.zero_add]
    · rw [List.getElem?_append_right (by omega), hl, show (k + 1) * 2 + j - 2 = k * 2 + j by omega]
      exact enC_at (by simpa using hk) j hj
/-- An entry's two cells. -/
theorem lies_en {w : World} {A : Option Addr} {E : List (ByteArray × Int)} (h : Lies w A (E.flatMap enC)) {k : Nat} {x : ByteArray × Int} (hx : E[k]? = some x) : ∃ b off, A = some ⟨b, off, none⟩ ∧ b < w.heap.size ∧ w.cell? ⟨b, off + k * 2, none⟩ = some (.string x.1) ∧ w.cell? ⟨b, off + k * 2 + 1, none⟩ = some (.int .i64 x.2) := by
  obtain ⟨b, off, h1, h2, h3⟩ := h (k * 2 + 0) (.string x.1) (by rw [enC_at hx 0 (by omega)]; rfl)
  obtain ⟨b', off', h4, _, h5⟩ := h (k * 2 + 1) (.int .i64 x.2) (by rw [enC_at hx 1 (by omega)]; rfl)
  rw [h1] at h4
  injection h4 with h4
  injection h4 with e1 e2
  subst e1 e2
  exact ⟨b, off, h1, h2, h3, h5⟩
theorem lies_own {w : World} {B n c size : Nat} {E : TypeId} {A : Option Addr} {xs : List Value} (h : w.ownsRow B E size (.slice A n c) n xs) : Lies w A xs := fun j u hj => by
  obtain ⟨g, cur, h1, _, h2, _, h3⟩ := tre.own_cell h hj
  exact ⟨g, 0, h1, h2, by rw [Nat.zero_add]; exact h3⟩
end Go.Proofs.YtkbhcncbpiimdaaGreatDoor.mrg
