/- What merge's Page answers: so many entries from one on, copied, and whether there are none behind them. Condition: the entries lie in memory, a million at most. -/
import Derived.Test.YtdljogdegcmmiaaGreatDoorJY2
import Derived.Lib.MinMax
namespace Go.Proofs.YtdljogdegcmmiaaGreatDoor.mrg
set_option maxRecDepth 100000
open Go.RowKit Go.Proofs.YtdljogdegcmmiaaGreatDoor.words Go.Proofs.YtdljogdegcmmiaaGreatDoor.ext Go.Proofs.YtdljogdegcmmiaaGreatDoor.name Go.Proofs.YtdljogdegcmmiaaGreatDoor.tre Go.Proofs.YtdljogdegcmmiaaGreatDoor.stk Go.Proofs.YtdljogdegcmmiaaGreatDoor.seen

theorem cut_en_l (A : Option Addr) (n cap i : Nat) (h : i ≤ n) (wx : World) :
    (Instr.slice 76 (.slice A n cap) (some (.int .i64 (i : Int))) none none).run Tryz.prog wx = .ok (.slice (if cap = i then A else A.map (·.add (i * 2))) (n - i) (cap - i)) wx := by
  obtain ⟨i0, hi, hz0, hz1, hz2⟩ := info_parts infoEntry
  have he : Tryz.prog.elem 76 = 84 := by kernel_rfl
  rw [run_slice_l (P := Tryz.prog) wx 76 A n cap (by kernel_rfl) .i64 (i : Int) (by omega) (by omega), he]
  simp [sizeOf, typeInfo, hi, hz1, Result.andThen, sliced]
/-- The entries from one on, so many of them, lie where the row's tail lies. -/
theorem lies_part {w : World} {A : Option Addr} {E : List (ByteArray × Int)} (h : Lies w A (E.flatMap enC)) (a n c : Nat) (hac : a < c ∨ a = E.length) :
    Lies w (if c = a then A else A.map (·.add (a * 2))) (((E.drop a).take n).flatMap enC) := fun j u hj => by
  have hjl : j < (((E.drop a).take n).flatMap enC).length := (List.getElem?_eq_some_iff.1 hj).1
  rw [enC_len, List.length_take, List.length_drop] at hjl
  have hca : c ≠ a := by rcases hac with h | h <;> omega
  rw [if_neg hca]
  obtain ⟨q, r, rfl, hr⟩ : ∃ q r, j = q * 2 + r ∧ r < 2 := ⟨j / 2, j % 2, by omega, by omega⟩
  have hq : q < E.length - a := by omega
  obtain ⟨x, hx⟩ : ∃ x, E[a + q]? = some x := ⟨_, List.getElem?_eq_getElem (by omega)⟩
  have hx2 : ((E.drop a).take n)[q]? = some x := by rw [List.getElem?_take_of_lt (by omega), List.getElem?_drop]; exact hx
  rw [enC_at hx2 r hr] at hj
  obtain ⟨b, off, rfl, hb, h3⟩ := h ((a + q) * 2 + r) u (by rw [enC_at hx r hr]; exact hj)
  refine ⟨b, off + a * 2, by simp [Addr.add], hb, ?_⟩
  rw [show off + a * 2 + (q * 2 + r) = off + ((a + q) * 2 + r) by omega]
  exact h3
def PageOut (E : List (ByteArray × Int)) (a n : Nat) (w : World) (e : Ending) (w' : World) : Prop :=
  ∃ A' c', e = .returned (.tuple #[.slice A' n c', .bool (n == E.length - a)]) ∧ w'.ownsRow w.heap.size 84 2 (.slice A' n c') n (((E.drop a).take n).flatMap enC) ∧ Below w.heap.size w w'
end Go.Proofs.YtdljogdegcmmiaaGreatDoor.mrg
