/- What the reference's Same answers of two slices that read as one list of texts: true. Condition: the list's length is one. -/
import Derived.Test.YtniklphdnakehaaDoorNameParts
namespace Go.Proofs.YtniklphdnakehaaDoor.name
set_option maxRecDepth 100000
open Go.RowKit Go.Proofs.YtniklphdnakehaaDoor.words

/-- The slice value v reads as the texts Q. -/
def Strs (w : World) (v : Value) (Q : List ByteArray) : Prop :=
  ∃ A c, v = .slice A Q.length c ∧ ∀ i x, Q[i]? = some x → ∃ b off, A = some ⟨b, off, none⟩ ∧ b < w.heap.size ∧ w.cell? ⟨b, off + i, none⟩ = some (.string x)
theorem Strs.of_own {w : World} {B : Nat} {e : TypeId} {v : Value} {Q : List ByteArray} (h : w.ownsRow B e 1 v Q.length (Q.map Value.string)) : Strs w v Q := by
  obtain ⟨A, c, rfl⟩ := own_form h
  refine ⟨A, c, rfl, fun i x hx => ?_⟩
  have hlt : i < Q.length := (List.getElem?_eq_some_iff.1 hx).1
  obtain ⟨g, cap, hv, _, hg⟩ := h.form (by omega)
  injection hv with hA _ hc
  subst hA hc
  refine ⟨g, 0, rfl, hg, ?_⟩
  rw [Nat.zero_add, h.cellAt i (by omega), List.getElem?_map, hx]
  rfl
theorem Strs.keep {w w' : World} {v : Value} {Q : List ByteArray} (h : Strs w v Q) (hb : Below w.heap.size w w') : Strs w' v Q := by
  obtain ⟨A, c, hv, hc⟩ := h
  refine ⟨A, c, hv, fun i x hx => ?_⟩
  obtain ⟨b, off, hA, hlt, hcell⟩ := hc i x hx
  exact ⟨b, off, hA, Nat.lt_of_lt_of_le hlt hb.size, (hb.cell (p := ⟨b, off + i, none⟩) hlt).trans hcell⟩

set_option maxHeartbeats 800000 in
theorem same_yes (v1 v2 : Value) (Q : List ByteArray) (w : World) (h1 : Strs w v1 Q) (h2 : Strs w v2 Q) (hQ : Q.length ≤ 1000000) :
    Calls Tryd.prog 57 #[v1, v2] w fun e w' => e = .returned (.bool true) ∧ ∃ n, w.drewN n = w' := by
  obtain ⟨A1, c1, rfl, k1⟩ := h1
  obtain ⟨A2, c2, rfl, k2⟩ := h2
  have K1 := Lib.hid k1
  have K2 := Lib.hid k2
  clear k1 k2
  go_enter Tryd.func57, Tryd.ntmps57
  go_wp2
  go_loopw [5] (fun c wr => ∃ k : Nat, k ≤ Q.length ∧ c = .int .i64 k ∧ ∃ n, wr = w.drewN n) (fun c _ => Q.length - (intOf c).toNat)
  case atStart => exact ⟨0, Nat.zero_le _, rfl, 0, rfl⟩
  case round =>
    obtain ⟨k, hk, rfl, nd, rfl⟩ := hrel
    by_cases hlt : k < Q.length
    · obtain ⟨x, hx⟩ : ∃ x, Q[k]? = some x := ⟨_, List.getElem?_eq_getElem hlt⟩
      obtain ⟨b1, o1, rfl, _, d1⟩ := K1.out k x hx
      obtain ⟨b2, o2, rfl, _, d2⟩ := K2.out k x hx
      have hxx : (x.toList != x.toList) = false := by simp
      have i0 : (0 : Int) ≤ (k : Int) := by omega
      have i1 : (k : Int) < (Q.length : Int) := by omega
      clear hx
      go_wp2_with fail
      go_quiet (fail)
      go_wp2
      go_roundw
      case rel => exact ⟨k + 1, by omega, by go_num, _, rfl⟩
      case measure => simp [intOf]; omega
    · go_wp2
      go_ret
      exact ⟨rfl, nd, rfl⟩
end Go.Proofs.YtniklphdnakehaaDoor.name
