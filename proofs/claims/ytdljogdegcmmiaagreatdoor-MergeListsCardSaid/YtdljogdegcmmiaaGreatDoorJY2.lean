/- What merge's Names answers of entries, and Page: so many of them from one on, and whether there are none behind them. Conditions: the entries lie in memory. -/
import Derived.Test.YtdljogdegcmmiaaGreatDoorJY1
import Derived.Test.YtdljogdegcmmiaaGreatDoorJP
namespace Go.Proofs.YtdljogdegcmmiaaGreatDoor.mrg
set_option maxRecDepth 100000
open Go.RowKit Go.Proofs.YtdljogdegcmmiaaGreatDoor.words Go.Proofs.YtdljogdegcmmiaaGreatDoor.ext Go.Proofs.YtdljogdegcmmiaaGreatDoor.name Go.Proofs.YtdljogdegcmmiaaGreatDoor.tre Go.Proofs.YtdljogdegcmmiaaGreatDoor.stk Go.Proofs.YtdljogdegcmmiaaGreatDoor.seen


theorem enC_len (E : List (ByteArray × Int)) : (E.flatMap enC).length = E.length * 2 := by
  induction E with
  | nil => rfl
  | cons x E ih => rw [List.flatMap_cons, List.length_append, ih, List.length_cons]; show 2 + _ = _; omega
theorem enC_at : ∀ {E : List (ByteArray × Int)} {k : Nat} {x : ByteArray × Int}, E[k]? = some x → ∀ j, j < 2 → (E.flatMap enC)[k * 2 + j]? = (enC x)[j]?
  | [], k, x, hk, _, _ => by simp at hk
  | y :: E, k, x, hk, j, hj => by
    rw [List.flatMap_cons]
    have hl : (enC y).length = 2 := rfl
    rcases k with _ | k
    · obtain rfl : y = x := by simpa using hk
      rw [List.getElem?_append_left (by omega), Nat.zero_mul, Nat.zero_add]
    · rw [List.getElem?_append_right (by omega), hl, show (k + 1) * 2 + j - 2 = k * 2 + j by omega]
      exact enC_at (by simpa using hk) j hj
/-- An entry's two cells. -/
theorem lies_en {w : World} {A : Option Addr} {E : List (ByteArray × Int)} (h : Lies w A (E.flatMap enC)) {k : Nat} {x : ByteArray × Int} (hx : E[k]? = some x) : ∃ b off, A = some ⟨b, off, none⟩ ∧ b < w.heap.size ∧ w.cell? ⟨b, off + k * 2, none⟩ = some (.string x.1) ∧ w.cell? ⟨b, off + k * 2 + 1, none⟩ = some (.int .i64 x.2) := by
  obtain ⟨b, off, h1, h2, h3⟩ := h (k * 2 + 0) (.string x.1) (by rw [enC_at hx 0 (by omega)]; rfl)
  obtain ⟨b', off', h4, _, h5⟩ := h (k * 2 + 1) (.int .i64 x.2) (by rw [enC_at hx 1 (by omega)]; rfl)
  rw [h1] at h4
  injection h4 with h4
  injection h4 with e1 e2
  subst e1 e2
  exact ⟨b, off, h1, h2, h3, h5⟩
theorem lies_own {w : World} {B n c size : Nat} {E : TypeId} {A : Option Addr} {xs : List Value} (h : w.ownsRow B E size (.slice A n c) n xs) : Lies w A xs := fun j u hj => by
  obtain ⟨g, cur, h1, _, h2, _, h3⟩ := tre.own_cell h hj
  exact ⟨g, 0, h1, h2, by rw [Nat.zero_add]; exact h3⟩
set_option maxHeartbeats 3200000 in
theorem names_any (A : Option Addr) (c : Nat) (E : List (ByteArray × Int)) (w : World) (hE : Lies w A (E.flatMap enC)) (hl : E.length ≤ 1000000) :
    Calls Tryz.prog 48 #[.slice A E.length c] w fun e w' => (∃ A' c', e = .returned (.slice A' E.length c') ∧ w'.ownsRow w.heap.size 9 1 (.slice A' E.length c') E.length (E.map fun x => .string x.1)) ∧ Below w.heap.size w w' := by
  have HE := Lib.hid hE
  clear hE
  obtain ⟨iS, hiS, zS0, zS1, zS2⟩ := info_parts infoStr
  go_enter Tryz.func48, Tryz.ntmps48
  go_wp2_with fail
  go_loopw [8, 3] (fun v v3 wr => ∃ k : Nat, v = .int .i64 (k : Int) ∧ k ≤ E.length ∧ Hid (wr.ownsRow w.heap.size 9 1 v3 k ((E.take k).map fun x => .string x.1)) ∧ Hid (Below w.heap.size w wr)) (fun v _ _ => E.length - (intOf v).toNat)
  case atStart => exact ⟨0, rfl, Nat.zero_le _, Lib.hid (World.ownsRow_nil _ _ _ _), Lib.hid (Below.refl _ _)⟩
  case round =>
    obtain ⟨k, rfl, hk, HO, HB⟩ := hrel
    obtain ⟨Ar, cr, rfl, hcr, _⟩ := own_facts HO.out
    by_cases hlt : k < E.length
    · obtain ⟨⟨sx, kx⟩, hx⟩ : ∃ x, E[k]? = some x := ⟨_, List.getElem?_eq_getElem hlt⟩
      obtain ⟨b, off, hA, hb, x0, x1⟩ := lies_en (Below.lies HE.out HB.out) hx
      subst hA
      have i0 : (0 : Int) ≤ (k : Int) := by omega
      have i1 : (k : Int) < (E.length : Int) := by omega
      obtain ⟨W3, hW3⟩ : ∃ W3, W3 = wr.alloc (.cells #[.string sx, .int .i64 kx] 84) := ⟨_, rfl⟩
      have hb3 : Below wr.heap.size wr W3 := by rw [hW3]; exact (Below.refl _ _).alloc (Nat.le_refl _) _
      have hk3 : W3.heap[wr.heap.size]? = some (.cells #[.string sx, .int .i64 kx] 84 (0, 0)) := by rw [hW3]; exact heap_alloc_new wr _
      have t0 := cell_of_blk hk3 0
      obtain ⟨Wc, hWc⟩ : ∃ Wc, Wc = W3.alloc (.cells #[.string sx] 9) := ⟨_, rfl⟩
      have hbc : Below W3.heap.size W3 Wc := by rw [hWc]; exact (Below.refl _ _).alloc (Nat.le_refl _) _
      have HNc : Hid (∀ (i : Nat) (u : Value), ([.string sx] : List Value)[i]? = some u → Wc.cell? ((⟨W3.heap.size, 0, none⟩ : Addr).add i) = some u) := Lib.hid fun i u hi => by rw [hWc, new_cell]; simpa using hi
      have hb3c := hb3.trans (hbc.mono hb3.size)
      have HOc := Lib.hid (ownL HO.out hb3c)
      have HBc := Lib.hid (HB.out.trans (hb3c.mono HB.out.size))
      have HTk : Hid (((E.take (k + 1)).map fun x => Value.string x.1) = ((E.take k).map fun x => Value.string x.1) ++ [.string sx]) := Lib.hid (by
        obtain ⟨hkl, hxx⟩ := List.getElem?_eq_some_iff.1 hx
        rw [List.take_succ_eq_append_getElem hkl, hxx, List.map_append]
        rfl)
      have HW3 := Lib.hid hW3
      have HWc := Lib.hid hWc.symm
      clear hx hb hW3 hb3 hk3 hWc hbc hb3c HO HB
      go_upto_region 5 with fail
      rw [← HW3.out]
      clear HW3 x0 x1
      go_wp2_with (at_builtin; rw [HWc.out]; refine wpList_append_own _ rfl (.tmp 12) (.tmp 15) 48 rfl w.heap.size 9 iS _ 1 16 Tryz.underlying48 hiS zS0 zS1 zS2 rfl (by omega) (.slice Ar k cr) k ((E.take k).map fun x => .string x.1) rfl HOc.out ⟨W3.heap.size, 0, none⟩ 1 1 [.string sx] rfl rfl HNc.out (by simp [Value.oneCell']) (by simp only [maxLen]; omega) (by omega) HBc.out.size ?_; intro v3' wq hownq hgrowq hnilq)
      have HBq := Lib.hid (keep_grown HBc.out HOc.out hgrowq (Nat.le_refl _) (Nat.le_refl _))
      have HOq : Hid (wq.ownsRow w.heap.size 9 1 v3' (k + 1) ((E.take (k + 1)).map fun x => .string x.1)) := Lib.hid (by rw [HTk.out]; exact hownq)
      clear hownq hgrowq hnilq t0
      go_roundw
      case rel => exact ⟨k + 1, by go_num, by omega, HOq, HBq⟩
      case measure => simp [intOf]; omega
    · obtain rfl : k = E.length := by omega
      have HFin := Lib.hid (show (∃ A' c', Ending.returned (.slice Ar E.length cr) = .returned (.slice A' E.length c') ∧ wr.ownsRow w.heap.size 9 1 (.slice A' E.length c') E.length (E.map fun x => .string x.1)) ∧ Below w.heap.size w wr from ⟨⟨Ar, cr, rfl, by have h := HO.out; rwa [List.take_length] at h⟩, HB.out⟩)
      clear HO HB
      go_wp2_with fail
      go_ret
      exact HFin.out
theorem cut_en (A : Option Addr) (n cap i : Nat) (h : i ≤ cap) (wx : World) :
    (Instr.slice 76 (.slice A n cap) none (some (.int .i64 (i : Int))) none).run Tryz.prog wx = .ok (.slice A i cap) wx := by
  obtain ⟨i0, hi, hz0, hz1, hz2⟩ := info_parts infoEntry
  have he : Tryz.prog.elem 76 = 84 := by kernel_rfl
  rw [run_slice_h (P := Tryz.prog) wx 76 A n cap (by kernel_rfl) .i64 (i : Int) (by omega) (by omega), he]
  simp [sizeOf, typeInfo, hi, hz1, Result.andThen, sliced]
  rcases A with _ | A
  · intro _; rfl
  · simp [Addr.add]
end Go.Proofs.YtdljogdegcmmiaaGreatDoor.mrg
