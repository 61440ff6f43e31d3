/- WholeGate: a row of ints that is cut in front and grows behind ('Off'). No program's call, no condition. -/
import Derived.Test.YthmehalkijbpdaaGatRef
import Derived.Test.YthmehalkijbpdaaCurSt
import Derived.ArgAppend
namespace Go.Proofs.Ythmehalkijbpdaa.wga
set_option maxRecDepth 100000
open Go.RowKit Go.Proofs.Ythmehalkijbpdaa.words Go.Proofs.Ythmehalkijbpdaa.lru Go.Proofs.Ythmehalkijbpdaa.mpi Go.Proofs.Ythmehalkijbpdaa.gat Go.Proofs.Ythmehalkijbpdaa.cur

/-- At block b, from cell off on, a row of ints, with room for c. -/
structure OffAt (w : World) (B b off c : Nat) (L : List Int) : Prop where
  lo : B ≤ b
  le : L.length ≤ c
  row : ∃ cur : Array Value, w.heap[b]? = some (.cells cur 3 (0, 0)) ∧ off + c ≤ cur.size ∧ (cur.toList.drop off).take L.length = iC L
section
variable {w w' : World} {B b off c : Nat} {L : List Int} {x : Int}
theorem OffAt.lt (h : OffAt w B b off c L) : b < w.heap.size := by
  obtain ⟨cur, h1, _⟩ := h.row
  exact lt_of_some h1
theorem OffAt.tn {S : Nat → Prop} (h : OffAt w B b off c L) (ht : Tn S w w') (hS : ¬ S b) : OffAt w' B b off c L := by
  obtain ⟨cur, h1, h2⟩ := h.row
  exact ⟨h.lo, h.le, cur, (ht.block b (lt_of_some h1) hS).trans h1, h2⟩
theorem OffAt.later (h : OffAt w B b off c L) (hb : Below w.heap.size w w') : OffAt w' B b off c L := h.tn (Tn.of_below hb (fun _ => False)) (fun h => h)
theorem OffAt.cell (h : OffAt w B b off c L) {j : Nat} {y : Int} (hj : L[j]? = some y) : w.cell? ⟨b, off + j, none⟩ = some (.int .i64 y) := by
  obtain ⟨cur, h1, _, h3⟩ := h.row
  rw [cell_of_blk h1, ← Array.getElem?_toList]
  have hlt := (List.getElem?_eq_some_iff.1 hj).1
  have e : (iC L)[j]? = some (.int .i64 y) := by unfold iC; rw [List.getElem?_map, hj]; rfl
  rw [← h3, List.getElem?_take, if_pos hlt, List.getElem?_drop] at e
  exact e
theorem OffAt.tail (h : OffAt w B b off c (x :: L)) : OffAt w B b (off + 1) (c - 1) L := by
  obtain ⟨cur, h1, h2, h3⟩ := h.row
  have hle := h.le
  rw [List.length_cons] at hle h3
  refine ⟨h.lo, by omega, cur, h1, by omega, ?_⟩
  have e1 : cur.toList.drop (off + 1) = (cur.toList.drop off).drop 1 := by rw [List.drop_drop]
  rw [e1]
  rcases hd : cur.toList.drop off with _ | ⟨y, r⟩
  · rw [hd] at h3
    simp [iC] at h3
  · rw [hd, List.take_succ_cons] at h3
    unfold iC at h3
    rw [List.map_cons] at h3
    injection h3
/-- Where there is no room left the row stays where it is. -/
theorem OffAt.tail0 (h : OffAt w B b off 1 (x :: L)) : OffAt w B b off 0 L := by
  have hle := h.le
  rw [List.length_cons] at hle
  have hL : L = [] := List.eq_nil_of_length_eq_zero (by omega)
  subst hL
  obtain ⟨cur, h1, h2, h3⟩ := h.row
  exact ⟨h.lo, Nat.le_refl _, cur, h1, by omega, by simp [iC]⟩
theorem OffAt.made (w : World) (B : Nat) (hB : B ≤ w.heap.size) : OffAt (w.alloc (.cells #[] 3)) B w.heap.size 0 0 [] :=
  ⟨hB, Nat.le_refl _, #[], heap_alloc_new w _, by simp, by simp [iC]⟩
end
/-- One more behind. -/
theorem wpList_append_off {w : World} {ops : Array Oper} {rest : List Oper} {o : Oper} {a : Act} {Q : Exit → Act → World → Prop} (hgd : o.guard = none) (s y : Operand)
    (ho : o.op = .call { callee := .builtin .append, args := #[s, y], argTypes := #[28, 28] }) (i : TypeInfo) (hi : Try.prog.info? 3 = some i) (hz : i.zero = some (.int .i64 0)) (hsize : i.size = 1) (hby : i.bytes = 8)
    (B b off n c : Nat) (L : List Int) (hn : n = L.length) (hs : a.eval s = .slice (some ⟨b, off, none⟩) n c) (h : OffAt w B b off c L) (ad : Addr) (cc : Nat) (x : Int) (hx : a.eval y = .slice (some ad) 1 cc) (hnew : ∀ (j : Nat) (u : Value), (iC [x])[j]? = some u → w.cell? (ad.add j) = some u) (hl : L.length ≤ 1000) (hB : B ≤ w.heap.size)
    (hK : ∀ b' off' c' w', OffAt w' B b' off' c' (L ++ [x]) → (b' = b ∨ w.heap.size ≤ b') → Tn (fun j => j = b) w w' → wpList Try.prog ops Q rest (a.put o.dst (.slice (some ⟨b', off', none⟩) (n + 1) c')) w') : wpList Try.prog ops Q (o :: rest) a w := by
  subst hn
  refine wpList_plain hgd fun K hK' => ?_
  obtain ⟨cur, h1, h2, h3⟩ := h.row
  by_cases hroom : L.length + 1 ≤ c
  · have hc : ∀ j, j < (iC [x]).length → (w.cell? ⟨b, off + L.length * i.size + j, none⟩).isSome = true := fun j hj => by
      have hj0 : j = 0 := by simp [iC] at hj; omega
      subst hj0
      rw [hsize, cell_of_blk h1, Nat.mul_one, Nat.add_zero, Array.getElem?_eq_getElem (by omega)]
      rfl
    have hf : ∀ j, j < (iC [x]).length → w.frozen? ⟨b, off + L.length * i.size + j, none⟩ = false := fun j _ => free_of_blk h1 _
    have hrun := run_append_room_cells (P := Try.prog) w 28 o.type 3 i Try.underlying28 hi b off L.length c ad 1 cc (iC [x]) (by rw [hsize]; rfl) hnew (iC_one [x]) hroom hc hf
    unfold Oper.wp
    simp [execOp, ho, resolve, invoke, builtin, hs, hx, hrun, Result.andThen]
    have hw : w.setCells b (off + L.length * i.size) (iC [x]) = w.setCell ⟨b, off + L.length, none⟩ (.int .i64 x) := by
      rw [hsize, Nat.mul_one]
      rfl
    rw [hw]
    have ht : Tn (fun j => j = b) w (w.setCell ⟨b, off + L.length, none⟩ (.int .i64 x)) := (Tn.refl (fun j => j = b) w).setCell (p := ⟨b, off + L.length, none⟩) (.inr rfl) _
    refine hK' _ _ (hK b off c _ ⟨h.lo, by rw [List.length_append]; simpa using hroom, _, heap_setCell_same w b _ _ _ _ h1, by simpa using h2, ?_⟩ (.inl rfl) ht)
    have e : (cur.setIfInBounds (off + L.length) (.int .i64 x)).toList = cur.toList.set (off + L.length) (.int .i64 x) := Array.toList_setIfInBounds ..
    rw [e]
    apply List.ext_getElem?
    intro j
    have hl3 : ∀ j, j < L.length → cur.toList[off + j]? = (iC L)[j]? := fun j hj => by
      rw [← h3, List.getElem?_take, if_pos hj, List.getElem?_drop]
    rw [List.getElem?_take, List.getElem?_drop]
    unfold iC
    rw [List.map_append, List.length_append]
    by_cases hj : j < L.length
    · rw [if_pos (by simp; omega), List.getElem?_append_left (by simpa using hj)]
      have := hl3 j hj
      unfold iC at this
      rw [← this, List.getElem?_set, if_neg (by omega)]
    · by_cases hj2 : j = L.length
      · subst hj2
        rw [if_pos (by simp), List.getElem?_append_right (by simp), List.getElem?_set, if_pos rfl, if_pos (by simp; omega)]
        simp
      · rw [if_neg (by simp; omega), List.getElem?_append_right (by simp; omega)]
        rw [List.getElem?_eq_none (by simp; omega)]
  · obtain ⟨v', w', hrun, h5, h6⟩ := run_append_arg_grows (P := Try.prog) w 28 o.type 3 i (.int .i64 0) 1 8 Try.underlying28 hi hz hsize hby rfl (by decide) ⟨b, off, none⟩ L.length c (iC L) (by rw [iC_len, Nat.mul_one]) (fun j u hj => by
        obtain ⟨y, hy, rfl⟩ : ∃ y, L[j]? = some y ∧ Value.int .i64 y = u := by
          unfold iC at hj
          rw [List.getElem?_map] at hj
          rcases hL : L[j]? with _ | y
          · rw [hL] at hj; cases hj
          · rw [hL] at hj; exact ⟨y, rfl, Option.some.inj hj⟩
        rw [add_place]
        exact h.cell hy) ad 1 cc (iC [x]) rfl hnew (by omega) (by simp only [maxLen]; omega) (by omega)
    unfold Oper.wp
    simp [execOp, ho, resolve, invoke, builtin, hs, hx, hrun, Result.andThen]
    rcases h5.2 with ⟨_, h0⟩ | ⟨g, cap, cur', rfl, hg, hh, k1, k2, k3, k4⟩
    · omega
    · refine hK' _ _ (hK g 0 cap w' ⟨Nat.le_trans hB hg, by rw [List.length_append]; exact k1, cur', hh, by omega, ?_⟩ (.inr hg) ⟨h6.os, h6.tape, h6.output, h6.size, fun k hk _ => h6.block k hk (by simp)⟩)
      rw [List.drop_zero, List.length_append]
      have : iC L ++ iC [x] = iC (L ++ [x]) := by unfold iC; rw [List.map_append]
      rw [← this, ← k4, Nat.mul_one]
      rfl
end Go.Proofs.Ythmehalkijbpdaa.wga
