/- What the reference's Put answers, a cache's Keys, and the reference's Same of two rows of texts that are one. Condition: all lies in memory. -/
import Derived.Test.YtllebfkodklehaaLruRef
namespace Go.Proofs.Ytllebfkodklehaa.lrs
set_option maxRecDepth 100000
open Go.RowKit Go.Proofs.Ytllebfkodklehaa.words Go.Proofs.Ytllebfkodklehaa.lru

theorem cut_ref (A : Option Addr) (l n c : Nat) (hn : n ≤ c) (W : World) : (Instr.slice 26 (.slice A l c) none (some (.int .i64 (n : Int))) none).run Try.prog W = .ok (.slice A n c) W := by
  obtain ⟨i0, hi, hz0, hz1, hz2⟩ := info_three infoRef
  have he : Try.prog.elem 26 = 32 := by kernel_rfl
  rw [run_slice_h (P := Try.prog) W 26 A l c (by kernel_rfl) .i64 (n : Int) (by omega) (by omega), he]
  simp [sizeOf, typeInfo, hi, hz1, Result.andThen, sliced]
  rcases A with _ | A
  · intro _; rfl
  · simp [Addr.add]
def RPutIn (w : World) (r : Nat) (L : List (ByteArray × Int)) (k : ByteArray) (x : Int) (e : Ending) (w' : World) : Prop :=
  ∃ v, e = .returned (.tuple #[v, .string (goneK L r k ⟨#[]⟩), .bool (goneB L r k)]) ∧ Ref w' w.heap.size v (putL L r k x) ∧ Below w.heap.size w w'
theorem last_of {L : List (ByteArray × Int)} {r : Nat} {k : ByteArray} {x : Int} (hr : 1 ≤ r) (hg : goneB L r k = true) :
    ∃ p, ((k, x) :: rest L k)[(rest L k).length]? = some p ∧ goneK L r k ⟨#[]⟩ = p.1 := by
  have h : r < (rest L k).length + 1 := by simpa [goneB] using hg
  unfold goneK
  rw [if_pos hg]
  rcases hl : (rest L k) with _ | ⟨a, T⟩
  · rw [hl] at h; simp at h; omega
  · have hlt : T.length < (a :: T).length := by simp
    refine ⟨(a :: T)[T.length], ?_, ?_⟩
    · rw [List.length_cons, List.getElem?_cons_succ]
      exact List.getElem?_eq_getElem hlt
    · rw [List.getLast?_eq_getElem?, List.length_cons, Nat.add_sub_cancel, List.getElem?_eq_getElem hlt]
      rfl
set_option maxHeartbeats 1600000 in
theorem rput_any (B c r : Nat) (A : Option Addr) (L : List (ByteArray × Int)) (k : ByteArray) (x : Int) (w : World) (h : Ref w B (.slice A L.length c) L) (hl : L.length ≤ 1000) (hr : 1 ≤ r) :
    Calls Try.prog 13 #[.slice A L.length c, .int .i64 (r : Int), .agg #[.string k, .int .i64 x]] w (RPutIn w r L k x) := by
  obtain ⟨W1, hW1⟩ : ∃ W1, W1 = w.alloc (.cells #[.string k, .int .i64 x] 32) := ⟨_, rfl⟩
  have hb1 : Below w.heap.size w W1 := by rw [hW1]; exact (Below.refl _ _).alloc (Nat.le_refl _) _
  have hk1 : W1.heap[w.heap.size]? = some (.cells #[.string k, .int .i64 x] 32 (0, 0)) := by rw [hW1]; exact heap_alloc_new w _
  have q0 : W1.cell? ⟨w.heap.size, 0, none⟩ = some (.string k) := cell_of_blk hk1 0
  have q1 : W1.cell? ⟨w.heap.size, 1, none⟩ = some (.int .i64 x) := cell_of_blk hk1 1
  have HU := Lib.hid (use_any B c A L k x W1 (ownL h hb1) hl)
  have hlr := rest_le L k
  have HB1 := Lib.hid hb1
  have HW1 := Lib.hid hW1
  clear h hb1 hk1 hW1
  obtain ⟨n, hn⟩ : ∃ n, n = (rest L k).length := ⟨_, rfl⟩
  by_cases hg : goneB L r k = true
  · obtain ⟨p, hp, hpk⟩ := last_of (x := x) hr hg
    have hrl : r < n + 1 := by have : r < (rest L k).length + 1 := by simpa [goneB] using hg
                               omega
    rw [← hn] at hp hlr
    have hlen : ((k, x) :: rest L k).length = n + 1 := by rw [List.length_cons, hn]
    have HP := Lib.hid hp
    have hput : putL L r k x = ((k, x) :: rest L k).take n := by unfold putL; rw [if_pos hg, List.dropLast_eq_take, hlen]; rfl
    have HPut := Lib.hid hput
    have HLen := Lib.hid hlen
    have HPK := Lib.hid hpk
    have HG := Lib.hid hg
    have i0 : (0 : Int) ≤ (n : Int) := by omega
    have i1 : (n : Int) < (n : Int) + 1 := by omega
    have i2 : IntKind.i64.wrap (n : Int) = (n : Int) := IntWalk.i64_in _ (by omega)
    have i3 : IntKind.i64.wrap (((n + 1 : Nat) : Int) - 1) = (n : Int) := by rw [IntWalk.i64_in _ (by omega)]; omega
    have i4 : ¬ n + 1 ≤ r := by omega
    have i5 : ¬ (n : Int) + 1 ≤ (r : Int) := by omega
    clear hp hput hlen hn hg hpk
    go_enter Try.func13, Try.ntmps13
    go_upto_region 1 with fail
    rw [← HW1.out]
    go_wp2_with fail
    refine HU.out.mono ?_
    rintro e w2 ⟨v, rfl, hv, hb2⟩
    obtain ⟨A2, c2, rfl, hle2, hm2, _⟩ := own_facts hv
    have hvr := hv
    rw [HLen.out] at hvr hle2 ⊢
    unfold Ref at hv
    rw [HLen.out] at hv
    obtain ⟨b, hA, _, _, cb, _⟩ := Ref.pair (L := (k, x) :: rest L k) (c := c2) (A := A2) (by unfold Ref; rw [HLen.out]; exact hv) HP.out
    subst hA
    unfold maxLen at hm2
    have hcut := fun W => cut_ref (some ⟨b, 0, none⟩) (n + 1) n c2 (by omega) W
    have hE : RPutIn w r L k x (.returned (.tuple #[.slice (some ⟨b, 0, none⟩) n c2, .string p.1, .bool true])) w2 := by
      refine ⟨_, by rw [HPK.out, HG.out], ?_, HB1.out.trans (hb2.mono HB1.out.size)⟩
      have hc := own_cut hv n (by omega)
      rw [pC_take] at hc
      unfold Ref
      rw [HPut.out, List.length_take, HLen.out, Nat.min_eq_left (by omega)]
      exact own_mono hc HB1.out.size
    have HE := Lib.hid hE
    clear hE hv hvr hb2 q0 q1
    go_wp2_with fail
    go_ret3
    exact HE.out
  · have hrl : n + 1 ≤ r := by have : ¬ r < (rest L k).length + 1 := by simpa [goneB] using hg
                               omega
    have hg' : goneB L r k = false := by simpa using hg
    rw [← hn] at hlr
    have hlen : ((k, x) :: rest L k).length = n + 1 := by rw [List.length_cons, hn]
    have hput : putL L r k x = (k, x) :: rest L k := by unfold putL; rw [if_neg hg]
    have hgk : goneK L r k ⟨#[]⟩ = (⟨#[]⟩ : ByteArray) := by unfold goneK; rw [if_neg hg]
    have HPut := Lib.hid hput
    have HLen := Lib.hid hlen
    have HG := Lib.hid hg'
    have HGK := Lib.hid hgk
    have i5 : (n : Int) + 1 ≤ (r : Int) := by omega
    clear hput hlen hn hg hg' hgk
    go_enter Try.func13, Try.ntmps13
    go_upto_region 1 with fail
    rw [← HW1.out]
    go_wp2_with fail
    refine HU.out.mono ?_
    rintro e w2 ⟨v, rfl, hv, hb2⟩
    obtain ⟨A2, c2, rfl, _, _, _⟩ := own_facts hv
    have hE : RPutIn w r L k x (.returned (.tuple #[.slice A2 ((k, x) :: rest L k).length c2, .string ⟨#[]⟩, .bool false])) w2 := by
      refine ⟨_, by rw [HGK.out, HG.out], ?_, HB1.out.trans (hb2.mono HB1.out.size)⟩
      unfold Ref
      rw [HPut.out]
      exact own_mono hv HB1.out.size
    rw [HLen.out] at hE ⊢
    have HE := Lib.hid hE
    clear hE hv hb2 q0 q1
    go_wp2_with fail
    go_ret3
    exact HE.out

/-! Keys -/
theorem infoStr : (Try.prog.info? 9).map (fun i => (i.zero, i.size, i.bytes)) = some (some (.string ⟨#[]⟩), 1, 16) := by kernel_rfl
/-- The slice value v reads as the texts Q. -/
def Strs (w : World) (v : Value) (Q : List ByteArray) : Prop :=
  ∃ A c, v = .slice A Q.length c ∧ ∀ i x, Q[i]? = some x → ∃ b off, A = some ⟨b, off, none⟩ ∧ b < w.heap.size ∧ w.cell? ⟨b, off + i, none⟩ = some (.string x)
theorem Strs.of_own {w : World} {B : Nat} {e : TypeId} {v : Value} {Q : List ByteArray} (h : w.ownsRow B e 1 v Q.length (Q.map Value.string)) : Strs w v Q := by
  obtain ⟨A, c, rfl, _⟩ := own_facts h
  refine ⟨A, c, rfl, fun i x hx => ?_⟩
  obtain ⟨g, c', h1, _, h2, h3⟩ := own_at h (j := i) (u := .string x) (by rw [List.getElem?_map, hx]; rfl)
  injection h1 with h1
  exact ⟨g, 0, h1, h2, by rw [Nat.zero_add]; exact h3⟩
theorem Strs.keep {w w' : World} {v : Value} {Q : List ByteArray} (h : Strs w v Q) (hb : Below w.heap.size w w') : Strs w' v Q := by
  obtain ⟨A, c, hv, hc⟩ := h
  refine ⟨A, c, hv, fun i x hx => ?_⟩
  obtain ⟨b, off, hA, hlt, hcell⟩ := hc i x hx
  exact ⟨b, off, hA, Nat.lt_of_lt_of_le hlt hb.size, (hb.cell (p := ⟨b, off + i, none⟩) hlt).trans hcell⟩
set_option maxHeartbeats 800000 in
theorem same_yes (v1 v2 : Value) (Q : List ByteArray) (w : World) (h1 : Strs w v1 Q) (h2 : Strs w v2 Q) (hQ : Q.length ≤ 1000000) :
    Calls Try.prog 17 #[v1, v2] w fun e w' => e = .returned (.bool true) ∧ ∃ n, w.drewN n = w' := by
  obtain ⟨A1, c1, rfl, k1⟩ := h1
  obtain ⟨A2, c2, rfl, k2⟩ := h2
  have K1 := Lib.hid k1
  have K2 := Lib.hid k2
  clear k1 k2
  go_enter Try.func17, Try.ntmps17
  go_wp2
  go_loopw [5] (fun c wr => ∃ k : Nat, k ≤ Q.length ∧ c = .int .i64 k ∧ ∃ n, wr = w.drewN n) (fun c _ => Q.length - (intOf c).toNat)
  case atStart => exact ⟨0, Nat.zero_le _, rfl, 0, rfl⟩
  case round =>
    obtain ⟨k, hk, rfl, nd, rfl⟩ := hrel
    by_cases hlt : k < Q.length
    · obtain ⟨x, hx⟩ : ∃ x, Q[k]? = some x := ⟨_, List.getElem?_eq_getElem hlt⟩
      obtain ⟨b1, o1, rfl, _, d1⟩ := K1.out k x hx
      obtain ⟨b2, o2, rfl, _, d2⟩ := K2.out k x hx
      have hxx : (x.toList != x.toList) = false := by simp
      have i0 : (0 : Int) ≤ (k : Int) := by omega
      have i1 : (k : Int) < (Q.length : Int) := by omega
      clear hx
      go_wp2_with fail
      go_quiet (fail)
      go_wp2
      go_roundw
      case rel => exact ⟨k + 1, by omega, by go_num, _, rfl⟩
      case measure => simp [intOf]; omega
    · go_wp2
      go_ret
      exact ⟨rfl, nd, rfl⟩
/-- Behind j rounds of Keys. -/
structure KIn (w : World) (L : List (ByteArray × Int)) (j : Nat) (wr : World) : Prop where
  ex : ∃ cs : Array Value, wr.heap[w.heap.size]? = some (.cells cs 9 (0, 0)) ∧ cs.size = L.length ∧ cs.toList.take j = (L.take j).map fun p => .string p.1
  below : Below w.heap.size w wr
theorem KIn.next {w wr : World} {L : List (ByteArray × Int)} {j : Nat} {p : ByteArray × Int} (h : KIn w L j wr) (hp : L[j]? = some p) : KIn w L (j + 1) (wr.setCell ⟨w.heap.size, j, none⟩ (.string p.1)) := by
  obtain ⟨cs, h1, h2, h3⟩ := h.ex
  obtain ⟨hj, hx⟩ := List.getElem?_eq_some_iff.1 hp
  refine ⟨⟨_, storeRow h1 j _, by rw [Array.size_setIfInBounds]; exact h2, ?_⟩, h.below.setCell (p := ⟨w.heap.size, j, none⟩) (Nat.le_refl _) _⟩
  have hjc : j < cs.toList.length := by rw [Array.length_toList, h2]; exact hj
  rw [Array.toList_setIfInBounds, List.take_succ_eq_append_getElem (by rw [List.length_set]; exact hjc), List.getElem_set_self, List.take_set_of_le (Nat.le_refl _), h3, List.take_succ_eq_append_getElem hj, hx, List.map_append]
  rfl
theorem KIn.cell {w wr : World} {L : List (ByteArray × Int)} {j : Nat} (h : KIn w L j wr) (hj : j < L.length) : (∃ u, wr.cell? ⟨w.heap.size, j, none⟩ = some u) ∧ wr.frozen? ⟨w.heap.size, j, none⟩ = false := by
  obtain ⟨cs, h1, h2, h3⟩ := h.ex
  exact ⟨⟨cs[j], (cell_of_blk h1 j).trans (Array.getElem?_eq_getElem (by omega))⟩, free_of_blk h1 j⟩
def KeysIn (w : World) (L : List (ByteArray × Int)) (e : Ending) (w' : World) : Prop := ∃ v, e = .returned v ∧ Strs w' v (L.map (·.1)) ∧ Below w.heap.size w w'
set_option maxHeartbeats 1600000 in
theorem keys_any (B g : Nat) (bo : Option Nat) (r : Nat) (L : List (ByteArray × Int)) (w : World) (h : Lru w B g bo r L) (hl : L.length ≤ 1000) :
    Calls Try.prog 18 #[.pointer (some ⟨g, 0, none⟩)] w (KeysIn w L) := by
  obtain ⟨i0, hi, hz0, hy1, hy2⟩ := info_three infoStr
  have hmk : ∀ u : World, (Instr.makeSlice 38 (.int .i64 (L.length : Int)) (.int .i64 (L.length : Int))).run Try.prog u =
      .ok (.slice (some ⟨u.heap.size, 0, none⟩) L.length L.length) (u.alloc (.cells (madeCells #[.string ⟨#[]⟩] L.length) 9)) := fun u => by
    have h := run_make (P := Try.prog) u 38 9 i0 (.string ⟨#[]⟩) Try.underlying38 hi hz0 .i64 .i64 (L.length : Int) (L.length : Int) (by omega) (Int.le_refl _) (by rw [hy2]; omega) (by omega)
    simpa [hy1, Value.cells] using h
  obtain ⟨M, hM⟩ : ∃ M, M = madeCells #[.string ⟨#[]⟩] L.length := ⟨_, rfl⟩
  rw [← hM] at hmk
  have hMs : M.size = L.length := by rw [hM, ← Array.length_toList, toList_madeCells_one, List.length_replicate]
  obtain ⟨W1, hW1⟩ : ∃ W1, W1 = w.alloc (.cells M 9) := ⟨_, rfl⟩
  have hb1 : Below w.heap.size w W1 := by rw [hW1]; exact (Below.refl _ _).alloc (Nat.le_refl _) _
  have hI : KIn w L 0 W1 := ⟨⟨M, by rw [hW1]; exact heap_alloc_new w _, hMs, by simp⟩, hb1⟩
  obtain ⟨A, c, hc⟩ := h.cells
  have c1 := hc.c1
  have d1 : W1.cell? ⟨g, 1, none⟩ = some (.slice A L.length c) := (hb1.cell (p := ⟨g, 1, none⟩) h.lt.2.1).trans c1
  have hgl := h.lt.2.1
  have HC := Lib.hid hc
  have HI := Lib.hid hI
  have HW1 := Lib.hid hW1
  clear hI hW1 hb1 hMs hM hc h hi hz0 hy1 hy2
  go_enter Try.func18, Try.ntmps18
  go_upto_region 2 with fail
  rw [← HW1.out]
  clear c1
  go_wp2_with fail
  go_loopw [16] (fun v wr => ∃ j : Nat, v = .int .i64 (j : Int) ∧ j ≤ L.length ∧ Hid (KIn w L j wr)) (fun v _ => L.length - (intOf v).toNat)
  case atStart => exact ⟨0, rfl, Nat.zero_le _, HI⟩
  case round =>
    obtain ⟨j, rfl, hj, HJ⟩ := hrel
    have j0 : (0 : Int) ≤ (j : Int) := by omega
    by_cases hjl : j < L.length
    · obtain ⟨p, hp⟩ : ∃ p, L[j]? = some p := ⟨_, List.getElem?_eq_getElem hjl⟩
      obtain ⟨b, hA, hbl, cb, _⟩ := HC.out.at_ j p hp
      subst hA
      have j1 : (j : Int) < (L.length : Int) := by omega
      obtain ⟨⟨u, hu⟩, hf⟩ := HJ.out.cell hjl
      have e1 : wr.cell? ⟨g, 1, none⟩ = some (.slice (some ⟨b, 0, none⟩) L.length c) := (HJ.out.below.cell (p := ⟨g, 1, none⟩) hgl).trans HC.out.c1
      have e2 : wr.cell? ⟨b, j * 2, none⟩ = some (.string p.1) := (HJ.out.below.cell (p := ⟨b, j * 2, none⟩) hbl).trans cb
      have HN := Lib.hid (HJ.out.next hp)
      clear hp cb d1 HJ
      go_wp2_with fail
      go_roundw
      case rel => exact ⟨j + 1, by go_num, by omega, HN⟩
      case measure => simp [intOf]; omega
    · obtain rfl : j = L.length := by omega
      have HE : Hid (KeysIn w L (.returned (.slice (some ⟨w.heap.size, 0, none⟩) L.length L.length)) wr) := Lib.hid (by
        obtain ⟨cs, h1, h2, h3⟩ := HJ.out.ex
        refine ⟨_, rfl, ?_, HJ.out.below⟩
        have hlm : (L.map (·.1)).length = L.length := List.length_map _
        have hmm : (L.map (·.1)).map Value.string = L.map fun p => .string p.1 := by rw [List.map_map]; rfl
        refine Strs.of_own (B := w.heap.size) (e := 9) ?_
        rw [hlm, hmm]
        rw [List.take_length] at h3
        refine ⟨by simp, .inr ⟨w.heap.size, L.length, cs, rfl, Nat.le_refl _, h1, Nat.le_refl _, by simp only [maxLen]; omega, by omega, by rw [Nat.mul_one]; exact h3⟩⟩)
      clear HJ d1
      go_wp2_with fail
      go_ret
      exact HE.out
end Go.Proofs.Ytllebfkodklehaa.lrs
