/- What the reference's Find, Use and Put answer of a row of pairs. Condition: the row lies in memory. -/
import Derived.Test.YtllebfkodklehaaLruOpsS
namespace Go.Proofs.Ytllebfkodklehaa.lrs
set_option maxRecDepth 100000
open Go.RowKit Go.Proofs.Ytllebfkodklehaa.words Go.Proofs.Ytllebfkodklehaa.lru

/-- The reference's row of pairs. -/
def Ref (w : World) (B : Nat) (v : Value) (L : List (ByteArray × Int)) : Prop := w.ownsRow B 32 2 v L.length (L.flatMap pC)
theorem Ref.pair {w : World} {B : Nat} {A : Option Addr} {c : Nat} {L : List (ByteArray × Int)} (h : Ref w B (.slice A L.length c) L) {i : Nat} {p : ByteArray × Int} (hi : L[i]? = some p) :
    ∃ b, A = some ⟨b, 0, none⟩ ∧ B ≤ b ∧ b < w.heap.size ∧ w.cell? ⟨b, i * 2, none⟩ = some (.string p.1) ∧ w.cell? ⟨b, i * 2 + 1, none⟩ = some (.int .i64 p.2) := by
  obtain ⟨g, c', h1, h2, h3, h4⟩ := own_at h (j := i * 2 + 0) (u := .string p.1) (by rw [pC_at hi 0 (by omega)]; rfl)
  obtain ⟨g', c'', h5, _, _, h6⟩ := own_at h (j := i * 2 + 1) (u := .int .i64 p.2) (by rw [pC_at hi 1 (by omega)]; rfl)
  rw [h1] at h5
  injection h5 with e1
  injection e1 with e1
  injection e1 with e1
  subst e1
  injection h1 with e1
  exact ⟨g, e1, h2, h3, h4, h6⟩
set_option maxHeartbeats 1600000 in
theorem find_yes (B i c : Nat) (A : Option Addr) (L : List (ByteArray × Int)) (k : ByteArray) (x : Int) (w : World) (h : Ref w B (.slice A L.length c) L) (hi : L[i]? = some (k, x)) (hnd : (L.map (·.1)).Nodup) (hl : L.length ≤ 1000) :
    Calls Try.prog 10 #[.slice A L.length c, .string k] w fun e w' => e = .returned (.int .i64 (i : Int)) ∧ w = w' := by
  have hlt : i < L.length := (List.getElem?_eq_some_iff.1 hi).1
  have H := Lib.hid h
  have HI := Lib.hid hi
  have HN := Lib.hid (fun (j : Nat) (p : ByteArray × Int) (hj : L[j]? = some p) (hji : j < i) => key_ne hi hnd hj hji)
  clear h hi hnd
  go_enter Try.func10, Try.ntmps10
  go_wp2_with fail
  go_loop [5] (fun v => ∃ j : Nat, j ≤ i ∧ v = .int .i64 (j : Int)) (fun v => L.length - (intOf v).toNat)
  case atStart => exact ⟨0, Nat.zero_le _, rfl⟩
  case round =>
    obtain ⟨j, hj, rfl⟩ := hrel
    have hjl : j < L.length := by omega
    obtain ⟨p, hp⟩ : ∃ p, L[j]? = some p := ⟨_, List.getElem?_eq_getElem hjl⟩
    obtain ⟨b, hA, _, _, cb, _⟩ := H.out.pair hp
    subst hA
    have j0 : (0 : Int) ≤ (j : Int) := by omega
    have j1 : (j : Int) < (L.length : Int) := by omega
    by_cases hji : j < i
    · have hne : (p.1.toList == k.toList) = false := toListNe (HN.out j p hp hji)
      clear hp
      go_wp2_with fail
      go_round
      case rel => exact ⟨j + 1, by omega, by go_num⟩
      case measure => simp [intOf]; omega
    · obtain rfl : j = i := by omega
      have hpk : p.1 = k := by have := hp.symm.trans HI.out; injection this with this; rw [this]
      rw [hpk] at cb
      have heq : (k.toList == k.toList) = true := by simp
      clear hp hpk
      go_wp2_with fail
      go_ret
      exact ⟨rfl, rfl⟩
set_option maxHeartbeats 1600000 in
theorem find_no (B c : Nat) (A : Option Addr) (L : List (ByteArray × Int)) (k : ByteArray) (w : World) (h : Ref w B (.slice A L.length c) L) (hn : ∀ p ∈ L, p.1 ≠ k) (hl : L.length ≤ 1000) :
    Calls Try.prog 10 #[.slice A L.length c, .string k] w fun e w' => e = .returned (.int .i64 (-1)) ∧ w = w' := by
  have H := Lib.hid h
  have HN := Lib.hid hn
  clear h hn
  go_enter Try.func10, Try.ntmps10
  go_wp2_with fail
  go_loop [5] (fun v => ∃ j : Nat, j ≤ L.length ∧ v = .int .i64 (j : Int)) (fun v => L.length - (intOf v).toNat)
  case atStart => exact ⟨0, Nat.zero_le _, rfl⟩
  case round =>
    obtain ⟨j, hj, rfl⟩ := hrel
    have j0 : (0 : Int) ≤ (j : Int) := by omega
    by_cases hjl : j < L.length
    · obtain ⟨p, hp⟩ : ∃ p, L[j]? = some p := ⟨_, List.getElem?_eq_getElem hjl⟩
      obtain ⟨b, hA, _, _, cb, _⟩ := H.out.pair hp
      subst hA
      have j1 : (j : Int) < (L.length : Int) := by omega
      have hne : (p.1.toList == k.toList) = false := toListNe (HN.out p (List.mem_of_getElem? hp))
      clear hp
      go_wp2_with fail
      go_round
      case rel => exact ⟨j + 1, by omega, by go_num⟩
      case measure => simp [intOf]; omega
    · go_wp2_with fail
      go_ret
      exact ⟨rfl, rfl⟩

theorem infoRef : (Try.prog.info? 32).map (fun i => (i.zero, i.size, i.bytes)) = some (some (.agg #[.string ⟨#[]⟩, .int .i64 0]), 2, 24) := by kernel_rfl
theorem rest_snoc (L : List (ByteArray × Int)) (k : ByteArray) {j : Nat} {p : ByteArray × Int} (hp : L[j]? = some p) : rest (L.take (j + 1)) k = rest (L.take j) k ++ (if p.1 = k then [] else [p]) := by
  obtain ⟨hj, hx⟩ := List.getElem?_eq_some_iff.1 hp
  rw [List.take_succ_eq_append_getElem hj, hx]
  unfold rest
  rw [List.filter_append]
  congr 1
  by_cases h : p.1 = k <;> simp [h]
theorem rest_take_le (L : List (ByteArray × Int)) (k : ByteArray) (j : Nat) : (rest (L.take j) k).length ≤ L.length := by
  have := rest_le (L.take j) k
  rw [List.length_take] at this
  omega
def UseIn (w : World) (L : List (ByteArray × Int)) (e : Ending) (w' : World) : Prop := ∃ v, e = .returned v ∧ Ref w' w.heap.size v L ∧ Below w.heap.size w w'
set_option maxHeartbeats 3200000 in
theorem use_any (B c : Nat) (A : Option Addr) (L : List (ByteArray × Int)) (k : ByteArray) (x : Int) (w : World) (h : Ref w B (.slice A L.length c) L) (hl : L.length ≤ 1000) :
    Calls Try.prog 12 #[.slice A L.length c, .agg #[.string k, .int .i64 x]] w (UseIn w ((k, x) :: rest L k)) := by
  obtain ⟨iE, hiE, zE0, zE1, zE2⟩ := info_three infoRef
  obtain ⟨W1, hW1⟩ : ∃ W1, W1 = w.alloc (.cells #[.string k, .int .i64 x] 32) := ⟨_, rfl⟩
  obtain ⟨W2, hW2⟩ : ∃ W2, W2 = W1.alloc (.cells #[.string k, .int .i64 x] 32) := ⟨_, rfl⟩
  have hb1 : Below w.heap.size w W1 := by rw [hW1]; exact (Below.refl _ _).alloc (Nat.le_refl _) _
  have hz1 : W1.heap.size = w.heap.size + 1 := by rw [hW1]; simp
  have hb2 : Below W1.heap.size W1 W2 := by rw [hW2]; exact (Below.refl _ _).alloc (Nat.le_refl _) _
  have hk1 : W1.heap[w.heap.size]? = some (.cells #[.string k, .int .i64 x] 32 (0, 0)) := by rw [hW1]; exact heap_alloc_new w _
  have q0 : W1.cell? ⟨w.heap.size, 0, none⟩ = some (.string k) := cell_of_blk hk1 0
  have q1 : W1.cell? ⟨w.heap.size, 1, none⟩ = some (.int .i64 x) := cell_of_blk hk1 1
  have ho2 : W2.ownsRow W1.heap.size 32 2 (.slice (some ⟨W1.heap.size, 0, none⟩) 1 1) 1 (([(k, x)] : List (ByteArray × Int)).flatMap pC) := by
    rw [hW2]
    exact own_full W1 W1.heap.size 2 1 32 (([(k, x)] : List (ByteArray × Int)).flatMap pC) (Nat.le_refl _) (by decide) rfl
  have H := Lib.hid h
  have HB1 := Lib.hid hb1
  have HK1 := Lib.hid hk1
  have HO2 := Lib.hid ho2
  have HB2 := Lib.hid hb2
  have HW1 := Lib.hid hW1
  have HW2 := Lib.hid hW2
  have HZ1 := Lib.hid hz1
  rw [hz1] at ho2
  clear h hb1 hk1 ho2 hb2 hW1 hW2 hz1
  go_enter Try.func12, Try.ntmps12
  go_upto_region 1 with fail
  rw [← HW1.out]
  go_upto_region 2 with fail
  rw [← HW2.out]
  clear q0 q1
  go_wp2_with fail
  go_loopw [6, 5] (fun v v5 wr => ∃ j : Nat, v = .int .i64 (j : Int) ∧ j ≤ L.length ∧ Hid (wr.ownsRow W1.heap.size 32 2 v5 (1 + (rest (L.take j) k).length) (((k, x) :: rest (L.take j) k).flatMap pC)) ∧ Hid (Below W1.heap.size W1 wr)) (fun v _ _ => L.length - (intOf v).toNat)
  case atStart => exact ⟨0, rfl, Nat.zero_le _, HO2, HB2⟩
  case round =>
    obtain ⟨j, rfl, hj, HO, HB⟩ := hrel
    obtain ⟨Ar, cr, rfl, hcr, _, _⟩ := own_facts HO.out
    have j0 : (0 : Int) ≤ (j : Int) := by omega
    by_cases hjl : j < L.length
    · obtain ⟨p, hp⟩ : ∃ p, L[j]? = some p := ⟨_, List.getElem?_eq_getElem hjl⟩
      obtain ⟨b, hA, _, hbl, cb0, cb1⟩ := H.out.pair hp
      subst hA
      have j1 : (j : Int) < (L.length : Int) := by omega
      have hbw : b < W1.heap.size := by have := HB1.out.size; omega
      have c0 : wr.cell? ⟨b, j * 2, none⟩ = some (.string p.1) := (HB.out.cell (p := ⟨b, j * 2, none⟩) hbw).trans ((HB1.out.cell (p := ⟨b, j * 2, none⟩) hbl).trans cb0)
      have c1 : wr.cell? ⟨b, j * 2 + 1, none⟩ = some (.int .i64 p.2) := (HB.out.cell (p := ⟨b, j * 2 + 1, none⟩) hbw).trans ((HB1.out.cell (p := ⟨b, j * 2 + 1, none⟩) hbl).trans cb1)
      have hwl : w.heap.size < W1.heap.size := by have := HZ1.out; omega
      have q0 : wr.cell? ⟨w.heap.size, 0, none⟩ = some (.string k) := (HB.out.cell (p := ⟨w.heap.size, 0, none⟩) hwl).trans (cell_of_blk HK1.out 0)
      by_cases hpk : p.1 = k
      · have hne : (k.toList != k.toList) = false := by simp
        have HO' : Hid (wr.drew.ownsRow W1.heap.size 32 2 (.slice Ar (1 + (rest (L.take j) k).length) cr) (1 + (rest (L.take (j + 1)) k).length) (((k, x) :: rest (L.take (j + 1)) k).flatMap pC)) := Lib.hid (by
          rw [rest_snoc L k hp, if_pos hpk, List.append_nil]; exact HO.out)
        have HB' : Hid (Below W1.heap.size W1 wr.drew) := Lib.hid ⟨HB.out.os, HB.out.tape, HB.out.output, HB.out.size, HB.out.block⟩
        rw [hpk] at c0
        clear hp hpk HO HB cb0 cb1
        go_wp2_with fail
        go_region
        all_goals
          go_wp2_with fail
          go_roundw
          case rel => exact ⟨j + 1, by go_num, by omega, HO', HB'⟩
          case measure => simp [intOf]; omega
      · have hne : (p.1.toList != k.toList) = true := by rw [bne, toListNe hpk]; rfl
        have hne4 : (!(p.1.toList == k.toList)) = true := by rw [toListNe hpk]; rfl
        obtain ⟨Wd, hWd⟩ : ∃ Wd, Wd = wr.drew := ⟨_, rfl⟩
        obtain ⟨Wc, hWc⟩ : ∃ Wc, Wc = Wd.alloc (.cells #[.string p.1, .int .i64 p.2] 32) := ⟨_, rfl⟩
        have hbd : Below wr.heap.size wr Wd := by rw [hWd]; exact ⟨rfl, rfl, rfl, Nat.le_refl _, fun _ _ => rfl⟩
        have hzd : Wd.heap.size = wr.heap.size := by rw [hWd]; rfl
        have hbc : Below Wd.heap.size Wd Wc := by rw [hWc]; exact (Below.refl _ _).alloc (Nat.le_refl _) _
        have HNc : Hid (∀ (i : Nat) (u : Value), (pC p)[i]? = some u → Wc.cell? ((⟨Wd.heap.size, 0, none⟩ : Addr).add i) = some u) := Lib.hid fun i u hi => by rw [hWc, new_cell]; simpa [pC] using hi
        have hbdc : Below wr.heap.size wr Wc := hbd.trans (hbc.mono (Nat.le_of_eq hzd.symm))
        have HOc := Lib.hid (ownL HO.out hbdc)
        have HBc := Lib.hid (HB.out.trans (hbdc.mono HB.out.size))
        have d1 : Wd.cell? ⟨b, j * 2, none⟩ = some (.string p.1) := by rw [hWd]; exact c0
        have d2 : Wd.cell? ⟨b, j * 2 + 1, none⟩ = some (.int .i64 p.2) := by rw [hWd]; exact c1
        have HTk : Hid (((k, x) :: rest (L.take (j + 1)) k).flatMap pC = ((k, x) :: rest (L.take j) k).flatMap pC ++ pC p ∧ 1 + (rest (L.take (j + 1)) k).length = 1 + (rest (L.take j) k).length + 1) := Lib.hid (by
          rw [rest_snoc L k hp, if_neg hpk]
          refine ⟨?_, by simp; omega⟩
          rw [← List.cons_append, List.flatMap_append, List.flatMap_singleton])
        have hlr := rest_take_le L k j
        have HONE := Lib.hid (pC_one p)
        have HWd := Lib.hid hWd
        have HWc := Lib.hid hWc.symm
        clear hp hpk HO HB cb0 cb1 hWd hWc hbd hzd hbc hbdc
        go_wp2_with fail
        go_region
        all_goals
          rw [← HWd.out]
          clear c0 c1 q0
          go_wp2_with (at_builtin; rw [HWc.out]; refine wpList_append_own _ rfl (.tmp 23) (.tmp 28) 26 rfl W1.heap.size 32 iE _ 2 24 Try.underlying26 hiE zE0 zE1 zE2 rfl (by omega) (.slice Ar (1 + (rest (L.take j) k).length) cr) (1 + (rest (L.take j) k).length) (((k, x) :: rest (L.take j) k).flatMap pC) rfl HOc.out ⟨Wd.heap.size, 0, none⟩ 1 1 (pC p) rfl rfl HNc.out HONE.out (by simp only [maxLen]; omega) (by omega) HBc.out.size ?_; intro v5' wq hownq hgrowq hnilq)
          have HBq := Lib.hid (keep_grown HBc.out HOc.out hgrowq (Nat.le_refl _) (Nat.le_refl _))
          have HOq : Hid (wq.ownsRow W1.heap.size 32 2 v5' (1 + (rest (L.take (j + 1)) k).length) (((k, x) :: rest (L.take (j + 1)) k).flatMap pC)) := Lib.hid (by rw [HTk.out.1, HTk.out.2]; exact hownq)
          clear hownq hgrowq hnilq
          go_roundw
          case rel => exact ⟨j + 1, by go_num, by omega, HOq, HBq⟩
          case measure => simp [intOf]; omega
    · obtain rfl : j = L.length := by omega
      have HE : Hid (UseIn w ((k, x) :: rest L k) (.returned (.slice Ar (1 + (rest (L.take L.length) k).length) cr)) wr) := Lib.hid ⟨_, rfl, by
        have h := HO.out
        rw [List.take_length] at h ⊢
        unfold Ref
        rw [show ((k, x) :: rest L k).length = 1 + (rest L k).length by rw [List.length_cons, Nat.add_comm]]
        exact own_mono h (show w.heap.size ≤ W1.heap.size by have := HZ1.out; omega), HB1.out.trans (HB.out.mono HB1.out.size)⟩
      clear HO HB
      go_wp2_with fail
      go_ret
      exact HE.out
end Go.Proofs.Ytllebfkodklehaa.lrs
