/- Where a cache has a key. Condition: the cache lies in memory. -/
import Derived.Test.YthhcbmljckgncaaLrdMem
import Derived.Defers
import Derived.Recover
import Derived.Deep.LoopGhost
import Derived.Lib.Hide
import Derived.StillTailTactics
import Derived.IntWalk
import Derived.Deep.Cut
import Derived.KernelRfl
import Derived.WalkSpells
import Derived.WalkLawsBesides
import Derived.Outline
import Derived.LoopTactic
import Derived.Test.YthhcbmljckgncaaChecked
namespace Go.Proofs.Ythhcbmljckgncaa.lrd
set_option maxRecDepth 100000
open Go.RowKit Go.Proofs.Ythhcbmljckgncaa.words Go.Proofs.Ythhcbmljckgncaa.lru

theorem toList_inj {a b : ByteArray} (h : a.toList = b.toList) : a = b := by
  rw [ByteArray.toList_eq, ByteArray.toList_eq] at h
  exact ByteArray.ext (Array.ext' h)
theorem toListNe {a b : ByteArray} (h : a ≠ b) : (a.toList == b.toList) = false := by
  rw [beq_eq_false_iff_ne]
  exact fun e => h (toList_inj e)
theorem idle (a : Addr) (w : World) : CallsD Try.prog 71 #[.pointer (some a)] .returning w fun e u' w' => e = .returned (.tuple #[]) ∧ u' = .returning ∧ w' = w := by
  refine callsD_of_wpS Try.func71 rfl fun c₀ cs hu => ?_
  apply wpS_seq
  apply wpS_region
  simp [wpOpsS, go_sem, recoverD, hu, Try.ntmps71, Exit.thenS]
  refine wpS_cond (t := false) (by simp [Act.eval, Array.replicate]) ?_
  simp only [Bool.false_eq_true, if_false]
  refine wpS_of_wp (wp_skip ?_)
  cases c₀
  simp_all [bodyPostS, results, Try.results71]

def At (i : Int) (w : World) (e : Ending) (w' : World) : Prop := e = .returned (.int .i64 i) ∧ Tn (fun _ => False) w w'
theorem key_ne {L : List (ByteArray × Ent)} {i j : Nat} {k : ByteArray} {x : Ent} {p : ByteArray × Ent} (hi : L[i]? = some (k, x)) (hnd : (L.map (·.1)).Nodup) (hj : L[j]? = some p) (hji : j < i) : p.1 ≠ k := fun he => by
  have h1 : (L.map (·.1))[i]? = some k := by rw [List.getElem?_map, hi]; rfl
  have h2 : (L.map (·.1))[j]? = some k := by rw [List.getElem?_map, hj, ← he]; rfl
  have hjl : j < (L.map (·.1)).length := (List.getElem?_eq_some_iff.1 h2).1
  have := (List.getElem?_inj hjl hnd).1 (h2.trans h1.symm)
  omega
set_option maxHeartbeats 1600000 in
theorem at_yes (B g i : Nat) (bo : Option Nat) (r : Nat) (L : List (ByteArray × Ent)) (k : ByteArray) (x : Ent) (w : World) (h : Lru w B g bo r L) (hi : L[i]? = some (k, x)) (hnd : (L.map (·.1)).Nodup) (hl : L.length ≤ 1000) :
    Calls Try.prog 65 #[.pointer (some ⟨g, 0, none⟩), .string (k)] w (At (i : Int) w) := by
  obtain ⟨A, c, hc⟩ := h.cells
  obtain ⟨W1, hW1⟩ : ∃ W1, W1 = w.alloc (.cells #[.int .i64 0] 3) := ⟨_, rfl⟩
  have hb1 : Below w.heap.size w W1 := by rw [hW1]; exact (Below.refl _ _).alloc (Nat.le_refl _) _
  have hbk : W1.heap[w.heap.size]? = some (.cells #[.int .i64 0] 3 (0, 0)) := by rw [hW1]; exact heap_alloc_new w _
  have cg : W1.cell? ⟨g, 1, none⟩ = some (.slice A L.length c) := (hb1.cell (p := ⟨g, 1, none⟩) h.lt.2.1).trans hc.c1
  have r0 : W1.cell? ⟨w.heap.size, 0, none⟩ = some (.int .i64 0) := cell_of_blk hbk 0
  have f0 : W1.frozen? ⟨w.heap.size, 0, none⟩ = false := free_of_blk hbk 0
  have hk : ∀ j p, L[j]? = some p → ∃ b, A = some ⟨b, 0, none⟩ ∧ W1.cell? ⟨b, j * 8, none⟩ = some (.string (p.1)) := fun j p hj => by
    obtain ⟨b, h1, h2, h3, _⟩ := hc.at_ j p hj
    exact ⟨b, h1, (hb1.cell (p := ⟨b, j * 8, none⟩) h2).trans h3⟩
  have hlt : i < L.length := (List.getElem?_eq_some_iff.1 hi).1
  have hE : Tn (fun _ => False) w (W1.setCell ⟨w.heap.size, 0, none⟩ (.int .i64 (i : Int))) := by
    rw [hW1]
    exact ((Tn.refl _ w).alloc _).setCell (.inl (Nat.le_refl _)) _
  have hmf : ∀ (fn : Fn) (first cap : Array Value) (w : World), (Instr.makeFunc fn first cap).run Try.prog w = .ok (.func fn first cap) w := fun _ _ _ _ => rfl
  have HE := Lib.hid hE
  have HK := Lib.hid hk
  have HW1 := Lib.hid hW1
  have HI := Lib.hid hi
  have HN := Lib.hid (fun (j : Nat) (p : ByteArray × Ent) (hj : L[j]? = some p) (hji : j < i) => key_ne hi hnd hj hji)
  clear hE hk hW1 hi hnd hc h hb1 hbk
  go_enter_defers Try.func65, Try.ntmps65
  go_upto_region 1 with fail
  rw [← HW1.out]
  go_wp2_with fail
  go_loop [12] (fun v => ∃ j : Nat, j ≤ i ∧ v = .int .i64 (j : Int)) (fun v => L.length - (intOf v).toNat)
  case atStart => exact ⟨0, Nat.zero_le _, rfl⟩
  case round =>
    obtain ⟨j, hj, rfl⟩ := hrel
    have hjl : j < L.length := by omega
    obtain ⟨p, hp⟩ : ∃ p, L[j]? = some p := ⟨_, List.getElem?_eq_getElem hjl⟩
    obtain ⟨b, hA, cb⟩ := HK.out j p hp
    subst hA
    have j0 : (0 : Int) ≤ (j : Int) := by omega
    have j1 : (j : Int) < (L.length : Int) := by omega
    by_cases hji : j < i
    · have hne : ((p.1).toList == (k).toList) = false := toListNe (HN.out j p hp hji)
      clear hp
      go_wp2_with fail
      go_round
      case rel => exact ⟨j + 1, by omega, by go_num⟩
      case measure => simp [intOf]; omega
    · obtain rfl : j = i := by omega
      have hpk : p.1 = k := by have := hp.symm.trans HI.out; injection this with this; rw [this]
      rw [hpk] at cb
      have heq : ((k).toList == (k).toList) = true := by simp
      clear hp hpk
      go_wp2_with fail
      refine leaves_cons (f := 71) (args := #[.pointer (some ⟨w.heap.size, 0, none⟩)]) (by simp) (by simp [go_sem]) ?_
      refine (idle ⟨w.heap.size, 0, none⟩ _).mono ?_
      rintro e u' w'' ⟨rfl, rfl, rfl⟩
      simp [Leaves, settle, results, Try.results65, go_sem]
      exact ⟨_, (by rw [World.cell?_setCell_same _ _ _ r0]), rfl, HE.out⟩
set_option maxHeartbeats 1600000 in
theorem at_no (B g : Nat) (bo : Option Nat) (r : Nat) (L : List (ByteArray × Ent)) (k : ByteArray) (w : World) (h : Lru w B g bo r L) (hn : ∀ p ∈ L, p.1 ≠ k) (hl : L.length ≤ 1000) :
    Calls Try.prog 65 #[.pointer (some ⟨g, 0, none⟩), .string (k)] w (At (-1) w) := by
  obtain ⟨A, c, hc⟩ := h.cells
  obtain ⟨W1, hW1⟩ : ∃ W1, W1 = w.alloc (.cells #[.int .i64 0] 3) := ⟨_, rfl⟩
  have hb1 : Below w.heap.size w W1 := by rw [hW1]; exact (Below.refl _ _).alloc (Nat.le_refl _) _
  have hbk : W1.heap[w.heap.size]? = some (.cells #[.int .i64 0] 3 (0, 0)) := by rw [hW1]; exact heap_alloc_new w _
  have cg : W1.cell? ⟨g, 1, none⟩ = some (.slice A L.length c) := (hb1.cell (p := ⟨g, 1, none⟩) h.lt.2.1).trans hc.c1
  have r0 : W1.cell? ⟨w.heap.size, 0, none⟩ = some (.int .i64 0) := cell_of_blk hbk 0
  have f0 : W1.frozen? ⟨w.heap.size, 0, none⟩ = false := free_of_blk hbk 0
  have hk : ∀ j p, L[j]? = some p → ∃ b, A = some ⟨b, 0, none⟩ ∧ W1.cell? ⟨b, j * 8, none⟩ = some (.string (p.1)) := fun j p hj => by
    obtain ⟨b, h1, h2, h3, _⟩ := hc.at_ j p hj
    exact ⟨b, h1, (hb1.cell (p := ⟨b, j * 8, none⟩) h2).trans h3⟩
  have hE : Tn (fun _ => False) w (W1.setCell ⟨w.heap.size, 0, none⟩ (.int .i64 (-1))) := by
    rw [hW1]
    exact ((Tn.refl _ w).alloc _).setCell (.inl (Nat.le_refl _)) _
  have hmf : ∀ (fn : Fn) (first cap : Array Value) (w : World), (Instr.makeFunc fn first cap).run Try.prog w = .ok (.func fn first cap) w := fun _ _ _ _ => rfl
  have HE := Lib.hid hE
  have HK := Lib.hid hk
  have HW1 := Lib.hid hW1
  have HN := Lib.hid hn
  clear hE hk hW1 hn hc h hb1 hbk
  go_enter_defers Try.func65, Try.ntmps65
  go_upto_region 1 with fail
  rw [← HW1.out]
  go_wp2_with fail
  go_loop [12] (fun v => ∃ j : Nat, j ≤ L.length ∧ v = .int .i64 (j : Int)) (fun v => L.length - (intOf v).toNat)
  case atStart => exact ⟨0, Nat.zero_le _, rfl⟩
  case round =>
    obtain ⟨j, hj, rfl⟩ := hrel
    have j0 : (0 : Int) ≤ (j : Int) := by omega
    by_cases hjl : j < L.length
    · obtain ⟨p, hp⟩ : ∃ p, L[j]? = some p := ⟨_, List.getElem?_eq_getElem hjl⟩
      obtain ⟨b, hA, cb⟩ := HK.out j p hp
      subst hA
      have j1 : (j : Int) < (L.length : Int) := by omega
      have hne : ((p.1).toList == (k).toList) = false := toListNe (HN.out p (List.mem_of_getElem? hp))
      clear hp
      go_wp2_with fail
      go_round
      case rel => exact ⟨j + 1, by omega, by go_num⟩
      case measure => simp [intOf]; omega
    · go_wp2_with fail
      refine leaves_cons (f := 71) (args := #[.pointer (some ⟨w.heap.size, 0, none⟩)]) (by simp) (by simp [go_sem]) ?_
      refine (idle ⟨w.heap.size, 0, none⟩ _).mono ?_
      rintro e u' w'' ⟨rfl, rfl, rfl⟩
      simp [Leaves, settle, results, Try.results65, go_sem]
      exact ⟨_, (by rw [World.cell?_setCell_same _ _ _ r0]), rfl, HE.out⟩
end Go.Proofs.Ythhcbmljckgncaa.lrd
