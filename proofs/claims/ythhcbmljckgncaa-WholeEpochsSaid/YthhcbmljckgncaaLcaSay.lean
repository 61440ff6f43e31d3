/- What socagelaw16's entries and same answer. Condition: what is asked lies in memory. -/
import Derived.Test.YthhcbmljckgncaaLcaAsk
import Derived.Laws.StructEq
namespace Go.Proofs.Ythhcbmljckgncaa.lca
set_option maxRecDepth 100000
open Go.RowKit Go.Proofs.Ythhcbmljckgncaa.words Go.Proofs.Ythhcbmljckgncaa.lru Go.Proofs.Ythhcbmljckgncaa.sha Go.Proofs.Ythhcbmljckgncaa.lrl Go.Proofs.Ythhcbmljckgncaa.shl

/-- What is done: Look, Keep, or Take. -/
structure Act16 where
  kd : Nat
  dr : Nat
  ep : Int
  mn : Nat
def a0 : Act16 := ⟨0, 0, 0, 0⟩
def actV (a : Act16) : Value := .agg #[.int .u8 (a.kd : Int), .int .u8 (a.dr : Int), .int .i64 a.ep, .int .u8 (a.mn : Int)]
def letB (i : Nat) : ByteArray := (⟨#[97, 98, 99, 100]⟩ : ByteArray).extract i (i + 1)
/-- So many entries. -/
def entN (m n : Nat) : List (ByteArray × Int) := (List.range n).map fun i => (letB i, (m : Int))
def entL (m : Nat) : List (ByteArray × Int) := entN m (m % 5)
theorem entN_len (m n : Nat) : (entN m n).length = n := by unfold entN; rw [List.length_map, List.length_range]
theorem entL_len (m : Nat) : (entL m).length = m % 5 := entN_len _ _
theorem cut_0 (w : World) : (Instr.slice 9 (.string ⟨#[97, 98, 99, 100]⟩) (some (.int .i64 0)) (some (.int .i64 1)) none).run Try.prog w = .ok (.string (letB 0)) w := by kernel_rfl
theorem cut_1 (w : World) : (Instr.slice 9 (.string ⟨#[97, 98, 99, 100]⟩) (some (.int .i64 1)) (some (.int .i64 2)) none).run Try.prog w = .ok (.string (letB 1)) w := by kernel_rfl
theorem cut_2 (w : World) : (Instr.slice 9 (.string ⟨#[97, 98, 99, 100]⟩) (some (.int .i64 2)) (some (.int .i64 3)) none).run Try.prog w = .ok (.string (letB 2)) w := by kernel_rfl
theorem cut_3 (w : World) : (Instr.slice 9 (.string ⟨#[97, 98, 99, 100]⟩) (some (.int .i64 3)) (some (.int .i64 4)) none).run Try.prog w = .ok (.string (letB 3)) w := by kernel_rfl
theorem entN_snoc (m j : Nat) : entN m (j + 1) = entN m j ++ [(letB j, (m : Int))] := by
  unfold entN
  rw [List.range_succ, List.map_append]
  rfl
set_option maxHeartbeats 3200000 in
theorem entries_any (m : Nat) (w : World) (hm : m ≤ 255) : Calls Try.prog 30 #[.int .u8 (m : Int)] w (Enrd (entL m) w) := by
  obtain ⟨iE, hiE, zE0, zE1, zE2⟩ := info_three infoEn
  obtain ⟨n, hn⟩ : ∃ n, n = m % 5 := ⟨_, rfl⟩
  have hn5 : n < 5 := by omega
  have hE : entL m = entN m n := by unfold entL; rw [hn]
  have hL : (entN m n).length = n := entN_len m n
  have hr : (m : Int) % 5 = (n : Int) := by omega
  have hr2 : (m : Int).tmod 5 = (n : Int) := by rw [Int.tmod_eq_emod_of_nonneg (by omega)]; exact hr
  have m0 : (0 : Int) ≤ (m : Int) := by omega
  have m1 : (m : Int) ≤ 255 := by omega
  have hwm : IntKind.i64.wrap (m : Int) = (m : Int) := IntWalk.i64_in _ (by omega)
  rw [hE]
  have HL := Lib.hid hL
  clear hE hL hn
  go_enter Try.func30, Try.ntmps30
  go_wp2_with fail
  go_loopw [8, 3] (fun v v3 wr => ∃ j : Nat, v = .int .i64 (j : Int) ∧ j ≤ n ∧ Hid (wr.ownsRow w.heap.size 81 2 v3 j ((entN m j).flatMap enC)) ∧ Hid (Below w.heap.size w wr)) (fun v _ _ => n - (intOf v).toNat)
  case atStart => exact ⟨0, rfl, Nat.zero_le _, Lib.hid (World.ownsRow_nil _ _ _ _), Lib.hid (Below.refl _ _)⟩
  case round =>
    obtain ⟨j, rfl, hj, HO, HB⟩ := hrel
    obtain ⟨Ar, cr, rfl, hcr, _, _⟩ := own_facts HO.out
    have j0 : (0 : Int) ≤ (j : Int) := by omega
    by_cases hjl : j < n
    · have j1 : (j : Int) < (n : Int) := by omega
      have j2 : j < 5 := by omega
      obtain ⟨lb, hlb⟩ : ∃ lb, lb = letB j := ⟨_, rfl⟩
      have hsl : ∀ w : World, (Instr.slice 9 (.string ⟨#[97, 98, 99, 100]⟩) (some (.int .i64 (j : Int))) (some (.int .i64 ((j : Int) + 1))) none).run Try.prog w = .ok (.string lb) w := fun w => by
        rw [hlb]
        have hj4 : j = 0 ∨ j = 1 ∨ j = 2 ∨ j = 3 := by omega
        rcases hj4 with rfl | rfl | rfl | rfl
        · exact cut_0 w
        · exact cut_1 w
        · exact cut_2 w
        · exact cut_3 w
      have hj1w : IntKind.i64.wrap ((j : Int) + 1) = (j : Int) + 1 := IntWalk.i64_in _ (by omega)
      obtain ⟨Wc, hWc⟩ : ∃ Wc, Wc = wr.alloc (.cells #[.string lb, .int .i64 (m : Int)] 81) := ⟨_, rfl⟩
      have hbc : Below wr.heap.size wr Wc := by rw [hWc]; exact (Below.refl _ _).alloc (Nat.le_refl _) _
      have HNc : Hid (∀ (i : Nat) (u : Value), (enC (lb, (m : Int)))[i]? = some u → Wc.cell? ((⟨wr.heap.size, 0, none⟩ : Addr).add i) = some u) := Lib.hid fun i u hi => by rw [hWc, new_cell]; simpa [enC] using hi
      have HOc := Lib.hid (ownL HO.out hbc)
      have HBc := Lib.hid (HB.out.trans (hbc.mono HB.out.size))
      have HTk : Hid ((entN m (j + 1)).flatMap enC = (entN m j).flatMap enC ++ enC (lb, (m : Int))) := Lib.hid (by
        rw [entN_snoc, List.flatMap_append, List.flatMap_singleton, hlb])
      have HONE : Hid (∀ u ∈ enC (lb, (m : Int)), u.oneCell' = true) := Lib.hid (fun u hu => by
        simp only [enC, List.mem_cons, List.mem_nil_iff, or_false] at hu
        rcases hu with rfl | rfl <;> rfl)
      have HWc := Lib.hid hWc.symm
      clear hlb HO HB hWc hbc
      go_wp2_with (at_builtin; rw [HWc.out]; refine wpList_append_own _ rfl (.tmp 11) (.tmp 19) 72 rfl w.heap.size 81 iE _ 2 24 Try.underlying72 hiE zE0 zE1 zE2 rfl (by omega) (.slice Ar j cr) j ((entN m j).flatMap enC) rfl HOc.out ⟨wr.heap.size, 0, none⟩ 1 1 (enC (lb, (m : Int))) rfl rfl HNc.out HONE.out (by simp only [maxLen]; omega) (by omega) HBc.out.size ?_; intro v5' wq hownq hgrowq hnilq)
      have HBq := Lib.hid (keep_grown HBc.out HOc.out hgrowq (Nat.le_refl _) (Nat.le_refl _))
      have HOq : Hid (wq.ownsRow w.heap.size 81 2 v5' (j + 1) ((entN m (j + 1)).flatMap enC)) := Lib.hid (by rw [HTk.out]; exact hownq)
      clear hownq hgrowq hnilq
      go_wp2_with fail
      go_roundw
      case rel => exact ⟨j + 1, by go_num, by omega, HOq, HBq⟩
      case measure => simp [intOf]; omega
    · obtain rfl : j = n := by omega
      have HE : Hid (Enrd (entN m j) w (.returned (.slice Ar j cr)) wr) := Lib.hid ⟨⟨Ar, cr, by rw [HL.out], by
        unfold Enr
        rw [HL.out]
        exact HO.out⟩, HB.out⟩
      clear HO HB
      go_wp2_with fail
      go_ret
      exact HE.out
set_option maxHeartbeats 3200000 in
/-- Two lists that are one. -/
theorem same_any (lo1 lo2 : Nat) (A1 A2 : Option Addr) (c1 c2 : Nat) (P : List (ByteArray × Int)) (w : World) (h1 : Enr w lo1 (.slice A1 P.length c1) P) (h2 : Enr w lo2 (.slice A2 P.length c2) P) (hP : P.length ≤ 1000) :
    Calls Try.prog 29 #[.slice A1 P.length c1, .slice A2 P.length c2] w fun e w' => e = .returned (.bool true) ∧ ∃ m, w' = w.drewN m := by
  have HS1 := Lib.hid h1
  have HS2 := Lib.hid h2
  obtain ⟨n, hn⟩ : ∃ n, n = P.length := ⟨_, rfl⟩
  have HN := Lib.hid hn
  have hnl : n ≤ 1000 := by omega
  rw [← hn]
  clear h1 h2 hP hn
  go_enter Try.func29, Try.ntmps29
  go_wp2_with fail
  go_loopw [13] (fun v wr => ∃ j m : Nat, v = .int .i64 (j : Int) ∧ j ≤ n ∧ wr = w.drewN m) (fun v _ => n - (intOf v).toNat)
  case atStart => exact ⟨0, 0, rfl, Nat.zero_le _, rfl⟩
  case round =>
    obtain ⟨j, m, rfl, hj, rfl⟩ := hrel
    have j0 : (0 : Int) ≤ (j : Int) := by omega
    by_cases hjn : j < n
    · have j1 : (j : Int) < (n : Int) := by omega
      obtain ⟨p, hp⟩ : ∃ p, P[j]? = some p := ⟨_, List.getElem?_eq_getElem (by have := HN.out; omega)⟩
      obtain ⟨b1, hA1, _, s0, s1⟩ := HS1.out.at hp
      obtain ⟨b2, hA2, _, t0, t1⟩ := HS2.out.at hp
      subst hA1 hA2
      clear hp
      go_wp2_with fail
      go_quiet (fail)
      go_wp2_with fail
      go_roundw
      case rel => exact ⟨j + 1, _, by go_num, by omega, rfl⟩
      case measure => simp [intOf]; omega
    · go_wp2_with fail
      go_ret
      exact ⟨rfl, m, rfl⟩
end Go.Proofs.Ythhcbmljckgncaa.lca
