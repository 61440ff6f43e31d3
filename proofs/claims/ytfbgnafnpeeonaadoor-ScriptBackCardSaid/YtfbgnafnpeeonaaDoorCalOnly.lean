/- What the reference's Only answers. Condition: the path's length is one. -/
import Derived.Test.YtfbgnafnpeeonaaDoorCalParse
namespace Go.Proofs.YtfbgnafnpeeonaaDoor.cal
set_option maxRecDepth 100000
open Go.RowKit Go.Proofs.YtfbgnafnpeeonaaDoor.words

theorem only_bad {k o n i : Int} {p g : ByteArray} (h : 10 ∈ p.data.toList) : onlyM (opM k p o n i g) = false := by
  unfold onlyM opM
  simp only
  rw [decide_eq_true h]
  rfl
theorem byte_mem (s : ByteArray) (k : Nat) (h : k < s.size) : s[k] ∈ s.data.toList := by
  have h1 := take_snoc s k h
  have h2 : s[k] ∈ s.data.toList.take (k + 1) := by rw [h1]; simp
  exact List.mem_of_mem_take h2
def AnsB (b : Bool) (w : World) (e : Ending) (w' : World) : Prop := e = .returned (.bool b) ∧ Below w.heap.size w w'
set_option maxHeartbeats 12800000 in
theorem only_any (k : Int) (p : ByteArray) (o n i : Int) (g : ByteArray) (w : World) (hp : p.size ≤ 9223372036854775807) : Calls Tryd.prog 16 #[opV k p o n i g] w (AnsB (onlyM (opM k p o n i g)) w) := by
  obtain ⟨W1, hW1⟩ : ∃ W1, W1 = w.alloc (.cells #[.int .i64 k, .string p, .int .i64 o, .int .i64 n, .int .i64 i, .string g] 45) := ⟨_, rfl⟩
  have hb1 : Below w.heap.size w W1 := by rw [hW1]; exact (Below.refl _ _).alloc (Nat.le_refl _) _
  have hx : W1.heap[w.heap.size]? = some (opB k p o n i g) := by rw [hW1]; exact heap_alloc_new w _
  unfold opB at hx
  have HB1 := Lib.hid hb1
  have HW := Lib.hid hW1.symm
  have c0 : W1.cell? ⟨w.heap.size, 0, none⟩ = some (.int .i64 k) := cell_of_blk hx 0
  have c1 : W1.cell? ⟨w.heap.size, 1, none⟩ = some (.string p) := cell_of_blk hx 1
  have c2 : W1.cell? ⟨w.heap.size, 2, none⟩ = some (.int .i64 o) := cell_of_blk hx 2
  have c3 : W1.cell? ⟨w.heap.size, 3, none⟩ = some (.int .i64 n) := cell_of_blk hx 3
  have c4 : W1.cell? ⟨w.heap.size, 4, none⟩ = some (.int .i64 i) := cell_of_blk hx 4
  have c5 : W1.cell? ⟨w.heap.size, 5, none⟩ = some (.string g) := cell_of_blk hx 5
  clear hW1 hb1 hx
  unfold opV
  go_enter Tryd.func16, Tryd.ntmps16
  go_upto_region 1 with fail
  rw [HW.out]
  clear HW
  go_wp2_with fail
  go_loop [3] (fun v => ∃ j : Nat, j ≤ p.size ∧ v = .int .i64 (j : Int) ∧ Hid (10 ∉ p.data.toList.take j)) (fun v => p.size - (intOf v).toNat)
  case atStart => exact ⟨0, Nat.zero_le _, rfl, Lib.hid (by simp)⟩
  case round =>
    obtain ⟨j, hj, rfl, hH⟩ := hrel
    have j0 : (0 : Int) ≤ (j : Int) := by omega
    by_cases hjs : j < p.size
    · have j1 : (j : Int) < (p.size : Int) := by omega
      by_cases c1q : p[j] = 10
      · have g1 : ((p[j].toNat : Int) == 10) = true := by rw [c1q]; rfl
        have HF := Lib.hid (only_bad (k := k) (o := o) (n := n) (i := i) (g := g) (show 10 ∈ p.data.toList by rw [← c1q]; exact byte_mem p j hjs))
        clear c1q
        go_wp2_with fail
        go_ret
        exact ⟨by rw [HF.out]; rfl, HB1.out⟩
      · have g1 : ((p[j].toNat : Int) == 10) = false := by
          rw [beq_eq_false_iff_ne]
          intro e
          exact c1q (UInt8.toNat_inj.1 (by simpa using Int.ofNat_inj.1 e))
        have HN : Hid (10 ∉ p.data.toList.take (j + 1)) := Lib.hid (by
          rw [take_snoc p j hjs]
          intro h
          rcases List.mem_append.1 h with h | h
          · exact hH.out h
          · exact c1q (List.mem_singleton.1 h).symm)
        clear c1q
        go_wp2_with fail
        go_round
        case rel => exact ⟨j + 1, by omega, by go_num, HN⟩
        case measure => simp [intOf]; omega
    · obtain rfl : j = p.size := by omega
      have HP : Hid (10 ∉ p.data.toList) := Lib.hid (by have := hH.out; rwa [List.take_of_length_le (by rw [size_list]; exact Nat.le_refl _)] at this)
      have HM : Hid (decide (10 ∈ p.data.toList) = false) := Lib.hid (decide_eq_false HP.out)
      clear hH HP
      by_cases h1 : k = 1
      · subst h1
        by_cases qo : o = 0
        rotate_left 1
        · have fo : (o == 0) = false := by simpa using qo
          have HF : Hid (onlyM (opM 1 p o n i g) = false) := Lib.hid (by unfold onlyM opM; simp only; rw [HM.out]; simp [qo])
          clear qo HM
          go_wp2_with fail
          go_ret
          exact ⟨by rw [HF.out]; rfl, HB1.out⟩
        have fo : (o == 0) = true := by simpa using qo
        by_cases qn : n = 0
        rotate_left 1
        · have fn : (n == 0) = false := by simpa using qn
          have HF : Hid (onlyM (opM 1 p o n i g) = false) := Lib.hid (by unfold onlyM opM; simp only; rw [HM.out]; simp [qn])
          clear qo qn HM
          go_wp2_with fail
          go_ret
          exact ⟨by rw [HF.out]; rfl, HB1.out⟩
        have fn : (n == 0) = true := by simpa using qn
        by_cases qi : i = 0
        rotate_left 1
        · have fi : (i == 0) = false := by simpa using qi
          have HF : Hid (onlyM (opM 1 p o n i g) = false) := Lib.hid (by unfold onlyM opM; simp only; rw [HM.out]; simp [qi])
          clear qo qn qi HM
          go_wp2_with fail
          go_ret
          exact ⟨by rw [HF.out]; rfl, HB1.out⟩
        have fi : (i == 0) = true := by simpa using qi
        by_cases qg : g.data.toList = []
        rotate_left 1
        · have fg : g.toList.isEmpty = false := by rw [to_list]; simpa using qg
          have HF : Hid (onlyM (opM 1 p o n i g) = false) := Lib.hid (by unfold onlyM opM; simp only; rw [HM.out]; simp [qg])
          clear qo qn qi qg HM
          go_wp2_with fail
          go_ret
          exact ⟨by rw [HF.out]; rfl, HB1.out⟩
        have fg : g.toList.isEmpty = true := by rw [to_list]; simpa using qg
        have HF : Hid (onlyM (opM 1 p o n i g) = true) := Lib.hid (by unfold onlyM opM; simp only; rw [HM.out]; simp [qo, qn, qi, qg])
        clear qo qn qi qg HM
        go_wp2_with fail
        go_ret
        exact ⟨by rw [HF.out]; rfl, HB1.out⟩
      have r1 : (k == 1) = false := by rw [beq_eq_false_iff_ne]; exact h1
      by_cases h2 : k = 2
      · subst h2
        clear h1
        by_cases qo : o = 0
        rotate_left 1
        · have fo : (o == 0) = false := by simpa using qo
          have HF : Hid (onlyM (opM 2 p o n i g) = false) := Lib.hid (by unfold onlyM opM; simp only; rw [HM.out]; simp [qo])
          clear qo HM
          go_wp2_with fail
          go_ret
          exact ⟨by rw [HF.out]; rfl, HB1.out⟩
        have fo : (o == 0) = true := by simpa using qo
        by_cases qn : n = 0
        rotate_left 1
        · have fn : (n == 0) = false := by simpa using qn
          have HF : Hid (onlyM (opM 2 p o n i g) = false) := Lib.hid (by unfold onlyM opM; simp only; rw [HM.out]; simp [qn])
          clear qo qn HM
          go_wp2_with fail
          go_ret
          exact ⟨by rw [HF.out]; rfl, HB1.out⟩
        have fn : (n == 0) = true := by simpa using qn
        by_cases qi : i = 0
        rotate_left 1
        · have fi : (i == 0) = false := by simpa using qi
          have HF : Hid (onlyM (opM 2 p o n i g) = false) := Lib.hid (by unfold onlyM opM; simp only; rw [HM.out]; simp [qi])
          clear qo qn qi HM
          go_wp2_with fail
          go_ret
          exact ⟨by rw [HF.out]; rfl, HB1.out⟩
        have fi : (i == 0) = true := by simpa using qi
        by_cases qg : g.data.toList = []
        rotate_left 1
        · have fg : g.toList.isEmpty = false := by rw [to_list]; simpa using qg
          have HF : Hid (onlyM (opM 2 p o n i g) = false) := Lib.hid (by unfold onlyM opM; simp only; rw [HM.out]; simp [qg])
          clear qo qn qi qg HM
          go_wp2_with fail
          go_ret
          exact ⟨by rw [HF.out]; rfl, HB1.out⟩
        have fg : g.toList.isEmpty = true := by rw [to_list]; simpa using qg
        have HF : Hid (onlyM (opM 2 p o n i g) = true) := Lib.hid (by unfold onlyM opM; simp only; rw [HM.out]; simp [qo, qn, qi, qg])
        clear qo qn qi qg HM
        go_wp2_with fail
        go_ret
        exact ⟨by rw [HF.out]; rfl, HB1.out⟩
      have r2 : (k == 2) = false := by rw [beq_eq_false_iff_ne]; exact h2
      by_cases h3 : k = 3
      · subst h3
        clear h1 h2
        by_cases qo : o = 0
        rotate_left 1
        · have fo : (o == 0) = false := by simpa using qo
          have HF : Hid (onlyM (opM 3 p o n i g) = false) := Lib.hid (by unfold onlyM opM; simp only; rw [HM.out]; simp [qo])
          clear qo HM
          go_wp2_with fail
          go_ret
          exact ⟨by rw [HF.out]; rfl, HB1.out⟩
        have fo : (o == 0) = true := by simpa using qo
        by_cases qn : n = 0
        rotate_left 1
        · have fn : (n == 0) = false := by simpa using qn
          have HF : Hid (onlyM (opM 3 p o n i g) = false) := Lib.hid (by unfold onlyM opM; simp only; rw [HM.out]; simp [qn])
          clear qo qn HM
          go_wp2_with fail
          go_ret
          exact ⟨by rw [HF.out]; rfl, HB1.out⟩
        have fn : (n == 0) = true := by simpa using qn
        by_cases qi : i = 0
        rotate_left 1
        · have fi : (i == 0) = false := by simpa using qi
          have HF : Hid (onlyM (opM 3 p o n i g) = false) := Lib.hid (by unfold onlyM opM; simp only; rw [HM.out]; simp [qi])
          clear qo qn qi HM
          go_wp2_with fail
          go_ret
          exact ⟨by rw [HF.out]; rfl, HB1.out⟩
        have fi : (i == 0) = true := by simpa using qi
        by_cases qg : g.data.toList = []
        rotate_left 1
        · have fg : g.toList.isEmpty = false := by rw [to_list]; simpa using qg
          have HF : Hid (onlyM (opM 3 p o n i g) = false) := Lib.hid (by unfold onlyM opM; simp only; rw [HM.out]; simp [qg])
          clear qo qn qi qg HM
          go_wp2_with fail
          go_ret
          exact ⟨by rw [HF.out]; rfl, HB1.out⟩
        have fg : g.toList.isEmpty = true := by rw [to_list]; simpa using qg
        have HF : Hid (onlyM (opM 3 p o n i g) = true) := Lib.hid (by unfold onlyM opM; simp only; rw [HM.out]; simp [qo, qn, qi, qg])
        clear qo qn qi qg HM
        go_wp2_with fail
        go_ret
        exact ⟨by rw [HF.out]; rfl, HB1.out⟩
      have r3 : (k == 3) = false := by rw [beq_eq_false_iff_ne]; exact h3
      by_cases h5 : k = 5
      · subst h5
        clear h1 h2 h3
        by_cases qo : o = 0
        rotate_left 1
        · have fo : (o == 0) = false := by simpa using qo
          have HF : Hid (onlyM (opM 5 p o n i g) = false) := Lib.hid (by unfold onlyM opM; simp only; rw [HM.out]; simp [qo])
          clear qo HM
          go_wp2_with fail
          go_ret
          exact ⟨by rw [HF.out]; rfl, HB1.out⟩
        have fo : (o == 0) = true := by simpa using qo
        by_cases qn : n = 0
        rotate_left 1
        · have fn : (n == 0) = false := by simpa using qn
          have HF : Hid (onlyM (opM 5 p o n i g) = false) := Lib.hid (by unfold onlyM opM; simp only; rw [HM.out]; simp [qn])
          clear qo qn HM
          go_wp2_with fail
          go_ret
          exact ⟨by rw [HF.out]; rfl, HB1.out⟩
        have fn : (n == 0) = true := by simpa using qn
        by_cases qi : i = 0
        rotate_left 1
        · have fi : (i == 0) = false := by simpa using qi
          have HF : Hid (onlyM (opM 5 p o n i g) = false) := Lib.hid (by unfold onlyM opM; simp only; rw [HM.out]; simp [qi])
          clear qo qn qi HM
          go_wp2_with fail
          go_ret
          exact ⟨by rw [HF.out]; rfl, HB1.out⟩
        have fi : (i == 0) = true := by simpa using qi
        by_cases qg : g.data.toList = []
        rotate_left 1
        · have fg : g.toList.isEmpty = false := by rw [to_list]; simpa using qg
          have HF : Hid (onlyM (opM 5 p o n i g) = false) := Lib.hid (by unfold onlyM opM; simp only; rw [HM.out]; simp [qg])
          clear qo qn qi qg HM
          go_wp2_with fail
          go_ret
          exact ⟨by rw [HF.out]; rfl, HB1.out⟩
        have fg : g.toList.isEmpty = true := by rw [to_list]; simpa using qg
        have HF : Hid (onlyM (opM 5 p o n i g) = true) := Lib.hid (by unfold onlyM opM; simp only; rw [HM.out]; simp [qo, qn, qi, qg])
        clear qo qn qi qg HM
        go_wp2_with fail
        go_ret
        exact ⟨by rw [HF.out]; rfl, HB1.out⟩
      have r5 : (k == 5) = false := by rw [beq_eq_false_iff_ne]; exact h5
      by_cases h4 : k = 4
      · subst h4
        clear h1 h2 h3 h5
        by_cases qi : i = 0
        rotate_left 1
        · have fi : (i == 0) = false := by simpa using qi
          have HF : Hid (onlyM (opM 4 p o n i g) = false) := Lib.hid (by unfold onlyM opM; simp only; rw [HM.out]; simp [qi])
          clear qi HM
          go_wp2_with fail
          go_ret
          exact ⟨by rw [HF.out]; rfl, HB1.out⟩
        have fi : (i == 0) = true := by simpa using qi
        by_cases qg : g.data.toList = []
        rotate_left 1
        · have fg : g.toList.isEmpty = false := by rw [to_list]; simpa using qg
          have HF : Hid (onlyM (opM 4 p o n i g) = false) := Lib.hid (by unfold onlyM opM; simp only; rw [HM.out]; simp [qg])
          clear qi qg HM
          go_wp2_with fail
          go_ret
          exact ⟨by rw [HF.out]; rfl, HB1.out⟩
        have fg : g.toList.isEmpty = true := by rw [to_list]; simpa using qg
        have HF : Hid (onlyM (opM 4 p o n i g) = true) := Lib.hid (by unfold onlyM opM; simp only; rw [HM.out]; simp [qi, qg])
        clear qi qg HM
        go_wp2_with fail
        go_ret
        exact ⟨by rw [HF.out]; rfl, HB1.out⟩
      have r4 : (k == 4) = false := by rw [beq_eq_false_iff_ne]; exact h4
      by_cases h6 : k = 6
      · subst h6
        clear h1 h2 h3 h5 h4
        by_cases qp : p.data.toList = []
        rotate_left 1
        · have fp : p.toList.isEmpty = false := by rw [to_list]; simpa using qp
          have HF : Hid (onlyM (opM 6 p o n i g) = false) := Lib.hid (by unfold onlyM opM; simp only; rw [HM.out]; simp [qp])
          clear qp HM
          go_wp2_with fail
          go_ret
          exact ⟨by rw [HF.out]; rfl, HB1.out⟩
        have fp : p.toList.isEmpty = true := by rw [to_list]; simpa using qp
        by_cases qo : o = 0
        rotate_left 1
        · have fo : (o == 0) = false := by simpa using qo
          have HF : Hid (onlyM (opM 6 p o n i g) = false) := Lib.hid (by unfold onlyM opM; simp only; rw [HM.out]; simp [qo])
          clear qp qo HM
          go_wp2_with fail
          go_ret
          exact ⟨by rw [HF.out]; rfl, HB1.out⟩
        have fo : (o == 0) = true := by simpa using qo
        by_cases qg : g.data.toList = []
        rotate_left 1
        · have fg : g.toList.isEmpty = false := by rw [to_list]; simpa using qg
          have HF : Hid (onlyM (opM 6 p o n i g) = false) := Lib.hid (by unfold onlyM opM; simp only; rw [HM.out]; simp [qg])
          clear qp qo qg HM
          go_wp2_with fail
          go_ret
          exact ⟨by rw [HF.out]; rfl, HB1.out⟩
        have fg : g.toList.isEmpty = true := by rw [to_list]; simpa using qg
        have HF : Hid (onlyM (opM 6 p o n i g) = true) := Lib.hid (by unfold onlyM opM; simp only; rw [HM.out]; simp [qp, qo, qg])
        clear qp qo qg HM
        go_wp2_with fail
        go_ret
        exact ⟨by rw [HF.out]; rfl, HB1.out⟩
      have r6 : (k == 6) = false := by rw [beq_eq_false_iff_ne]; exact h6
      by_cases h7 : k = 7
      · subst h7
        clear h1 h2 h3 h5 h4 h6
        by_cases qp : p.data.toList = []
        rotate_left 1
        · have fp : p.toList.isEmpty = false := by rw [to_list]; simpa using qp
          have HF : Hid (onlyM (opM 7 p o n i g) = false) := Lib.hid (by unfold onlyM opM; simp only; rw [HM.out]; simp [qp])
          clear qp HM
          go_wp2_with fail
          go_ret
          exact ⟨by rw [HF.out]; rfl, HB1.out⟩
        have fp : p.toList.isEmpty = true := by rw [to_list]; simpa using qp
        by_cases qo : o = 0
        rotate_left 1
        · have fo : (o == 0) = false := by simpa using qo
          have HF : Hid (onlyM (opM 7 p o n i g) = false) := Lib.hid (by unfold onlyM opM; simp only; rw [HM.out]; simp [qo])
          clear qp qo HM
          go_wp2_with fail
          go_ret
          exact ⟨by rw [HF.out]; rfl, HB1.out⟩
        have fo : (o == 0) = true := by simpa using qo
        by_cases qn : n = 0
        rotate_left 1
        · have fn : (n == 0) = false := by simpa using qn
          have HF : Hid (onlyM (opM 7 p o n i g) = false) := Lib.hid (by unfold onlyM opM; simp only; rw [HM.out]; simp [qn])
          clear qp qo qn HM
          go_wp2_with fail
          go_ret
          exact ⟨by rw [HF.out]; rfl, HB1.out⟩
        have fn : (n == 0) = true := by simpa using qn
        by_cases qg : g.data.toList = []
        rotate_left 1
        · have fg : g.toList.isEmpty = false := by rw [to_list]; simpa using qg
          have HF : Hid (onlyM (opM 7 p o n i g) = false) := Lib.hid (by unfold onlyM opM; simp only; rw [HM.out]; simp [qg])
          clear qp qo qn qg HM
          go_wp2_with fail
          go_ret
          exact ⟨by rw [HF.out]; rfl, HB1.out⟩
        have fg : g.toList.isEmpty = true := by rw [to_list]; simpa using qg
        have HF : Hid (onlyM (opM 7 p o n i g) = true) := Lib.hid (by unfold onlyM opM; simp only; rw [HM.out]; simp [qp, qo, qn, qg])
        clear qp qo qn qg HM
        go_wp2_with fail
        go_ret
        exact ⟨by rw [HF.out]; rfl, HB1.out⟩
      have r7 : (k == 7) = false := by rw [beq_eq_false_iff_ne]; exact h7
      by_cases h9 : k = 9
      · subst h9
        clear h1 h2 h3 h5 h4 h6 h7
        by_cases qp : p.data.toList = []
        rotate_left 1
        · have fp : p.toList.isEmpty = false := by rw [to_list]; simpa using qp
          have HF : Hid (onlyM (opM 9 p o n i g) = false) := Lib.hid (by unfold onlyM opM; simp only; rw [HM.out]; simp [qp])
          clear qp HM
          go_wp2_with fail
          go_ret
          exact ⟨by rw [HF.out]; rfl, HB1.out⟩
        have fp : p.toList.isEmpty = true := by rw [to_list]; simpa using qp
        by_cases qo : o = 0
        rotate_left 1
        · have fo : (o == 0) = false := by simpa using qo
          have HF : Hid (onlyM (opM 9 p o n i g) = false) := Lib.hid (by unfold onlyM opM; simp only; rw [HM.out]; simp [qo])
          clear qp qo HM
          go_wp2_with fail
          go_ret
          exact ⟨by rw [HF.out]; rfl, HB1.out⟩
        have fo : (o == 0) = true := by simpa using qo
        by_cases qn : n = 0
        rotate_left 1
        · have fn : (n == 0) = false := by simpa using qn
          have HF : Hid (onlyM (opM 9 p o n i g) = false) := Lib.hid (by unfold onlyM opM; simp only; rw [HM.out]; simp [qn])
          clear qp qo qn HM
          go_wp2_with fail
          go_ret
          exact ⟨by rw [HF.out]; rfl, HB1.out⟩
        have fn : (n == 0) = true := by simpa using qn
        by_cases qg : g.data.toList = []
        rotate_left 1
        · have fg : g.toList.isEmpty = false := by rw [to_list]; simpa using qg
          have HF : Hid (onlyM (opM 9 p o n i g) = false) := Lib.hid (by unfold onlyM opM; simp only; rw [HM.out]; simp [qg])
          clear qp qo qn qg HM
          go_wp2_with fail
          go_ret
          exact ⟨by rw [HF.out]; rfl, HB1.out⟩
        have fg : g.toList.isEmpty = true := by rw [to_list]; simpa using qg
        have HF : Hid (onlyM (opM 9 p o n i g) = true) := Lib.hid (by unfold onlyM opM; simp only; rw [HM.out]; simp [qp, qo, qn, qg])
        clear qp qo qn qg HM
        go_wp2_with fail
        go_ret
        exact ⟨by rw [HF.out]; rfl, HB1.out⟩
      have r9 : (k == 9) = false := by rw [beq_eq_false_iff_ne]; exact h9
      by_cases h8 : k = 8
      · subst h8
        clear h1 h2 h3 h5 h4 h6 h7 h9
        by_cases qp : p.data.toList = []
        rotate_left 1
        · have fp : p.toList.isEmpty = false := by rw [to_list]; simpa using qp
          have HF : Hid (onlyM (opM 8 p o n i g) = false) := Lib.hid (by unfold onlyM opM; simp only; rw [HM.out]; simp [qp])
          clear qp HM
          go_wp2_with fail
          go_ret
          exact ⟨by rw [HF.out]; rfl, HB1.out⟩
        have fp : p.toList.isEmpty = true := by rw [to_list]; simpa using qp
        by_cases qo : o = 0
        rotate_left 1
        · have fo : (o == 0) = false := by simpa using qo
          have HF : Hid (onlyM (opM 8 p o n i g) = false) := Lib.hid (by unfold onlyM opM; simp only; rw [HM.out]; simp [qo])
          clear qp qo HM
          go_wp2_with fail
          go_ret
          exact ⟨by rw [HF.out]; rfl, HB1.out⟩
        have fo : (o == 0) = true := by simpa using qo
        by_cases qn : n = 0
        rotate_left 1
        · have fn : (n == 0) = false := by simpa using qn
          have HF : Hid (onlyM (opM 8 p o n i g) = false) := Lib.hid (by unfold onlyM opM; simp only; rw [HM.out]; simp [qn])
          clear qp qo qn HM
          go_wp2_with fail
          go_ret
          exact ⟨by rw [HF.out]; rfl, HB1.out⟩
        have fn : (n == 0) = true := by simpa using qn
        by_cases qi : i = 0
        rotate_left 1
        · have fi : (i == 0) = false := by simpa using qi
          have HF : Hid (onlyM (opM 8 p o n i g) = false) := Lib.hid (by unfold onlyM opM; simp only; rw [HM.out]; simp [qi])
          clear qp qo qn qi HM
          go_wp2_with fail
          go_ret
          exact ⟨by rw [HF.out]; rfl, HB1.out⟩
        have fi : (i == 0) = true := by simpa using qi
        have HF : Hid (onlyM (opM 8 p o n i g) = true) := Lib.hid (by unfold onlyM opM; simp only; rw [HM.out]; simp [qp, qo, qn, qi])
        clear qp qo qn qi HM
        go_wp2_with fail
        go_ret
        exact ⟨by rw [HF.out]; rfl, HB1.out⟩
      have r8 : (k == 8) = false := by rw [beq_eq_false_iff_ne]; exact h8
      have HF : Hid (onlyM (opM k p o n i g) = false) := Lib.hid (by unfold onlyM opM; simp [h1, h2, h3, h4, h5, h6, h7, h8, h9])
      clear h1 h2 h3 h5 h4 h6 h7 h9 h8 HM
      go_wp2_with fail
      go_ret
      exact ⟨by rw [HF.out]; rfl, HB1.out⟩
end Go.Proofs.YtfbgnafnpeeonaaDoor.cal
