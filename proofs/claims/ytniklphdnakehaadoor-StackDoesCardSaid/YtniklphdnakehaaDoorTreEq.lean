/- A tree that is looked at is one by the code's words as by the reference's, and has as many nodes. No program, no condition. -/
import Derived.Test.YtniklphdnakehaaDoorTreRef
namespace Go.Proofs.YtniklphdnakehaaDoor.tre
set_option maxRecDepth 100000
open Go.RowKit Go.Proofs.YtniklphdnakehaaDoor.words Go.Proofs.YtniklphdnakehaaDoor.ext Go.Proofs.YtniklphdnakehaaDoor.name

/-! What is looked at is not deep -/
mutual
theorem small_depth : ∀ (n : Nd) (d l : Int), (smallS n d l).1 = true → (depth n : Int) ≤ d
  | .mk K O N I S E T, d, l, h => by
    rw [smallS_eq] at h
    split at h
    · cases h
    · rename_i hc
      rw [depth_eq]
      have := small_depthL I (d - 1) _ h (by omega)
      show (depthL I : Int) ≤ d
      omega
theorem small_depthL : ∀ (L : List Nd) (d l : Int), (smallL L d l).1 = true → -1 ≤ d → (depthL L : Int) ≤ d + 1
  | [], d, l, _, hd => by rw [depthL_nil]; omega
  | x :: L, d, l, h, hd => by
    rw [smallL_cons] at h
    split at h
    · rename_i hx
      have h1 := small_depth x d l hx
      have h2 := small_depthL L d _ h hd
      rw [depthL_cons]
      omega
    · cases h
end
theorem smallB_depth {n : Nd} (h : smallB n = true) : depth n ≤ 30 := by
  have := small_depth n 30 400 h
  omega

/-! Of a tree whose nodes may be what is spent is at least one for each node -/
def total : List Ex → Nat
  | [] => 0
  | x :: L => x.D.size + total L
theorem total_le : ∀ (L : List Ex) (size e : Int), rightFrom size e L = true → 0 ≤ e → e ≤ size → e + (total L : Int) ≤ size ∧ L.length ≤ total L
  | [], size, e, _, _, h => by simp [total]; exact h
  | x :: L, size, e, h, h0, h1 => by
    rw [rightFrom_cons, Bool.and_eq_true] at h
    have hf := of_decide_eq_true h.1
    have := total_le L size (x.O + (x.D.size : Int)) h.2 (by omega) hf.2.2
    simp only [total, List.length_cons]
    omega
theorem fold_total : ∀ (E : List Ex) (l : Int), -9000000000000000000 ≤ l - (total E : Int) → l ≤ 400 → E.foldl (fun a x => wrap64 (a - (x.D.size : Int))) l = l - (total E : Int)
  | [], l, _, _ => by simp [total]
  | x :: E, l, h1, h2 => by
    simp only [total] at h1
    rw [List.foldl_cons, wrap_in (n := l - (x.D.size : Int)) ⟨by omega, by omega⟩, fold_total E _ (by omega) (by omega)]
    simp only [total]
    omega
theorem one_facts {n : Nd} (h : oneB n = true) : total n.E ≤ 1048576 ∧ n.E.length ≤ 1048576 := by
  have nil : emptyB n = true → total n.E ≤ 1048576 ∧ n.E.length ≤ 1048576 := fun he => by
    have hl : n.E.length = 0 := by
      unfold emptyB at he
      rw [Bool.and_eq_true] at he
      exact beq_iff_eq.1 he.2
    rw [List.eq_nil_of_length_eq_zero hl]
    simp [total]
  by_cases k1 : n.K = 1
  · rw [oneB_1 k1, Bool.and_eq_true] at h
    have hr := h.2
    unfold rightB at hr
    rw [Bool.and_eq_true, decide_eq_true_iff] at hr
    have := total_le n.E n.S 0 hr.2 (Int.le_refl _) hr.1.1
    omega
  by_cases k2 : n.K = 2
  · rw [oneB_2 k2, Bool.and_eq_true, Bool.and_eq_true] at h
    exact nil h.1.1
  by_cases k3 : n.K = 3
  · rw [oneB_3 k3, Bool.and_eq_true, Bool.and_eq_true] at h
    exact nil h.1.2
  by_cases k4 : n.K = 4
  · rw [oneB_4 k4, Bool.and_eq_true, Bool.and_eq_true] at h
    exact nil h.1.2
  rw [oneB_0 k1 k2 k3 k4] at h
  cases h
/-- No node has more than a process holds. -/
inductive Tame : Nd → Prop
  | mk {n : Nd} (h1 : n.N.length ≤ 140737488355328) (h2 : n.T.size ≤ 140737488355328) (h3 : ∀ x ∈ n.I, Tame x) : Tame n
theorem Tame.item {n : Nd} (h : Tame n) : ∀ x ∈ n.I, Tame x := by cases h; assumption
theorem NdAt.tame {w : World} {B : Nat} {n : Nd} {r : Raw} (h : NdAt w B n r) : Tame n := by
  induction h with
  | mk rs fit _ _ _ _ ih =>
    have h1 := fit.ln
    refine .mk (by omega) fit.t fun x hx => ?_
    obtain ⟨i, hi⟩ := List.mem_iff_getElem?.1 hx
    exact ih i x hi
theorem spend_le {n : Nd} {l : Int} (h1 : oneB n = true) (h2 : Tame n) (h3 : 0 ≤ l) (h4 : l ≤ 400) (h5 : 0 ≤ spend l n) : spend l n + 1 ≤ l := by
  obtain ⟨t1, t2⟩ := one_facts h1
  obtain ⟨n1, n2, _⟩ := h2
  unfold spend at h5 ⊢
  rw [wrap_in (n := l - (1 + (n.N.length : Int) + (n.E.length : Int))) ⟨by omega, by omega⟩, fold_total _ _ (by omega) (by omega), wrap_in ⟨by omega, by omega⟩] at h5 ⊢
  omega
mutual
theorem small_count : ∀ (n : Nd) (d l : Int), allB n = true → Tame n → 0 ≤ l → l ≤ 400 → (smallS n d l).1 = true → 0 ≤ (smallS n d l).2 ∧ (smallS n d l).2 + (count n : Int) ≤ l
  | .mk K O N I S E T, d, l, ha, ht, h0, h1, h => by
    rw [allB_eq, Bool.and_eq_true] at ha
    rw [smallS_eq] at h ⊢
    split at h
    · cases h
    · rename_i hc
      rw [if_neg hc]
      have hs := spend_le ha.2 ht h0 h1 (by omega)
      have := small_countL I (d - 1) _ ha.1 (fun x hx => ht.item x hx) (by omega) (by omega) h
      rw [count_eq]
      show _ ∧ _ + ((1 + countL I : Nat) : Int) ≤ l
      refine ⟨this.1, ?_⟩
      have h2 := this.2
      show (smallL I (d - 1) (spend l (.mk K O N I S E T))).2 + ((1 + countL I : Nat) : Int) ≤ l
      omega
theorem small_countL : ∀ (L : List Nd) (d l : Int), allL L = true → (∀ x ∈ L, Tame x) → 0 ≤ l → l ≤ 400 → (smallL L d l).1 = true → 0 ≤ (smallL L d l).2 ∧ (smallL L d l).2 + (countL L : Int) ≤ l
  | [], d, l, _, _, h0, _, _ => by rw [smallL_nil, countL_nil]; exact ⟨h0, by simp⟩
  | x :: L, d, l, ha, ht, h0, h1, h => by
    rw [allL_cons, Bool.and_eq_true] at ha
    rw [smallL_cons] at h ⊢
    split at h
    · rename_i hx
      rw [if_pos hx]
      have a := small_count x d l ha.1 (ht x (List.mem_cons_self ..)) h0 h1 hx
      have b := small_countL L d _ ha.2 (fun y hy => ht y (List.mem_cons_of_mem _ hy)) a.1 (by omega) h
      rw [countL_cons]
      omega
    · cases h
end
theorem smallB_count {n : Nd} (h : smallB n = true) (ha : allB n = true) (ht : Tame n) : count n ≤ 400 := by
  have := small_count n 30 400 ha ht (by omega) (by omega) h
  omega

/-! Right by the code's words -/
mutual
theorem each_sound : ∀ (n : Nd) (d c : Int), (eachS stR n d c).1 = true → allB n = true ∧ d + (depth n : Int) ≤ 15
  | .mk K O N I S E T, d, c, h => by
    rw [eachS_eq] at h
    split at h
    · rename_i hs
      unfold stR at hs
      rw [Bool.and_eq_true, Bool.and_eq_true, decide_eq_true_iff, decide_eq_true_iff] at hs
      have := each_soundL I (d + 1) _ h (by omega)
      rw [allB_eq, depth_eq, hs.2]
      refine ⟨by rw [show allL (Nd.I (.mk K O N I S E T)) = true from this.1]; rfl, ?_⟩
      have h2 := this.2
      show d + (depthL I : Int) ≤ 15
      omega
    · cases h
theorem each_soundL : ∀ (L : List Nd) (d c : Int), (eachL stR L d c).1 = true → d ≤ 16 → allL L = true ∧ d + (depthL L : Int) ≤ 16
  | [], d, c, _, hd => by rw [allL_nil, depthL_nil]; exact ⟨rfl, by omega⟩
  | x :: L, d, c, h, hd => by
    rw [eachL_cons] at h
    split at h
    · rename_i hx
      have a := each_sound x d c hx
      have b := each_soundL L d _ h hd
      rw [allL_cons, a.1, b.1, depthL_cons]
      refine ⟨rfl, ?_⟩
      have := a.2
      have := b.2
      omega
    · cases h
end
mutual
theorem each_full : ∀ (n : Nd) (d c : Int), allB n = true → d + (depth n : Int) ≤ 15 → 0 ≤ c → c + (count n : Int) ≤ 4096 → eachS stR n d c = (true, c + (count n : Int))
  | .mk K O N I S E T, d, c, ha, hd, h0, hc => by
    rw [allB_eq, Bool.and_eq_true] at ha
    rw [depth_eq] at hd
    rw [count_eq] at hc ⊢
    have hd' : d + (depthL I : Int) ≤ 15 := hd
    have hc' : c + ((1 + countL I : Nat) : Int) ≤ 4096 := hc
    have hst : stR (.mk K O N I S E T) d c = (true, c + 1) := by
      unfold stR
      rw [wrap_in ⟨by omega, by omega⟩, ha.2, decide_eq_true (by omega), decide_eq_true (by omega)]
      rfl
    rw [eachS_eq, hst, if_pos rfl]
    show eachL stR I (d + 1) (c + 1) = (true, c + ((1 + countL I : Nat) : Int))
    rw [each_fullL I (d + 1) (c + 1) ha.1 (by omega) (by omega) (by omega)]
    congr 1
    omega
theorem each_fullL : ∀ (L : List Nd) (d c : Int), allL L = true → d + (depthL L : Int) ≤ 16 → 0 ≤ c → c + (countL L : Int) ≤ 4096 → eachL stR L d c = (true, c + (countL L : Int))
  | [], d, c, _, _, _, _ => by rw [eachL_nil, countL_nil]; simp
  | x :: L, d, c, ha, hd, h0, hc => by
    rw [allL_cons, Bool.and_eq_true] at ha
    rw [depthL_cons] at hd
    rw [countL_cons] at hc ⊢
    rw [eachL_cons, each_full x d c ha.1 (by omega) h0 (by omega), if_pos rfl]
    show eachL stR L d (c + (count x : Int)) = _
    rw [each_fullL L d _ ha.2 (by omega) (by omega) (by omega)]
    congr 1
    omega
end
theorem tree_same {n : Nd} (h : smallB n = true) (ht : Tame n) : treeB n = refB n := by
  unfold treeB refB
  rcases ha : allB n with _ | _
  · rcases hs : (eachS stR n 0 0).1 with _ | _
    · simp
    · have := (each_sound n 0 0 hs).1
      rw [ha] at this
      cases this
  · have hc := smallB_count h ha ht
    rw [wrap_in ⟨by omega, by omega⟩, decide_eq_true (show (count n : Int) ≤ 4096 by omega), Bool.and_true, Bool.and_true]
    by_cases hd : depth n ≤ 15
    · rw [each_full n 0 0 ha (by omega) (by omega) (by omega), decide_eq_true hd]
    · rw [decide_eq_false hd]
      rcases hs : (eachS stR n 0 0).1 with _ | _
      · rfl
      · have := (each_sound n 0 0 hs).2
        omega
mutual
theorem each_count : ∀ (n : Nd) (d c : Int), d + (depth n : Int) ≤ 65536 → eachS stC n d (wrap64 c) = (true, wrap64 (c + (count n : Int)))
  | .mk K O N I S E T, d, c, hd => by
    rw [depth_eq] at hd
    have hd' : d + (depthL I : Int) ≤ 65536 := hd
    have hw : wrap64 (wrap64 c + 1) = wrap64 (c + 1) := by unfold wrap64; omega
    have hst : stC (.mk K O N I S E T) d (wrap64 c) = (true, wrap64 (c + 1)) := by
      unfold stC
      rw [hw, decide_eq_true (by omega)]
    rw [eachS_eq, hst, if_pos rfl, count_eq]
    show eachL stC I (d + 1) (wrap64 (c + 1)) = (true, wrap64 (c + ((1 + countL I : Nat) : Int)))
    rw [each_countL I (d + 1) (c + 1) (by omega)]
    congr 2
    omega
theorem each_countL : ∀ (L : List Nd) (d c : Int), d + (depthL L : Int) ≤ 65537 → eachL stC L d (wrap64 c) = (true, wrap64 (c + (countL L : Int)))
  | [], d, c, _ => by rw [eachL_nil, countL_nil]; simp
  | x :: L, d, c, hd => by
    rw [depthL_cons] at hd
    rw [eachL_cons, each_count x d c (by omega), if_pos rfl, countL_cons]
    show eachL stC L d (wrap64 (c + (count x : Int))) = _
    rw [each_countL L d _ (by omega)]
    congr 2
    omega
end
theorem countC_eq {n : Nd} (hd : depth n ≤ 1000) : countC n = wrap64 (count n : Int) := by
  unfold countC
  have h := each_count n 0 0 (by omega)
  rw [show wrap64 0 = 0 by decide +kernel] at h
  rw [h, Int.zero_add]
mutual
theorem each_ends : ∀ (n : Nd) (d c : Int), d + (depth n : Int) ≤ 65536 → (eachS stE n d c).1 = true
  | .mk K O N I S E T, d, c, hd => by
    rw [depth_eq] at hd
    have hd' : d + (depthL I : Int) ≤ 65536 := hd
    have hst : stE (.mk K O N I S E T) d c = (true, c) := by
      unfold stE
      rw [decide_eq_true (by omega)]
    rw [eachS_eq, hst, if_pos rfl]
    exact each_endsL I (d + 1) c (by omega)
theorem each_endsL : ∀ (L : List Nd) (d c : Int), d + (depthL L : Int) ≤ 65537 → (eachL stE L d c).1 = true
  | [], d, c, _ => by rw [eachL_nil]
  | x :: L, d, c, hd => by
    rw [depthL_cons] at hd
    rw [eachL_cons, if_pos (each_ends x d c (by omega))]
    exact each_endsL L d _ (by omega)
end
end Go.Proofs.YtniklphdnakehaaDoor.tre
