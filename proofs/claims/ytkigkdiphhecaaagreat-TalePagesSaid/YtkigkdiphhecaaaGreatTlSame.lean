/- Rows of texts, and answers, held against each other. Conditions: the rows were read. -/
import Derived.Test.YtkigkdiphhecaaaGreatTlRec
import Derived.BigQuiet
import Derived.Deep.QuietTactic
namespace Go.Proofs.YtkigkdiphhecaaaGreat.tal
set_option maxRecDepth 100000
open Go.RowKit Go.Proofs.YtkigkdiphhecaaaGreat.words

/-- A row of texts. -/
def Txs (w : World) (A : Option Addr) (Q : List ByteArray) : Prop := ∀ i x, Q[i]? = some x → ∃ b off, A = some ⟨b, off, none⟩ ∧ b < w.heap.size ∧ w.cell? ⟨b, off + i, none⟩ = some (.string x)
theorem Txs.later {w w' : World} {A : Option Addr} {Q : List ByteArray} (h : Txs w A Q) (hb : Below w.heap.size w w') : Txs w' A Q := fun i x hx => by
  obtain ⟨b, off, h1, h2, h3⟩ := h i x hx
  exact ⟨b, off, h1, Nat.lt_of_lt_of_le h2 hb.size, (hb.cell (p := ⟨b, off + i, none⟩) h2).trans h3⟩
theorem Txs.low {w w' : World} {B : Nat} {A : Option Addr} {Q : List ByteArray} (h : Txs w A Q) (hl : ∀ b o, A = some ⟨b, o, none⟩ → b < B) (hb : Below B w w') : Txs w' A Q := fun i x hx => by
  obtain ⟨b, off, h1, h2, h3⟩ := h i x hx
  exact ⟨b, off, h1, Nat.lt_of_lt_of_le h2 hb.size, (hb.cell (p := ⟨b, off + i, none⟩) (hl b off h1)).trans h3⟩
theorem to_list {a b : ByteArray} : (a.toList == b.toList) = decide (a = b) := by
  rw [Bool.eq_iff_iff]
  simp only [beq_iff_eq, decide_eq_true_eq]
  rw [ByteArray.toList_eq, ByteArray.toList_eq]
  constructor
  · intro h
    have := Array.toList_inj.1 h
    cases a; cases b; simp_all
  · rintro rfl; rfl
theorem eq_of_each {Q Q' : List ByteArray} {k : Nat} (hn : Q.length = Q'.length) (hk : Q.length ≤ k) (h : ∀ j, j < k → Q[j]? = Q'[j]?) : Q = Q' := by
  apply List.ext_getElem?
  intro i
  rcases Nat.lt_or_ge i k with h1 | h1
  · exact h i h1
  · rw [List.getElem?_eq_none (by omega), List.getElem?_eq_none (by omega)]
set_option maxHeartbeats 1600000 in
theorem equal_any (A : Option Addr) (c : Nat) (Q : List ByteArray) (A' : Option Addr) (c' : Nat) (Q' : List ByteArray) (w : World) (h : Txs w A Q) (h' : Txs w A' Q') (hl : Q.length ≤ 9223372036854775807) (hl' : Q'.length ≤ 9223372036854775807) :
    Calls Tryz.prog 16 #[.slice A Q.length c, .slice A' Q'.length c'] w fun e w' => e = .returned (.bool (decide (Q = Q'))) ∧ Below w.heap.size w w' := by
  have K1 := Lib.hid h
  have K2 := Lib.hid h'
  clear h h'
  by_cases hn : Q.length = Q'.length
  · have HN := Lib.hid hn
    have hne : ((Q.length : Int) != (Q'.length : Int)) = false := by rw [hn]; exact bne_self_eq_false _
    obtain ⟨n', hn'⟩ : ∃ n', n' = Q'.length := ⟨_, rfl⟩
    rw [← hn'] at hne ⊢
    have HN' := Lib.hid hn'
    clear hn hn'
    go_enter Tryz.func16, Tryz.ntmps16
    go_wp2_with fail
    go_loopw [13] (fun v wr => ∃ k : Nat, k ≤ Q.length ∧ v = .int .i64 (k : Int) ∧ Hid (∀ j, j < k → Q[j]? = Q'[j]?) ∧ ∃ nd, wr = w.drewN nd) (fun v _ => Q.length - (intOf v).toNat)
    case atStart => exact ⟨0, Nat.zero_le _, rfl, Lib.hid fun j h => absurd h (Nat.not_lt_zero _), 0, rfl⟩
    case round =>
      obtain ⟨k, hk, rfl, HE, nd, rfl⟩ := hrel
      by_cases hlt : k < Q.length
      · obtain ⟨x, hx⟩ : ∃ x, Q[k]? = some x := ⟨_, List.getElem?_eq_getElem hlt⟩
        obtain ⟨y, hy⟩ : ∃ y, Q'[k]? = some y := ⟨_, List.getElem?_eq_getElem (by rw [← HN.out]; exact hlt)⟩
        obtain ⟨b1, o1, rfl, _, d1⟩ := K1.out k x hx
        obtain ⟨b2, o2, rfl, _, d2⟩ := K2.out k y hy
        have i0 : (0 : Int) ≤ (k : Int) := by omega
        have i1 : (k : Int) < (Q.length : Int) := by omega
        have i2 : (k : Int) < (n' : Int) := by rw [HN'.out, ← HN.out]; omega
        have i3 : k < n' := by omega
        by_cases hxy : x = y
        · subst hxy
          have hxx : (x.toList != x.toList) = false := by simp
          have HE' : Hid (∀ j, j < k + 1 → Q[j]? = Q'[j]?) := Lib.hid fun j hj => by
            rcases Nat.lt_or_ge j k with h | h
            · exact HE.out j h
            · obtain rfl : j = k := by omega
              rw [hx, hy]
          clear hx hy
          go_wp2_with fail
          go_quiet (fail)
          go_wp2
          go_roundw
          case rel => exact ⟨k + 1, by omega, by go_num, HE', _, rfl⟩
          case measure => simp [intOf]; omega
        · have hxx : (x.toList != y.toList) = true := by
            rw [bne, to_list]
            simp [hxy]
          have hxz : (x.toList == y.toList) = false := by rw [to_list]; simp [hxy]
          have hxt : ¬ x.toList = y.toList := by
            have := hxz
            simpa using this
          have HF : Hid (decide (Q = Q') = false) := Lib.hid (by
            simp only [decide_eq_false_iff_not]
            rintro rfl
            rw [hx] at hy
            exact hxy (Option.some.inj hy))
          clear hx hy
          go_wp2_with fail
          go_quiet (fail)
          go_wp2
          go_ret
          exact ⟨by rw [HF.out]; rfl, ⟨rfl, rfl, rfl, Nat.le_refl _, fun _ _ => rfl⟩⟩
      · have HF : Hid (decide (Q = Q') = true) := Lib.hid (by
          simp only [decide_eq_true_eq]
          exact eq_of_each HN.out (by omega) HE.out)
        go_wp2
        go_ret
        exact ⟨by rw [HF.out]; rfl, ⟨rfl, rfl, rfl, Nat.le_refl _, fun _ _ => rfl⟩⟩
  · have hne : ((Q.length : Int) != (Q'.length : Int)) = true := by
      rw [bne_iff_ne]; omega
    have HF : Hid (decide (Q = Q') = false) := Lib.hid (by
      simp only [decide_eq_false_iff_not]
      rintro rfl
      exact hn rfl)
    have HN := Lib.hid hn
    clear hn
    go_enter Tryz.func16, Tryz.ntmps16
    go_wp2_with fail
    go_ret
    exact ⟨by rw [HF.out]; rfl, Below.refl _ _⟩
set_option maxHeartbeats 1600000 in
theorem rows_any (A : Option Addr) (c : Nat) (Q : List ByteArray) (A' : Option Addr) (c' : Nat) (Q' : List ByteArray) (w : World) (h : Txs w A Q) (h' : Txs w A' Q') (hl : Q.length ≤ 9223372036854775807) (hl' : Q'.length ≤ 9223372036854775807) :
    Calls Tryz.prog 12 #[.slice A Q.length c, .slice A' Q'.length c'] w fun e w' => e = .returned (.bool (decide (Q = Q'))) ∧ Below w.heap.size w w' := by
  have K1 := Lib.hid h
  have K2 := Lib.hid h'
  clear h h'
  by_cases hn : Q.length = Q'.length
  · have HN := Lib.hid hn
    have hne : ((Q.length : Int) != (Q'.length : Int)) = false := by rw [hn]; exact bne_self_eq_false _
    obtain ⟨n', hn'⟩ : ∃ n', n' = Q'.length := ⟨_, rfl⟩
    rw [← hn'] at hne ⊢
    have HN' := Lib.hid hn'
    clear hn hn'
    go_enter Tryz.func12, Tryz.ntmps12
    go_wp2_with fail
    go_loopw [5] (fun v wr => ∃ k : Nat, k ≤ Q.length ∧ v = .int .i64 (k : Int) ∧ Hid (∀ j, j < k → Q[j]? = Q'[j]?) ∧ ∃ nd, wr = w.drewN nd) (fun v _ => Q.length - (intOf v).toNat)
    case atStart => exact ⟨0, Nat.zero_le _, rfl, Lib.hid fun j h => absurd h (Nat.not_lt_zero _), 0, rfl⟩
    case round =>
      obtain ⟨k, hk, rfl, HE, nd, rfl⟩ := hrel
      by_cases hlt : k < Q.length
      · obtain ⟨x, hx⟩ : ∃ x, Q[k]? = some x := ⟨_, List.getElem?_eq_getElem hlt⟩
        obtain ⟨y, hy⟩ : ∃ y, Q'[k]? = some y := ⟨_, List.getElem?_eq_getElem (by rw [← HN.out]; exact hlt)⟩
        obtain ⟨b1, o1, rfl, _, d1⟩ := K1.out k x hx
        obtain ⟨b2, o2, rfl, _, d2⟩ := K2.out k y hy
        have i0 : (0 : Int) ≤ (k : Int) := by omega
        have i1 : (k : Int) < (Q.length : Int) := by omega
        have i2 : (k : Int) < (n' : Int) := by rw [HN'.out, ← HN.out]; omega
        have i3 : k < n' := by omega
        by_cases hxy : x = y
        · subst hxy
          have hxx : (x.toList != x.toList) = false := by simp
          have HE' : Hid (∀ j, j < k + 1 → Q[j]? = Q'[j]?) := Lib.hid fun j hj => by
            rcases Nat.lt_or_ge j k with h | h
            · exact HE.out j h
            · obtain rfl : j = k := by omega
              rw [hx, hy]
          clear hx hy
          go_wp2_with fail
          go_quiet (fail)
          go_wp2
          go_roundw
          case rel => exact ⟨k + 1, by omega, by go_num, HE', _, rfl⟩
          case measure => simp [intOf]; omega
        · have hxx : (x.toList != y.toList) = true := by
            rw [bne, to_list]
            simp [hxy]
          have hxz : (x.toList == y.toList) = false := by rw [to_list]; simp [hxy]
          have hxt : ¬ x.toList = y.toList := by
            have := hxz
            simpa using this
          have HF : Hid (decide (Q = Q') = false) := Lib.hid (by
            simp only [decide_eq_false_iff_not]
            rintro rfl
            rw [hx] at hy
            exact hxy (Option.some.inj hy))
          clear hx hy
          go_wp2_with fail
          go_quiet (fail)
          go_wp2
          go_ret
          exact ⟨by rw [HF.out]; rfl, ⟨rfl, rfl, rfl, Nat.le_refl _, fun _ _ => rfl⟩⟩
      · have HF : Hid (decide (Q = Q') = true) := Lib.hid (by
          simp only [decide_eq_true_eq]
          exact eq_of_each HN.out (by omega) HE.out)
        go_wp2
        go_ret
        exact ⟨by rw [HF.out]; rfl, ⟨rfl, rfl, rfl, Nat.le_refl _, fun _ _ => rfl⟩⟩
  · have hne : ((Q.length : Int) != (Q'.length : Int)) = true := by
      rw [bne_iff_ne]; omega
    have HF : Hid (decide (Q = Q') = false) := Lib.hid (by
      simp only [decide_eq_false_iff_not]
      rintro rfl
      exact hn rfl)
    have HN := Lib.hid hn
    clear hn
    go_enter Tryz.func12, Tryz.ntmps12
    go_wp2_with fail
    go_ret
    exact ⟨by rw [HF.out]; rfl, Below.refl _ _⟩
end Go.Proofs.YtkigkdiphhecaaaGreat.tal
