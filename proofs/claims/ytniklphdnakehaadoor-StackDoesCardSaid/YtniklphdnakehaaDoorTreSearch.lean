/- What the library's search of rising names answers, and the reference's. Conditions: the names rise; the slice is one that was read. -/
import Derived.Test.YtniklphdnakehaaDoorTreClone
namespace Go.Proofs.YtniklphdnakehaaDoor.tre
set_option maxRecDepth 100000
open Go.RowKit Go.Proofs.YtniklphdnakehaaDoor.words Go.Proofs.YtniklphdnakehaaDoor.ext Go.Proofs.YtniklphdnakehaaDoor.name

def Asc (N : List ByteArray) : Prop := ∀ (i j : Nat) (x y : ByteArray), i < j → N[i]? = some x → N[j]? = some y → lessB x y = true
theorem lessB_trans {a b c : ByteArray} (h1 : lessB a b = true) (h2 : lessB b c = true) : lessB a c = true := bytesLess_trans h1 h2
theorem lessB_self (a : ByteArray) : lessB a a = false := bytesLess_self _
theorem riseFrom_all : ∀ {N : List ByteArray} {p : ByteArray}, riseFrom (some p) N = true → ∀ (j : Nat) (y : ByteArray), N[j]? = some y → lessB p y = true
  | [], _, _, j, y, h => by simp at h
  | s :: L, p, h, 0, y, hy => by
    obtain rfl : s = y := by simpa using hy
    rw [riseFrom_cons, Bool.and_eq_true, Bool.and_eq_true] at h
    exact h.1.2
  | s :: L, p, h, j + 1, y, hy => by
    rw [riseFrom_cons, Bool.and_eq_true, Bool.and_eq_true] at h
    exact lessB_trans h.1.2 (riseFrom_all h.2 j y (by simpa using hy))
theorem riseFrom_asc : ∀ {N : List ByteArray} {p : Option ByteArray}, riseFrom p N = true → Asc N
  | [], _, _ => fun i j x y _ h => by simp at h
  | s :: L, p, h => fun i j x y hij hx hy => by
    rw [riseFrom_cons, Bool.and_eq_true] at h
    rcases j with _ | j
    · omega
    rcases i with _ | i
    · obtain rfl : s = x := by simpa using hx
      exact riseFrom_all h.2 j y (by simpa using hy)
    · exact riseFrom_asc h.2 i j x y (by omega) (by simpa using hx) (by simpa using hy)
theorem riseB_asc {N : List ByteArray} (h : riseB N = true) : Asc N := riseFrom_asc h
theorem Asc.one {N : List ByteArray} (h : Asc N) {i j : Nat} {s : ByteArray} (hi : N[i]? = some s) (hj : N[j]? = some s) : i = j := by
  rcases Nat.lt_trichotomy i j with hl | hl | hl
  · have := h i j s s hl hi hj
    rw [lessB_self] at this
    cases this
  · exact hl
  · have := h j i s s hl hj hi
    rw [lessB_self] at this
    cases this

def Hit (N : List ByteArray) (s : ByteArray) (w : World) (e : Ending) (w' : World) : Prop :=
  ((∃ i : Nat, e = .returned (.tuple #[.int .i64 i, .bool true]) ∧ N[i]? = some s) ∨ (∃ i : Nat, e = .returned (.tuple #[.int .i64 i, .bool false]) ∧ ∀ j : Nat, N[j]? ≠ some s)) ∧ w = w'

theorem nan_cmp (s : ByteArray) (w : World) : Calls Tryd.prog 137 #[.string s] w fun e w' => e = .returned (.bool false) ∧ w = w' := by
  go_enter Tryd.func137, Tryd.ntmps137
  go_wp2_with fail
  go_ret
  simp
theorem nan_sl (s : ByteArray) (w : World) : Calls Tryd.prog 125 #[.string s] w fun e w' => e = .returned (.bool false) ∧ w = w' := by
  go_enter Tryd.func125, Tryd.ntmps125
  go_wp2_with fail
  go_ret
  simp
theorem less_cmp (a b : ByteArray) (w : World) : Calls Tryd.prog 124 #[.string a, .string b] w fun e w' => e = .returned (.bool (lessB a b)) ∧ w = w' := by
  go_enter Tryd.func124, Tryd.ntmps124
  go_wp2_with fail
  refine (nan_cmp a _).mono ?_
  rintro e w' ⟨rfl, rfl⟩
  go_wp2_with fail
  go_ret
  exact ⟨ret_bool (by unfold lessB; simp), rfl⟩

set_option maxHeartbeats 1600000 in
theorem search_txt (A : Option Addr) (cap : Nat) (N : List ByteArray) (s : ByteArray) (w : World) (hI : Txts w w.heap.size A N) (hlen : N.length ≤ 140737488355328) (hasc : Asc N) :
    Calls Tryd.prog 102 #[.slice A N.length cap, .string s] w (Hit N s w) := by
  have HI := Lib.hid hI
  have HA := Lib.hid hasc
  clear hI hasc
  go_enter Tryd.func102, Tryd.ntmps102
  go_wp2_with fail
  go_loopg [7, 8] N.length (fun g s7 s8 wr => ∃ lo hi : Nat, s7 = .int .i64 lo ∧ s8 = .int .i64 hi ∧ lo ≤ hi ∧ hi ≤ N.length ∧ hi - lo ≤ g ∧ (∀ (j : Nat) (y : ByteArray), j < lo → N[j]? = some y → lessB y s = true) ∧ (∀ (j : Nat) (y : ByteArray), hi ≤ j → N[j]? = some y → lessB y s = false) ∧ w = wr)
  case atStart => exact ⟨0, N.length, rfl, rfl, Nat.zero_le _, Nat.le_refl _, by omega, fun j y hj => absurd hj (Nat.not_lt_zero _), fun j y hj hy => absurd (List.getElem?_eq_some_iff.1 hy).1 (by omega), rfl⟩
  case round =>
    obtain ⟨lo, hi, rfl, rfl, hlh, hin, hg, hlo, hhi, rfl⟩ := hrel
    have HLO := Lib.hid hlo
    have HHI := Lib.hid hhi
    clear hlo hhi
    by_cases hlt : lo < hi
    · obtain ⟨x, hx⟩ : ∃ x, N[(lo + hi) / 2]? = some x := ⟨_, List.getElem?_eq_getElem (by omega)⟩
      obtain ⟨⟨b, off, hA, hB, c0⟩, _⟩ := HI.out _ _ hx
      have HX := Lib.hid hx
      have em : ((lo : Int) + (hi : Int)) / 2 = (((lo + hi) / 2 : Nat) : Int) := by omega
      have hm1 : lo ≤ (lo + hi) / 2 := by omega
      have hm2 : (lo + hi) / 2 < hi := by omega
      have i0 : (0 : Int) ≤ (((lo + hi) / 2 : Nat) : Int) := by omega
      have i1 : (((lo + hi) / 2 : Nat) : Int) < (N.length : Int) := by omega
      have EM := Lib.hid em
      obtain ⟨r, hr⟩ : ∃ r, r = lessB x s := ⟨_, rfl⟩
      have HC := Lib.hid (less_cmp x s w)
      rw [← hr] at HC
      have HR := Lib.hid hr
      subst hA
      clear hx em hr
      cases r
      · go_wp2_with fail
        refine HC.out.mono ?_
        rintro e w2 ⟨rfl, rfl⟩
        go_wp2_with fail
        go_roundg ((lo + hi) / 2 - lo)
        case measure => omega
        case rel =>
          refine ⟨lo, (lo + hi) / 2, rfl, by rw [EM.out], by omega, by omega, Nat.le_refl _, HLO.out, fun j y hj hy => ?_, rfl⟩
          by_cases hjm : j = (lo + hi) / 2
          · subst hjm
            rw [HX.out] at hy
            injection hy with e
            subst e
            exact HR.out.symm
          · have h1 := HA.out _ _ _ _ (show (lo + hi) / 2 < j by omega) HX.out hy
            rcases h2 : lessB y s with _ | _
            · rfl
            · have := lessB_trans h1 h2
              rw [← HR.out] at this
              cases this
      · go_wp2_with fail
        refine HC.out.mono ?_
        rintro e w2 ⟨rfl, rfl⟩
        go_wp2_with fail
        go_roundg (hi - ((lo + hi) / 2 + 1))
        case measure => omega
        case rel =>
          refine ⟨(lo + hi) / 2 + 1, hi, by rw [EM.out]; go_num, rfl, by omega, hin, Nat.le_refl _, fun j y hj hy => ?_, HHI.out, rfl⟩
          by_cases hjm : j = (lo + hi) / 2
          · subst hjm
            rw [HX.out] at hy
            injection hy with e
            subst e
            exact HR.out.symm
          · have h1 := HA.out _ _ _ _ (show j < (lo + hi) / 2 by omega) hy HX.out
            exact lessB_trans h1 HR.out.symm
    · obtain rfl : lo = hi := by omega
      by_cases hn : lo < N.length
      · obtain ⟨x, hx⟩ : ∃ x, N[lo]? = some x := ⟨_, List.getElem?_eq_getElem hn⟩
        obtain ⟨⟨b, off, hA, hB, c0⟩, _⟩ := HI.out _ _ hx
        have i0 : (0 : Int) ≤ (lo : Int) := by omega
        have i1 : (lo : Int) < (N.length : Int) := by omega
        subst hA
        by_cases he : x = s
        · have g4 : (x.toList == s.toList) = true := by rw [he]; simp
          have HF := Lib.hid (show N[lo]? = some s by rw [hx, he])
          clear hx he
          go_wp2_with fail
          go_ret2
          exact ⟨.inl ⟨lo, rfl, HF.out⟩, rfl⟩
        · have g4 : (x.toList == s.toList) = false := by simpa using text_ne he
          have HF : Hid (∀ j : Nat, N[j]? ≠ some s) := Lib.hid fun j hj => by
            rcases Nat.lt_trichotomy j lo with hl | hl | hl
            · have := HLO.out j s hl hj
              rw [lessB_self] at this
              cases this
            · subst hl
              rw [hx] at hj
              exact he (Option.some.inj hj)
            · have h1 := HA.out _ _ _ _ hl hx hj
              rw [HHI.out lo x (Nat.le_refl _) hx] at h1
              cases h1
          clear hx he
          go_wp2_with fail
          refine (nan_sl x _).mono ?_
          rintro e w2 ⟨rfl, rfl⟩
          go_wp2_with fail
          go_ret2
          exact ⟨.inr ⟨lo, rfl, HF.out⟩, rfl⟩
      · have HF : Hid (∀ j : Nat, N[j]? ≠ some s) := Lib.hid fun j hj => by
          have := HLO.out j s (by have := (List.getElem?_eq_some_iff.1 hj).1; omega) hj
          rw [lessB_self] at this
          cases this
        go_wp2_with fail
        go_ret2
        exact ⟨.inr ⟨lo, rfl, HF.out⟩, rfl⟩

/-! The reference's -/
def Place (N : List ByteArray) (s : ByteArray) (w : World) (e : Ending) (w' : World) : Prop :=
  ((∃ i : Nat, e = .returned (.int .i64 i) ∧ N[i]? = some s) ∨ (e = .returned (.int .i64 (-1)) ∧ ∀ j : Nat, N[j]? ≠ some s)) ∧ Below w.heap.size w w'
set_option maxHeartbeats 1600000 in
theorem reffind_any (n : Nd) (r : Raw) (s : ByteArray) (w : World) (hN : NdAt w w.heap.size n r) :
    Calls Tryd.prog 44 #[ndV n r, .string s] w (Place n.N s w) := by
  obtain ⟨W1, hW1⟩ : ∃ W1, W1 = w.alloc (.cells (rawCells n r) 27) := ⟨_, rfl⟩
  have hb1 : Below w.heap.size w W1 := by rw [hW1]; exact (Below.refl _ _).alloc (Nat.le_refl _) _
  have HX1 : Hid (Box W1 w.heap.size n r) := by rw [hW1]; exact Lib.hid (Box.new w n r)
  have HN := Lib.hid (hN.later hb1).names
  have f1 := hN.fit.ln
  have HB1 := Lib.hid hb1
  unfold rawCells at hW1
  have HW1 := Lib.hid hW1
  clear hN hb1 hW1
  unfold ndV rawCells
  go_enter Tryd.func44, Tryd.ntmps44
  go_wp2_with fail
  rw [← HW1.out]
  go_loopw [5] (fun v wr => ∃ j : Nat, j ≤ n.N.length ∧ v = .int .i64 j ∧ Hid (∀ (i : Nat), i < j → n.N[i]? ≠ some s) ∧ W1 = wr) (fun v _ => n.N.length - (intOf v).toNat)
  case atStart => exact ⟨0, Nat.zero_le _, rfl, Lib.hid fun i hi => absurd hi (Nat.not_lt_zero _), rfl⟩
  case round =>
    obtain ⟨j, hj, rfl, HL, rfl⟩ := hrel
    obtain ⟨b0, b1, b2, b3, b4, b5, b6⟩ := HX1.out.cells
    by_cases hlt : j < n.N.length
    · obtain ⟨x, hx⟩ : ∃ x, n.N[j]? = some x := ⟨_, List.getElem?_eq_getElem hlt⟩
      obtain ⟨⟨b, off, hA, hB, c0⟩, _⟩ := HN.out _ _ hx
      have i0 : (0 : Int) ≤ (j : Int) := by omega
      have i1 : (j : Int) < (n.N.length : Int) := by omega
      rw [hA] at b2
      by_cases he : x = s
      · have g4 : (x.toList == s.toList) = true := by rw [he]; simp
        have HF := Lib.hid (show n.N[j]? = some s by rw [hx, he])
        clear hx he hA
        go_wp2_with fail
        go_ret
        exact ⟨.inl ⟨j, rfl, HF.out⟩, HB1.out⟩
      · have g4 : (x.toList == s.toList) = false := by simpa using text_ne he
        have HF : Hid (∀ (i : Nat), i < j + 1 → n.N[i]? ≠ some s) := Lib.hid fun i hi hy => by
          by_cases hij : i = j
          · subst hij
            rw [hx] at hy
            exact he (Option.some.inj hy)
          · exact HL.out i (by omega) hy
        clear hx he hA
        go_wp2_with fail
        go_roundw
        case rel => exact ⟨j + 1, by omega, by go_num, HF, trivial⟩
        case measure => simp [intOf]; omega
    · have HF : Hid (∀ j : Nat, n.N[j]? ≠ some s) := Lib.hid fun i hy => HL.out i (by have := (List.getElem?_eq_some_iff.1 hy).1; omega) hy
      go_wp2_with fail
      go_ret
      exact ⟨.inr ⟨rfl, HF.out⟩, HB1.out⟩
end Go.Proofs.YtniklphdnakehaaDoor.tre
