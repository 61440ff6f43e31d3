/- What call's word, kindOf, told answer, and the reference's Name. Condition: what the listed variables hold. -/
import Derived.Test.YtfbgnafnpeeonaaDoorCalRef
namespace Go.Proofs.YtfbgnafnpeeonaaDoor.cal
set_option maxRecDepth 100000
open Go.RowKit Go.Proofs.YtfbgnafnpeeonaaDoor.words

/-- What is asked for, as it lies in slots. -/
def opV (k : Int) (p : ByteArray) (o n i : Int) (g : ByteArray) : Value := .agg #[.int .i64 k, .string p, .int .i64 o, .int .i64 n, .int .i64 i, .string g]
def opM (k : Int) (p : ByteArray) (o n i : Int) (g : ByteArray) : Op := ⟨k, p.data.toList, o, n, i, g.data.toList⟩
def StrOut (l : List UInt8) (w : World) (e : Ending) (w' : World) : Prop := (∃ r : ByteArray, e = .returned (.string r) ∧ r.data.toList = l) ∧ Below w.heap.size w w'
set_option maxHeartbeats 1600000 in
theorem word_any (m : Int) (k : Int) (w : World) (hE : Env m w) : Calls Tryd.prog 32 #[.int .i64 k] w (StrOut (wordL k) w) := by
  by_cases h0 : k < 0
  · have HW := Lib.hid (show wordL k = [] by unfold wordL; rw [if_pos (.inl h0)])
    go_enter Tryd.func32, Tryd.ntmps32
    go_wp2
    go_ret
    exact ⟨⟨_, rfl, by rw [HW.out]⟩, Below.refl _ _⟩
  by_cases h1 : 10 ≤ k
  · have HW := Lib.hid (show wordL k = [] by unfold wordL; rw [if_pos (.inr h1)])
    go_enter Tryd.func32, Tryd.ntmps32
    go_wp2
    go_ret
    exact ⟨⟨_, rfl, by rw [HW.out]⟩, Below.refl _ _⟩
  obtain ⟨j, rfl⟩ : ∃ j : Nat, k = (j : Int) := ⟨k.toNat, by omega⟩
  have hj : j < wds.length := by show j < 10; omega
  obtain ⟨x, hx⟩ : ∃ x, wds[j]? = some x := ⟨_, List.getElem?_eq_getElem hj⟩
  have hc := hE.wds j x hx
  have HW := Lib.hid (show wordL (j : Int) = x by
    unfold wordL
    rw [if_neg (by omega), List.getD_eq_getElem?_getD, Int.toNat_natCast, hx]
    rfl)
  obtain ⟨xb, hxb⟩ : ∃ xb : ByteArray, xb = ⟨x.toArray⟩ := ⟨_, rfl⟩
  rw [← hxb] at hc
  have HX := Lib.hid hxb
  have j1 : (j : Int) < 10 := by omega
  have j0 : (0 : Int) ≤ (j : Int) := by omega
  have j2 : ¬ 10 ≤ j := by omega
  have j3 : j < 10 := by omega
  clear hx hxb hE hj
  go_enter Tryd.func32, Tryd.ntmps32
  go_wp2
  go_ret
  exact ⟨⟨xb, rfl, by rw [HX.out, HW.out, data_mk]⟩, Below.refl _ _⟩
theorem name_any (k : Int) (w : World) : Calls Tryd.prog 41 #[.int .i64 k] w (StrOut (wordL k) w) := by
  rcases kind_cases k with (rfl | rfl | rfl | rfl | rfl | rfl | rfl | rfl | rfl) | ⟨h1, h2⟩
  case inr =>
    have g1 : (k == 1) = false := by rw [beq_eq_false_iff_ne]; omega
    have g2 : (k == 2) = false := by rw [beq_eq_false_iff_ne]; omega
    have g3 : (k == 3) = false := by rw [beq_eq_false_iff_ne]; omega
    have g4 : (k == 4) = false := by rw [beq_eq_false_iff_ne]; omega
    have g5 : (k == 5) = false := by rw [beq_eq_false_iff_ne]; omega
    have g6 : (k == 6) = false := by rw [beq_eq_false_iff_ne]; omega
    have g7 : (k == 7) = false := by rw [beq_eq_false_iff_ne]; omega
    have g8 : (k == 8) = false := by rw [beq_eq_false_iff_ne]; omega
    have g9 : (k == 9) = false := by rw [beq_eq_false_iff_ne]; omega
    have HW := Lib.hid h1
    clear h1 h2
    go_enter Tryd.func41, Tryd.ntmps41
    go_wp2
    go_ret
    exact ⟨⟨_, rfl, by rw [HW.out]⟩, Below.refl _ _⟩
  all_goals
    go_enter Tryd.func41, Tryd.ntmps41
    go_wp2
    go_ret
    exact ⟨⟨_, rfl, rfl⟩, Below.refl _ _⟩
theorem wix (k : Int) (v : Value) (h : ∀ w : World, Sem.run Tryd.prog (Instr.index 77 (.agg #[.string ⟨#[]⟩, .string ⟨#[108, 111, 111, 107, 117, 112]⟩, .string ⟨#[115, 116, 97, 116]⟩, .string ⟨#[114, 101, 97, 100, 108, 105, 110, 107]⟩, .string ⟨#[114, 101, 97, 100]⟩, .string ⟨#[111, 112, 101, 110]⟩, .string ⟨#[112, 97, 103, 101]⟩, .string ⟨#[99, 108, 111, 115, 101]⟩, .string ⟨#[97, 100, 100]⟩, .string ⟨#[114, 101, 109, 111, 118, 101]⟩]) (.int .i64 k)) w = .ok v w) (w : World) : Sem.run Tryd.prog (Instr.index 77 (.agg #[.string ⟨#[]⟩, .string ⟨#[108, 111, 111, 107, 117, 112]⟩, .string ⟨#[115, 116, 97, 116]⟩, .string ⟨#[114, 101, 97, 100, 108, 105, 110, 107]⟩, .string ⟨#[114, 101, 97, 100]⟩, .string ⟨#[111, 112, 101, 110]⟩, .string ⟨#[112, 97, 103, 101]⟩, .string ⟨#[99, 108, 111, 115, 101]⟩, .string ⟨#[97, 100, 100]⟩, .string ⟨#[114, 101, 109, 111, 118, 101]⟩]) (.int .i64 k)) w = .ok v w := h w
theorem words_index (k : Nat) (x : List UInt8) (hx : wds[k]? = some x) (w : World) : Sem.run Tryd.prog (Instr.index 77 (.agg #[.string ⟨#[]⟩, .string ⟨#[108, 111, 111, 107, 117, 112]⟩, .string ⟨#[115, 116, 97, 116]⟩, .string ⟨#[114, 101, 97, 100, 108, 105, 110, 107]⟩, .string ⟨#[114, 101, 97, 100]⟩, .string ⟨#[111, 112, 101, 110]⟩, .string ⟨#[112, 97, 103, 101]⟩, .string ⟨#[99, 108, 111, 115, 101]⟩, .string ⟨#[97, 100, 100]⟩, .string ⟨#[114, 101, 109, 111, 118, 101]⟩]) (.int .i64 (k : Int))) w = .ok (.string ⟨x.toArray⟩) w := by
  have hk : k < 10 := (List.getElem?_eq_some_iff.1 hx).1
  have : k = 0 ∨ k = 1 ∨ k = 2 ∨ k = 3 ∨ k = 4 ∨ k = 5 ∨ k = 6 ∨ k = 7 ∨ k = 8 ∨ k = 9 := by omega
  rcases this with rfl | rfl | rfl | rfl | rfl | rfl | rfl | rfl | rfl | rfl <;> (cases hx; exact wix _ _ (fun _ => by kernel_rfl) w)
theorem kind_none {l : List UInt8} (h : ∀ i x, i < 10 → wds[i]? = some x → x ≠ l) : kindL l = 0 := by
  unfold kindL
  have : wds.findIdx? (· == l) = none := by
    rw [List.findIdx?_eq_none_iff]
    intro x hx
    obtain ⟨i, hi⟩ := List.getElem?_of_mem hx
    rw [beq_eq_false_iff_ne]
    exact h i x (List.getElem?_eq_some_iff.1 hi).1 hi
  rw [this]
  rfl
theorem kind_some {l : List UInt8} {k : Nat} (hk : wds[k]? = some l) (h : ∀ i x, i < k → wds[i]? = some x → x ≠ l) : kindL l = (k : Int) := by
  unfold kindL
  have : wds.findIdx? (· == l) = some k := by
    obtain ⟨hlt, he⟩ := List.getElem?_eq_some_iff.1 hk
    rw [List.findIdx?_eq_some_iff_getElem]
    refine ⟨hlt, by rw [he]; exact beq_self_eq_true l, fun j hj => ?_⟩
    have hj2 : j < wds.length := by omega
    have := h j wds[j] hj (List.getElem?_eq_getElem hj2)
    simpa using this
  rw [this]
  rfl
theorem kind_any (m : Int) (s : ByteArray) (w : World) (hE : Env m w) : Calls Tryd.prog 66 #[.string s] w fun e w' => e = .returned (.int .i64 (kindL s.data.toList)) ∧ w = w' := by
  have h0 := hE.wds 0 _ rfl
  have h1 := hE.wds 1 _ rfl
  have h2 := hE.wds 2 _ rfl
  have h3 := hE.wds 3 _ rfl
  have h4 := hE.wds 4 _ rfl
  have h5 := hE.wds 5 _ rfl
  have h6 := hE.wds 6 _ rfl
  have h7 := hE.wds 7 _ rfl
  have h8 := hE.wds 8 _ rfl
  have h9 := hE.wds 9 _ rfl
  clear hE
  go_enter Tryd.func66, Tryd.ntmps66
  go_wp2_with fail
  go_loop [6] (fun v => ∃ k : Nat, k ≤ 10 ∧ v = .int .i64 (k : Int) ∧ Hid (∀ i x, i < k → wds[i]? = some x → x ≠ s.data.toList)) (fun v => 10 - (intOf v).toNat)
  case atStart => exact ⟨0, by omega, rfl, Lib.hid fun i x h => absurd h (Nat.not_lt_zero _)⟩
  case round =>
    obtain ⟨k, hk, rfl, hH⟩ := hrel
    have k0 : (0 : Int) ≤ (k : Int) := by omega
    by_cases hks : k < 10
    · have k1 : (k : Int) < 10 := by omega
      obtain ⟨x, hx⟩ : ∃ x, wds[k]? = some x := ⟨_, List.getElem?_eq_getElem hks⟩
      have hix := fun w' : World => words_index k x hx w'
      obtain ⟨xb, hxb⟩ : ∃ xb : ByteArray, xb = ⟨x.toArray⟩ := ⟨_, rfl⟩
      rw [← hxb] at hix
      have hxd : xb.data.toList = x := by rw [hxb, data_mk]
      by_cases hc : x = s.data.toList
      · have g : (xb.toList == s.toList) = true := by rw [to_list, to_list, hxd, hc]; exact beq_self_eq_true _
        have HF := Lib.hid (kind_some (by rw [← hc]; exact hx) hH.out)
        clear hx hxb hxd hc
        go_wp2_with fail
        go_ret
        exact ⟨by rw [HF.out]; rfl, rfl⟩
      · have g : (xb.toList == s.toList) = false := by rw [to_list, to_list, hxd, beq_eq_false_iff_ne]; exact hc
        have HN : Hid (∀ i x, i < k + 1 → wds[i]? = some x → x ≠ s.data.toList) := Lib.hid fun i y hi hy => by
          rcases Nat.lt_succ_iff_lt_or_eq.1 hi with h | rfl
          · exact hH.out i y h hy
          · rw [hx] at hy
            injection hy with hy
            rw [← hy]
            exact hc
        clear hx hxb hxd hc
        go_wp2_with fail
        go_round
        case rel => exact ⟨k + 1, by omega, by go_num, HN⟩
        case measure => simp [intOf]; omega
    · obtain rfl : k = 10 := by omega
      have HF := Lib.hid (kind_none hH.out)
      go_wp2_with fail
      go_ret
      exact ⟨by rw [HF.out]; rfl, rfl⟩
end Go.Proofs.YtfbgnafnpeeonaaDoor.cal
