/- What socagelaw14's speaks answers. No condition. -/
import Derived.Test.YtllebfkodklehaaShaAsk
namespace Go.Proofs.Ytllebfkodklehaa.sha
set_option maxRecDepth 100000
open Go.RowKit Go.Proofs.Ytllebfkodklehaa.words Go.Proofs.Ytllebfkodklehaa.lru Go.Proofs.Ytllebfkodklehaa.lrs

theorem two {α : Type} {l : List α} (h : l.length = 2) : ∃ a b, l = [a, b] := by
  match l, h with
  | [a, b], _ => exact ⟨a, b, rfl⟩
theorem news_at {gs : List Nat} {r i g : Nat} (h : gs[i]? = some g) : (news gs r)[i]? = some ⟨g, none, r, []⟩ := by unfold news; rw [List.getElem?_map, h]; rfl
theorem news_len (gs : List Nat) (r : Nat) : (news gs r).length = gs.length := by unfold news; rw [List.length_map]
/-- The blocks of caches. -/
def gsOf (C : List Cc) : List Nat := C.map (·.g)
def nsOf (C : List Cc) : List Nat := C.map (·.L.length)
theorem gs_news (gs : List Nat) (r : Nat) : gsOf (news gs r) = gs := by
  unfold gsOf news
  rw [List.map_map]
  exact List.map_id' gs
theorem gs_set {C : List Cc} {i : Nat} {c : Cc} (h : C[i]? = some c) (bo : Option Nat) (L : List (ByteArray × Int)) : gsOf (C.set i ⟨c.g, bo, c.r, L⟩) = gsOf C := by
  unfold gsOf
  rw [List.map_set]
  apply List.ext_getElem?
  intro j
  rw [List.getElem?_set]
  split
  · rename_i e
    subst e
    split
    · rw [List.getElem?_map, h]; rfl
    · rename_i hlt
      rw [List.getElem?_eq_none (by omega)]
  · rfl
theorem Fam.held {w : World} {B : Nat} {C : List Cc} (h : Fam w B C) : Held w B (gsOf C) (nsOf C) := by
  refine ⟨by simp [gsOf, nsOf], fun i g hg => ?_⟩
  unfold gsOf at hg
  rw [List.getElem?_map] at hg
  rcases hc : C[i]? with _ | c
  · rw [hc] at hg; cases hg
  · rw [hc] at hg
    injection hg with hg
    subst hg
    exact ⟨c.bo, c.r, c.L, h.lru i c hc, by unfold nsOf; rw [List.getElem?_map, hc]; rfl⟩
theorem sum_a : sumF (⟨#[97]⟩ : ByteArray).data.toList = 3826002220 := by decide +kernel
theorem of_a : ofF ⟨#[97]⟩ 2 = 0 := by unfold ofF; rw [sum_a]
theorem p1 : goneK ([] : List (ByteArray × Int)) 1 kA ⟨#[]⟩ = ⟨#[]⟩ ∧ goneB ([] : List (ByteArray × Int)) 1 kA = false ∧ putL [] 1 kA 7 = [(kA, 7)] := by decide
theorem p2 : lrs.gotI [(kA, 7)] kA = 7 ∧ lrs.gotB [(kA, 7)] kA = true ∧ getL [(kA, 7)] kA = [(kA, 7)] := by decide
set_option maxHeartbeats 6400000 in
theorem speaks_any (w : World) : Calls Try.prog 23 #[] w fun e w' => e = .returned (.bool true) ∧ Below w.heap.size w w' := by
  have HC0 := Lib.hid (snew_any 2 1 2 1 w (by decide) (by decide))
  have HS1 : Hid (∀ w, Calls Try.prog 26 #[.string ⟨#[97]⟩] w fun e w' => e = .returned (.int .u32 3826002220) ∧ w = w') := Lib.hid fun w => (sum_any ⟨#[97]⟩ w (by decide)).mono fun e w' ⟨h1, h2⟩ => ⟨by rw [h1, sum_a]; rfl, h2⟩
  have HS2 : Hid (∀ w, Calls Try.prog 26 #[.string ⟨#[]⟩] w fun e w' => e = .returned (.int .u32 2166136261) ∧ w = w') := Lib.hid fun w => (sum_any ⟨#[]⟩ w (by decide)).mono fun e w' ⟨h1, h2⟩ => ⟨h1, h2⟩
  go_enter Try.func23, Try.ntmps23
  go_wp2_with fail
  refine HC0.out.mono ?_
  rintro e w1 ⟨rfl, gs, hgl, hs1, hf1, hb1⟩
  obtain ⟨g0, g1, rfl⟩ := two hgl
  have hc0 : (news [g0, g1] 1)[0]? = some ⟨g0, none, 1, []⟩ := rfl
  have hputc := sput_any w.heap.size w.heap.size g0 [g0, g1] none 1 [] kA 7 w1 hs1 (by simp) (by simp) (by decide) (by show [g0, g1][ofF kA 2]? = some g0; unfold kA; rw [of_a]; rfl) (hf1.lru 0 _ hc0) (hf1.ok 0 _ hc0) (by decide) hb1.size
  unfold lrs.PutIn at hputc
  rw [p1.1, p1.2.1, p1.2.2] at hputc
  have HP := Lib.hid hputc
  unfold kA at HP
  have HF1 := Lib.hid hf1
  have HB1 := Lib.hid hb1
  have HSH := Lib.hid hs1
  clear hgl hs1 hf1 hb1 hputc HC0 hc0
  go_wp2_with fail
  refine (HS1.out _).mono ?_
  rintro e w2 ⟨rfl, rfl⟩
  go_wp2_with fail
  refine (HS2.out _).mono ?_
  rintro e w2 ⟨rfl, rfl⟩
  go_wp2_with fail
  refine HP.out.mono ?_
  rintro e w2 ⟨rfl, h2⟩
  have hc0 : (news [g0, g1] 1)[0]? = some ⟨g0, none, 1, []⟩ := rfl
  have hk2 := HF1.out.left_kept hc0 h2
  obtain ⟨bo2, hf2⟩ := HF1.out.left hc0 h2 ⟨by decide, Nat.le_refl 1, Nat.le_refl 1⟩
  have hs2 := HSH.out.kept hk2 (by unfold LS; decide) (by unfold LS; decide)
  have hb2 := HB1.out.trans (hk2.below HB1.out.size)
  have hc2 : ((news [g0, g1] 1).set 0 ⟨g0, bo2, 1, [(kA, 7)]⟩)[0]? = some ⟨g0, bo2, 1, [(kA, 7)]⟩ := rfl
  have hgetc := sget_any w.heap.size w.heap.size g0 [g0, g1] bo2 1 [(kA, 7)] kA w2 hs2 (by simp) (by simp) (by decide) (by show [g0, g1][ofF kA 2]? = some g0; unfold kA; rw [of_a]; rfl) (hf2.lru 0 _ hc2) (hf2.ok 0 _ hc2) (by decide)
  unfold lrs.Got at hgetc
  rw [p2.1, p2.2.1, p2.2.2] at hgetc
  have HG := Lib.hid hgetc
  unfold kA at HG
  have HF2 := Lib.hid hf2
  have HB2 := Lib.hid hb2
  have HS2' := Lib.hid hs2
  clear hk2 hf2 hs2 hb2 hc2 hgetc h2 hc0 HP HF1 HB1 HSH
  go_wp2_with fail
  refine HG.out.mono ?_
  rintro e w3 ⟨rfl, h3⟩
  have hc2 : ((news [g0, g1] 1).set 0 ⟨g0, bo2, 1, [(kA, 7)]⟩)[0]? = some ⟨g0, bo2, 1, [(kA, 7)]⟩ := rfl
  have hk3 := HF2.out.left_kept hc2 h3
  obtain ⟨bo3, hf3⟩ := HF2.out.left hc2 h3 ⟨by decide, Nat.le_refl 1, Nat.le_refl 1⟩
  have hs3 := HS2'.out.kept hk3 (by unfold LS; decide) (by unfold LS; decide)
  have hb3 := HB2.out.trans (hk3.below HB2.out.size)
  have HM1 := Lib.hid (many_any _ _ _ w3 hs3)
  have HO1 : Hid (Calls Try.prog 28 #[.pointer (some ⟨w.heap.size, 0, none⟩), .string ⟨#[97]⟩] w3 fun e w' => e = .returned (.int .i64 0) ∧ ∃ n, w' = w3.drewN n) := Lib.hid ((of_any _ _ [g0, g1] ⟨#[97]⟩ w3 hs3 (by simp) (by simp) (by decide)).mono fun e w' ⟨h1, h2⟩ => ⟨by rw [h1]; show Ending.returned (.int .i64 ((ofF ⟨#[97]⟩ 2 : Nat) : Int)) = _; rw [of_a]; rfl, h2⟩)
  have HMO := Lib.hid (fun (w4 : World) (hw : ∃ n, w4 = w3.drewN n) => (show Calls Try.prog 32 #[.pointer (some ⟨w.heap.size, 0, none⟩)] w4 fun e w' => e = .returned (.int .i64 1) ∧ w4 = w' from by
    obtain ⟨n, rfl⟩ := hw
    exact most_any w.heap.size w.heap.size [g0, g1] [1, 0] _ hs3 (by simp) (Fam.held (w := w3.drewN n) (B := w.heap.size) (C := ((news [g0, g1] 1).set 0 ⟨g0, bo2, 1, [(kA, 7)]⟩).set 0 ⟨g0, bo3, 1, [(kA, 7)]⟩) ⟨hf3.lru, hf3.ok, hf3.apart⟩)))
  have HB3 := Lib.hid hb3
  clear hk3 hf3 hs3 hb3 h3 hc2 HG HF2 HB2 HS2'
  go_wp2_with fail
  refine HM1.out.mono ?_
  rintro e w4 ⟨rfl, rfl⟩
  go_wp2_with fail
  refine HO1.out.mono ?_
  rintro e w4 ⟨rfl, hw4⟩
  have HM2 := Lib.hid (HMO.out w4 hw4)
  have hb4 : Below w.heap.size w w4 := HB3.out.trans (by obtain ⟨n, rfl⟩ := hw4; exact ⟨rfl, rfl, rfl, Nat.le_refl _, fun _ _ => rfl⟩)
  have HB4 := Lib.hid hb4
  clear hw4 hb4 HMO HO1 HM1
  go_wp2_with fail
  refine HM2.out.mono ?_
  rintro e w5 ⟨rfl, rfl⟩
  go_wp2_with fail
  go_ret
  exact ⟨rfl, HB4.out⟩
end Go.Proofs.Ytllebfkodklehaa.sha
