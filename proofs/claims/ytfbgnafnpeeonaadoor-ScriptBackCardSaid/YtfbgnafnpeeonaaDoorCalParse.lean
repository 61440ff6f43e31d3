/- What call's Parse answers. Condition: at most a million bytes; what the listed variables hold. -/
import Derived.Test.YtfbgnafnpeeonaaDoorCalReadOp
namespace Go.Proofs.YtfbgnafnpeeonaaDoor.cal
set_option maxRecDepth 100000
open Go.RowKit Go.Proofs.YtfbgnafnpeeonaaDoor.words

def ParseO (s : ByteArray) (w : World) (e : Ending) (w' : World) : Prop :=
  ((∃ (k : Int) (p : ByteArray) (o n i : Int) (g : ByteArray), e = .returned (.tuple #[opV k p o n i g, .bool true]) ∧ parseM s.data.toList = some (opM k p o n i g) ∧ OpFit o n i p g) ∨ (parseM s.data.toList = none ∧ e = .returned (.tuple #[opV 0 ⟨#[]⟩ 0 0 0 ⟨#[]⟩, .bool false]))) ∧ Below w.heap.size w w'
theorem put_no {w W1 : World} {b : Nat} {s : ByteArray} (hb : Below w.heap.size w W1) (hbb : w.heap.size ≤ b) {u0 u1 u2 u3 u4 u5 : Value} (hr : W1.heap[b]? = some (.cells #[u0, u1, u2, u3, u4, u5] 45 (0, 0))) (hm : parseM s.data.toList = none) :
    ∀ W, W = set6 W1 b (.int .i64 0) (.string ⟨#[]⟩) (.int .i64 0) (.int .i64 0) (.int .i64 0) (.string ⟨#[]⟩) → W.cell? ⟨b, 0, none⟩ = some (.int .i64 0) ∧ W.cell? ⟨b, 1, none⟩ = some (.string ⟨#[]⟩) ∧ W.cell? ⟨b, 2, none⟩ = some (.int .i64 0) ∧ W.cell? ⟨b, 3, none⟩ = some (.int .i64 0) ∧ W.cell? ⟨b, 4, none⟩ = some (.int .i64 0) ∧ W.cell? ⟨b, 5, none⟩ = some (.string ⟨#[]⟩) ∧
      ParseO s w (.returned (.tuple #[.agg #[.int .i64 0, .string ⟨#[]⟩, .int .i64 0, .int .i64 0, .int .i64 0, .string ⟨#[]⟩], .bool false])) W := fun W hW => by
  have ho := over6 (u0 := .int .i64 0) (u1 := .string ⟨#[]⟩) (u2 := .int .i64 0) (u3 := .int .i64 0) (u4 := .int .i64 0) (u5 := .string ⟨#[]⟩) hr
  have hbd := below6 hb hbb (.int .i64 0) (.string ⟨#[]⟩) (.int .i64 0) (.int .i64 0) (.int .i64 0) (.string ⟨#[]⟩)
  rw [← hW] at ho hbd
  exact ⟨cell_of_blk ho 0, cell_of_blk ho 1, cell_of_blk ho 2, cell_of_blk ho 3, cell_of_blk ho 4, cell_of_blk ho 5, .inr ⟨hm, rfl⟩, hbd⟩
theorem put_yes {w W1 : World} {b : Nat} {s : ByteArray} (hb : Below w.heap.size w W1) (hbb : w.heap.size ≤ b) {u0 u1 u2 u3 u4 u5 : Value} (hr : W1.heap[b]? = some (.cells #[u0, u1, u2, u3, u4, u5] 45 (0, 0))) (k : Int) (p : ByteArray) (o n i : Int) (g : ByteArray) (hm : parseM s.data.toList = some (opM k p o n i g)) (hf : OpFit o n i p g) :
    ∀ W, W = set6 W1 b (.int .i64 k) (.string p) (.int .i64 o) (.int .i64 n) (.int .i64 i) (.string g) → W.cell? ⟨b, 0, none⟩ = some (.int .i64 k) ∧ W.cell? ⟨b, 1, none⟩ = some (.string p) ∧ W.cell? ⟨b, 2, none⟩ = some (.int .i64 o) ∧ W.cell? ⟨b, 3, none⟩ = some (.int .i64 n) ∧ W.cell? ⟨b, 4, none⟩ = some (.int .i64 i) ∧ W.cell? ⟨b, 5, none⟩ = some (.string g) ∧
      ParseO s w (.returned (.tuple #[.agg #[.int .i64 k, .string p, .int .i64 o, .int .i64 n, .int .i64 i, .string g], .bool true])) W := fun W hW => by
  have ho := over6 (u0 := .int .i64 k) (u1 := .string p) (u2 := .int .i64 o) (u3 := .int .i64 n) (u4 := .int .i64 i) (u5 := .string g) hr
  have hbd := below6 hb hbb (.int .i64 k) (.string p) (.int .i64 o) (.int .i64 n) (.int .i64 i) (.string g)
  rw [← hW] at ho hbd
  exact ⟨cell_of_blk ho 0, cell_of_blk ho 1, cell_of_blk ho 2, cell_of_blk ho 3, cell_of_blk ho 4, cell_of_blk ho 5, .inl ⟨k, p, o, n, i, g, rfl, hm, hf⟩, hbd⟩
set_option maxHeartbeats 6400000 in
theorem parse_any (m : Int) (s : ByteArray) (w : World) (hs : s.size ≤ 1000000) (hE : Env m w) : Calls Tryd.prog 51 #[.string s] w (ParseO s w) := by
  obtain ⟨W1, hW1⟩ : ∃ W1, W1 = w.alloc (.cells #[.int .i64 0, .string ⟨#[]⟩, .int .i64 0, .int .i64 0, .int .i64 0, .string ⟨#[]⟩] 45) := ⟨_, rfl⟩
  have hb1 : Below w.heap.size w W1 := by rw [hW1]; exact (Below.refl _ _).alloc (Nat.le_refl _) _
  have hx1 : W1.heap[w.heap.size]? = some (opB 0 ⟨#[]⟩ 0 0 0 ⟨#[]⟩) := by rw [hW1]; exact heap_alloc_new w _
  have HX1 := Lib.hid hx1
  have HB1 := Lib.hid hb1
  have HE1 := Lib.hid (hE.later hb1)
  have HEw := Lib.hid hE
  have HW1 := Lib.hid hW1.symm
  have HC := Lib.hid (cut_any m s W1 hs HE1.out)
  clear hW1 hb1 hx1 hE
  go_enter Tryd.func51, Tryd.ntmps51
  go_upto_region 1 with fail
  rw [HW1.out]
  clear HW1
  go_wp2_with fail
  refine HC.out.mono ?_
  rintro e w3 ⟨⟨a, b, f, rfl, hc⟩, hb3⟩
  have hz := cut_size hc
  have hx3 := (hb3.block _ (lt_of_some HX1.out)).trans HX1.out
  have hw3 := HB1.out.trans (hb3.mono HB1.out.size)
  unfold opB at hx3
  have HE3 := Lib.hid (HE1.out.later hb3)
  cases f with
  | false =>
    have HP := Lib.hid (put_no (s := s) hw3 (Nat.le_refl _) hx3 (by unfold parseM; rw [hc]; rfl))
    have d0 : w3.cell? ⟨w.heap.size, 0, none⟩ = some (.int .i64 0) := cell_of_blk hx3 0
    have d1 : w3.cell? ⟨w.heap.size, 1, none⟩ = some (.string ⟨#[]⟩) := cell_of_blk hx3 1
    have d2 : w3.cell? ⟨w.heap.size, 2, none⟩ = some (.int .i64 0) := cell_of_blk hx3 2
    have d3 : w3.cell? ⟨w.heap.size, 3, none⟩ = some (.int .i64 0) := cell_of_blk hx3 3
    have d4 : w3.cell? ⟨w.heap.size, 4, none⟩ = some (.int .i64 0) := cell_of_blk hx3 4
    have d5 : w3.cell? ⟨w.heap.size, 5, none⟩ = some (.string ⟨#[]⟩) := cell_of_blk hx3 5
    have z0 := free_of_blk hx3 0
    have z1 := free_of_blk hx3 1
    have z2 := free_of_blk hx3 2
    have z3 := free_of_blk hx3 3
    have z4 := free_of_blk hx3 4
    have z5 := free_of_blk hx3 5
    clear hc hz hx3 hw3 hb3 HC
    go_wp2_with fail
    obtain ⟨p0, p1, p2, p3, p4, p5, HE⟩ := HP.out _ rfl
    unfold set6 at p0 p1 p2 p3 p4 p5 HE
    exact bodyPost_ret (v := .tuple #[.agg #[.int .i64 0, .string ⟨#[]⟩, .int .i64 0, .int .i64 0, .int .i64 0, .string ⟨#[]⟩], .bool false]) (by simp [results, Tryd.results51, go_sem, p0, p1, p2, p3, p4, p5]) rfl HE
  | true =>
    have HPM : Hid (parseM s.data.toList = match readM (kindL a.data.toList) b.data.toList with | some o => if rightM o then some o else none | none => none) := Lib.hid (by unfold parseM; rw [hc]; rfl)
    have HK := Lib.hid (kind_any m a w3 HE3.out)
    obtain ⟨k, hk⟩ : ∃ k, k = kindL a.data.toList := ⟨_, rfl⟩
    rw [← hk] at HK HPM
    have HR := Lib.hid (read_any m k b w3 (by omega) HE3.out)
    have HX3 := Lib.hid hx3
    have HB3 := Lib.hid hw3
    clear hk hc hz hx3 hw3 hb3 HC
    go_wp2_with fail
    refine HK.out.mono ?_
    rintro e w4 ⟨rfl, rfl⟩
    clear HK
    go_wp2_with fail
    refine HR.out.mono ?_
    rintro e w5 ⟨⟨p, o, n, i, g, f, rfl, hf⟩, hb5⟩
    have hx5 := (hb5.block _ (lt_of_some HX3.out)).trans HX3.out
    have hw5 := HB3.out.trans (hb5.mono HB3.out.size)
    have d0 : w5.cell? ⟨w.heap.size, 0, none⟩ = some (.int .i64 0) := cell_of_blk hx5 0
    have d1 : w5.cell? ⟨w.heap.size, 1, none⟩ = some (.string ⟨#[]⟩) := cell_of_blk hx5 1
    have d2 : w5.cell? ⟨w.heap.size, 2, none⟩ = some (.int .i64 0) := cell_of_blk hx5 2
    have d3 : w5.cell? ⟨w.heap.size, 3, none⟩ = some (.int .i64 0) := cell_of_blk hx5 3
    have d4 : w5.cell? ⟨w.heap.size, 4, none⟩ = some (.int .i64 0) := cell_of_blk hx5 4
    have d5 : w5.cell? ⟨w.heap.size, 5, none⟩ = some (.string ⟨#[]⟩) := cell_of_blk hx5 5
    have z0 := free_of_blk hx5 0
    have z1 := free_of_blk hx5 1
    have z2 := free_of_blk hx5 2
    have z3 := free_of_blk hx5 3
    have z4 := free_of_blk hx5 4
    have z5 := free_of_blk hx5 5
    have ho6 := over6 (u0 := .int .i64 k) (u1 := .string p) (u2 := .int .i64 o) (u3 := .int .i64 n) (u4 := .int .i64 i) (u5 := .string g) hx5
    have hb6 := below6 hw5 (Nat.le_refl w.heap.size) (.int .i64 k) (.string p) (.int .i64 o) (.int .i64 n) (.int .i64 i) (.string g)
    obtain ⟨W6, hW6⟩ : ∃ W6, W6 = set6 w5 w.heap.size (.int .i64 k) (.string p) (.int .i64 o) (.int .i64 n) (.int .i64 i) (.string g) := ⟨_, rfl⟩
    rw [← hW6] at ho6 hb6
    have hsz : w5.heap.size = W6.heap.size := by rw [hW6]; simp [set6]
    have HE6 : Hid (Env m W6) := Lib.hid (HEw.out.later hb6)
    have HW6 : Hid ((((((w5.setCell ⟨w.heap.size, 0, none⟩ (.int .i64 k)).setCell ⟨w.heap.size, 1, none⟩ (.string p)).setCell ⟨w.heap.size, 2, none⟩ (.int .i64 o)).setCell ⟨w.heap.size, 3, none⟩ (.int .i64 n)).setCell ⟨w.heap.size, 4, none⟩ (.int .i64 i)).setCell ⟨w.heap.size, 5, none⟩ (.string g) = W6) := Lib.hid (by rw [hW6]; rfl)
    have HF := Lib.hid hf
    have HX6 := Lib.hid ho6
    have HB6 := Lib.hid hb6
    clear hW6 hsz hf hx5 hw5 hb5 ho6 hb6 HR
    unfold opV
    go_upto_region 5 with fail
    rw [HW6.out]
    clear HW6 d0 d1 d2 d3 d4 d5 z0 z1 z2 z3 z4 z5
    have hx6 := HX6.out
    have d0 : W6.cell? ⟨w.heap.size, 0, none⟩ = some (.int .i64 k) := cell_of_blk hx6 0
    have d1 : W6.cell? ⟨w.heap.size, 1, none⟩ = some (.string p) := cell_of_blk hx6 1
    have d2 : W6.cell? ⟨w.heap.size, 2, none⟩ = some (.int .i64 o) := cell_of_blk hx6 2
    have d3 : W6.cell? ⟨w.heap.size, 3, none⟩ = some (.int .i64 n) := cell_of_blk hx6 3
    have d4 : W6.cell? ⟨w.heap.size, 4, none⟩ = some (.int .i64 i) := cell_of_blk hx6 4
    have d5 : W6.cell? ⟨w.heap.size, 5, none⟩ = some (.string g) := cell_of_blk hx6 5
    have z0 := free_of_blk hx6 0
    have z1 := free_of_blk hx6 1
    have z2 := free_of_blk hx6 2
    have z3 := free_of_blk hx6 3
    have z4 := free_of_blk hx6 4
    have z5 := free_of_blk hx6 5
    rcases HF.out with ⟨rfl, hrd, hfit⟩ | ⟨rfl, hrd⟩
    · have HRg := Lib.hid (right_any m k p o n i g W6 HE6.out)
      have HRd := Lib.hid hrd
      have HFt := Lib.hid hfit
      clear hrd hfit HF hx6
      unfold opV at HRg
      cases hrt : rightM (opM k p o n i g) with
      | false =>
        rw [hrt] at HRg
        have HN : Hid (parseM s.data.toList = none) := Lib.hid (by rw [HPM.out, HRd.out]; simp only [hrt]; rfl)
        clear hrt
        go_wp2_with fail
        refine HRg.out.mono ?_
        rintro e w7 ⟨rfl, hb7⟩
        have hx7 := (hb7.block _ (lt_of_some HX6.out)).trans HX6.out
        have hw7 := HB6.out.trans (hb7.mono HB6.out.size)
        have HP := Lib.hid (put_no (s := s) hw7 (Nat.le_refl _) hx7 HN.out)
        have e0 : w7.cell? ⟨w.heap.size, 0, none⟩ = some (.int .i64 k) := cell_of_blk hx7 0
        have e1 : w7.cell? ⟨w.heap.size, 1, none⟩ = some (.string p) := cell_of_blk hx7 1
        have e2 : w7.cell? ⟨w.heap.size, 2, none⟩ = some (.int .i64 o) := cell_of_blk hx7 2
        have e3 : w7.cell? ⟨w.heap.size, 3, none⟩ = some (.int .i64 n) := cell_of_blk hx7 3
        have e4 : w7.cell? ⟨w.heap.size, 4, none⟩ = some (.int .i64 i) := cell_of_blk hx7 4
        have e5 : w7.cell? ⟨w.heap.size, 5, none⟩ = some (.string g) := cell_of_blk hx7 5
        have y0 := free_of_blk hx7 0
        have y1 := free_of_blk hx7 1
        have y2 := free_of_blk hx7 2
        have y3 := free_of_blk hx7 3
        have y4 := free_of_blk hx7 4
        have y5 := free_of_blk hx7 5
        clear hx7 hw7 hb7 HRg
        go_wp2_with fail
        obtain ⟨p0, p1, p2, p3, p4, p5, HE⟩ := HP.out _ rfl
        unfold set6 at p0 p1 p2 p3 p4 p5 HE
        exact bodyPost_ret (v := .tuple #[.agg #[.int .i64 0, .string ⟨#[]⟩, .int .i64 0, .int .i64 0, .int .i64 0, .string ⟨#[]⟩], .bool false]) (by simp [results, Tryd.results51, go_sem, p0, p1, p2, p3, p4, p5]) rfl HE
      | true =>
        rw [hrt] at HRg
        have HN : Hid (parseM s.data.toList = some (opM k p o n i g)) := Lib.hid (by rw [HPM.out, HRd.out]; simp only [hrt]; rfl)
        clear hrt
        go_wp2_with fail
        refine HRg.out.mono ?_
        rintro e w7 ⟨rfl, hb7⟩
        have hx7 := (hb7.block _ (lt_of_some HX6.out)).trans HX6.out
        have hw7 := HB6.out.trans (hb7.mono HB6.out.size)
        have HP := Lib.hid (put_yes (s := s) hw7 (Nat.le_refl _) hx7 k p o n i g HN.out HFt.out)
        have e0 : w7.cell? ⟨w.heap.size, 0, none⟩ = some (.int .i64 k) := cell_of_blk hx7 0
        have e1 : w7.cell? ⟨w.heap.size, 1, none⟩ = some (.string p) := cell_of_blk hx7 1
        have e2 : w7.cell? ⟨w.heap.size, 2, none⟩ = some (.int .i64 o) := cell_of_blk hx7 2
        have e3 : w7.cell? ⟨w.heap.size, 3, none⟩ = some (.int .i64 n) := cell_of_blk hx7 3
        have e4 : w7.cell? ⟨w.heap.size, 4, none⟩ = some (.int .i64 i) := cell_of_blk hx7 4
        have e5 : w7.cell? ⟨w.heap.size, 5, none⟩ = some (.string g) := cell_of_blk hx7 5
        have y0 := free_of_blk hx7 0
        have y1 := free_of_blk hx7 1
        have y2 := free_of_blk hx7 2
        have y3 := free_of_blk hx7 3
        have y4 := free_of_blk hx7 4
        have y5 := free_of_blk hx7 5
        clear hx7 hw7 hb7 HRg
        go_wp2_with fail
        obtain ⟨p0, p1, p2, p3, p4, p5, HE⟩ := HP.out _ rfl
        unfold set6 at p0 p1 p2 p3 p4 p5 HE
        exact bodyPost_ret (v := .tuple #[.agg #[.int .i64 k, .string p, .int .i64 o, .int .i64 n, .int .i64 i, .string g], .bool true]) (by simp [results, Tryd.results51, go_sem, p0, p1, p2, p3, p4, p5]) rfl HE
    · have HP := Lib.hid (put_no (s := s) HB6.out (Nat.le_refl _) hx6 (by rw [HPM.out, hrd]))
      clear hx6 hrd
      go_wp2_with fail
      obtain ⟨p0, p1, p2, p3, p4, p5, HE⟩ := HP.out _ rfl
      unfold set6 at p0 p1 p2 p3 p4 p5 HE
      exact bodyPost_ret (v := .tuple #[.agg #[.int .i64 0, .string ⟨#[]⟩, .int .i64 0, .int .i64 0, .int .i64 0, .string ⟨#[]⟩], .bool false]) (by simp [results, Tryd.results51, go_sem, p0, p1, p2, p3, p4, p5]) rfl HE
end Go.Proofs.YtfbgnafnpeeonaaDoor.cal
