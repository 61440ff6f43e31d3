/- What the image's reference reads of any bytes, and what its Decode answers. Condition: a text of a hundred thousand bytes at most. -/
import Derived.Test.YtapgagfeghfooaaDoorJImaGetDirs
import Derived.Test.YtapgagfeghfooaaDoorJImaSpeaks
namespace Go.Proofs.YtapgagfeghfooaaDoor.ima
set_option maxRecDepth 100000
open Go.RowKit Go.Proofs.YtapgagfeghfooaaDoor.words Go.Proofs.YtapgagfeghfooaaDoor.ext Go.Proofs.YtapgagfeghfooaaDoor.name Go.Proofs.YtapgagfeghfooaaDoor.tre

theorem get_all : ∀ (f : Nat), f ≤ 16 → ∀ (s : ByteArray) (d : Int) (w : World), d = 16 - (f : Int) → s.size ≤ 100000 → Calls Tryd.prog 23 #[.string s, .int .i64 d] w (GetOut s (getP f s.data.toList) w)
  | 0, _, s, d, w, hd, _ => (get_few s d w (.inl (by omega))).mono fun e w' h => ⟨.inl ⟨rfl, h.1⟩, h.2⟩
  | f + 1, hf, s, d, w, hd, hs => by
    have h1 : ¬ 15 < d := by omega
    have hl : s.data.toList.length = s.size := rfl
    rcases Nat.eq_zero_or_pos s.size with h0 | h2
    · exact (get_few s d w (.inr h0)).mono fun e w' h => ⟨.inl ⟨getP_empty h0, h.1⟩, h.2⟩
    · have hk : s[0].toNat = 1 ∨ s[0].toNat = 2 ∨ s[0].toNat = 3 ∨ s[0].toNat = 4 ∨ (s[0].toNat ≠ 1 ∧ s[0].toNat ≠ 2 ∧ s[0].toNat ≠ 3 ∧ s[0].toNat ≠ 4) := by omega
      rcases hk with hk | hk | hk | hk | hk
      · refine (get_file s d w h1 h2 hs hk _ _ rfl rfl _ rfl).mono ?_
        rintro e w' ⟨h, hb⟩
        refine ⟨?_, hb⟩
        rcases h with ⟨h, he⟩ | ⟨E, p, pI, r, h, h3, h4, h5, h6⟩
        · exact .inl ⟨by rw [getP_file h2 hk, h]; rfl, he⟩
        · exact .inr ⟨_, p, pI, r, by rw [getP_file h2 hk, h]; rfl, h3, h4, h5, h6⟩
      · by_cases hh : numB s 2 2 < 0 ∨ 1 < numB s 1 1
        · refine (get_dir_no s d w h1 h2 hk hh).mono fun e w' h => ⟨.inl ⟨?_, h.1⟩, h.2⟩
          rw [getP_dir h2 hk]
          unfold dirR
          rw [if_pos hh]
          rfl
        · refine (get_dir f s d w h1 (by omega) h2 hs hk hh _ rfl _ rfl fun t w ht => get_all f (by omega) t (d + 1) w (by omega) ht).mono ?_
          rintro e w' ⟨h, hb⟩
          refine ⟨?_, hb⟩
          rcases h with ⟨h, he⟩ | ⟨N, I, p, c, pI, r, h, h3, h4, h5, h6⟩
          · exact .inl ⟨by rw [getP_dir h2 hk, h]; rfl, he⟩
          · exact .inr ⟨_, p, pI, r, by rw [getP_dir h2 hk, h]; rfl, h3, h4, h5, h6⟩
      · refine (get_link s d w h1 h2 (by omega) hk _ rfl).mono ?_
        rintro e w' ⟨h, hb⟩
        refine ⟨?_, hb⟩
        rcases h with ⟨h, he⟩ | ⟨z, h3, h4, r, h5, h6⟩
        · exact .inl ⟨getP_link_no h2 hk h, he⟩
        · exact .inr ⟨_, 3 + z, 3 + numB s 1 2, r, getP_link h2 hk h3 h4, h4, by rw [h3]; omega, h5, h6⟩
      · refine (get_white s d w h1 h2 hk).mono ?_
        rintro e w' ⟨⟨r, h5, h6⟩, hb⟩
        exact ⟨.inr ⟨_, 1, 1, r, getP_white h2 hk, h2, rfl, h5, h6⟩, hb⟩
      · exact (get_other s d w h1 h2 hk).mono fun e w' h => ⟨.inl ⟨getP_other h2 hk, h.1⟩, h.2⟩
def refD (s : ByteArray) : Option Nd := if s.size < 7 ∨ s.extract 0 7 ≠ magic then none else getL (s.data.toList.drop 7)
def RefDec (s : ByteArray) (w : World) (e : Ending) (w' : World) : Prop :=
  ((∃ n r, refD s = some n ∧ e = .returned (.tuple #[ndV n r, .bool true]) ∧ NdIn w' (Fresh w w') n r) ∨ (refD s = none ∧ e = .returned (.tuple #[ndV nd0 raw0, .bool false]))) ∧ Below w.heap.size w w'
theorem over7 {w : World} {g : Nat} {T : TypeId} {c0 c1 c2 c3 c4 c5 c6 u0 u1 u2 u3 u4 u5 u6 : Value} (h : w.heap[g]? = some (.cells #[c0, c1, c2, c3, c4, c5, c6] T (0, 0))) :
    (((((((w.setCell ⟨g, 0, none⟩ u0).setCell ⟨g, 1, none⟩ u1).setCell ⟨g, 2, none⟩ u2).setCell ⟨g, 3, none⟩ u3).setCell ⟨g, 4, none⟩ u4).setCell ⟨g, 5, none⟩ u5).setCell ⟨g, 6, none⟩ u6).heap[g]? = some (.cells #[u0, u1, u2, u3, u4, u5, u6] T (0, 0)) := by
  simp [World.setCell, Array.getElem?_modify, h]
def set7 (w : World) (g : Nat) (u0 u1 u2 u3 u4 u5 u6 : Value) : World := ((((((w.setCell ⟨g, 0, none⟩ u0).setCell ⟨g, 1, none⟩ u1).setCell ⟨g, 2, none⟩ u2).setCell ⟨g, 3, none⟩ u3).setCell ⟨g, 4, none⟩ u4).setCell ⟨g, 5, none⟩ u5).setCell ⟨g, 6, none⟩ u6
theorem set7_other {w : World} {g b : Nat} (h : b ≠ g) (u0 u1 u2 u3 u4 u5 u6 : Value) : (set7 w g u0 u1 u2 u3 u4 u5 u6).heap[b]? = w.heap[b]? := by
  unfold set7
  have e : ∀ (w : World) (j : Nat) (u : Value), (w.setCell ⟨g, j, none⟩ u).heap[b]? = w.heap[b]? := fun w j u => Below.heap_setCell w ⟨g, j, none⟩ u b h
  rw [e, e, e, e, e, e, e]
theorem set7_size (w : World) (g : Nat) (u0 u1 u2 u3 u4 u5 u6 : Value) : w.heap.size ≤ (set7 w g u0 u1 u2 u3 u4 u5 u6).heap.size := by
  unfold set7
  simp [World.setCell]
theorem Below.set7 {S g : Nat} {a w : World} (h : Below S a w) (hg : S ≤ g) (u0 u1 u2 u3 u4 u5 u6 : Value) : Below S a (ima.set7 w g u0 u1 u2 u3 u4 u5 u6) :=
  ((((((h.setCell (p := ⟨g, 0, none⟩) hg _).setCell (p := ⟨g, 1, none⟩) hg _).setCell (p := ⟨g, 2, none⟩) hg _).setCell (p := ⟨g, 3, none⟩) hg _).setCell (p := ⟨g, 4, none⟩) hg _).setCell (p := ⟨g, 5, none⟩) hg _).setCell (p := ⟨g, 6, none⟩) hg _
theorem getL_of {l : List UInt8} : getL l = match getP 16 l with | some (n, []) => if refB n = true then some n else none | _ => none := rfl
set_option maxHeartbeats 12800000 in
theorem refdecode_any (s : ByteArray) (w : World) (hsm : s.size ≤ 4000) :
    Calls Tryd.prog 7 #[.string s] w (RefDec s w) := by
  obtain ⟨W1, hW1⟩ : ∃ W1, W1 = w.alloc (.cells #[.int .i64 0, .bool false, .slice none 0 0, .slice none 0 0, .int .i64 0, .slice none 0 0, .string ⟨#[]⟩] 27) := ⟨_, rfl⟩
  have hb1 : Below w.heap.size w W1 := by rw [hW1]; exact (Below.refl _ _).alloc (Nat.le_refl _) _
  have hk1 : W1.heap[w.heap.size]? = some (.cells #[.int .i64 0, .bool false, .slice none 0 0, .slice none 0 0, .int .i64 0, .slice none 0 0, .string ⟨#[]⟩] 27 (0, 0)) := by rw [hW1]; exact heap_alloc_new w _
  have HB1 := Lib.hid hb1
  have HK1 := Lib.hid hk1
  have HW1 := Lib.hid hW1
  obtain ⟨g, hg⟩ : ∃ g, g = w.heap.size := ⟨_, rfl⟩
  rw [← hg] at HK1
  have HG := Lib.hid hg
  have HNO : Hid (∀ (W W9 : World), refD s = none → Below w.heap.size w W → W9 = set7 W g (.int .i64 0) (.bool false) (.slice none 0 0) (.slice none 0 0) (.int .i64 0) (.slice none 0 0) (.string ⟨#[]⟩) → RefDec s w (.returned (.tuple #[ndV nd0 raw0, .bool false])) W9) := Lib.hid fun W W9 h hb e => ⟨.inr ⟨h, rfl⟩, by rw [e]; exact Below.set7 hb (by omega) _ _ _ _ _ _ _⟩
  have HL : Hid (s.size < 7 ∨ s.extract 0 7 ≠ magic → refD s = none) := Lib.hid fun h => by unfold refD; rw [if_pos h]
  have HR : Hid (¬ (s.size < 7 ∨ s.extract 0 7 ≠ magic) → refD s = getL (s.data.toList.drop 7)) := Lib.hid fun h => by unfold refD; rw [if_neg h]
  have hx0 : ∀ w : World, 7 ≤ s.size → (Instr.slice 9 (.string s) none (some (.int .i64 7)) none).run Tryd.prog w = .ok (.string (s.extract 0 7)) w := fun w h => run_slice_string_h (P := Tryd.prog) w 9 s Tryd.underlying9 .i64 7 (by decide) (by omega)
  clear hb1 hk1 hW1
  go_enter Tryd.func7, Tryd.ntmps7
  go_upto_region 1 with fail
  rw [← HW1.out]
  rw [← hg]
  clear hg
  have g4 : ¬ (4194304 : Int) < (s.size : Int) := by omega
  have g5 : ¬ 4194304 < s.size := by omega
  have c0 := cell_of_blk HK1.out 0
  have z0 := free_of_blk HK1.out 0
  have c1 := cell_of_blk HK1.out 1
  have z1 := free_of_blk HK1.out 1
  have c2 := cell_of_blk HK1.out 2
  have z2 := free_of_blk HK1.out 2
  have c3 := cell_of_blk HK1.out 3
  have z3 := free_of_blk HK1.out 3
  have c4 := cell_of_blk HK1.out 4
  have z4 := free_of_blk HK1.out 4
  have c5 := cell_of_blk HK1.out 5
  have z5 := free_of_blk HK1.out 5
  have c6 := cell_of_blk HK1.out 6
  have z6 := free_of_blk HK1.out 6
  by_cases h7 : s.size < 7
  · have l7 : (s.size : Int) < 7 := by omega
    clear hx0
    go_wp2_with fail
    obtain ⟨W9, hW9⟩ : ∃ W9, W9 = set7 W1 g (.int .i64 0) (.bool false) (.slice none 0 0) (.slice none 0 0) (.int .i64 0) (.slice none 0 0) (.string ⟨#[]⟩) := ⟨_, rfl⟩
    have hk9 : W9.heap[g]? = some (.cells #[.int .i64 0, .bool false, .slice none 0 0, .slice none 0 0, .int .i64 0, .slice none 0 0, .string ⟨#[]⟩] 27 (0, 0)) := by rw [hW9]; exact over7 HK1.out
    have HF := Lib.hid (HNO.out W1 W9 (HL.out (.inl h7)) HB1.out hW9)
    have p0 := cell_of_blk hk9 0
    have p1 := cell_of_blk hk9 1
    have p2 := cell_of_blk hk9 2
    have p3 := cell_of_blk hk9 3
    have p4 := cell_of_blk hk9 4
    have p5 := cell_of_blk hk9 5
    have p6 := cell_of_blk hk9 6
    unfold set7 at hW9
    rw [← hW9]
    exact bodyPost_ret (v := .tuple #[ndV nd0 raw0, .bool false]) (by simp [results, Tryd.results7, go_sem, ndV, rawCells, nd0, raw0, Nd.K, Nd.O, Nd.N, Nd.I, Nd.S, Nd.E, Nd.T, p0, p1, p2, p3, p4, p5, p6]) rfl HF.out
  have l7 : ¬ (s.size : Int) < 7 := by omega
  have l8 : (7 : Int) ≤ (s.size : Int) := by omega
  have hx1 := fun w => hx0 w (by omega)
  obtain ⟨hd7, hhd⟩ : ∃ hd7, hd7 = s.extract 0 7 := ⟨_, rfl⟩
  rw [← hhd] at hx1
  clear hx0
  by_cases hp : hd7 = magic
  rotate_left
  · have hne : (hd7.toList == [115, 111, 99, 97, 103, 101, 49]) = false := by
      rw [beq_eq_false_iff_ne]
      intro h
      exact hp (ByteArray.ext (Array.ext' (by rw [← ByteArray.toList_eq, h]; rfl)))
    have HE := Lib.hid (HL.out (.inr (by rw [← hhd]; exact hp)))
    clear hp hhd
    go_wp2_with fail
    obtain ⟨W9, hW9⟩ : ∃ W9, W9 = set7 W1 g (.int .i64 0) (.bool false) (.slice none 0 0) (.slice none 0 0) (.int .i64 0) (.slice none 0 0) (.string ⟨#[]⟩) := ⟨_, rfl⟩
    have hk9 : W9.heap[g]? = some (.cells #[.int .i64 0, .bool false, .slice none 0 0, .slice none 0 0, .int .i64 0, .slice none 0 0, .string ⟨#[]⟩] 27 (0, 0)) := by rw [hW9]; exact over7 HK1.out
    have HF := Lib.hid (HNO.out W1 W9 HE.out HB1.out hW9)
    have p0 := cell_of_blk hk9 0
    have p1 := cell_of_blk hk9 1
    have p2 := cell_of_blk hk9 2
    have p3 := cell_of_blk hk9 3
    have p4 := cell_of_blk hk9 4
    have p5 := cell_of_blk hk9 5
    have p6 := cell_of_blk hk9 6
    unfold set7 at hW9
    rw [← hW9]
    exact bodyPost_ret (v := .tuple #[ndV nd0 raw0, .bool false]) (by simp [results, Tryd.results7, go_sem, ndV, rawCells, nd0, raw0, Nd.K, Nd.O, Nd.N, Nd.I, Nd.S, Nd.E, Nd.T, p0, p1, p2, p3, p4, p5, p6]) rfl HF.out
  · have hne : (hd7.toList == [115, 111, 99, 97, 103, 101, 49]) = true := by
      rw [hp, ByteArray.toList_eq]
      rfl
    have HE := Lib.hid (HR.out (by rw [← hhd]; exact fun h => h.elim h7 fun h => h hp))
    obtain ⟨t, ht⟩ : ∃ t, t = s.extract 7 s.size := ⟨_, rfl⟩
    obtain ⟨htl, hts⟩ := tail_list s 7 (by omega)
    rw [← ht] at htl hts
    have hx2 : ∀ w : World, (Instr.slice 9 (.string s) (some (.int .i64 7)) none none).run Tryd.prog w = .ok (.string t) w := fun w => by
      have h := run_slice_string_l (P := Tryd.prog) w 9 s Tryd.underlying9 .i64 7 (by decide) (by omega)
      rw [show (7 : Int).toNat = 7 from rfl, ← ht] at h
      exact h
    have HGT := Lib.hid (get_all 16 (Nat.le_refl _) t 0 W1 (by decide) (by omega))
    have HTL := Lib.hid htl
    have HTS := Lib.hid hts
    clear hp hhd ht htl hts z0 z1 z2 z3 z4 z5 z6 c0 c1 c2 c3 c4 c5 c6
    go_wp2_with fail
    refine HGT.out.mono ?_
    rintro e w2 ⟨(⟨hno, rfl⟩ | ⟨n, p, pI, r, hRR, hp, hpI, rfl, hnd⟩), hb2⟩
    · unfold gotN
      obtain ⟨W3, hW3⟩ : ∃ W3, W3 = w2.alloc (.cells gotM 54) := ⟨_, rfl⟩
      have hb3 : Below w2.heap.size w2 W3 := by rw [hW3]; exact (Below.refl _ _).alloc (Nat.le_refl _) _
      have hk3 : W3.heap[w2.heap.size]? = some (.cells gotM 54 (0, 0)) := by rw [hW3]; exact heap_alloc_new w2 _
      have k7 : W3.cell? ⟨w2.heap.size, 7, none⟩ = some (.int .i64 (-1)) := cell_of_blk hk3 7
      have hk13 := (hb3.block _ (Nat.lt_of_lt_of_le (lt_of_some HK1.out) hb2.size)).trans ((hb2.block _ (lt_of_some HK1.out)).trans HK1.out)
      have HB3 := Lib.hid ((HB1.out.trans (hb2.mono HB1.out.size)).trans (hb3.mono (Nat.le_trans HB1.out.size hb2.size)))
      have HEN := Lib.hid (show refD s = none by rw [HE.out, ← HTL.out, getL_of, hno])
      have gl : ((-1 : Int) != (s.size : Int) - 7) = true := by
        rw [bne_iff_ne]
        omega
      have ww : IntKind.i64.wrap ((s.size : Int) - 7) = (s.size : Int) - 7 := IntWalk.i64_in _ (by omega)
      have HKa := Lib.hid hk13
      have c0 := cell_of_blk HKa.out 0
      have z0 := free_of_blk HKa.out 0
      have c1 := cell_of_blk HKa.out 1
      have z1 := free_of_blk HKa.out 1
      have c2 := cell_of_blk HKa.out 2
      have z2 := free_of_blk HKa.out 2
      have c3 := cell_of_blk HKa.out 3
      have z3 := free_of_blk HKa.out 3
      have c4 := cell_of_blk HKa.out 4
      have z4 := free_of_blk HKa.out 4
      have c5 := cell_of_blk HKa.out 5
      have z5 := free_of_blk HKa.out 5
      have c6 := cell_of_blk HKa.out 6
      have z6 := free_of_blk HKa.out 6
      unfold gotM at hW3
      have HW3 := Lib.hid hW3
      have HK13 := Lib.hid hk13
      clear hb2 hb3 hk3 hk13 hW3 hno
      go_upto_region 4 with fail
      rw [← HW3.out]
      go_wp2_with fail
      obtain ⟨W9, hW9⟩ : ∃ W9, W9 = set7 W3 g (.int .i64 0) (.bool false) (.slice none 0 0) (.slice none 0 0) (.int .i64 0) (.slice none 0 0) (.string ⟨#[]⟩) := ⟨_, rfl⟩
      have hk9 : W9.heap[g]? = some (.cells #[.int .i64 0, .bool false, .slice none 0 0, .slice none 0 0, .int .i64 0, .slice none 0 0, .string ⟨#[]⟩] 27 (0, 0)) := by rw [hW9]; exact over7 HK13.out
      have HF := Lib.hid (HNO.out W3 W9 HEN.out HB3.out hW9)
      have p0 := cell_of_blk hk9 0
      have p1 := cell_of_blk hk9 1
      have p2 := cell_of_blk hk9 2
      have p3 := cell_of_blk hk9 3
      have p4 := cell_of_blk hk9 4
      have p5 := cell_of_blk hk9 5
      have p6 := cell_of_blk hk9 6
      unfold set7 at hW9
      rw [← hW9]
      exact bodyPost_ret (v := .tuple #[ndV nd0 raw0, .bool false]) (by simp [results, Tryd.results7, go_sem, ndV, rawCells, nd0, raw0, Nd.K, Nd.O, Nd.N, Nd.I, Nd.S, Nd.E, Nd.T, p0, p1, p2, p3, p4, p5, p6]) rfl HF.out
    · unfold gotV
      obtain ⟨W3, hW3⟩ : ∃ W3, W3 = w2.alloc (.cells #[.int .i64 n.K, .bool n.O, .slice r.An n.N.length r.cn, .slice r.Ai n.I.length r.ci, .int .i64 n.S, .slice r.Ae n.E.length r.ce, .string n.T, .int .i64 pI] 54) := ⟨_, rfl⟩
      have hb3 : Below w2.heap.size w2 W3 := by rw [hW3]; exact (Below.refl _ _).alloc (Nat.le_refl _) _
      have hk3 : W3.heap[w2.heap.size]? = some (.cells #[.int .i64 n.K, .bool n.O, .slice r.An n.N.length r.cn, .slice r.Ai n.I.length r.ci, .int .i64 n.S, .slice r.Ae n.E.length r.ce, .string n.T, .int .i64 pI] 54 (0, 0)) := by rw [hW3]; exact heap_alloc_new w2 _
      have k0 := cell_of_blk hk3 0
      have k1 := cell_of_blk hk3 1
      have k2 := cell_of_blk hk3 2
      have k3 := cell_of_blk hk3 3
      have k4 := cell_of_blk hk3 4
      have k5 := cell_of_blk hk3 5
      have k6 := cell_of_blk hk3 6
      have k7 := cell_of_blk hk3 7
      have hk13 := (hb3.block _ (Nat.lt_of_lt_of_le (lt_of_some HK1.out) hb2.size)).trans ((hb2.block _ (lt_of_some HK1.out)).trans HK1.out)
      have HB3 := Lib.hid ((HB1.out.trans (hb2.mono HB1.out.size)).trans (hb3.mono (Nat.le_trans HB1.out.size hb2.size)))
      have hnd3 : NdIn W3 (fun b => W1.heap.size ≤ b ∧ b < W3.heap.size) n r := hnd.keep fun b hb => ⟨hb3.block b hb.2, hb.1, Nat.lt_of_lt_of_le hb.2 hb3.size⟩
      obtain ⟨hin1, hin2⟩ := getP_inv _ _ _ _ hRR
      have ww : IntKind.i64.wrap ((s.size : Int) - 7) = (s.size : Int) - 7 := IntWalk.i64_in _ (by omega)
      have HND := Lib.hid hnd3
      have HK13 := Lib.hid hk13
      have HK3 := Lib.hid hk3
      have HRR := Lib.hid hRR
      have HIN := Lib.hid (And.intro hin1 hin2)
      have HW3 := Lib.hid hW3
      clear hb2 hb3 hk3 hk13 hW3 hnd hnd3 hin1 hin2 hRR
      by_cases hpe : p = t.size
      rotate_left
      · have HEN := Lib.hid (show refD s = none by
          rw [HE.out, ← HTL.out, getL_of, HRR.out]
          have hne : t.data.toList.drop p ≠ [] := fun h => by
            have := congrArg List.length h
            rw [List.length_drop, show t.data.toList.length = t.size from rfl] at this
            simp at this
            omega
          rcases hdd : t.data.toList.drop p with _ | ⟨a, l⟩
          · exact absurd hdd hne
          · rfl)
        have gl : (pI != (s.size : Int) - 7) = true := by
          rw [bne_iff_ne]
          have := HTS.out
          omega
        clear hpe hp hpI
        have c0 := cell_of_blk HK13.out 0
        have z0 := free_of_blk HK13.out 0
        have c1 := cell_of_blk HK13.out 1
        have z1 := free_of_blk HK13.out 1
        have c2 := cell_of_blk HK13.out 2
        have z2 := free_of_blk HK13.out 2
        have c3 := cell_of_blk HK13.out 3
        have z3 := free_of_blk HK13.out 3
        have c4 := cell_of_blk HK13.out 4
        have z4 := free_of_blk HK13.out 4
        have c5 := cell_of_blk HK13.out 5
        have z5 := free_of_blk HK13.out 5
        have c6 := cell_of_blk HK13.out 6
        have z6 := free_of_blk HK13.out 6
        go_upto_region 4 with fail
        rw [← HW3.out]
        go_wp2_with fail
        obtain ⟨W9, hW9⟩ : ∃ W9, W9 = set7 W3 g (.int .i64 0) (.bool false) (.slice none 0 0) (.slice none 0 0) (.int .i64 0) (.slice none 0 0) (.string ⟨#[]⟩) := ⟨_, rfl⟩
        have hk9 : W9.heap[g]? = some (.cells #[.int .i64 0, .bool false, .slice none 0 0, .slice none 0 0, .int .i64 0, .slice none 0 0, .string ⟨#[]⟩] 27 (0, 0)) := by rw [hW9]; exact over7 HK13.out
        have HF := Lib.hid (HNO.out W3 W9 HEN.out HB3.out hW9)
        have p0 := cell_of_blk hk9 0
        have p1 := cell_of_blk hk9 1
        have p2 := cell_of_blk hk9 2
        have p3 := cell_of_blk hk9 3
        have p4 := cell_of_blk hk9 4
        have p5 := cell_of_blk hk9 5
        have p6 := cell_of_blk hk9 6
        unfold set7 at hW9
        rw [← hW9]
        exact bodyPost_ret (v := .tuple #[ndV nd0 raw0, .bool false]) (by simp [results, Tryd.results7, go_sem, ndV, rawCells, nd0, raw0, Nd.K, Nd.O, Nd.N, Nd.I, Nd.S, Nd.E, Nd.T, p0, p1, p2, p3, p4, p5, p6]) rfl HF.out
      · have gl : (pI != (s.size : Int) - 7) = false := by
          rw [bne_eq_false_iff_eq]
          have := HTS.out
          omega
        have HNIL : Hid (t.data.toList.drop p = []) := Lib.hid (List.eq_nil_of_length_eq_zero (by rw [List.length_drop, show t.data.toList.length = t.size from rfl]; omega))
        have hdep : depth n ≤ 1000 := by
          have h1 := congrArg List.length HIN.out.1
          rw [List.length_append, show t.data.toList.length = t.size from rfl] at h1
          have h2 := HIN.out.2
          have h3 := HTS.out
          omega
        have HRI := Lib.hid (refright_node n r W3 (HND.out.at_ fun b hb => hb.2) hdep)
        unfold ndV rawCells at HRI
        have HE2 := Lib.hid (show refD s = if refB n = true then some n else none by rw [HE.out, ← HTL.out, getL_of, HRR.out, HNIL.out])
        clear hpe hp hpI hdep
        go_upto_region 4 with fail
        rw [← HW3.out]
        go_wp2_with fail
        refine HRI.out.mono ?_
        rintro e w4 ⟨rfl, hb4⟩
        have hk14 := (hb4.block _ (lt_of_some HK13.out)).trans HK13.out
        have hk34 := (hb4.block _ (lt_of_some HK3.out)).trans HK3.out
        have HK14 := Lib.hid hk14
        have HB4 := Lib.hid (HB3.out.trans (hb4.mono HB3.out.size))
        have hnd4 : NdIn w4 (fun b => W1.heap.size ≤ b ∧ b < w4.heap.size) n r := HND.out.keep fun b hb => ⟨hb4.block b hb.2, hb.1, Nat.lt_of_lt_of_le hb.2 hb4.size⟩
        have HND4 := Lib.hid hnd4
        clear k0 k1 k2 k3 k4 k5 k6 k7
        have k0 := cell_of_blk hk34 0
        have k1 := cell_of_blk hk34 1
        have k2 := cell_of_blk hk34 2
        have k3 := cell_of_blk hk34 3
        have k4 := cell_of_blk hk34 4
        have k5 := cell_of_blk hk34 5
        have k6 := cell_of_blk hk34 6
        have c0 := cell_of_blk HK14.out 0
        have z0 := free_of_blk HK14.out 0
        have c1 := cell_of_blk HK14.out 1
        have z1 := free_of_blk HK14.out 1
        have c2 := cell_of_blk HK14.out 2
        have z2 := free_of_blk HK14.out 2
        have c3 := cell_of_blk HK14.out 3
        have z3 := free_of_blk HK14.out 3
        have c4 := cell_of_blk HK14.out 4
        have z4 := free_of_blk HK14.out 4
        have c5 := cell_of_blk HK14.out 5
        have z5 := free_of_blk HK14.out 5
        have c6 := cell_of_blk HK14.out 6
        have z6 := free_of_blk HK14.out 6
        clear hk14 hk34 hb4 hnd4
        rcases hrb : refB n with _ | _
        · have HEN := Lib.hid (show refD s = none by rw [HE2.out, hrb]; rfl)
          clear hrb
          go_wp2_with fail
          obtain ⟨W9, hW9⟩ : ∃ W9, W9 = set7 w4 g (.int .i64 0) (.bool false) (.slice none 0 0) (.slice none 0 0) (.int .i64 0) (.slice none 0 0) (.string ⟨#[]⟩) := ⟨_, rfl⟩
          have hk9 : W9.heap[g]? = some (.cells #[.int .i64 0, .bool false, .slice none 0 0, .slice none 0 0, .int .i64 0, .slice none 0 0, .string ⟨#[]⟩] 27 (0, 0)) := by rw [hW9]; exact over7 HK14.out
          have HF := Lib.hid (HNO.out w4 W9 HEN.out HB4.out hW9)
          have p0 := cell_of_blk hk9 0
          have p1 := cell_of_blk hk9 1
          have p2 := cell_of_blk hk9 2
          have p3 := cell_of_blk hk9 3
          have p4 := cell_of_blk hk9 4
          have p5 := cell_of_blk hk9 5
          have p6 := cell_of_blk hk9 6
          unfold set7 at hW9
          rw [← hW9]
          exact bodyPost_ret (v := .tuple #[ndV nd0 raw0, .bool false]) (by simp [results, Tryd.results7, go_sem, ndV, rawCells, nd0, raw0, Nd.K, Nd.O, Nd.N, Nd.I, Nd.S, Nd.E, Nd.T, p0, p1, p2, p3, p4, p5, p6]) rfl HF.out
        · have HEY := Lib.hid (show refD s = some n by rw [HE2.out, hrb]; rfl)
          clear hrb
          go_wp2_with fail
          obtain ⟨W9, hW9⟩ : ∃ W9, W9 = set7 w4 g (.int .i64 n.K) (.bool n.O) (.slice r.An n.N.length r.cn) (.slice r.Ai n.I.length r.ci) (.int .i64 n.S) (.slice r.Ae n.E.length r.ce) (.string n.T) := ⟨_, rfl⟩
          have hk9 : W9.heap[g]? = some (.cells #[.int .i64 n.K, .bool n.O, .slice r.An n.N.length r.cn, .slice r.Ai n.I.length r.ci, .int .i64 n.S, .slice r.Ae n.E.length r.ce, .string n.T] 27 (0, 0)) := by rw [hW9]; exact over7 HK14.out
          have HF : Hid (RefDec s w (.returned (.tuple #[ndV n r, .bool true])) W9) := Lib.hid ⟨.inl ⟨n, r, HEY.out, rfl, HND4.out.keep fun b hb => by
            have h1 := HB1.out.size
            have h2 := lt_of_some HK1.out
            exact ⟨by rw [hW9]; exact set7_other (by omega) _ _ _ _ _ _ _, by have := hb.1; omega, by rw [hW9]; exact Nat.lt_of_lt_of_le hb.2 (set7_size ..)⟩⟩, by rw [hW9]; exact Below.set7 HB4.out (by have := HG.out; omega) _ _ _ _ _ _ _⟩
          have p0 := cell_of_blk hk9 0
          have p1 := cell_of_blk hk9 1
          have p2 := cell_of_blk hk9 2
          have p3 := cell_of_blk hk9 3
          have p4 := cell_of_blk hk9 4
          have p5 := cell_of_blk hk9 5
          have p6 := cell_of_blk hk9 6
          unfold set7 at hW9
          rw [← hW9]
          exact bodyPost_ret (v := .tuple #[ndV n r, .bool true]) (by simp [results, Tryd.results7, go_sem, ndV, rawCells, p0, p1, p2, p3, p4, p5, p6]) rfl HF.out
end Go.Proofs.YtapgagfeghfooaaDoor.ima
