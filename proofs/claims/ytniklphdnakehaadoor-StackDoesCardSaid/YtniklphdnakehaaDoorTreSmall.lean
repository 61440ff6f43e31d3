/- What the law's 'small' and 'Small' answer of any node: whether it is looked at, to the bit. Conditions: the node is one that was read. -/
import Derived.Test.YtniklphdnakehaaDoorTreMem
import Derived.StillTailTactics
import Derived.Deep.LoopGhost
namespace Go.Proofs.YtniklphdnakehaaDoor.tre
set_option maxRecDepth 100000
open Go.RowKit Go.Proofs.YtniklphdnakehaaDoor.words Go.Proofs.YtniklphdnakehaaDoor.ext Go.Proofs.YtniklphdnakehaaDoor.name

/-- A block of one int. -/
def Cnt (w : World) (g : Nat) (c : Int) : Prop := w.heap[g]? = some (.cells #[.int .i64 c] 3 (0, 0))
theorem Cnt.lt {w : World} {g : Nat} {c : Int} (h : Cnt w g c) : g < w.heap.size := lt_of_some h
theorem Cnt.cell {w : World} {g : Nat} {c : Int} (h : Cnt w g c) : w.cell? ⟨g, 0, none⟩ = some (.int .i64 c) := cell_of_blk h 0
theorem Cnt.free {w : World} {g : Nat} {c : Int} (h : Cnt w g c) : w.frozen? ⟨g, 0, none⟩ = false := free_of_blk h 0
theorem Cnt.set_ {w : World} {g : Nat} {c : Int} (h : Cnt w g c) (u : Int) : Cnt (w.setCell ⟨g, 0, none⟩ (.int .i64 u)) g u := blk_set h _
theorem Cnt.below {w w' : World} {g : Nat} {c : Int} (h : Cnt w g c) (hb : Below w.heap.size w w') : Cnt w' g c := (hb.block g h.lt).trans h
theorem Cnt.alloc {w : World} {g : Nat} {c : Int} (h : Cnt w g c) (o : Obj) : Cnt (w.alloc o) g c := (Below.heap_alloc _ _ _ h.lt).trans h
theorem below_grown {B g : Nat} {W0 w w' : World} (hb : Below B W0 w) (hB : B ≤ W0.heap.size) (hg : w.grownBy w' (some g)) (hBg : B ≤ g) : Below B W0 w' :=
  hb.trans ⟨hg.os, hg.tape, hg.output, hg.size, fun k hk => hg.block k (Nat.lt_of_lt_of_le (Nat.lt_of_lt_of_le hk hB) hb.size) (fun e => by injection e with e; omega)⟩
theorem grown_refl (w : World) (row : Option Nat) : w.grownBy w row := ⟨rfl, rfl, rfl, Nat.le_refl _, fun _ _ _ => rfl⟩
theorem grown_trans {a b c : World} {row : Option Nat} (h : a.grownBy b row) (k : b.grownBy c row) : a.grownBy c row :=
  ⟨k.os.trans h.os, k.tape.trans h.tape, k.output.trans h.output, Nat.le_trans h.size k.size, fun i hi hne => (k.block i (Nat.lt_of_lt_of_le hi h.size) hne).trans (h.block i hi hne)⟩
theorem grown_of_below {a w : World} (h : Below a.heap.size a w) (row : Option Nat) : a.grownBy w row := ⟨h.os, h.tape, h.output, h.size, fun i hi _ => h.block i hi⟩
theorem grown_set (w : World) (g : Nat) (u : Value) : w.grownBy (w.setCell ⟨g, 0, none⟩ u) (some g) :=
  ⟨rfl, rfl, rfl, by simp [World.setCell], fun i _ hne => Below.heap_setCell w ⟨g, 0, none⟩ u i (fun e => hne (by rw [e]))⟩
theorem wrap_bounds (n : Int) : -9223372036854775808 ≤ wrap64 n ∧ wrap64 n ≤ 9223372036854775807 := by unfold wrap64; omega
theorem spend_bounds (l : Int) (n : Nd) : -9223372036854775808 ≤ spend l n ∧ spend l n ≤ 9223372036854775807 := wrap_bounds _
theorem fold_at {L : List Ex} {k : Nat} {x : Ex} (h : L[k]? = some x) (f : Int → Ex → Int) (a : Int) : (L.take (k + 1)).foldl f a = f ((L.take k).foldl f a) x := by
  rw [take_at h, List.foldl_append]; rfl
theorem take_nd {L : List Nd} {k : Nat} {x : Nd} (h : L[k]? = some x) : L.drop k = x :: L.drop (k + 1) := drop_at h
mutual
theorem smallS_bounds : ∀ (n : Nd) (d l : Int), -9223372036854775808 ≤ (smallS n d l).2 ∧ (smallS n d l).2 ≤ 9223372036854775807
  | .mk K O N I S E T, d, l => by
    rw [smallS_eq]
    split
    · exact spend_bounds _ _
    · exact smallL_bounds I _ _ (spend_bounds _ _)
theorem smallL_bounds : ∀ (L : List Nd) (d l : Int), -9223372036854775808 ≤ l ∧ l ≤ 9223372036854775807 → -9223372036854775808 ≤ (smallL L d l).2 ∧ (smallL L d l).2 ≤ 9223372036854775807
  | [], d, l, h => by rw [smallL_nil]; exact h
  | x :: L, d, l, h => by
    rw [smallL_cons]
    split
    · exact smallL_bounds L _ _ (smallS_bounds x d l)
    · exact smallS_bounds x d l
end

theorem ret_fst {p : Bool × Int} {b : Bool} {c : Int} (h : p = (b, c)) : Ending.returned (.bool b) = .returned (.bool p.1) := by subst h; rfl
theorem cnt_snd {p : Bool × Int} {b : Bool} {c : Int} {w : World} {g : Nat} (h : p = (b, c)) (hc : Cnt w g c) : Cnt w g p.2 := by subst h; exact hc

set_option maxHeartbeats 6400000 in
theorem small_at (W0 : World) : ∀ (k : Nat) (n : Nd) (r : Raw) (d l : Int) (bl : Nat) (w : World), depth n < k → NdAt W0 W0.heap.size n r → Below W0.heap.size W0 w → W0.heap.size ≤ bl → Cnt w bl l →
    -1 ≤ d → d ≤ 1000 → -9223372036854775808 ≤ l → l ≤ 9223372036854775807 →
    Calls Tryd.prog 64 #[ndV n r, .int .i64 d, .pointer (some ⟨bl, 0, none⟩)] w fun e w' => e = .returned (.bool (smallS n d l).1) ∧ Cnt w' bl (smallS n d l).2 ∧ w.grownBy w' (some bl) := by
  intro k
  induction k with
  | zero => intro n r d l bl w hk; omega
  | succ k ih =>
    intro n r d l bl w hk hN hb hbl hc hd1 hd2 hl1 hl2
    have IH := Lib.hid ih
    have fit := hN.fit
    have f1 := fit.t
    have f2 := fit.ln
    have f3 := fit.le
    have f4 := fit.li
    have HN := Lib.hid hN
    have HB := Lib.hid hb
    obtain ⟨W1, hW1⟩ : ∃ W1, W1 = w.alloc (.cells (rawCells n r) 27) := ⟨_, rfl⟩
    have hx1 : Box W1 w.heap.size n r := by rw [hW1]; exact Box.new w n r
    have hc1 : Cnt W1 bl l := by rw [hW1]; exact hc.alloc _
    have hg1 : w.grownBy W1 (some bl) := by rw [hW1]; exact World.grownBy_alloc _ _ _
    have hne : w.heap.size ≠ bl := by have := hc.lt; omega
    unfold rawCells at hW1
    have HX1 := Lib.hid hx1
    have HG1 := Lib.hid hg1
    have HC1 := Lib.hid hc1
    have HW1 := Lib.hid hW1
    obtain ⟨l1, hl⟩ : ∃ l1, l1 = wrap64 (l - (1 + (n.N.length : Int) + (n.E.length : Int))) := ⟨_, rfl⟩
    have hl1b : -9223372036854775808 ≤ l1 ∧ l1 ≤ 9223372036854775807 := by rw [hl]; exact wrap_bounds _
    have hw1 : IntKind.i64.wrap (1 + (n.N.length : Int)) = 1 + (n.N.length : Int) := IntWalk.i64_in _ ⟨by omega, by omega⟩
    have hw2 : IntKind.i64.wrap (1 + (n.N.length : Int) + (n.E.length : Int)) = 1 + (n.N.length : Int) + (n.E.length : Int) := IntWalk.i64_in _ ⟨by omega, by omega⟩
    have hw3 : IntKind.i64.wrap (l - (1 + (n.N.length : Int) + (n.E.length : Int))) = l1 := by rw [IntWalk.i64_left, hl]
    have HL1 := Lib.hid hl
    have HS := Lib.hid (smallS_eq n d l)
    clear hN hb hW1 hx1 hc1 hg1 hc fit ih hl
    unfold ndV rawCells
    go_enter Tryd.func64, Tryd.ntmps64
    go_wp2_with fail
    rw [← HW1.out]
    obtain ⟨b0, b1, b2, b3, b4, b5, b6⟩ := HX1.out.cells
    have k0 := HC1.out.cell
    go_still_tail 13, (by kernel_rfl)
    change wpList _ _ _ _ _ (World.drew _)
    generalize hW2 : W1.drew = W2
    have HX2 : Hid (Box W2 w.heap.size n r) := by rw [← hW2]; exact Lib.hid HX1.out
    have HC2 : Hid (Cnt W2 bl l) := by rw [← hW2]; exact Lib.hid HC1.out
    have HG2 : Hid (w.grownBy W2 (some bl)) := by rw [← hW2]; exact Lib.hid (grown_trans HG1.out (grown_of_below (Below.refl _ _).drew _))
    have hfz := HC2.out.free
    have hcl := HC2.out.cell
    obtain ⟨W3, hW3⟩ : ∃ W3, W3 = W2.setCell ⟨bl, 0, none⟩ (.int .i64 l1) := ⟨_, rfl⟩
    have HX3 : Hid (Box W3 w.heap.size n r) := by rw [hW3]; exact Lib.hid (HX2.out.grown (grown_set _ _ _) (fun e => hne (by injection e)))
    have HC3 : Hid (Cnt W3 bl l1) := by rw [hW3]; exact Lib.hid (HC2.out.set_ _)
    have HG3 : Hid (w.grownBy W3 (some bl)) := by rw [hW3]; exact Lib.hid (grown_trans HG2.out (grown_set _ _ _))
    have HW3 := Lib.hid hW3
    clear hW2 hW3 b0 b1 b2 b3 b4 b5 b6 k0 HX1 HC1 HG1 HW1
    have hne' : bl ≠ w.heap.size := fun e => hne e.symm
    obtain ⟨b0, b1, b2, b3, b4, b5, b6⟩ := HX2.out.cells
    clear HX2
    go_wp2_with fail
    clear b0 b1 b2 b3 b4 b5 b6 hfz hcl hw1 hw2 hw3 hne' HC2 HG2
    go_loopw [27] (fun c wr => ∃ (i : Nat) (li : Int), i ≤ n.E.length ∧ c = .int .i64 i ∧ Hid (li = (n.E.take i).foldl (fun a x => wrap64 (a - (x.D.size : Int))) l1) ∧ -9223372036854775808 ≤ li ∧ li ≤ 9223372036854775807 ∧ Box wr w.heap.size n r ∧ Cnt wr bl li ∧ w.grownBy wr (some bl))
      (fun c _ => n.E.length - (intOf c).toNat)
    case atStart => exact ⟨0, l1, Nat.zero_le _, rfl, Lib.hid rfl, hl1b.1, hl1b.2, by rw [← HW3.out]; exact HX3.out, by rw [← HW3.out]; exact HC3.out, by rw [← HW3.out]; exact HG3.out⟩
    case round =>
      obtain ⟨i, li, hi, rfl, HLI, hb1, hb2, hbx, hcn, hgr⟩ := hrel
      have HX := Lib.hid hbx
      have HC := Lib.hid hcn
      have HG := Lib.hid hgr
      clear hbx hcn hgr HX3 HC3 HG3 HW3
      have HBw := Lib.hid (below_grown HB.out (Nat.le_refl _) HG.out hbl)
      by_cases hlt : i < n.E.length
      · obtain ⟨x, hx⟩ : ∃ x, n.E[i]? = some x := ⟨_, List.getElem?_eq_getElem hlt⟩
        obtain ⟨⟨b, off, hAe, hB, c0, c1⟩, o1, o2, o3⟩ := (HN.out.exts.keep HBw.out) i x hx
        have HN1 := Lib.hid (show wrap64 (li - (x.D.size : Int)) = (n.E.take (i + 1)).foldl (fun a x => wrap64 (a - (x.D.size : Int))) l1 by rw [fold_at hx, HLI.out])
        obtain ⟨l2, hl2e⟩ : ∃ l2, l2 = wrap64 (li - (x.D.size : Int)) := ⟨_, rfl⟩
        have hw4 : IntKind.i64.wrap (li - (x.D.size : Int)) = l2 := by rw [IntWalk.i64_left, hl2e]
        have hl2b : -9223372036854775808 ≤ l2 ∧ l2 ≤ 9223372036854775807 := by rw [hl2e]; exact wrap_bounds _
        rw [← hl2e] at HN1
        obtain ⟨W4, hW4⟩ : ∃ W4, W4 = wr.alloc (.cells #[.int .i64 x.O, .string x.D] 101) := ⟨_, rfl⟩
        have hX4 : Box W4 w.heap.size n r := by rw [hW4]; exact HX.out.alloc _
        have hC4 : Cnt W4 bl li := by rw [hW4]; exact HC.out.alloc _
        have hG4 : w.grownBy W4 (some bl) := by rw [hW4]; exact grown_trans HG.out (World.grownBy_alloc _ _ _)
        have e1 : W4.cell? ⟨wr.heap.size, 1, none⟩ = some (.string x.D) := by rw [hW4]; simp
        have HX4 := Lib.hid hX4
        have HC4 := Lib.hid hC4
        have HG4 := Lib.hid hG4
        have HE1 := Lib.hid e1
        have HW4 := Lib.hid hW4
        have HLX := Lib.hid hx
        have HAe := Lib.hid hAe
        clear hX4 hC4 hG4 e1 hW4 hx hl2e
        rw [hAe]
        clear hAe
        go_wp2_with fail
        rw [← HW4.out]
        have e1 := HE1.out
        have k0 := HC4.out.cell
        go_still_tail 8, (by kernel_rfl)
        change wpList _ _ _ _ _ (World.drew _)
        generalize hW5 : W4.drew = W5
        have HX5 : Hid (Box W5 w.heap.size n r) := by rw [← hW5]; exact Lib.hid HX4.out
        have HC5 : Hid (Cnt W5 bl li) := by rw [← hW5]; exact Lib.hid HC4.out
        have HG5 : Hid (w.grownBy W5 (some bl)) := by rw [← hW5]; exact Lib.hid (grown_trans HG4.out (grown_of_below (Below.refl _ _).drew _))
        have hfz := HC5.out.free
        have hcl := HC5.out.cell
        have HX6 := Lib.hid (HX5.out.grown (grown_set W5 bl (.int .i64 l2)) (fun e => hne (by injection e)))
        have HC6 := Lib.hid (HC5.out.set_ l2)
        have HG6 := Lib.hid (grown_trans HG5.out (grown_set W5 bl (.int .i64 l2)))
        clear hW5 e1 k0 HX4 HC4 HG4 HE1 HW4 HX5 HC5 HG5 HX HC HG HBw c0 c1
        go_wp2_with fail
        go_roundw
        case rel => exact ⟨i + 1, l2, by omega, by go_num, HN1, hl2b.1, hl2b.2, HX6.out, HC6.out, HG6.out⟩
        case measure => simp [intOf]; omega
      · obtain ⟨l3, hl3⟩ : ∃ l3, l3 = wrap64 (li - (n.T.size : Int)) := ⟨_, rfl⟩
        have hsp : l3 = spend l n := by
          unfold spend
          rw [hl3, HLI.out, HL1.out, List.take_of_length_le (by omega)]
        have HSP := Lib.hid hsp
        have hl3b : -9223372036854775808 ≤ l3 ∧ l3 ≤ 9223372036854775807 := by rw [hl3]; exact wrap_bounds _
        have hw5 : IntKind.i64.wrap (li - (n.T.size : Int)) = l3 := by rw [IntWalk.i64_left, hl3]
        clear hsp hl3
        go_wp2_with fail
        have k0 := HC.out.cell
        obtain ⟨b0, b1, b2, b3, b4, b5, b6⟩ := HX.out.cells
        go_still_tail 8, (by kernel_rfl)
        change wpList _ _ _ _ _ (World.drew _)
        generalize hW5 : wr.drew = W5
        have HX5 : Hid (Box W5 w.heap.size n r) := by rw [← hW5]; exact Lib.hid HX.out
        have HC5 : Hid (Cnt W5 bl li) := by rw [← hW5]; exact Lib.hid HC.out
        have HG5 : Hid (w.grownBy W5 (some bl)) := by rw [← hW5]; exact Lib.hid (grown_trans HG.out (grown_of_below (Below.refl _ _).drew _))
        have hfz := HC5.out.free
        have hcl := HC5.out.cell
        have HX6 := Lib.hid (HX5.out.grown (grown_set W5 bl (.int .i64 l3)) (fun e => hne (by injection e)))
        have HC6 := Lib.hid (HC5.out.set_ l3)
        have HG6 := Lib.hid (grown_trans HG5.out (grown_set W5 bl (.int .i64 l3)))
        clear hW5 k0 b0 b1 b2 b3 b4 b5 b6 HX HC HG HBw
        have hne' : bl ≠ w.heap.size := fun e => hne e.symm
        obtain ⟨b0, b1, b2, b3, b4, b5, b6⟩ := HX5.out.cells
        clear HX5 HC5 HG5
        by_cases t1 : l3 < 0
        · have g1 : decide (l3 < 0) = true := by simpa using t1
          have HF := Lib.hid (show smallS n d l = (false, l3) by rw [HS.out, ← HSP.out, if_pos (.inl t1)])
          go_wp2_with fail
          go_ret
          exact ⟨ret_fst HF.out, cnt_snd HF.out HC6.out, HG6.out⟩
        · have g1 : decide (l3 < 0) = false := by simp; omega
          by_cases t2 : d < 0
          · have g2 : decide (d < 0) = true := by simpa using t2
            have HF := Lib.hid (show smallS n d l = (false, l3) by rw [HS.out, ← HSP.out, if_pos (.inr t2)])
            clear t1
            go_wp2_with fail
            go_ret
            exact ⟨ret_fst HF.out, cnt_snd HF.out HC6.out, HG6.out⟩
          · have g2 : decide (d < 0) = false := by simp; omega
            have HF := Lib.hid (show smallS n d l = smallL n.I (d - 1) l3 by rw [HS.out, ← HSP.out, if_neg (fun h => h.elim t1 t2)])
            clear t1
            go_wp2_with fail
            clear b0 b1 b2 b3 b4 b5 b6 hfz hcl hw5 hne' g1 g2
            go_loopw [59] (fun c wq => ∃ (j : Nat) (lj : Int), j ≤ n.I.length ∧ c = .int .i64 j ∧ Hid (smallL n.I (d - 1) l3 = smallL (n.I.drop j) (d - 1) lj) ∧ -9223372036854775808 ≤ lj ∧ lj ≤ 9223372036854775807 ∧ Box wq w.heap.size n r ∧ Cnt wq bl lj ∧ w.grownBy wq (some bl))
              (fun c _ => n.I.length - (intOf c).toNat)
            case atStart => exact ⟨0, l3, Nat.zero_le _, rfl, Lib.hid rfl, hl3b.1, hl3b.2, HX6.out, HC6.out, HG6.out⟩
            case round =>
              obtain ⟨j, lj, hj, rfl, HLJ, hq1, hq2, hbx, hcn, hgr⟩ := hrel
              rename World => wq
              have HX := Lib.hid hbx
              have HC := Lib.hid hcn
              have HG := Lib.hid hgr
              clear hbx hcn hgr HX6 HC6 HG6
              have HBw := Lib.hid (below_grown HB.out (Nat.le_refl _) HG.out hbl)
              by_cases hlt2 : j < n.I.length
              · obtain ⟨x, hx⟩ : ∃ x, n.I[j]? = some x := ⟨_, List.getElem?_eq_getElem hlt2⟩
                obtain ⟨r', hr', b, off, hAi, hB, c0, c1, c2, c3, c4, c5, c6⟩ := HN.out.entry hx HBw.out
                have hdx : depth x < k := by have := depth_at hx; have := depth_eq n; omega
                obtain ⟨p1, hp1⟩ : ∃ p1, p1 = (smallS x (d - 1) lj).1 := ⟨_, rfl⟩
                obtain ⟨p2, hp2⟩ : ∃ p2, p2 = (smallS x (d - 1) lj).2 := ⟨_, rfl⟩
                have hp2b : -9223372036854775808 ≤ p2 ∧ p2 ≤ 9223372036854775807 := by rw [hp2]; exact smallS_bounds _ _ _
                have HLX := Lib.hid (show smallL (n.I.drop j) (d - 1) lj = if p1 = true then smallL (n.I.drop (j + 1)) (d - 1) p2 else (false, p2) by rw [drop_at hx, smallL_cons, ← hp1, ← hp2])
                have HW := Lib.hid (show wq.grownBy (wq.alloc (.cells (rawCells x r') 27)) (some bl) from World.grownBy_alloc _ _ _)
                have HI := Lib.hid (IH.out x r' (d - 1) lj bl (wq.alloc (.cells (rawCells x r') 27)) hdx hr' (HBw.out.alloc HBw.out.size _) hbl (HC.out.alloc _) (by omega) (by omega) hq1 hq2)
                rw [← hp1, ← hp2] at HI
                have HXa := Lib.hid (HX.out.alloc (.cells (rawCells x r') 27))
                unfold ndV rawCells at HI
                unfold rawCells at HW
                rw [hAi]
                clear hx hr' hp1 hp2 hAi
                go_wp2_with fail
                refine HI.out.mono ?_
                rintro e w5 ⟨rfl, hc5, hg5⟩
                have HC5 := Lib.hid hc5
                have HX5 := Lib.hid (HXa.out.grown hg5 (fun e => hne (by injection e)))
                have HG5 := Lib.hid (grown_trans HG.out (grown_trans HW.out hg5))
                clear hc5 hg5 HI HXa HW
                cases p1
                · have HF2 := Lib.hid (show smallS n d l = (false, p2) by rw [HF.out, HLJ.out, HLX.out]; rfl)
                  go_wp2_with fail
                  go_ret
                  exact ⟨ret_fst HF2.out, cnt_snd HF2.out HC5.out, HG5.out⟩
                · have HN2 := Lib.hid (show smallL n.I (d - 1) l3 = smallL (n.I.drop (j + 1)) (d - 1) p2 by rw [HLJ.out, HLX.out]; rfl)
                  go_wp2_with fail
                  go_roundw
                  case rel => exact ⟨j + 1, p2, by omega, by go_num, HN2, hp2b.1, hp2b.2, HX5.out, HC5.out, HG5.out⟩
                  case measure => simp [intOf]; omega
              · have HF2 := Lib.hid (show smallS n d l = (true, lj) by rw [HF.out, HLJ.out, List.drop_of_length_le (by omega), smallL_nil])
                go_wp2_with fail
                go_ret
                exact ⟨ret_fst HF2.out, cnt_snd HF2.out HC.out, HG.out⟩
end Go.Proofs.YtniklphdnakehaaDoor.tre
