/- What tree.each answers of any node, whatever function value it is handed that answers by a state. Conditions: the node is one that was read. -/
import Derived.Test.YtniklphdnakehaaDoorTreSmall
namespace Go.Proofs.YtniklphdnakehaaDoor.tre
set_option maxRecDepth 100000
open Go.RowKit Go.Proofs.YtniklphdnakehaaDoor.words Go.Proofs.YtniklphdnakehaaDoor.ext Go.Proofs.YtniklphdnakehaaDoor.name

/-- A function value that answers by a state: st says what, R where the state lies, row which block alone it may turn. -/
structure Asker (W0 : World) (g : Nat) (lb : Array Value) (row : Option Nat) (R : Int → World → Prop) (st : Nd → Int → Int → Bool × Int) : Prop where
  enters : ∀ (args : Array Value) (w : World), (callFunc g args).run Tryd.prog w = .ok (.enter g args) w
  call : ∀ (n : Nd) (r : Raw) (d c : Int) (w : World), NdAt W0 W0.heap.size n r → Below W0.heap.size W0 w → R c w → 0 ≤ d → d ≤ 1000000 →
    Calls Tryd.prog g (#[ndV n r, .int .i64 d] ++ lb) w fun e w' => e = .returned (.bool (st n d c).1) ∧ R (st n d c).2 w' ∧ w.grownBy w' row
  keep : ∀ c w w', R c w → w.grownBy w' none → R c w'
  far : ∀ c w b, R c w → row = some b → W0.heap.size ≤ b ∧ b < w.heap.size
theorem below_row {B : Nat} {W0 w w' : World} {row : Option Nat} (hb : Below B W0 w) (hB : B ≤ W0.heap.size) (hg : w.grownBy w' row) (hBg : ∀ b, row = some b → B ≤ b) : Below B W0 w' :=
  hb.trans ⟨hg.os, hg.tape, hg.output, hg.size, fun k hk => hg.block k (Nat.lt_of_lt_of_le (Nat.lt_of_lt_of_le hk hB) hb.size) (fun e => by have := hBg k e.symm; omega)⟩
theorem grown_alloc (w : World) (o : Obj) (row : Option Nat) : w.grownBy (w.alloc o) row := World.grownBy_alloc _ _ _

set_option maxHeartbeats 6400000 in
theorem each_at {W0 : World} {g : Nat} {lb : Array Value} {row : Option Nat} {R : Int → World → Prop} {st : Nd → Int → Int → Bool × Int} (A : Asker W0 g lb row R st) :
    ∀ (k : Nat) (n : Nd) (r : Raw) (d c : Int) (w : World), depth n < k → NdAt W0 W0.heap.size n r → Below W0.heap.size W0 w → R c w → 0 ≤ d → d + k ≤ 1000000 →
    Calls Tryd.prog 87 #[ndV n r, .int .i64 d, .func (.func g) #[] lb] w fun e w' => e = .returned (.bool (eachS st n d c).1) ∧ R (eachS st n d c).2 w' ∧ w.grownBy w' row := by
  intro k
  induction k with
  | zero => intro n r d c w hk; omega
  | succ k ih =>
    intro n r d c w hk hN hb hR hd1 hd2
    have IH := Lib.hid ih
    have f4 := hN.fit.li
    have HN := Lib.hid hN
    have HB := Lib.hid hb
    have HA := Lib.hid A
    have hent := A.enters
    obtain ⟨W1, hW1⟩ : ∃ W1, W1 = w.alloc (.cells (rawCells n r) 27) := ⟨_, rfl⟩
    have HX1 : Hid (Box W1 w.heap.size n r) := by rw [hW1]; exact Lib.hid (Box.new w n r)
    have HG1 : Hid (w.grownBy W1 row) := by rw [hW1]; exact Lib.hid (grown_alloc w _ _)
    have HB1 : Hid (Below W0.heap.size W0 W1) := by rw [hW1]; exact Lib.hid (hb.alloc hb.size _)
    have HR1 : Hid (R c W1) := by rw [hW1]; exact Lib.hid (A.keep c w _ hR (grown_alloc w _ _))
    unfold rawCells at hW1
    have HW1 := Lib.hid hW1
    have HFar : Hid (∀ b, row = some b → W0.heap.size ≤ b ∧ b < w.heap.size) := Lib.hid fun b hb' => A.far c w b hR hb'
    obtain ⟨p1, hp1⟩ : ∃ p1, p1 = (st n d c).1 := ⟨_, rfl⟩
    obtain ⟨p2, hp2⟩ : ∃ p2, p2 = (st n d c).2 := ⟨_, rfl⟩
    have HS := Lib.hid (show eachS st n d c = if p1 = true then eachL st n.I (d + 1) p2 else (false, p2) by rw [eachS_eq, ← hp1, ← hp2])
    have HC := Lib.hid (A.call n r d c W1 hN HB1.out HR1.out hd1 (by omega))
    rw [← hp1, ← hp2] at HC
    unfold ndV rawCells at HC
    clear hN hb hR hW1 ih A hp1 hp2
    unfold ndV rawCells
    go_enter Tryd.func87, Tryd.ntmps87
    go_wp2_with fail
    rw [← HW1.out]
    obtain ⟨b0, b1, b2, b3, b4, b5, b6⟩ := HX1.out.cells
    go_wp2_with fail
    refine HC.out.mono ?_
    rintro e w2 ⟨rfl, hr2, hg2⟩
    have hne : some w.heap.size ≠ row := fun e => by have := (HFar.out _ e.symm).2; omega
    have HX2 := Lib.hid (HX1.out.grown hg2 hne)
    have HG2 := Lib.hid (grown_trans HG1.out hg2)
    have HB2 := Lib.hid (below_row HB1.out (Nat.le_refl _) hg2 (fun b hb' => (HFar.out b hb').1))
    have HR2 := Lib.hid hr2
    clear hr2 hg2 HC HX1 HG1 HB1 HR1 b0 b1 b2 b3 b4 b5 b6 HW1
    cases p1
    · have HF := Lib.hid (show eachS st n d c = (false, p2) by rw [HS.out]; rfl)
      go_wp2_with fail
      go_ret
      exact ⟨ret_fst HF.out, by rw [HF.out]; exact HR2.out, HG2.out⟩
    · have HF := Lib.hid (show eachS st n d c = eachL st n.I (d + 1) p2 by rw [HS.out]; rfl)
      obtain ⟨b0, b1, b2, b3, b4, b5, b6⟩ := HX2.out.cells
      go_wp2_with fail
      clear b0 b1 b2 b3 b4 b5 b6
      go_loopw [17] (fun v wr => ∃ (j : Nat) (cj : Int), j ≤ n.I.length ∧ v = .int .i64 j ∧ Hid (eachL st n.I (d + 1) p2 = eachL st (n.I.drop j) (d + 1) cj) ∧ R cj wr ∧ Below W0.heap.size W0 wr ∧ w.grownBy wr row)
        (fun v _ => n.I.length - (intOf v).toNat)
      case atStart => exact ⟨0, p2, Nat.zero_le _, rfl, Lib.hid rfl, HR2.out, HB2.out, HG2.out⟩
      case round =>
        obtain ⟨j, cj, hj, rfl, HLJ, hR, hbw, hgr⟩ := hrel
        have HR := Lib.hid hR
        have HBw := Lib.hid hbw
        have HG := Lib.hid hgr
        clear hR hbw hgr HR2 HB2 HG2 HX2
        by_cases hlt2 : j < n.I.length
        · obtain ⟨x, hx⟩ : ∃ x, n.I[j]? = some x := ⟨_, List.getElem?_eq_getElem hlt2⟩
          obtain ⟨r', hr', b, off, hAi, hB, c0, c1, c2, c3, c4, c5, c6⟩ := HN.out.entry hx HBw.out
          have hdx : depth x < k := by have := depth_at hx; have := depth_eq n; omega
          obtain ⟨q1, hq1⟩ : ∃ q1, q1 = (eachS st x (d + 1) cj).1 := ⟨_, rfl⟩
          obtain ⟨q2, hq2⟩ : ∃ q2, q2 = (eachS st x (d + 1) cj).2 := ⟨_, rfl⟩
          have HLX := Lib.hid (show eachL st (n.I.drop j) (d + 1) cj = if q1 = true then eachL st (n.I.drop (j + 1)) (d + 1) q2 else (false, q2) by rw [drop_at hx, eachL_cons, ← hq1, ← hq2])
          have HW := Lib.hid (grown_alloc wr (.cells (rawCells x r') 27) row)
          have HI := Lib.hid (IH.out x r' (d + 1) cj (wr.alloc (.cells (rawCells x r') 27)) hdx hr' (HBw.out.alloc HBw.out.size _) (HA.out.keep _ _ _ HR.out (grown_alloc _ _ _)) (by omega) (by omega))
          rw [← hq1, ← hq2] at HI
          unfold ndV rawCells at HI
          unfold rawCells at HW
          rw [hAi]
          clear hx hr' hq1 hq2 hAi hent
          go_wp2_with fail
          refine HI.out.mono ?_
          rintro e w5 ⟨rfl, hr5, hg5⟩
          have HR5 := Lib.hid hr5
          have HG5 := Lib.hid (grown_trans HG.out (grown_trans HW.out hg5))
          have HB5 := Lib.hid (below_row HBw.out (Nat.le_refl _) (grown_trans HW.out hg5) (fun b hb' => (HFar.out b hb').1))
          clear hr5 hg5 HI HW
          cases q1
          · have HF2 := Lib.hid (show eachS st n d c = (false, q2) by rw [HF.out, HLJ.out, HLX.out]; rfl)
            go_wp2_with fail
            go_ret
            exact ⟨ret_fst HF2.out, by rw [HF2.out]; exact HR5.out, HG5.out⟩
          · have HN2 := Lib.hid (show eachL st n.I (d + 1) p2 = eachL st (n.I.drop (j + 1)) (d + 1) q2 by rw [HLJ.out, HLX.out]; rfl)
            go_wp2_with fail
            go_roundw
            case rel => exact ⟨j + 1, q2, by omega, by go_num, HN2, HR5.out, HB5.out, HG5.out⟩
            case measure => simp [intOf]; omega
        · have HF2 := Lib.hid (show eachS st n d c = (true, cj) by rw [HF.out, HLJ.out, List.drop_of_length_le (by omega), eachL_nil])
          clear hent
          go_wp2_with fail
          go_ret
          exact ⟨ret_fst HF2.out, by rw [HF2.out]; exact HR.out, HG.out⟩
end Go.Proofs.YtniklphdnakehaaDoor.tre
