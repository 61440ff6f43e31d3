/- What tree.Same answers of any two nodes. Conditions: the nodes are such as were read, and no deeper than a thousand. -/
import Derived.Test.YtecgepjdlpjiiaaDoorTreList
namespace Go.Proofs.YtecgepjdlpjiiaaDoor.tre
open Go.RowKit Go.Proofs.YtecgepjdlpjiiaaDoor.words Go.Proofs.YtecgepjdlpjiiaaDoor.ext Go.Proofs.YtecgepjdlpjiiaaDoor.name

def outB (a b : Nd) : Bool := a.K == b.K && a.O == b.O && a.S == b.S && decide (a.T = b.T) && decide (a.N = b.N) && sameE a.E b.E
theorem sameB_eq (a b : Nd) : sameB a b = (outB a b && sameL a.I b.I) := by
  cases a; cases b
  rw [sameB]
  rfl
theorem sameL_nil : sameL [] [] = true := by rw [sameL]
theorem sameL_cons (x y : Nd) (L M : List Nd) : sameL (x :: L) (y :: M) = (sameB x y && sameL L M) := by rw [sameL]
theorem sameL_len : ∀ {L M : List Nd}, sameL L M = true → L.length = M.length
  | [], [], _ => rfl
  | [], _ :: _, h => by simp [sameL] at h
  | _ :: _, [], h => by simp [sameL] at h
  | x :: L, y :: M, h => by
    rw [sameL_cons, Bool.and_eq_true] at h
    rw [List.length_cons, List.length_cons, sameL_len h.2]
mutual
theorem sameB_self : ∀ a : Nd, sameB a a = true
  | .mk K O N I S E T => by
    rw [sameB_eq]
    unfold outB
    rw [show sameL (Nd.I (.mk K O N I S E T)) (Nd.I (.mk K O N I S E T)) = true from sameL_self I, sameE_iff.2 rfl]
    simp
theorem sameL_self : ∀ L : List Nd, sameL L L = true
  | [] => sameL_nil
  | x :: L => by rw [sameL_cons, sameB_self x, sameL_self L]; rfl
end
/-- Two boxes, one behind the other. -/
structure Two (w W1 : World) (n : Nd) (r : Raw) (m : Nd) (q : Raw) : Prop where
  x : Box W1 w.heap.size n r
  y : Box W1 (w.heap.size + 1) m q
  b : Below w.heap.size w W1
theorem Two.new (w : World) (n : Nd) (r : Raw) (m : Nd) (q : Raw) : Two w ((w.alloc (.cells (rawCells n r) 26)).alloc (.cells (rawCells m q) 26)) n r m q :=
  ⟨(Box.new w n r).alloc _, heap_two _ _ _, ((Below.refl _ _).alloc (Nat.le_refl _) _).alloc (by simp) _⟩
theorem Two.later {w W1 w2 : World} {n m : Nd} {r q : Raw} (h : Two w W1 n r m q) (hb : Below W1.heap.size W1 w2) : Two w w2 n r m q :=
  ⟨h.x.below hb, h.y.below hb, h.b.trans (hb.mono h.b.size)⟩

theorem equal_txt_is (b : Bool) (A A' : Option Addr) (c c' : Nat) (N M : List ByteArray) (w : World) (h1 : Txts w w.heap.size A N) (h2 : Txts w w.heap.size A' M) (hl : N.length ≤ 140737488355328) (hb : decide (N = M) = b) :
    Calls Tryd.prog 65 #[.slice A N.length c, .slice A' M.length c'] w fun e w' => e = .returned (.bool b) ∧ Below w.heap.size w w' :=
  (equal_txt A A' c c' N M w h1 h2 hl).mono fun _ _ ⟨he, hw⟩ => ⟨by rw [he, hb], hw⟩
theorem equal_ext_is (b : Bool) (A A' : Option Addr) (c c' : Nat) (N M : List Ex) (w : World) (h1 : Exts w w.heap.size A N) (h2 : Exts w w.heap.size A' M) (hl : N.length ≤ 140737488355328) (hb : sameE N M = b) :
    Calls Tryd.prog 66 #[.slice A N.length c, .slice A' M.length c'] w fun e w' => e = .returned (.bool b) ∧ Below w.heap.size w w' :=
  (equal_ext A A' c c' N M w h1 h2 hl).mono fun _ _ ⟨he, hw⟩ => ⟨by rw [he, hb], hw⟩

set_option maxHeartbeats 3200000 in
theorem outside_any (n m : Nd) (r q : Raw) (w : World) (hN : NdAt w w.heap.size n r) (hM : NdAt w w.heap.size m q) :
    Calls Tryd.prog 50 #[ndV n r, ndV m q] w fun e w' => e = .returned (.bool (outB n m)) ∧ Below w.heap.size w w' := by
  have f1 := hN.fit.ln
  have f2 := hN.fit.le
  obtain ⟨W1, hW1⟩ : ∃ W1, W1 = (w.alloc (.cells (rawCells n r) 26)).alloc (.cells (rawCells m q) 26) := ⟨_, rfl⟩
  have HT : Hid (Two w W1 n r m q) := by rw [hW1]; exact Lib.hid (Two.new w n r m q)
  have HN := Lib.hid (hN.later HT.out.b)
  have HM := Lib.hid (hM.later HT.out.b)
  unfold rawCells at hW1
  have HW1 := Lib.hid hW1
  clear hN hM hW1
  unfold ndV rawCells
  go_enter Tryd.func50, Tryd.ntmps50
  go_upto_region 1 with fail
  rw [← HW1.out]
  obtain ⟨b0, b1, b2, b3, b4, b5, b6⟩ := HT.out.x.cells
  obtain ⟨e0, e1, e2, e3, e4, e5, e6⟩ := HT.out.y.cells
  by_cases h1 : n.K = m.K
  · have g1 : (n.K == m.K) = true := by rw [h1]; simp
    by_cases h2 : n.O = m.O
    · have g2 : (n.O == m.O) = true := by rw [h2]; simp
      by_cases h3 : n.S = m.S
      · have g3 : (n.S == m.S) = true := by rw [h3]; simp
        by_cases h4 : n.T = m.T
        · have g4 : (n.T.toList == m.T.toList) = true := by rw [h4]; simp
          obtain ⟨q1, hq1⟩ : ∃ q1, q1 = decide (n.N = m.N) := ⟨_, rfl⟩
          obtain ⟨q2, hq2⟩ : ∃ q2, q2 = sameE n.E m.E := ⟨_, rfl⟩
          have HF := Lib.hid (show outB n m = (q1 && q2) by unfold outB; rw [g1, g2, g3, decide_eq_true h4, hq1, hq2]; rfl)
          have HQ1 := Lib.hid hq1
          have HQ2 := Lib.hid hq2
          clear h1 h2 h3 h4 hq1 hq2
          go_wp2_with fail
          refine (equal_txt_is q1 r.An q.An r.cn q.cn n.N m.N _ HN.out.names HM.out.names (by omega) HQ1.out.symm).mono ?_
          rintro e w2 ⟨rfl, hb2⟩
          have HT2 := Lib.hid (HT.out.later hb2)
          have HN2 := Lib.hid (HN.out.later hb2)
          have HM2 := Lib.hid (HM.out.later hb2)
          clear hb2 b0 b1 b2 b3 b4 b5 b6 e0 e1 e2 e3 e4 e5 e6
          cases q1
          · go_wp2_with fail
            go_ret
            exact ⟨ret_bool (by rw [HF.out]; rfl), HT2.out.b⟩
          · obtain ⟨b0, b1, b2, b3, b4, b5, b6⟩ := HT2.out.x.cells
            obtain ⟨e0, e1, e2, e3, e4, e5, e6⟩ := HT2.out.y.cells
            go_wp2_with fail
            refine (equal_ext_is q2 r.Ae q.Ae r.ce q.ce n.E m.E _ HN2.out.exts HM2.out.exts (by omega) HQ2.out.symm).mono ?_
            rintro e w3 ⟨rfl, hb3⟩
            have HT3 := Lib.hid (HT2.out.later hb3)
            clear hb3 b0 b1 b2 b3 b4 b5 b6 e0 e1 e2 e3 e4 e5 e6
            go_wp2_with fail
            go_ret
            exact ⟨ret_bool (by rw [HF.out, Bool.true_and]), HT3.out.b⟩
        · have g4 : (n.T.toList == m.T.toList) = false := by simpa using text_ne h4
          have HF := Lib.hid (show false = outB n m by unfold outB; rw [decide_eq_false h4, Bool.and_false, Bool.false_and, Bool.false_and])
          clear h1 h2 h3 h4
          go_wp2_with fail
          go_ret
          exact ⟨ret_bool HF.out, HT.out.b⟩
      · have g3 : (n.S == m.S) = false := by rw [beq_eq_false_iff_ne]; exact h3
        have HF := Lib.hid (show false = outB n m by unfold outB; rw [g3, Bool.and_false, Bool.false_and, Bool.false_and, Bool.false_and])
        clear h1 h2 h3
        go_wp2_with fail
        go_ret
        exact ⟨ret_bool HF.out, HT.out.b⟩
    · have g2 : (n.O == m.O) = false := by rw [beq_eq_false_iff_ne]; exact h2
      have HF := Lib.hid (show false = outB n m by unfold outB; rw [g2, Bool.and_false, Bool.false_and, Bool.false_and, Bool.false_and, Bool.false_and])
      have HO := Lib.hid h2
      clear h1 h2
      go_wp2_with fail
      go_ret
      exact ⟨ret_bool HF.out, HT.out.b⟩
  · have g1 : (n.K == m.K) = false := by rw [beq_eq_false_iff_ne]; exact h1
    have HF := Lib.hid (show false = outB n m by unfold outB; rw [g1]; simp)
    clear h1
    go_wp2_with fail
    go_ret
    exact ⟨ret_bool HF.out, HT.out.b⟩
theorem outside_is (b : Bool) (n m : Nd) (r q : Raw) (w : World) (hN : NdAt w w.heap.size n r) (hM : NdAt w w.heap.size m q) (hb : outB n m = b) :
    Calls Tryd.prog 50 #[ndV n r, ndV m q] w fun e w' => e = .returned (.bool b) ∧ Below w.heap.size w w' :=
  (outside_any n m r q w hN hM).mono fun _ _ ⟨he, hw⟩ => ⟨by rw [he, hb], hw⟩

/-- A function value that holds two nodes against one another. -/
structure Holder (W0 : World) (k g : Nat) (lb : Array Value) (R : World → Prop) : Prop where
  enters : ∀ (args : Array Value) (w : World), (callFunc g args).run Tryd.prog w = .ok (.enter g args) w
  call : ∀ (x y : Nd) (r q : Raw) (w : World), depth x < k → NdAt W0 W0.heap.size x r → NdAt W0 W0.heap.size y q → Below W0.heap.size W0 w → R w →
    Calls Tryd.prog g (#[ndV x r, ndV y q] ++ lb) w fun e w' => e = .returned (.bool (sameB x y)) ∧ Below w.heap.size w w'
  keep : ∀ w w', R w → Below w.heap.size w w' → R w'

set_option maxHeartbeats 6400000 in
theorem equalfunc_any {W0 : World} {k g : Nat} {lb : Array Value} {R : World → Prop} (A : Holder W0 k g lb R) (a b : Nd) (ra rb : Raw) (w : World) (ha : NdAt W0 W0.heap.size a ra) (hb : NdAt W0 W0.heap.size b rb) (hd : depthL a.I ≤ k) (hbw : Below W0.heap.size W0 w) (hR : R w) :
    Calls Tryd.prog 51 #[.slice ra.Ai a.I.length ra.ci, .slice rb.Ai b.I.length rb.ci, .func (.func g) #[] lb] w fun e w' => e = .returned (.bool (sameL a.I b.I)) ∧ Below w.heap.size w w' := by
  have f1 := ha.fit.li
  have f2 := hb.fit.li
  have HA := Lib.hid A
  have HNa := Lib.hid ha
  have HNb := Lib.hid hb
  have HB := Lib.hid hbw
  have HR := Lib.hid hR
  have hent := A.enters
  clear ha hb hbw hR A
  by_cases hlen : a.I.length = b.I.length
  · have g0 : ((a.I.length : Int) != (b.I.length : Int)) = false := by rw [hlen]; simp
    have HLn := Lib.hid hlen
    clear hlen
    go_enter Tryd.func51, Tryd.ntmps51
    go_wp2_with fail
    clear g0
    go_loopw [17] (fun v wr => ∃ j : Nat, j ≤ a.I.length ∧ v = .int .i64 j ∧ Hid (sameL a.I b.I = sameL (a.I.drop j) (b.I.drop j)) ∧ Below w.heap.size w wr) (fun v _ => a.I.length - (intOf v).toNat)
    case atStart => exact ⟨0, Nat.zero_le _, rfl, Lib.hid rfl, Below.refl _ _⟩
    case round =>
      obtain ⟨j, hj, rfl, HL, hbr⟩ := hrel
      have HBr := Lib.hid hbr
      have HBw := Lib.hid (HB.out.trans (hbr.mono HB.out.size))
      clear hbr
      by_cases hlt : j < a.I.length
      · obtain ⟨x, hx⟩ : ∃ x, a.I[j]? = some x := ⟨_, List.getElem?_eq_getElem hlt⟩
        obtain ⟨y, hy⟩ : ∃ y, b.I[j]? = some y := ⟨_, List.getElem?_eq_getElem (by rw [← HLn.out]; exact hlt)⟩
        obtain ⟨rx, hrx, b1, o1, hA1, hB1, c0, c1, c2, c3, c4, c5, c6⟩ := HNa.out.entry hx HBw.out
        obtain ⟨ry, hry, b2, o2, hA2, hB2, d0, d1, d2, d3, d4, d5, d6⟩ := HNb.out.entry hy HBw.out
        have hdx : depth x < k := by have := depth_at hx; omega
        have hsz := HBw.out.size
        obtain ⟨W2, hW2⟩ : ∃ W2, W2 = (wr.alloc (.cells (rawCells x rx) 26)).alloc (.cells (rawCells y ry) 26) := ⟨_, rfl⟩
        have hT : Two wr W2 x rx y ry := by rw [hW2]; exact Two.new _ _ _ _ _
        obtain ⟨q1, hq1⟩ : ∃ q1, q1 = sameB x y := ⟨_, rfl⟩
        have HLX := Lib.hid (show sameL (a.I.drop j) (b.I.drop j) = (q1 && sameL (a.I.drop (j + 1)) (b.I.drop (j + 1))) by rw [drop_at hx, drop_at hy, sameL_cons, ← hq1])
        have HI := Lib.hid (HA.out.call x y rx ry W2 hdx hrx hry (HBw.out.trans (hT.b.mono HBw.out.size)) (HA.out.keep _ _ (HA.out.keep _ _ HR.out HBr.out) hT.b))
        rw [← hq1] at HI
        have HT := Lib.hid hT
        unfold rawCells at hW2
        have HW2 := Lib.hid hW2
        unfold ndV rawCells at HI
        have i0 : (0 : Int) ≤ (j : Int) := by omega
        have i1 : (j : Int) < (a.I.length : Int) := by omega
        have i2 : (j : Int) < (b.I.length : Int) := by have := HLn.out; omega
        have nb1 : b1 ≠ wr.heap.size := by omega
        have nb2 : b2 ≠ wr.heap.size := by omega
        have nb3 : b2 < wr.heap.size := by omega
        rw [hA1, hA2]
        clear hx hy hrx hry hq1 hA1 hA2 hT hW2
        go_upto_region 7 with fail
        rw [← HW2.out]
        clear c0 c1 c2 c3 c4 c5 c6 d0 d1 d2 d3 d4 d5 d6
        obtain ⟨c0, c1, c2, c3, c4, c5, c6⟩ := HT.out.x.cells
        obtain ⟨d0, d1, d2, d3, d4, d5, d6⟩ := HT.out.y.cells
        go_wp2_with fail
        refine HI.out.mono ?_
        rintro e w5 ⟨rfl, hb5⟩
        have HB5 := Lib.hid (HBr.out.trans (((HT.out.later hb5).b).mono HBr.out.size))
        clear hb5 HI c0 c1 c2 c3 c4 c5 c6 d0 d1 d2 d3 d4 d5 d6
        cases q1
        · have HF := Lib.hid (show false = sameL a.I b.I by rw [HL.out, HLX.out]; rfl)
          go_wp2_with fail
          go_ret
          exact ⟨ret_bool HF.out, HB5.out⟩
        · have HN2 := Lib.hid (show sameL a.I b.I = sameL (a.I.drop (j + 1)) (b.I.drop (j + 1)) by rw [HL.out, HLX.out, Bool.true_and])
          go_wp2_with fail
          go_roundw
          case rel => exact ⟨j + 1, by omega, by go_num, HN2, HB5.out⟩
          case measure => simp [intOf]; omega
      · have HF := Lib.hid (show true = sameL a.I b.I by rw [HL.out, List.drop_of_length_le (by omega), List.drop_of_length_le (by rw [← HLn.out]; omega), sameL_nil])
        go_wp2_with fail
        go_ret
        exact ⟨ret_bool HF.out, HBr.out⟩
  · have g0 : ((a.I.length : Int) != (b.I.length : Int)) = true := by rw [bne_iff_ne]; omega
    have HF := Lib.hid (show false = sameL a.I b.I by
      rcases h : sameL a.I b.I with _ | _
      · rfl
      · exact absurd (sameL_len h) hlen)
    clear hlen
    go_enter Tryd.func51, Tryd.ntmps51
    go_wp2_with fail
    go_ret
    exact ⟨ret_bool HF.out, Below.refl _ _⟩

set_option maxHeartbeats 6400000 in
theorem same_at (W0 : World) : ∀ (k : Nat) (n m : Nd) (r q : Raw) (d : Nat) (w : World), depth n < k → d + k ≤ 60000 → NdAt W0 W0.heap.size n r → NdAt W0 W0.heap.size m q → Below W0.heap.size W0 w →
    Calls Tryd.prog 33 #[ndV n r, ndV m q, .int .i64 (d : Int)] w fun e w' => e = .returned (.bool (sameB n m)) ∧ Below w.heap.size w w' := by
  intro k
  induction k with
  | zero => intro n m r q d w hk; omega
  | succ k ih =>
    intro n m r q d w hk hd hN hM hb
    have IH := Lib.hid ih
    obtain ⟨W1, hW1⟩ : ∃ W1, W1 = ((w.alloc (.cells (rawCells n r) 26)).alloc (.cells (rawCells m q) 26)).alloc (.cells #[.int .i64 (d : Int)] 3) := ⟨_, rfl⟩
    have hT0 := Two.new w n r m q
    have hT : Two w W1 n r m q := by rw [hW1]; exact hT0.later ((Below.refl _ _).alloc (Nat.le_refl _) _)
    have hC : Cnt W1 (w.heap.size + 2) d := by
      rw [hW1]
      have h := heap_alloc_new ((w.alloc (.cells (rawCells n r) 26)).alloc (.cells (rawCells m q) 26)) (.cells #[.int .i64 (d : Int)] 3)
      rw [show ((w.alloc (.cells (rawCells n r) 26)).alloc (.cells (rawCells m q) 26)).heap.size = w.heap.size + 2 by simp] at h
      exact h
    have HN := Lib.hid hN
    have HM := Lib.hid hM
    have HT := Lib.hid hT
    have HC := Lib.hid hC
    have HB := Lib.hid hb
    unfold rawCells at hW1
    have HW1 := Lib.hid hW1
    obtain ⟨ob, hob⟩ : ∃ ob, ob = outB n m := ⟨_, rfl⟩
    have HOb := Lib.hid hob
    have HS := Lib.hid (sameB_eq n m)
    have hdn := depth_eq n
    have hdk : depthL n.I ≤ k := by omega
    have HOu := Lib.hid (outside_is ob n m r q W1 ((hN.later hb).later hT.b) ((hM.later hb).later hT.b) hob.symm)
    unfold ndV rawCells at HOu
    clear hN hM hb hT hT0 hC hW1 hob ih hdn
    unfold ndV rawCells
    go_enter Tryd.func33, Tryd.ntmps33
    go_upto_region 1 with fail
    rw [← HW1.out]
    obtain ⟨b0, b1, b2, b3, b4, b5, b6⟩ := HT.out.x.cells
    obtain ⟨e0, e1, e2, e3, e4, e5, e6⟩ := HT.out.y.cells
    have hcl := HC.out.cell
    have g1 : (d : Int) ≤ 65536 := by omega
    go_wp2_with fail
    refine HOu.out.mono ?_
    rintro e w2 ⟨rfl, hb2⟩
    have HT2 := Lib.hid (HT.out.later hb2)
    have HC2 := Lib.hid (HC.out.below hb2)
    clear hb2 HOu b0 b1 b2 b3 b4 b5 b6 e0 e1 e2 e3 e4 e5 e6 hcl
    cases ob
    · go_wp2_with fail
      go_ret
      exact ⟨ret_bool (by rw [HS.out, ← HOb.out]; rfl), HT2.out.b⟩
    · obtain ⟨b0, b1, b2, b3, b4, b5, b6⟩ := HT2.out.x.cells
      obtain ⟨e0, e1, e2, e3, e4, e5, e6⟩ := HT2.out.y.cells
      have hHold : Holder W0 k 52 #[.pointer (some ⟨w.heap.size + 2, 0, none⟩)] (fun wx => Cnt wx (w.heap.size + 2) d) := by
        refine ⟨enters_of Tryd.func52 (by kernel_rfl) rfl, ?_, fun wx w' h hbx => h.below hbx⟩
        clear b0 b1 b2 b3 b4 b5 b6 e0 e1 e2 e3 e4 e5 e6
        intro x y rx ry wx hdx hx hy hbx hc
        obtain ⟨W3, hW3⟩ : ∃ W3, W3 = (wx.alloc (.cells (rawCells x rx) 26)).alloc (.cells (rawCells y ry) 26) := ⟨_, rfl⟩
        have hT3 : Two wx W3 x rx y ry := by rw [hW3]; exact Two.new _ _ _ _ _
        have HT3 := Lib.hid hT3
        have HC3 := Lib.hid (hc.below hT3.b)
        have HI := Lib.hid (IH.out x y rx ry (d + 1) W3 hdx (by omega) hx hy (hbx.trans (hT3.b.mono hbx.size)))
        unfold ndV rawCells at HI
        unfold rawCells at hW3
        have HW3 := Lib.hid hW3
        clear hT3 hc hx hy hbx hW3
        unfold ndV rawCells
        go_enter Tryd.func52, Tryd.ntmps52
        go_upto_region 1 with fail
        rw [← HW3.out]
        obtain ⟨b0, b1, b2, b3, b4, b5, b6⟩ := HT3.out.x.cells
        obtain ⟨e0, e1, e2, e3, e4, e5, e6⟩ := HT3.out.y.cells
        have hcl := HC3.out.cell
        rw [show (((d + 1 : Nat) : Nat) : Int) = (d : Int) + 1 by omega] at HI
        go_wp2_with fail
        refine HI.out.mono ?_
        rintro e w5 ⟨rfl, hb5⟩
        have HT5 := Lib.hid (HT3.out.later hb5)
        clear hb5
        go_wp2_with fail
        go_ret
        exact ⟨rfl, HT5.out.b⟩
      have HE := Lib.hid (equalfunc_any hHold n m r q w2 HN.out HM.out hdk (HB.out.trans (HT2.out.b.mono HB.out.size)) HC2.out)
      clear hHold
      obtain ⟨sl, hsl⟩ : ∃ sl, sl = sameL n.I m.I := ⟨_, rfl⟩
      rw [← hsl] at HE
      have HF := Lib.hid (show sl = sameB n m by rw [HS.out, ← HOb.out, Bool.true_and, hsl])
      clear hsl
      go_wp2_with fail
      refine HE.out.mono ?_
      rintro e w5 ⟨rfl, hb5⟩
      have HT5 := Lib.hid (HT2.out.later hb5)
      clear hb5
      go_wp2_with fail
      go_ret
      exact ⟨ret_bool HF.out, HT5.out.b⟩

set_option maxHeartbeats 1600000 in
theorem treesame_any (n m : Nd) (r q : Raw) (w : World) (hN : NdAt w w.heap.size n r) (hM : NdAt w w.heap.size m q) (hd : depth n ≤ 1000) :
    Calls Tryd.prog 13 #[ndV n r, ndV m q] w fun e w' => e = .returned (.bool (sameB n m)) ∧ Below w.heap.size w w' := by
  obtain ⟨W1, hW1⟩ : ∃ W1, W1 = (w.alloc (.cells (rawCells n r) 26)).alloc (.cells (rawCells m q) 26) := ⟨_, rfl⟩
  have HT : Hid (Two w W1 n r m q) := by rw [hW1]; exact Lib.hid (Two.new w n r m q)
  have HI := Lib.hid (same_at w (depth n + 1) n m r q 0 W1 (by omega) (by omega) hN hM HT.out.b)
  unfold rawCells at hW1
  have HW1 := Lib.hid hW1
  unfold ndV rawCells at HI
  clear hN hM hW1
  unfold ndV rawCells
  go_enter Tryd.func13, Tryd.ntmps13
  go_upto_region 1 with fail
  rw [← HW1.out]
  obtain ⟨b0, b1, b2, b3, b4, b5, b6⟩ := HT.out.x.cells
  obtain ⟨e0, e1, e2, e3, e4, e5, e6⟩ := HT.out.y.cells
  go_wp2_with fail
  refine HI.out.mono ?_
  rintro e w5 ⟨rfl, hb5⟩
  have HT5 := Lib.hid (HT.out.later hb5)
  clear hb5
  go_wp2_with fail
  go_ret
  exact ⟨rfl, HT5.out.b⟩
end Go.Proofs.YtecgepjdlpjiiaaDoor.tre
