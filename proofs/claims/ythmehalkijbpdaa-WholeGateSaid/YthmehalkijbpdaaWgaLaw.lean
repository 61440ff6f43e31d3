/- WholeGate: true. Condition: what is asked lies in memory. (Written by wip/gen/genwga.py.) -/
import Derived.Test.YthmehalkijbpdaaWgaAll
import Derived.Test.YthmehalkijbpdaaGdoMath
import Derived.Deep.RegionHeld3
namespace Go.Proofs.Ythmehalkijbpdaa.wga
set_option maxRecDepth 100000
open Go.RowKit Go.Proofs.Ythmehalkijbpdaa.words Go.Proofs.Ythmehalkijbpdaa.lru Go.Proofs.Ythmehalkijbpdaa.mpi Go.Proofs.Ythmehalkijbpdaa.gat Go.Proofs.Ythmehalkijbpdaa.cur

theorem tb_mono {w : World} {B B' t m : Nat} {r n : Int} {L : Cs} (h : Tb w B t m r n L) (hB : B' ≤ B) : Tb w B' t m r n L := ⟨Nat.le_trans hB h.1, Nat.le_trans hB h.2.1, h.2.2.1, h.2.2.2⟩
/-- Behind i of those who go. -/
def Go3 (w : World) (g t m ms bt bs j i : Nat) (b off c : Nat) (W : List Int) (q : Int) (k : Nat) (wr : World) : Prop := ∃ v1 v2 R o, Al w g t m ms bt bs j wr v1 v2 b off c R o W W q k ∧ (∀ x ∈ R, (i : Int) ≤ x) ∧ ∀ x, o = some x → (i : Int) ≤ x
/-- Behind i of those who waited. -/
def Go4 (w : World) (g t m ms bt bs j i : Nat) (b off c : Nat) (W : List Int) (k : Nat) (wr : World) : Prop := ∃ v1 v2 q, Al w g t m ms bt bs j wr v1 v2 b off c [] none (W.drop i) W q k
theorem Go3.done {w wr : World} {g t m ms bt bs j b off c k : Nat} {W : List Int} {q : Int} (h : Go3 w g t m ms bt bs j 8 b off c W q k wr) : Go4 w g t m ms bt bs j 0 b off c W k wr := by
  obtain ⟨v1, v2, R, o, h1, h2, h3⟩ := h
  obtain rfl : R = [] := by
    rcases R with _ | ⟨x, R⟩
    · rfl
    · have := h2 x (List.mem_cons_self ..)
      have := h1.rg x (List.mem_cons_self ..)
      omega
  obtain rfl : o = none := by
    rcases o with _ | x
    · rfl
    · have := h3 x rfl
      have := h1.og x rfl
      omega
  exact ⟨v1, v2, q, by rw [List.drop_zero]; exact h1⟩
theorem less_mem {R : List Int} {x y : Int} (h : y ∈ less R x) : y ∈ R ∧ y ≠ x := by
  obtain ⟨h1, h2⟩ := List.mem_filter.1 h
  exact ⟨h1, by simpa using h2⟩
theorem addW_mem {W : List Int} {x y : Int} (h : y ∈ addW W x) : y ∈ W ∨ y = x := by
  unfold addW at h
  split at h
  · exact .inl h
  · rcases List.mem_append.1 h with h | h
    · exact .inl h
    · exact .inr (by simpa using h)
theorem has_take (V : List Int) (x : Int) {i : Nat} {y : Int} (h : V[i]? = some y) : hasB (V.take (i + 1)) x = (hasB (V.take i) x || y == x) := by
  obtain ⟨hi, hy⟩ := List.getElem?_eq_some_iff.1 h
  rw [List.take_succ_eq_append_getElem hi, hy]
  unfold hasB
  rw [Bool.eq_iff_iff]
  simp only [List.contains_iff_mem, List.mem_append, List.mem_singleton, Bool.or_eq_true, beq_iff_eq]
  constructor
  · rintro (h | h)
    · exact .inl h
    · exact .inr h.symm
  · rintro (h | h)
    · exact .inl h
    · exact .inr h.symm

set_option maxHeartbeats 25600000 in
theorem law_gate (A : Option Addr) (c0 : Nat) (T : List Nat) (w : World) (hT : pln.OneRow (fun k : Nat => Value.int .u16 (k : Int)) w w.heap.size A T) (hsz : ∀ y ∈ T, y ≤ 65535) (hlen : T.length ≤ 9223372036854775807) :
    Calls Try.prog 7 #[.slice A T.length c0] w fun e w' => e = .returned (.bool true) ∧ Below w.heap.size w w' := by
  have HT := Lib.hid hT
  have HSZ := Lib.hid hsz
  have HN0 := Lib.hid (new_cst 0 1 w (by decide))
  have HN1 := Lib.hid (fun w => new_cst 1024 1024 w (by decide))
  have hnil : ∀ (t : Nat) (W : World), (binOp .eql 41 (.pointer (some ⟨t, 0, none⟩)) (.pointer none)).run Try.prog W = .ok (.bool false) W := fun t W => by simp [go_sem]
  have hmm := @run_makeMap Try.prog
  have hmf : ∀ (fn : Fn) (first cap : Array Value) (w : World), (Instr.makeFunc fn first cap).run Try.prog w = .ok (.func fn first cap) w := fun _ _ _ _ => rfl
  clear hT hsz
  go_enter Try.func7, Try.ntmps7
  go_wp2_with fail
  refine HN0.out.mono ?_
  rintro e w1 ⟨t0, m0, rfl, h1⟩
  obtain ⟨W2, hW2⟩ : ∃ W2, W2 = w1.alloc (.cells #[.pointer (some ⟨t0, 0, none⟩)] 41) := ⟨_, rfl⟩
  obtain ⟨bt, hbt⟩ : ∃ bt, bt = w1.heap.size := ⟨_, rfl⟩
  have hb2 : Below w1.heap.size w1 W2 := by rw [hW2]; exact (Below.refl _ _).alloc (Nat.le_refl _) _
  have hk2 : W2.heap[bt]? = some (.cells #[.pointer (some ⟨t0, 0, none⟩)] 41 (0, 0)) := by rw [hW2, hbt]; exact heap_alloc_new w1 _
  have HRM := Lib.hid (h1.later hb2).room
  have HB2 := Lib.hid (h1.2.trans (hb2.mono h1.2.size))
  have HBT : Hid (w.heap.size ≤ bt) := Lib.hid (by have := h1.2.size; omega)
  have HK2 := Lib.hid hk2
  have q0 := cell_of_blk hk2 0
  have HBE := Lib.hid hbt.symm
  have HW2 := Lib.hid hW2
  clear h1 hb2 hk2 hbt hW2 HN0
  go_upto_region 2 with fail
  rw [← HW2.out, HBE.out]
  go_wp2_with fail
  refine HRM.out.mono ?_
  rintro e wx ⟨rfl, e1⟩
  subst e1
  by_cases h200 : T.length ≤ 200
  rotate_left
  · have g200 : (200 : Int) < (T.length : Int) := by omega
    have g201 : 200 < T.length := by omega
    go_wp2_with fail
    go_ret
    exact ⟨rfl, HB2.out⟩
  have g200 : ¬ (200 : Int) < (T.length : Int) := by omega
  have g201 : ¬ 200 < T.length := by omega
  obtain ⟨W3, hW3⟩ : ∃ W3, W3 = W2.alloc (.cells #[.map none, .int .i64 0, .bool false, .map none, .int .i64 0] 27) := ⟨_, rfl⟩
  obtain ⟨g, hg⟩ : ∃ g, g = W2.heap.size := ⟨_, rfl⟩
  have hg3 : Gt W3 w.heap.size g (.map none) (.map none) [] none [] 0 := by rw [hW3, hg]; exact Gt.new W2 w.heap.size HB2.out.size
  have hb3 : Below W2.heap.size W2 W3 := by rw [hW3]; exact (Below.refl _ _).alloc (Nat.le_refl _) _
  have HG3 := Lib.hid hg3
  have HK3 := Lib.hid ((hb3.block _ (lt_of_some HK2.out)).trans HK2.out)
  have HB3 := Lib.hid (HB2.out.trans (hb3.mono HB2.out.size))
  have HGE := Lib.hid hg.symm
  have HW3 := Lib.hid hW3
  clear hg3 hb3 hg hW3 q0 HRM HW2
  go_upto_region 7 with fail
  rw [← HW3.out, HGE.out]
  go_wp2_with fail
  refine (HN1.out W3).mono ?_
  rintro e w4 ⟨t, m, rfl, h4⟩
  have hk4 := (h4.2.block _ (lt_of_some HK3.out)).trans HK3.out
  have q0 := cell_of_blk hk4 0
  have fq0 := free_of_blk hk4 0
  obtain ⟨W5, hW5⟩ : ∃ W5, W5 = w4.setCell ⟨bt, 0, none⟩ (.pointer (some ⟨t, 0, none⟩)) := ⟨_, rfl⟩
  obtain ⟨W6, hW6⟩ : ∃ W6, W6 = W5.alloc (.cells #[] 3) := ⟨_, rfl⟩
  obtain ⟨W7, hW7⟩ : ∃ W7, W7 = W6.alloc (.map #[] 0) := ⟨_, rfl⟩
  obtain ⟨W8, hW8⟩ : ∃ W8, W8 = W7.alloc (.cells #[.map (some W6.heap.size)] 60) := ⟨_, rfl⟩
  have hI : Al w g t m W6.heap.size bt W7.heap.size 0 W8 (.map none) (.map none) W5.heap.size 0 0 [] none [] [] 0 0 := by
    have hb4 := HB3.out.trans (h4.2.mono HB3.out.size)
    have hbtl : bt < w4.heap.size := lt_of_some hk4
    have hg4 := HG3.out.later h4.2
    have ht5 : Tn (fun i => i = bt) w4 W5 := by rw [hW5]; exact (Tn.refl (fun i => i = bt) w4).setCell (p := ⟨bt, 0, none⟩) (.inr rfl) _
    have hk5 : W5.heap[bt]? = some (.cells #[.pointer (some ⟨t, 0, none⟩)] 41 (0, 0)) := by rw [hW5]; exact heap_setCell_same w4 bt 0 _ _ _ hk4
    have hg5 := hg4.tn ht5 fun i hi e => by subst e; exact absurd (hg4.type hi hk4) (by decide)
    have htb5 := (tb_mono h4.1 HB3.out.size).tn ht5 fun i hi e => by subst e; exact absurd (h4.1.type hi hk4) (by decide)
    have hb5 := hb4.trans (ht5.below (B := w.heap.size) (fun i e => by rw [e]; exact HBT.out) hb4.size)
    have hb6 : Below W5.heap.size W5 W6 := by rw [hW6]; exact (Below.refl _ _).alloc (Nat.le_refl _) _
    have hb7 : Below W6.heap.size W6 W7 := by rw [hW7]; exact (Below.refl _ _).alloc (Nat.le_refl _) _
    have hb8 : Below W7.heap.size W7 W8 := by rw [hW8]; exact (Below.refl _ _).alloc (Nat.le_refl _) _
    have hb68 := hb7.trans (hb8.mono hb7.size)
    have hb58 := hb6.trans (hb68.mono hb6.size)
    have hz6 : W6.heap.size = W5.heap.size + 1 := by rw [hW6]; simp
    have hz7 : W7.heap.size = W6.heap.size + 1 := by rw [hW7]; simp
    have hm7 : MapL W7 Try.prog 3 W6.heap.size (sR 0) := by rw [hW7]; exact MapL.made W6 Try.prog 3
    have hr6 : OffAt W6 w.heap.size W5.heap.size 0 0 [] := by rw [hW6]; exact OffAt.made W5 w.heap.size hb5.size
    have htl := fun i (hi : Bk t m i) => (htb5.lt i hi).2
    refine ⟨hg5.later hb58, ⟨[], htb5.later hb58, rfl⟩, hm7.of_block (hb8.block _ hm7.lt), (hb58.block _ (lt_of_some hk5)).trans hk5, by rw [hW8]; exact heap_alloc_new W7 _, hr6.later hb68, hb5.trans (hb58.mono hb5.size), by have := hb5.size; omega, fun i hi => ⟨fun hk => ?_, fun e => ?_⟩, fun hk => ?_, (fun x hx => by cases hx), (fun x hx => by cases hx), (fun x hx => by cases hx), Int.le_refl _, Int.le_refl _, Nat.le_refl _, Nat.le_refl _⟩
    · have h1 := (h4.1.lt i hk).1
      rcases hi with hi | hi | hi
      · have := (HG3.out.lt i (.inl hi)).2; omega
      · cases hi
      · cases hi
    · have := (hg5.lt i hi).2; omega
    · have := htl _ hk; omega
  obtain ⟨b, hbb⟩ : ∃ b, b = W5.heap.size := ⟨_, rfl⟩
  obtain ⟨ms, hms⟩ : ∃ ms, ms = W6.heap.size := ⟨_, rfl⟩
  obtain ⟨bs, hbs⟩ : ∃ bs, bs = W7.heap.size := ⟨_, rfl⟩
  rw [← hbb, ← hms, ← hbs] at hI
  have HI0 := Lib.hid hI
  have HBB := Lib.hid hbb.symm
  have HMS := Lib.hid hms.symm
  have HBS : Hid (ms + 1 = bs) := Lib.hid (by rw [hms, hbs, hW7]; simp)
  rw [← hms] at hW8
  have HW5 := Lib.hid hW5
  have HW6 := Lib.hid hW6
  have HW7 := Lib.hid hW7
  have HW8 := Lib.hid hW8
  clear h4 hk4 hI hbb hms hbs hW5 hW6 hW7 hW8 HK2 HB2 HK3 HB3 HG3 HGE HW3 HN1 HBT HBE
  go_upto_region 8 with fail
  rw [← HW5.out]
  clear q0 fq0
  go_upto_region 9 with fail
  rw [← HW6.out, HBB.out]
  go_upto_region 10 with fail
  rw [← HW7.out, HMS.out, ← HW8.out, HBS.out]
  clear HW5 HW6 HW7 HW8 hmm
  go_wp2_with fail
  go_loopw [34, 5] (fun v v5 wr => ∃ (j nw k : Nat) (v1 v2 : Value) (b off c : Nat) (R : List Int) (o : Option Int) (W : List Int) (q : Int), v = .int .i64 (j : Int) ∧ v5 = .slice (some ⟨b, off, none⟩) nw c ∧ j ≤ T.length ∧ Hid (nw = W.length) ∧ Hid (Al w g t m ms bt bs j wr v1 v2 b off c R o W W q k)) (fun v _ _ => T.length - (intOf v).toNat)
  case atStart => exact ⟨0, 0, 0, _, _, _, _, _, _, _, [], _, rfl, rfl, Nat.zero_le _, Lib.hid rfl, HI0⟩
  case round =>
    clear HI0
    obtain ⟨j, nw, k, v1, v2, b, off, c, R, o, W, q, rfl, rfl, hj, HNW, HI⟩ := hrel
    have j0 : (0 : Int) ≤ (j : Int) := by omega
    by_cases hjl : j < T.length
    rotate_left
    · have hjl2 : ¬ (j : Int) < (T.length : Int) := by omega
      have hrel3 : Go3 w g t m ms bt bs j 0 b off c W q k _ := ⟨v1, v2, R, o, HI.out, fun x hx => (HI.out.rg x hx).1, fun x hx => (HI.out.og x hx).1⟩
      have HG0 := Lib.hid hrel3
      have HSM : Hid (j ≤ 200) := Lib.hid (by omega)
      have hnw9 : nw ≤ 900 := by have := HI.out.ql; have := HI.out.q0; have := HNW.out; omega
      clear hrel3 HI
      go_wp2_with fail
      go_loopw [99] (fun v wr => ∃ i : Nat, v = .int .i64 (i : Int) ∧ i ≤ 8 ∧ Hid (Go3 w g t m ms bt bs j i b off c W q k wr)) (fun v _ => 8 - (intOf v).toNat)
      case atStart => exact ⟨0, rfl, Nat.zero_le _, HG0⟩
      case round =>
        clear HG0
        obtain ⟨i, rfl, hi, HG⟩ := hrel
        by_cases hi8 : i < 8
        · have i1 : (i : Int) < 8 := by omega
          obtain ⟨v1, v2, R, o, h1, h2, h3⟩ := HG.out
          have hfx : Fits (i : Int) := fit_small (by omega) (by omega)
          by_cases hin : inB R o (i : Int) = true
          · have HP := Lib.hid (gat.leave_yes w.heap.size g v1 v2 R o W q (i : Int) _ h1.gt hfx hin)
            have H1 := Lib.hid h1
            have H2 := Lib.hid h2
            clear h1 h2 h3 hin hfx HG
            go_wp2_with fail
            refine HP.out.mono ?_
            rintro e w2 ⟨rfl, hl⟩
            obtain ⟨u1, u2, ha'⟩ := H1.out.gate (j' := j) hl (fun y hy => H1.out.rg y (less_mem hy).1) (fun y hy => by cases hy) H1.out.wg H1.out.q0 H1.out.ql (by have := H1.out.rl; have := less_le R (i : Int); omega) (Nat.le_refl j)
            have HE : Hid (Go3 w g t m ms bt bs j (i + 1) b off c W q k w2) := Lib.hid ⟨u1, u2, _, _, ha', fun y hy => by
              have h4 := less_mem hy
              have h5 := H2.out y h4.1
              have h6 := h4.2
              push_cast
              omega, fun y hy => by cases hy⟩
            clear hl ha' HP H1
            go_wp2_with fail
            go_roundw
            case rel => exact ⟨i + 1, by go_num, by omega, HE⟩
            case measure => simp [intOf]; omega
          · have hin : inB R o (i : Int) = false := by simpa using hin
            have HP := Lib.hid (gat.leave_no w.heap.size g v1 v2 R o W q (i : Int) _ h1.gt hfx hin)
            have hne : ∀ y, (y ∈ R ∨ o = some y) → y ≠ (i : Int) := fun y hy e => by
              subst e
              unfold inB at hin
              rcases hy with hy | hy
              · rw [List.contains_iff_mem.2 hy] at hin; cases hin
              · rw [hy] at hin; simp at hin
            have HE : Hid (Go3 w g t m ms bt bs j (i + 1) b off c W q k _) := Lib.hid ⟨v1, v2, R, o, h1, fun y hy => by
              have h5 := h2 y hy
              have h6 := hne y (.inl hy)
              push_cast
              omega, fun y hy => by
              have h5 := h3 y hy
              have h6 := hne y (.inr hy)
              push_cast
              omega⟩
            clear h1 h2 h3 hin hfx HG hne
            go_wp2_with fail
            refine HP.out.mono ?_
            rintro e wx ⟨rfl, e1⟩
            subst e1
            go_wp2_with fail
            go_roundw
            case rel => exact ⟨i + 1, by go_num, by omega, HE⟩
            case measure => simp [intOf]; omega
        · obtain rfl : 8 = i := by omega
          have i1 : ¬ ((8 : Nat) : Int) < 8 := by omega
          have HG4 := Lib.hid HG.out.done
          clear HG hi8
          go_wp2_with fail
          go_loopw [107] (fun v wr => ∃ i : Nat, v = .int .i64 (i : Int) ∧ i ≤ nw ∧ Hid (Go4 w g t m ms bt bs j i b off c W k wr)) (fun v _ => nw - (intOf v).toNat)
          case atStart => exact ⟨0, rfl, Nat.zero_le _, HG4⟩
          case round =>
            clear HG4
            obtain ⟨i, rfl, hi, HG⟩ := hrel
            by_cases hin : i < nw
            · have i0 : (0 : Int) ≤ (i : Int) := by omega
              have i1 : (i : Int) < (nw : Int) := by omega
              obtain ⟨y, hy⟩ : ∃ y, W[i]? = some y := ⟨_, List.getElem?_eq_getElem (by rw [← HNW.out]; exact hin)⟩
              obtain ⟨v1, v2, q', h1⟩ := HG.out
              have cy := h1.row.cell hy
              have hdr : W.drop i = y :: W.drop (i + 1) := by
                obtain ⟨hl, he⟩ := List.getElem?_eq_some_iff.1 hy
                rw [List.drop_eq_getElem_cons hl, he]
              have hy8 := h1.wg y (by rw [hdr]; exact List.mem_cons_self ..)
              have HY8 := Lib.hid hy8
              have HFY : Hid (Fits y) := Lib.hid (fit_small hy8.1 (by omega))
              have hadd : addW (W.drop i) y = y :: W.drop (i + 1) := by
                rw [addW_yes (by rw [hdr]; simp)]
                exact hdr
              have HP := Lib.hid (gat.write_go w.heap.size g v1 v2 (W.drop i) q' y _ (W.drop (i + 1)) h1.gt HFY.out hadd h1.q0 (by have := h1.ql; have := HSM.out; omega) h1.below.size)
              have H1 := Lib.hid h1
              have HDR := Lib.hid hdr
              clear hy h1 hdr hy8 hadd HG
              go_wp2_with fail
              refine HP.out.mono ?_
              rintro e w2 ⟨rfl, hl⟩
              obtain ⟨u1, u2, ha'⟩ := H1.out.gate (j' := j) hl (fun z hz => by cases hz) (fun z hz => by injection hz with hz; rw [← hz]; exact HY8.out) (fun z hz => H1.out.wg z (by rw [HDR.out]; exact List.mem_cons_of_mem _ hz)) (by have := H1.out.q0; omega) (by have h := H1.out.ql; rw [HDR.out, List.length_cons] at h; push_cast at h; omega) (Nat.zero_le _) (Nat.le_refl j)
              have HA := Lib.hid ha'
              have HP2 := Lib.hid (gat.read_no w.heap.size g u1 u2 [] (some y) (W.drop (i + 1)) (q' + 1) 99 w2 ha'.gt (fit_small (by decide) (by decide)) (.inr (.inl rfl)))
              have HP3 := Lib.hid (gat.leave_yes w.heap.size g u1 u2 [] (some y) (W.drop (i + 1)) (q' + 1) y w2 ha'.gt HFY.out (by unfold inB; simp))
              clear hl ha' HP
              go_wp2_with fail
              refine HP2.out.mono ?_
              rintro e wx ⟨rfl, e1⟩
              subst e1
              go_wp2_with fail
              refine HP3.out.mono ?_
              rintro e w3 ⟨rfl, hl⟩
              obtain ⟨x1, x2, ha3⟩ := HA.out.gate (j' := j) hl (fun z hz => by cases hz) (fun z hz => by cases hz) HA.out.wg HA.out.q0 HA.out.ql (Nat.zero_le _) (Nat.le_refl j)
              have HE : Hid (Go4 w g t m ms bt bs j (i + 1) b off c W k w3) := Lib.hid ⟨x1, x2, q' + 1, ha3⟩
              clear hl ha3 HP2 HP3 HA H1
              go_wp2_with fail
              go_roundw
              case rel => exact ⟨i + 1, by go_num, by omega, HE⟩
              case measure => simp [intOf]; omega
            · obtain rfl : nw = i := by omega
              have i1 : ¬ (nw : Int) < (nw : Int) := by omega
              rename World => wE
              obtain ⟨v1, v2, q', h1⟩ := HG.out
              rw [HNW.out, List.drop_length] at h1
              have hgq := h1.gt.quiet (w' := wE.drew) ((Tn.refl _ _).drew)
              have HWT := Lib.hid (gat.waiting_any w.heap.size g v1 v2 [] none [] q' _ hgq)
              have hq1 := h1.quiet (w' := wE.drew) ⟨rfl, rfl, rfl, Nat.le_refl _, fun _ _ => rfl⟩
              have hlk := fun ty => hq1.mp.len Try.underlying60 ty
              rw [sR_len] at hlk
              have HSTART : Hid ((fun u : World => u.cell? ⟨bt, 0, none⟩ = some (.pointer (some ⟨t, 0, none⟩)) ∧ u.cell? ⟨bs, 0, none⟩ = some (.map (some ms)) ∧ (∀ ty, (Builtin.len_ #[60] ty #[.map (some ms)]).run Try.prog u = .ok (.int .i64 (k : Int)) u) ∧ (∃ L, Tb u w.heap.size t m 1024 (k : Int) L ∧ keysC L = up 1 k) ∧ Below w.heap.size w u) wE.drew) := Lib.hid (⟨cell_of_blk hq1.hbt 0, cell_of_blk hq1.hbs 0, hlk, hq1.tb, hq1.below⟩)
              have hrd := gat.read_yes w.heap.size g v1 v2 [] q' 99 _ hgq (fit_small (by decide) (by decide)) rfl (by decide) hq1.below.size
              have HRD : Hid (Calls Try.prog 9 #[.pointer (some ⟨g, 0, none⟩), .int .i64 99] wE.drew fun e w' => e = .returned (.bool true) ∧ (fun u : World => u.cell? ⟨bt, 0, none⟩ = some (.pointer (some ⟨t, 0, none⟩)) ∧ u.cell? ⟨bs, 0, none⟩ = some (.map (some ms)) ∧ (∀ ty, (Builtin.len_ #[60] ty #[.map (some ms)]).run Try.prog u = .ok (.int .i64 (k : Int)) u) ∧ (∃ L, Tb u w.heap.size t m 1024 (k : Int) L ∧ keysC L = up 1 k) ∧ Below w.heap.size w u) w') := Lib.hid (hrd.mono fun e w' ⟨he, hl⟩ => (by
                obtain ⟨_, ht⟩ := hl
                obtain ⟨L, t1, t2⟩ := hq1.tb
                have hm' := hq1.mp.of_block (ht.block ms hq1.mp.lt fun hk => (hq1.ap1 ms hk).2 rfl)
                have hl' := fun ty => hm'.len Try.underlying60 ty
                rw [sR_len] at hl'
                exact ⟨he, cell_of_blk ((ht.block _ (lt_of_some hq1.hbt) fun hk => absurd (hq1.gt.type hk hq1.hbt) (by decide)).trans hq1.hbt) 0, cell_of_blk ((ht.block _ (lt_of_some hq1.hbs) fun hk => absurd (hq1.gt.type hk hq1.hbs) (by decide)).trans hq1.hbs) 0, hl', ⟨L, t1.tn ht fun i hi hk => (hq1.ap1 i hk).1 hi, t2⟩, hq1.below.trans (ht.below (fun i hi => (hq1.gt.lt i hi).1) hq1.below.size)⟩))
              have HLN : Hid (∀ u, (u.cell? ⟨bt, 0, none⟩ = some (.pointer (some ⟨t, 0, none⟩)) ∧ u.cell? ⟨bs, 0, none⟩ = some (.map (some ms)) ∧ (∀ ty, (Builtin.len_ #[60] ty #[.map (some ms)]).run Try.prog u = .ok (.int .i64 (k : Int)) u) ∧ (∃ L, Tb u w.heap.size t m 1024 (k : Int) L ∧ keysC L = up 1 k) ∧ Below w.heap.size w u) → Calls Try.prog 26 #[.pointer (some ⟨t, 0, none⟩)] u fun e w' => e = .returned (.int .i64 (k : Int)) ∧ (fun u => u.cell? ⟨bt, 0, none⟩ = some (.pointer (some ⟨t, 0, none⟩)) ∧ u.cell? ⟨bs, 0, none⟩ = some (.map (some ms)) ∧ (∀ ty, (Builtin.len_ #[60] ty #[.map (some ms)]).run Try.prog u = .ok (.int .i64 (k : Int)) u) ∧ (∃ L, Tb u w.heap.size t m 1024 (k : Int) L ∧ keysC L = up 1 k) ∧ Below w.heap.size w u) w') := Lib.hid fun u hu => by
                obtain ⟨L, t1, t2⟩ := hu.2.2.2.1
                exact (clen_any w.heap.size t m 1024 (k : Int) L u t1).mono fun e w' hh => ⟨hh.1.trans (by rw [← keys_len, t2, up_len]), hh.2 ▸ hu⟩
              clear h1 hgq hq1 hlk hrd HG hin
              go_upto_region 47 with fail
              refine wp_region_held_drew (S := fun u => u.cell? ⟨bt, 0, none⟩ = some (.pointer (some ⟨t, 0, none⟩)) ∧ u.cell? ⟨bs, 0, none⟩ = some (.map (some ms)) ∧ (∀ ty, (Builtin.len_ #[60] ty #[.map (some ms)]).run Try.prog u = .ok (.int .i64 (k : Int)) u) ∧ (∃ L, Tb u w.heap.size t m 1024 (k : Int) L ∧ keysC L = up 1 k) ∧ Below w.heap.size w u) (by kernel_rfl) HSTART.out (fun hHeld => ?_)
              refine wpAnyH_ready (rs := [0]) (by kernel_rfl) (by simp) ?_
              refine AllReadyH.cons rfl (fun K hK => ?_) AllReadyH.nil
              go_simp
              go_at_call 17
              refine (HWT.out).mono ?_
              rintro e u0 ⟨rfl, rfl⟩
              clear hHeld
              refine hK.out _ _ (HSTART.out) (fun hHeld => ?_)
              clear hK
              refine wpAnyH_take (i := 1) (oi := ⟨some 124, _, _, _, _, _⟩) (v := ?_) rfl (by kernel_rfl) (by kernel_rfl) (by kernel_rfl) (fun _ _ _ h => h) (Or.inl ⟨by kernel_rfl, ?_⟩) (by assumption) ?_
              rotate_left 1
              focus (intro w' hSw; (try dsimp only at hSw); go_simp; (try with_reducible rfl))
              try simp only [Act.put, List.setIfInBounds_toArray, List.set_cons_zero, List.set_cons_succ]
              refine wpAnyH_take (i := 2) (oi := ⟨some 125, _, _, _, _, _⟩) (v := ?_) rfl (by kernel_rfl) (by kernel_rfl) (by kernel_rfl) (fun _ _ _ h => h) (Or.inl ⟨by kernel_rfl, ?_⟩) (by assumption) ?_
              rotate_left 1
              focus (intro w' hSw; (try dsimp only at hSw); go_simp; (try with_reducible rfl))
              try simp only [Act.put, List.setIfInBounds_toArray, List.set_cons_zero, List.set_cons_succ]
              refine wpAnyH_ready (rs := [3]) (by kernel_rfl) (by simp) ?_
              refine AllReadyH.cons rfl (fun K hK => ?_) AllReadyH.nil
              go_simp
              go_at_call 9
              refine (HRD.out).mono ?_
              rintro e u3 ⟨rfl, hS3⟩
              clear hHeld
              refine hK.out _ _ (hS3) (fun hHeld => ?_)
              clear hK
              refine wpAnyH_take (i := 4) (oi := ⟨some 127, _, _, _, _, _⟩) (v := ?_) rfl (by kernel_rfl) (by kernel_rfl) (by kernel_rfl) (fun _ _ _ h => h) (Or.inl ⟨by kernel_rfl, ?_⟩) (by assumption) ?_
              rotate_left 1
              focus (intro w' hSw; (try dsimp only at hSw); go_simp; (try with_reducible rfl))
              try simp only [Act.put, List.setIfInBounds_toArray, List.set_cons_zero, List.set_cons_succ]
              refine wpAnyH_take (i := 5) (oi := ⟨some 128, _, _, _, _, _⟩) (v := ?_) rfl (by kernel_rfl) (by kernel_rfl) (by kernel_rfl) (fun _ _ _ h => h) (Or.inl ⟨by kernel_rfl, ?_⟩) (by assumption) ?_
              rotate_left 1
              focus (intro w' hSw; (try dsimp only at hSw); go_simp; (try with_reducible rfl))
              try simp only [Act.put, List.setIfInBounds_toArray, List.set_cons_zero, List.set_cons_succ]
              refine wpAnyH_take (i := 6) (oi := ⟨some 129, _, _, _, _, _⟩) (v := ?_) rfl (by kernel_rfl) (by kernel_rfl) (by kernel_rfl) (fun _ _ _ h => h) (Or.inl ⟨by kernel_rfl, ?_⟩) (by assumption) ?_
              rotate_left 1
              focus (intro w' hSw; (try dsimp only at hSw); go_simp; (try with_reducible rfl))
              try simp only [Act.put, List.setIfInBounds_toArray, List.set_cons_zero, List.set_cons_succ]
              refine wpAnyH_take (i := 8) (oi := ⟨some 131, _, _, _, _, _⟩) (v := ?_) rfl (by kernel_rfl) (by kernel_rfl) (by kernel_rfl) (fun _ _ _ h => h) (Or.inl ⟨by kernel_rfl, ?_⟩) (by assumption) ?_
              rotate_left 1
              focus (intro w' hSw; (try dsimp only at hSw); go_simp; (try with_reducible rfl))
              try simp only [Act.put, List.setIfInBounds_toArray, List.set_cons_zero, List.set_cons_succ]
              refine wpAnyH_ready (rs := [7]) (by kernel_rfl) (by simp) ?_
              refine AllReadyH.cons rfl (fun K hK => ?_) AllReadyH.nil
              go_simp
              go_at_call 26
              refine (HLN.out _ hHeld).mono ?_
              rintro e u7 ⟨rfl, hS7⟩
              clear hHeld
              refine hK.out _ _ (hS7) (fun hHeld => ?_)
              clear hK
              refine wpAnyH_take (i := 9) (oi := ⟨some 132, _, _, _, _, _⟩) (v := ?_) rfl (by kernel_rfl) (by kernel_rfl) (by kernel_rfl) (fun _ _ _ h => h) (Or.inl ⟨by kernel_rfl, ?_⟩) (by assumption) ?_
              rotate_left 1
              focus (intro w' hSw; (try dsimp only at hSw); go_simp; (try with_reducible rfl))
              try simp only [Act.put, List.setIfInBounds_toArray, List.set_cons_zero, List.set_cons_succ]
              refine wpAnyH_take (i := 10) (oi := ⟨some 133, _, _, _, _, _⟩) (v := ?_) rfl (by kernel_rfl) (by kernel_rfl) (by kernel_rfl) (fun _ _ _ h => h) (Or.inl ⟨by kernel_rfl, ?_⟩) (by assumption) ?_
              rotate_left 1
              focus (intro w' hSw; (try dsimp only at hSw); go_simp; (try with_reducible rfl))
              try simp only [Act.put, List.setIfInBounds_toArray, List.set_cons_zero, List.set_cons_succ]
              refine wpAnyH_take (i := 11) (oi := ⟨some 134, _, _, _, _, _⟩) (v := ?_) rfl (by kernel_rfl) (by kernel_rfl) (by kernel_rfl) (fun _ _ _ h => h) (Or.inl ⟨by kernel_rfl, ?_⟩) (by assumption) ?_
              rotate_left 1
              focus (intro w' hSw; (try dsimp only at hSw); go_simp; (try with_reducible rfl))
              try simp only [Act.put, List.setIfInBounds_toArray, List.set_cons_zero, List.set_cons_succ]
              refine wpAnyH_take (i := 12) (oi := ⟨some 2, _, _, _, _, _⟩) (v := ?_) rfl (by kernel_rfl) (by kernel_rfl) (by kernel_rfl) (fun _ _ _ h => h) (Or.inl ⟨by kernel_rfl, ?_⟩) (by assumption) ?_
              rotate_left 1
              focus (intro w' hSw; (try dsimp only at hSw); go_simp; (try with_reducible rfl))
              try simp only [Act.put, List.setIfInBounds_toArray, List.set_cons_zero, List.set_cons_succ]
              refine wpAnyH_done (by kernel_rfl) ?_ _

              have HE := Lib.hid hHeld.2.2.2.2
              clear hHeld
              go_wp2_with fail
              go_ret
              exact ⟨rfl, HE.out⟩

    have j1 : (j : Int) < (T.length : Int) := by omega
    have hj200 : j ≤ 200 := by omega
    obtain ⟨a, hp⟩ : ∃ p, T[j]? = some p := ⟨_, List.getElem?_eq_getElem hjl⟩
    have ha := HSZ.out _ (List.mem_of_getElem? hp)
    obtain ⟨ab, aoff, hA, hab, t0⟩ := (HT.out.keep HI.out.below) j _ hp
    subst hA
    obtain ⟨d4, hd4⟩ : ∃ d4 : Int, d4 = (a : Int) / 4 := ⟨_, rfl⟩
    obtain ⟨x, hx⟩ : ∃ x : Int, x = d4 % 8 := ⟨_, rfl⟩
    have hx0 : 0 ≤ x ∧ x < 8 := by omega
    have hdiv : Int.tdiv (a : Int) 4 = d4 := by rw [hd4]; exact Int.tdiv_eq_ediv_of_nonneg (by omega)
    have hdiv2 : (a : Int) / 4 = d4 := hd4.symm
    have hmod : Int.tmod d4 8 = x := by rw [hx]; exact Int.tmod_eq_emod_of_nonneg (by omega)
    have hmod2 : d4 % 8 = x := hx.symm
    have hwx : IntKind.i64.wrap x = x := IntWalk.i64_in _ (by omega)
    have hwd : IntKind.u16.wrap d4 = d4 := by unfold IntKind.wrap; simp [IntKind.signed, IntKind.bits]; omega
    have HX0 := Lib.hid hx0
    have HFX : Hid (Fits x) := Lib.hid (fit_small hx0.1 (by omega))
    have hR9 : R.length ≤ 900 := by have := HI.out.rl; omega
    have hW9 : W.length ≤ 900 := by have := HI.out.ql; have := HI.out.q0; omega
    have hq6 : q + (W.length : Int) ≤ 1000000 := by have := HI.out.ql; omega
    have hnw9 : nw ≤ 900 := by rw [HNW.out]; exact hW9
    have hk9 : k ≤ 900 := by have := HI.out.kj; omega
    have hS3 := HI.out.below.size
    obtain ⟨mk, hm, hm3⟩ : ∃ mk : Int, mk = (a : Int) % 4 ∧ (mk = 0 ∨ mk = 1 ∨ mk = 2 ∨ mk = 3) := ⟨_, rfl, by omega⟩
    have hmt : Int.tmod (a : Int) 4 = mk := by rw [hm, Int.tmod_eq_emod_of_nonneg (by omega)]
    have hme : (a : Int) % 4 = mk := hm.symm
    clear hm hp hd4 hx hx0
    go_upto_region 16 with fail
    clear t0 hdiv hdiv2 hmod hmod2 hwx hwd
    rename World => wo
    go_wp2_with fail
    go_loop [44, 11] (fun v v11 => ∃ i : Nat, v = .int .i64 (i : Int) ∧ i ≤ nw ∧ v11 = .bool (hasB (W.take i) x)) (fun v _ => nw - (intOf v).toNat)
    case atStart => exact ⟨0, rfl, Nat.zero_le _, rfl⟩
    case round =>
      obtain ⟨i, rfl, hi, rfl⟩ := hrel
      by_cases hin : i < nw
      · have i0 : (0 : Int) ≤ (i : Int) := by omega
        have i1 : (i : Int) < (nw : Int) := by omega
        obtain ⟨y, hy⟩ : ∃ y, W[i]? = some y := ⟨_, List.getElem?_eq_getElem (by rw [← HNW.out]; exact hin)⟩
        have cy := HI.out.row.cell hy
        have hstep := has_take W x hy
        obtain ⟨d, hd⟩ : ∃ d, d = hasB (W.take i) x := ⟨_, rfl⟩
        rw [← hd] at hstep ⊢
        obtain ⟨by_, hby⟩ : ∃ z, z = (y == x) := ⟨_, rfl⟩
        have hby1 : (y == x) = by_ := hby.symm
        rw [← hby] at hstep
        have HSTEP := Lib.hid hstep
        clear hy hstep hd hby
        rcases d with _ | _
        · go_wp2_with fail
          go_round
          case rel => exact ⟨i + 1, by go_num, by omega, by rw [HSTEP.out]; rfl⟩
          case measure => simp [intOf]; omega
        · go_wp2_with fail
          go_round
          case rel => exact ⟨i + 1, by go_num, by omega, by rw [HSTEP.out]; rfl⟩
          case measure => simp [intOf]; omega
      · obtain rfl : nw = i := by omega
        have i1 : ¬ (nw : Int) < (nw : Int) := by omega
        have htk : W.take nw = W := by rw [HNW.out, List.take_length]
        rw [htk]
        clear htk hin
        obtain ⟨d, hd⟩ : ∃ d, d = hasB W x := ⟨_, rfl⟩
        rw [← hd]
        have HD := Lib.hid hd
        clear hd
        rcases hm3 with rfl | rfl | rfl | rfl
        · as_aux_lemma =>
            rcases d with _ | _
            rotate_left
            · have HE := Lib.hid (HI.out.le (Nat.le_succ j))
              have HN9 := HNW
              go_wp2_with fail
              go_roundw
              case rel => exact ⟨j + 1, _, _, _, _, _, _, _, _, _, _, _, by go_num, rfl, by omega, HN9, HE⟩
              case measure => simp [intOf]; omega

            by_cases hin : inB R o x = true
            · have HP := Lib.hid (gat.read_no w.heap.size g v1 v2 R o W q x wo HI.out.gt HFX.out (.inl hin))
              go_wp2_with fail
              refine HP.out.mono ?_
              rintro e wx ⟨rfl, e1⟩
              subst e1
              have HE := Lib.hid (HI.out.le (Nat.le_succ j))
              have HN9 := HNW
              go_wp2_with fail
              go_roundw
              case rel => exact ⟨j + 1, _, _, _, _, _, _, _, _, _, _, _, by go_num, rfl, by omega, HN9, HE⟩
              case measure => simp [intOf]; omega

            rcases o with _ | z
            rotate_left
            · have HP := Lib.hid (gat.read_no w.heap.size g v1 v2 R (some z) W q x wo HI.out.gt HFX.out (.inr (.inl rfl)))
              go_wp2_with fail
              refine HP.out.mono ?_
              rintro e wx ⟨rfl, e1⟩
              subst e1
              have HE := Lib.hid (HI.out.le (Nat.le_succ j))
              have HN9 := HNW
              go_wp2_with fail
              go_roundw
              case rel => exact ⟨j + 1, _, _, _, _, _, _, _, _, _, _, _, by go_num, rfl, by omega, HN9, HE⟩
              case measure => simp [intOf]; omega

            rcases W with _ | ⟨z, W⟩
            rotate_left
            · have HP := Lib.hid (gat.read_no w.heap.size g v1 v2 R none (z :: W) q x wo HI.out.gt HFX.out (.inr (.inr (by simp))))
              go_wp2_with fail
              refine HP.out.mono ?_
              rintro e wx ⟨rfl, e1⟩
              subst e1
              have HE := Lib.hid (HI.out.le (Nat.le_succ j))
              have HN9 := HNW
              go_wp2_with fail
              go_roundw
              case rel => exact ⟨j + 1, _, _, _, _, _, _, _, _, _, _, _, by go_num, rfl, by omega, HN9, HE⟩
              case measure => simp [intOf]; omega

            have hin : inB R none x = false := by simpa using hin
            have HP := Lib.hid (gat.read_yes w.heap.size g v1 v2 R q x wo HI.out.gt HFX.out (gdo.in_none hin) (by omega) hS3)
            go_wp2_with fail
            refine HP.out.mono ?_
            rintro e w2 ⟨rfl, hl⟩
            obtain ⟨u1, u2, ha'⟩ := HI.out.gate (j' := j + 1) hl (fun y hy => by rcases List.mem_append.1 hy with hy | hy; exact HI.out.rg y hy; rw [List.mem_singleton.1 hy]; exact HX0.out) (fun y hy => by cases hy) HI.out.wg HI.out.q0 (by have := HI.out.ql; push_cast; omega) (by have := HI.out.rl; rw [List.length_append, List.length_singleton]; omega) (Nat.le_succ j)
            have HA := Lib.hid ha'
            clear hl ha' HP
            have HC := Lib.hid (clos_any x w _ g t m ms bt bs (j + 1) u1 u2 b off c _ _ _ _ _ k HA.out hk9 (by have := HI.out.kj; omega))
            go_wp2_with fail
            refine HC.out.mono ?_
            rintro e w3 ⟨rfl, ha3⟩
            have HA3 := Lib.hid ha3
            clear ha3 HC
            have HE := HA3
            have HN9 := HNW
            go_wp2_with fail
            go_roundw
            case rel => exact ⟨j + 1, _, _, _, _, _, _, _, _, _, _, _, by go_num, rfl, by omega, HN9, HE⟩
            case measure => simp [intOf]; omega

        · as_aux_lemma =>
            by_cases hin : inB R o x = true
            · have HP := Lib.hid (gat.in_any w.heap.size g v1 v2 R o W q x wo HI.out.gt HFX.out)
              rw [hin] at HP
              go_wp2_with fail
              refine HP.out.mono ?_
              rintro e wx ⟨rfl, e1⟩
              subst e1
              have HE := Lib.hid (HI.out.le (Nat.le_succ j))
              have HN9 := HNW
              go_wp2_with fail
              go_roundw
              case rel => exact ⟨j + 1, _, _, _, _, _, _, _, _, _, _, _, by go_num, rfl, by omega, HN9, HE⟩
              case measure => simp [intOf]; omega

            have hin : inB R o x = false := by simpa using hin
            have HP := Lib.hid (gat.in_any w.heap.size g v1 v2 R o W q x wo HI.out.gt HFX.out)
            rw [hin] at HP
            go_wp2_with fail
            refine HP.out.mono ?_
            rintro e wx ⟨rfl, e1⟩
            subst e1
            clear HP
            by_cases hgo : (addW W x).head? = some x ∧ o = none ∧ R = []
            · obtain ⟨hh, rfl, rfl⟩ := hgo
              obtain ⟨Wn, hWn⟩ : ∃ Wn, addW W x = x :: Wn := by
                rcases hc : addW W x with _ | ⟨z, Wn⟩
                · rw [hc] at hh; cases hh
                · rw [hc, List.head?_cons] at hh
                  injection hh with hh
                  exact ⟨Wn, by rw [hh]⟩
              have HWN := Lib.hid hWn
              clear hh
              have HP := Lib.hid (gat.write_go w.heap.size g v1 v2 W q x wo Wn HI.out.gt HFX.out hWn HI.out.q0 hq6 hS3)
              go_wp2_with fail
              refine HP.out.mono ?_
              rintro e w2 ⟨rfl, hl⟩
              obtain ⟨u1, u2, ha'⟩ := HI.out.gate (j' := j + 1) hl (fun y hy => by cases hy) (fun y hy => by injection hy with hy; rw [← hy]; exact HX0.out) (fun y hy => by rcases addW_mem (W := W) (x := x) (y := y) (by rw [HWN.out]; exact List.mem_cons_of_mem _ hy) with hy | hy; exact HI.out.wg y hy; rw [hy]; exact HX0.out) (by have := HI.out.q0; omega) (by have := HI.out.ql; have h1 := gdo.addW_le W x; rw [HWN.out, List.length_cons] at h1; push_cast; omega) (Nat.zero_le _) (Nat.le_succ j)
              have HA := Lib.hid ha'
              clear hl ha' HP
              clear hWn
              have HC := Lib.hid (clos_any x w _ g t m ms bt bs (j + 1) u1 u2 b off c _ _ _ _ _ k HA.out hk9 (by have := HI.out.kj; omega))
              go_wp2_with fail
              refine HC.out.mono ?_
              rintro e w3 ⟨rfl, ha3⟩
              have HA3 := Lib.hid ha3
              clear ha3 HC
              rcases d with _ | _
              · have hno : W.contains x = false := HD.out.symm
                have hw : W = [] ∧ Wn = [] := by
                  have h1 := HWN.out
                  rw [addW_no hno] at h1
                  rcases W with _ | ⟨z, W⟩
                  · exact ⟨rfl, by injection h1 with _ h1; exact h1.symm⟩
                  · rw [List.cons_append] at h1
                    injection h1 with h1 _
                    subst h1
                    simp at hno
                obtain ⟨rfl, rfl⟩ := hw
                have HE := HA3
                have HN9 := HNW
                clear hno
                go_wp2_with fail
                go_roundw
                case rel => exact ⟨j + 1, _, _, _, _, _, _, _, _, _, _, _, by go_num, rfl, by omega, HN9, HE⟩
                case measure => simp [intOf]; omega

              · have hyes : W.contains x = true := HD.out.symm
                have hw : W = x :: Wn := by rw [← addW_yes hyes]; exact HWN.out
                subst hw
                obtain ⟨nn, hnn⟩ : ∃ nn, nw = nn + 1 := ⟨Wn.length, HNW.out⟩
                have HNN : Hid (nn = Wn.length) := Lib.hid (by have := HNW.out; rw [List.length_cons] at this; omega)
                subst hnn
                have hcle := HA3.out.row.le
                rw [List.length_cons] at hcle
                obtain ⟨cc, hcc⟩ : ∃ cc, c = cc + 1 := ⟨c - 1, by omega⟩
                subst hcc
                have c1 : nn + 1 ≤ cc + 1 := by rw [HNN.out]; exact hcle
                clear hyes hcle
                by_cases hc0 : cc = 0
                · subst hc0
                  obtain rfl : nn = 0 := by omega
                  have HE := Lib.hid (HA3.out.rows (HA3.out.row.tail0) (Tn.refl _ _))
                  have HN9 := HNN
                  go_wp2_with fail
                  go_roundw
                  case rel => exact ⟨j + 1, _, _, _, _, _, _, _, _, _, _, _, by go_num, rfl, by omega, HN9, HE⟩
                  case measure => simp [intOf]; omega

                · have hc1 : ¬ cc + 1 = 1 := by omega
                  have hc2 : ¬ cc = 0 := hc0
                  have HE := Lib.hid (HA3.out.rows (HA3.out.row.tail) (Tn.refl _ _))
                  have HN9 := HNN
                  go_wp2_with fail
                  go_roundw
                  case rel => exact ⟨j + 1, _, _, _, _, _, _, _, _, _, _, _, by go_num, rfl, by omega, HN9, HE⟩
                  case measure => simp [intOf]; omega


            · have hno : (addW W x).head? ≠ some x ∨ o.isSome = true ∨ R ≠ [] := by
                by_cases h1 : (addW W x).head? = some x
                · rcases ho : o with _ | z
                  · by_cases h3 : R = []
                    · exact absurd ⟨h1, ho, h3⟩ hgo
                    · exact .inr (.inr h3)
                  · exact .inr (.inl rfl)
                · exact .inl h1
              clear hgo
              have HP := Lib.hid (gat.write_wait w.heap.size g v1 v2 R o W q x wo HI.out.gt HFX.out hin hno HI.out.q0 hq6 hS3)
              go_wp2_with fail
              refine HP.out.mono ?_
              rintro e w2 ⟨rfl, hl⟩
              obtain ⟨u1, u2, ha'⟩ := HI.out.gate (j' := j + 1) hl HI.out.rg HI.out.og (fun y hy => by rcases addW_mem hy with hy | hy; exact HI.out.wg y hy; rw [hy]; exact HX0.out) HI.out.q0 (by have := HI.out.ql; have h1 := gdo.addW_le W x; push_cast; omega) (by have := HI.out.rl; omega) (Nat.le_succ j)
              have HA := Lib.hid ha'
              clear hl ha' HP
              rcases d with _ | _
              · have hadd : addW W x = W ++ [x] := addW_no HD.out.symm
                rw [hadd] at HA
                obtain ⟨iE, hiE, zE0, zE1, zE2⟩ := info_three infoInt
                obtain ⟨W3, hW3⟩ : ∃ W3, W3 = w2.alloc (.cells #[.int .i64 x] 3) := ⟨_, rfl⟩
                have hb3 : Below w2.heap.size w2 W3 := by rw [hW3]; exact (Below.refl _ _).alloc (Nat.le_refl _) _
                have HA4 := Lib.hid (HA.out.quiet hb3)
                have HN6 : Hid (∀ (i : Nat) (u : Value), (iC [x])[i]? = some u → W3.cell? ((⟨w2.heap.size, 0, none⟩ : Addr).add i) = some u) := Lib.hid fun i u hi => by rw [hW3, new_cell]; simpa [iC] using hi
                have HW3 := Lib.hid hW3.symm
                clear hb3 hW3 hadd
                go_wp2_with (at_builtin; rw [HW3.out]; refine wpList_append_off rfl (.tmp 88) (.tmp 90) rfl iE hiE zE0 zE1 zE2 w.heap.size b off nw c W HNW.out rfl HA4.out.row ⟨w2.heap.size, 0, none⟩ 1 x rfl HN6.out (by omega) HA4.out.below.size ?_; intro b' off' c' w5 hr5 hb5 ht5; have HE := Lib.hid (HA4.out.rows hr5 ht5); have HN9 : Hid (nw + 1 = (W ++ [x]).length) := Lib.hid (by rw [List.length_append, HNW.out]; rfl); clear hr5 hb5 ht5)
                go_wp2_with fail
                go_roundw
                case rel => exact ⟨j + 1, _, _, _, _, _, _, _, _, _, _, _, by go_num, rfl, by omega, HN9, HE⟩
                case measure => simp [intOf]; omega

              · have hadd : addW W x = W := addW_yes HD.out.symm
                rw [hadd] at HA
                have HE := HA
                have HN9 := HNW
                clear hadd
                go_wp2_with fail
                go_roundw
                case rel => exact ⟨j + 1, _, _, _, _, _, _, _, _, _, _, _, by go_num, rfl, by omega, HN9, HE⟩
                case measure => simp [intOf]; omega

        · as_aux_lemma =>
            by_cases hin : inB R o x = true
            · have HP := Lib.hid (gat.leave_yes w.heap.size g v1 v2 R o W q x wo HI.out.gt HFX.out hin)
              go_wp2_with fail
              refine HP.out.mono ?_
              rintro e w2 ⟨rfl, hl⟩
              obtain ⟨u1, u2, ha'⟩ := HI.out.gate (j' := j + 1) hl (fun y hy => HI.out.rg y (less_mem hy).1) (fun y hy => by cases hy) HI.out.wg HI.out.q0 (by have := HI.out.ql; push_cast; omega) (by have := HI.out.rl; have := less_le R x; omega) (Nat.le_succ j)
              have HA := Lib.hid ha'
              clear hl ha' HP
              have HE := HA
              have HN9 := HNW
              go_wp2_with fail
              go_roundw
              case rel => exact ⟨j + 1, _, _, _, _, _, _, _, _, _, _, _, by go_num, rfl, by omega, HN9, HE⟩
              case measure => simp [intOf]; omega

            have hin : inB R o x = false := by simpa using hin
            have HP := Lib.hid (gat.leave_no w.heap.size g v1 v2 R o W q x wo HI.out.gt HFX.out hin)
            go_wp2_with fail
            refine HP.out.mono ?_
            rintro e wx ⟨rfl, e1⟩
            subst e1
            have HE := Lib.hid (HI.out.le (Nat.le_succ j))
            have HN9 := HNW
            go_wp2_with fail
            go_roundw
            case rel => exact ⟨j + 1, _, _, _, _, _, _, _, _, _, _, _, by go_num, rfl, by omega, HN9, HE⟩
            case measure => simp [intOf]; omega

        · as_aux_lemma =>
            have HE := Lib.hid (HI.out.le (Nat.le_succ j))
            have HN9 := HNW
            go_wp2_with fail
            go_roundw
            case rel => exact ⟨j + 1, _, _, _, _, _, _, _, _, _, _, _, by go_num, rfl, by omega, HN9, HE⟩
            case measure => simp [intOf]; omega
end Go.Proofs.Ythmehalkijbpdaa.wga
