/- What script's Parse answers. Conditions: at most a million bytes; what the listed variables hold. -/
import Derived.Test.YtfbgnafnpeeonaaDoorScrTake
namespace Go.Proofs.YtfbgnafnpeeonaaDoor.scr
set_option maxRecDepth 100000
open Go.RowKit Go.Proofs.YtfbgnafnpeeonaaDoor.words Go.Proofs.YtfbgnafnpeeonaaDoor.cal

theorem cutn_any (m : Int) (s : ByteArray) (w : World) (hs : s.size ≤ 1000000) (hE : Env m w) :
    Calls Tryd.prog 22 #[.string s, .string ⟨#[10]⟩] w fun e w' => (∃ (a b : ByteArray) (f : Bool), e = .returned (.tuple #[.string a, .string b, .bool f]) ∧ cutC 10 s.data.toList = (a.data.toList, b.data.toList, f)) ∧ Below w.heap.size w w' := by
  refine (Tryd.strings_Cut s ⟨#[10]⟩ m w (by omega) hE.max).mono ?_
  rintro e w' ⟨rfl, n, rfl⟩
  exact ⟨⟨_, _, _, rfl, by rw [data_mk, data_mk]; rfl⟩, ⟨rfl, rfl, rfl, Nat.le_refl _, fun _ _ => rfl⟩⟩
theorem cutn_size {s a b : ByteArray} {f : Bool} (h : cutC 10 s.data.toList = (a.data.toList, b.data.toList, f)) : a.size ≤ s.size ∧ b.size ≤ s.size ∧ (f = true → a.size + b.size + 1 = s.size) := by
  rw [← size_list, ← size_list, ← size_list]
  cases f with
  | true =>
    have h1 := (cutC_yes h).1
    rw [h1]
    simp
    omega
  | false =>
    obtain ⟨h1, h2, _⟩ := cutC_no h
    rw [h1, h2]
    simp
section
variable {r r' : Rd} {n : Nat} {t a b : List UInt8}
theorem prs_end (hc : cutC 10 t = (a, b, false)) : prsM r n (spl 10 t) = .inr n := by rw [cutC_spn hc, prsM]
theorem prs_none (hc : cutC 10 t = (a, b, true)) (ht : takeM r a = none) : prsM r n (spl 10 t) = .inr n := by
  obtain ⟨q, ps, hq⟩ := List.exists_cons_of_ne_nil (spl_ne 10 b)
  rw [cutC_spl hc, hq, prsM, ht]
theorem prs_fin (hc : cutC 10 t = (a, b, true)) (ht : takeM r a = some r') (hb : b = []) : prsM r n (spl 10 t) = .inl r' := by
  rw [cutC_spl hc, hb]
  simp only [spl, prsM, ht, and_self, if_true]
theorem prs_go (hc : cutC 10 t = (a, b, true)) (ht : takeM r a = some r') (hb : b ≠ []) : prsM r n (spl 10 t) = prsM r' (n + 1) (spl 10 b) := by
  obtain ⟨q, ps, hq⟩ := List.exists_cons_of_ne_nil (spl_ne 10 b)
  rw [cutC_spl hc, hq, prsM, ht]
  simp only
  rw [if_neg]
  rintro ⟨rfl, rfl⟩
  have := join_spl 10 b
  rw [hq] at this
  exact hb this.symm
end
theorem take_k3 {r r' : Rd} {l : List UInt8} (h : takeM r l = some r') : r'.k ≤ 3 := by
  by_cases hk : r.k = 0
  · obtain ⟨a, b, c, _, _, rfl⟩ := take_0 hk h
    simp
  · obtain ⟨_, hw⟩ := take_on hk h
    rcases hw with ⟨x, _, _, _, rfl⟩ | ⟨_, rfl⟩ | ⟨ns, _, _, rfl⟩ | ⟨o, _, _, rfl⟩ <;> simp
def scV (S : ScB) (vi vc vp : Value) : Value := .agg #[.int .i64 S.sh, .int .i64 S.rm, .int .i64 S.cu, vi, vc, vp]
/-- A script in rows of its own. -/
structure Own (w : World) (B : Nat) (S : ScB) (vi vc vp : Value) : Prop where
  im : w.ownsRow B 9 1 vi S.im.length (S.im.map Value.string)
  cl : Rows w B vc S.cl
  pk : w.ownsRow B 3 1 vp S.pk.length (S.pk.map (Value.int .i64))
def ParsedO (t : ByteArray) (w : World) (e : Ending) (w' : World) : Prop :=
  ((∃ S vi vc vp, parseS t.data.toList = .inl S.m ∧ e = .returned (.tuple #[scV S vi vc vp, .int .i64 0]) ∧ Own w' w.heap.size S vi vc vp ∧ FB (t.size + 1) S) ∨
    (∃ b : Nat, parseS t.data.toList = .inr b ∧ e = .returned (.tuple #[scV scb0 (.slice none 0 0) (.slice none 0 0) (.slice none 0 0), .int .i64 (b : Int)]))) ∧ Below w.heap.size w w'
/-- What holds ahead of each line. -/
structure PaI (m : Int) (T : ByteArray) (w : World) (g2 g : Nat) (text : ByteArray) (i : Nat) (S : ScB) (k : Nat) (vi vc vp : Value) (wr : World) : Prop where
  pr : prsM ⟨S.m, k⟩ (i + 1) (spl 10 text.data.toList) = prsM rd0 1 (spl 10 T.data.toList)
  sz : text.size + i ≤ T.size
  rd : Rdr wr w.heap.size g S k vi vc vp
  fb : FB i S
  k3 : k ≤ 3
  k2 : k = 2 → S.cl ≠ []
  kp : Kept RT w.heap.size w wr
  bx : wr.heap[g2]? = some (.cells #[.int .i64 0, .int .i64 0, .int .i64 0, .slice none 0 0, .slice none 0 0, .slice none 0 0] 28 (0, 0))
  ge : w.heap.size ≤ g2
def put6 (w : World) (g : Nat) (u0 u1 u2 u3 u4 u5 : Value) : World := (((((w.setCell ⟨g, 0, none⟩ u0).setCell ⟨g, 1, none⟩ u1).setCell ⟨g, 2, none⟩ u2).setCell ⟨g, 3, none⟩ u3).setCell ⟨g, 4, none⟩ u4).setCell ⟨g, 5, none⟩ u5
theorem put6_at {w : World} {g : Nat} {t : TypeId} {x0 x1 x2 x3 x4 x5 : Value} (h : w.heap[g]? = some (.cells #[x0, x1, x2, x3, x4, x5] t (0, 0))) (u0 u1 u2 u3 u4 u5 : Value) : (put6 w g u0 u1 u2 u3 u4 u5).heap[g]? = some (.cells #[u0, u1, u2, u3, u4, u5] t (0, 0)) :=
  set_at (set_at (set_at (set_at (set_at (set_at h u0) u1) u2) u3) u4) u5
theorem put6_other {w : World} {g : Nat} (u0 u1 u2 u3 u4 u5 : Value) {k : Nat} (hk : k ≠ g) : (put6 w g u0 u1 u2 u3 u4 u5).heap[k]? = w.heap[k]? := by
  unfold put6
  rw [Below.heap_setCell _ _ _ _ (by exact hk), Below.heap_setCell _ _ _ _ (by exact hk), Below.heap_setCell _ _ _ _ (by exact hk), Below.heap_setCell _ _ _ _ (by exact hk), Below.heap_setCell _ _ _ _ (by exact hk), Below.heap_setCell _ _ _ _ (by exact hk)]
theorem put6_below {a w : World} {B g : Nat} (h : Below B a w) (hB : B ≤ g) (u0 u1 u2 u3 u4 u5 : Value) : Below B a (put6 w g u0 u1 u2 u3 u4 u5) :=
  (((((h.setCell (p := ⟨g, 0, none⟩) hB u0).setCell (p := ⟨g, 1, none⟩) hB u1).setCell (p := ⟨g, 2, none⟩) hB u2).setCell (p := ⟨g, 3, none⟩) hB u3).setCell (p := ⟨g, 4, none⟩) hB u4).setCell (p := ⟨g, 5, none⟩) hB u5
theorem put6_own {w : World} {B g size n : Nat} {t e : TypeId} {cs : Array Value} {v : Value} {xs : List Value} (hg : w.heap[g]? = some (.cells cs t (0, 0))) (hne : e ≠ t) (h : w.ownsRow B e size v n xs) (u0 u1 u2 u3 u4 u5 : Value) : (put6 w g u0 u1 u2 u3 u4 u5).ownsRow B e size v n xs := by
  have hn := own_ne h hg hne
  unfold put6
  exact own_setCell (own_setCell (own_setCell (own_setCell (own_setCell (own_setCell h hn u0) hn u1) hn u2) hn u3) hn u4) hn u5
def lenS : Value → Nat
  | .string s => s.size
  | _ => 0
set_option maxHeartbeats 6400000 in
theorem sparse_any (m : Int) (T : ByteArray) (w : World) (hT : T.size ≤ 900000) (hE : Env m w) : Calls Tryd.prog 10 #[.string T] w (ParsedO T w) := by
  obtain ⟨W1, hW1⟩ : ∃ W1, W1 = (w.alloc (.cells #[.int .i64 0, .int .i64 0, .int .i64 0, .slice none 0 0, .slice none 0 0, .slice none 0 0] 28)).alloc (.cells #[.int .i64 0, .int .i64 0, .int .i64 0, .slice none 0 0, .slice none 0 0, .slice none 0 0, .int .i64 0] 58) := ⟨_, rfl⟩
  have hs1 : (w.alloc (.cells #[.int .i64 0, .int .i64 0, .int .i64 0, .slice none 0 0, .slice none 0 0, .slice none 0 0] 28)).heap.size = w.heap.size + 1 := by simp
  have hb1 : Below w.heap.size w W1 := by rw [hW1]; exact ((Below.refl _ _).alloc (Nat.le_refl _) _).alloc (by rw [hs1]; omega) _
  have hx2 : W1.heap[w.heap.size]? = some (.cells #[.int .i64 0, .int .i64 0, .int .i64 0, .slice none 0 0, .slice none 0 0, .slice none 0 0] 28 (0, 0)) := by
    rw [hW1]
    exact (Below.heap_alloc _ _ _ (by rw [hs1]; omega)).trans (heap_alloc_new w _)
  have hx4 : W1.heap[w.heap.size + 1]? = some (rdB scb0 (.slice none 0 0) (.slice none 0 0) (.slice none 0 0) 0) := by rw [hW1, ← hs1]; exact heap_alloc_new _ _
  have HI : Hid (PaI m T w w.heap.size (w.heap.size + 1) T 0 scb0 0 (.slice none 0 0) (.slice none 0 0) (.slice none 0 0) W1) := Lib.hid
    ⟨rfl, by omega, ⟨by omega, hx4, World.ownsRow_nil _ _ _ _, Rows.nil _ _, World.ownsRow_nil _ _ _ _⟩, ⟨i64_0, i64_0, i64_0, fun _ h => (by cases h), fun _ h => (by cases h), Nat.zero_le _, Nat.zero_le _, fun _ h => (by cases h)⟩, by omega, fun e => (by cases e), Kept.of_below hb1 RT _, hx2, Nat.le_refl _⟩
  have HE := Lib.hid hE
  have HW1 := Lib.hid hW1
  clear hW1 hs1 hb1 hx2 hx4 hE
  go_enter Tryd.func10, Tryd.ntmps10
  go_upto_region 2 with fail
  rw [← HW1.out]
  clear HW1
  go_wp2_with fail
  go_loopw [0, 5, 6, 7, 8] (fun v0 v5 v6 v7 v8 wr => ∃ (text : ByteArray) (i : Nat) (S : ScB) (k : Nat) (vi vc vp : Value), v0 = .string text ∧ v5 = .int .i64 ((i + 1 : Nat) : Int) ∧ Hid (PaI m T w w.heap.size (w.heap.size + 1) text i S k vi vc vp wr)) (fun v0 _ _ _ _ _ => lenS v0)
  case atStart => exact ⟨T, 0, scb0, 0, _, _, _, rfl, rfl, HI⟩
  case round =>
    obtain ⟨text, i, S, k, vi, vc, vp, rfl, rfl, HR⟩ := hrel
    clear HI
    have HC : Hid (Cx m w.heap.size wr) := Lib.hid ⟨w, rfl, HR.out.kp, HE.out⟩
    have htz : text.size ≤ 900000 := by have := HR.out.sz; omega
    have hiz : i ≤ 900000 := by have := HR.out.sz; omega
    have HCu := Lib.hid (cutn_any m text wr (by omega) HC.out.env)
    go_wp2_with fail
    refine HCu.out.mono ?_
    rintro e w2 ⟨⟨a, b, f, rfl, hc⟩, hb2⟩
    have hcz := cutn_size hc
    have HR2 := Lib.hid (HR.out.rd.later hb2)
    have HC2 := Lib.hid (HC.out.later hb2)
    have HK2 : Hid (Kept RT w.heap.size w w2) := Lib.hid (HR.out.kp.trans (Kept.of_below hb2 RT _))
    have HX2 := Lib.hid ((hb2.block _ (lt_of_some HR.out.bx)).trans HR.out.bx)
    have HCt := Lib.hid hc
    clear hb2 hc HCu
    cases f with
    | false =>
      have HP : Hid (parseS T.data.toList = .inr (i + 1)) := Lib.hid (by unfold parseS; rw [← HR.out.pr, prs_end HCt.out])
      have x2 := HX2.out
      have y0 := cell_of_blk x2 0
      have y1 := cell_of_blk x2 1
      have y2 := cell_of_blk x2 2
      have y3 := cell_of_blk x2 3
      have y4 := cell_of_blk x2 4
      have y5 := cell_of_blk x2 5
      have z0 := free_of_blk x2 0
      have z1 := free_of_blk x2 1
      have z2 := free_of_blk x2 2
      have z3 := free_of_blk x2 3
      have z4 := free_of_blk x2 4
      have z5 := free_of_blk x2 5
      have x3 := put6_at x2 (.int .i64 0) (.int .i64 0) (.int .i64 0) (.slice none 0 0) (.slice none 0 0) (.slice none 0 0)
      have p0 := cell_of_blk x3 0
      have p1 := cell_of_blk x3 1
      have p2 := cell_of_blk x3 2
      have p3 := cell_of_blk x3 3
      have p4 := cell_of_blk x3 4
      have p5 := cell_of_blk x3 5
      have HF : Hid (ParsedO T w (.returned (.tuple #[scV scb0 (.slice none 0 0) (.slice none 0 0) (.slice none 0 0), .int .i64 ((i + 1 : Nat) : Int)])) (put6 w2 w.heap.size (.int .i64 0) (.int .i64 0) (.int .i64 0) (.slice none 0 0) (.slice none 0 0) (.slice none 0 0))) := Lib.hid
        ⟨.inr ⟨i + 1, HP.out, rfl⟩, put6_below ((HK2.out.below (Nat.le_refl _))) (Nat.le_refl _) _ _ _ _ _ _⟩
      unfold put6 at p0 p1 p2 p3 p4 p5 HF
      clear x2 x3 hcz htz hiz
      go_wp2_with fail
      exact bodyPost_ret (v := .tuple #[scV scb0 (.slice none 0 0) (.slice none 0 0) (.slice none 0 0), .int .i64 ((i + 1 : Nat) : Int)]) (by simp [results, Tryd.results10, go_sem, scV, scb0, p0, p1, p2, p3, p4, p5]) rfl HF.out
    | true =>
      have HT := Lib.hid (take_any m a i w.heap.size (w.heap.size + 1) S k vi vc vp w2 (by omega) (by omega) HR.out.fb HR.out.k3 HR.out.k2 HC2.out HR2.out)
      have HZ := Lib.hid (And.intro hcz (And.intro htz hiz))
      clear hcz htz hiz
      go_wp2_with fail
      refine HT.out.mono ?_
      rintro e w3 ⟨ho, hk3⟩
      have HK3 := Lib.hid (HK2.out.trans hk3)
      have x3 := hk3.blk HX2.out (by unfold RT; decide)
      have HX3 := Lib.hid x3
      clear hk3 HT HR2 HC2 HX2 HK2
      rcases ho with ⟨S', k', vi', vc', vp', htk, rfl, hrd, hfb, hk2⟩ | ⟨htk, rfl⟩
      · by_cases hbe : b.data.toList = []
        · have HP : Hid (parseS T.data.toList = .inl S'.m) := Lib.hid (by unfold parseS; rw [← HR.out.pr, prs_fin HCt.out htk hbe])
          have hb0 : b = ⟨#[]⟩ := data_inj (by rw [hbe])
          subst hb0
          have t1 : ((⟨#[]⟩ : ByteArray).toList == []) = true := by rw [to_list]; rfl
          have y0 := cell_of_blk x3 0
          have y1 := cell_of_blk x3 1
          have y2 := cell_of_blk x3 2
          have y3 := cell_of_blk x3 3
          have y4 := cell_of_blk x3 4
          have y5 := cell_of_blk x3 5
          have z0 := free_of_blk x3 0
          have z1 := free_of_blk x3 1
          have z2 := free_of_blk x3 2
          have z3 := free_of_blk x3 3
          have z4 := free_of_blk x3 4
          have z5 := free_of_blk x3 5
          have r3 := hrd.blk
          have q0 := cell_of_blk hrd.blk 0
          have q1 := cell_of_blk hrd.blk 1
          have q2 := cell_of_blk hrd.blk 2
          have q3 := cell_of_blk hrd.blk 3
          have q4 := cell_of_blk hrd.blk 4
          have q5 := cell_of_blk hrd.blk 5
          have x4 := put6_at x3 (.int .i64 S'.sh) (.int .i64 S'.rm) (.int .i64 S'.cu) vi' vc' vp'
          have p0 := cell_of_blk x4 0
          have p1 := cell_of_blk x4 1
          have p2 := cell_of_blk x4 2
          have p3 := cell_of_blk x4 3
          have p4 := cell_of_blk x4 4
          have p5 := cell_of_blk x4 5
          have hown : Own (put6 w3 w.heap.size (.int .i64 S'.sh) (.int .i64 S'.rm) (.int .i64 S'.cu) vi' vc' vp') w.heap.size S' vi' vc' vp' := by
            refine ⟨put6_own x3 (by decide) hrd.im _ _ _ _ _ _, hrd.cl.map fun he h => put6_own x3 (by rcases he with rfl | rfl <;> decide) h _ _ _ _ _ _, put6_own x3 (by decide) hrd.pk _ _ _ _ _ _⟩
          obtain ⟨A1, c1, h1, _⟩ := lru.own_facts hrd.im
          obtain ⟨vs, hvs, _⟩ := hrd.cl
          obtain ⟨A2, c2, h2, _⟩ := lru.own_facts hvs
          obtain ⟨A3, c3, h3, _⟩ := lru.own_facts hrd.pk
          have HF : Hid (ParsedO T w (.returned (.tuple #[scV S' vi' vc' vp', .int .i64 0])) (put6 w3 w.heap.size (.int .i64 S'.sh) (.int .i64 S'.rm) (.int .i64 S'.cu) vi' vc' vp')) := Lib.hid
            ⟨.inl ⟨S', vi', vc', vp', HP.out, rfl, hown, by
              have hle : i + 1 ≤ T.size + 1 := by have := HR.out.sz; omega
              exact ⟨hfb.sh, hfb.rm, hfb.cu, hfb.pk, hfb.op, Nat.le_trans hfb.li hle, Nat.le_trans hfb.lc hle, fun x hx => Nat.le_trans (hfb.lo x hx) hle⟩⟩, put6_below ((HK3.out.below (Nat.le_refl _))) (Nat.le_refl _) _ _ _ _ _ _⟩
          subst h1 h2 h3
          unfold put6 at p0 p1 p2 p3 p4 p5 HF
          clear x3 x4 r3 hrd hfb hk2 htk hown hvs hbe
          go_wp2_with fail
          exact bodyPost_ret (v := .tuple #[scV S' (.slice A1 S'.im.length c1) (.slice A2 S'.cl.length c2) (.slice A3 S'.pk.length c3), .int .i64 0]) (by simp [results, Tryd.results10, go_sem, scV, p0, p1, p2, p3, p4, p5]) rfl HF.out
        · have hbz : b.size ≠ 0 := fun e => hbe (by have := size_list b; rw [e] at this; exact List.length_eq_zero_iff.1 this)
          have t1 : (b.toList == []) = false := by rw [text_beq, decide_eq_false_iff_not]; exact hbe
          have t2 : b.toList.isEmpty = false := by rw [to_list]; cases hq : b.data.toList with
            | nil => exact absurd hq hbe
            | cons => rfl
          have HI : Hid (PaI m T w w.heap.size (w.heap.size + 1) b (i + 1) S' k' vi' vc' vp' w3) := Lib.hid
            ⟨by rw [← prs_go HCt.out htk hbe]; exact HR.out.pr, by have h1 := HR.out.sz; have h2 := HZ.out.1.2.2 trivial; omega, hrd, hfb, take_k3 htk, hk2, HK3.out, HX3.out, Nat.le_refl _⟩
          have hws : IntKind.i64.wrap ((i : Int) + 1 + 1) = (i : Int) + 1 + 1 := IntWalk.i64_in _ ⟨by omega, by have := HZ.out.2.2; omega⟩
          clear x3 hrd hfb hk2 htk hbe
          go_wp2_with fail
          go_roundw
          case rel => exact ⟨b, i + 1, S', k', vi', vc', vp', rfl, by go_num, HI⟩
          case measure =>
            have h2 := HZ.out.1.2.2 trivial
            simp only [lenS]
            omega
      · have HP : Hid (parseS T.data.toList = .inr (i + 1)) := Lib.hid (by unfold parseS; rw [← HR.out.pr, prs_none HCt.out htk])
        have y0 := cell_of_blk x3 0
        have y1 := cell_of_blk x3 1
        have y2 := cell_of_blk x3 2
        have y3 := cell_of_blk x3 3
        have y4 := cell_of_blk x3 4
        have y5 := cell_of_blk x3 5
        have z0 := free_of_blk x3 0
        have z1 := free_of_blk x3 1
        have z2 := free_of_blk x3 2
        have z3 := free_of_blk x3 3
        have z4 := free_of_blk x3 4
        have z5 := free_of_blk x3 5
        have x4 := put6_at x3 (.int .i64 0) (.int .i64 0) (.int .i64 0) (.slice none 0 0) (.slice none 0 0) (.slice none 0 0)
        have p0 := cell_of_blk x4 0
        have p1 := cell_of_blk x4 1
        have p2 := cell_of_blk x4 2
        have p3 := cell_of_blk x4 3
        have p4 := cell_of_blk x4 4
        have p5 := cell_of_blk x4 5
        have HF : Hid (ParsedO T w (.returned (.tuple #[scV scb0 (.slice none 0 0) (.slice none 0 0) (.slice none 0 0), .int .i64 ((i + 1 : Nat) : Int)])) (put6 w3 w.heap.size (.int .i64 0) (.int .i64 0) (.int .i64 0) (.slice none 0 0) (.slice none 0 0) (.slice none 0 0))) := Lib.hid
          ⟨.inr ⟨i + 1, HP.out, rfl⟩, put6_below ((HK3.out.below (Nat.le_refl _))) (Nat.le_refl _) _ _ _ _ _ _⟩
        unfold put6 at p0 p1 p2 p3 p4 p5 HF
        clear x3 x4 htk
        go_wp2_with fail
        exact bodyPost_ret (v := .tuple #[scV scb0 (.slice none 0 0) (.slice none 0 0) (.slice none 0 0), .int .i64 ((i + 1 : Nat) : Int)]) (by simp [results, Tryd.results10, go_sem, scV, scb0, p0, p1, p2, p3, p4, p5]) rfl HF.out
end Go.Proofs.YtfbgnafnpeeonaaDoor.scr
