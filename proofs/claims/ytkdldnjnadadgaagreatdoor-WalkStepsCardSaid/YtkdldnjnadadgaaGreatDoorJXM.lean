/- Where a walk leads is alike what the document says, for the laws of walk and of what leans on it. Condition: the stack lies in memory. (XWalLawL holds the same for the seat of WalkLeads.) What is seen by the name that was asked for, as one who goes step by step tells it to the walker. Conditions: the stack, the walker lie in memory; the library's MaxLen holds a number. The law WalkSteps: whoever is asked, and told what is seen, name by name, comes to the same. Conditions: the trees lie in memory; the library's MaxLen holds a number; what the law's own speaks answers. That walk speaks: a link to itself, a file, and a link to that. Condition: the library's MaxLen holds a number. -/
import Derived.Test.YtkdldnjnadadgaaGreatDoorJXL
import Derived.Test.YtkdldnjnadadgaaGreatDoorJXI
import Derived.Test.YtkdldnjnadadgaaGreatDoorJXJ
import Derived.Deep.CutRange
import Derived.Deep.RegionHeld3
import Derived.Test.YtkdldnjnadadgaaGreatDoorJH2
namespace Go.Proofs.YtkdldnjnadadgaaGreatDoor.wlk
set_option maxRecDepth 100000
open Go.RowKit Go.Proofs.YtkdldnjnadadgaaGreatDoor.words Go.Proofs.YtkdldnjnadadgaaGreatDoor.ext Go.Proofs.YtkdldnjnadadgaaGreatDoor.name Go.Proofs.YtkdldnjnadadgaaGreatDoor.tre Go.Proofs.YtkdldnjnadadgaaGreatDoor.stk Go.Proofs.YtkdldnjnadadgaaGreatDoor.seen

theorem WalkedTo.alike {R : List Nd} {O : AtO} {w w1 : World} {e : Ending} (A : Option Addr) (c : Nat) (ad : Int) (L : List (Nat × Int)) (hst : StkM w1 A L (tabs R)) (H : WalkedTo R O w e w1) :
    ∃ (S : ByteArray) (K l i : Int) (At : Option Addr) (nt ct : Nat) (k : Int), e = .returned (.tuple #[.agg #[.string S, .int .i64 K, .int .i64 l, .int .i64 i, .slice At nt ct], .int .i64 k]) ∧
      ∀ (w2 : World) (v : Value), Below w1.heap.size w1 w2 → AtIn O v w2 → Calls Tryz.prog 21 #[stkV A L.length c ad, .agg #[.string S, .int .i64 K, .int .i64 l, .int .i64 i, .slice At nt ct], .int .i64 k, v] w2 fun e w' => e = .returned (.int .i64 1) ∧ Below w2.heap.size w2 w' := by
  obtain ⟨⟨k, rfl, hk, _, _, rfl⟩ | ⟨t, At, ct, ns, E, rfl, rfl, hp, hl, hz, hH, hS, hn, hnl, hal, hne, _⟩, hb⟩ := H
  · refine ⟨_, _, _, _, _, _, _, _, rfl, fun w2 v hb2 hv => ?_⟩
    obtain rfl : v = .agg #[.slice none 0 0, .slice none 0 0, .int .i64 k] := hv
    exact alk_err A L.length c ad k w2 hk
  · refine ⟨_, _, _, _, _, _, _, _, rfl, fun w2 v hb2 hv => ?_⟩
    obtain ⟨A1, c1, A2, c2, rs, rfl, hrow, _, _, htr, _⟩ := hv
    rcases E with _ | ⟨d, E'⟩
    · have hns : ns = [] := by
        rcases ns with _ | ⟨n, ns⟩
        · rfl
        · exact absurd rfl (hne (by simp))
      subst hns
      rcases hH with ⟨_, h2, h3, _, h5, h6⟩ | ⟨_, _, _, h1, _⟩
      · have hq : t.Q = [] := List.eq_nil_of_length_eq_zero (by rw [h3.length]; rfl)
        rw [hS, h2, hq]
        exact alk_none A L.length c ad t.l t.i At ct A1 A2 c1 c2 w2
      · cases h1
    · obtain ⟨⟨bn, on, hA2, hbn, hc⟩, hN⟩ := htr 0 d rfl
      subst hA2
      have hc' : ∀ (j : Nat) (v : Value), (rawCells d (rs 0))[j]? = some v → w2.cell? ⟨bn, on + j, none⟩ = some v := fun j v hj => by
        have := hc j v hj
        rw [Nat.zero_mul, Nat.add_zero] at this
        exact this
      have hst2 := hst.later hb2
      rcases hH with ⟨h1, h2, h3, _, h5, h6⟩ | ⟨lv, nd, d', h1, h2, h3, h4, h5, h6, h7⟩
      · have hdK := h1 d (List.mem_cons_self ..)
        have hlen := h3.length
        rcases hQ : t.Q with _ | ⟨⟨lv, nd⟩, Q'⟩
        · rw [hQ] at hlen; simp at hlen
        · obtain ⟨bq, oq, hAt, hbq, q0, q1⟩ := ((hp.keep hb2).more hb2.size) 0 (lv, nd) (by rw [hQ]; rfl)
          subst hAt
          rw [Nat.zero_mul, Nat.add_zero] at q0 q1
          rw [hQ] at h3 h5 h6 hlen
          have e5 : t.l = (lv : Int) := h5
          have e6 : t.i = (nd : Int) := h6
          rw [List.length_cons, List.length_cons] at hlen
          have hl2 : Q'.length = E'.length := by omega
          rw [h2, e5, e6, List.length_cons, List.length_cons, hl2]
          exact alk_dir A c ad L lv nd d bq oq E'.length ct t.S ns A1 c1 bn on c2 (rs 0) w2 hst2 h3.1 hdK hbq q0 q1 hS hnl hn hrow hbn hc' hN
      · injection h1 with e1 e2
        subst e1
        subst e2
        rw [h4, h5, h6, h7]
        exact alk_leaf A c ad L lv nd d d.K At 0 ct t.S ns A1 c1 bn on c2 (rs 0) w2 hst2 h3 rfl (by rcases h2 with h | h <;> rw [h] <;> decide) hS hnl hn hrow hbn hc' hN
end Go.Proofs.YtkdldnjnadadgaaGreatDoor.wlk

namespace Go.Proofs.YtkdldnjnadadgaaGreatDoor.wlk
set_option maxRecDepth 100000
open Go.RowKit Go.Proofs.YtkdldnjnadadgaaGreatDoor.words Go.Proofs.YtkdldnjnadadgaaGreatDoor.ext Go.Proofs.YtkdldnjnadadgaaGreatDoor.name Go.Proofs.YtkdldnjnadadgaaGreatDoor.tre Go.Proofs.YtkdldnjnadadgaaGreatDoor.stk Go.Proofs.YtkdldnjnadadgaaGreatDoor.seen

/-- What is found, and what becomes of it. -/
def FoundS (R : List Nd) (f : Bool) (O : AtO) (g : Nat) (ts : List Tg) (t : Tg) (p : ByteArray) (ps : List ByteArray) (h : Nat) (A : Option Addr) (n c : Nat) (ad : Int) (w1 : World) (en : Ending) (w2 : World) : Prop :=
  ∃ (K l i : Int) (Af : Option Addr) (nf cf : Nat) (there : Bool) (x : ByteArray), en = .returned (.tuple #[.agg #[.int .i64 K, .int .i64 l, .int .i64 i, .slice Af nf cf], .bool there]) ∧ Below w1.heap.size w1 w2 ∧
    (K ≠ 3 → x = ⟨#[]⟩) ∧ (K = 3 → there = true ∧ ∃ yb : Nat, (∀ w' : World, Below w2.heap.size w2 w' → Calls Tryz.prog 25 #[stkV A n c ad, .int .i64 l] w' fun e w'' => e = .returned (.pointer (some ⟨yb, 0, none⟩)) ∧ Below w'.heap.size w' w'') ∧
      (∀ w' : World, Below w2.heap.size w2 w' → Calls Tryz.prog 26 #[.pointer (some ⟨yb, 0, none⟩), .int .i64 i] w' fun e w'' => e = .returned (.string x) ∧ Below w'.heap.size w' w'')) ∧
    (∀ w' : World, Below w2.heap.size w2 w' → Wkr w' g (ts ++ [t]) (p :: ps) f h → Calls Tryz.prog 20 #[.pointer (some ⟨g, 0, none⟩), .agg #[.int .i64 K, .int .i64 l, .int .i64 i, .slice Af nf cf], .bool there, .string x] w' (Stepped R f O g ps h w'))
theorem look_law {R : List Nd} {f : Bool} {O : AtO} {ts : List Tg} {t : Tg} {ns ps : List ByteArray} {p : ByteArray} {h : Nat} {E Q' : List Nd} {g : Nat} (hg : ∀ t ∈ R, allB t = true) (hk : ∀ d ∈ R, depth d < 100) (hR : R.length ≤ 64) (hw : WayD R (ts ++ [t]) ns) (hL : Leads R f ns (p :: ps) (40 - h) O) (hp : p ≠ dd)
    (hn : ∀ n ∈ ns, NmD n) (hs : ∀ q ∈ p :: ps, Nm q) (hh : h ≤ 40) (hf : (p :: ps).length + (40 - h) * 520 ≤ 30000) (hE : Along (D0 R) ns E) (hQ : EntN p E Q') (hS : t.S = pathOf ns) (hq : PlQ R ns t.Q)
    (A : Option Addr) (c : Nat) (ad : Int) (L : List (Nat × Int)) (m : Int) {w1 w2 : World} {en : Ending} (hst : StkM w1 A L (tabs R)) (hm : w1.cell? ⟨1, 0, none⟩ = some (.int .i64 m)) (H : SawP R t.Q E p Q' w1 en w2) :
    FoundS R f O g ts t p ps h A L.length c ad w1 en w2 := by
  obtain ⟨H, hb⟩ := H
  have hst2 := hst.later hb
  have hm2 := below_cell hm hb
  have hnl := hw.deep hk
  have htl : ts.length = ns.length := by have := hw.1; simp at this; omega
  have hSz : t.S.size ≤ 1000000000 := by
    have h1 := pathOf_size ns ⟨#[47]⟩ fun n h => (hn n h).1.1
    rw [hS]
    unfold pathOf
    have h2 : (⟨#[47]⟩ : ByteArray).size = 1 := rfl
    omega
  have hpz := (hs p (List.mem_cons_self ..)).1
  rw [List.length_cons] at hf
  have hgE := (hE.good (Good.root hg)).seen hQ
  have hql : (seenOf Q').length ≤ 64 := by
    have h1 := seenOf_len Q'
    have h2 := hQ.len
    have h3 := hE.len
    have h4 := D0_len R
    omega
  have hqs : ∀ (x : ByteArray) (Q : List ByteArray), parts x.data.toList = some (Q.map fun y => y.data.toList) → Q.length ≤ 1000000 := fun x Q hq => by
    have := parts_len hq
    rw [List.length_map] at this
    omega
  have hz0 : (⟨#[]⟩ : ByteArray).size ≤ 1000000000 := by decide
  rcases H with ⟨h1, rfl⟩ | ⟨⟨lv, nd⟩, d, Q0, h1, h2, h3, _, rfl, hq1, hq2⟩ | ⟨⟨lv, nd⟩, d, Q, A', c', Q0, h1, h2, h3, _, h5, h6, h7, h8, rfl, h9, h10, hq1, _, hq2⟩
  · refine ⟨0, 0, 0, none, 0, 0, false, ⟨#[]⟩, rfl, hb, fun _ => rfl, fun h => absurd h (by decide), fun w' hb' hwk => ?_⟩
    · exact (tell_any w' g ts t p ps f h 0 0 0 [] none 0 false ⟨#[]⟩ m hwk plc_nil (fun _ => ⟨rfl, rfl⟩) (below_cell hm2 hb') hz0 (by simp) (by omega) hSz (by omega) (by omega) (hqs _) (by omega)).mono fun e w'' H => step_away hg hL hp hE hQ h1 H
  · obtain ⟨x, hx0, hx1, hx2, hx3⟩ : ∃ x : ByteArray, (d.K ≠ 3 → x = ⟨#[]⟩) ∧ (d.K = 3 → (true = true) ∧ ∃ yb : Nat, (∀ w' : World, Below w2.heap.size w2 w' → Calls Tryz.prog 25 #[stkV A L.length c ad, .int .i64 (lv : Int)] w' fun e w'' => e = .returned (.pointer (some ⟨yb, 0, none⟩)) ∧ Below w'.heap.size w' w'') ∧
      (∀ w' : World, Below w2.heap.size w2 w' → Calls Tryz.prog 26 #[.pointer (some ⟨yb, 0, none⟩), .int .i64 (nd : Int)] w' fun e w'' => e = .returned (.string x) ∧ Below w'.heap.size w' w'')) ∧ (d.K = 3 → x = d.T) ∧ x.size ≤ 1000000000 := by
      by_cases hK : d.K = 3
      · refine ⟨d.T, fun h => absurd hK h, fun _ => ⟨rfl, ?_⟩, fun _ => rfl, ?_⟩
        · obtain ⟨t', ht, htd⟩ := id h2
          have hE' := tabs_at ht
          have hEe : (flatN 0 t')[nd]? = some (entOf nd d) := flat_at htd
          obtain ⟨y, hy⟩ : ∃ y, L[lv]? = some y := ⟨_, List.getElem?_eq_getElem (by rw [← hst2.es]; exact (List.getElem?_eq_some_iff.1 hE').1)⟩
          exact ⟨y.1, fun w' hb' => (sat_yes A L.length c lv ad L y w' (hst2.later hb').rows rfl hy).mono fun e w'' ⟨h1, h2⟩ => ⟨h1, h2⟩, fun w' hb' =>
            (btarget_yes y.1 nd _ _ w' ((hst2.later hb').brs lv y _ hy hE') hEe).mono fun _ _ ⟨he, hw⟩ => ⟨by rw [he, show (entOf nd d).x.T = d.T from alone_T d], hw⟩⟩
        · have := (link_parts (hgE.one (by rw [h1]; exact List.mem_cons_self ..)) hK).1
          omega
      · exact ⟨⟨#[]⟩, fun _ => rfl, fun h => absurd h hK, fun h => absurd h hK, hz0⟩
    refine ⟨d.K, lv, nd, none, 0, 0, true, x, rfl, hb, hx0, hx1, fun w' hb' hwk => ?_⟩
    exact (tell_any w' g ts t p ps f h d.K lv nd [] none 0 true x m hwk plc_nil (fun _ => ⟨rfl, rfl⟩) (below_cell hm2 hb') hx3 (by simp) (by omega) hSz (by omega) (by omega) (hqs _) (by omega)).mono fun e w'' H =>
      step_other hg hk hw hL hp hn hs hh (by rw [List.length_cons]; exact hf) hE hQ hS h1 h2 h3 hx2 hq hq1 hq2 H
  · have hlen := h5.length
    rw [h3]
    refine ⟨2, lv, nd, A', Q.length, c', true, ⟨#[]⟩, rfl, hb, fun _ => rfl, fun h => absurd h (by decide), fun w' hb' hwk => ?_⟩
    · exact (tell_any w' g ts t p ps f h 2 lv nd Q A' c' true ⟨#[]⟩ m hwk ((h9.keep hb').more hb'.size) (fun e => absurd e (plc_some h9 h7)) (below_cell hm2 hb') hz0 (by omega) (by omega) hSz (by omega) (by omega) (hqs _) (by omega)).mono fun e w'' H =>
        step_dir hg hk hw hL hp hn hs hh (by rw [List.length_cons]; exact hf) hE hQ hS (fun e => by rw [e] at h1; simp at h1) h5 h6 h7 h8 hq hq1 hq2 H
theorem at_err {O : AtO} {A1 A2 : Option Addr} {n1 c1 n2 c2 : Nat} {kz k : Int} {w : World} (h : AtIn O (.agg #[.slice A1 n1 c1, .slice A2 n2 c2, .int .i64 kz]) w) (hO : O = .err k) : kz = k := by
  subst hO
  have h : Value.agg #[.slice A1 n1 c1, .slice A2 n2 c2, .int .i64 kz] = .agg #[.slice none 0 0, .slice none 0 0, .int .i64 k] := h
  injection h with h
  have h := congrArg (fun x : Array Value => x[2]?) h
  simp at h
  exact h
end Go.Proofs.YtkdldnjnadadgaaGreatDoor.wlk

namespace Go.Proofs.YtkdldnjnadadgaaGreatDoor.wlk
set_option maxRecDepth 100000
open Go.RowKit Go.Proofs.YtkdldnjnadadgaaGreatDoor.words Go.Proofs.YtkdldnjnadadgaaGreatDoor.ext Go.Proofs.YtkdldnjnadadgaaGreatDoor.name Go.Proofs.YtkdldnjnadadgaaGreatDoor.tre Go.Proofs.YtkdldnjnadadgaaGreatDoor.stk Go.Proofs.YtkdldnjnadadgaaGreatDoor.seen

/-- What New has handed back. -/
def NewIs (s : ByteArray) (P : List (Nat × Nat)) (f : Bool) (B : Nat) (v : Option Addr) (k : Int) (w : World) : Prop :=
  (parts s.data.toList = none ∧ v = none ∧ k = 1) ∨ ∃ (PP : List ByteArray) (g : Nat), parts s.data.toList = some (PP.map fun y => y.data.toList) ∧ v = some ⟨g, 0, none⟩ ∧ k = 0 ∧ B ≤ g ∧ Wkr w g ([topT P].take (upK 1 PP)) (restP PP) f 0
set_option maxHeartbeats 25600000 in
theorem law_steps (A : Option Addr) (c : Nat) (T : List Nd) (rs : Nat → Raw) (s : ByteArray) (f : Bool) (m : Int) (w : World) (hT : Trees w w.heap.size A T rs) (hm : w.cell? ⟨1, 0, none⟩ = some (.int .i64 m)) (hs : s.size ≤ 140737488355328) (hl : T.length * 112 ≤ 140737488355328)
    (hsp : ∀ w' : World, w'.cell? ⟨1, 0, none⟩ = some (.int .i64 m) → Calls Tryz.prog 12 #[] w' fun e w'' => e = .returned (.bool true) ∧ Below w'.heap.size w' w'') :
    Calls Tryz.prog 3 #[.agg #[.slice A T.length c, .string s, .bool f]] w fun e w' => e = .returned (.bool true) ∧ Below w.heap.size w w' := by
  obtain ⟨W1, hW1⟩ : ∃ W1, W1 = w.alloc (.cells #[.slice A T.length c, .string s, .bool f] 24) := ⟨_, rfl⟩
  have hb1 : Below w.heap.size w W1 := by rw [hW1]; exact (Below.refl _ _).alloc (Nat.le_refl _) _
  have HC1 := Lib.hid (show W1.heap[w.heap.size]? = some (.cells #[.slice A T.length c, .string s, .bool f] 24 (0, 0)) by rw [hW1]; exact heap_alloc_new w _)
  have HT := Lib.hid (hT.later hb1)
  have HM := Lib.hid (below_cell hm hb1)
  have HB1 := Lib.hid hb1
  have HSp := Lib.hid (hsp W1 HM.out)
  have HW1 := Lib.hid hW1
  clear hT hm hW1 hb1 hsp
  go_enter Tryz.func3, Tryz.ntmps3
  go_upto_region 1 with fail
  rw [← HW1.out]
  clear HW1
  go_wp2_with fail
  refine HSp.out.mono ?_
  rintro e w2 ⟨rfl, hb2⟩
  have HB2 := Lib.hid hb2
  have e1 := (hb2.block _ (lt_of_some HC1.out)).trans HC1.out
  have c0 : w2.cell? ⟨w.heap.size, 0, none⟩ = some (.slice A T.length c) := cell_of_blk e1 0
  have HMa := Lib.hid (may_any A c T rs w2 (HT.out.later hb2))
  clear hb2 e1 HSp
  go_wp2_with fail
  refine HMa.out.mono ?_
  rintro e w3 ⟨rfl, hb3⟩
  have HB3 := Lib.hid (HB2.out.trans (hb3.mono HB2.out.size))
  have e1 := (HB3.out.block _ (lt_of_some HC1.out)).trans HC1.out
  have c1 : w3.cell? ⟨w.heap.size, 1, none⟩ = some (.string s) := cell_of_blk e1 1
  clear hb3 HMa c0
  rcases hmay : mayB T with _ | _
  · rw [mayI_no hmay]
    have HF := Lib.hid (HB1.out.trans (HB3.out.mono HB1.out.size))
    clear e1 hmay
    go_wp2_with fail
    go_ret
    exact ⟨rfl, HF.out⟩
  rw [mayI_yes hmay]
  have HMay := Lib.hid hmay
  have hT8 := mayB_len hmay
  clear hmay
  by_cases hn : 1100 < s.size
  · have g : (1100 : Int) < (s.size : Int) := by omega
    have HF := Lib.hid (HB1.out.trans (HB3.out.mono HB1.out.size))
    clear e1
    go_wp2_with fail
    go_ret
    exact ⟨rfl, HF.out⟩
  have g : ¬ (1100 : Int) < (s.size : Int) := by omega
  have c0 : w3.cell? ⟨w.heap.size, 0, none⟩ = some (.slice A T.length c) := cell_of_blk e1 0
  have HSt := Lib.hid (stack_any A c T rs m w3 (HT.out.later HB3.out) (below_cell HM.out HB3.out))
  clear e1
  go_wp2_with fail
  refine HSt.out.mono ?_
  rintro e w4 ⟨hst, hb4⟩
  rcases hst with ⟨_, A', c', L, rfl, hok⟩ | ⟨hno, _⟩
  rotate_left 1
  · rw [HMay.out] at hno; cases hno
  obtain ⟨W5, hW5⟩ : ∃ W5, W5 = w4.alloc (.cells #[.slice A' T.length c', .int .i64 (T.length : Int)] 29) := ⟨_, rfl⟩
  have hb5 : Below w4.heap.size w4 W5 := by rw [hW5]; exact (Below.refl _ _).alloc (Nat.le_refl _) _
  have HK := Lib.hid (show W5.heap[w4.heap.size]? = some (.cells #[.slice A' T.length c', .int .i64 (T.length : Int)] 29 (0, 0)) by rw [hW5]; exact heap_alloc_new w4 _)
  have hb15 : Below W1.heap.size W1 W5 := HB3.out.trans ((hb4.trans (hb5.mono hb4.size)).mono HB3.out.size)
  have HB5 := Lib.hid hb15
  obtain ⟨R, hR⟩ : ∃ R, R = T.reverse := ⟨_, rfl⟩
  have hstM := StkOk.stkM (hok.later hb5)
  have hlen := hok.len
  have hfine := (fine_of HT.out HMay.out).rev
  rw [← hR] at hstM hfine
  have hRl : R.length = T.length := by rw [hR, List.length_reverse]
  have hdeep : ∀ d ∈ R, depth d < 100 := fun d hd => by have := hfine.deep d hd; omega
  obtain ⟨O, hO⟩ := Goes.some (f := f) hfine.all s
  have HS5 := Lib.hid hstM
  have HLn := Lib.hid hlen
  have HSl : Hid (s.size ≤ 1100) := Lib.hid (by omega)
  have HAb : Hid (∀ w' : World, Below W5.heap.size W5 w' → Calls Tryz.prog 16 #[.slice A T.length c] w' fun e w'' => (∃ Aa ca qs, e = .returned (.slice Aa R.length ca) ∧ Trees w'' w''.heap.size Aa R qs) ∧ Below w'.heap.size w' w'') := Lib.hid fun w' hb => by
    have h1 := above_any A c T rs w' (HT.out.later (hb15.trans (hb.mono hb15.size))) (by omega)
    rw [← hR] at h1
    exact h1.mono fun e w'' ⟨Aa, ca, qs, h2, h3, _, h4⟩ => ⟨⟨Aa, ca, qs, h2, h3⟩, h4⟩
  have HRf : Hid (∀ (w' : World) (Aa : Option Addr) (ca : Nat) (qs : Nat → Raw), Trees w' w'.heap.size Aa R qs → Calls Tryz.prog 15 #[.slice Aa R.length ca, .string s, .bool f] w' fun e w'' => (∃ (B1 : Option Addr) (m1 e1 : Nat) (B2 : Option Addr) (m2 e2 : Nat) (kz : Int), e = .returned (.agg #[.slice B1 m1 e1, .slice B2 m2 e2, .int .i64 kz]) ∧ AtIn O (.agg #[.slice B1 m1 e1, .slice B2 m2 e2, .int .i64 kz]) w'') ∧ Below w'.heap.size w' w'') := Lib.hid fun w' Aa ca qs h =>
    (refwalk_any hfine.all (by omega) Aa ca qs s f O w' h (by omega) hO).mono fun e w'' ⟨⟨v, he, hv⟩, hw⟩ => by
      obtain ⟨B1, m1, e1, B2, m2, e2, kz, rfl⟩ := hv.shape
      exact ⟨⟨B1, m1, e1, B2, m2, e2, kz, he, hv⟩, hw⟩
  have hCS : ∀ w' : World, Below W5.heap.size W5 w' → (w'.cell? ⟨w.heap.size, 0, none⟩ = some (.slice A T.length c) ∧ w'.cell? ⟨w.heap.size, 1, none⟩ = some (.string s) ∧ w'.cell? ⟨w.heap.size, 2, none⟩ = some (.bool f) ∧ w'.cell? ⟨w4.heap.size, 0, none⟩ = some (.slice A' T.length c') ∧ w'.cell? ⟨w4.heap.size, 1, none⟩ = some (.int .i64 (T.length : Int)) ∧ Below W5.heap.size W5 w') := fun w' hb' => by
    have e1 := (hb'.block _ (lt_of_some ((hb15.block _ (lt_of_some HC1.out)).trans HC1.out))).trans ((hb15.block _ (lt_of_some HC1.out)).trans HC1.out)
    have e2 := (hb'.block _ (lt_of_some HK.out)).trans HK.out
    exact ⟨cell_of_blk e1 0, cell_of_blk e1 1, cell_of_blk e1 2, cell_of_blk e2 0, cell_of_blk e2 1, hb'⟩
  have HSS_1 := Lib.hid hCS
  have HFi := Lib.hid hfine
  have HDp := Lib.hid hdeep
  have HO := Lib.hid hO
  have HR := Lib.hid hR
  have HRl := Lib.hid hRl
  have HM5 := Lib.hid (below_cell HM.out hb15)
  have HB15 := Lib.hid (HB1.out.trans (hb15.mono HB1.out.size))
  have HW5 := Lib.hid hW5.symm
  clear hb4 hok hW5 hb5 hb15 hR hstM hlen hfine hRl hdeep hO HSt c0 hCS c1
  go_upto_region 8 with fail
  rw [HW5.out]
  clear HW5
  go_cut [5] from 40 to 48 (fun v wx => ∃ (gf : Nat) (B1 : Option Addr) (m1 e1 : Nat) (B2 : Option Addr) (m2 e2 : Nat) (kz : Int), v = .pointer (some ⟨gf, 0, none⟩) ∧ Hid (AtIn O (.agg #[.slice B1 m1 e1, .slice B2 m2 e2, .int .i64 kz]) wx) ∧ Hid (wx.heap[gf]? = some (bx3 B1 B2 m1 e1 m2 e2 kz)) ∧ Hid (Below W5.heap.size W5 wx))
  case first =>
    obtain ⟨V, hV⟩ : ∃ V, V = World.drew W5 := ⟨_, rfl⟩
    have HBV := Lib.hid (show Below W5.heap.size W5 V by rw [hV]; exact (Below.refl _ _).drew)
    refine wp_region_held_drew (S := fun w' => (w'.cell? ⟨w.heap.size, 0, none⟩ = some (.slice A T.length c) ∧ w'.cell? ⟨w.heap.size, 1, none⟩ = some (.string s) ∧ w'.cell? ⟨w.heap.size, 2, none⟩ = some (.bool f) ∧ w'.cell? ⟨w4.heap.size, 0, none⟩ = some (.slice A' T.length c') ∧ w'.cell? ⟨w4.heap.size, 1, none⟩ = some (.int .i64 (T.length : Int)) ∧ Below W5.heap.size W5 w')) (by kernel_rfl) (by rw [← hV]; exact HSS_1.out _ HBV.out) (fun hHeld => ?_)
    rw [← hV] at hHeld ⊢
    clear hV
    refine wpAnyH_take (i := 0) (oi := ⟨some 40, _, _, _, _, _⟩) (v := ?_) rfl (by kernel_rfl) (by kernel_rfl) (by kernel_rfl) (fun _ _ _ h => h) (Or.inl ⟨by kernel_rfl, ?_⟩) (by assumption) ?_
    rotate_left 1
    focus (intro w' hSw; (try dsimp only at hSw); go_simp; (try with_reducible rfl))
    try simp only [Act.put, List.setIfInBounds_toArray, List.set_cons_zero, List.set_cons_succ]
    refine wpAnyH_take (i := 1) (oi := ⟨some 41, _, _, _, _, _⟩) (v := ?_) rfl (by kernel_rfl) (by kernel_rfl) (by kernel_rfl) (fun _ _ _ h => h) (Or.inl ⟨by kernel_rfl, ?_⟩) (by assumption) ?_
    rotate_left 1
    focus (intro w' hSw; (try dsimp only at hSw); go_simp; (try with_reducible rfl))
    try simp only [Act.put, List.setIfInBounds_toArray, List.set_cons_zero, List.set_cons_succ]
    refine wpAnyH_take (i := 3) (oi := ⟨some 43, _, _, _, _, _⟩) (v := ?_) rfl (by kernel_rfl) (by kernel_rfl) (by kernel_rfl) (fun _ _ _ h => h) (Or.inl ⟨by kernel_rfl, ?_⟩) (by assumption) ?_
    rotate_left 1
    focus (intro w' hSw; (try dsimp only at hSw); go_simp; (try with_reducible rfl))
    try simp only [Act.put, List.setIfInBounds_toArray, List.set_cons_zero, List.set_cons_succ]
    refine wpAnyH_take (i := 4) (oi := ⟨some 44, _, _, _, _, _⟩) (v := ?_) rfl (by kernel_rfl) (by kernel_rfl) (by kernel_rfl) (fun _ _ _ h => h) (Or.inl ⟨by kernel_rfl, ?_⟩) (by assumption) ?_
    rotate_left 1
    focus (intro w' hSw; (try dsimp only at hSw); go_simp; (try with_reducible rfl))
    try simp only [Act.put, List.setIfInBounds_toArray, List.set_cons_zero, List.set_cons_succ]
    refine wpAnyH_take (i := 5) (oi := ⟨some 45, _, _, _, _, _⟩) (v := ?_) rfl (by kernel_rfl) (by kernel_rfl) (by kernel_rfl) (fun _ _ _ h => h) (Or.inl ⟨by kernel_rfl, ?_⟩) (by assumption) ?_
    rotate_left 1
    focus (intro w' hSw; (try dsimp only at hSw); go_simp; (try with_reducible rfl))
    try simp only [Act.put, List.setIfInBounds_toArray, List.set_cons_zero, List.set_cons_succ]
    refine wpAnyH_take (i := 6) (oi := ⟨some 46, _, _, _, _, _⟩) (v := ?_) rfl (by kernel_rfl) (by kernel_rfl) (by kernel_rfl) (fun _ _ _ h => h) (Or.inl ⟨by kernel_rfl, ?_⟩) (by assumption) ?_
    rotate_left 1
    focus (intro w' hSw; (try dsimp only at hSw); go_simp; (try with_reducible rfl))
    try simp only [Act.put, List.setIfInBounds_toArray, List.set_cons_zero, List.set_cons_succ]
    refine wpAnyH_ready (rs := [2, 8]) (by kernel_rfl) (by simp) ?_
    refine AllReadyH.cons rfl (fun K hK => ?_) (AllReadyH.cons rfl (fun K hK => ?_) AllReadyH.nil)
    · skip
      go_simp
      go_at_call 16
      refine (HAb.out _ HBV.out).mono ?_
      rintro en v1 ⟨⟨Aa, ca, qs, rfl, hp⟩, hv1⟩
      have HBv1 := Lib.hid (HBV.out.trans (hv1.mono (HBV.out).size))
      have HPv1 := Lib.hid hp
      clear hv1 hp
      clear hHeld
      refine hK.out _ _ (HSS_1.out _ HBv1.out) (fun hHeld => ?_)
      clear hK
      try simp only [Act.put, List.setIfInBounds_toArray, List.set_cons_zero, List.set_cons_succ]
      refine wpAnyH_ready (rs := [7, 8]) (by kernel_rfl) (by simp) ?_
      refine AllReadyH.cons rfl (fun K hK => ?_) (AllReadyH.cons rfl (fun K hK => ?_) AllReadyH.nil)
      · skip
        go_simp
        go_at_call 15
        refine (HRf.out _ Aa ca qs HPv1.out).mono ?_
        rintro en v2 ⟨⟨B1, m1, e1, B2, m2, e2, kz, rfl, hh⟩, hv2⟩
        have HBv2 := Lib.hid (HBv1.out.trans (hv2.mono (HBv1.out).size))
        have HAv2 := Lib.hid hh
        clear hv2 hh
        clear hHeld
        refine hK.out _ _ (HSS_1.out _ HBv2.out) (fun hHeld => ?_)
        clear hK
        try simp only [Act.put, List.setIfInBounds_toArray, List.set_cons_zero, List.set_cons_succ]
        refine wpAnyH_ready (rs := [8]) (by kernel_rfl) (by simp) ?_
        refine AllReadyH.cons rfl (fun K hK => ?_) AllReadyH.nil
        obtain ⟨v3, hv3⟩ : ∃ v3, v3 = World.alloc v2 (.cells #[.slice none 0 0, .slice none 0 0, .int .i64 0] 34) := ⟨_, rfl⟩
        have hxv3 : Below (World.heap v2).size v2 v3 := by rw [hv3]; exact (Below.refl _ _).alloc (Nat.le_refl _) _
        have HBv3 := Lib.hid (HBv2.out.trans (hxv3.mono (HBv2.out).size))
        have HGv3 := Lib.hid (show v3.heap[(World.heap v2).size]? = some (bx3 none none 0 0 0 0 0) by rw [hv3]; exact heap_alloc_new v2 _)
        have HAv3 := Lib.hid (HAv2.out.later hxv3)
        go_simp
        rw [← hv3]
        clear hv3 hxv3
        clear hHeld
        refine hK.out _ _ (HSS_1.out _ HBv3.out) (fun hHeld => ?_)
        clear hK
        try simp only [Act.put, List.setIfInBounds_toArray, List.set_cons_zero, List.set_cons_succ]
        refine wpAnyH_ready (rs := [9]) (by kernel_rfl) (by simp) ?_
        refine AllReadyH.cons rfl (fun K hK => ?_) AllReadyH.nil
        have hz := HGv3.out
        unfold bx3 at hz
        have c0z := cell_of_blk hz 0
        have z0 := free_of_blk hz 0
        have c1z := cell_of_blk hz 1
        have z1 := free_of_blk hz 1
        have c2z := cell_of_blk hz 2
        have z2 := free_of_blk hz 2
        obtain ⟨v4, hv4⟩ : ∃ v4, v4 = ((World.setCell v3 ⟨(World.heap v2).size, 0, none⟩ (.slice B1 m1 e1)).setCell ⟨(World.heap v2).size, 1, none⟩ (.slice B2 m2 e2)).setCell ⟨(World.heap v2).size, 2, none⟩ (.int .i64 kz) := ⟨_, rfl⟩
        have hyv4 := over3 (u0 := .slice B1 m1 e1) (u1 := .slice B2 m2 e2) (u2 := .int .i64 kz) HGv3.out
        have htv4 := tur3 v3 ((World.heap v2).size) (.slice B1 m1 e1) (.slice B2 m2 e2) (.int .i64 kz)
        unfold set3 at hyv4 htv4
        rw [← hv4] at hyv4 htv4
        have HGv4 : Hid (v4.heap[(World.heap v2).size]? = some (bx3 B1 B2 m1 e1 m2 e2 kz)) := Lib.hid hyv4
        have HAv4 := Lib.hid (HAv3.out.tur HGv3.out htv4)
        have hle : W5.heap.size ≤ (World.heap v2).size := HBv2.out.size
        have HBv4 := Lib.hid (HBv3.out.trans (htv4.low hle HBv3.out.size))
        go_simp
        rw [← hv4]
        clear hv4 hyv4 htv4 hle hz c0z c1z c2z z0 z1 z2
        clear hHeld
        refine hK.out _ _ (HSS_1.out _ HBv4.out) (fun hHeld => ?_)
        clear hK
        try simp only [Act.put, List.setIfInBounds_toArray, List.set_cons_zero, List.set_cons_succ]
        refine wpAnyH_done (by kernel_rfl) ?_ _
        clear hHeld
        go_wp2_with fail
        go_meet
        case rel => exact ⟨_, B1, m1, e1, B2, m2, e2, kz, rfl, HAv4, HGv4, HBv4⟩
      · skip
        obtain ⟨v2, hv2⟩ : ∃ v2, v2 = World.alloc v1 (.cells #[.slice none 0 0, .slice none 0 0, .int .i64 0] 34) := ⟨_, rfl⟩
        have hxv2 : Below (World.heap v1).size v1 v2 := by rw [hv2]; exact (Below.refl _ _).alloc (Nat.le_refl _) _
        have HBv2 := Lib.hid (HBv1.out.trans (hxv2.mono (HBv1.out).size))
        have HGv2 := Lib.hid (show v2.heap[(World.heap v1).size]? = some (bx3 none none 0 0 0 0 0) by rw [hv2]; exact heap_alloc_new v1 _)
        have HPv2 := Lib.hid (HPv1.out.later hxv2)
        go_simp
        rw [← hv2]
        clear hv2 hxv2
        clear hHeld
        refine hK.out _ _ (HSS_1.out _ HBv2.out) (fun hHeld => ?_)
        clear hK
        try simp only [Act.put, List.setIfInBounds_toArray, List.set_cons_zero, List.set_cons_succ]
        refine wpAnyH_ready (rs := [7]) (by kernel_rfl) (by simp) ?_
        refine AllReadyH.cons rfl (fun K hK => ?_) AllReadyH.nil
        go_simp
        go_at_call 15
        refine (HRf.out _ Aa ca qs HPv2.out).mono ?_
        rintro en v3 ⟨⟨B1, m1, e1, B2, m2, e2, kz, rfl, hh⟩, hv3⟩
        have HBv3 := Lib.hid (HBv2.out.trans (hv3.mono (HBv2.out).size))
        have HAv3 := Lib.hid hh
        have HGv3 := Lib.hid ((hv3.block _ (lt_of_some HGv2.out)).trans HGv2.out)
        clear hv3 hh
        clear hHeld
        refine hK.out _ _ (HSS_1.out _ HBv3.out) (fun hHeld => ?_)
        clear hK
        try simp only [Act.put, List.setIfInBounds_toArray, List.set_cons_zero, List.set_cons_succ]
        refine wpAnyH_ready (rs := [9]) (by kernel_rfl) (by simp) ?_
        refine AllReadyH.cons rfl (fun K hK => ?_) AllReadyH.nil
        have hz := HGv3.out
        unfold bx3 at hz
        have c0z := cell_of_blk hz 0
        have z0 := free_of_blk hz 0
        have c1z := cell_of_blk hz 1
        have z1 := free_of_blk hz 1
        have c2z := cell_of_blk hz 2
        have z2 := free_of_blk hz 2
        obtain ⟨v4, hv4⟩ : ∃ v4, v4 = ((World.setCell v3 ⟨(World.heap v1).size, 0, none⟩ (.slice B1 m1 e1)).setCell ⟨(World.heap v1).size, 1, none⟩ (.slice B2 m2 e2)).setCell ⟨(World.heap v1).size, 2, none⟩ (.int .i64 kz) := ⟨_, rfl⟩
        have hyv4 := over3 (u0 := .slice B1 m1 e1) (u1 := .slice B2 m2 e2) (u2 := .int .i64 kz) HGv3.out
        have htv4 := tur3 v3 ((World.heap v1).size) (.slice B1 m1 e1) (.slice B2 m2 e2) (.int .i64 kz)
        unfold set3 at hyv4 htv4
        rw [← hv4] at hyv4 htv4
        have HGv4 : Hid (v4.heap[(World.heap v1).size]? = some (bx3 B1 B2 m1 e1 m2 e2 kz)) := Lib.hid hyv4
        have HAv4 := Lib.hid (HAv3.out.tur HGv3.out htv4)
        have hle : W5.heap.size ≤ (World.heap v1).size := HBv1.out.size
        have HBv4 := Lib.hid (HBv3.out.trans (htv4.low hle HBv3.out.size))
        go_simp
        rw [← hv4]
        clear hv4 hyv4 htv4 hle hz c0z c1z c2z z0 z1 z2
        clear hHeld
        refine hK.out _ _ (HSS_1.out _ HBv4.out) (fun hHeld => ?_)
        clear hK
        try simp only [Act.put, List.setIfInBounds_toArray, List.set_cons_zero, List.set_cons_succ]
        refine wpAnyH_done (by kernel_rfl) ?_ _
        clear hHeld
        go_wp2_with fail
        go_meet
        case rel => exact ⟨_, B1, m1, e1, B2, m2, e2, kz, rfl, HAv4, HGv4, HBv4⟩
    · skip
      obtain ⟨v1, hv1⟩ : ∃ v1, v1 = World.alloc V (.cells #[.slice none 0 0, .slice none 0 0, .int .i64 0] 34) := ⟨_, rfl⟩
      have hxv1 : Below (World.heap V).size V v1 := by rw [hv1]; exact (Below.refl _ _).alloc (Nat.le_refl _) _
      have HBv1 := Lib.hid (HBV.out.trans (hxv1.mono (HBV.out).size))
      have HGv1 := Lib.hid (show v1.heap[(World.heap V).size]? = some (bx3 none none 0 0 0 0 0) by rw [hv1]; exact heap_alloc_new V _)
      go_simp
      rw [← hv1]
      clear hv1 hxv1
      clear hHeld
      refine hK.out _ _ (HSS_1.out _ HBv1.out) (fun hHeld => ?_)
      clear hK
      try simp only [Act.put, List.setIfInBounds_toArray, List.set_cons_zero, List.set_cons_succ]
      refine wpAnyH_ready (rs := [2]) (by kernel_rfl) (by simp) ?_
      refine AllReadyH.cons rfl (fun K hK => ?_) AllReadyH.nil
      go_simp
      go_at_call 16
      refine (HAb.out _ HBv1.out).mono ?_
      rintro en v2 ⟨⟨Aa, ca, qs, rfl, hp⟩, hv2⟩
      have HBv2 := Lib.hid (HBv1.out.trans (hv2.mono (HBv1.out).size))
      have HPv2 := Lib.hid hp
      have HGv2 := Lib.hid ((hv2.block _ (lt_of_some HGv1.out)).trans HGv1.out)
      clear hv2 hp
      clear hHeld
      refine hK.out _ _ (HSS_1.out _ HBv2.out) (fun hHeld => ?_)
      clear hK
      try simp only [Act.put, List.setIfInBounds_toArray, List.set_cons_zero, List.set_cons_succ]
      refine wpAnyH_ready (rs := [7]) (by kernel_rfl) (by simp) ?_
      refine AllReadyH.cons rfl (fun K hK => ?_) AllReadyH.nil
      go_simp
      go_at_call 15
      refine (HRf.out _ Aa ca qs HPv2.out).mono ?_
      rintro en v3 ⟨⟨B1, m1, e1, B2, m2, e2, kz, rfl, hh⟩, hv3⟩
      have HBv3 := Lib.hid (HBv2.out.trans (hv3.mono (HBv2.out).size))
      have HAv3 := Lib.hid hh
      have HGv3 := Lib.hid ((hv3.block _ (lt_of_some HGv2.out)).trans HGv2.out)
      clear hv3 hh
      clear hHeld
      refine hK.out _ _ (HSS_1.out _ HBv3.out) (fun hHeld => ?_)
      clear hK
      try simp only [Act.put, List.setIfInBounds_toArray, List.set_cons_zero, List.set_cons_succ]
      refine wpAnyH_ready (rs := [9]) (by kernel_rfl) (by simp) ?_
      refine AllReadyH.cons rfl (fun K hK => ?_) AllReadyH.nil
      have hz := HGv3.out
      unfold bx3 at hz
      have c0z := cell_of_blk hz 0
      have z0 := free_of_blk hz 0
      have c1z := cell_of_blk hz 1
      have z1 := free_of_blk hz 1
      have c2z := cell_of_blk hz 2
      have z2 := free_of_blk hz 2
      obtain ⟨v4, hv4⟩ : ∃ v4, v4 = ((World.setCell v3 ⟨(World.heap V).size, 0, none⟩ (.slice B1 m1 e1)).setCell ⟨(World.heap V).size, 1, none⟩ (.slice B2 m2 e2)).setCell ⟨(World.heap V).size, 2, none⟩ (.int .i64 kz) := ⟨_, rfl⟩
      have hyv4 := over3 (u0 := .slice B1 m1 e1) (u1 := .slice B2 m2 e2) (u2 := .int .i64 kz) HGv3.out
      have htv4 := tur3 v3 ((World.heap V).size) (.slice B1 m1 e1) (.slice B2 m2 e2) (.int .i64 kz)
      unfold set3 at hyv4 htv4
      rw [← hv4] at hyv4 htv4
      have HGv4 : Hid (v4.heap[(World.heap V).size]? = some (bx3 B1 B2 m1 e1 m2 e2 kz)) := Lib.hid hyv4
      have HAv4 := Lib.hid (HAv3.out.tur HGv3.out htv4)
      have hle : W5.heap.size ≤ (World.heap V).size := HBV.out.size
      have HBv4 := Lib.hid (HBv3.out.trans (htv4.low hle HBv3.out.size))
      go_simp
      rw [← hv4]
      clear hv4 hyv4 htv4 hle hz c0z c1z c2z z0 z1 z2
      clear hHeld
      refine hK.out _ _ (HSS_1.out _ HBv4.out) (fun hHeld => ?_)
      clear hK
      try simp only [Act.put, List.setIfInBounds_toArray, List.set_cons_zero, List.set_cons_succ]
      refine wpAnyH_done (by kernel_rfl) ?_ _
      clear hHeld
      go_wp2_with fail
      go_meet
      case rel => exact ⟨_, B1, m1, e1, B2, m2, e2, kz, rfl, HAv4, HGv4, HBv4⟩
  case rest =>
    obtain ⟨gf, B1, m1, e1, B2, m2, e2, kz, rfl, HAt, HAb3, HB58⟩ := hcut
    rename World => W8
    have HS8 := Lib.hid (HS5.out.later HB58.out)
    obtain ⟨P, hP⟩ : ∃ P, P = rootP (tabs R) := ⟨_, rfl⟩
    have hPl : P.length ≤ 64 := by rw [hP]; exact Nat.le_trans root_len (by have := HRl.out; omega)
    have HPl := Lib.hid hPl
    have HLl : Hid (L.length ≤ 64) := Lib.hid (by rw [HLn.out]; omega)
    have HRt : Hid (∀ w' : World, Below W8.heap.size W8 w' → Calls Tryz.prog 18 #[.agg #[.slice A' T.length c', .int .i64 (T.length : Int)]] w' fun e w'' => (∃ Ap cp, e = .returned (.slice Ap P.length cp) ∧ Plc w'' w''.heap.size Ap P ∧ (Ap = none → P.length = 0 ∧ cp = 0)) ∧ Below W8.heap.size W8 w'') := Lib.hid fun w' hb => by
      have h1 := root_nil A' c' (T.length : Int) L (tabs R) w' (HS8.out.later hb) HLl.out tab_root
      rw [HLn.out, ← hP] at h1
      unfold stkV at h1
      exact h1.mono fun e w'' ⟨Ap, cp, h1, h2, h3, h4, h5⟩ => ⟨⟨Ap, cp, h1, h2, h4⟩, hb.trans (h5.mono hb.size)⟩
    have HN : Hid (∀ (w' : World) (Ap : Option Addr) (cp : Nat), Below W8.heap.size W8 w' → Plc w' w'.heap.size Ap P → (Ap = none → P.length = 0 ∧ cp = 0) → Calls Tryz.prog 17 #[.slice Ap P.length cp, .string s, .bool f] w' fun e w'' => (∃ v k, e = .returned (.tuple #[.pointer v, .int .i64 k]) ∧ NewIs s P f W8.heap.size v k w'') ∧ Below W8.heap.size W8 w'') := Lib.hid fun w' Ap cp hb h1 h2 =>
      (wnew_any w' Ap cp P s f m h1 h2 (by have := HPl.out; omega) (below_cell HM5.out (HB58.out.trans (hb.mono HB58.out.size))) (by have := HSl.out; omega)).mono fun e w'' ⟨h3, h4⟩ => by
        refine ⟨?_, hb.trans (h4.mono hb.size)⟩
        rcases h3 with ⟨h5, rfl⟩ | ⟨PP, g, h5, rfl, h6, h7⟩
        · exact ⟨_, _, rfl, .inl ⟨h5, rfl, rfl⟩⟩
        · exact ⟨_, _, rfl, .inr ⟨PP, g, h5, rfl, rfl, Nat.le_trans hb.size h6, h7⟩⟩
    have HSS_2 : Hid (∀ w' : World, Below W8.heap.size W8 w' → (w'.cell? ⟨w.heap.size, 0, none⟩ = some (.slice A T.length c) ∧ w'.cell? ⟨w.heap.size, 1, none⟩ = some (.string s) ∧ w'.cell? ⟨w.heap.size, 2, none⟩ = some (.bool f) ∧ w'.cell? ⟨w4.heap.size, 0, none⟩ = some (.slice A' T.length c') ∧ w'.cell? ⟨w4.heap.size, 1, none⟩ = some (.int .i64 (T.length : Int)) ∧ Below W8.heap.size W8 w')) := Lib.hid fun w' hb => by
      obtain ⟨h0, h1, h2, h3, h4, _⟩ := HSS_1.out w' (HB58.out.trans (hb.mono HB58.out.size))
      exact ⟨h0, h1, h2, h3, h4, hb⟩
    have HBv : Hid (Below W8.heap.size W8 W8.drew) := Lib.hid (Below.refl _ _).drew
    have HPe := Lib.hid hP
    clear hP hPl HAb HRf
    go_upto_region 9 with fail
    refine wp_region_held_drew (S := fun w' => (w'.cell? ⟨w.heap.size, 0, none⟩ = some (.slice A T.length c) ∧ w'.cell? ⟨w.heap.size, 1, none⟩ = some (.string s) ∧ w'.cell? ⟨w.heap.size, 2, none⟩ = some (.bool f) ∧ w'.cell? ⟨w4.heap.size, 0, none⟩ = some (.slice A' T.length c') ∧ w'.cell? ⟨w4.heap.size, 1, none⟩ = some (.int .i64 (T.length : Int)) ∧ Below W8.heap.size W8 w')) (by kernel_rfl) (HSS_2.out _ HBv.out) (fun hHeld => ?_)
    refine wpAnyH_take (i := 0) (oi := ⟨some 49, _, _, _, _, _⟩) (v := ?_) rfl (by kernel_rfl) (by kernel_rfl) (by kernel_rfl) (fun _ _ _ h => h) (Or.inl ⟨by kernel_rfl, ?_⟩) (by assumption) ?_
    rotate_left 1
    focus (intro w' hSw; (try dsimp only at hSw); go_simp; (try with_reducible rfl))
    try simp only [Act.put, List.setIfInBounds_toArray, List.set_cons_zero, List.set_cons_succ]
    refine wpAnyH_take (i := 2) (oi := ⟨some 51, _, _, _, _, _⟩) (v := ?_) rfl (by kernel_rfl) (by kernel_rfl) (by kernel_rfl) (fun _ _ _ h => h) (Or.inl ⟨by kernel_rfl, ?_⟩) (by assumption) ?_
    rotate_left 1
    focus (intro w' hSw; (try dsimp only at hSw); go_simp; (try with_reducible rfl))
    try simp only [Act.put, List.setIfInBounds_toArray, List.set_cons_zero, List.set_cons_succ]
    refine wpAnyH_take (i := 3) (oi := ⟨some 52, _, _, _, _, _⟩) (v := ?_) rfl (by kernel_rfl) (by kernel_rfl) (by kernel_rfl) (fun _ _ _ h => h) (Or.inl ⟨by kernel_rfl, ?_⟩) (by assumption) ?_
    rotate_left 1
    focus (intro w' hSw; (try dsimp only at hSw); go_simp; (try with_reducible rfl))
    try simp only [Act.put, List.setIfInBounds_toArray, List.set_cons_zero, List.set_cons_succ]
    refine wpAnyH_take (i := 4) (oi := ⟨some 53, _, _, _, _, _⟩) (v := ?_) rfl (by kernel_rfl) (by kernel_rfl) (by kernel_rfl) (fun _ _ _ h => h) (Or.inl ⟨by kernel_rfl, ?_⟩) (by assumption) ?_
    rotate_left 1
    focus (intro w' hSw; (try dsimp only at hSw); go_simp; (try with_reducible rfl))
    try simp only [Act.put, List.setIfInBounds_toArray, List.set_cons_zero, List.set_cons_succ]
    refine wpAnyH_take (i := 5) (oi := ⟨some 54, _, _, _, _, _⟩) (v := ?_) rfl (by kernel_rfl) (by kernel_rfl) (by kernel_rfl) (fun _ _ _ h => h) (Or.inl ⟨by kernel_rfl, ?_⟩) (by assumption) ?_
    rotate_left 1
    focus (intro w' hSw; (try dsimp only at hSw); go_simp; (try with_reducible rfl))
    try simp only [Act.put, List.setIfInBounds_toArray, List.set_cons_zero, List.set_cons_succ]
    refine wpAnyH_ready (rs := [1]) (by kernel_rfl) (by simp) ?_
    refine AllReadyH.cons rfl (fun K hK => ?_) AllReadyH.nil
    go_simp
    go_at_call 18
    refine (HRt.out _ HBv.out).mono ?_
    rintro en v1 ⟨⟨Ap, cp, rfl, hp1, hn1⟩, hv1⟩
    clear hHeld
    refine hK.out _ _ (HSS_2.out _ hv1) (fun hHeld => ?_)
    clear hK
    refine wpAnyH_ready (rs := [6]) (by kernel_rfl) (by simp) ?_
    refine AllReadyH.cons rfl (fun K hK => ?_) AllReadyH.nil
    go_simp
    go_at_call 17
    refine (HN.out _ Ap cp hv1 hp1 hn1).mono ?_
    rintro en v2 ⟨⟨vn, kn, rfl, hnw⟩, hv2⟩
    clear hHeld
    refine hK.out _ _ (HSS_2.out _ hv2) (fun hHeld => ?_)
    clear hK
    refine wpAnyH_take (i := 7) (oi := ⟨some 48, _, _, _, _, _⟩) (v := ?_) rfl (by kernel_rfl) (by kernel_rfl) (by kernel_rfl) (fun _ _ _ h => h) (Or.inl ⟨by kernel_rfl, ?_⟩) (by assumption) ?_
    rotate_left 1
    focus (intro w' hSw; (try dsimp only at hSw); go_simp; (try with_reducible rfl))
    try simp only [Act.put, List.setIfInBounds_toArray, List.set_cons_zero, List.set_cons_succ]
    refine wpAnyH_take (i := 8) (oi := ⟨some 56, _, _, _, _, _⟩) (v := ?_) rfl (by kernel_rfl) (by kernel_rfl) (by kernel_rfl) (fun _ _ _ h => h) (Or.inl ⟨by kernel_rfl, ?_⟩) (by assumption) ?_
    rotate_left 1
    focus (intro w' hSw; (try dsimp only at hSw); go_simp; (try with_reducible rfl))
    try simp only [Act.put, List.setIfInBounds_toArray, List.set_cons_zero, List.set_cons_succ]
    refine wpAnyH_take (i := 9) (oi := ⟨some 57, _, _, _, _, _⟩) (v := ?_) rfl (by kernel_rfl) (by kernel_rfl) (by kernel_rfl) (fun _ _ _ h => h) (Or.inl ⟨by kernel_rfl, ?_⟩) (by assumption) ?_
    rotate_left 1
    focus (intro w' hSw; (try dsimp only at hSw); go_simp; (try with_reducible rfl))
    try simp only [Act.put, List.setIfInBounds_toArray, List.set_cons_zero, List.set_cons_succ]
    refine wpAnyH_take (i := 10) (oi := ⟨some 6, _, _, _, _, _⟩) (v := ?_) rfl (by kernel_rfl) (by kernel_rfl) (by kernel_rfl) (fun _ _ _ h => h) (Or.inl ⟨by kernel_rfl, ?_⟩) (by assumption) ?_
    rotate_left 1
    focus (intro w' hSw; (try dsimp only at hSw); go_simp; (try with_reducible rfl))
    try simp only [Act.put, List.setIfInBounds_toArray, List.set_cons_zero, List.set_cons_succ]
    refine wpAnyH_take (i := 11) (oi := ⟨some 7, _, _, _, _, _⟩) (v := ?_) rfl (by kernel_rfl) (by kernel_rfl) (by kernel_rfl) (fun _ _ _ h => h) (Or.inl ⟨by kernel_rfl, ?_⟩) (by assumption) ?_
    rotate_left 1
    focus (intro w' hSw; (try dsimp only at hSw); go_simp; (try with_reducible rfl))
    try simp only [Act.put, List.setIfInBounds_toArray, List.set_cons_zero, List.set_cons_succ]
    refine wpAnyH_done (by kernel_rfl) ?_ _
    have HNw := Lib.hid hnw
    have HB2 := Lib.hid hv2
    have hb3 := (hv2.block _ (lt_of_some HAb3.out)).trans HAb3.out
    unfold bx3 at hb3
    have z2 : v2.cell? ⟨gf, 2, none⟩ = some (.int .i64 kz) := cell_of_blk hb3 2
    clear hHeld hv1 hv2 hp1 hn1 hnw hb3 HRt HN HBv HSS_2
    rcases HNw.out with ⟨hno, rfl, rfl⟩ | ⟨PP, g, hpa, rfl, rfl, hgw, hwk⟩
    · have hOe : O = .err 1 := by
        rcases HO.out with ⟨_, h⟩ | ⟨ps, h, _⟩
        · exact h
        · rw [hno] at h; cases h
      obtain rfl : kz = 1 := at_err HAt.out hOe
      have HF := Lib.hid (HB15.out.trans ((HB58.out.trans (HB2.out.mono HB58.out.size)).mono HB15.out.size))
      clear hOe hno HNw
      go_wp2_with fail
      go_ret
      exact ⟨rfl, HF.out⟩
    have hL : Leads R f [] PP (40 - 0) O := by
      rcases HO.out with ⟨h, _⟩ | ⟨ps, h, hL⟩
      · rw [hpa] at h; cases h
      · rw [hpa] at h
        injection h with h
        rw [data_inj h]
        exact hL
    have hpl := parts_len hpa
    rw [List.length_map] at hpl
    have hwt := way_top HFi.out.dirs
    rw [← HPe.out] at hwt
    have hinv := Inv.make HFi.out.all HDp.out hwt hL (fun n hn => by cases hn) (part_nm hpa) (by omega) (by omega)
    have hone : ([topT P] : List Tg).length = 1 := rfl
    rw [hone] at hinv
    have hrl := restP_le PP
    have H0 : Hid (∃ (ts : List Tg) (ps : List ByteArray) (h : Nat), Wkr v2 g ts ps f h ∧ Inv R f O ts ps h ∧ Below W8.heap.size W8 v2 ∧ (40 - h) * 128 + ps.length + 0 < 5760) := Lib.hid ⟨_, _, _, hwk, hinv, HB2.out, by omega⟩
    have HGB := Lib.hid hgw
    clear hL hpl hwt hinv hone hpa hwk hgw HNw HB2 z2 hrl
    go_upto_block 1 with fail
    go_wp2_with fail
    go_loopw [75] (fun v wr => ∃ j : Nat, j ≤ 5760 ∧ v = .int .i64 (j : Int) ∧ Hid (∃ (ts : List Tg) (ps : List ByteArray) (h : Nat), Wkr wr g ts ps f h ∧ Inv R f O ts ps h ∧ Below W8.heap.size W8 wr ∧ (40 - h) * 128 + ps.length + j < 5760)) (fun v _ => 5760 - (intOf v).toNat)
    case atStart => exact ⟨0, by omega, rfl, H0⟩
    case round =>
      clear H0
      obtain ⟨j, hj, rfl, H⟩ := hrel
      obtain ⟨ts, ps, h, hwk, hinv, hbr, hms⟩ := H.out
      have hjl : (j : Int) < 5760 := by omega
      rcases hinv.go with ⟨rfl, ts', t, ns, E, rfl, htl, hOk, hHold, hSe, hnz, hnl, hal, hne, hsp⟩ | ⟨p, ps', ns, rfl, hpd, hwd, hld, hnz⟩
      · have HAsk := Lib.hid (ask_no wr g (ts' ++ [t]) f h hwk)
        have htq : t.Q.length ≤ 1000 := by
          rcases hHold with h | ⟨_, _, _, _, _, _, _, _, _, h⟩
          · rw [h.2.2.1.length]
            have := hal.len
            have := D0_len R
            have := HRl.out
            omega
          · rw [h]; simp
        have HAsk2 : Hid (∀ w' : World, Below wr.heap.size wr w' → Calls Tryz.prog 19 #[.pointer (some ⟨g, 0, none⟩)] w' fun e w'' => e = .returned (.tuple #[.string ⟨#[]⟩, .slice none 0 0, .string ⟨#[]⟩, .bool false]) ∧ Below w'.heap.size w' w'') := Lib.hid fun w' hb => ask_no w' g (ts' ++ [t]) f h (hwk.later hb)
        have HLe : Hid (∀ w' : World, Below wr.heap.size wr w' → Calls Tryz.prog 23 #[.pointer (some ⟨g, 0, none⟩)] w' fun e w'' => e = .returned (.int .i64 0) ∧ Below w'.heap.size w' w'') := Lib.hid fun w' hb => left_any w' g (ts' ++ [t]) [] f h (hwk.later hb)
        have HTe : Hid (∀ w' : World, Below wr.heap.size wr w' → Calls Tryz.prog 20 #[.pointer (some ⟨g, 0, none⟩), .agg #[.int .i64 0, .int .i64 0, .int .i64 0, .slice none 0 0], .bool false, .string ⟨#[]⟩] w' fun e w'' => e = .returned (.int .i64 1) ∧ Below w'.heap.size w' w'') := Lib.hid fun w' hb => tell_end w' g (ts' ++ [t]) f h 0 0 0 0 0 none false ⟨#[]⟩ (hwk.later hb)
        have HTg : Hid (∀ w' : World, Below wr.heap.size wr w' → Calls Tryz.prog 22 #[.pointer (some ⟨g, 0, none⟩)] w' fun e w'' => (∃ (St : ByteArray) (Kt lt it : Int) (Att : Option Addr) (nt ct : Nat), e = .returned (.agg #[.string St, .int .i64 Kt, .int .i64 lt, .int .i64 it, .slice Att nt ct]) ∧
            ∀ (w3 : World) (v : Value), Below w''.heap.size w'' w3 → AtIn O v w3 → Calls Tryz.prog 21 #[.agg #[.slice A' T.length c', .int .i64 (T.length : Int)], .agg #[.string St, .int .i64 Kt, .int .i64 lt, .int .i64 it, .slice Att nt ct], .int .i64 0, v] w3 fun e w4 => e = .returned (.int .i64 1) ∧ Below w3.heap.size w3 w4) ∧ Below w'.heap.size w' w'') := Lib.hid fun w' hb =>
          (target_high w' g ts' t f h (hwk.later hb) (by omega) htq).mono fun e w'' ⟨⟨A6, c6, h1, h2, h3, h4, _⟩, h5⟩ => by
            refine ⟨?_, h5⟩
            have hwt : WalkedTo R O w'' (.returned (.tuple #[tgV t A6 c6, .int .i64 0])) w'' := ⟨.inr ⟨t, A6, c6, ns, E, hOk, rfl, h2, h3, h4, hHold, hSe, hnz, hnl, hal, hne, hsp⟩, Below.refl _ _⟩
            have hb8 : Below W8.heap.size W8 w'' := hbr.trans ((hb.trans (h5.mono hb.size)).mono hbr.size)
            obtain ⟨St, Kt, lt, it, Att, nt, ct, kt, he, hak⟩ := hwt.alike A' c' (T.length : Int) L (HS8.out.later hb8)
            rw [HLn.out] at hak
            unfold stkV at hak
            injection he with he
            injection he with he
            have he1 := congrArg (fun x : Array Value => x[0]?) he
            have he2 := congrArg (fun x : Array Value => x[1]?) he
            simp at he1 he2
            subst he2
            exact ⟨St, Kt, lt, it, Att, nt, ct, by rw [h1, he1], hak⟩
        have HBr := Lib.hid hbr
        clear H hwk hinv hOk hHold hSe hnz hnl hal hne hsp hbr hms htq htl
        go_wp2_with fail
        refine HAsk.out.mono ?_
        rintro e w5 ⟨rfl, hb5⟩
        have HB5 := Lib.hid hb5
        have HA2 := Lib.hid (HAsk2.out w5 hb5)
        clear hb5 HAsk HAsk2
        go_wp2_with fail
        refine HA2.out.mono ?_
        rintro e w6 ⟨rfl, hb6⟩
        have hbr6 := HB5.out.trans (hb6.mono HB5.out.size)
        have HBr6 := Lib.hid hbr6
        have hb86 := HBr.out.trans (hbr6.mono HBr.out.size)
        have HSS_3 : Hid (∀ w' : World, Below w6.heap.size w6 w' → (w'.cell? ⟨w4.heap.size, 0, none⟩ = some (.slice A' T.length c') ∧ w'.cell? ⟨w4.heap.size, 1, none⟩ = some (.int .i64 (T.length : Int)) ∧ w'.cell? ⟨gf, 0, none⟩ = some (.slice B1 m1 e1) ∧ w'.cell? ⟨gf, 1, none⟩ = some (.slice B2 m2 e2) ∧ w'.cell? ⟨gf, 2, none⟩ = some (.int .i64 kz) ∧ Below w6.heap.size w6 w')) := Lib.hid fun w' hb => by
          have hb8 := hb86.trans (hb.mono hb86.size)
          obtain ⟨_, _, _, h3, h4, _⟩ := HSS_1.out w' (HB58.out.trans (hb8.mono HB58.out.size))
          have hb3 := (hb8.block _ (lt_of_some HAb3.out)).trans HAb3.out
          unfold bx3 at hb3
          exact ⟨h3, h4, cell_of_blk hb3 0, cell_of_blk hb3 1, cell_of_blk hb3 2, hb⟩
        have HBv : Hid (Below w6.heap.size w6 w6.drew) := Lib.hid (Below.refl _ _).drew
        have HT1 : Hid (∀ w' : World, Below w6.heap.size w6 w' → Calls Tryz.prog 20 #[.pointer (some ⟨g, 0, none⟩), .agg #[.int .i64 0, .int .i64 0, .int .i64 0, .slice none 0 0], .bool false, .string ⟨#[]⟩] w' fun e w'' => e = .returned (.int .i64 1) ∧ Below w6.heap.size w6 w'') := Lib.hid fun w' hb => (HTe.out w' (hbr6.trans (hb.mono hbr6.size))).mono fun e w'' ⟨h1, h2⟩ => ⟨h1, hb.trans (h2.mono hb.size)⟩
        have HL1 : Hid (∀ w' : World, Below w6.heap.size w6 w' → Calls Tryz.prog 23 #[.pointer (some ⟨g, 0, none⟩)] w' fun e w'' => e = .returned (.int .i64 0) ∧ Below w6.heap.size w6 w'') := Lib.hid fun w' hb => (HLe.out w' (hbr6.trans (hb.mono hbr6.size))).mono fun e w'' ⟨h1, h2⟩ => ⟨h1, hb.trans (h2.mono hb.size)⟩
        have HG1 : Hid (∀ w' : World, Below w6.heap.size w6 w' → Calls Tryz.prog 22 #[.pointer (some ⟨g, 0, none⟩)] w' fun e w'' => (∃ (St : ByteArray) (Kt lt it : Int) (Att : Option Addr) (nt ct : Nat), e = .returned (.agg #[.string St, .int .i64 Kt, .int .i64 lt, .int .i64 it, .slice Att nt ct]) ∧
            (Calls Tryz.prog 21 #[.agg #[.slice A' T.length c', .int .i64 (T.length : Int)], .agg #[.string St, .int .i64 Kt, .int .i64 lt, .int .i64 it, .slice Att nt ct], .int .i64 0, .agg #[.slice B1 m1 e1, .slice B2 m2 e2, .int .i64 kz]] w'' fun e w4 => e = .returned (.int .i64 1) ∧ Below w6.heap.size w6 w4)) ∧ Below w6.heap.size w6 w'') := Lib.hid fun w' hb => (HTg.out w' (hbr6.trans (hb.mono hbr6.size))).mono fun e w'' ⟨⟨St, Kt, lt, it, Att, nt, ct, h1, h2⟩, h3⟩ => by
          have hb3 := hb.trans (h3.mono hb.size)
          exact ⟨⟨St, Kt, lt, it, Att, nt, ct, h1, (h2 w'' _ (Below.refl _ _) (HAt.out.later (hb86.trans (hb3.mono hb86.size)))).mono fun e w4 ⟨k1, k2⟩ => ⟨k1, hb3.trans (k2.mono hb3.size)⟩⟩, hb3⟩
        have HB86 := Lib.hid hb86
        clear hbr6 hb86 hb6 HTe HLe HTg HA2
        go_upto_region 19 with fail
        refine wp_region_held_drew (S := fun w' => (w'.cell? ⟨w4.heap.size, 0, none⟩ = some (.slice A' T.length c') ∧ w'.cell? ⟨w4.heap.size, 1, none⟩ = some (.int .i64 (T.length : Int)) ∧ w'.cell? ⟨gf, 0, none⟩ = some (.slice B1 m1 e1) ∧ w'.cell? ⟨gf, 1, none⟩ = some (.slice B2 m2 e2) ∧ w'.cell? ⟨gf, 2, none⟩ = some (.int .i64 kz) ∧ Below w6.heap.size w6 w')) (by kernel_rfl) (HSS_3.out _ HBv.out) (fun hHeld => ?_)
        refine wpAnyH_take (i := 0) (oi := ⟨some 106, _, _, _, _, _⟩) (v := ?_) rfl (by kernel_rfl) (by kernel_rfl) (by kernel_rfl) (fun _ _ _ h => h) (Or.inl ⟨by kernel_rfl, ?_⟩) (by assumption) ?_
        rotate_left 1
        focus (intro w' hSw; (try dsimp only at hSw); go_simp; (try with_reducible rfl))
        try simp only [Act.put, List.setIfInBounds_toArray, List.set_cons_zero, List.set_cons_succ]
        refine wpAnyH_take (i := 1) (oi := ⟨some 107, _, _, _, _, _⟩) (v := ?_) rfl (by kernel_rfl) (by kernel_rfl) (by kernel_rfl) (fun _ _ _ h => h) (Or.inl ⟨by kernel_rfl, ?_⟩) (by assumption) ?_
        rotate_left 1
        focus (intro w' hSw; (try dsimp only at hSw); go_simp; (try with_reducible rfl))
        try simp only [Act.put, List.setIfInBounds_toArray, List.set_cons_zero, List.set_cons_succ]
        refine wpAnyH_ready (rs := [2]) (by kernel_rfl) (by simp) ?_
        refine AllReadyH.cons rfl (fun K hK => ?_) AllReadyH.nil
        go_simp
        go_at_call 20
        refine (HT1.out _ HBv.out).mono ?_
        rintro en v3 ⟨rfl, hv3⟩
        clear hHeld
        refine hK.out _ _ (HSS_3.out _ hv3) (fun hHeld => ?_)
        clear hK
        refine wpAnyH_take (i := 3) (oi := ⟨some 109, _, _, _, _, _⟩) (v := ?_) rfl (by kernel_rfl) (by kernel_rfl) (by kernel_rfl) (fun _ _ _ h => h) (Or.inl ⟨by kernel_rfl, ?_⟩) (by assumption) ?_
        rotate_left 1
        focus (intro w' hSw; (try dsimp only at hSw); go_simp; (try with_reducible rfl))
        try simp only [Act.put, List.setIfInBounds_toArray, List.set_cons_zero, List.set_cons_succ]
        refine wpAnyH_take (i := 4) (oi := ⟨some 110, _, _, _, _, _⟩) (v := ?_) rfl (by kernel_rfl) (by kernel_rfl) (by kernel_rfl) (fun _ _ _ h => h) (Or.inl ⟨by kernel_rfl, ?_⟩) (by assumption) ?_
        rotate_left 1
        focus (intro w' hSw; (try dsimp only at hSw); go_simp; (try with_reducible rfl))
        try simp only [Act.put, List.setIfInBounds_toArray, List.set_cons_zero, List.set_cons_succ]
        refine wpAnyH_take (i := 5) (oi := ⟨some 111, _, _, _, _, _⟩) (v := ?_) rfl (by kernel_rfl) (by kernel_rfl) (by kernel_rfl) (fun _ _ _ h => h) (Or.inl ⟨by kernel_rfl, ?_⟩) (by assumption) ?_
        rotate_left 1
        focus (intro w' hSw; (try dsimp only at hSw); go_simp; (try with_reducible rfl))
        try simp only [Act.put, List.setIfInBounds_toArray, List.set_cons_zero, List.set_cons_succ]
        refine wpAnyH_take (i := 6) (oi := ⟨some 112, _, _, _, _, _⟩) (v := ?_) rfl (by kernel_rfl) (by kernel_rfl) (by kernel_rfl) (fun _ _ _ h => h) (Or.inl ⟨by kernel_rfl, ?_⟩) (by assumption) ?_
        rotate_left 1
        focus (intro w' hSw; (try dsimp only at hSw); go_simp; (try with_reducible rfl))
        try simp only [Act.put, List.setIfInBounds_toArray, List.set_cons_zero, List.set_cons_succ]
        refine wpAnyH_take (i := 8) (oi := ⟨some 114, _, _, _, _, _⟩) (v := ?_) rfl (by kernel_rfl) (by kernel_rfl) (by kernel_rfl) (fun _ _ _ h => h) (Or.inl ⟨by kernel_rfl, ?_⟩) (by assumption) ?_
        rotate_left 1
        focus (intro w' hSw; (try dsimp only at hSw); go_simp; (try with_reducible rfl))
        try simp only [Act.put, List.setIfInBounds_toArray, List.set_cons_zero, List.set_cons_succ]
        refine wpAnyH_ready (rs := [7]) (by kernel_rfl) (by simp) ?_
        refine AllReadyH.cons rfl (fun K hK => ?_) AllReadyH.nil
        go_simp
        go_at_call 22
        refine (HG1.out _ hv3).mono ?_
        rintro en v4 ⟨⟨St, Kt, lt, it, Att, nt, ct, rfl, hak⟩, hv4⟩
        clear hHeld
        refine hK.out _ _ (HSS_3.out _ hv4) (fun hHeld => ?_)
        clear hK
        refine wpAnyH_ready (rs := [9]) (by kernel_rfl) (by simp) ?_
        refine AllReadyH.cons rfl (fun K hK => ?_) AllReadyH.nil
        go_simp
        go_at_call 21
        refine (hak).mono ?_
        rintro en v5 ⟨rfl, hv5⟩
        clear hHeld
        refine hK.out _ _ (HSS_3.out _ hv5) (fun hHeld => ?_)
        clear hK
        refine wpAnyH_take (i := 10) (oi := ⟨some 116, _, _, _, _, _⟩) (v := ?_) rfl (by kernel_rfl) (by kernel_rfl) (by kernel_rfl) (fun _ _ _ h => h) (Or.inl ⟨by kernel_rfl, ?_⟩) (by assumption) ?_
        rotate_left 1
        focus (intro w' hSw; (try dsimp only at hSw); go_simp; (try with_reducible rfl))
        try simp only [Act.put, List.setIfInBounds_toArray, List.set_cons_zero, List.set_cons_succ]
        refine wpAnyH_take (i := 11) (oi := ⟨some 117, _, _, _, _, _⟩) (v := ?_) rfl (by kernel_rfl) (by kernel_rfl) (by kernel_rfl) (fun _ _ _ h => h) (Or.inl ⟨by kernel_rfl, ?_⟩) (by assumption) ?_
        rotate_left 1
        focus (intro w' hSw; (try dsimp only at hSw); go_simp; (try with_reducible rfl))
        try simp only [Act.put, List.setIfInBounds_toArray, List.set_cons_zero, List.set_cons_succ]
        refine wpAnyH_take (i := 12) (oi := ⟨some 118, _, _, _, _, _⟩) (v := ?_) rfl (by kernel_rfl) (by kernel_rfl) (by kernel_rfl) (fun _ _ _ h => h) (Or.inl ⟨by kernel_rfl, ?_⟩) (by assumption) ?_
        rotate_left 1
        focus (intro w' hSw; (try dsimp only at hSw); go_simp; (try with_reducible rfl))
        try simp only [Act.put, List.setIfInBounds_toArray, List.set_cons_zero, List.set_cons_succ]
        refine wpAnyH_take (i := 13) (oi := ⟨some 119, _, _, _, _, _⟩) (v := ?_) rfl (by kernel_rfl) (by kernel_rfl) (by kernel_rfl) (fun _ _ _ h => h) (Or.inl ⟨by kernel_rfl, ?_⟩) (by assumption) ?_
        rotate_left 1
        focus (intro w' hSw; (try dsimp only at hSw); go_simp; (try with_reducible rfl))
        try simp only [Act.put, List.setIfInBounds_toArray, List.set_cons_zero, List.set_cons_succ]
        refine wpAnyH_ready (rs := [14]) (by kernel_rfl) (by simp) ?_
        refine AllReadyH.cons rfl (fun K hK => ?_) AllReadyH.nil
        go_simp
        go_at_call 23
        refine (HL1.out _ hv5).mono ?_
        rintro en v6 ⟨rfl, hv6⟩
        clear hHeld
        refine hK.out _ _ (HSS_3.out _ hv6) (fun hHeld => ?_)
        clear hK
        refine wpAnyH_take (i := 15) (oi := ⟨some 121, _, _, _, _, _⟩) (v := ?_) rfl (by kernel_rfl) (by kernel_rfl) (by kernel_rfl) (fun _ _ _ h => h) (Or.inl ⟨by kernel_rfl, ?_⟩) (by assumption) ?_
        rotate_left 1
        focus (intro w' hSw; (try dsimp only at hSw); go_simp; (try with_reducible rfl))
        try simp only [Act.put, List.setIfInBounds_toArray, List.set_cons_zero, List.set_cons_succ]
        refine wpAnyH_take (i := 16) (oi := ⟨some 122, _, _, _, _, _⟩) (v := ?_) rfl (by kernel_rfl) (by kernel_rfl) (by kernel_rfl) (fun _ _ _ h => h) (Or.inl ⟨by kernel_rfl, ?_⟩) (by assumption) ?_
        rotate_left 1
        focus (intro w' hSw; (try dsimp only at hSw); go_simp; (try with_reducible rfl))
        try simp only [Act.put, List.setIfInBounds_toArray, List.set_cons_zero, List.set_cons_succ]
        refine wpAnyH_take (i := 17) (oi := ⟨some 2, _, _, _, _, _⟩) (v := ?_) rfl (by kernel_rfl) (by kernel_rfl) (by kernel_rfl) (fun _ _ _ h => h) (Or.inl ⟨by kernel_rfl, ?_⟩) (by assumption) ?_
        rotate_left 1
        focus (intro w' hSw; (try dsimp only at hSw); go_simp; (try with_reducible rfl))
        try simp only [Act.put, List.setIfInBounds_toArray, List.set_cons_zero, List.set_cons_succ]
        refine wpAnyH_done (by kernel_rfl) ?_ _
        have HF := Lib.hid (HB15.out.trans ((HB58.out.trans ((HB86.out.trans (hv6.mono HB86.out.size)).mono HB58.out.size)).mono HB15.out.size))
        clear hHeld hv3 hv4 hv5 hv6 hak HT1 HL1 HG1 HSS_3 HBv
        go_wp2_with fail
        go_ret
        exact ⟨rfl, HF.out⟩
      · obtain ⟨ts', t, E, rfl, htl, hE, hHold, hSe, _, hPq⟩ := hwd.last
        have hnl := hwd.deep HDp.out
        obtain ⟨Q', hQ'⟩ := EntN.some (s := p) (D := E) fun d hd => ((hE.good (Good.root HFi.out.all)).asc d hd).2
        have hql : t.Q.length ≤ 64 := by
          rw [hHold.2.2.1.length]
          have := hE.len
          have := D0_len R
          have := HRl.out
          omega
        rw [List.length_cons] at hms
        have HAsk := Lib.hid (ask_yes wr g ts' t p ps' f h hwk (by omega) (by omega))
        have HAsk2 : Hid (∀ w' : World, Below wr.heap.size wr w' → Calls Tryz.prog 19 #[.pointer (some ⟨g, 0, none⟩)] w' (Asked t p w')) := Lib.hid fun w' hb => ask_yes w' g ts' t p ps' f h (hwk.later hb) (by omega) (by omega)
        have HLk : Hid (∀ (w5 : World) (A5 : Option Addr) (c5 : Nat), Below wr.heap.size wr w5 → Plc w5 w5.heap.size A5 t.Q → Calls Tryz.prog 24 #[.agg #[.slice A' T.length c', .int .i64 (T.length : Int)], .slice A5 t.Q.length c5, .string p] w5 (FoundS R f O g ts' t p ps' h A' T.length c' (T.length : Int) w5)) := Lib.hid fun w5 A5 c5 hb5 hp5 => by
          have hb85 := hbr.trans (hb5.mono hbr.size)
          have hst5 := HS8.out.later hb85
          have h1 := seen_pos HFi.out.all hHold.2.2.1 hHold.2.2.2.1 hQ' A' c' (T.length : Int) L A5 c5 w5 hst5 hp5 (by have := HLl.out; omega)
          rw [HLn.out] at h1
          unfold stkV at h1
          refine h1.mono fun en w6 H => ?_
          have h2 := look_law (g := g) HFi.out.all HDp.out (by have := HRl.out; omega) hwd hld hpd hnz hinv.small hinv.hops hinv.few hE hQ' hSe hPq A' c' (T.length : Int) L m hst5 (below_cell HM5.out (HB58.out.trans (hb85.mono HB58.out.size))) H
          rw [HLn.out] at h2
          exact h2
        have HWk := Lib.hid hwk
        have HBr := Lib.hid hbr
        have HMs := Lib.hid hms
        have HJ := Lib.hid hj
        clear H hwk hinv hbr hwd hld hpd hnz htl hE hHold hSe hPq hnl hQ' hql hms
        go_wp2_with fail
        refine HAsk.out.mono ?_
        rintro e w5 ⟨⟨A5, c5, rfl, hp5, hc5, hn5⟩, hb5⟩
        have HB5 := Lib.hid hb5
        have HP5 := Lib.hid hp5
        have HA2 := Lib.hid (HAsk2.out w5 hb5)
        clear hp5 hc5 hn5 hb5 HAsk HAsk2
        go_wp2_with fail
        refine HA2.out.mono ?_
        rintro e w6 ⟨⟨A6, c6, rfl, _, _, _⟩, hb6⟩
        have hbr6 := HB5.out.trans (hb6.mono HB5.out.size)
        have hb86 := HBr.out.trans (hbr6.mono HBr.out.size)
        obtain ⟨_, _, _, s0, s1, _⟩ := HSS_1.out w6 (HB58.out.trans (hb86.mono HB58.out.size))
        have HL5 := Lib.hid (HLk.out w6 A5 c5 hbr6 ((HP5.out.keep hb6).more hb6.size))
        have HBr6 := Lib.hid hbr6
        have g1 : (p.toList != p.toList) = false := bne_self_eq_false _
        have g2 : (t.S.toList != t.S.toList) = false := bne_self_eq_false _
        clear hb6 hbr6 hb86 HLk HA2
        go_wp2_with fail
        refine HL5.out.mono ?_
        rintro e w7 ⟨K, l, i, Af, nf, cf, there, x, rfl, hb7, hx0, hx1, hTe⟩
        obtain ⟨q, hq⟩ : ∃ q, q = w7.heap.size := ⟨_, rfl⟩
        obtain ⟨W9, hW9⟩ : ∃ W9, W9 = w7.alloc (.cells #[.int .i64 K, .int .i64 l, .int .i64 i, .slice Af nf cf] 50) := ⟨_, rfl⟩
        have hf9 : W9.heap[q]? = some (.cells #[.int .i64 K, .int .i64 l, .int .i64 i, .slice Af nf cf] 50 (0, 0)) := by rw [hW9, hq]; exact heap_alloc_new w7 _
        have hb79 : Below w7.heap.size w7 W9 := by rw [hW9]; exact (Below.refl _ _).alloc (Nat.le_refl _) _
        have hbr7 := HBr6.out.trans (hb7.mono HBr6.out.size)
        have hbr9 : Below wr.heap.size wr W9 := hbr7.trans (hb79.mono hbr7.size)
        have hb89 : Below W8.heap.size W8 W9 := HBr.out.trans (hbr9.mono HBr.out.size)
        have HSS_4 : Hid (∀ w' : World, Below W9.heap.size W9 w' → (w'.cell? ⟨w4.heap.size, 0, none⟩ = some (.slice A' T.length c') ∧ w'.cell? ⟨w4.heap.size, 1, none⟩ = some (.int .i64 (T.length : Int)) ∧ w'.cell? ⟨q, 0, none⟩ = some (.int .i64 K) ∧ w'.cell? ⟨q, 1, none⟩ = some (.int .i64 l) ∧ w'.cell? ⟨q, 2, none⟩ = some (.int .i64 i) ∧ w'.cell? ⟨q, 3, none⟩ = some (.slice Af nf cf) ∧ Below W9.heap.size W9 w')) := Lib.hid fun w' hb => by
          have hb8 := hb89.trans (hb.mono hb89.size)
          obtain ⟨_, _, _, h3, h4, _⟩ := HSS_1.out w' (HB58.out.trans (hb8.mono HB58.out.size))
          have e2 := (hb.block _ (lt_of_some hf9)).trans hf9
          exact ⟨h3, h4, cell_of_blk e2 0, cell_of_blk e2 1, cell_of_blk e2 2, cell_of_blk e2 3, hb⟩
        have HT2 : Hid (∀ w' : World, Below W9.heap.size W9 w' → Calls Tryz.prog 20 #[.pointer (some ⟨g, 0, none⟩), .agg #[.int .i64 K, .int .i64 l, .int .i64 i, .slice Af nf cf], .bool there, .string x] w' fun e w'' => ∃ k : Int, e = .returned (.int .i64 k) ∧ Below W8.heap.size W8 w'' ∧ ((k ≠ 0 ∧ 0 ≤ k ∧ k ≤ 9 ∧ O = .err k) ∨
            (k = 0 ∧ ∃ ts2 ps2 h2, Wkr w'' g ts2 ps2 f h2 ∧ Inv R f O ts2 ps2 h2 ∧ (40 - h2) * 128 + ps2.length < (40 - h) * 128 + (ps'.length + 1)))) := Lib.hid fun w' hb =>
          (hTe w' (hb79.trans (hb.mono hb79.size)) (HWk.out.later (hbr9.trans (hb.mono hbr9.size)))).mono fun e w'' H => by
            obtain ⟨k, h1, h2, h3⟩ := H.nr
            have hb8 := hb89.trans (hb.mono hb89.size)
            exact ⟨k, h1, hb8.trans (h2.low HGB.out hb8.size), h3⟩
        have HX1 : Hid (K = 3 → there = true ∧ ∃ yb : Nat, (∀ w' : World, Below W9.heap.size W9 w' → Calls Tryz.prog 25 #[.agg #[.slice A' T.length c', .int .i64 (T.length : Int)], .int .i64 l] w' fun e w'' => e = .returned (.pointer (some ⟨yb, 0, none⟩)) ∧ Below W9.heap.size W9 w'') ∧
            (∀ w' : World, Below W9.heap.size W9 w' → Calls Tryz.prog 26 #[.pointer (some ⟨yb, 0, none⟩), .int .i64 i] w' fun e w'' => e = .returned (.string x) ∧ Below W9.heap.size W9 w'')) := Lib.hid fun h3 => by
          obtain ⟨h4, yb, h5, h6⟩ := hx1 h3
          unfold stkV at h5
          exact ⟨h4, yb, fun w' hb => (h5 w' (hb79.trans (hb.mono hb79.size))).mono fun e w'' ⟨k1, k2⟩ => ⟨k1, hb.trans (k2.mono hb.size)⟩, fun w' hb => (h6 w' (hb79.trans (hb.mono hb79.size))).mono fun e w'' ⟨k1, k2⟩ => ⟨k1, hb.trans (k2.mono hb.size)⟩⟩
        have HX0 := Lib.hid hx0
        have HW9 := Lib.hid hW9.symm
        have HQ := Lib.hid hq.symm
        clear hq hW9 hf9 hb79 hbr7 hbr9 hb89 hx0 hx1 hTe hb7 HL5 s0 s1 g1 g2
        go_upto_region 21 with fail
        rw [HW9.out]
        simp only [HQ.out]
        clear HW9 HQ
        have hB9 : Below W9.heap.size W9 W9 := Below.refl _ _
        obtain ⟨s0, s1, q0, q1, q2, q3, _⟩ := HSS_4.out W9 hB9
        by_cases hK3 : K = 3
        · obtain ⟨ht, yb, hA, hT9⟩ := HX1.out hK3
          subst ht
          subst hK3
          have HA := Lib.hid hA
          have HT9 := Lib.hid hT9
          have HBv : Hid (Below W9.heap.size W9 W9.drew) := Lib.hid (Below.refl _ _).drew
          clear hA hT9 hB9
          go_upto_region 23 with fail
          refine wp_region_held_drew (S := fun w' => (w'.cell? ⟨w4.heap.size, 0, none⟩ = some (.slice A' T.length c') ∧ w'.cell? ⟨w4.heap.size, 1, none⟩ = some (.int .i64 (T.length : Int)) ∧ w'.cell? ⟨q, 0, none⟩ = some (.int .i64 3) ∧ w'.cell? ⟨q, 1, none⟩ = some (.int .i64 l) ∧ w'.cell? ⟨q, 2, none⟩ = some (.int .i64 i) ∧ w'.cell? ⟨q, 3, none⟩ = some (.slice Af nf cf) ∧ Below W9.heap.size W9 w')) (by kernel_rfl) (HSS_4.out _ HBv.out) (fun hHeld => ?_)
          refine wpAnyH_take (i := 0) (oi := ⟨some 136, _, _, _, _, _⟩) (v := ?_) rfl (by kernel_rfl) (by kernel_rfl) (by kernel_rfl) (fun _ _ _ h => h) (Or.inl ⟨by kernel_rfl, ?_⟩) (by assumption) ?_
          rotate_left 1
          focus (intro w' hSw; (try dsimp only at hSw); go_simp; (try with_reducible rfl))
          try simp only [Act.put, List.setIfInBounds_toArray, List.set_cons_zero, List.set_cons_succ]
          refine wpAnyH_take (i := 1) (oi := ⟨some 137, _, _, _, _, _⟩) (v := ?_) rfl (by kernel_rfl) (by kernel_rfl) (by kernel_rfl) (fun _ _ _ h => h) (Or.inl ⟨by kernel_rfl, ?_⟩) (by assumption) ?_
          rotate_left 1
          focus (intro w' hSw; (try dsimp only at hSw); go_simp; (try with_reducible rfl))
          try simp only [Act.put, List.setIfInBounds_toArray, List.set_cons_zero, List.set_cons_succ]
          refine wpAnyH_take (i := 2) (oi := ⟨some 138, _, _, _, _, _⟩) (v := ?_) rfl (by kernel_rfl) (by kernel_rfl) (by kernel_rfl) (fun _ _ _ h => h) (Or.inl ⟨by kernel_rfl, ?_⟩) (by assumption) ?_
          rotate_left 1
          focus (intro w' hSw; (try dsimp only at hSw); go_simp; (try with_reducible rfl))
          try simp only [Act.put, List.setIfInBounds_toArray, List.set_cons_zero, List.set_cons_succ]
          refine wpAnyH_take (i := 3) (oi := ⟨some 139, _, _, _, _, _⟩) (v := ?_) rfl (by kernel_rfl) (by kernel_rfl) (by kernel_rfl) (fun _ _ _ h => h) (Or.inl ⟨by kernel_rfl, ?_⟩) (by assumption) ?_
          rotate_left 1
          focus (intro w' hSw; (try dsimp only at hSw); go_simp; (try with_reducible rfl))
          try simp only [Act.put, List.setIfInBounds_toArray, List.set_cons_zero, List.set_cons_succ]
          refine wpAnyH_take (i := 5) (oi := ⟨some 141, _, _, _, _, _⟩) (v := ?_) rfl (by kernel_rfl) (by kernel_rfl) (by kernel_rfl) (fun _ _ _ h => h) (Or.inl ⟨by kernel_rfl, ?_⟩) (by assumption) ?_
          rotate_left 1
          focus (intro w' hSw; (try dsimp only at hSw); go_simp; (try with_reducible rfl))
          try simp only [Act.put, List.setIfInBounds_toArray, List.set_cons_zero, List.set_cons_succ]
          refine wpAnyH_take (i := 6) (oi := ⟨some 142, _, _, _, _, _⟩) (v := ?_) rfl (by kernel_rfl) (by kernel_rfl) (by kernel_rfl) (fun _ _ _ h => h) (Or.inl ⟨by kernel_rfl, ?_⟩) (by assumption) ?_
          rotate_left 1
          focus (intro w' hSw; (try dsimp only at hSw); go_simp; (try with_reducible rfl))
          try simp only [Act.put, List.setIfInBounds_toArray, List.set_cons_zero, List.set_cons_succ]
          refine wpAnyH_take (i := 7) (oi := ⟨some 143, _, _, _, _, _⟩) (v := ?_) rfl (by kernel_rfl) (by kernel_rfl) (by kernel_rfl) (fun _ _ _ h => h) (Or.inl ⟨by kernel_rfl, ?_⟩) (by assumption) ?_
          rotate_left 1
          focus (intro w' hSw; (try dsimp only at hSw); go_simp; (try with_reducible rfl))
          try simp only [Act.put, List.setIfInBounds_toArray, List.set_cons_zero, List.set_cons_succ]
          refine wpAnyH_ready (rs := [4]) (by kernel_rfl) (by simp) ?_
          refine AllReadyH.cons rfl (fun K hK => ?_) AllReadyH.nil
          go_simp
          go_at_call 25
          refine (HA.out _ HBv.out).mono ?_
          rintro en v3 ⟨rfl, hv3⟩
          clear hHeld
          refine hK.out _ _ (HSS_4.out _ hv3) (fun hHeld => ?_)
          clear hK
          refine wpAnyH_ready (rs := [8]) (by kernel_rfl) (by simp) ?_
          refine AllReadyH.cons rfl (fun K hK => ?_) AllReadyH.nil
          go_simp
          go_at_call 26
          refine (HT9.out _ hv3).mono ?_
          rintro en v4 ⟨rfl, hv4⟩
          clear hHeld
          refine hK.out _ _ (HSS_4.out _ hv4) (fun hHeld => ?_)
          clear hK
          refine wpAnyH_take (i := 9) (oi := ⟨some 18, _, _, _, _, _⟩) (v := ?_) rfl (by kernel_rfl) (by kernel_rfl) (by kernel_rfl) (fun _ _ _ h => h) (Or.inl ⟨by kernel_rfl, ?_⟩) (by assumption) ?_
          rotate_left 1
          focus (intro w' hSw; (try dsimp only at hSw); go_simp; (try with_reducible rfl))
          try simp only [Act.put, List.setIfInBounds_toArray, List.set_cons_zero, List.set_cons_succ]
          refine wpAnyH_done (by kernel_rfl) ?_ _
          clear hHeld hv3 HA HT9 HBv s0 s1 q0 q1 q2 q3
          obtain ⟨_, _, q0, q1, q2, q3, _⟩ := HSS_4.out v4 hv4
          have HTl := Lib.hid (HT2.out v4 hv4)
          clear hv4
          go_wp2_with fail
          refine HTl.out.mono ?_
          rintro e w10 ⟨k, rfl, hb10, hres⟩
          have HB10 := Lib.hid hb10
          have hb3 := (hb10.block _ (lt_of_some HAb3.out)).trans HAb3.out
          unfold bx3 at hb3
          have z2 : w10.cell? ⟨gf, 2, none⟩ = some (.int .i64 kz) := cell_of_blk hb3 2
          have HRes := Lib.hid hres
          clear hb10 hb3 hres HTl HT2 HSS_4 HX1 HX0
          rcases HRes.out with ⟨k0, k1, k2, hOk⟩ | ⟨hk0, ts2, ps2, h2, hwk2, hinv2, hms2⟩
          · obtain rfl : kz = k := at_err HAt.out hOk
            have g0 : (kz != 0) = true := by rw [bne_iff_ne]; exact k0
            have g1 : (kz == kz) = true := beq_self_eq_true _
            have HF := Lib.hid (HB15.out.trans ((HB58.out.trans (HB10.out.mono HB58.out.size)).mono HB15.out.size))
            clear k0 k1 k2 hOk HRes
            go_wp2_with fail
            go_ret
            exact ⟨rfl, HF.out⟩
          · subst hk0
            have HNext : Hid (∃ (ts : List Tg) (ps : List ByteArray) (h : Nat), Wkr w10 g ts ps f h ∧ Inv R f O ts ps h ∧ Below W8.heap.size W8 w10 ∧ (40 - h) * 128 + ps.length + (j + 1) < 5760) := Lib.hid ⟨ts2, ps2, h2, hwk2, hinv2, HB10.out, by have := HMs.out; omega⟩
            have j5 : j + 1 ≤ 5760 := by have := HMs.out; omega
            clear hwk2 hinv2 hms2 HRes z2
            go_wp2_with fail
            go_roundw
            case rel => exact ⟨j + 1, j5, by push_cast; rfl, HNext⟩
            case measure => show 5760 - (((j : Int) + 1)).toNat < 5760 - ((j : Int)).toNat; omega
        · have hx := HX0.out hK3
          subst hx
          have g3 : (K == 3) = false := by rw [beq_eq_false_iff_ne]; exact hK3
          have HTl := Lib.hid (HT2.out W9 hB9)
          clear hB9 hK3 s0 s1
          rcases there with _ | _
          · go_wp2_with fail
            refine HTl.out.mono ?_
            rintro e w10 ⟨k, rfl, hb10, hres⟩
            have HB10 := Lib.hid hb10
            have hb3 := (hb10.block _ (lt_of_some HAb3.out)).trans HAb3.out
            unfold bx3 at hb3
            have z2 : w10.cell? ⟨gf, 2, none⟩ = some (.int .i64 kz) := cell_of_blk hb3 2
            have HRes := Lib.hid hres
            clear hb10 hb3 hres HTl HT2 HSS_4 HX1 HX0
            rcases HRes.out with ⟨k0, k1, k2, hOk⟩ | ⟨hk0, ts2, ps2, h2, hwk2, hinv2, hms2⟩
            · obtain rfl : kz = k := at_err HAt.out hOk
              have g0 : (kz != 0) = true := by rw [bne_iff_ne]; exact k0
              have g1 : (kz == kz) = true := beq_self_eq_true _
              have HF := Lib.hid (HB15.out.trans ((HB58.out.trans (HB10.out.mono HB58.out.size)).mono HB15.out.size))
              clear k0 k1 k2 hOk HRes
              go_wp2_with fail
              go_ret
              exact ⟨rfl, HF.out⟩
            · subst hk0
              have HNext : Hid (∃ (ts : List Tg) (ps : List ByteArray) (h : Nat), Wkr w10 g ts ps f h ∧ Inv R f O ts ps h ∧ Below W8.heap.size W8 w10 ∧ (40 - h) * 128 + ps.length + (j + 1) < 5760) := Lib.hid ⟨ts2, ps2, h2, hwk2, hinv2, HB10.out, by have := HMs.out; omega⟩
              have j5 : j + 1 ≤ 5760 := by have := HMs.out; omega
              clear hwk2 hinv2 hms2 HRes z2
              go_wp2_with fail
              go_roundw
              case rel => exact ⟨j + 1, j5, by push_cast; rfl, HNext⟩
              case measure => show 5760 - (((j : Int) + 1)).toNat < 5760 - ((j : Int)).toNat; omega
          · go_wp2_with fail
            refine HTl.out.mono ?_
            rintro e w10 ⟨k, rfl, hb10, hres⟩
            have HB10 := Lib.hid hb10
            have hb3 := (hb10.block _ (lt_of_some HAb3.out)).trans HAb3.out
            unfold bx3 at hb3
            have z2 : w10.cell? ⟨gf, 2, none⟩ = some (.int .i64 kz) := cell_of_blk hb3 2
            have HRes := Lib.hid hres
            clear hb10 hb3 hres HTl HT2 HSS_4 HX1 HX0
            rcases HRes.out with ⟨k0, k1, k2, hOk⟩ | ⟨hk0, ts2, ps2, h2, hwk2, hinv2, hms2⟩
            · obtain rfl : kz = k := at_err HAt.out hOk
              have g0 : (kz != 0) = true := by rw [bne_iff_ne]; exact k0
              have g1 : (kz == kz) = true := beq_self_eq_true _
              have HF := Lib.hid (HB15.out.trans ((HB58.out.trans (HB10.out.mono HB58.out.size)).mono HB15.out.size))
              clear k0 k1 k2 hOk HRes
              go_wp2_with fail
              go_ret
              exact ⟨rfl, HF.out⟩
            · subst hk0
              have HNext : Hid (∃ (ts : List Tg) (ps : List ByteArray) (h : Nat), Wkr w10 g ts ps f h ∧ Inv R f O ts ps h ∧ Below W8.heap.size W8 w10 ∧ (40 - h) * 128 + ps.length + (j + 1) < 5760) := Lib.hid ⟨ts2, ps2, h2, hwk2, hinv2, HB10.out, by have := HMs.out; omega⟩
              have j5 : j + 1 ≤ 5760 := by have := HMs.out; omega
              clear hwk2 hinv2 hms2 HRes z2
              go_wp2_with fail
              go_roundw
              case rel => exact ⟨j + 1, j5, by push_cast; rfl, HNext⟩
              case measure => show 5760 - (((j : Int) + 1)).toNat < 5760 - ((j : Int)).toNat; omega
end Go.Proofs.YtkdldnjnadadgaaGreatDoor.wlk

namespace Go.Proofs.YtkdldnjnadadgaaGreatDoor.wlk
set_option maxRecDepth 100000
open Go.RowKit Go.Proofs.YtkdldnjnadadgaaGreatDoor.words Go.Proofs.YtkdldnjnadadgaaGreatDoor.ext Go.Proofs.YtkdldnjnadadgaaGreatDoor.name Go.Proofs.YtkdldnjnadadgaaGreatDoor.tre Go.Proofs.YtkdldnjnadadgaaGreatDoor.stk Go.Proofs.YtkdldnjnadadgaaGreatDoor.seen

def sb : ByteArray := ⟨#[47, 98]⟩
def ub : ByteArray := ⟨#[98, 47, 46, 46]⟩
def spT : Nd := dirN [ab, bb, cb] [linkN ab, textN seen.xb, linkN sb]
theorem sp_fine : ∀ t ∈ [spT], depth t ≤ 1000 ∧ (treeB t = true → countC t = (count t : Int) ∧ count t ≤ 4096) := fun t ht => by
  simp only [List.mem_cons, List.mem_nil_iff, or_false] at ht
  subst ht
  exact ⟨by decide +kernel, fun _ => ⟨by decide +kernel, by decide +kernel⟩⟩
theorem sp_right : ∀ t ∈ [spT], treeB t = true := fun t ht => by
  simp only [List.mem_cons, List.mem_nil_iff, or_false] at ht
  subst ht
  decide +kernel
theorem sp_all : ∀ t ∈ [spT], allB t = true := fun t ht => by
  simp only [List.mem_cons, List.mem_nil_iff, or_false] at ht
  subst ht
  decide +kernel
theorem sp_dirs : ∀ t ∈ [spT], t.K = 2 := fun t ht => by
  simp only [List.mem_cons, List.mem_nil_iff, or_false] at ht
  subst ht
  rfl
theorem sp_deep : ∀ t ∈ [spT], depth t < 100 := fun t ht => by
  simp only [List.mem_cons, List.mem_nil_iff, or_false] at ht
  subst ht
  decide +kernel
theorem sp_d0 : Along (D0 [spT]) [] [spT] := rfl
theorem ent_sa : EntN ab [spT] [linkN ab] := ⟨some (linkN ab), [], .inl ⟨0, linkN ab, rfl, rfl, rfl⟩, rfl, rfl⟩
theorem ent_sb : EntN bb [spT] [textN seen.xb] := ⟨some (textN seen.xb), [], .inl ⟨1, textN seen.xb, rfl, rfl, rfl⟩, rfl, rfl⟩
theorem ent_sc : EntN cb [spT] [linkN sb] := ⟨some (linkN sb), [], .inl ⟨2, linkN sb, rfl, rfl, rfl⟩, rfl, rfl⟩
theorem ab_dd : ab ≠ dd := by decide
theorem bb_dd : bb ≠ dd := by decide
theorem cb_dd : cb ≠ dd := by decide
theorem lead_a : ∀ h : Nat, Leads [spT] true [] [ab] h (.err 4)
  | 0 => .loop (d := linkN ab) (S := []) ab_dd sp_d0 ent_sa rfl rfl (.inl rfl)
  | h + 1 => .hop (d := linkN ab) (S := []) (qs := [ab]) ab_dd sp_d0 ent_sa rfl rfl (.inl rfl) (by decide +kernel) (by
    rw [show ((linkN ab).T.data.toList.head? == some 47) = false from rfl]
    exact lead_a h)
theorem lead_b (h : Nat) : Leads [spT] true [] [bb] h (.ok [bb] [textN seen.xb]) :=
  .leaf (d := textN seen.xb) (S := []) bb_dd sp_d0 ent_sb rfl (by decide) (fun h => absurd h.1 (by decide))
theorem lead_c : Leads [spT] true [] [cb] 40 (.ok [bb] [textN seen.xb]) :=
  .hop (d := linkN sb) (S := []) (qs := [bb]) cb_dd sp_d0 ent_sc rfl rfl (.inl rfl) (by decide +kernel) (by
    rw [show ((linkN sb).T.data.toList.head? == some 47) = true from rfl]
    exact lead_b 39)
theorem lead_u : Leads [spT] true [] [bb, dd] 40 (.err 3) :=
  .not (d := textN seen.xb) (S := []) bb_dd sp_d0 ent_sb rfl (by decide) (fun h => absurd h.1 (by decide)) (by decide)
theorem goes_a : Goes [spT] true ab (.err 4) := .inr ⟨[ab], by decide +kernel, lead_a 40⟩
theorem goes_c : Goes [spT] true cb (.ok [bb] [textN seen.xb]) := .inr ⟨[cb], by decide +kernel, lead_c⟩
theorem goes_u : Goes [spT] true ub (.err 3) := .inr ⟨[bb, dd], by decide +kernel, lead_u⟩
theorem walked_err {R : List Nd} {k : Int} {w w' : World} {e : Ending} (H : WalkedTo R (.err k) w e w') : e = .returned (.tuple #[.agg #[.string ⟨#[]⟩, .int .i64 0, .int .i64 0, .int .i64 0, .slice none 0 0], .int .i64 k]) ∧ Below w.heap.size w w' := by
  obtain ⟨⟨k', h1, _, _, _, rfl⟩ | ⟨t, A, c, ns, E, h1, _⟩, hb⟩ := H
  · injection h1 with h1
    subst h1
    exact ⟨rfl, hb⟩
  · cases h1
theorem walked_c {w w' : World} {e : Ending} (H : WalkedTo [spT] (.ok [bb] [textN seen.xb]) w e w') : (∃ (S : ByteArray) (l i : Int) (A : Option Addr) (n c : Nat), e = .returned (.tuple #[.agg #[.string S, .int .i64 1, .int .i64 l, .int .i64 i, .slice A n c], .int .i64 0]) ∧ (S.toList == [47, 98]) = true) ∧ Below w.heap.size w w' := by
  obtain ⟨⟨k', h1, _⟩ | ⟨t, A, c, ns, E, h1, rfl, _, _, _, hH, hS, _⟩, hb⟩ := H
  · cases h1
  · injection h1 with h1 h2
    subst h1
    subst h2
    have hK : t.K = 1 := by
      rcases hH with ⟨h3, _⟩ | ⟨_, _, d, h3, _, _, h4, _⟩
      · exact absurd (h3 (textN seen.xb) (List.mem_cons_self ..)) (by decide)
      · injection h3 with h3 _
        rw [h4, ← h3]
        rfl
    refine ⟨⟨t.S, t.l, t.i, A, t.Q.length, c, by unfold tgV; rw [hK], ?_⟩, hb⟩
    rw [hS, ByteArray.toList_eq]
    rfl
theorem trees_1 {w W : World} {x : Nd} {rx : Raw} (hW : W = w.alloc (.cells (rawCells x rx) 125)) (hx : NdAt w w.heap.size x rx) : Trees W W.heap.size (some ⟨w.heap.size, 0, none⟩) [x] (fun _ => rx) := by
  have hb : Below w.heap.size w W := by rw [hW]; exact (Below.refl _ _).alloc (Nat.le_refl _) _
  have hk : W.heap[w.heap.size]? = some (.cells (rawCells x rx) 125 (0, 0)) := by rw [hW]; exact heap_alloc_new w _
  intro i z hz
  rcases i with _ | i
  · obtain rfl : x = z := by simpa using hz
    refine ⟨⟨_, 0, rfl, lt_of_some hk, fun j v hj => ?_⟩, hx.later hb⟩
    rw [cell_of_blk hk, show 0 + 0 * 7 + j = j by omega]
    exact hj
  · simp at hz
def pick3 (rx ry rz : Raw) : Nat → Raw
  | 0 => rx
  | 1 => ry
  | _ + 2 => rz
theorem three_dir (a b c : ByteArray) (x y z : Nd) (rx ry rz : Raw) (t : Nat) (w3 W4 : World) (hW4 : W4 = w3.alloc (.cells ((rawCells x rx).toList ++ ((rawCells y ry).toList ++ ((rawCells z rz).toList ++ []))).toArray 125)) (hT : Txts W4 W4.heap.size (some ⟨t, 0, none⟩) [a, b, c])
    (hx : NdAt w3 w3.heap.size x rx) (hy : NdAt w3 w3.heap.size y ry) (hz : NdAt w3 w3.heap.size z rz) :
    Calls Tryz.prog 61 #[.slice (some ⟨t, 0, none⟩) 3 3, .slice (some ⟨w3.heap.size, 0, none⟩) 3 3] W4 (Built (dirN [a, b, c] [x, y, z]) W4) := by
  have hb : Below w3.heap.size w3 W4 := by rw [hW4]; exact (Below.refl _ _).alloc (Nat.le_refl _) _
  have hblk : W4.heap[w3.heap.size]? = some (.cells ((rawCells x rx).toList ++ ((rawCells y ry).toList ++ ((rawCells z rz).toList ++ []))).toArray 125 (0, 0)) := by rw [hW4]; exact heap_alloc_new w3 _
  refine dir_any (some ⟨t, 0, none⟩) (some ⟨w3.heap.size, 0, none⟩) 3 3 [a, b, c] [x, y, z] (pick3 rx ry rz) W4 hT (fun j u hu => ?_) (fun i v hv => ?_) (show 3 * 16 ≤ 140737488355328 by decide) (show 3 * 112 ≤ 140737488355328 by decide) (fun h => by cases h) (fun h => by cases h)
  · refine ⟨w3.heap.size, 0, rfl, lt_of_some hblk, ?_⟩
    rw [Nat.zero_add]
    have hu' : ((rawCells x rx).toList ++ ((rawCells y ry).toList ++ ((rawCells z rz).toList ++ [])))[j]? = some u := hu
    unfold World.cell?
    rw [hblk]
    simpa using hu'
  · have hlt := (List.getElem?_eq_some_iff.1 hv).1
    have : i = 0 ∨ i = 1 ∨ i = 2 := by simp at hlt; omega
    rcases this with rfl | rfl | rfl
    · obtain rfl : x = v := by simpa using hv
      exact hx.later hb
    · obtain rfl : y = v := by simpa using hv
      exact hy.later hb
    · obtain rfl : z = v := by simpa using hv
      exact hz.later hb
theorem txts_three (w : World) (a b c : ByteArray) (ha : a.size ≤ 140737488355328) (hb : b.size ≤ 140737488355328) (hc : c.size ≤ 140737488355328) :
    Txts (w.alloc (.cells #[.string a, .string b, .string c] 9)) (w.alloc (.cells #[.string a, .string b, .string c] 9)).heap.size (some ⟨w.heap.size, 0, none⟩) [a, b, c] := fun i x hx => by
  have hlt := (List.getElem?_eq_some_iff.1 hx).1
  have : i = 0 ∨ i = 1 ∨ i = 2 := by simp at hlt; omega
  rcases this with rfl | rfl | rfl
  · obtain rfl : a = x := by simpa using hx
    exact ⟨⟨w.heap.size, 0, rfl, by simp, by simp⟩, ha⟩
  · obtain rfl : b = x := by simpa using hx
    exact ⟨⟨w.heap.size, 0, rfl, by simp, by simp⟩, hb⟩
  · obtain rfl : c = x := by simpa using hx
    exact ⟨⟨w.heap.size, 0, rfl, by simp, by simp⟩, hc⟩
def lnV (t : ByteArray) (r : Raw) : Value := .agg #[.int .i64 3, .bool false, .slice r.An 0 r.cn, .slice r.Ai 0 r.ci, .int .i64 0, .slice r.Ae 0 r.ce, .string t]
theorem ln_v (t : ByteArray) (r : Raw) : ndV (linkN t) r = lnV t r := rfl
def spV (r : Raw) : Value := .agg #[.int .i64 2, .bool false, .slice r.An 3 r.cn, .slice r.Ai 3 r.ci, .int .i64 0, .slice r.Ae 0 r.ce, .string ⟨#[]⟩]
theorem sp_v (r : Raw) : ndV spT r = spV r := rfl
/-- The stack, in memory. -/
structure SpM (w : World) (A : Option Addr) (c : Nat) (g : Nat) (L : List (Nat × Int)) : Prop where
  stk : StkM w A L (tabs [spT])
  len : L.length = 1
  box : w.heap[g]? = some (.cells #[.slice A 1 c, .int .i64 1] 29 (0, 0))
theorem SpM.later {w w' : World} {A : Option Addr} {c g : Nat} {L : List (Nat × Int)} (h : SpM w A c g L) (hb : Below w.heap.size w w') : SpM w' A c g L :=
  ⟨h.stk.later hb, h.len, (hb.block _ (lt_of_some h.box)).trans h.box⟩
theorem sp_walk {s : ByteArray} {O : AtO} (hO : Goes [spT] true s O) (hs : s.size ≤ 1000000) (m : Int) (A : Option Addr) (c g : Nat) (L : List (Nat × Int)) (w : World) (hm : w.cell? ⟨1, 0, none⟩ = some (.int .i64 m)) (h : SpM w A c g L) :
    Calls Tryz.prog 38 #[.agg #[.slice A 1 c, .int .i64 1], .string s, .bool true] w (WalkedTo [spT] O w) := by
  have h1 := walk_any sp_all sp_dirs sp_deep (by decide) A c 1 L m s true O hO w h.stk hm hs
  rw [h.len] at h1
  exact h1
set_option maxHeartbeats 12800000 in
theorem wspeaks_any (m : Int) (w : World) (hm : w.cell? ⟨1, 0, none⟩ = some (.int .i64 m)) : Calls Tryz.prog 12 #[] w fun e w' => e = .returned (.bool true) ∧ Below w.heap.size w w' := by
  have HM := Lib.hid hm
  clear hm
  obtain ⟨W1, hW1⟩ : ∃ W1, W1 = w.alloc (.cells #[.string ab, .string bb, .string cb] 9) := ⟨_, rfl⟩
  have hb1 : Below w.heap.size w W1 := by rw [hW1]; exact (Below.refl _ _).alloc (Nat.le_refl _) _
  have hT1 : Txts W1 W1.heap.size (some ⟨w.heap.size, 0, none⟩) [ab, bb, cb] := by rw [hW1]; exact txts_three w ab bb cb (by decide) (by decide) (by decide)
  have HT1 := Lib.hid hT1
  have HB1 := Lib.hid hb1
  have hW1' : W1 = w.alloc (.cells #[.string ⟨#[97]⟩, .string ⟨#[98]⟩, .string ⟨#[99]⟩] 9) := hW1
  have HW1 := Lib.hid hW1'
  clear hW1 hW1' hb1 hT1
  go_enter Tryz.func12, Tryz.ntmps12
  go_wp2_with fail
  rw [← HW1.out]
  refine (show Calls Tryz.prog 62 #[.string ⟨#[97]⟩] W1 _ from ((link_any ab W1 (by decide)).mono fun _ _ h => h.as (ln_v ab))).mono ?_
  rintro e w2 ⟨r2, rfl, hn2, hb2⟩
  have HN2 := Lib.hid hn2
  have HB2 := Lib.hid hb2
  clear hn2 hb2 HW1
  unfold lnV
  go_wp2_with fail
  refine (show Calls Tryz.prog 63 #[.string ⟨#[120]⟩] w2 _ from ((text_any seen.xb w2 (by decide)).mono fun _ _ h => h.as seen.xb_v)).mono ?_
  rintro e w3 ⟨r3, rfl, hn3, hb3⟩
  have HN3 := Lib.hid hn3
  have HB3 := Lib.hid hb3
  clear hn3 hb3
  unfold x1V
  go_wp2_with fail
  refine (show Calls Tryz.prog 62 #[.string ⟨#[47, 98]⟩] w3 _ from ((link_any sb w3 (by decide)).mono fun _ _ h => h.as (ln_v sb))).mono ?_
  rintro e w4 ⟨r4, rfl, hn4, hb4⟩
  obtain ⟨W5, hW5⟩ : ∃ W5, W5 = w4.alloc (.cells ((rawCells (linkN ab) r2).toList ++ ((rawCells (textN seen.xb) r3).toList ++ ((rawCells (linkN sb) r4).toList ++ []))).toArray 125) := ⟨_, rfl⟩
  have hb5 : Below w4.heap.size w4 W5 := by rw [hW5]; exact (Below.refl _ _).alloc (Nat.le_refl _) _
  have hb14 : Below W1.heap.size W1 w4 := HB2.out.trans ((HB3.out.trans (hb4.mono HB3.out.size)).mono HB2.out.size)
  have hb15 : Below W1.heap.size W1 W5 := hb14.trans (hb5.mono hb14.size)
  have HP5 := Lib.hid (three_dir ab bb cb (linkN ab) (textN seen.xb) (linkN sb) r2 r3 r4 w.heap.size w4 W5 hW5 ((HT1.out.keep hb15).more hb15.size) (HN2.out.later (HB3.out.trans (hb4.mono HB3.out.size))) (HN3.out.later hb4) hn4)
  have HB5 := Lib.hid (HB1.out.trans (hb15.mono HB1.out.size))
  have hW5' := hW5
  rw [xb_cells] at hW5'
  have hW5'' : W5 = w4.alloc (.cells #[.int .i64 3, .bool false, .slice r2.An 0 r2.cn, .slice r2.Ai 0 r2.ci, .int .i64 0, .slice r2.Ae 0 r2.ce, .string ab, .int .i64 1, .bool false, .slice r3.An 0 r3.cn, .slice r3.Ai 0 r3.ci, .int .i64 1, .slice r3.Ae 1 r3.ce, .string ⟨#[]⟩, .int .i64 3, .bool false, .slice r4.An 0 r4.cn, .slice r4.Ai 0 r4.ci, .int .i64 0, .slice r4.Ae 0 r4.ce, .string sb] 125) := hW5'
  have HW5 := Lib.hid hW5''
  clear hW5 hW5' hW5'' hb5 hb14 hb15 hn4 hb4 HT1 HN2 HB2 HN3 HB3 HB1
  unfold lnV
  go_wp2_with fail
  rw [← HW5.out]
  refine (HP5.out.mono fun _ _ h => h.as sp_v).mono ?_
  rintro e w6 ⟨r6, rfl, hn6, hb6⟩
  obtain ⟨W7, hW7⟩ : ∃ W7, W7 = w6.alloc (.cells (rawCells spT r6) 125) := ⟨_, rfl⟩
  have hb7 : Below w6.heap.size w6 W7 := by rw [hW7]; exact (Below.refl _ _).alloc (Nat.le_refl _) _
  have hb57 : Below W5.heap.size W5 W7 := hb6.trans (hb7.mono hb6.size)
  have HB7 := Lib.hid (HB5.out.trans (hb57.mono HB5.out.size))
  have hT7 := trees_1 hW7 hn6
  have HC := Lib.hid (show Calls Tryz.prog 60 #[.slice (some ⟨w6.heap.size, 0, none⟩) 1 1] W7 (OfOut [spT] W7) from stk.of_any _ 1 [spT] _ m W7 hT7 (below_cell HM.out HB7.out) sp_fine (by decide))
  have hW7' : W7 = w6.alloc (.cells #[.int .i64 2, .bool false, .slice r6.An 3 r6.cn, .slice r6.Ai 3 r6.ci, .int .i64 0, .slice r6.Ae 0 r6.ce, .string ⟨#[]⟩] 125) := hW7
  have HW7 := Lib.hid hW7'
  clear hn6 hb6 hb7 hb57 hT7 hW7 hW7' HP5 HB5 HW5
  unfold spV
  go_wp2_with fail
  rw [← HW7.out]
  refine HC.out.mono ?_
  rintro e w8 hof
  rcases hof with ⟨A, c, L, rfl, hok, _, _, hb8⟩ | ⟨er, _, hbad, _⟩
  rotate_left 1
  · exfalso
    rcases hbad with ⟨_, t, ht, hf⟩ | ⟨_, hlt⟩
    · rw [sp_right t ht] at hf; cases hf
    · exact absurd hlt (by decide)
  obtain ⟨W9, hW9⟩ : ∃ W9, W9 = w8.alloc (.cells #[.slice A 1 c, .int .i64 1] 29) := ⟨_, rfl⟩
  have hb9 : Below w8.heap.size w8 W9 := by rw [hW9]; exact (Below.refl _ _).alloc (Nat.le_refl _) _
  have hk9 : W9.heap[w8.heap.size]? = some (.cells #[.slice A 1 c, .int .i64 1] 29 (0, 0)) := by rw [hW9]; exact heap_alloc_new w8 _
  have HF := Lib.hid (show SpM W9 A c w8.heap.size L from ⟨StkOk.stkM (hok.later hb9), hok.len, hk9⟩)
  have HB9 := Lib.hid ((HB7.out.trans (hb8.mono HB7.out.size)).trans (hb9.mono (HB7.out.trans (hb8.mono HB7.out.size)).size))
  have HW9 := Lib.hid hW9
  have t : ([spT] : List Nd).length = 1 := rfl
  clear hok hb8 hb9 hk9 hW9 HC HW7 HB7
  unfold stkV
  go_upto_region 2 with fail
  rw [← HW9.out]
  clear HW9 t
  have s0 := cell_of_blk HF.out.box 0
  have s1 := cell_of_blk HF.out.box 1
  have HC := Lib.hid (show Calls Tryz.prog 49 #[.agg #[.slice A 1 c, .int .i64 1]] W9 fun e w' => e = .returned (.int .i64 1) ∧ Below W9.heap.size W9 w' from slen_any A 1 c 1 W9)
  go_wp2_with fail
  refine HC.out.mono ?_
  rintro e v1 ⟨rfl, hb⟩
  replace HF := Lib.hid (HF.out.later hb)
  replace HB9 := Lib.hid (HB9.out.trans (hb.mono HB9.out.size))
  clear HC hb s0 s1
  have s0 := cell_of_blk HF.out.box 0
  have s1 := cell_of_blk HF.out.box 1
  have HC := Lib.hid (show Calls Tryz.prog 38 #[.agg #[.slice A 1 c, .int .i64 1], .string ⟨#[97]⟩, .bool true] v1 (WalkedTo [spT] (.err 4) v1) from sp_walk goes_a (by decide) m A c _ L v1 (below_cell HM.out HB9.out) HF.out)
  go_wp2_with fail
  refine HC.out.mono ?_
  rintro e v2 hw2
  obtain ⟨rfl, hb⟩ := walked_err hw2
  obtain ⟨V3, hV3⟩ : ∃ V3, V3 = v2.alloc (.cells #[.string ⟨#[]⟩, .int .i64 0, .int .i64 0, .int .i64 0, .slice none 0 0] 53) := ⟨_, rfl⟩
  have hb3 : Below v2.heap.size v2 V3 := by rw [hV3]; exact (Below.refl _ _).alloc (Nat.le_refl _) _
  have hb23 := hb.trans (hb3.mono hb.size)
  replace HF := Lib.hid (HF.out.later hb23)
  replace HB9 := Lib.hid (HB9.out.trans (hb23.mono HB9.out.size))
  have HV3 := Lib.hid hV3
  clear HC hw2 hb s0 s1 hb3 hb23 hV3
  go_upto_region 5 with fail
  rw [← HV3.out]
  clear HV3
  have s0 := cell_of_blk HF.out.box 0
  have s1 := cell_of_blk HF.out.box 1
  have HC := Lib.hid (show Calls Tryz.prog 38 #[.agg #[.slice A 1 c, .int .i64 1], .string ⟨#[99]⟩, .bool true] V3 (WalkedTo [spT] (.ok [bb] [textN seen.xb]) V3) from sp_walk goes_c (by decide) m A c _ L V3 (below_cell HM.out HB9.out) HF.out)
  go_wp2_with fail
  refine HC.out.mono ?_
  rintro e v4 hw4
  obtain ⟨⟨S, lt, it, At, nt, ct, rfl, hS⟩, hb⟩ := walked_c hw4
  obtain ⟨V5, hV5⟩ : ∃ V5, V5 = v4.alloc (.cells #[.string S, .int .i64 1, .int .i64 lt, .int .i64 it, .slice At nt ct] 53) := ⟨_, rfl⟩
  have hb3 : Below v4.heap.size v4 V5 := by rw [hV5]; exact (Below.refl _ _).alloc (Nat.le_refl _) _
  have HX5 := Lib.hid (show V5.heap[v4.heap.size]? = some (.cells #[.string S, .int .i64 1, .int .i64 lt, .int .i64 it, .slice At nt ct] 53 (0, 0)) by rw [hV5]; exact heap_alloc_new v4 _)
  have hb23 := hb.trans (hb3.mono hb.size)
  replace HF := Lib.hid (HF.out.later hb23)
  replace HB9 := Lib.hid (HB9.out.trans (hb23.mono HB9.out.size))
  have HV5 := Lib.hid hV5
  clear HC hw4 hb s0 s1 hb3 hb23 hV5
  go_upto_region 6 with fail
  rw [← HV5.out]
  clear HV5
  have s0 := cell_of_blk HF.out.box 0
  have s1 := cell_of_blk HF.out.box 1
  have HC := Lib.hid (show Calls Tryz.prog 38 #[.agg #[.slice A 1 c, .int .i64 1], .string ⟨#[98, 47, 46, 46]⟩, .bool true] V5 (WalkedTo [spT] (.err 3) V5) from sp_walk goes_u (by decide) m A c _ L V5 (below_cell HM.out HB9.out) HF.out)
  go_wp2_with fail
  refine HC.out.mono ?_
  rintro e v6 hw6
  obtain ⟨rfl, hb⟩ := walked_err hw6
  obtain ⟨V7, hV7⟩ : ∃ V7, V7 = v6.alloc (.cells #[.string ⟨#[]⟩, .int .i64 0, .int .i64 0, .int .i64 0, .slice none 0 0] 53) := ⟨_, rfl⟩
  have hb3 : Below v6.heap.size v6 V7 := by rw [hV7]; exact (Below.refl _ _).alloc (Nat.le_refl _) _
  have hb23 := hb.trans (hb3.mono hb.size)
  have hx7 := (hb23.block _ (lt_of_some HX5.out)).trans HX5.out
  have t0 : V7.cell? ⟨v4.heap.size, 0, none⟩ = some (.string S) := cell_of_blk hx7 0
  have t1 : V7.cell? ⟨v4.heap.size, 1, none⟩ = some (.int .i64 1) := cell_of_blk hx7 1
  have HE := Lib.hid (HB9.out.trans (hb23.mono HB9.out.size))
  have HV7 := Lib.hid hV7
  clear HC hw6 hb s0 s1 hb3 hb23 hV7 hx7 HF HB9 HX5
  go_upto_region 7 with fail
  rw [← HV7.out]
  clear HV7
  go_wp2_with fail
  go_ret
  exact ⟨rfl, HE.out⟩
end Go.Proofs.YtkdldnjnadadgaaGreatDoor.wlk
