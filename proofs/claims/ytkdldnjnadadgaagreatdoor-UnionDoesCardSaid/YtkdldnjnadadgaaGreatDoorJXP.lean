/- What is seen by the name that was asked for, as one who goes step by step tells it to the walker. Conditions: the stack, the walker lie in memory; the library's MaxLen holds a number. That walk speaks: a link to itself, a file, and a link to that. Condition: the library's MaxLen holds a number. -/
import Derived.Test.YtkdldnjnadadgaaGreatDoorJXI
import Derived.Test.YtkdldnjnadadgaaGreatDoorJXJ
import Derived.Test.YtkdldnjnadadgaaGreatDoorJH2
namespace Go.Proofs.YtkdldnjnadadgaaGreatDoor.wlk
set_option maxRecDepth 100000
open Go.RowKit Go.Proofs.YtkdldnjnadadgaaGreatDoor.words Go.Proofs.YtkdldnjnadadgaaGreatDoor.ext Go.Proofs.YtkdldnjnadadgaaGreatDoor.name Go.Proofs.YtkdldnjnadadgaaGreatDoor.tre Go.Proofs.YtkdldnjnadadgaaGreatDoor.stk Go.Proofs.YtkdldnjnadadgaaGreatDoor.seen

/-- What is found, and what becomes of it. -/
def FoundS (R : List Nd) (f : Bool) (O : AtO) (g : Nat) (ts : List Tg) (t : Tg) (p : ByteArray) (ps : List ByteArray) (h : Nat) (A : Option Addr) (n c : Nat) (ad : Int) (w1 : World) (en : Ending) (w2 : World) : Prop :=
  ∃ (K l i : Int) (Af : Option Addr) (nf cf : Nat) (there : Bool) (x : ByteArray), en = .returned (.tuple #[.agg #[.int .i64 K, .int .i64 l, .int .i64 i, .slice Af nf cf], .bool there]) ∧ Below w1.heap.size w1 w2 ∧
    (K ≠ 3 → x = ⟨#[]⟩) ∧ (K = 3 → there = true ∧ ∃ yb : Nat, (∀ w' : World, Below w2.heap.size w2 w' → Calls Tryz.prog 25 #[stkV A n c ad, .int .i64 l] w' fun e w'' => e = .returned (.pointer (some ⟨yb, 0, none⟩)) ∧ Below w'.heap.size w' w'') ∧
      (∀ w' : World, Below w2.heap.size w2 w' → Calls Tryz.prog 26 #[.pointer (some ⟨yb, 0, none⟩), .int .i64 i] w' fun e w'' => e = .returned (.string x) ∧ Below w'.heap.size w' w'')) ∧
    (∀ w' : World, Below w2.heap.size w2 w' → Wkr w' g (ts ++ [t]) (p :: ps) f h → Calls Tryz.prog 20 #[.pointer (some ⟨g, 0, none⟩), .agg #[.int .i64 K, .int .i64 l, .int .i64 i, .slice Af nf cf], .bool there, .string x] w' (Stepped R f O g ps h w'))
theorem look_law {R : List Nd} {f : Bool} {O : AtO} {ts : List Tg} {t : Tg} {ns ps : List ByteArray} {p : ByteArray} {h : Nat} {E Q' : List Nd} {g : Nat} (hg : ∀ t ∈ R, allB t = true) (hk : ∀ d ∈ R, depth d < 100) (hR : R.length ≤ 64) (hw : WayD R (ts ++ [t]) ns) (hL : Leads R f ns (p :: ps) (40 - h) O) (hp : p ≠ dd)
    (hn : ∀ n ∈ ns, NmD n) (hs : ∀ q ∈ p :: ps, Nm q) (hh : h ≤ 40) (hf : (p :: ps).length + (40 - h) * 520 ≤ 30000) (hE : Along (D0 R) ns E) (hQ : EntN p E Q') (hS : t.S = pathOf ns) (hq : PlQ R ns t.Q)
    (A : Option Addr) (c : Nat) (ad : Int) (L : List (Nat × Int)) (m : Int) {w1 w2 : World} {en : Ending} (hst : StkM w1 A L (tabs R)) (hm : w1.cell? ⟨1, 0, none⟩ = some (.int .i64 m)) (H : SawP R t.Q E p Q' w1 en w2) :
    FoundS R f O g ts t p ps h A L.length c ad w1 en w2 := by
  obtain ⟨H, hb⟩ := H
  have hst2 := hst.later hb
  have hm2 := below_cell hm hb
  have hnl := hw.deep hk
  have htl : ts.length = ns.length := by have := hw.1; simp at this; omega
  have hSz : t.S.size ≤ 1000000000 := by
    have h1 := pathOf_size ns ⟨#[47]⟩ fun n h => (hn n h).1.1
    rw [hS]
    unfold pathOf
    have h2 : (⟨#[47]⟩ : ByteArray).size = 1 := rfl
    omega
  have hpz := (hs p (List.mem_cons_self ..)).1
  rw [List.length_cons] at hf
  have hgE := (hE.good (Good.root hg)).seen hQ
  have hql : (seenOf Q').length ≤ 64 := by
    have h1 := seenOf_len Q'
    have h2 := hQ.len
    have h3 := hE.len
    have h4 := D0_len R
    omega
  have hqs : ∀ (x : ByteArray) (Q : List ByteArray), parts x.data.toList = some (Q.map fun y => y.data.toList) → Q.length ≤ 1000000 := fun x Q hq => by
    have := parts_len hq
    rw [List.length_map] at this
    omega
  have hz0 : (⟨#[]⟩ : ByteArray).size ≤ 1000000000 := by decide
  rcases H with ⟨h1, rfl⟩ | ⟨⟨lv, nd⟩, d, Q0, h1, h2, h3, _, rfl, hq1, hq2⟩ | ⟨⟨lv, nd⟩, d, Q, A', c', Q0, h1, h2, h3, _, h5, h6, h7, h8, rfl, h9, h10, hq1, _, hq2⟩
  · refine ⟨0, 0, 0, none, 0, 0, false, ⟨#[]⟩, rfl, hb, fun _ => rfl, fun h => absurd h (by decide), fun w' hb' hwk => ?_⟩
    · exact (tell_any w' g ts t p ps f h 0 0 0 [] none 0 false ⟨#[]⟩ m hwk plc_nil (fun _ => ⟨rfl, rfl⟩) (below_cell hm2 hb') hz0 (by simp) (by omega) hSz (by omega) (by omega) (hqs _) (by omega)).mono fun e w'' H => step_away hg hL hp hE hQ h1 H
  · obtain ⟨x, hx0, hx1, hx2, hx3⟩ : ∃ x : ByteArray, (d.K ≠ 3 → x = ⟨#[]⟩) ∧ (d.K = 3 → (true = true) ∧ ∃ yb : Nat, (∀ w' : World, Below w2.heap.size w2 w' → Calls Tryz.prog 25 #[stkV A L.length c ad, .int .i64 (lv : Int)] w' fun e w'' => e = .returned (.pointer (some ⟨yb, 0, none⟩)) ∧ Below w'.heap.size w' w'') ∧
      (∀ w' : World, Below w2.heap.size w2 w' → Calls Tryz.prog 26 #[.pointer (some ⟨yb, 0, none⟩), .int .i64 (nd : Int)] w' fun e w'' => e = .returned (.string x) ∧ Below w'.heap.size w' w'')) ∧ (d.K = 3 → x = d.T) ∧ x.size ≤ 1000000000 := by
      by_cases hK : d.K = 3
      · refine ⟨d.T, fun h => absurd hK h, fun _ => ⟨rfl, ?_⟩, fun _ => rfl, ?_⟩
        · obtain ⟨t', ht, htd⟩ := id h2
          have hE' := tabs_at ht
          have hEe : (flatN 0 t')[nd]? = some (entOf nd d) := flat_at htd
          obtain ⟨y, hy⟩ : ∃ y, L[lv]? = some y := ⟨_, List.getElem?_eq_getElem (by rw [← hst2.es]; exact (List.getElem?_eq_some_iff.1 hE').1)⟩
          exact ⟨y.1, fun w' hb' => (sat_yes A L.length c lv ad L y w' (hst2.later hb').rows rfl hy).mono fun e w'' ⟨h1, h2⟩ => ⟨h1, h2⟩, fun w' hb' =>
            (btarget_yes y.1 nd _ _ w' ((hst2.later hb').brs lv y _ hy hE') hEe).mono fun _ _ ⟨he, hw⟩ => ⟨by rw [he, show (entOf nd d).x.T = d.T from alone_T d], hw⟩⟩
        · have := (link_parts (hgE.one (by rw [h1]; exact List.mem_cons_self ..)) hK).1
          omega
      · exact ⟨⟨#[]⟩, fun _ => rfl, fun h => absurd h hK, fun h => absurd h hK, hz0⟩
    refine ⟨d.K, lv, nd, none, 0, 0, true, x, rfl, hb, hx0, hx1, fun w' hb' hwk => ?_⟩
    exact (tell_any w' g ts t p ps f h d.K lv nd [] none 0 true x m hwk plc_nil (fun _ => ⟨rfl, rfl⟩) (below_cell hm2 hb') hx3 (by simp) (by omega) hSz (by omega) (by omega) (hqs _) (by omega)).mono fun e w'' H =>
      step_other hg hk hw hL hp hn hs hh (by rw [List.length_cons]; exact hf) hE hQ hS h1 h2 h3 hx2 hq hq1 hq2 H
  · have hlen := h5.length
    rw [h3]
    refine ⟨2, lv, nd, A', Q.length, c', true, ⟨#[]⟩, rfl, hb, fun _ => rfl, fun h => absurd h (by decide), fun w' hb' hwk => ?_⟩
    · exact (tell_any w' g ts t p ps f h 2 lv nd Q A' c' true ⟨#[]⟩ m hwk ((h9.keep hb').more hb'.size) (fun e => absurd e (plc_some h9 h7)) (below_cell hm2 hb') hz0 (by omega) (by omega) hSz (by omega) (by omega) (hqs _) (by omega)).mono fun e w'' H =>
        step_dir hg hk hw hL hp hn hs hh (by rw [List.length_cons]; exact hf) hE hQ hS (fun e => by rw [e] at h1; simp at h1) h5 h6 h7 h8 hq hq1 hq2 H
theorem at_err {O : AtO} {A1 A2 : Option Addr} {n1 c1 n2 c2 : Nat} {kz k : Int} {w : World} (h : AtIn O (.agg #[.slice A1 n1 c1, .slice A2 n2 c2, .int .i64 kz]) w) (hO : O = .err k) : kz = k := by
  subst hO
  have h : Value.agg #[.slice A1 n1 c1, .slice A2 n2 c2, .int .i64 kz] = .agg #[.slice none 0 0, .slice none 0 0, .int .i64 k] := h
  injection h with h
  have h := congrArg (fun x : Array Value => x[2]?) h
  simp at h
  exact h
end Go.Proofs.YtkdldnjnadadgaaGreatDoor.wlk

namespace Go.Proofs.YtkdldnjnadadgaaGreatDoor.wlk
set_option maxRecDepth 100000
open Go.RowKit Go.Proofs.YtkdldnjnadadgaaGreatDoor.words Go.Proofs.YtkdldnjnadadgaaGreatDoor.ext Go.Proofs.YtkdldnjnadadgaaGreatDoor.name Go.Proofs.YtkdldnjnadadgaaGreatDoor.tre Go.Proofs.YtkdldnjnadadgaaGreatDoor.stk Go.Proofs.YtkdldnjnadadgaaGreatDoor.seen

def sb : ByteArray := ⟨#[47, 98]⟩
def ub : ByteArray := ⟨#[98, 47, 46, 46]⟩
def spT : Nd := dirN [ab, bb, cb] [linkN ab, textN seen.xb, linkN sb]
theorem sp_fine : ∀ t ∈ [spT], depth t ≤ 1000 ∧ (treeB t = true → countC t = (count t : Int) ∧ count t ≤ 4096) := fun t ht => by
  simp only [List.mem_cons, List.mem_nil_iff, or_false] at ht
  subst ht
  exact ⟨by decide +kernel, fun _ => ⟨by decide +kernel, by decide +kernel⟩⟩
theorem sp_right : ∀ t ∈ [spT], treeB t = true := fun t ht => by
  simp only [List.mem_cons, List.mem_nil_iff, or_false] at ht
  subst ht
  decide +kernel
theorem sp_all : ∀ t ∈ [spT], allB t = true := fun t ht => by
  simp only [List.mem_cons, List.mem_nil_iff, or_false] at ht
  subst ht
  decide +kernel
theorem sp_dirs : ∀ t ∈ [spT], t.K = 2 := fun t ht => by
  simp only [List.mem_cons, List.mem_nil_iff, or_false] at ht
  subst ht
  rfl
theorem sp_deep : ∀ t ∈ [spT], depth t < 100 := fun t ht => by
  simp only [List.mem_cons, List.mem_nil_iff, or_false] at ht
  subst ht
  decide +kernel
theorem sp_d0 : Along (D0 [spT]) [] [spT] := rfl
theorem ent_sa : EntN ab [spT] [linkN ab] := ⟨some (linkN ab), [], .inl ⟨0, linkN ab, rfl, rfl, rfl⟩, rfl, rfl⟩
theorem ent_sb : EntN bb [spT] [textN seen.xb] := ⟨some (textN seen.xb), [], .inl ⟨1, textN seen.xb, rfl, rfl, rfl⟩, rfl, rfl⟩
theorem ent_sc : EntN cb [spT] [linkN sb] := ⟨some (linkN sb), [], .inl ⟨2, linkN sb, rfl, rfl, rfl⟩, rfl, rfl⟩
theorem ab_dd : ab ≠ dd := by decide
theorem bb_dd : bb ≠ dd := by decide
theorem cb_dd : cb ≠ dd := by decide
theorem lead_a : ∀ h : Nat, Leads [spT] true [] [ab] h (.err 4)
  | 0 => .loop (d := linkN ab) (S := []) ab_dd sp_d0 ent_sa rfl rfl (.inl rfl)
  | h + 1 => .hop (d := linkN ab) (S := []) (qs := [ab]) ab_dd sp_d0 ent_sa rfl rfl (.inl rfl) (by decide +kernel) (by
    rw [show ((linkN ab).T.data.toList.head? == some 47) = false from rfl]
    exact lead_a h)
theorem lead_b (h : Nat) : Leads [spT] true [] [bb] h (.ok [bb] [textN seen.xb]) :=
  .leaf (d := textN seen.xb) (S := []) bb_dd sp_d0 ent_sb rfl (by decide) (fun h => absurd h.1 (by decide))
theorem lead_c : Leads [spT] true [] [cb] 40 (.ok [bb] [textN seen.xb]) :=
  .hop (d := linkN sb) (S := []) (qs := [bb]) cb_dd sp_d0 ent_sc rfl rfl (.inl rfl) (by decide +kernel) (by
    rw [show ((linkN sb).T.data.toList.head? == some 47) = true from rfl]
    exact lead_b 39)
theorem lead_u : Leads [spT] true [] [bb, dd] 40 (.err 3) :=
  .not (d := textN seen.xb) (S := []) bb_dd sp_d0 ent_sb rfl (by decide) (fun h => absurd h.1 (by decide)) (by decide)
theorem goes_a : Goes [spT] true ab (.err 4) := .inr ⟨[ab], by decide +kernel, lead_a 40⟩
theorem goes_c : Goes [spT] true cb (.ok [bb] [textN seen.xb]) := .inr ⟨[cb], by decide +kernel, lead_c⟩
theorem goes_u : Goes [spT] true ub (.err 3) := .inr ⟨[bb, dd], by decide +kernel, lead_u⟩
theorem walked_err {R : List Nd} {k : Int} {w w' : World} {e : Ending} (H : WalkedTo R (.err k) w e w') : e = .returned (.tuple #[.agg #[.string ⟨#[]⟩, .int .i64 0, .int .i64 0, .int .i64 0, .slice none 0 0], .int .i64 k]) ∧ Below w.heap.size w w' := by
  obtain ⟨⟨k', h1, _, _, _, rfl⟩ | ⟨t, A, c, ns, E, h1, _⟩, hb⟩ := H
  · injection h1 with h1
    subst h1
    exact ⟨rfl, hb⟩
  · cases h1
theorem walked_c {w w' : World} {e : Ending} (H : WalkedTo [spT] (.ok [bb] [textN seen.xb]) w e w') : (∃ (S : ByteArray) (l i : Int) (A : Option Addr) (n c : Nat), e = .returned (.tuple #[.agg #[.string S, .int .i64 1, .int .i64 l, .int .i64 i, .slice A n c], .int .i64 0]) ∧ (S.toList == [47, 98]) = true) ∧ Below w.heap.size w w' := by
  obtain ⟨⟨k', h1, _⟩ | ⟨t, A, c, ns, E, h1, rfl, _, _, _, hH, hS, _⟩, hb⟩ := H
  · cases h1
  · injection h1 with h1 h2
    subst h1
    subst h2
    have hK : t.K = 1 := by
      rcases hH with ⟨h3, _⟩ | ⟨_, _, d, h3, _, _, h4, _⟩
      · exact absurd (h3 (textN seen.xb) (List.mem_cons_self ..)) (by decide)
      · injection h3 with h3 _
        rw [h4, ← h3]
        rfl
    refine ⟨⟨t.S, t.l, t.i, A, t.Q.length, c, by unfold tgV; rw [hK], ?_⟩, hb⟩
    rw [hS, ByteArray.toList_eq]
    rfl
theorem trees_1 {w W : World} {x : Nd} {rx : Raw} (hW : W = w.alloc (.cells (rawCells x rx) 125)) (hx : NdAt w w.heap.size x rx) : Trees W W.heap.size (some ⟨w.heap.size, 0, none⟩) [x] (fun _ => rx) := by
  have hb : Below w.heap.size w W := by rw [hW]; exact (Below.refl _ _).alloc (Nat.le_refl _) _
  have hk : W.heap[w.heap.size]? = some (.cells (rawCells x rx) 125 (0, 0)) := by rw [hW]; exact heap_alloc_new w _
  intro i z hz
  rcases i with _ | i
  · obtain rfl : x = z := by simpa using hz
    refine ⟨⟨_, 0, rfl, lt_of_some hk, fun j v hj => ?_⟩, hx.later hb⟩
    rw [cell_of_blk hk, show 0 + 0 * 7 + j = j by omega]
    exact hj
  · simp at hz
def pick3 (rx ry rz : Raw) : Nat → Raw
  | 0 => rx
  | 1 => ry
  | _ + 2 => rz
theorem three_dir (a b c : ByteArray) (x y z : Nd) (rx ry rz : Raw) (t : Nat) (w3 W4 : World) (hW4 : W4 = w3.alloc (.cells ((rawCells x rx).toList ++ ((rawCells y ry).toList ++ ((rawCells z rz).toList ++ []))).toArray 125)) (hT : Txts W4 W4.heap.size (some ⟨t, 0, none⟩) [a, b, c])
    (hx : NdAt w3 w3.heap.size x rx) (hy : NdAt w3 w3.heap.size y ry) (hz : NdAt w3 w3.heap.size z rz) :
    Calls Tryz.prog 61 #[.slice (some ⟨t, 0, none⟩) 3 3, .slice (some ⟨w3.heap.size, 0, none⟩) 3 3] W4 (Built (dirN [a, b, c] [x, y, z]) W4) := by
  have hb : Below w3.heap.size w3 W4 := by rw [hW4]; exact (Below.refl _ _).alloc (Nat.le_refl _) _
  have hblk : W4.heap[w3.heap.size]? = some (.cells ((rawCells x rx).toList ++ ((rawCells y ry).toList ++ ((rawCells z rz).toList ++ []))).toArray 125 (0, 0)) := by rw [hW4]; exact heap_alloc_new w3 _
  refine dir_any (some ⟨t, 0, none⟩) (some ⟨w3.heap.size, 0, none⟩) 3 3 [a, b, c] [x, y, z] (pick3 rx ry rz) W4 hT (fun j u hu => ?_) (fun i v hv => ?_) (show 3 * 16 ≤ 140737488355328 by decide) (show 3 * 112 ≤ 140737488355328 by decide) (fun h => by cases h) (fun h => by cases h)
  · refine ⟨w3.heap.size, 0, rfl, lt_of_some hblk, ?_⟩
    rw [Nat.zero_add]
    have hu' : ((rawCells x rx).toList ++ ((rawCells y ry).toList ++ ((rawCells z rz).toList ++ [])))[j]? = some u := hu
    unfold World.cell?
    rw [hblk]
    simpa using hu'
  · have hlt := (List.getElem?_eq_some_iff.1 hv).1
    have : i = 0 ∨ i = 1 ∨ i = 2 := by simp at hlt; omega
    rcases this with rfl | rfl | rfl
    · obtain rfl : x = v := by simpa using hv
      exact hx.later hb
    · obtain rfl : y = v := by simpa using hv
      exact hy.later hb
    · obtain rfl : z = v := by simpa using hv
      exact hz.later hb
theorem txts_three (w : World) (a b c : ByteArray) (ha : a.size ≤ 140737488355328) (hb : b.size ≤ 140737488355328) (hc : c.size ≤ 140737488355328) :
    Txts (w.alloc (.cells #[.string a, .string b, .string c] 9)) (w.alloc (.cells #[.string a, .string b, .string c] 9)).heap.size (some ⟨w.heap.size, 0, none⟩) [a, b, c] := fun i x hx => by
  have hlt := (List.getElem?_eq_some_iff.1 hx).1
  have : i = 0 ∨ i = 1 ∨ i = 2 := by simp at hlt; omega
  rcases this with rfl | rfl | rfl
  · obtain rfl : a = x := by simpa using hx
    exact ⟨⟨w.heap.size, 0, rfl, by simp, by simp⟩, ha⟩
  · obtain rfl : b = x := by simpa using hx
    exact ⟨⟨w.heap.size, 0, rfl, by simp, by simp⟩, hb⟩
  · obtain rfl : c = x := by simpa using hx
    exact ⟨⟨w.heap.size, 0, rfl, by simp, by simp⟩, hc⟩
def lnV (t : ByteArray) (r : Raw) : Value := .agg #[.int .i64 3, .bool false, .slice r.An 0 r.cn, .slice r.Ai 0 r.ci, .int .i64 0, .slice r.Ae 0 r.ce, .string t]
theorem ln_v (t : ByteArray) (r : Raw) : ndV (linkN t) r = lnV t r := rfl
def spV (r : Raw) : Value := .agg #[.int .i64 2, .bool false, .slice r.An 3 r.cn, .slice r.Ai 3 r.ci, .int .i64 0, .slice r.Ae 0 r.ce, .string ⟨#[]⟩]
theorem sp_v (r : Raw) : ndV spT r = spV r := rfl
/-- The stack, in memory. -/
structure SpM (w : World) (A : Option Addr) (c : Nat) (g : Nat) (L : List (Nat × Int)) : Prop where
  stk : StkM w A L (tabs [spT])
  len : L.length = 1
  box : w.heap[g]? = some (.cells #[.slice A 1 c, .int .i64 1] 29 (0, 0))
theorem SpM.later {w w' : World} {A : Option Addr} {c g : Nat} {L : List (Nat × Int)} (h : SpM w A c g L) (hb : Below w.heap.size w w') : SpM w' A c g L :=
  ⟨h.stk.later hb, h.len, (hb.block _ (lt_of_some h.box)).trans h.box⟩
theorem sp_walk {s : ByteArray} {O : AtO} (hO : Goes [spT] true s O) (hs : s.size ≤ 1000000) (m : Int) (A : Option Addr) (c g : Nat) (L : List (Nat × Int)) (w : World) (hm : w.cell? ⟨1, 0, none⟩ = some (.int .i64 m)) (h : SpM w A c g L) :
    Calls Tryz.prog 38 #[.agg #[.slice A 1 c, .int .i64 1], .string s, .bool true] w (WalkedTo [spT] O w) := by
  have h1 := walk_any sp_all sp_dirs sp_deep (by decide) A c 1 L m s true O hO w h.stk hm hs
  rw [h.len] at h1
  exact h1
set_option maxHeartbeats 12800000 in
theorem wspeaks_any (m : Int) (w : World) (hm : w.cell? ⟨1, 0, none⟩ = some (.int .i64 m)) : Calls Tryz.prog 12 #[] w fun e w' => e = .returned (.bool true) ∧ Below w.heap.size w w' := by
  have HM := Lib.hid hm
  clear hm
  obtain ⟨W1, hW1⟩ : ∃ W1, W1 = w.alloc (.cells #[.string ab, .string bb, .string cb] 9) := ⟨_, rfl⟩
  have hb1 : Below w.heap.size w W1 := by rw [hW1]; exact (Below.refl _ _).alloc (Nat.le_refl _) _
  have hT1 : Txts W1 W1.heap.size (some ⟨w.heap.size, 0, none⟩) [ab, bb, cb] := by rw [hW1]; exact txts_three w ab bb cb (by decide) (by decide) (by decide)
  have HT1 := Lib.hid hT1
  have HB1 := Lib.hid hb1
  have hW1' : W1 = w.alloc (.cells #[.string ⟨#[97]⟩, .string ⟨#[98]⟩, .string ⟨#[99]⟩] 9) := hW1
  have HW1 := Lib.hid hW1'
  clear hW1 hW1' hb1 hT1
  go_enter Tryz.func12, Tryz.ntmps12
  go_wp2_with fail
  rw [← HW1.out]
  refine (show Calls Tryz.prog 62 #[.string ⟨#[97]⟩] W1 _ from ((link_any ab W1 (by decide)).mono fun _ _ h => h.as (ln_v ab))).mono ?_
  rintro e w2 ⟨r2, rfl, hn2, hb2⟩
  have HN2 := Lib.hid hn2
  have HB2 := Lib.hid hb2
  clear hn2 hb2 HW1
  unfold lnV
  go_wp2_with fail
  refine (show Calls Tryz.prog 63 #[.string ⟨#[120]⟩] w2 _ from ((text_any seen.xb w2 (by decide)).mono fun _ _ h => h.as seen.xb_v)).mono ?_
  rintro e w3 ⟨r3, rfl, hn3, hb3⟩
  have HN3 := Lib.hid hn3
  have HB3 := Lib.hid hb3
  clear hn3 hb3
  unfold x1V
  go_wp2_with fail
  refine (show Calls Tryz.prog 62 #[.string ⟨#[47, 98]⟩] w3 _ from ((link_any sb w3 (by decide)).mono fun _ _ h => h.as (ln_v sb))).mono ?_
  rintro e w4 ⟨r4, rfl, hn4, hb4⟩
  obtain ⟨W5, hW5⟩ : ∃ W5, W5 = w4.alloc (.cells ((rawCells (linkN ab) r2).toList ++ ((rawCells (textN seen.xb) r3).toList ++ ((rawCells (linkN sb) r4).toList ++ []))).toArray 125) := ⟨_, rfl⟩
  have hb5 : Below w4.heap.size w4 W5 := by rw [hW5]; exact (Below.refl _ _).alloc (Nat.le_refl _) _
  have hb14 : Below W1.heap.size W1 w4 := HB2.out.trans ((HB3.out.trans (hb4.mono HB3.out.size)).mono HB2.out.size)
  have hb15 : Below W1.heap.size W1 W5 := hb14.trans (hb5.mono hb14.size)
  have HP5 := Lib.hid (three_dir ab bb cb (linkN ab) (textN seen.xb) (linkN sb) r2 r3 r4 w.heap.size w4 W5 hW5 ((HT1.out.keep hb15).more hb15.size) (HN2.out.later (HB3.out.trans (hb4.mono HB3.out.size))) (HN3.out.later hb4) hn4)
  have HB5 := Lib.hid (HB1.out.trans (hb15.mono HB1.out.size))
  have hW5' := hW5
  rw [xb_cells] at hW5'
  have hW5'' : W5 = w4.alloc (.cells #[.int .i64 3, .bool false, .slice r2.An 0 r2.cn, .slice r2.Ai 0 r2.ci, .int .i64 0, .slice r2.Ae 0 r2.ce, .string ab, .int .i64 1, .bool false, .slice r3.An 0 r3.cn, .slice r3.Ai 0 r3.ci, .int .i64 1, .slice r3.Ae 1 r3.ce, .string ⟨#[]⟩, .int .i64 3, .bool false, .slice r4.An 0 r4.cn, .slice r4.Ai 0 r4.ci, .int .i64 0, .slice r4.Ae 0 r4.ce, .string sb] 125) := hW5'
  have HW5 := Lib.hid hW5''
  clear hW5 hW5' hW5'' hb5 hb14 hb15 hn4 hb4 HT1 HN2 HB2 HN3 HB3 HB1
  unfold lnV
  go_wp2_with fail
  rw [← HW5.out]
  refine (HP5.out.mono fun _ _ h => h.as sp_v).mono ?_
  rintro e w6 ⟨r6, rfl, hn6, hb6⟩
  obtain ⟨W7, hW7⟩ : ∃ W7, W7 = w6.alloc (.cells (rawCells spT r6) 125) := ⟨_, rfl⟩
  have hb7 : Below w6.heap.size w6 W7 := by rw [hW7]; exact (Below.refl _ _).alloc (Nat.le_refl _) _
  have hb57 : Below W5.heap.size W5 W7 := hb6.trans (hb7.mono hb6.size)
  have HB7 := Lib.hid (HB5.out.trans (hb57.mono HB5.out.size))
  have hT7 := trees_1 hW7 hn6
  have HC := Lib.hid (show Calls Tryz.prog 60 #[.slice (some ⟨w6.heap.size, 0, none⟩) 1 1] W7 (OfOut [spT] W7) from stk.of_any _ 1 [spT] _ m W7 hT7 (below_cell HM.out HB7.out) sp_fine (by decide))
  have hW7' : W7 = w6.alloc (.cells #[.int .i64 2, .bool false, .slice r6.An 3 r6.cn, .slice r6.Ai 3 r6.ci, .int .i64 0, .slice r6.Ae 0 r6.ce, .string ⟨#[]⟩] 125) := hW7
  have HW7 := Lib.hid hW7'
  clear hn6 hb6 hb7 hb57 hT7 hW7 hW7' HP5 HB5 HW5
  unfold spV
  go_wp2_with fail
  rw [← HW7.out]
  refine HC.out.mono ?_
  rintro e w8 hof
  rcases hof with ⟨A, c, L, rfl, hok, _, _, hb8⟩ | ⟨er, _, hbad, _⟩
  rotate_left 1
  · exfalso
    rcases hbad with ⟨_, t, ht, hf⟩ | ⟨_, hlt⟩
    · rw [sp_right t ht] at hf; cases hf
    · exact absurd hlt (by decide)
  obtain ⟨W9, hW9⟩ : ∃ W9, W9 = w8.alloc (.cells #[.slice A 1 c, .int .i64 1] 29) := ⟨_, rfl⟩
  have hb9 : Below w8.heap.size w8 W9 := by rw [hW9]; exact (Below.refl _ _).alloc (Nat.le_refl _) _
  have hk9 : W9.heap[w8.heap.size]? = some (.cells #[.slice A 1 c, .int .i64 1] 29 (0, 0)) := by rw [hW9]; exact heap_alloc_new w8 _
  have HF := Lib.hid (show SpM W9 A c w8.heap.size L from ⟨StkOk.stkM (hok.later hb9), hok.len, hk9⟩)
  have HB9 := Lib.hid ((HB7.out.trans (hb8.mono HB7.out.size)).trans (hb9.mono (HB7.out.trans (hb8.mono HB7.out.size)).size))
  have HW9 := Lib.hid hW9
  have t : ([spT] : List Nd).length = 1 := rfl
  clear hok hb8 hb9 hk9 hW9 HC HW7 HB7
  unfold stkV
  go_upto_region 2 with fail
  rw [← HW9.out]
  clear HW9 t
  have s0 := cell_of_blk HF.out.box 0
  have s1 := cell_of_blk HF.out.box 1
  have HC := Lib.hid (show Calls Tryz.prog 49 #[.agg #[.slice A 1 c, .int .i64 1]] W9 fun e w' => e = .returned (.int .i64 1) ∧ Below W9.heap.size W9 w' from slen_any A 1 c 1 W9)
  go_wp2_with fail
  refine HC.out.mono ?_
  rintro e v1 ⟨rfl, hb⟩
  replace HF := Lib.hid (HF.out.later hb)
  replace HB9 := Lib.hid (HB9.out.trans (hb.mono HB9.out.size))
  clear HC hb s0 s1
  have s0 := cell_of_blk HF.out.box 0
  have s1 := cell_of_blk HF.out.box 1
  have HC := Lib.hid (show Calls Tryz.prog 38 #[.agg #[.slice A 1 c, .int .i64 1], .string ⟨#[97]⟩, .bool true] v1 (WalkedTo [spT] (.err 4) v1) from sp_walk goes_a (by decide) m A c _ L v1 (below_cell HM.out HB9.out) HF.out)
  go_wp2_with fail
  refine HC.out.mono ?_
  rintro e v2 hw2
  obtain ⟨rfl, hb⟩ := walked_err hw2
  obtain ⟨V3, hV3⟩ : ∃ V3, V3 = v2.alloc (.cells #[.string ⟨#[]⟩, .int .i64 0, .int .i64 0, .int .i64 0, .slice none 0 0] 53) := ⟨_, rfl⟩
  have hb3 : Below v2.heap.size v2 V3 := by rw [hV3]; exact (Below.refl _ _).alloc (Nat.le_refl _) _
  have hb23 := hb.trans (hb3.mono hb.size)
  replace HF := Lib.hid (HF.out.later hb23)
  replace HB9 := Lib.hid (HB9.out.trans (hb23.mono HB9.out.size))
  have HV3 := Lib.hid hV3
  clear HC hw2 hb s0 s1 hb3 hb23 hV3
  go_upto_region 5 with fail
  rw [← HV3.out]
  clear HV3
  have s0 := cell_of_blk HF.out.box 0
  have s1 := cell_of_blk HF.out.box 1
  have HC := Lib.hid (show Calls Tryz.prog 38 #[.agg #[.slice A 1 c, .int .i64 1], .string ⟨#[99]⟩, .bool true] V3 (WalkedTo [spT] (.ok [bb] [textN seen.xb]) V3) from sp_walk goes_c (by decide) m A c _ L V3 (below_cell HM.out HB9.out) HF.out)
  go_wp2_with fail
  refine HC.out.mono ?_
  rintro e v4 hw4
  obtain ⟨⟨S, lt, it, At, nt, ct, rfl, hS⟩, hb⟩ := walked_c hw4
  obtain ⟨V5, hV5⟩ : ∃ V5, V5 = v4.alloc (.cells #[.string S, .int .i64 1, .int .i64 lt, .int .i64 it, .slice At nt ct] 53) := ⟨_, rfl⟩
  have hb3 : Below v4.heap.size v4 V5 := by rw [hV5]; exact (Below.refl _ _).alloc (Nat.le_refl _) _
  have HX5 := Lib.hid (show V5.heap[v4.heap.size]? = some (.cells #[.string S, .int .i64 1, .int .i64 lt, .int .i64 it, .slice At nt ct] 53 (0, 0)) by rw [hV5]; exact heap_alloc_new v4 _)
  have hb23 := hb.trans (hb3.mono hb.size)
  replace HF := Lib.hid (HF.out.later hb23)
  replace HB9 := Lib.hid (HB9.out.trans (hb23.mono HB9.out.size))
  have HV5 := Lib.hid hV5
  clear HC hw4 hb s0 s1 hb3 hb23 hV5
  go_upto_region 6 with fail
  rw [← HV5.out]
  clear HV5
  have s0 := cell_of_blk HF.out.box 0
  have s1 := cell_of_blk HF.out.box 1
  have HC := Lib.hid (show Calls Tryz.prog 38 #[.agg #[.slice A 1 c, .int .i64 1], .string ⟨#[98, 47, 46, 46]⟩, .bool true] V5 (WalkedTo [spT] (.err 3) V5) from sp_walk goes_u (by decide) m A c _ L V5 (below_cell HM.out HB9.out) HF.out)
  go_wp2_with fail
  refine HC.out.mono ?_
  rintro e v6 hw6
  obtain ⟨rfl, hb⟩ := walked_err hw6
  obtain ⟨V7, hV7⟩ : ∃ V7, V7 = v6.alloc (.cells #[.string ⟨#[]⟩, .int .i64 0, .int .i64 0, .int .i64 0, .slice none 0 0] 53) := ⟨_, rfl⟩
  have hb3 : Below v6.heap.size v6 V7 := by rw [hV7]; exact (Below.refl _ _).alloc (Nat.le_refl _) _
  have hb23 := hb.trans (hb3.mono hb.size)
  have hx7 := (hb23.block _ (lt_of_some HX5.out)).trans HX5.out
  have t0 : V7.cell? ⟨v4.heap.size, 0, none⟩ = some (.string S) := cell_of_blk hx7 0
  have t1 : V7.cell? ⟨v4.heap.size, 1, none⟩ = some (.int .i64 1) := cell_of_blk hx7 1
  have HE := Lib.hid (HB9.out.trans (hb23.mono HB9.out.size))
  have HV7 := Lib.hid hV7
  clear HC hw6 hb s0 s1 hb3 hb23 hV7 hx7 HF HB9 HX5
  go_upto_region 7 with fail
  rw [← HV7.out]
  clear HV7
  go_wp2_with fail
  go_ret
  exact ⟨rfl, HE.out⟩
end Go.Proofs.YtkdldnjnadadgaaGreatDoor.wlk
