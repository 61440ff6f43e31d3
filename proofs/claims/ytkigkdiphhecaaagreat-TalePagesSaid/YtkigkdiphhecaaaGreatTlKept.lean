/- Wrong of two records that have no names; Kept of any row of records. Conditions: the records lie in memory. -/
import Derived.Test.YtkigkdiphhecaaaGreatTlWrong
import Derived.CellFam
namespace Go.Proofs.YtkigkdiphhecaaaGreat.tal
set_option maxRecDepth 100000
open Go.RowKit Go.Proofs.YtkigkdiphhecaaaGreat.words

theorem spt_of {B s t m : Nat} {w : World} (h : Sp B s t m none 0 [] 0 0 1 0 [] w) : SpT s t m w := ⟨Nat.zero_le _, h.blk, tb_base h.tb (Nat.zero_le _)⟩
set_option maxHeartbeats 6400000 in
theorem wrong_two (b : Bool) (x y : Rc) (g0 o0 c0 : Nat) (ex ey : Int) (w : World) (h1 : w.rangeAt g0 o0 x.cs) (h2 : w.rangeAt g0 (o0 + 19) y.cs) (hfx : Fine 0 x) (hfy : Fine x.ma y) (hbx : Bare x) (hby : Bare y)
    (hdx : ∀ s t m, DoT s t m (.agg #[.int .i64 x.k, .string x.p, .int .i64 x.o, .int .i64 x.n, .int .i64 x.i, .string x.g]) (.agg #[.int .i64 ex, .int .i64 0, .int .i64 0, .int .i64 0, .int .i64 0, .string ⟨#[]⟩, .slice none 0 0, .bool false])) (hsx : smB x (ans ex) = true)
    (hdy : ∀ s t m, DoT s t m (.agg #[.int .i64 y.k, .string y.p, .int .i64 y.o, .int .i64 y.n, .int .i64 y.i, .string y.g]) (.agg #[.int .i64 ey, .int .i64 0, .int .i64 0, .int .i64 0, .int .i64 0, .string ⟨#[]⟩, .slice none 0 0, .bool false])) (hsy : smB y (ans ey) = b) :
    Calls Tryz.prog 14 #[.agg #[.slice none 0 0, .int .i64 0], .int .i64 1, .slice (some ⟨g0, o0, none⟩) 2 c0] w fun e w' => e = .returned (.int .i64 (if b then -1 else 1)) ∧ Below w.heap.size w w' := by
  obtain ⟨W1, hW1⟩ : ∃ W1, W1 = w.alloc (.cells #[.slice none 0 0, .int .i64 0] 42) := ⟨_, rfl⟩
  have hb1 : Below w.heap.size w W1 := by rw [hW1]; exact (Below.refl _ _).alloc (Nat.le_refl _) _
  have hx1 : W1.heap[w.heap.size]? = some (.cells #[.slice none 0 0, .int .i64 0] 42 (0, 0)) := by rw [hW1]; exact heap_alloc_new w _
  have s0 := cell_of_blk hx1 0
  have s1 := cell_of_blk hx1 1
  have HN := Lib.hid (snew_any none 0 [] 0 1 1 W1 (by decide))
  have hlt : g0 < w.heap.size := World.block_lt_of_cell? w _ (h1 0 _ rfl)
  have HR : Hid (∀ w', Below w.heap.size w w' → w'.rangeAt g0 o0 x.cs ∧ w'.rangeAt g0 (o0 + 19) y.cs) := Lib.hid fun w' hb => ⟨fun j v hv => (hb.cell (p := ⟨g0, o0 + j, none⟩) hlt).trans (h1 j v hv), fun j v hv => (hb.cell (p := ⟨g0, o0 + 19 + j, none⟩) hlt).trans (h2 j v hv)⟩
  have hsrt : srt x y = (x, y) := by unfold srt; rw [if_neg (by have := hfy.m0; omega)]
  have HO : Hid (∀ w', Below w.heap.size w w' → Calls Tryz.prog 13 #[.slice (some ⟨g0, o0, none⟩) 2 c0] w' fun e w'' => (∃ g c, e = .returned (.slice (some ⟨g, 0, none⟩) 2 c) ∧ w'.heap.size ≤ g ∧ Two w'' g x y) ∧ Below w'.heap.size w' w'') := Lib.hid fun w' hb => by
    have := order_two g0 o0 c0 x y w' hbx hby (HR.out w' hb).1 (HR.out w' hb).2
    unfold OrdOut at this
    rw [hsrt] at this
    exact this
  have HF : Hid (∀ (s t m g c : Nat) (w' : World), Two w' g x y → SpT s t m w' → ¬ Bs s t m g → Calls Tryz.prog 22 #[.iface 52 (.pointer (some ⟨s, 0, none⟩)), .slice (some ⟨g, 0, none⟩) 2 c] w' fun e w'' => e = .returned (.int .i64 (if b then -1 else 1)) ∧ lru.Tn (Bs s t m) w' w'') := Lib.hid fun s t m g c w' k1 k2 k3 => first_two b s t m g c x y ex ey w' k1 k2 (Lib.hid k3) hfx hfy hbx hby (hdx s t m) hsx (hdy s t m) hsy
  obtain ⟨qq, hqq⟩ : ∃ qq : Int, qq = (if b then -1 else 1) := ⟨_, rfl⟩
  rw [← hqq] at HF ⊢
  clear hqq
  have HB1 := Lib.hid hb1
  have HW1 := Lib.hid hW1
  clear hb1 hx1 hW1 h1 h2 hlt hsrt hfx hfy hbx hby hdx hsx hdy hsy
  go_enter Tryz.func14, Tryz.ntmps14
  go_upto_region 1 with fail
  rw [← HW1.out]
  clear HW1
  go_wp2_with fail
  refine HN.out.mono ?_
  rintro e w2 ⟨s, t, m, rfl, hsp, hb2⟩
  have HB2 := Lib.hid (HB1.out.trans (hb2.mono HB1.out.size))
  have HSp := Lib.hid hsp
  have HO2 := Lib.hid (HO.out w2 HB2.out)
  clear hsp hb2 HN HO
  go_wp2_with fail
  refine HO2.out.mono ?_
  rintro e w3 ⟨⟨g, c, rfl, hg, htw⟩, hb3⟩
  have hne : ¬ Bs s t m g := fun hj => by
    have hl := HSp.out.lt
    rcases hj with hj | hj | hj
    · have := hl.1; omega
    · have := hl.2.1; omega
    · have := hl.2.2; omega
  have HF3 := Lib.hid (HF.out s t m g c w3 htw (spt_of (HSp.out.later hb3)) hne)
  have HB3 := Lib.hid (HB2.out.trans (hb3.mono HB2.out.size))
  have HS3 := Lib.hid (HSp.out.later hb3)
  clear hg htw hb3 hne HO2 HF HSp
  go_wp2_with fail
  refine HF3.out.mono ?_
  rintro e w4 ⟨rfl, htn⟩
  have HB4 : Hid (Below w.heap.size w w4) := Lib.hid (((lru.Tn.of_below HB3.out (Bs s t m)).then htn (fun _ _ h => h)).below (fun k hk => Nat.le_trans HB1.out.size (HS3.out.bs hk)) (Nat.le_refl _))
  clear htn HF3 HS3
  go_wp2_with fail
  go_ret
  exact ⟨rfl, HB4.out⟩
/-! Kept -/
/-- A row of records. -/
def Recs (w : World) (A : Option Addr) (L : List Rc) : Prop := ∀ i r, L[i]? = some r → ∃ b off, A = some ⟨b, off, none⟩ ∧ b < w.heap.size ∧ w.rangeAt b (off + i * 19) r.cs
theorem Recs.later {w w' : World} {A : Option Addr} {L : List Rc} (h : Recs w A L) (hb : Below w.heap.size w w') : Recs w' A L := fun i r hr => by
  obtain ⟨b, off, h1, h2, h3⟩ := h i r hr
  exact ⟨b, off, h1, Nat.lt_of_lt_of_le h2 hb.size, fun j v hv => (hb.cell (p := ⟨b, off + i * 19 + j, none⟩) h2).trans (h3 j v hv)⟩
/-- Does a row keep who had ended ahead of whose beginning? -/
def KptP (L : List Rc) : Prop := ∀ (i j : Nat) (x y : Rc), j < i → L[i]? = some x → L[j]? = some y → ¬ x.re < y.ca
theorem wl_any {ops : Array Oper} {rest : List Oper} {op : Oper} {a : Act} {w : World} {Q : Exit → Act → World → Prop} {x : Operand} {r : Rc} {b o : Nat} (ho : op.op = .load 32 x) (hw : Region.wanted op (yielded ops a.tmps) = true) (hx : a.eval x = .pointer (some ⟨b, o, none⟩)) (hc : w.rangeAt b o r.cs)
    (h : wpList Tryz.prog ops Q rest (a.put op.dst (.agg #[.int .i64 r.cl, .int .i64 r.ix, .int .i64 r.k, .string r.p, .int .i64 r.o, .int .i64 r.n, .int .i64 r.i, .string r.g, .int .i64 r.e, .int .i64 r.rk, .int .i64 r.z, .int .i64 r.wh, .int .i64 r.id, .string r.x, .slice r.A r.N.length r.c, .bool r.fin, .int .i64 r.ca, .int .i64 r.ma, .int .i64 r.re])) w) : wpList Tryz.prog ops Q (op :: rest) a w := by
  rw [wpList, if_pos hw]
  exact .inl (wp_load_mid 32 x ho b o hx r.cs _ hc Tryz.underlying32 rfl (by kernel_rfl) h)
theorem wl_over {ops : Array Oper} {rest : List Oper} {op : Oper} {a : Act} {w : World} {Q : Exit → Act → World → Prop} {x y : Operand} {r q : Rc} {g : Nat} (ho : op.op = .store 32 x y) (hgd : op.guard = none) (hb : w.heap[g]? = some (.cells #[.int .i64 q.cl, .int .i64 q.ix, .int .i64 q.k, .string q.p, .int .i64 q.o, .int .i64 q.n, .int .i64 q.i, .string q.g, .int .i64 q.e, .int .i64 q.rk, .int .i64 q.z, .int .i64 q.wh, .int .i64 q.id, .string q.x, .slice q.A q.N.length q.c, .bool q.fin, .int .i64 q.ca, .int .i64 q.ma, .int .i64 q.re] 32 (0, 0))) (hx : a.eval x = .pointer (some ⟨g, 0, none⟩)) (hy : a.eval y = .agg #[.int .i64 r.cl, .int .i64 r.ix, .int .i64 r.k, .string r.p, .int .i64 r.o, .int .i64 r.n, .int .i64 r.i, .string r.g, .int .i64 r.e, .int .i64 r.rk, .int .i64 r.z, .int .i64 r.wh, .int .i64 r.id, .string r.x, .slice r.A r.N.length r.c, .bool r.fin, .int .i64 r.ca, .int .i64 r.ma, .int .i64 r.re])
    (h : wpList Tryz.prog ops Q rest (a.put op.dst undef) (w.setCells g 0 r.cs)) : wpList Tryz.prog ops Q (op :: rest) a w := by
  refine wpList_store_mid hgd 32 x y ho g 0 r.cs.toArray hx hy (fun j hj => ?_) (by kernel_rfl) (all_oneCell_toArray r.one) h
  have hj : j < 19 := hj
  refine ⟨?_, free_of_blk hb _⟩
  rw [cell_of_blk hb, Array.getElem?_eq_getElem (by show 0 + j < 19; omega)]
  rfl
theorem over_rec {w : World} {g : Nat} {q r : Rc} (hb : w.heap[g]? = some (.cells #[.int .i64 q.cl, .int .i64 q.ix, .int .i64 q.k, .string q.p, .int .i64 q.o, .int .i64 q.n, .int .i64 q.i, .string q.g, .int .i64 q.e, .int .i64 q.rk, .int .i64 q.z, .int .i64 q.wh, .int .i64 q.id, .string q.x, .slice q.A q.N.length q.c, .bool q.fin, .int .i64 q.ca, .int .i64 q.ma, .int .i64 q.re] 32 (0, 0))) : (w.setCells g 0 r.cs).heap[g]? = some (.cells #[.int .i64 r.cl, .int .i64 r.ix, .int .i64 r.k, .string r.p, .int .i64 r.o, .int .i64 r.n, .int .i64 r.i, .string r.g, .int .i64 r.e, .int .i64 r.rk, .int .i64 r.z, .int .i64 r.wh, .int .i64 r.id, .string r.x, .slice r.A r.N.length r.c, .bool r.fin, .int .i64 r.ca, .int .i64 r.ma, .int .i64 r.re] 32 (0, 0)) := by
  obtain ⟨cur', h1, h2⟩ := heap_setCells r.cs 0 w g _ hb (by rw [r.len]; show 0 + 19 ≤ 19; omega)
  rw [h1]
  have e : cur' = r.cs.toArray := by
    apply Array.toList_inj.1
    rw [h2, List.take_zero, List.nil_append, r.len, Nat.zero_add]
    rfl
  rw [e]
  rfl
theorem range_box {w : World} {g : Nat} {r : Rc} (hb : w.heap[g]? = some (.cells #[.int .i64 r.cl, .int .i64 r.ix, .int .i64 r.k, .string r.p, .int .i64 r.o, .int .i64 r.n, .int .i64 r.i, .string r.g, .int .i64 r.e, .int .i64 r.rk, .int .i64 r.z, .int .i64 r.wh, .int .i64 r.id, .string r.x, .slice r.A r.N.length r.c, .bool r.fin, .int .i64 r.ca, .int .i64 r.ma, .int .i64 r.re] 32 (0, 0))) : w.rangeAt g 0 r.cs := fun j v hv => by
  rw [cell_of_blk hb, Nat.zero_add]
  show r.cs.toArray[j]? = some v
  rw [List.getElem?_toArray]
  exact hv
def rec0 : Rc := ⟨0, 0, 0, ⟨#[]⟩, 0, 0, 0, ⟨#[]⟩, 0, 0, 0, 0, 0, ⟨#[]⟩, [], false, 0, 0, 0, none, 0⟩
/-- What Kept knows behind k records: one that was begun last. -/
structure InK (L : List Rc) (w : World) (k : Nat) (wr : World) : Prop where
  box : ∃ q : Rc, wr.heap[w.heap.size]? = some (.cells #[.int .i64 q.cl, .int .i64 q.ix, .int .i64 q.k, .string q.p, .int .i64 q.o, .int .i64 q.n, .int .i64 q.i, .string q.g, .int .i64 q.e, .int .i64 q.rk, .int .i64 q.z, .int .i64 q.wh, .int .i64 q.id, .string q.x, .slice q.A q.N.length q.c, .bool q.fin, .int .i64 q.ca, .int .i64 q.ma, .int .i64 q.re] 32 (0, 0)) ∧ (∀ j y, j < k → L[j]? = some y → y.ca ≤ q.ca) ∧ (0 < k → ∃ j, j < k ∧ L[j]? = some q)
  kept : ∀ (i j : Nat) (x y : Rc), j < i → i < k → L[i]? = some x → L[j]? = some y → ¬ x.re < y.ca
  below : Below w.heap.size w wr
theorem below_cells {B g : Nat} {a : World} (hg : B ≤ g) : ∀ (vs : List Value) (o : Nat) (w : World), Below B a w → Below B a (w.setCells g o vs)
  | [], _, _, h => h
  | v :: r, o, w, h => by
    rw [World.setCells]
    exact below_cells hg r (o + 1) _ (h.setCell (p := ⟨g, o, none⟩) hg v)
theorem InK.next {L : List Rc} {w w2 : World} {k : Nat} {q r : Rc} (hw : w2.heap[w.heap.size]? = some (.cells #[.int .i64 q.cl, .int .i64 q.ix, .int .i64 q.k, .string q.p, .int .i64 q.o, .int .i64 q.n, .int .i64 q.i, .string q.g, .int .i64 q.e, .int .i64 q.rk, .int .i64 q.z, .int .i64 q.wh, .int .i64 q.id, .string q.x, .slice q.A q.N.length q.c, .bool q.fin, .int .i64 q.ca, .int .i64 q.ma, .int .i64 q.re] 32 (0, 0))) (hb : Below w.heap.size w w2) (hm : ∀ j y, j < k → L[j]? = some y → y.ca ≤ q.ca) (hq : 0 < k → ∃ j, j < k ∧ L[j]? = some q) (hk : ∀ (i j : Nat) (x y : Rc), j < i → i < k → L[i]? = some x → L[j]? = some y → ¬ x.re < y.ca)
    (hr : L[k]? = some r) (hre : 0 < k → ¬ r.re < q.ca) :
    (¬ (0 < k ∧ r.ca ≤ q.ca) → InK L w (k + 1) (w2.setCells w.heap.size 0 r.cs)) ∧ (0 < k → r.ca ≤ q.ca → InK L w (k + 1) w2) := by
  have hkept : ∀ (i j : Nat) (x y : Rc), j < i → i < k + 1 → L[i]? = some x → L[j]? = some y → ¬ x.re < y.ca := fun i j x y h1 h2 h3 h4 => by
    rcases Nat.lt_or_ge i k with h | h
    · exact hk i j x y h1 h h3 h4
    · obtain rfl : i = k := by omega
      rw [hr] at h3
      obtain rfl := Option.some.inj h3
      have e1 := hm j y h1 h4
      have e2 := hre (by omega)
      omega
  refine ⟨fun hn => ⟨⟨r, over_rec hw, fun j y hj hy => ?_, fun _ => ⟨k, Nat.lt_succ_self _, hr⟩⟩, hkept, ?_⟩, fun h0 hc => ⟨⟨q, hw, fun j y hj hy => ?_, fun _ => ?_⟩, hkept, hb⟩⟩
  · rcases Nat.lt_or_ge j k with h | h
    · have := hm j y h hy
      have h2 : ¬ r.ca ≤ q.ca := fun h3 => hn ⟨by omega, h3⟩
      omega
    · obtain rfl : j = k := by omega
      rw [hr] at hy
      obtain rfl := Option.some.inj hy
      exact Int.le_refl _
  · exact below_cells (Nat.le_refl _) _ _ _ hb
  · rcases Nat.lt_or_ge j k with h | h
    · exact hm j y h hy
    · obtain rfl : j = k := by omega
      rw [hr] at hy
      obtain rfl := Option.some.inj hy
      exact hc
  · obtain ⟨j, h1, h2⟩ := hq h0
    exact ⟨j, by omega, h2⟩
theorem InK.done {L : List Rc} {w wr : World} {k : Nat} (h : InK L w k wr) (hk : L.length ≤ k) : KptP L := fun i j x y h1 h2 h3 => h.kept i j x y h1 (Nat.lt_of_lt_of_le (List.getElem?_eq_some_iff.1 h2).1 hk) h2 h3
def KeptO (L : List Rc) (w : World) (e : Ending) (w' : World) : Prop := (∃ b, e = .returned (.bool b) ∧ (b = true ↔ KptP L)) ∧ Below w.heap.size w w'
set_option maxHeartbeats 12800000 in
theorem kept_any (A : Option Addr) (c : Nat) (L : List Rc) (w : World) (h : Recs w A L) (hl : L.length ≤ 60) : Calls Tryz.prog 8 #[.slice A L.length c] w (KeptO L w) := by
  obtain ⟨W1, hW1⟩ : ∃ W1, W1 = w.alloc (.cells #[.int .i64 0, .int .i64 0, .int .i64 0, .string ⟨#[]⟩, .int .i64 0, .int .i64 0, .int .i64 0, .string ⟨#[]⟩, .int .i64 0, .int .i64 0, .int .i64 0, .int .i64 0, .int .i64 0, .string ⟨#[]⟩, .slice none 0 0, .bool false, .int .i64 0, .int .i64 0, .int .i64 0] 32) := ⟨_, rfl⟩
  have HI : Hid (InK L w 0 W1) := Lib.hid ⟨⟨rec0, by rw [hW1]; exact heap_alloc_new w _, fun j y h _ => absurd h (Nat.not_lt_zero _), fun h => absurd h (Nat.lt_irrefl _)⟩, fun i j x y _ h _ _ => absurd h (Nat.not_lt_zero _), by rw [hW1]; exact (Below.refl _ _).alloc (Nat.le_refl _) _⟩
  have HW1 := Lib.hid hW1
  have HL := Lib.hid h
  clear hW1 h
  go_enter Tryz.func8, Tryz.ntmps8
  go_upto_region 2 with fail
  rw [← HW1.out]
  clear HW1
  go_wp2_with fail
  go_loopw [8] (fun v wr => ∃ k : Nat, k ≤ L.length ∧ v = .int .i64 (k : Int) ∧ Hid (InK L w k wr)) (fun v _ => L.length - (intOf v).toNat)
  case atStart => exact ⟨0, Nat.zero_le _, rfl, HI⟩
  case round =>
    obtain ⟨k, hk, rfl, HK⟩ := hrel
    by_cases hlt : k < L.length
    · obtain ⟨r, hr⟩ : ∃ r, L[k]? = some r := ⟨_, List.getElem?_eq_getElem hlt⟩
      obtain ⟨b, off, hA, hb, hrg⟩ := (HL.out.later HK.out.below) k r hr
      subst hA
      have i0 : (0 : Int) ≤ (k : Int) := by omega
      have i1 : (k : Int) < (L.length : Int) := by omega
      obtain ⟨W2, hW2⟩ : ∃ W2, W2 = wr.alloc (.cells #[.int .i64 r.cl, .int .i64 r.ix, .int .i64 r.k, .string r.p, .int .i64 r.o, .int .i64 r.n, .int .i64 r.i, .string r.g, .int .i64 r.e, .int .i64 r.rk, .int .i64 r.z, .int .i64 r.wh, .int .i64 r.id, .string r.x, .slice r.A r.N.length r.c, .bool r.fin, .int .i64 r.ca, .int .i64 r.ma, .int .i64 r.re] 32) := ⟨_, rfl⟩
      obtain ⟨g5, hg5⟩ : ∃ g5, g5 = wr.heap.size := ⟨_, rfl⟩
      have hb2 : Below wr.heap.size wr W2 := by rw [hW2]; exact (Below.refl _ _).alloc (Nat.le_refl _) _
      have HX5 : Hid (W2.heap[g5]? = some (.cells #[.int .i64 r.cl, .int .i64 r.ix, .int .i64 r.k, .string r.p, .int .i64 r.o, .int .i64 r.n, .int .i64 r.i, .string r.g, .int .i64 r.e, .int .i64 r.rk, .int .i64 r.z, .int .i64 r.wh, .int .i64 r.id, .string r.x, .slice r.A r.N.length r.c, .bool r.fin, .int .i64 r.ca, .int .i64 r.ma, .int .i64 r.re] 32 (0, 0))) := Lib.hid (by rw [hW2, hg5]; exact heap_alloc_new wr _)
      obtain ⟨q, hq, hm, hqi⟩ := HK.out.box
      have HQ : Hid (W2.heap[w.heap.size]? = some (.cells #[.int .i64 q.cl, .int .i64 q.ix, .int .i64 q.k, .string q.p, .int .i64 q.o, .int .i64 q.n, .int .i64 q.i, .string q.g, .int .i64 q.e, .int .i64 q.rk, .int .i64 q.z, .int .i64 q.wh, .int .i64 q.id, .string q.x, .slice q.A q.N.length q.c, .bool q.fin, .int .i64 q.ca, .int .i64 q.ma, .int .i64 q.re] 32 (0, 0))) := Lib.hid ((hb2.block _ (lt_of_some hq)).trans hq)
      have HBw : Hid (Below w.heap.size w W2) := Lib.hid (HK.out.below.trans (hb2.mono HK.out.below.size))
      have HNx : Hid ((0 < k → ¬ r.re < q.ca) → ∀ w3, Below W2.heap.size W2 w3 → (¬ (0 < k ∧ r.ca ≤ q.ca) → InK L w (k + 1) (w3.setCells w.heap.size 0 r.cs)) ∧ (0 < k → r.ca ≤ q.ca → InK L w (k + 1) w3)) := Lib.hid fun hre w3 hb3 => InK.next ((hb3.block _ (lt_of_some HQ.out)).trans HQ.out) (HBw.out.trans (hb3.mono HBw.out.size)) hm hqi HK.out.kept hr hre
      have HNo : Hid (0 < k → r.re < q.ca → ¬ KptP L) := Lib.hid fun h0 h1 h2 => by
        obtain ⟨j, hj, hjq⟩ := hqi h0
        exact h2 k j r q hj hr hjq h1
      have HRk : Hid (wr.rangeAt b (off + k * 19) r.cs) := Lib.hid hrg
      have HRb : Hid (∀ w3, Below W2.heap.size W2 w3 → w3.rangeAt g5 0 r.cs ∧ w3.rangeAt w.heap.size 0 q.cs) := Lib.hid fun w3 hb3 => ⟨range_box ((hb3.block _ (lt_of_some HX5.out)).trans HX5.out), range_box ((hb3.block _ (lt_of_some HQ.out)).trans HQ.out)⟩
      have HBf := Lib.hid (before_any r q W2)
      have HW2 := Lib.hid hW2
      have HG5 := Lib.hid hg5
      clear hr hrg hb hW2 hg5 hb2 hq hm hqi HK
      go_upto_region 5 with (first | (refine wl_any rfl (by kernel_rfl) rfl HRk.out ?_) | (refine wl_put (r := r) rfl rfl rfl rfl rfl ?_))
      rw [← HW2.out]
      simp only [← HG5.out]
      clear HW2 HG5 HRk
      by_cases hk0 : k = 0
      · subst hk0
        have HS0 := Lib.hid (HNx.out (fun h => absurd h (Nat.lt_irrefl _)) W2 (Below.refl _ _))
        obtain ⟨V, hV⟩ : ∃ V, V = W2.setCells w.heap.size 0 r.cs := ⟨_, rfl⟩
        have HV := Lib.hid hV
        have HE : Hid (InK L w (0 + 1) V) := Lib.hid (by rw [hV]; exact HS0.out.1 (fun h => absurd h.1 (Nat.lt_irrefl _)))
        clear hV
        go_wp2_with (first | (refine wl_load rfl rfl rfl (HRb.out W2 (Below.refl _ _)).1 ?_) | (refine wl_over (r := r) (q := q) rfl rfl HQ.out rfl rfl ?_; rw [← HV.out]))
        go_roundw
        case rel => exact ⟨0 + 1, by omega, by go_num, HE⟩
        case measure => simp [intOf]; omega
      · have k0 : (0 : Int) < (k : Int) := by omega
        have k1 : 0 < k := by omega
        have k2 : ((k : Int) == 0) = false := by rw [beq_eq_false_iff_ne]; omega
        by_cases hre : r.re < q.ca
        · have HNk := Lib.hid (HNo.out k1 hre)
          have hd : decide (r.re < q.ca) = true := by simp [hre]
          rw [hd] at HBf
          clear hre hd HNx HNo
          go_wp2_with (first | (refine wl_any rfl (by kernel_rfl) rfl (HRb.out W2 (Below.refl _ _)).1 ?_) | (refine wl_any rfl (by kernel_rfl) rfl (HRb.out W2 (Below.refl _ _)).2 ?_))
          refine HBf.out.mono ?_
          rintro e w3 ⟨rfl, hb3⟩
          have HB3 := Lib.hid (HBw.out.trans (hb3.mono HBw.out.size))
          clear hb3 HBf
          go_wp2_with fail
          go_ret
          exact ⟨⟨false, rfl, by simp [HNk.out]⟩, HB3.out⟩
        · have HNx2 := Lib.hid (HNx.out fun _ => hre)
          have hd : decide (r.re < q.ca) = false := by simp [hre]
          rw [hd] at HBf
          clear hre hd HNx HNo
          go_wp2_with (first | (refine wl_any rfl (by kernel_rfl) rfl (HRb.out W2 (Below.refl _ _)).1 ?_) | (refine wl_any rfl (by kernel_rfl) rfl (HRb.out W2 (Below.refl _ _)).2 ?_))
          refine HBf.out.mono ?_
          rintro e w3 ⟨rfl, hb3⟩
          have HB3 := Lib.hid hb3
          have d4 := cell_of_blk ((hb3.block _ (lt_of_some HX5.out)).trans HX5.out) 16
          have e4 := cell_of_blk ((hb3.block _ (lt_of_some HQ.out)).trans HQ.out) 16
          clear hb3 HBf
          by_cases hc : r.ca ≤ q.ca
          · have HE := Lib.hid ((HNx2.out w3 HB3.out).2 k1 hc)
            have hc2 : ¬ q.ca < r.ca := by omega
            have hc3 : decide (q.ca < r.ca) = false := by simp [hc2]
            clear hc
            go_wp2_with fail
            go_roundw
            case rel => exact ⟨k + 1, by omega, by go_num, HE⟩
            case measure => simp [intOf]; omega
          · have HE0 := Lib.hid ((HNx2.out w3 HB3.out).1 fun h => hc h.2)
            obtain ⟨V, hV⟩ : ∃ V, V = w3.setCells w.heap.size 0 r.cs := ⟨_, rfl⟩
            have HV := Lib.hid hV
            have HE : Hid (InK L w (k + 1) V) := Lib.hid (by rw [hV]; exact HE0.out)
            have hc2 : q.ca < r.ca := by omega
            clear hV hc HE0
            go_wp2_with (first | (refine wl_any rfl (by kernel_rfl) rfl (HRb.out w3 HB3.out).1 ?_) | (refine wl_over (r := r) (q := q) rfl rfl ((HB3.out.block _ (lt_of_some HQ.out)).trans HQ.out) rfl rfl ?_; rw [← HV.out]))
            go_roundw
            case rel => exact ⟨k + 1, by omega, by go_num, HE⟩
            case measure => simp [intOf]; omega
    · have HD := Lib.hid (HK.out.done (by omega))
      have HB := Lib.hid HK.out.below
      go_wp2_with fail
      go_ret
      exact ⟨⟨true, rfl, by simp [HD.out]⟩, HB.out⟩
end Go.Proofs.YtkigkdiphhecaaaGreat.tal
