/- Pages of any row of records, and the law of them. Conditions: the records lie in memory, and their names. -/
import Derived.Test.YtkigkdiphhecaaaGreatTlMay
import Derived.Test.YtkigkdiphhecaaaGreatTlSpeak
import Derived.Laws.AppendOwnNone
namespace Go.Proofs.YtkigkdiphhecaaaGreat.tal
set_option maxRecDepth 100000
open Go.RowKit Go.Proofs.YtkigkdiphhecaaaGreat.words

theorem wpList_append_opt {P : Program} {w : World} {ops : Array Oper} {rest : List Oper} {o : Oper} {a : Act} {Q : Exit → Act → World → Prop} (hgd : o.guard = none) (s x : Operand) (t : TypeId)
    (ho : o.op = .call { callee := .builtin .append, args := #[s, x], argTypes := #[t, t] })
    (base : Nat) (e : TypeId) (i : TypeInfo) (z : Value) (size bytes : Nat) (ht : P.underlying t = some (.slice e)) (hi : P.info? e = some i) (hz : i.zero = some z)
    (hsize : i.size = size) (hby : i.bytes = bytes) (hzs : z.cells.size = size) (hsz : 0 < size)
    (v : Value) (n : Nat) (xs : List Value) (hs : a.eval s = v) (hown : w.ownsRow base e size v n xs)
    (A : Option Addr) (m c : Nat) (news : List Value) (hA : A = none → m = 0 ∧ c = 0) (hx : a.eval x = .slice A m c) (hl : news.length = m * size) (hnews : Lies w A news) (h1 : ∀ u ∈ news, u.oneCell' = true)
    (h63 : n + m ≤ maxLen) (hbytes : (n + m) * bytes ≤ 140737488355328) (hbase : base ≤ w.heap.size)
    (h : ∀ v' w', w'.ownsRow base e size v' (n + m) (xs ++ news) → w.grownBy w' v.ownBlock → wpList P ops Q rest (a.put o.dst v') w') : wpList P ops Q (o :: rest) a w := by
  rcases A with _ | ad
  · obtain ⟨rfl, rfl⟩ := hA rfl
    have hn : news = [] := List.eq_nil_of_length_eq_zero (by rw [hl, Nat.zero_mul])
    refine wpList_append_own_none hgd s x t ho base e i size ht hi v n xs hs hown hx (h v w ?_ ⟨rfl, rfl, rfl, Nat.le_refl _, fun _ _ _ => rfl⟩)
    rw [hn, List.append_nil, Nat.add_zero]
    exact hown
  · refine wpList_append_own w hgd s x t ho base e i z size bytes ht hi hz hsize hby hzs hsz v n xs hs hown ad m c news hx hl (fun j u hj => ?_) h1 h63 hbytes hbase fun v' w' k1 k2 _ => h v' w' k1 k2
    obtain ⟨b, off, e1, _, e3⟩ := hnews j u hj
    injection e1 with e1
    subst e1
    rw [add_place]
    exact e3
/-- An append, wherever the row that comes behind lies. -/
theorem step_append_opt {P : Program} {ops : Array Oper} {o : Oper} {a : Act} {K : Act → World → Prop} {Q : Exit → Act → World → Prop} {E : Prop} (w : World) (hgd : o.guard = none) (s x : Operand) (t : TypeId)
    (ho : o.op = .call { callee := .builtin .append, args := #[s, x], argTypes := #[t, t] })
    (base : Nat) (e : TypeId) (i : TypeInfo) (z : Value) (size bytes : Nat) (ht : P.underlying t = some (.slice e)) (hi : P.info? e = some i) (hz : i.zero = some z)
    (hsize : i.size = size) (hby : i.bytes = bytes) (hzs : z.cells.size = size) (hsz : 0 < size)
    (v : Value) (n : Nat) (xs : List Value) (hs : a.eval s = v) (hown : w.ownsRow base e size v n xs)
    (A : Option Addr) (m c : Nat) (news : List Value) (hA : A = none → m = 0 ∧ c = 0) (hx : a.eval x = .slice A m c) (hl : news.length = m * size) (hnews : Lies w A news) (h1 : ∀ u ∈ news, u.oneCell' = true)
    (h63 : n + m ≤ maxLen) (hbytes : (n + m) * bytes ≤ 140737488355328) (hbase : base ≤ w.heap.size)
    (h : ∀ v' w', w'.ownsRow base e size v' (n + m) (xs ++ news) → w.grownBy w' v.ownBlock → K (a.put o.dst v') w') : if Region.wanted o (yielded ops a.tmps) = true then Oper.wp P o a w K Q else E := by
  have hw : Region.wanted o (yielded ops a.tmps) = true := by simp [Region.wanted, hgd]
  rw [if_pos hw]
  rcases A with _ | ad
  · obtain ⟨rfl, rfl⟩ := hA rfl
    have hn : news = [] := List.eq_nil_of_length_eq_zero (by rw [hl, Nat.zero_mul])
    have hrun := run_append_owned_none (P := P) (w := w) base t o.type e i size ht hi v n xs hown
    have hh := h v w (by rw [hn, List.append_nil, Nat.add_zero]; exact hown) ⟨rfl, rfl, rfl, Nat.le_refl _, fun _ _ _ => rfl⟩
    unfold Oper.wp
    simp [execOp, ho, resolve, invoke, builtin, hs, hx, hrun, Result.andThen]
    exact hh
  · refine wp_append_own w s x t ho base e i z size bytes ht hi hz hsize hby hzs hsz v n xs hs hown ad m c news hx hl (fun j u hj => ?_) h1 h63 hbytes hbase fun v' w' k1 k2 _ => h v' w' k1 k2
    obtain ⟨b, off, e1, _, e3⟩ := hnews j u hj
    injection e1 with e1
    subst e1
    rw [add_place]
    exact e3
/-- A row of records, with their names. -/
def RecsN (w : World) (L : List Rc) : Prop := ∀ r ∈ L, Txs w r.A r.N ∧ (r.A = none → r.N.length = 0 ∧ r.c = 0)
theorem RecsN.later {w w' : World} {L : List Rc} (h : RecsN w L) (hb : Below w.heap.size w w') : RecsN w' L := fun r hr => ⟨(h r hr).1.later hb, (h r hr).2⟩
theorem Txs.lies {w : World} {A : Option Addr} {Q : List ByteArray} (h : Txs w A Q) : Lies w A (Q.map Value.string) := fun j u hj => by
  rw [List.getElem?_map] at hj
  obtain ⟨x, hx, rfl⟩ := Option.map_eq_some_iff.1 hj
  exact h j x hx
theorem txt_one (Q : List ByteArray) : ∀ u ∈ Q.map Value.string, u.oneCell' = true := fun u hu => by
  obtain ⟨x, _, rfl⟩ := List.mem_map.1 hu
  rfl
theorem Txs.of_own {w : World} {B : Nat} {A : Option Addr} {n c : Nat} {Q : List ByteArray} (h : w.ownsRow B 9 1 (.slice A n c) Q.length (Q.map Value.string)) : n = Q.length ∧ Txs w A Q := by
  rcases h.2 with ⟨hv, hn⟩ | ⟨g, cap, cur, hv, _, hh, _, _, _, ht⟩
  · injection hv with h1 h2
    obtain rfl := List.eq_nil_of_length_eq_zero hn
    exact ⟨h2.trans hn.symm ▸ rfl, fun i x hx => by simp at hx⟩
  · injection hv with h1 h2
    subst h1 h2
    refine ⟨rfl, fun i x hx => ⟨g, 0, rfl, lt_of_some hh, ?_⟩⟩
    rw [cell_of_blk hh, Nat.zero_add]
    have hm : (Q.map Value.string)[i]? = some (.string x) := by rw [List.getElem?_map, hx]; rfl
    rw [← ht, List.getElem?_take] at hm
    split at hm
    · rw [← Array.getElem?_toList]; exact hm
    · cases hm
/-- Is it a page of that cursor? -/
def matB (id : Int) (r : Rc) : Bool := decide (r.k = 6) && decide (r.i = id) && decide (r.e = 0)
def nmsP (id : Int) : List Rc → List ByteArray
  | [] => []
  | r :: l => (if matB id r then r.N else []) ++ nmsP id l
def endP (id : Int) (d : Bool) : List Rc → Bool
  | [] => d
  | r :: l => endP id (if matB id r then r.fin else d) l
theorem nmsP_snoc (id : Int) (r : Rc) : ∀ l, nmsP id (l ++ [r]) = nmsP id l ++ (if matB id r then r.N else [])
  | [] => by simp [nmsP]
  | x :: l => by rw [List.cons_append, nmsP, nmsP, nmsP_snoc id r l, List.append_assoc]
theorem endP_snoc (id : Int) (r : Rc) : ∀ l d, endP id d (l ++ [r]) = if matB id r then r.fin else endP id d l
  | [], d => by simp [endP]
  | x :: l, d => by rw [List.cons_append, endP, endP, endP_snoc id r l]
theorem nmsP_few (id : Int) : ∀ l : List Rc, (∀ r ∈ l, r.N.length ≤ 100) → (nmsP id l).length ≤ l.length * 100
  | [], _ => Nat.le_refl _
  | r :: l, h => by
    rw [nmsP, List.length_append, List.length_cons]
    have h1 := nmsP_few id l fun x hx => h x (List.mem_cons_of_mem _ hx)
    have h2 : (if matB id r then r.N else []).length ≤ 100 := by
      split
      · exact h r List.mem_cons_self
      · exact Nat.zero_le _
    omega
/-- What is known behind k records. -/
structure InPg (L : List Rc) (id : Int) (w : World) (k : Nat) (v : Value) (fin : Bool) (wr : World) : Prop where
  own : wr.ownsRow w.heap.size 9 1 v (nmsP id (L.take k)).length ((nmsP id (L.take k)).map Value.string)
  fin : fin = endP id false (L.take k)
  below : Below w.heap.size w wr
theorem InPg.zero (L : List Rc) (id : Int) (w wr : World) (hb : Below w.heap.size w wr) : InPg L id w 0 (.slice none 0 0) false wr := ⟨World.ownsRow_nil _ _ _ _, rfl, hb⟩
theorem take_one {L : List Rc} {k : Nat} {r : Rc} (hr : L[k]? = some r) : L.take (k + 1) = L.take k ++ [r] := by
  rw [List.take_add_one, hr]; rfl
theorem own_later {w w' : World} {B n : Nat} {v : Value} {xs : List Value} (h : w.ownsRow B 9 1 v n xs) (hb : Below w.heap.size w w') : w'.ownsRow B 9 1 v n xs := by
  refine ⟨h.1, ?_⟩
  rcases h.2 with h2 | ⟨g, cap, cur, h1, h2, h3, h4⟩
  · exact .inl h2
  · exact .inr ⟨g, cap, cur, h1, h2, (hb.block _ (lt_of_some h3)).trans h3, h4⟩
theorem InPg.skip {L : List Rc} {id : Int} {w : World} {k : Nat} {v : Value} {fin : Bool} {wr w2 : World} {r : Rc} (h : InPg L id w k v fin wr) (hr : L[k]? = some r) (hm : matB id r = false) (hb : Below wr.heap.size wr w2) : InPg L id w (k + 1) v fin w2 := by
  refine ⟨?_, ?_, h.below.trans (hb.mono h.below.size)⟩
  · rw [take_one hr, nmsP_snoc, hm, if_neg (by simp), List.append_nil]
    exact own_later h.own hb
  · rw [take_one hr, endP_snoc, hm, if_neg (by simp)]
    exact h.fin
theorem InPg.more {L : List Rc} {id : Int} {w : World} {k : Nat} {v v' : Value} {fin : Bool} {wr w2 w3 : World} {r : Rc} (h : InPg L id w k v fin wr) (hr : L[k]? = some r) (hm : matB id r = true) (hb : Below wr.heap.size wr w2)
    (hown : w3.ownsRow w.heap.size 9 1 v' ((nmsP id (L.take k)).length + r.N.length) ((nmsP id (L.take k)).map Value.string ++ r.N.map Value.string)) (hg : w2.grownBy w3 v.ownBlock) : InPg L id w (k + 1) v' r.fin w3 := by
  refine ⟨?_, ?_, lru.keep_grown (h.below.trans (hb.mono h.below.size)) (own_later h.own hb) hg (Nat.le_refl _) (Nat.le_refl _)⟩
  · rw [take_one hr, nmsP_snoc, hm, if_pos rfl, List.length_append, List.map_append]
    exact hown
  · rw [take_one hr, endP_snoc, hm, if_pos rfl]
def PagesO (L : List Rc) (id : Int) (w : World) (e : Ending) (w' : World) : Prop := ∃ A c, e = .returned (.tuple #[.slice A (nmsP id L).length c, .bool (endP id false L)]) ∧ Txs w' A (nmsP id L) ∧ Below w.heap.size w w'
theorem InPg.done {L : List Rc} {id : Int} {w : World} {k : Nat} {v : Value} {fin : Bool} {wr : World} (h : InPg L id w k v fin wr) (hk : L.length ≤ k) : ∃ A c, v = .slice A (nmsP id L).length c ∧ fin = endP id false L ∧ Txs wr A (nmsP id L) ∧ Below w.heap.size w wr := by
  have ht : L.take k = L := List.take_of_length_le hk
  obtain ⟨h1, h2, h3⟩ := h
  rw [ht] at h1 h2
  obtain ⟨A, n, c, rfl⟩ := own_slice h1
  obtain ⟨rfl, h4⟩ := Txs.of_own h1
  exact ⟨A, c, rfl, h2, h4, h3⟩
set_option maxHeartbeats 12800000 in
theorem pages_any (A : Option Addr) (c : Nat) (L : List Rc) (id : Int) (w : World) (hL : Recs w A L) (hN : RecsN w L) (hM : L.length ≤ 60 ∧ ∀ r ∈ L, r.N.length ≤ 100) : Calls Tryz.prog 11 #[.slice A L.length c, .int .i64 id] w (PagesO L id w) := by
  obtain ⟨i0', hi, hz0, hz1, hz2⟩ := lru.info_three infoTxt
  have HL : Hid (∀ w', Below w.heap.size w w' → Recs w' A L) := Lib.hid fun w' hb => hL.later hb
  have HN : Hid (∀ w', Below w.heap.size w w' → RecsN w' L) := Lib.hid fun w' hb => hN.later hb
  have HM := Lib.hid hM
  clear hL hN hM
  go_enter Tryz.func11, Tryz.ntmps11
  go_wp2_with fail
  go_loopw [10, 5, 4] (fun v vf va wr => ∃ (k : Nat) (fin : Bool), k ≤ L.length ∧ v = .int .i64 (k : Int) ∧ vf = .bool fin ∧ Hid (InPg L id w k va fin wr)) (fun v _ _ _ => L.length - (intOf v).toNat)
  case atStart => exact ⟨0, false, Nat.zero_le _, rfl, rfl, Lib.hid (InPg.zero L id w _ (Below.refl _ _))⟩
  case round =>
    obtain ⟨va, hva⟩ : ∃ va, va = u4 := ⟨_, rfl⟩
    subst hva
    obtain ⟨k, fin, hk, rfl, rfl, HP⟩ := hrel
    by_cases hlt : k < L.length
    · obtain ⟨r, hr⟩ : ∃ r, L[k]? = some r := ⟨_, List.getElem?_eq_getElem hlt⟩
      obtain ⟨b, off, hA, hb, hrg⟩ := (HL.out wr HP.out.below) k r hr
      subst hA
      have hmem : r ∈ L := List.mem_of_getElem? hr
      have l60 : L.length ≤ 60 := HM.out.1
      have i0 : (0 : Int) ≤ (k : Int) := by omega
      have i1 : (k : Int) < (L.length : Int) := by omega
      obtain ⟨W2, hW2⟩ : ∃ W2, W2 = wr.alloc (.cells #[.int .i64 r.cl, .int .i64 r.ix, .int .i64 r.k, .string r.p, .int .i64 r.o, .int .i64 r.n, .int .i64 r.i, .string r.g, .int .i64 r.e, .int .i64 r.rk, .int .i64 r.z, .int .i64 r.wh, .int .i64 r.id, .string r.x, .slice r.A r.N.length r.c, .bool r.fin, .int .i64 r.ca, .int .i64 r.ma, .int .i64 r.re] 32) := ⟨_, rfl⟩
      obtain ⟨g5, hg5⟩ : ∃ g5, g5 = wr.heap.size := ⟨_, rfl⟩
      have hb2 : Below wr.heap.size wr W2 := by rw [hW2]; exact (Below.refl _ _).alloc (Nat.le_refl _) _
      have hx5 : W2.heap[g5]? = some (.cells #[.int .i64 r.cl, .int .i64 r.ix, .int .i64 r.k, .string r.p, .int .i64 r.o, .int .i64 r.n, .int .i64 r.i, .string r.g, .int .i64 r.e, .int .i64 r.rk, .int .i64 r.z, .int .i64 r.wh, .int .i64 r.id, .string r.x, .slice r.A r.N.length r.c, .bool r.fin, .int .i64 r.ca, .int .i64 r.ma, .int .i64 r.re] 32 (0, 0)) := by rw [hW2, hg5]; exact heap_alloc_new wr _
      have HX5 := Lib.hid hx5
      have c2 := cell_of_blk hx5 2
      have c6 := cell_of_blk hx5 6
      have c8 := cell_of_blk hx5 8
      have c14 := cell_of_blk hx5 14
      have c15 := cell_of_blk hx5 15
      have HRk : Hid (wr.rangeAt b (off + k * 19) r.cs) := Lib.hid hrg
      have HW2 := Lib.hid hW2
      have HG5 := Lib.hid hg5
      have HSk : Hid (matB id r = false → ∀ w3, Below W2.heap.size W2 w3 → InPg L id w (k + 1) va fin w3) := Lib.hid fun hm w3 hb3 => HP.out.skip hr hm (hb2.trans (hb3.mono hb2.size))
      have HMr : Hid (matB id r = true → ∀ v' w3, w3.ownsRow w.heap.size 9 1 v' ((nmsP id (L.take k)).length + r.N.length) ((nmsP id (L.take k)).map Value.string ++ r.N.map Value.string) → W2.grownBy w3 va.ownBlock → InPg L id w (k + 1) v' r.fin w3) := Lib.hid fun hm v' w3 h1 h2 => HP.out.more hr hm hb2 h1 h2
      have HOw : Hid (W2.ownsRow w.heap.size 9 1 va (nmsP id (L.take k)).length ((nmsP id (L.take k)).map Value.string)) := Lib.hid (own_later HP.out.own hb2)
      have HTx : Hid (Txs W2 r.A r.N ∧ (r.A = none → r.N.length = 0 ∧ r.c = 0)) := Lib.hid ⟨((HN.out wr HP.out.below) r hmem).1.later hb2, ((HN.out wr HP.out.below) r hmem).2⟩
      have HFw : Hid (r.N.length ≤ 100 ∧ (nmsP id (L.take k)).length ≤ 6000) := Lib.hid ⟨HM.out.2 r hmem, by
        have h1 := nmsP_few id (L.take k) fun x hx => HM.out.2 x (List.mem_of_mem_take hx)
        have h2 : (L.take k).length ≤ 60 := Nat.le_trans (List.length_take_le' k L) HM.out.1
        omega⟩
      have HBw : Hid (w.heap.size ≤ W2.heap.size) := Lib.hid (Nat.le_trans HP.out.below.size hb2.size)
      obtain ⟨nn, hnn⟩ : ∃ nn, nn = r.N.length := ⟨_, rfl⟩
      obtain ⟨nm, hnm⟩ : ∃ nm, nm = (nmsP id (L.take k)).length := ⟨_, rfl⟩
      rw [← hnn] at c14 HTx HFw HMr HX5 HW2
      rw [← hnm] at HOw HFw HMr
      have HNn := Lib.hid hnn
      have HNm := Lib.hid hnm
      clear hr hrg hb hW2 hg5 hb2 hx5 hmem hnn hnm HP
      go_upto_region 4 with (first | (refine wl_load rfl rfl rfl HRk.out ?_; rw [← HNn.out]) | (rw [HNn.out]; refine wl_put (r := r) rfl rfl rfl rfl rfl ?_; rw [← HNn.out]))
      rw [← HW2.out]
      simp only [← HG5.out]
      clear HW2 HG5 HRk
      by_cases h1 : r.k = 6
      rotate_left 1
      · have HE := Lib.hid (HSk.out (by unfold matB; simp [h1]) W2 (Below.refl _ _))
        obtain ⟨u1, u2⟩ := int_no h1
        clear c14 c15
        go_wp2_with fail
        go_roundw
        case rel => exact ⟨k + 1, fin, by omega, by go_num, rfl, HE⟩
        case measure => simp [intOf]; omega
      obtain ⟨ph1, qh1⟩ := int_yes h1
      have Hh1 := Lib.hid h1
      clear h1
      by_cases h2 : r.i = id
      rotate_left 1
      · have HE := Lib.hid (HSk.out (by unfold matB; simp [h2]) W2 (Below.refl _ _))
        obtain ⟨u1, u2⟩ := int_no h2
        clear c14 c15
        go_wp2_with fail
        go_roundw
        case rel => exact ⟨k + 1, fin, by omega, by go_num, rfl, HE⟩
        case measure => simp [intOf]; omega
      obtain ⟨ph2, qh2⟩ := int_yes h2
      have Hh2 := Lib.hid h2
      clear h2
      by_cases h3 : r.e = 0
      rotate_left 1
      · have HE := Lib.hid (HSk.out (by unfold matB; simp [h3]) W2 (Below.refl _ _))
        obtain ⟨u1, u2⟩ := int_no h3
        clear c14 c15
        go_wp2_with fail
        go_roundw
        case rel => exact ⟨k + 1, fin, by omega, by go_num, rfl, HE⟩
        case measure => simp [intOf]; omega
      obtain ⟨ph3, qh3⟩ := int_yes h3
      have Hh3 := Lib.hid h3
      clear h3
      have HMr2 := Lib.hid (HMr.out (by unfold matB; simp [Hh1.out, Hh2.out, Hh3.out]))
      clear HMr HSk
      go_wp2_with (at_builtin; refine wpList_append_opt rfl (.tmp 31) (.tmp 34) 24 rfl w.heap.size 9 i0' _ 1 16 Tryz.underlying24 hi hz0 hz1 hz2 rfl (by omega) va nm ((nmsP id (L.take k)).map Value.string) rfl HOw.out r.A nn r.c (r.N.map Value.string) HTx.out.2 rfl (by rw [List.length_map, HNn.out]; omega) HTx.out.1.lies (txt_one _) (by simp only [maxLen]; have := HFw.out; omega) (by have := HFw.out; omega) HBw.out ?_; intro v' w3 hown hgrow; have HE := Lib.hid (HMr2.out v' w3 hown hgrow); have d15 := cell_of_blk ((hgrow.block g5 (lt_of_some HX5.out) (fun e => own_ne HOw.out HX5.out (by decide) e.symm)).trans HX5.out) 15; clear hown hgrow c14 c15)
      go_roundw
      case rel => exact ⟨k + 1, r.fin, by omega, by go_num, rfl, HE⟩
      case measure => simp [intOf]; omega
    · obtain ⟨A', c', rfl, rfl, h1, h2⟩ := HP.out.done (by omega)
      have HE := Lib.hid (And.intro h1 h2)
      clear h1 h2
      go_wp2_with fail
      go_ret2
      exact ⟨A', c', rfl, HE.out.1, HE.out.2⟩
end Go.Proofs.YtkigkdiphhecaaaGreat.tal
