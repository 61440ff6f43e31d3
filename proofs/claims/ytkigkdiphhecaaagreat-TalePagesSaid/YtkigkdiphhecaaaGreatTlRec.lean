/- Records as plain words; Before, Compare, the row that is cloned. No condition. -/
import Derived.Test.YtkigkdiphhecaaaGreatTlSpc
import Derived.Lib.LazyBuf
import Derived.Deep.Upon
import Derived.Laws.IdiomCopy
import Derived.Deep.MidRow
namespace Go.Proofs.YtkigkdiphhecaaaGreat.tal
set_option maxRecDepth 100000
open Go.RowKit Go.Proofs.YtkigkdiphhecaaaGreat.words

/-- A record. -/
structure Rc where
  cl : Int
  ix : Int
  k : Int
  p : ByteArray
  o : Int
  n : Int
  i : Int
  g : ByteArray
  e : Int
  rk : Int
  z : Int
  wh : Int
  id : Int
  x : ByteArray
  N : List ByteArray
  fin : Bool
  ca : Int
  ma : Int
  re : Int
  A : Option Addr
  c : Nat
def Rc.cs (r : Rc) : List Value := [.int .i64 r.cl, .int .i64 r.ix, .int .i64 r.k, .string r.p, .int .i64 r.o, .int .i64 r.n, .int .i64 r.i, .string r.g, .int .i64 r.e, .int .i64 r.rk, .int .i64 r.z, .int .i64 r.wh, .int .i64 r.id, .string r.x, .slice r.A r.N.length r.c, .bool r.fin, .int .i64 r.ca, .int .i64 r.ma, .int .i64 r.re]
theorem Rc.len (r : Rc) : r.cs.length = 19 := rfl
theorem Rc.one (r : Rc) : ∀ u ∈ r.cs, u.oneCell' = true := by
  unfold Rc.cs
  intro u hu
  simp only [List.mem_cons, List.not_mem_nil, or_false] at hu
  rcases hu with rfl | rfl | rfl | rfl | rfl | rfl | rfl | rfl | rfl | rfl | rfl | rfl | rfl | rfl | rfl | rfl | rfl | rfl | rfl <;> rfl
theorem before_any (r s : Rc) (w : World) : Calls Tryz.prog 7 #[.agg #[.int .i64 r.cl, .int .i64 r.ix, .int .i64 r.k, .string r.p, .int .i64 r.o, .int .i64 r.n, .int .i64 r.i, .string r.g, .int .i64 r.e, .int .i64 r.rk, .int .i64 r.z, .int .i64 r.wh, .int .i64 r.id, .string r.x, .slice r.A r.N.length r.c, .bool r.fin, .int .i64 r.ca, .int .i64 r.ma, .int .i64 r.re], .agg #[.int .i64 s.cl, .int .i64 s.ix, .int .i64 s.k, .string s.p, .int .i64 s.o, .int .i64 s.n, .int .i64 s.i, .string s.g, .int .i64 s.e, .int .i64 s.rk, .int .i64 s.z, .int .i64 s.wh, .int .i64 s.id, .string s.x, .slice s.A s.N.length s.c, .bool s.fin, .int .i64 s.ca, .int .i64 s.ma, .int .i64 s.re]] w fun e w' => e = .returned (.bool (decide (r.re < s.ca))) ∧ Below w.heap.size w w' := by
  obtain ⟨g1, W1, hW1, eg1, hxr, hxs, hb1, lg1⟩ := two_boxes w (.cells #[.int .i64 r.cl, .int .i64 r.ix, .int .i64 r.k, .string r.p, .int .i64 r.o, .int .i64 r.n, .int .i64 r.i, .string r.g, .int .i64 r.e, .int .i64 r.rk, .int .i64 r.z, .int .i64 r.wh, .int .i64 r.id, .string r.x, .slice r.A r.N.length r.c, .bool r.fin, .int .i64 r.ca, .int .i64 r.ma, .int .i64 r.re] 32) (.cells #[.int .i64 s.cl, .int .i64 s.ix, .int .i64 s.k, .string s.p, .int .i64 s.o, .int .i64 s.n, .int .i64 s.i, .string s.g, .int .i64 s.e, .int .i64 s.rk, .int .i64 s.z, .int .i64 s.wh, .int .i64 s.id, .string s.x, .slice s.A s.N.length s.c, .bool s.fin, .int .i64 s.ca, .int .i64 s.ma, .int .i64 s.re] 32)
  have c6 := cell_of_blk hxr 18
  have c4 := cell_of_blk hxs 16
  have HB1 := Lib.hid hb1
  have HW1 := Lib.hid hW1
  have HEG := Lib.hid eg1
  clear hW1 eg1 hxr hxs hb1 lg1
  go_enter Tryz.func7, Tryz.ntmps7
  go_upto_region 1 with fail
  rw [HW1.out]
  simp only [HEG.out]
  clear HW1 HEG
  go_wp2_with fail
  go_ret
  exact ⟨rfl, HB1.out⟩
def cmpI (a b : Int) : Int := if a < b then -1 else if b < a then 1 else 0
theorem nan_any (a : Int) (w : World) : Calls Tryz.prog 25 #[.int .i64 a] w fun e w' => e = .returned (.bool false) ∧ w' = w := by
  go_enter Tryz.func25, Tryz.ntmps25
  have hd : (!(a == a)) = false := by simp
  go_wp2_with fail
  go_ret
  exact ⟨by simp, rfl⟩
theorem cmp_any (a b : Int) (w : World) : Calls Tryz.prog 21 #[.int .i64 a, .int .i64 b] w fun e w' => e = .returned (.int .i64 (cmpI a b)) ∧ w' = w := by
  have HNa := Lib.hid (nan_any a w)
  have HNb := Lib.hid (nan_any b w)
  rcases Int.lt_trichotomy a b with h | h | h
  · have HF := Lib.hid (show cmpI a b = -1 by unfold cmpI; rw [if_pos h])
    go_enter Tryz.func21, Tryz.ntmps21
    go_wp2_with fail
    refine HNa.out.mono ?_
    rintro e w1 ⟨rfl, rfl⟩
    go_wp2_with fail
    refine HNb.out.mono ?_
    rintro e w1 ⟨rfl, rfl⟩
    go_wp2_with fail
    go_ret
    exact ⟨by rw [HF.out]; rfl, rfl⟩
  · subst h
    have HF := Lib.hid (show cmpI a a = 0 by unfold cmpI; rw [if_neg (by omega), if_neg (by omega)])
    have h1 : ¬ a < a := by omega
    go_enter Tryz.func21, Tryz.ntmps21
    go_wp2_with fail
    refine HNa.out.mono ?_
    rintro e w1 ⟨rfl, rfl⟩
    go_wp2_with fail
    refine HNb.out.mono ?_
    rintro e w1 ⟨rfl, rfl⟩
    go_wp2_with fail
    go_ret
    exact ⟨by rw [HF.out]; rfl, rfl⟩
  · have HF := Lib.hid (show cmpI a b = 1 by unfold cmpI; rw [if_neg (by omega), if_pos h])
    have h1 : ¬ a < b := by omega
    go_enter Tryz.func21, Tryz.ntmps21
    go_wp2_with fail
    refine HNa.out.mono ?_
    rintro e w1 ⟨rfl, rfl⟩
    go_wp2_with fail
    refine HNb.out.mono ?_
    rintro e w1 ⟨rfl, rfl⟩
    go_wp2_with fail
    go_ret
    exact ⟨by rw [HF.out]; rfl, rfl⟩
theorem less_any (r s : Rc) (w : World) : Calls Tryz.prog 20 #[.agg #[.int .i64 r.cl, .int .i64 r.ix, .int .i64 r.k, .string r.p, .int .i64 r.o, .int .i64 r.n, .int .i64 r.i, .string r.g, .int .i64 r.e, .int .i64 r.rk, .int .i64 r.z, .int .i64 r.wh, .int .i64 r.id, .string r.x, .slice r.A r.N.length r.c, .bool r.fin, .int .i64 r.ca, .int .i64 r.ma, .int .i64 r.re], .agg #[.int .i64 s.cl, .int .i64 s.ix, .int .i64 s.k, .string s.p, .int .i64 s.o, .int .i64 s.n, .int .i64 s.i, .string s.g, .int .i64 s.e, .int .i64 s.rk, .int .i64 s.z, .int .i64 s.wh, .int .i64 s.id, .string s.x, .slice s.A s.N.length s.c, .bool s.fin, .int .i64 s.ca, .int .i64 s.ma, .int .i64 s.re]] w fun e w' => e = .returned (.int .i64 (cmpI r.ma s.ma)) ∧ Below w.heap.size w w' := by
  obtain ⟨g1, W1, hW1, eg1, hxr, hxs, hb1, lg1⟩ := two_boxes w (.cells #[.int .i64 r.cl, .int .i64 r.ix, .int .i64 r.k, .string r.p, .int .i64 r.o, .int .i64 r.n, .int .i64 r.i, .string r.g, .int .i64 r.e, .int .i64 r.rk, .int .i64 r.z, .int .i64 r.wh, .int .i64 r.id, .string r.x, .slice r.A r.N.length r.c, .bool r.fin, .int .i64 r.ca, .int .i64 r.ma, .int .i64 r.re] 32) (.cells #[.int .i64 s.cl, .int .i64 s.ix, .int .i64 s.k, .string s.p, .int .i64 s.o, .int .i64 s.n, .int .i64 s.i, .string s.g, .int .i64 s.e, .int .i64 s.rk, .int .i64 s.z, .int .i64 s.wh, .int .i64 s.id, .string s.x, .slice s.A s.N.length s.c, .bool s.fin, .int .i64 s.ca, .int .i64 s.ma, .int .i64 s.re] 32)
  have c6 := cell_of_blk hxr 17
  have c4 := cell_of_blk hxs 17
  have HB1 := Lib.hid hb1
  have HW1 := Lib.hid hW1
  have HEG := Lib.hid eg1
  have HC := Lib.hid (cmp_any r.ma s.ma W1)
  clear hW1 eg1 hxr hxs hb1 lg1
  go_enter Tryz.func20, Tryz.ntmps20
  go_upto_region 1 with fail
  rw [HW1.out]
  simp only [HEG.out]
  clear HW1 HEG
  go_wp2_with fail
  refine HC.out.mono ?_
  rintro e w1 ⟨rfl, rfl⟩
  go_wp2_with fail
  go_ret
  exact ⟨rfl, HB1.out⟩
def Lies (w : World) (A : Option Addr) (xs : List Value) : Prop := ∀ j u, xs[j]? = some u → ∃ b off, A = some ⟨b, off, none⟩ ∧ b < w.heap.size ∧ w.cell? ⟨b, off + j, none⟩ = some u
def Copied (E : TypeId) (size n : Nat) (xs : List Value) (w : World) (e : Ending) (w' : World) : Prop :=
  (∃ A c, e = .returned (.slice A n c) ∧ n ≤ c ∧ (A = none → n = 0 ∧ c = 0) ∧ w'.ownsRow w.heap.size E size (.slice A n c) n xs) ∧ Below w.heap.size w w'
theorem own_facts {w : World} {B : Nat} {E : TypeId} {size n : Nat} {v : Value} {xs : List Value} (h : w.ownsRow B E size v n xs) : ∃ A c, v = .slice A n c ∧ n ≤ c ∧ (A = none → n = 0 ∧ c = 0) := by
  rcases h.2 with ⟨rfl, rfl⟩ | ⟨g, cap, cur, rfl, _, _, hle, _⟩
  · exact ⟨none, 0, rfl, Nat.le_refl _, fun _ => ⟨rfl, rfl⟩⟩
  · exact ⟨_, cap, rfl, hle, fun h => by cases h⟩
theorem add_place (b off j : Nat) : (⟨b, off, none⟩ : Addr).add j = ⟨b, off + j, none⟩ := by unfold Addr.add; split <;> simp_all
theorem infoRec : (Tryz.prog.info? 32).map (fun i => (i.zero, i.size, i.bytes)) = some (some (.agg #[.int .i64 0, .int .i64 0, .int .i64 0, .string ⟨#[]⟩, .int .i64 0, .int .i64 0, .int .i64 0, .string ⟨#[]⟩, .int .i64 0, .int .i64 0, .int .i64 0, .int .i64 0, .int .i64 0, .string ⟨#[]⟩, .slice none 0 0, .bool false, .int .i64 0, .int .i64 0, .int .i64 0]), 19, 192) := by kernel_rfl
theorem infoTxt : (Tryz.prog.info? 9).map (fun i => (i.zero, i.size, i.bytes)) = some (some (.string ⟨#[]⟩), 1, 16) := by kernel_rfl
set_option maxHeartbeats 1600000 in
theorem copy_rec (A : Option Addr) (n c : Nat) (xs : List Value) (w : World) (hN : Lies w A xs) (hz : A = none → n = 0 ∧ c = 0) (hl : n * 192 ≤ 140737488355328) (hlen : xs.length = n * 19) (hone : ∀ u ∈ xs, u.oneCell' = true) :
    Calls Tryz.prog 17 #[.slice A n c] w (Copied 32 19 n xs w) := by
  obtain ⟨i0, hi, hz0, hz1, hz2⟩ := lru.info_three infoRec
  rcases A with _ | ad
  · obtain ⟨rfl, rfl⟩ := hz rfl
    obtain rfl : xs = [] := List.eq_nil_of_length_eq_zero (by omega)
    have heq0 := fun wx => Lib.run_eql_slice_nil (P := Tryz.prog) wx 22 32 none 0 0 0 0 Tryz.underlying22
    clear hN hl hz0 hz1 hz2 hi
    go_enter Tryz.func17, Tryz.ntmps17
    go_wp2_with fail
    go_ret
    exact ⟨⟨none, 0, rfl, Nat.le_refl _, fun _ => ⟨rfl, rfl⟩, World.ownsRow_nil _ _ _ _⟩, Below.refl _ _⟩
  · have heq := fun wx => Lib.run_eql_slice_nil (P := Tryz.prog) wx 22 32 (some ad) n c 0 0 Tryz.underlying22
    have hnews : Hid (∀ j u, xs[j]? = some u → (w.alloc (.cells #[] 32)).cell? (ad.add j) = some u) := Lib.hid fun j u hu => by
      obtain ⟨b, off, hA, hB, hc⟩ := hN j u hu
      injection hA with hA
      subst hA
      rw [add_place]
      exact (((Below.refl w.heap.size w).alloc (Nat.le_refl _) (.cells #[] 32)).cell (p := ⟨b, off + j, none⟩) hB).trans hc
    have HOne := Lib.hid hone
    have HLen := Lib.hid hlen
    clear hN hone hlen hz
    go_enter Tryz.func17, Tryz.ntmps17
    go_wp2_with (at_builtin; refine wpList_append_own _ rfl (.tmp 5) (.tmp 6) 22 rfl w.heap.size 32 i0 _ 19 192 Tryz.underlying22 hi hz0 hz1 hz2 rfl (by omega) (.slice (some ⟨w.heap.size, 0, none⟩) 0 0) 0 [] rfl (World.ownsRow_made w #[] 0 (Nat.le_refl _) (by decide) rfl) ad n c xs rfl HLen.out hnews.out HOne.out (by simp only [maxLen]; omega) (by omega) (by simp) ?_; intro v4 w4 hown4 hgrow hnil4)
    rw [Nat.zero_add, List.nil_append] at hown4
    obtain ⟨A4, c4, rfl, h1, h2⟩ := own_facts hown4
    have HO4 := Lib.hid hown4
    have HB4 := Lib.hid (lru.keep_grown (S := w.heap.size) ((Below.refl w.heap.size w).alloc (Nat.le_refl _) (.cells #[] 32)) (World.ownsRow_made w #[] 0 (Nat.le_refl _) (by decide) rfl : (w.alloc (.cells #[] 32)).ownsRow w.heap.size 32 19 _ 0 []) hgrow (Nat.le_refl _) (Nat.le_refl _))
    clear hown4 hgrow hnil4
    go_wp2_with fail
    go_ret
    exact ⟨⟨A4, c4, rfl, h1, h2, HO4.out⟩, HB4.out⟩
set_option maxHeartbeats 1600000 in
theorem copy_txt (A : Option Addr) (n c : Nat) (xs : List Value) (w : World) (hN : Lies w A xs) (hz : A = none → n = 0 ∧ c = 0) (hl : n * 16 ≤ 140737488355328) (hlen : xs.length = n * 1) (hone : ∀ u ∈ xs, u.oneCell' = true) :
    Calls Tryz.prog 18 #[.slice A n c] w (Copied 9 1 n xs w) := by
  obtain ⟨i0, hi, hz0, hz1, hz2⟩ := lru.info_three infoTxt
  rcases A with _ | ad
  · obtain ⟨rfl, rfl⟩ := hz rfl
    obtain rfl : xs = [] := List.eq_nil_of_length_eq_zero (by omega)
    have heq0 := fun wx => Lib.run_eql_slice_nil (P := Tryz.prog) wx 24 9 none 0 0 0 0 Tryz.underlying24
    clear hN hl hz0 hz1 hz2 hi
    go_enter Tryz.func18, Tryz.ntmps18
    go_wp2_with fail
    go_ret
    exact ⟨⟨none, 0, rfl, Nat.le_refl _, fun _ => ⟨rfl, rfl⟩, World.ownsRow_nil _ _ _ _⟩, Below.refl _ _⟩
  · have heq := fun wx => Lib.run_eql_slice_nil (P := Tryz.prog) wx 24 9 (some ad) n c 0 0 Tryz.underlying24
    have hnews : Hid (∀ j u, xs[j]? = some u → (w.alloc (.cells #[] 9)).cell? (ad.add j) = some u) := Lib.hid fun j u hu => by
      obtain ⟨b, off, hA, hB, hc⟩ := hN j u hu
      injection hA with hA
      subst hA
      rw [add_place]
      exact (((Below.refl w.heap.size w).alloc (Nat.le_refl _) (.cells #[] 9)).cell (p := ⟨b, off + j, none⟩) hB).trans hc
    have HOne := Lib.hid hone
    have HLen := Lib.hid hlen
    clear hN hone hlen hz
    go_enter Tryz.func18, Tryz.ntmps18
    go_wp2_with (at_builtin; refine wpList_append_own _ rfl (.tmp 5) (.tmp 6) 24 rfl w.heap.size 9 i0 _ 1 16 Tryz.underlying24 hi hz0 hz1 hz2 rfl (by omega) (.slice (some ⟨w.heap.size, 0, none⟩) 0 0) 0 [] rfl (World.ownsRow_made w #[] 0 (Nat.le_refl _) (by decide) rfl) ad n c xs rfl HLen.out hnews.out HOne.out (by simp only [maxLen]; omega) (by omega) (by simp) ?_; intro v4 w4 hown4 hgrow hnil4)
    rw [Nat.zero_add, List.nil_append] at hown4
    obtain ⟨A4, c4, rfl, h1, h2⟩ := own_facts hown4
    have HO4 := Lib.hid hown4
    have HB4 := Lib.hid (lru.keep_grown (S := w.heap.size) ((Below.refl w.heap.size w).alloc (Nat.le_refl _) (.cells #[] 9)) (World.ownsRow_made w #[] 0 (Nat.le_refl _) (by decide) rfl : (w.alloc (.cells #[] 9)).ownsRow w.heap.size 9 1 _ 0 []) hgrow (Nat.le_refl _) (Nat.le_refl _))
    clear hown4 hgrow hnil4
    go_wp2_with fail
    go_ret
    exact ⟨⟨A4, c4, rfl, h1, h2, HO4.out⟩, HB4.out⟩
/-! A round's record: read whole, and put whole into a box of its own -/
theorem wl_load {ops : Array Oper} {rest : List Oper} {op : Oper} {a : Act} {w : World} {Q : Exit → Act → World → Prop} {x : Operand} {r : Rc} {b o : Nat} (hgd : op.guard = none) (ho : op.op = .load 32 x) (hx : a.eval x = .pointer (some ⟨b, o, none⟩)) (hc : w.rangeAt b o r.cs)
    (h : wpList Tryz.prog ops Q rest (a.put op.dst (.agg #[.int .i64 r.cl, .int .i64 r.ix, .int .i64 r.k, .string r.p, .int .i64 r.o, .int .i64 r.n, .int .i64 r.i, .string r.g, .int .i64 r.e, .int .i64 r.rk, .int .i64 r.z, .int .i64 r.wh, .int .i64 r.id, .string r.x, .slice r.A r.N.length r.c, .bool r.fin, .int .i64 r.ca, .int .i64 r.ma, .int .i64 r.re])) w) : wpList Tryz.prog ops Q (op :: rest) a w :=
  wpList_load_mid hgd 32 x ho b o hx r.cs _ hc Tryz.underlying32 rfl (by kernel_rfl) h
theorem put_new (w : World) (r : Rc) : (w.alloc (.cells #[.int .i64 0, .int .i64 0, .int .i64 0, .string ⟨#[]⟩, .int .i64 0, .int .i64 0, .int .i64 0, .string ⟨#[]⟩, .int .i64 0, .int .i64 0, .int .i64 0, .int .i64 0, .int .i64 0, .string ⟨#[]⟩, .slice none 0 0, .bool false, .int .i64 0, .int .i64 0, .int .i64 0] 32)).setCells w.heap.size 0 r.cs = w.alloc (.cells #[.int .i64 r.cl, .int .i64 r.ix, .int .i64 r.k, .string r.p, .int .i64 r.o, .int .i64 r.n, .int .i64 r.i, .string r.g, .int .i64 r.e, .int .i64 r.rk, .int .i64 r.z, .int .i64 r.wh, .int .i64 r.id, .string r.x, .slice r.A r.N.length r.c, .bool r.fin, .int .i64 r.ca, .int .i64 r.ma, .int .i64 r.re] 32) := by
  unfold Rc.cs
  simp only [World.setCells]
  simp [World.setCell_alloc_at]
theorem wl_put {ops : Array Oper} {rest : List Oper} {op : Oper} {a : Act} {w : World} {Q : Exit → Act → World → Prop} {x y : Operand} {r : Rc} {n : Nat} (hgd : op.guard = none) (ho : op.op = .store 32 x y) (hn : n = w.heap.size) (hx : a.eval x = .pointer (some ⟨n, 0, none⟩)) (hy : a.eval y = .agg #[.int .i64 r.cl, .int .i64 r.ix, .int .i64 r.k, .string r.p, .int .i64 r.o, .int .i64 r.n, .int .i64 r.i, .string r.g, .int .i64 r.e, .int .i64 r.rk, .int .i64 r.z, .int .i64 r.wh, .int .i64 r.id, .string r.x, .slice r.A r.N.length r.c, .bool r.fin, .int .i64 r.ca, .int .i64 r.ma, .int .i64 r.re])
    (h : wpList Tryz.prog ops Q rest (a.put op.dst undef) (w.alloc (.cells #[.int .i64 r.cl, .int .i64 r.ix, .int .i64 r.k, .string r.p, .int .i64 r.o, .int .i64 r.n, .int .i64 r.i, .string r.g, .int .i64 r.e, .int .i64 r.rk, .int .i64 r.z, .int .i64 r.wh, .int .i64 r.id, .string r.x, .slice r.A r.N.length r.c, .bool r.fin, .int .i64 r.ca, .int .i64 r.ma, .int .i64 r.re] 32))) : wpList Tryz.prog ops Q (op :: rest) a (w.alloc (.cells #[.int .i64 0, .int .i64 0, .int .i64 0, .string ⟨#[]⟩, .int .i64 0, .int .i64 0, .int .i64 0, .string ⟨#[]⟩, .int .i64 0, .int .i64 0, .int .i64 0, .int .i64 0, .int .i64 0, .string ⟨#[]⟩, .slice none 0 0, .bool false, .int .i64 0, .int .i64 0, .int .i64 0] 32)) := by
  subst hn
  refine wpList_store_mid hgd 32 x y ho w.heap.size 0 r.cs.toArray hx hy (fun j hj => ?_) (by kernel_rfl) (all_oneCell_toArray r.one) ?_
  · have hj : j < 19 := hj
    have hb := heap_alloc_new w (.cells #[.int .i64 0, .int .i64 0, .int .i64 0, .string ⟨#[]⟩, .int .i64 0, .int .i64 0, .int .i64 0, .string ⟨#[]⟩, .int .i64 0, .int .i64 0, .int .i64 0, .int .i64 0, .int .i64 0, .string ⟨#[]⟩, .slice none 0 0, .bool false, .int .i64 0, .int .i64 0, .int .i64 0] 32)
    refine ⟨?_, free_of_blk hb _⟩
    rw [cell_of_blk hb, Array.getElem?_eq_getElem (by show 0 + j < 19; omega)]
    rfl
  · rw [show r.cs.toArray.toList = r.cs from rfl, put_new]
    exact h
end Go.Proofs.YtkigkdiphhecaaaGreat.tal
