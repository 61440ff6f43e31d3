/- The law's own may, and Few of one call. Conditions: the records lie in memory. -/
import Derived.Test.YtkigkdiphhecaaaGreatTlKept
import Derived.Lib.MinMax
namespace Go.Proofs.YtkigkdiphhecaaaGreat.tal
set_option maxRecDepth 100000
open Go.RowKit Go.Proofs.YtkigkdiphhecaaaGreat.words

def FewO (w : World) (e : Ending) (w' : World) : Prop := (∃ k : Int, e = .returned (.int .i64 k) ∧ (k = 0 ∨ k = 1)) ∧ Below w.heap.size w w'
set_option maxHeartbeats 3200000 in
theorem few_one (r : Rc) (g : Nat) (w : World) (h : w.heap[g]? = some (.cells #[.int .i64 r.k, .string r.p, .int .i64 r.o, .int .i64 r.n, .int .i64 r.i, .string r.g] 30 (0, 0))) : Calls Tryz.prog 15 #[.slice (some ⟨g, 0, none⟩) 1 1, .int .i64 1] w (FewO w) := by
  obtain ⟨W2, hW2⟩ : ∃ W2, W2 = w.alloc (.cells #[.int .i64 r.k, .string r.p, .int .i64 r.o, .int .i64 r.n, .int .i64 r.i, .string r.g] 30) := ⟨_, rfl⟩
  have hx : W2.heap[w.heap.size]? = some (.cells #[.int .i64 r.k, .string r.p, .int .i64 r.o, .int .i64 r.n, .int .i64 r.i, .string r.g] 30 (0, 0)) := by rw [hW2]; exact heap_alloc_new w _
  have HB2 : Hid (Below w.heap.size w W2) := Lib.hid (by rw [hW2]; exact (Below.refl _ _).alloc (Nat.le_refl _) _)
  have d0 := cell_of_blk h 0
  have d1 := cell_of_blk h 1
  have d2 := cell_of_blk h 2
  have d3 := cell_of_blk h 3
  have d4 := cell_of_blk h 4
  have d5 := cell_of_blk h 5
  have c1 := cell_of_blk hx 1
  have c3 := cell_of_blk hx 3
  have c5 := cell_of_blk hx 5
  have HW2 := Lib.hid hW2
  clear hW2 hx h
  go_enter Tryz.func15, Tryz.ntmps15
  go_wp2_with fail
  refine wp_loop_rounds 2 ?_
  rw [rounds_succ]
  go_upto_region 6 with fail
  rw [← HW2.out]
  clear HW2 d0 d1 d2 d3 d4 d5
  by_cases h1 : (1100 : Int) < (r.p.size : Int)
  · have h1' : 1100 < r.p.size := by omega
    go_wp2_with fail
    go_ret
    exact ⟨⟨_, rfl, .inl rfl⟩, HB2.out⟩
  have h1' : ¬ 1100 < r.p.size := by omega
  by_cases h2 : (2000 : Int) < (r.g.size : Int)
  · have h2' : 2000 < r.g.size := by omega
    go_wp2_with fail
    go_ret
    exact ⟨⟨_, rfl, .inl rfl⟩, HB2.out⟩
  have h2' : ¬ 2000 < r.g.size := by omega
  by_cases h3 : (3000 : Int) < r.n
  · go_wp2_with fail
    go_ret
    exact ⟨⟨_, rfl, .inl rfl⟩, HB2.out⟩
  go_wp2_with fail
  rw [rounds_succ]
  go_wp2_with fail
  go_ret
  exact ⟨⟨_, rfl, .inr rfl⟩, HB2.out⟩
def MayO (L : List Rc) (w : World) (e : Ending) (w' : World) : Prop := (∃ b, e = .returned (.bool b) ∧ (b = true → L.length ≤ 60 ∧ ∀ r ∈ L, r.N.length ≤ 100)) ∧ Below w.heap.size w w'
set_option maxHeartbeats 12800000 in
theorem may_any (A : Option Addr) (c : Nat) (L : List Rc) (w : World) (h : Recs w A L) (hl : L.length ≤ 9223372036854775807) : Calls Tryz.prog 6 #[.slice A L.length c] w (MayO L w) := by
  have HL := Lib.hid h
  clear h
  go_enter Tryz.func6, Tryz.ntmps6
  by_cases h60 : (60 : Int) < (L.length : Int)
  · have h60' : 60 < L.length := by omega
    go_wp2_with fail
    go_ret
    exact ⟨⟨false, rfl, fun h => by cases h⟩, Below.refl _ _⟩
  have h60' : ¬ 60 < L.length := by omega
  have H60 : Hid (L.length ≤ 60) := Lib.hid (by omega)
  go_wp2_with fail
  clear h60 h60'
  go_loopw [10] (fun v wr => ∃ k : Nat, k ≤ L.length ∧ v = .int .i64 (k : Int) ∧ Hid (Below w.heap.size w wr) ∧ Hid (∀ j r, j < k → L[j]? = some r → r.N.length ≤ 100)) (fun v _ => L.length - (intOf v).toNat)
  case atStart => exact ⟨0, Nat.zero_le _, rfl, Lib.hid (Below.refl _ _), Lib.hid fun j r h _ => absurd h (Nat.not_lt_zero _)⟩
  case round =>
    obtain ⟨k, hk, rfl, HB, HNs⟩ := hrel
    by_cases hlt : k < L.length
    · obtain ⟨r, hr⟩ : ∃ r, L[k]? = some r := ⟨_, List.getElem?_eq_getElem hlt⟩
      obtain ⟨b, off, hA, hb, hrg⟩ := (HL.out.later HB.out) k r hr
      subst hA
      have i0 : (0 : Int) ≤ (k : Int) := by omega
      have i1 : (k : Int) < (L.length : Int) := by omega
      obtain ⟨W2, hW2⟩ : ∃ W2, W2 = wr.alloc (.cells #[.int .i64 r.cl, .int .i64 r.ix, .int .i64 r.k, .string r.p, .int .i64 r.o, .int .i64 r.n, .int .i64 r.i, .string r.g, .int .i64 r.e, .int .i64 r.rk, .int .i64 r.z, .int .i64 r.wh, .int .i64 r.id, .string r.x, .slice r.A r.N.length r.c, .bool r.fin, .int .i64 r.ca, .int .i64 r.ma, .int .i64 r.re] 32) := ⟨_, rfl⟩
      obtain ⟨g5, hg5⟩ : ∃ g5, g5 = wr.heap.size := ⟨_, rfl⟩
      have hb2 : Below wr.heap.size wr W2 := by rw [hW2]; exact (Below.refl _ _).alloc (Nat.le_refl _) _
      have hx5 : W2.heap[g5]? = some (.cells #[.int .i64 r.cl, .int .i64 r.ix, .int .i64 r.k, .string r.p, .int .i64 r.o, .int .i64 r.n, .int .i64 r.i, .string r.g, .int .i64 r.e, .int .i64 r.rk, .int .i64 r.z, .int .i64 r.wh, .int .i64 r.id, .string r.x, .slice r.A r.N.length r.c, .bool r.fin, .int .i64 r.ca, .int .i64 r.ma, .int .i64 r.re] 32 (0, 0)) := by rw [hW2, hg5]; exact heap_alloc_new wr _
      have HX5 := Lib.hid hx5
      obtain ⟨W3, hW3⟩ : ∃ W3, W3 = W2.alloc (.cells #[.int .i64 r.k, .string r.p, .int .i64 r.o, .int .i64 r.n, .int .i64 r.i, .string r.g] 30) := ⟨_, rfl⟩
      have hb3 : Below W2.heap.size W2 W3 := by rw [hW3]; exact (Below.refl _ _).alloc (Nat.le_refl _) _
      have HFw := Lib.hid (few_one r W2.heap.size W3 (by rw [hW3]; exact heap_alloc_new W2 _))
      have HB3 := Lib.hid (HB.out.trans ((hb2.trans (hb3.mono hb2.size)).mono HB.out.size))
      have HX3 := Lib.hid ((hb3.block _ (lt_of_some hx5)).trans hx5)
      have c2 := cell_of_blk hx5 2
      have c3 := cell_of_blk hx5 3
      have c4 := cell_of_blk hx5 4
      have c5 := cell_of_blk hx5 5
      have c6 := cell_of_blk hx5 6
      have c7 := cell_of_blk hx5 7
      have HRk : Hid (wr.rangeAt b (off + k * 19) r.cs) := Lib.hid hrg
      have HW2 := Lib.hid hW2
      have HG5 := Lib.hid hg5
      have HW3 := Lib.hid hW3
      have HRr := Lib.hid hr
      clear hr hrg hb hW2 hg5 hb2 hx5 hW3 hb3
      go_upto_region 6 with (first | (refine wl_load rfl rfl rfl HRk.out ?_) | (refine wl_put (r := r) rfl rfl rfl rfl rfl ?_))
      rw [← HW2.out]
      simp only [← HG5.out]
      clear HW2 HG5 HRk
      go_wp2_with fail
      rw [← HW3.out]
      refine HFw.out.mono ?_
      rintro e w4 ⟨⟨q, rfl, hq⟩, hb4⟩
      have HB4 := Lib.hid (HB3.out.trans (hb4.mono HB3.out.size))
      have hx4 := (hb4.block _ (lt_of_some HX3.out)).trans HX3.out
      have d14 := cell_of_blk hx4 14
      have d16 := cell_of_blk hx4 16
      have d17 := cell_of_blk hx4 17
      have d18 := cell_of_blk hx4 18
      clear hx4 hb4 HFw HW3 c2 c3 c4 c5 c6 c7
      obtain ⟨nn, hnn⟩ : ∃ nn, nn = r.N.length := ⟨_, rfl⟩
      rw [← hnn] at d14
      have HNn := Lib.hid (And.intro hnn HRr.out)
      clear hnn
      rcases hq with rfl | rfl
      · go_wp2_with fail
        go_ret
        exact ⟨⟨false, rfl, fun h => by cases h⟩, HB4.out⟩
      by_cases h1 : r.ca < 0
      · go_wp2_with fail
        go_ret
        exact ⟨⟨false, rfl, fun h => by cases h⟩, HB4.out⟩
      by_cases h2 : r.ma < 0
      · go_wp2_with fail
        go_ret
        exact ⟨⟨false, rfl, fun h => by cases h⟩, HB4.out⟩
      by_cases h3 : r.re < 0
      · go_wp2_with fail
        go_ret
        exact ⟨⟨false, rfl, fun h => by cases h⟩, HB4.out⟩
      by_cases h5 : (100 : Int) < (nn : Int)
      · have h5' : 100 < nn := by omega
        go_wp2_with fail
        all_goals first
          | (go_ret; exact ⟨⟨false, rfl, fun h => by cases h⟩, HB4.out⟩)
      have h5' : ¬ 100 < nn := by omega
      have HNs' : Hid (∀ j r, j < k + 1 → L[j]? = some r → r.N.length ≤ 100) := Lib.hid fun j y hj hy => by
        rcases Nat.lt_or_ge j k with h | h
        · exact HNs.out j y h hy
        · obtain rfl : j = k := by omega
          rw [HNn.out.2] at hy
          obtain rfl := Option.some.inj hy
          rw [← HNn.out.1]; omega
      go_wp2_with fail
      all_goals first
        | (go_ret; exact ⟨⟨false, rfl, fun h => by cases h⟩, HB4.out⟩)
        | (go_roundw
           case rel => exact ⟨k + 1, by omega, by go_num, HB4, HNs'⟩
           case measure => simp [intOf]; omega)
    · go_wp2_with fail
      go_ret
      exact ⟨⟨true, rfl, fun _ => ⟨H60.out, fun r hr => by
        obtain ⟨j, hj⟩ := List.mem_iff_getElem?.1 hr
        exact HNs.out j r (by have := (List.getElem?_eq_some_iff.1 hj).1; omega) hj⟩⟩, HB.out⟩
end Go.Proofs.YtkigkdiphhecaaaGreat.tal
