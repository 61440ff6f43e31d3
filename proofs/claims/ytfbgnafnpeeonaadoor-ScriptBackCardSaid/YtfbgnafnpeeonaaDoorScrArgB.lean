/- How a script that came in is read. No condition. -/
import Derived.Test.YtfbgnafnpeeonaaDoorScrArgs
import Derived.Test.YtfbgnafnpeeonaaDoorScrLawB
namespace Go.Proofs.YtfbgnafnpeeonaaDoor.cal
set_option maxRecDepth 100000
open Go.ChangeShapes Go.WideShapes Go.RowKit Go.Proofs.YtfbgnafnpeeonaaDoor.words Go.Proofs.YtfbgnafnpeeonaaDoor.scr

instance : Inhabited OpB := ⟨⟨0, .empty, 0, 0, 0, .empty⟩⟩
section
variable {H : Type} {enc : TypeId × Value → H} {W : World} {base : Nat} {spare : Nat → Bool} {held : Bool}
theorem cellsCfg : Tryd.prog.cellsOf 23 = 3 := by kernel_rfl
theorem cellsOps : Tryd.prog.cellsOf 43 = 1 := by kernel_rfl
theorem cellsCls : Tryd.prog.cellsOf 25 = 1 := by kernel_rfl
theorem cellsInts : Tryd.prog.cellsOf 26 = 1 := by kernel_rfl
theorem cellsScr : Tryd.prog.cellsOf 28 = 6 := by kernel_rfl
theorem bytesOps : Tryd.prog.bytesOf 43 = 24 := by kernel_rfl
theorem bytesOp : Tryd.prog.bytesOf 45 = 64 := by kernel_rfl
theorem spot_none {a : Addr} {c : Nat} {cs : List Value} (h : W.cells? base (a.add (0 * c)) c = some cs) (hc : 0 < c) : ∃ b off, a = ⟨b, off, none⟩ ∧ b < W.heap.size := by
  obtain ⟨_, hl, hat⟩ := World.cells?_some h
  have h0 := hat 0 hc
  rw [List.getElem?_eq_getElem (by omega)] at h0
  obtain ⟨b, off, spot⟩ := a
  have hs : spot = none := by simpa [Addr.add] using World.cell?_spot h0
  subst hs
  rw [Nat.zero_mul, add_plain, add_plain] at h0
  exact ⟨b, off, rfl, World.block_lt_of_cell? W _ h0⟩
theorem ints_of {fuel : Nat} {a0 : Option Addr} {len cap : Nat} {x : DataW H × List MemPlace} (h : DataW.trod enc Tryd.prog W base spare held fuel 26 [.slice a0 len cap] = some x) (hs : Sized 26 x.1) :
    ∃ Q : List Int, Q.length = len ∧ ∀ (i : Nat) x, Q[i]? = some x → (∃ b off, a0 = some ⟨b, off, none⟩ ∧ b < W.heap.size ∧ W.cell? ⟨b, off + i, none⟩ = some (.int .i64 x)) ∧ I64 x := by
  rcases a0 with _ | a
  · obtain ⟨rfl, _⟩ := (slice_facts Tryd.underlying26 h hs).2.2 rfl
    exact ⟨[], rfl, fun i x hx => by simp at hx⟩
  · obtain ⟨n, _, hel⟩ := slice_each Tryd.underlying26 h hs
    have each : ∀ i, i < len → ∃ y : Int, I64 y ∧ W.cell? (a.add i) = some (.int .i64 y) := fun i hlt => by
      obtain ⟨cs, d, hcs, ht, hsd⟩ := hel i hlt
      rw [cellsInt, Nat.mul_one] at hcs
      obtain ⟨s, rfl, hd, hw⟩ := DataW.trod_int Tryd.underlying3 ht
      obtain ⟨_, _, hat⟩ := World.cells?_some hcs
      have h0 := hat 0 (by omega)
      have e : (a.add i).add 0 = a.add i := by simp [Addr.add]
      rw [e] at h0
      exact ⟨s, int_i64 hw, h0⟩
    obtain ⟨f, hfl⟩ := Deep.choose_lt each
    refine ⟨(List.range len).map f, by simp, fun i x hx => ?_⟩
    have hlt : i < len := by
      have := (List.getElem?_eq_some_iff.1 hx).1
      simpa using this
    have hxe : x = f i := by
      rw [List.getElem?_map, List.getElem?_range hlt] at hx
      simpa using hx.symm
    subst hxe
    have hcell := (hfl i hlt).2
    obtain ⟨_, _, h0, _⟩ := hel 0 (by omega)
    rw [cellsInt] at h0
    obtain ⟨b, off, rfl, hb⟩ := spot_none h0 (by omega)
    rw [add_plain] at hcell
    exact ⟨⟨b, off, rfl, hb, hcell⟩, (hfl i hlt).1⟩
def OpIn (W : World) (A2 : Option Addr) (j : Nat) (o : OpB) : Prop := (∃ b2 off2, A2 = some ⟨b2, off2, none⟩ ∧ b2 < W.heap.size ∧ ∀ (k : Nat) u, o.c[k]? = some u → W.cell? ⟨b2, off2 + j * 6 + k, none⟩ = some u) ∧ (I64 o.O ∧ I64 o.N ∧ I64 o.I) ∧ o.P.size ≤ 140737488355328 ∧ o.G.size ≤ 140737488355328
theorem ops_of {fuel : Nat} {a0 : Option Addr} {len cap : Nat} {x : DataW H × List MemPlace} (h : DataW.trod enc Tryd.prog W base spare held fuel 43 [.slice a0 len cap] = some x) (hs : Sized 43 x.1) :
    ∃ Q : List OpB, Q.length = len ∧ ∀ (j : Nat) o, Q[j]? = some o → OpIn W a0 j o := by
  rcases a0 with _ | a
  · obtain ⟨rfl, _⟩ := (slice_facts Tryd.underlying43 h hs).2.2 rfl
    exact ⟨[], rfl, fun i x hx => by simp at hx⟩
  · obtain ⟨n, _, hel⟩ := slice_each Tryd.underlying43 h hs
    have each : ∀ i, i < len → ∃ o : OpB, OpIn W (some a) i o := fun i hlt => by
      obtain ⟨cs, d, hcs, ht, hsd⟩ := hel i hlt
      rw [cellsOp] at hcs
      obtain ⟨k, p, o, n, i', g, rfl, ho, hn, hi, hp, hg⟩ := op_of ht hsd
      obtain ⟨_, _, hat⟩ := World.cells?_some hcs
      obtain ⟨_, _, h0, _⟩ := hel 0 (by omega)
      rw [cellsOp] at h0
      obtain ⟨b, off, rfl, hb⟩ := spot_none h0 (by omega)
      refine ⟨⟨k, p, o, n, i', g⟩, ⟨b, off, rfl, hb, fun q u hu => ?_⟩, ⟨ho, hn, hi⟩, hp, hg⟩
      have hq : q < 6 := by
        have := (List.getElem?_eq_some_iff.1 hu).1
        simpa [OpB.c] using this
      have h1 := hat q hq
      rw [add_plain, add_plain] at h1
      rw [h1]
      exact hu
    obtain ⟨f, hfl⟩ := Deep.choose_lt each
    refine ⟨(List.range len).map f, by simp, fun i x hx => ?_⟩
    have hlt : i < len := by
      have := (List.getElem?_eq_some_iff.1 hx).1
      simpa using this
    have hxe : x = f i := by
      rw [List.getElem?_map, List.getElem?_range hlt] at hx
      simpa using hx.symm
    subst hxe
    exact hfl i hlt
theorem cls_of {fuel : Nat} {a0 : Option Addr} {len cap : Nat} {x : DataW H × List MemPlace} (h : DataW.trod enc Tryd.prog W base spare held fuel 25 [.slice a0 len cap] = some x) (hs : Sized 25 x.1) :
    ∃ Q : List (List OpB), Q.length = len ∧ ∀ (i : Nat) l, Q[i]? = some l → (∃ b off A2 c2, a0 = some ⟨b, off, none⟩ ∧ b < W.heap.size ∧ W.cell? ⟨b, off + i, none⟩ = some (.slice A2 l.length c2) ∧ ∀ (j : Nat) o, l[j]? = some o → OpIn W A2 j o) ∧ l.length ≤ 140737488355328 := by
  rcases a0 with _ | a
  · obtain ⟨rfl, _⟩ := (slice_facts Tryd.underlying25 h hs).2.2 rfl
    exact ⟨[], rfl, fun i x hx => by simp at hx⟩
  · obtain ⟨n, _, hel⟩ := slice_each Tryd.underlying25 h hs
    have each : ∀ i, i < len → ∃ l : List OpB, (∃ b off A2 c2, a = ⟨b, off, none⟩ ∧ b < W.heap.size ∧ W.cell? ⟨b, off + i, none⟩ = some (.slice A2 l.length c2) ∧ ∀ (j : Nat) o, l[j]? = some o → OpIn W A2 j o) ∧ l.length ≤ 140737488355328 := fun i hlt => by
      obtain ⟨cs, d, hcs, ht, hsd⟩ := hel i hlt
      rw [cellsOps, Nat.mul_one] at hcs
      obtain ⟨_, hcl, hat⟩ := World.cells?_some hcs
      obtain ⟨c, rfl⟩ := List.length_eq_one_iff.1 hcl
      have h0 := hat 0 (by omega)
      have e : (a.add i).add 0 = a.add i := by simp [Addr.add]
      rw [e] at h0
      obtain ⟨A2, n2, c2, rfl⟩ := slice_is Tryd.underlying43 ht
      obtain ⟨Q, hQ, hQe⟩ := ops_of ht hsd
      have hf := slice_facts Tryd.underlying43 ht hsd
      rw [bytesOp] at hf
      subst hQ
      obtain ⟨_, _, h1, _⟩ := hel 0 (by omega)
      rw [cellsOps] at h1
      obtain ⟨b, off, rfl, hb⟩ := spot_none h1 (by omega)
      rw [add_plain] at h0
      exact ⟨Q, ⟨b, off, A2, c2, rfl, hb, h0, hQe⟩, by omega⟩
    obtain ⟨f, hfl⟩ := Deep.choose_lt each
    refine ⟨(List.range len).map f, by simp, fun i x hx => ?_⟩
    have hlt : i < len := by
      have := (List.getElem?_eq_some_iff.1 hx).1
      simpa using this
    have hxe : x = f i := by
      rw [List.getElem?_map, List.getElem?_range hlt] at hx
      simpa using hx.symm
    subst hxe
    obtain ⟨⟨b, off, A2, c2, h1, h2⟩, h3⟩ := hfl i hlt
    exact ⟨⟨b, off, A2, c2, by rw [h1], h2⟩, h3⟩
theorem cfg_of {fuel : Nat} {cs : List Value} {x : DataW H × List MemPlace} (h : DataW.trod enc Tryd.prog W base spare held fuel 23 cs = some x) : ∃ a b c : Int, cs = [.int .i64 a, .int .i64 b, .int .i64 c] ∧ I64 a ∧ I64 b ∧ I64 c := by
  obtain ⟨xs, m, hfu, hxe, hlen, hxl, hf⟩ := DataW.trod_struct Tryd.underlying23 h
  rw [cellsCfg] at hlen
  obtain ⟨c0, c1, c2, rfl⟩ : ∃ a b c, cs = [a, b, c] := by
    match cs, hlen with
    | [a, b, c], _ => exact ⟨a, b, c, rfl⟩
  obtain ⟨x0, x1, x2, rfl⟩ : ∃ a b c, xs = [a, b, c] := by
    match xs, hxl with
    | [a, b, c], _ => exact ⟨a, b, c, rfl⟩
  have g0 : DataW.trod enc Tryd.prog W base spare held m 3 (([c0, c1, c2].drop 0).take (Tryd.prog.cellsOf 3)) = some x0 := hf 0 _ rfl
  rw [cellsInt] at g0
  have g1 : DataW.trod enc Tryd.prog W base spare held m 3 (([c0, c1, c2].drop 1).take (Tryd.prog.cellsOf 3)) = some x1 := hf 1 _ rfl
  rw [cellsInt] at g1
  have g2 : DataW.trod enc Tryd.prog W base spare held m 3 (([c0, c1, c2].drop 2).take (Tryd.prog.cellsOf 3)) = some x2 := hf 2 _ rfl
  rw [cellsInt] at g2
  obtain ⟨v0, e0, _, b0⟩ := DataW.trod_int Tryd.underlying3 (show DataW.trod enc Tryd.prog W base spare held m 3 [c0] = some x0 from g0)
  obtain ⟨v1, e1, _, b1⟩ := DataW.trod_int Tryd.underlying3 (show DataW.trod enc Tryd.prog W base spare held m 3 [c1] = some x1 from g1)
  obtain ⟨v2, e2, _, b2⟩ := DataW.trod_int Tryd.underlying3 (show DataW.trod enc Tryd.prog W base spare held m 3 [c2] = some x2 from g2)
  injection e0 with e0 _
  injection e1 with e1 _
  injection e2 with e2 _
  subst e0 e1 e2
  exact ⟨v0, v1, v2, rfl, int_i64 b0, int_i64 b1, int_i64 b2⟩
theorem script_of {fuel : Nat} {cs : List Value} {x : DataW H × List MemPlace} (h : DataW.trod enc Tryd.prog W base spare held fuel 28 cs = some x) (hs : Sized 28 x.1) :
    ∃ (S : ScB) (Ai Ac Ap : Option Addr) (ci cc cp : Nat), cs = [.int .i64 S.sh, .int .i64 S.rm, .int .i64 S.cu, .slice Ai S.im.length ci, .slice Ac S.cl.length cc, .slice Ap S.pk.length cp] ∧ Scr W S Ai Ac Ap ∧ Lim S := by
  obtain ⟨xs, m, hfu, hxe, hlen, hxl, hf⟩ := DataW.trod_struct Tryd.underlying28 h
  rw [cellsScr] at hlen
  obtain ⟨c0, c1, c2, c3, c4, c5, rfl⟩ := six_of hlen
  obtain ⟨x0, x1, x2, x3, rfl⟩ : ∃ a b c d, xs = [a, b, c, d] := by
    match xs, hxl with
    | [a, b, c, d], _ => exact ⟨a, b, c, d, rfl⟩
  have sz : ∀ (j : Nat) (t : TypeId) (d : DataW H), ([23, 24, 25, 26] : List TypeId)[j]? = some t → ([x0.1, x1.1, x2.1, x3.1] : List (DataW H))[j]? = some d → Sized t d := fun j t d ht hd k hk => hs k (by
    rw [hxe]
    simp only [DataW.weights, Tryd.underlying28]
    exact DataW.weights_mem_each (j := j) ht hd k hk)
  have g0 : DataW.trod enc Tryd.prog W base spare held m 23 (([c0, c1, c2, c3, c4, c5].drop 0).take (Tryd.prog.cellsOf 23)) = some x0 := hf 0 _ rfl
  rw [cellsCfg] at g0
  have g1 : DataW.trod enc Tryd.prog W base spare held m 24 (([c0, c1, c2, c3, c4, c5].drop 3).take (Tryd.prog.cellsOf 24)) = some x1 := hf 1 _ rfl
  rw [cellsTx] at g1
  have g2 : DataW.trod enc Tryd.prog W base spare held m 25 (([c0, c1, c2, c3, c4, c5].drop 4).take (Tryd.prog.cellsOf 25)) = some x2 := hf 2 _ rfl
  rw [cellsCls] at g2
  have g3 : DataW.trod enc Tryd.prog W base spare held m 26 (([c0, c1, c2, c3, c4, c5].drop 5).take (Tryd.prog.cellsOf 26)) = some x3 := hf 3 _ rfl
  rw [cellsInts] at g3
  replace g0 : DataW.trod enc Tryd.prog W base spare held m 23 [c0, c1, c2] = some x0 := g0
  replace g1 : DataW.trod enc Tryd.prog W base spare held m 24 [c3] = some x1 := g1
  replace g2 : DataW.trod enc Tryd.prog W base spare held m 25 [c4] = some x2 := g2
  replace g3 : DataW.trod enc Tryd.prog W base spare held m 26 [c5] = some x3 := g3
  obtain ⟨sh, rm, cu, e0, i0, i1, i2⟩ := cfg_of g0
  injection e0 with e0 e1
  injection e1 with e1 e2
  injection e2 with e2 _
  subst e0 e1 e2
  obtain ⟨Ai, ni, ci, rfl⟩ := slice_is Tryd.underlying24 g1
  obtain ⟨Ac, nc, cc, rfl⟩ := slice_is Tryd.underlying25 g2
  obtain ⟨Ap, np, cp, rfl⟩ := slice_is Tryd.underlying26 g3
  obtain ⟨im, rfl, him⟩ := txts_of g1 (sz 1 _ _ rfl rfl)
  obtain ⟨cl, rfl, hcl⟩ := cls_of g2 (sz 2 _ _ rfl rfl)
  obtain ⟨pk, rfl, hpk⟩ := ints_of g3 (sz 3 _ _ rfl rfl)
  have f1 := (slice_facts Tryd.underlying24 g1 (sz 1 _ _ rfl rfl)).1
  have f2 := (slice_facts Tryd.underlying25 g2 (sz 2 _ _ rfl rfl)).1
  rw [bytesStr] at f1
  rw [bytesOps] at f2
  refine ⟨⟨sh, rm, cu, im, cl, pk⟩, Ai, Ac, Ap, ci, cc, cp, rfl, ⟨fun i x hx => (him i x hx).1, fun i l hl => ?_, fun i x hx => (hpk i x hx).1⟩, ⟨i0, i1, i2, fun x hx => ?_, fun l hl o ho => ?_, ?_, ?_, fun x hx => ?_, fun l hl => ?_, fun l hl o ho => ?_⟩⟩
  · obtain ⟨⟨b, off, A2, c2, h1, h2, h3, h4⟩, _⟩ := hcl i l hl
    exact ⟨b, off, A2, c2, h1, h2, h3, fun j o ho => (h4 j o ho).1⟩
  · obtain ⟨i, hi⟩ := List.getElem?_of_mem hx
    exact (hpk i x hi).2
  · obtain ⟨i, hi⟩ := List.getElem?_of_mem hl
    obtain ⟨j, hj⟩ := List.getElem?_of_mem ho
    obtain ⟨⟨_, _, _, _, _, _, _, h4⟩, _⟩ := hcl i l hi
    exact (h4 j o hj).2.1
  · show im.length ≤ _
    omega
  · show cl.length ≤ _
    omega
  · obtain ⟨i, hi⟩ := List.getElem?_of_mem hx
    exact (him i x hi).2
  · obtain ⟨i, hi⟩ := List.getElem?_of_mem hl
    exact (hcl i l hi).2
  · obtain ⟨i, hi⟩ := List.getElem?_of_mem hl
    obtain ⟨j, hj⟩ := List.getElem?_of_mem ho
    obtain ⟨⟨_, _, _, _, _, _, _, h4⟩, _⟩ := hcl i l hi
    exact (h4 j o hj).2.2
end
end Go.Proofs.YtfbgnafnpeeonaaDoor.cal
