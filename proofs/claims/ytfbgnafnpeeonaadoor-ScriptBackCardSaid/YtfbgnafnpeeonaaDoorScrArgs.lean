/- How what came in is read: a call, an answer. No condition. -/
import Derived.Test.YtfbgnafnpeeonaaDoorScrLaid
import Derived.Test.YtfbgnafnpeeonaaDoorLruRow
import Derived.Test.YtfbgnafnpeeonaaDoorCalRest
import Derived.ProofKit
import Derived.OpenShut
import Derived.Deep.Slices
import Derived.SizedLaws
namespace Go.Proofs.YtfbgnafnpeeonaaDoor.cal
set_option maxRecDepth 100000
open Go.ChangeShapes Go.WideShapes Go.RowKit Go.Proofs.YtfbgnafnpeeonaaDoor.words

def Sized {H : Type} (t : TypeId) (d : DataW H) : Prop := ∀ n ∈ d.weights Tryd.prog t, n ≤ reachBytes
theorem Sized.of_each {H : Type} {ts : List TypeId} {ds : List (DataW H)} (h : (DataW.weightsEach Tryd.prog ts ds).all (· ≤ reachBytes) = true) {j : Nat} {t : TypeId} {d : DataW H} (ht : ts[j]? = some t) (hd : ds[j]? = some d) : Sized t d := fun n hn => by
  have := List.all_eq_true.1 h _ (DataW.weights_mem_each ht hd n hn)
  simpa using this
def Txts (w : World) (B : Nat) (A : Option Addr) (Q : List ByteArray) : Prop := ∀ (i : Nat) x, Q[i]? = some x → (∃ b off, A = some ⟨b, off, none⟩ ∧ b < B ∧ w.cell? ⟨b, off + i, none⟩ = some (.string x)) ∧ x.size ≤ 140737488355328
theorem add_plain (b o j : Nat) : (⟨b, o, none⟩ : Addr).add j = ⟨b, o + j, none⟩ := lru.add_place b o j
section
variable {H : Type} {enc : TypeId × Value → H} {W : World} {base : Nat} {spare : Nat → Bool} {held : Bool}
theorem cellsInt : Tryd.prog.cellsOf 3 = 1 := by kernel_rfl
theorem cellsStr : Tryd.prog.cellsOf 9 = 1 := by kernel_rfl
theorem cellsBool : Tryd.prog.cellsOf 4 = 1 := by kernel_rfl
theorem cellsTx : Tryd.prog.cellsOf 24 = 1 := by kernel_rfl
theorem cellsOp : Tryd.prog.cellsOf 45 = 6 := by kernel_rfl
theorem bytesStr : Tryd.prog.bytesOf 9 = 16 := by kernel_rfl
theorem int_i64 {n : Int} (h : (Lit.int .i64 n).wf = true) : I64 n := by
  simp [Lit.wf, IntKind.min, IntKind.max, IntKind.signed, IntKind.bits] at h
  unfold I64
  omega
theorem weights_of_all {P : Program} {e : TypeId} : ∀ {l : List (DataW H)} {d : DataW H}, d ∈ l → ∀ n ∈ d.weights P e, n ∈ DataW.weightsAll P e l
  | [], _, h, _, _ => by cases h
  | x :: l, d, h, n, hn => by
    simp only [DataW.weightsAll, List.mem_append]
    rcases List.mem_cons.1 h with rfl | h
    · exact .inl hn
    · exact .inr (weights_of_all h n hn)
theorem slice_facts {t e : TypeId} (hu : Tryd.prog.underlying t = some (.slice e)) {fuel : Nat} {a0 : Option Addr} {len cap : Nat} {x : DataW H × List MemPlace} (h : DataW.trod enc Tryd.prog W base spare held fuel t [.slice a0 len cap] = some x) (hs : Sized t x.1) :
    len * Tryd.prog.bytesOf e ≤ 140737488355328 ∧ len ≤ cap ∧ (a0 = none → len = 0 ∧ cap = 0) := by
  rcases DataW.trod_slice hu h with ⟨hc, _⟩ | ⟨a, l, c, elems, rest, n, _, hc, hx, _, hl, _, hlen, _⟩
  · simp at hc
    obtain ⟨rfl, rfl, rfl⟩ := hc
    exact ⟨by omega, Nat.le_refl _, fun _ => ⟨rfl, rfl⟩⟩
  · simp at hc
    obtain ⟨rfl, rfl, rfl⟩ := hc
    subst hx
    have hw := hs _ (by
      simp only [DataW.weights, hu]
      exact List.mem_cons_self ..)
    rw [List.length_map, List.length_map, hlen] at hw
    have hr := reachBytes_lt
    have : len * Tryd.prog.bytesOf e ≤ (len + rest.length) * Tryd.prog.bytesOf e := Nat.mul_le_mul_right _ (Nat.le_add_right _ _)
    exact ⟨by omega, hl, fun h => by cases h⟩
theorem text_size {s : ByteArray} {x : DataW H × List MemPlace} (hx : x.1 = .lit (.string s.data.toList)) (hs : Sized 9 x.1) : s.size ≤ 140737488355328 := by
  have := hs s.data.toList.length (by rw [hx]; simp [DataW.weights])
  rw [size_list] at this
  have hr := reachBytes_lt
  omega
theorem slice_each {t e : TypeId} (hu : Tryd.prog.underlying t = some (.slice e)) {fuel : Nat} {a : Addr} {len cap : Nat} {x : DataW H × List MemPlace} (h : DataW.trod enc Tryd.prog W base spare held fuel t [.slice (some a) len cap] = some x) (hs : Sized t x.1) :
    ∃ n, fuel = n + 1 ∧ ∀ i, i < len → ∃ cs d, W.cells? base (a.add (i * Tryd.prog.cellsOf e)) (Tryd.prog.cellsOf e) = some cs ∧ DataW.trod enc Tryd.prog W base spare held n e cs = some d ∧ Sized e d.1 := by
  rcases DataW.trod_slice hu h with ⟨hc, _⟩ | ⟨a', l, c, elems, rest, n, hfu, hc, hx, _, _, _, hlen, hel, _⟩
  · simp at hc
  · simp at hc
    obtain ⟨rfl, rfl, rfl⟩ := hc
    subst hx
    refine ⟨n, hfu, fun i hi => ?_⟩
    have key := hel i hi
    rw [List.getElem?_eq_getElem (by omega)] at key
    obtain ⟨cs, h1, h2⟩ := Option.bind_eq_some_iff.1 key
    refine ⟨cs, _, h1, h2, fun k hk => hs k ?_⟩
    simp only [DataW.weights, hu]
    exact List.mem_cons_of_mem _ (List.mem_append_left _ (weights_of_all (List.mem_map.2 ⟨_, List.getElem_mem (by omega), rfl⟩) k hk))
theorem txts_of {fuel : Nat} {a0 : Option Addr} {len cap : Nat} {x : DataW H × List MemPlace} (h : DataW.trod enc Tryd.prog W base spare held fuel 24 [.slice a0 len cap] = some x) (hs : Sized 24 x.1) :
    ∃ Q : List ByteArray, Q.length = len ∧ Txts W W.heap.size a0 Q := by
  rcases a0 with _ | a
  · obtain ⟨rfl, _⟩ := (slice_facts Tryd.underlying24 h hs).2.2 rfl
    exact ⟨[], rfl, fun i x hx => by simp at hx⟩
  · obtain ⟨n, _, hel⟩ := slice_each Tryd.underlying24 h hs
    have each : ∀ i, i < len → ∃ y : ByteArray, y.size ≤ 140737488355328 ∧ W.cell? (a.add i) = some (.string y) := fun i hlt => by
      obtain ⟨cs, d, hcs, ht, hsd⟩ := hel i hlt
      rw [cellsStr, Nat.mul_one] at hcs
      obtain ⟨s, rfl, hd, _⟩ := DataW.trod_string Tryd.underlying9 ht
      obtain ⟨_, _, hat⟩ := World.cells?_some hcs
      have h0 := hat 0 (by omega)
      have e : (a.add i).add 0 = a.add i := by simp [Addr.add]
      rw [e] at h0
      exact ⟨s, text_size (by rw [hd]) hsd, h0⟩
    obtain ⟨f, hfl⟩ := Deep.choose_lt each
    refine ⟨(List.range len).map f, by simp, fun i x hx => ?_⟩
    have hlt : i < len := by
      have := (List.getElem?_eq_some_iff.1 hx).1
      simpa using this
    have hxe : x = f i := by
      rw [List.getElem?_map, List.getElem?_range hlt] at hx
      simpa using hx.symm
    subst hxe
    obtain ⟨b, off, spot⟩ := a
    have h0 := (hfl 0 (by omega)).2
    have hspot : spot = none := by simpa [Addr.add] using World.cell?_spot h0
    subst hspot
    have hcell := (hfl i hlt).2
    rw [add_plain] at hcell
    exact ⟨⟨b, off, rfl, World.block_lt_of_cell? W _ hcell, hcell⟩, (hfl i hlt).1⟩
theorem slice_is {t e : TypeId} (hu : Tryd.prog.underlying t = some (.slice e)) {fuel : Nat} {c : Value} {x : DataW H × List MemPlace} (h : DataW.trod enc Tryd.prog W base spare held fuel t [c] = some x) : ∃ a len cap, c = .slice a len cap := by
  rcases DataW.trod_slice hu h with ⟨hc, _⟩ | ⟨a, l, c', _, _, _, _, hc, _⟩
  · exact ⟨_, _, _, by simpa using hc⟩
  · exact ⟨_, _, _, by simpa using hc⟩
theorem six_of {α : Type} {l : List α} (h : l.length = 6) : ∃ a b c d e f, l = [a, b, c, d, e, f] := by
  match l, h with
  | [a, b, c, d, e, f], _ => exact ⟨a, b, c, d, e, f, rfl⟩
theorem op_of {fuel : Nat} {cs : List Value} {x : DataW H × List MemPlace} (h : DataW.trod enc Tryd.prog W base spare held fuel 45 cs = some x) (hs : Sized 45 x.1) :
    ∃ (k : Int) (p : ByteArray) (o n i : Int) (g : ByteArray), cs = [.int .i64 k, .string p, .int .i64 o, .int .i64 n, .int .i64 i, .string g] ∧ I64 o ∧ I64 n ∧ I64 i ∧ p.size ≤ 140737488355328 ∧ g.size ≤ 140737488355328 := by
  obtain ⟨xs, m, hfu, hxe, hlen, hxl, hf⟩ := DataW.trod_struct Tryd.underlying45 h
  rw [cellsOp] at hlen
  obtain ⟨c0, c1, c2, c3, c4, c5, rfl⟩ := six_of hlen
  obtain ⟨x0, x1, x2, x3, x4, x5, rfl⟩ := six_of hxl
  have sz : ∀ (j : Nat) (t : TypeId) (d : DataW H), ([3, 9, 3, 3, 3, 9] : List TypeId)[j]? = some t → ([x0.1, x1.1, x2.1, x3.1, x4.1, x5.1] : List (DataW H))[j]? = some d → Sized t d := fun j t d ht hd k hk => hs k (by
    rw [hxe]
    simp only [DataW.weights, Tryd.underlying45]
    exact DataW.weights_mem_each (j := j) ht hd k hk)
  have g0 : DataW.trod enc Tryd.prog W base spare held m 3 (([c0, c1, c2, c3, c4, c5].drop 0).take (Tryd.prog.cellsOf 3)) = some x0 := hf 0 _ rfl
  rw [cellsInt] at g0
  have g1 : DataW.trod enc Tryd.prog W base spare held m 9 (([c0, c1, c2, c3, c4, c5].drop 1).take (Tryd.prog.cellsOf 9)) = some x1 := hf 1 _ rfl
  rw [cellsStr] at g1
  have g2 : DataW.trod enc Tryd.prog W base spare held m 3 (([c0, c1, c2, c3, c4, c5].drop 2).take (Tryd.prog.cellsOf 3)) = some x2 := hf 2 _ rfl
  rw [cellsInt] at g2
  have g3 : DataW.trod enc Tryd.prog W base spare held m 3 (([c0, c1, c2, c3, c4, c5].drop 3).take (Tryd.prog.cellsOf 3)) = some x3 := hf 3 _ rfl
  rw [cellsInt] at g3
  have g4 : DataW.trod enc Tryd.prog W base spare held m 3 (([c0, c1, c2, c3, c4, c5].drop 4).take (Tryd.prog.cellsOf 3)) = some x4 := hf 4 _ rfl
  rw [cellsInt] at g4
  have g5 : DataW.trod enc Tryd.prog W base spare held m 9 (([c0, c1, c2, c3, c4, c5].drop 5).take (Tryd.prog.cellsOf 9)) = some x5 := hf 5 _ rfl
  rw [cellsStr] at g5
  obtain ⟨v0, e0, _, b0⟩ := DataW.trod_int Tryd.underlying3 (show DataW.trod enc Tryd.prog W base spare held m 3 [c0] = some x0 from g0)
  have w0 := int_i64 b0
  injection e0 with e0 _
  subst e0
  obtain ⟨v1, e1, f1, _⟩ := DataW.trod_string Tryd.underlying9 (show DataW.trod enc Tryd.prog W base spare held m 9 [c1] = some x1 from g1)
  have w1 : v1.size ≤ 140737488355328 := text_size (by rw [f1]) (sz 1 _ _ rfl rfl)
  injection e1 with e1 _
  subst e1
  obtain ⟨v2, e2, _, b2⟩ := DataW.trod_int Tryd.underlying3 (show DataW.trod enc Tryd.prog W base spare held m 3 [c2] = some x2 from g2)
  have w2 := int_i64 b2
  injection e2 with e2 _
  subst e2
  obtain ⟨v3, e3, _, b3⟩ := DataW.trod_int Tryd.underlying3 (show DataW.trod enc Tryd.prog W base spare held m 3 [c3] = some x3 from g3)
  have w3 := int_i64 b3
  injection e3 with e3 _
  subst e3
  obtain ⟨v4, e4, _, b4⟩ := DataW.trod_int Tryd.underlying3 (show DataW.trod enc Tryd.prog W base spare held m 3 [c4] = some x4 from g4)
  have w4 := int_i64 b4
  injection e4 with e4 _
  subst e4
  obtain ⟨v5, e5, f5, _⟩ := DataW.trod_string Tryd.underlying9 (show DataW.trod enc Tryd.prog W base spare held m 9 [c5] = some x5 from g5)
  have w5 : v5.size ≤ 140737488355328 := text_size (by rw [f5]) (sz 5 _ _ rfl rfl)
  injection e5 with e5 _
  subst e5
  exact ⟨v0, v1, v2, v3, v4, v5, rfl, w2, w3, w4, w1, w5⟩
end
end Go.Proofs.YtfbgnafnpeeonaaDoor.cal
