/- How a slice of extents that came in is read: its extents, two cells each, as a list. No condition. -/
import Derived.Test.YtniklphdnakehaaDoorRows
import Derived.Test.YtniklphdnakehaaDoorExtMem
import Derived.ProofKit
import Derived.OpenShut
import Derived.Deep.Slices
import Derived.SizedLaws
namespace Go.Proofs.YtniklphdnakehaaDoor.ext
set_option maxRecDepth 100000
open Go.ChangeShapes Go.WideShapes Go.RowKit Go.Proofs.YtniklphdnakehaaDoor.words

theorem two {α : Type} {l : List α} (h : l.length = 2) : ∃ a b, l = [a, b] := by
  match l, h with
  | [a, b], _ => exact ⟨a, b, rfl⟩
theorem cellsInt : Tryd.prog.cellsOf 3 = 1 := by kernel_rfl
theorem cellsStr : Tryd.prog.cellsOf 9 = 1 := by kernel_rfl
theorem cellsExt : Tryd.prog.cellsOf 101 = 2 := by kernel_rfl
theorem bytesExt : Tryd.prog.bytesOf 101 = 24 := by kernel_rfl
/-- No text in it is longer than a process holds. -/
def Sized {H : Type} (t : TypeId) (d : DataW H) : Prop := ∀ n ∈ d.weights Tryd.prog t, n ≤ reachBytes
theorem Sized.of_each {H : Type} {ts : List TypeId} {ds : List (DataW H)} (h : (DataW.weightsEach Tryd.prog ts ds).all (· ≤ reachBytes) = true) {j : Nat} {t : TypeId} {d : DataW H} (ht : ts[j]? = some t) (hd : ds[j]? = some d) : Sized t d := fun n hn => by
  have := List.all_eq_true.1 h _ (DataW.weights_mem_each ht hd n hn)
  simpa using this
section
variable {H : Type} {enc : TypeId × Value → H} {W : World} {base : Nat} {spare : Nat → Bool} {held : Bool}
theorem ext_of {fuel : Nat} {cs : List Value} {x : DataW H × List MemPlace} (h : DataW.trod enc Tryd.prog W base spare held fuel 101 cs = some x) (hs : Sized 101 x.1) :
    ∃ y : Ex, cs = [.int .i64 y.O, .string y.D] ∧ -9223372036854775808 ≤ y.O ∧ y.O ≤ 9223372036854775807 ∧ y.D.size ≤ 140737488355328 := by
  obtain ⟨xs, n, _, hxe, hlen, hxl, hf⟩ := DataW.trod_struct Tryd.underlying101 h
  rw [cellsExt] at hlen
  obtain ⟨c0, c1, rfl⟩ := two hlen
  obtain ⟨x0, x1, rfl⟩ := two hxl
  have g0 : DataW.trod enc Tryd.prog W base spare held n 3 (([c0, c1].drop 0).take (Tryd.prog.cellsOf 3)) = some x0 := hf 0 _ rfl
  have g1 : DataW.trod enc Tryd.prog W base spare held n 9 (([c0, c1].drop 1).take (Tryd.prog.cellsOf 9)) = some x1 := hf 1 _ rfl
  rw [cellsInt] at g0
  rw [cellsStr] at g1
  obtain ⟨O, e0, _, wO⟩ := DataW.trod_int Tryd.underlying3 (show DataW.trod enc Tryd.prog W base spare held n 3 [c0] = some x0 from g0)
  obtain ⟨D, e1, e1', _⟩ := DataW.trod_string Tryd.underlying9 (show DataW.trod enc Tryd.prog W base spare held n 9 [c1] = some x1 from g1)
  have hb : -9223372036854775808 ≤ O ∧ O ≤ 9223372036854775807 := by
    simp [Lit.wf, IntKind.min, IntKind.max, IntKind.signed, IntKind.bits] at wO
    omega
  have hD : D.size ≤ 140737488355328 := by
    subst hxe
    have := hs D.data.toList.length (by
      rw [e1']
      simp [DataW.weights, DataW.weightsEach, Tryd.underlying101])
    rw [size_list] at this
    have hr := reachBytes_lt
    omega
  exact ⟨⟨O, D⟩, by simp_all, hb.1, hb.2, hD⟩
theorem weights_of_all {P : Program} {e : TypeId} : ∀ {l : List (DataW H)} {d : DataW H}, d ∈ l → ∀ n ∈ d.weights P e, n ∈ DataW.weightsAll P e l
  | [], _, h, _, _ => by cases h
  | x :: l, d, h, n, hn => by
    simp only [DataW.weightsAll, List.mem_append]
    rcases List.mem_cons.1 h with rfl | h
    · exact .inl hn
    · exact .inr (weights_of_all h n hn)
theorem exts_of {fuel : Nat} {a0 : Option Addr} {len cap : Nat} {x : DataW H × List MemPlace} (h : DataW.trod enc Tryd.prog W base spare held fuel 25 [.slice a0 len cap] = some x) (hs : Sized 25 x.1) :
    ∃ L : List Ex, L.length = len ∧ Exts W W.heap.size a0 L ∧ len ≤ 140737488355328 ∧ len ≤ cap := by
  rcases Deep.open_slice Tryd.underlying25 h with ⟨hc, _⟩ | ⟨a, l, c, m, n, D, Pl, hc, _, hl, hm, hmm, hx, hi⟩
  · simp at hc
    obtain ⟨rfl, rfl, rfl⟩ := hc
    exact ⟨[], rfl, fun i x hx => by simp at hx, by omega, Nat.le_refl _⟩
  · simp at hc
    obtain ⟨rfl, rfl, rfl⟩ := hc
    have hlm : len ≤ m := by rw [hmm]; split <;> omega
    subst hx
    have hw := hs _ (by
      simp only [DataW.weights, Tryd.underlying25]
      exact List.mem_cons_self ..)
    rw [bytesExt, List.length_map, List.length_range, List.length_map, List.length_range] at hw
    have hr := reachBytes_lt
    have each : ∀ i, i < len → ∃ y : Ex, (-9223372036854775808 ≤ y.O ∧ y.O ≤ 9223372036854775807 ∧ y.D.size ≤ 140737488355328) ∧ ∀ j v, ([.int .i64 y.O, .string y.D] : List Value)[j]? = some v → W.cell? ((a.add (i * 2)).add j) = some v := fun i hlt => by
      obtain ⟨cs, hcs, ht⟩ := hi i (by omega)
      rw [cellsExt] at hcs
      have hsi : Sized 101 (D i) := fun k hk => hs k (by
        simp only [DataW.weights, Tryd.underlying25]
        refine List.mem_cons_of_mem _ (List.mem_append_left _ (weights_of_all (d := D i) (List.mem_map.2 ⟨i, List.mem_range.2 hlt, rfl⟩) k hk)))
      obtain ⟨y, rfl, hy⟩ := ext_of ht hsi
      obtain ⟨_, _, hat⟩ := World.cells?_some hcs
      exact ⟨y, hy, fun j v hj => (hat j (by have := (List.getElem?_eq_some_iff.1 hj).1; simpa using this)).trans hj⟩
    obtain ⟨f, hfl⟩ := Deep.choose_lt each
    refine ⟨(List.range len).map f, by simp, fun i x hx => ?_, by omega, hl⟩
    have hlt : i < len := by
      have := (List.getElem?_eq_some_iff.1 hx).1
      simpa using this
    have hxe : x = f i := by
      rw [List.getElem?_map, List.getElem?_range hlt] at hx
      simpa using hx.symm
    subst hxe
    obtain ⟨b, off, spot⟩ := a
    have h0 := (hfl 0 (by omega)).2 0 _ rfl
    have hspot : spot = none := by simpa [Addr.add] using World.cell?_spot h0
    subst hspot
    obtain ⟨hb, hc⟩ := hfl i hlt
    simp only [add_plain] at hc
    have c0 := hc 0 _ rfl
    exact ⟨⟨b, off, rfl, World.block_lt_of_cell? W _ c0, c0, hc 1 _ rfl⟩, hb⟩
end
theorem int_bounds {n : Int} (h : (Lit.int .i64 n).wf = true) : -9223372036854775808 ≤ n ∧ n ≤ 9223372036854775807 := by
  simp [Lit.wf, IntKind.min, IntKind.max, IntKind.signed, IntKind.bits] at h
  omega
end Go.Proofs.YtniklphdnakehaaDoor.ext
