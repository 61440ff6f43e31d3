/- How rows of texts that came in are read. No condition. -/
import Derived.Test.YtdibdbadoigfoaaRows
import Derived.Test.YtdibdbadoigfoaaHeapMerge
import Derived.ProofKit
import Derived.OpenShut
import Derived.Deep.Slices
import Derived.SizedLaws
namespace Go.Proofs.Ytdibdbadoigfoaa.heap
set_option maxRecDepth 100000
open Go.ChangeShapes Go.WideShapes Go.RowKit Go.Proofs.Ytdibdbadoigfoaa.words

def Sml (l : List ByteArray) : Prop := ∀ s ∈ l, s.size ≤ 140737488355328
theorem cellsStr : Try.prog.cellsOf 9 = 1 := by kernel_rfl
theorem cellsStrs : Try.prog.cellsOf 24 = 1 := by kernel_rfl
theorem bytesStr : Try.prog.bytesOf 9 = 16 := by kernel_rfl
theorem bytesStrs : Try.prog.bytesOf 24 = 24 := by kernel_rfl
theorem add_plain (b off i : Nat) : (⟨b, off, none⟩ : Addr).add i = ⟨b, off + i, none⟩ := by unfold Addr.add; split <;> simp_all
theorem size_text (s : ByteArray) : s.data.toList.length = s.size := by rw [Array.length_toList]; rfl
/-- No text in it is longer than a process holds. -/
def Sized {H : Type} (t : TypeId) (d : DataW H) : Prop := ∀ n ∈ d.weights Try.prog t, n ≤ reachBytes
theorem Sized.of_each {H : Type} {ts : List TypeId} {ds : List (DataW H)} (h : (DataW.weightsEach Try.prog ts ds).all (· ≤ reachBytes) = true) {j : Nat} {t : TypeId} {d : DataW H} (ht : ts[j]? = some t) (hd : ds[j]? = some d) : Sized t d := fun n hn => by
  have := List.all_eq_true.1 h _ (DataW.weights_mem_each ht hd n hn)
  simpa using this
section
variable {H : Type} {enc : TypeId × Value → H} {W : World} {base : Nat} {spare : Nat → Bool} {held : Bool}
theorem weights_of_all {P : Program} {e : TypeId} : ∀ {l : List (DataW H)} {d : DataW H}, d ∈ l → ∀ n ∈ d.weights P e, n ∈ DataW.weightsAll P e l
  | [], _, h, _, _ => by cases h
  | x :: l, d, h, n, hn => by
    simp only [DataW.weightsAll, List.mem_append]
    rcases List.mem_cons.1 h with rfl | h
    · exact .inl hn
    · exact .inr (weights_of_all h n hn)
theorem slice_facts {t e : TypeId} (hu : Try.prog.underlying t = some (.slice e)) {fuel : Nat} {a0 : Option Addr} {len cap : Nat} {x : DataW H × List MemPlace} (h : DataW.trod enc Try.prog W base spare held fuel t [.slice a0 len cap] = some x) (hs : Sized t x.1) :
    len * Try.prog.bytesOf e ≤ 140737488355328 ∧ len ≤ cap ∧ cap ≤ maxLen ∧ (a0 = none → len = 0 ∧ cap = 0) := by
  rcases DataW.trod_slice hu h with ⟨hc, _⟩ | ⟨a, l, c, elems, rest, n, _, hc, hx, _, hl, hm, hlen, _⟩
  · simp at hc
    obtain ⟨rfl, rfl, rfl⟩ := hc
    exact ⟨by omega, Nat.le_refl _, by unfold maxLen; omega, fun _ => ⟨rfl, rfl⟩⟩
  · simp at hc
    obtain ⟨rfl, rfl, rfl⟩ := hc
    subst hx
    have hw := hs _ (by
      simp only [DataW.weights, hu]
      exact List.mem_cons_self ..)
    rw [List.length_map, List.length_map, hlen] at hw
    have hr := reachBytes_lt
    have : len * Try.prog.bytesOf e ≤ (len + rest.length) * Try.prog.bytesOf e := Nat.mul_le_mul_right _ (Nat.le_add_right _ _)
    exact ⟨by omega, hl, hm, fun h => by cases h⟩
theorem text_size {s : ByteArray} {x : DataW H × List MemPlace} (hx : x.1 = .lit (.string s.data.toList)) (hs : Sized 9 x.1) : s.size ≤ 140737488355328 := by
  have := hs s.data.toList.length (by rw [hx]; simp [DataW.weights])
  rw [size_text] at this
  have hr := reachBytes_lt
  omega
theorem slice_each {t e : TypeId} (hu : Try.prog.underlying t = some (.slice e)) {fuel : Nat} {a : Addr} {len cap : Nat} {x : DataW H × List MemPlace} (h : DataW.trod enc Try.prog W base spare held fuel t [.slice (some a) len cap] = some x) (hs : Sized t x.1) :
    ∃ n, fuel = n + 1 ∧ ∀ i, i < len → ∃ cs d, W.cells? base (a.add (i * Try.prog.cellsOf e)) (Try.prog.cellsOf e) = some cs ∧ DataW.trod enc Try.prog W base spare held n e cs = some d ∧ Sized e d.1 := by
  rcases DataW.trod_slice hu h with ⟨hc, _⟩ | ⟨a', l, c, elems, rest, n, hfu, hc, hx, _, _, _, hlen, hel, _⟩
  · simp at hc
  · simp at hc
    obtain ⟨rfl, rfl, rfl⟩ := hc
    subst hx
    refine ⟨n, hfu, fun i hi => ?_⟩
    have key := hel i hi
    rw [List.getElem?_eq_getElem (by omega)] at key
    obtain ⟨cs, h1, h2⟩ := Option.bind_eq_some_iff.1 key
    refine ⟨cs, _, h1, h2, fun k hk => hs k ?_⟩
    simp only [DataW.weights, hu]
    exact List.mem_cons_of_mem _ (List.mem_append_left _ (weights_of_all (List.mem_map.2 ⟨_, List.getElem_mem (by omega), rfl⟩) k hk))
theorem slice_is {t e : TypeId} (hu : Try.prog.underlying t = some (.slice e)) {fuel : Nat} {c : Value} {x : DataW H × List MemPlace} (h : DataW.trod enc Try.prog W base spare held fuel t [c] = some x) : ∃ a len cap, c = .slice a len cap := by
  rcases DataW.trod_slice hu h with ⟨hc, _⟩ | ⟨a, l, c', _, _, _, _, hc, _⟩
  · exact ⟨_, _, _, by simpa using hc⟩
  · exact ⟨_, _, _, by simpa using hc⟩
theorem row_of {fuel : Nat} {a0 : Option Addr} {len cap : Nat} {x : DataW H × List MemPlace} (h : DataW.trod enc Try.prog W base spare held fuel 24 [.slice a0 len cap] = some x) (hs : Sized 24 x.1) :
    ∃ Q : List ByteArray, Q.length = len ∧ Row W W.heap.size a0 Q ∧ Sml Q ∧ len ≤ cap ∧ cap ≤ maxLen ∧ len ≤ 140737488355328 := by
  obtain ⟨f1, f2, f3, f4⟩ := slice_facts Try.underlying24 h hs
  rw [bytesStr] at f1
  rcases a0 with _ | a
  · obtain ⟨rfl, _⟩ := f4 rfl
    exact ⟨[], rfl, fun i x hx => by simp at hx, fun s hs => by simp at hs, f2, f3, by omega⟩
  · obtain ⟨n, _, hel⟩ := slice_each Try.underlying24 h hs
    have each : ∀ i, i < len → ∃ y : ByteArray, y.size ≤ 140737488355328 ∧ W.cell? (a.add i) = some (.string y) := fun i hlt => by
      obtain ⟨cs, d, hcs, ht, hsd⟩ := hel i hlt
      rw [cellsStr, Nat.mul_one] at hcs
      obtain ⟨s, rfl, hd, _⟩ := DataW.trod_string Try.underlying9 ht
      obtain ⟨_, _, hat⟩ := World.cells?_some hcs
      have h0 := hat 0 (by omega)
      have e : (a.add i).add 0 = a.add i := by simp [Addr.add]
      rw [e] at h0
      exact ⟨s, text_size (by rw [hd]) hsd, h0⟩
    obtain ⟨f, hfl⟩ := Deep.choose_lt each
    have key : ∀ (i : Nat) (x : ByteArray), ((List.range len).map f)[i]? = some x → i < len ∧ x = f i := fun i x hx => by
      have hlt : i < len := by
        have := (List.getElem?_eq_some_iff.1 hx).1
        simpa using this
      rw [List.getElem?_map, List.getElem?_range hlt] at hx
      exact ⟨hlt, by simpa using hx.symm⟩
    refine ⟨(List.range len).map f, by simp, fun i x hx => ?_, fun s hs => ?_, f2, f3, by omega⟩
    · obtain ⟨hlt, rfl⟩ := key i x hx
      obtain ⟨b, off, spot⟩ := a
      have h0 := (hfl 0 (by omega)).2
      have hspot : spot = none := by simpa [Addr.add] using World.cell?_spot h0
      subst hspot
      have hcell := (hfl i hlt).2
      rw [add_plain] at hcell
      exact ⟨b, off, rfl, World.block_lt_of_cell? W _ hcell, hcell⟩
    · obtain ⟨i, hi2, rfl⟩ := List.mem_map.1 hs
      exact (hfl i (List.mem_range.1 hi2)).1
instance : Inhabited (Option Addr × Nat × List ByteArray) := ⟨none, 0, []⟩
theorem rows_of {fuel : Nat} {a0 : Option Addr} {len cap : Nat} {x : DataW H × List MemPlace} (h : DataW.trod enc Try.prog W base spare held fuel 22 [.slice a0 len cap] = some x) (hs : Sized 22 x.1) :
    ∃ L : List (List ByteArray), L.length = len ∧ Rws W W.heap.size a0 L ∧ (∀ l ∈ L, Sml l ∧ l.length ≤ 4611686018427387904) ∧ len ≤ 140737488355328 ∧ len ≤ cap ∧ cap ≤ maxLen := by
  obtain ⟨f1, f2, f3, f4⟩ := slice_facts Try.underlying22 h hs
  rw [bytesStrs] at f1
  rcases a0 with _ | a
  · obtain ⟨rfl, _⟩ := f4 rfl
    exact ⟨[], rfl, fun i x hx => by simp at hx, fun s hs => by simp at hs, by omega, f2, f3⟩
  · obtain ⟨n, _, hel⟩ := slice_each Try.underlying22 h hs
    have each : ∀ i, i < len → ∃ y : Option Addr × Nat × List ByteArray, (Row W W.heap.size y.1 y.2.2 ∧ Sml y.2.2 ∧ y.2.2.length ≤ y.2.1 ∧ y.2.1 ≤ maxLen ∧ y.2.2.length ≤ 4611686018427387904) ∧ W.cell? (a.add i) = some (.slice y.1 y.2.2.length y.2.1) := fun i hlt => by
      obtain ⟨cs, d, hcs, ht, hsd⟩ := hel i hlt
      rw [cellsStrs, Nat.mul_one] at hcs
      obtain ⟨_, hl, hat⟩ := World.cells?_some hcs
      obtain ⟨c, rfl⟩ := List.length_eq_one_iff.1 hl
      obtain ⟨A1, l1, c1, rfl⟩ := slice_is Try.underlying24 ht
      obtain ⟨Q, rfl, q1, q2, q3, q4, q5⟩ := row_of ht hsd
      have h0 := hat 0 (by omega)
      have e : (a.add i).add 0 = a.add i := by simp [Addr.add]
      rw [e] at h0
      exact ⟨(A1, c1, Q), ⟨q1, q2, q3, q4, by show Q.length ≤ _; omega⟩, h0⟩
    obtain ⟨f, hfl⟩ := Deep.choose_lt each
    have key : ∀ (i : Nat) (x : List ByteArray), ((List.range len).map fun i => (f i).2.2)[i]? = some x → i < len ∧ x = (f i).2.2 := fun i x hx => by
      have hlt : i < len := by
        have := (List.getElem?_eq_some_iff.1 hx).1
        simpa using this
      rw [List.getElem?_map, List.getElem?_range hlt] at hx
      exact ⟨hlt, by simpa using hx.symm⟩
    refine ⟨(List.range len).map fun i => (f i).2.2, by simp, fun i x hx => ?_, fun l hl => ?_, by omega, f2, f3⟩
    · obtain ⟨hlt, rfl⟩ := key i x hx
      obtain ⟨b, off, spot⟩ := a
      have h0 := (hfl 0 (by omega)).2
      have hspot : spot = none := by simpa [Addr.add] using World.cell?_spot h0
      subst hspot
      obtain ⟨⟨q1, _, q3, q4, _⟩, hcell⟩ := hfl i hlt
      rw [add_plain] at hcell
      exact ⟨b, off, _, _, rfl, World.block_lt_of_cell? W _ hcell, hcell, q1, q3, q4⟩
    · obtain ⟨i, hi2, rfl⟩ := List.mem_map.1 hl
      obtain ⟨⟨_, q2, _, _, q5⟩, _⟩ := hfl i (List.mem_range.1 hi2)
      exact ⟨q2, q5⟩
end
end Go.Proofs.Ytdibdbadoigfoaa.heap
