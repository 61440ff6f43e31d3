/- How a node that came in is read: its seven cells, its texts, extents and entries, whatever is in it. No condition. -/
import Derived.Test.YtniklphdnakehaaDoorExtArgs
import Derived.Test.YtniklphdnakehaaDoorTreCell
namespace Go.Proofs.YtniklphdnakehaaDoor.tre
set_option maxRecDepth 100000
open Go.ChangeShapes Go.WideShapes Go.RowKit Go.Proofs.YtniklphdnakehaaDoor.words Go.Proofs.YtniklphdnakehaaDoor.ext Go.Proofs.YtniklphdnakehaaDoor.name

instance : Inhabited Nd := ⟨nd0⟩
instance : Inhabited Raw := ⟨raw0⟩
theorem cellsNode : Tryd.prog.cellsOf 27 = 7 := by kernel_rfl
theorem bytesNode : Tryd.prog.bytesOf 27 = 112 := by kernel_rfl
theorem bytesStr : Tryd.prog.bytesOf 9 = 16 := by kernel_rfl
theorem cellsBool : Tryd.prog.cellsOf 4 = 1 := by kernel_rfl
theorem cellsStrs : Tryd.prog.cellsOf 23 = 1 := by kernel_rfl
theorem cellsNodes : Tryd.prog.cellsOf 24 = 1 := by kernel_rfl
theorem cellsExts : Tryd.prog.cellsOf 25 = 1 := by kernel_rfl
theorem seven {α : Type} {l : List α} (h : l.length = 7) : ∃ a b c d e f g, l = [a, b, c, d, e, f, g] := by
  match l, h with
  | [a, b, c, d, e, f, g], _ => exact ⟨a, b, c, d, e, f, g, rfl⟩
section
variable {H : Type} {enc : TypeId × Value → H} {W : World} {base : Nat} {spare : Nat → Bool} {held : Bool}
theorem slice_facts {t e : TypeId} (hu : Tryd.prog.underlying t = some (.slice e)) {fuel : Nat} {a0 : Option Addr} {len cap : Nat} {x : DataW H × List MemPlace} (h : DataW.trod enc Tryd.prog W base spare held fuel t [.slice a0 len cap] = some x) (hs : Sized t x.1) :
    len * Tryd.prog.bytesOf e ≤ 140737488355328 ∧ len ≤ cap ∧ (a0 = none → len = 0 ∧ cap = 0) := by
  rcases DataW.trod_slice hu h with ⟨hc, _⟩ | ⟨a, l, c, elems, rest, n, _, hc, hx, _, hl, _, hlen, _⟩
  · simp at hc
    obtain ⟨rfl, rfl, rfl⟩ := hc
    exact ⟨by omega, Nat.le_refl _, fun _ => ⟨rfl, rfl⟩⟩
  · simp at hc
    obtain ⟨rfl, rfl, rfl⟩ := hc
    subst hx
    have hw := hs _ (by
      simp only [DataW.weights, hu]
      exact List.mem_cons_self ..)
    rw [List.length_map, List.length_map, hlen] at hw
    have hr := reachBytes_lt
    have : len * Tryd.prog.bytesOf e ≤ (len + rest.length) * Tryd.prog.bytesOf e := Nat.mul_le_mul_right _ (Nat.le_add_right _ _)
    exact ⟨by omega, hl, fun h => by cases h⟩
theorem text_size {s : ByteArray} {x : DataW H × List MemPlace} (hx : x.1 = .lit (.string s.data.toList)) (hs : Sized 9 x.1) : s.size ≤ 140737488355328 := by
  have := hs s.data.toList.length (by rw [hx]; simp [DataW.weights])
  rw [ext.size_list] at this
  have hr := reachBytes_lt
  omega
theorem slice_each {t e : TypeId} (hu : Tryd.prog.underlying t = some (.slice e)) {fuel : Nat} {a : Addr} {len cap : Nat} {x : DataW H × List MemPlace} (h : DataW.trod enc Tryd.prog W base spare held fuel t [.slice (some a) len cap] = some x) (hs : Sized t x.1) :
    ∃ n, fuel = n + 1 ∧ ∀ i, i < len → ∃ cs d, W.cells? base (a.add (i * Tryd.prog.cellsOf e)) (Tryd.prog.cellsOf e) = some cs ∧ DataW.trod enc Tryd.prog W base spare held n e cs = some d ∧ Sized e d.1 := by
  rcases DataW.trod_slice hu h with ⟨hc, _⟩ | ⟨a', l, c, elems, rest, n, hfu, hc, hx, _, _, _, hlen, hel, _⟩
  · simp at hc
  · simp at hc
    obtain ⟨rfl, rfl, rfl⟩ := hc
    subst hx
    refine ⟨n, hfu, fun i hi => ?_⟩
    have key := hel i hi
    rw [List.getElem?_eq_getElem (by omega)] at key
    obtain ⟨cs, h1, h2⟩ := Option.bind_eq_some_iff.1 key
    refine ⟨cs, _, h1, h2, fun k hk => hs k ?_⟩
    simp only [DataW.weights, hu]
    exact List.mem_cons_of_mem _ (List.mem_append_left _ (weights_of_all (List.mem_map.2 ⟨_, List.getElem_mem (by omega), rfl⟩) k hk))
theorem txts_of {fuel : Nat} {a0 : Option Addr} {len cap : Nat} {x : DataW H × List MemPlace} (h : DataW.trod enc Tryd.prog W base spare held fuel 23 [.slice a0 len cap] = some x) (hs : Sized 23 x.1) :
    ∃ Q : List ByteArray, Q.length = len ∧ Txts W W.heap.size a0 Q := by
  rcases a0 with _ | a
  · obtain ⟨rfl, _⟩ := (slice_facts Tryd.underlying23 h hs).2.2 rfl
    exact ⟨[], rfl, fun i x hx => by simp at hx⟩
  · obtain ⟨n, _, hel⟩ := slice_each Tryd.underlying23 h hs
    have each : ∀ i, i < len → ∃ y : ByteArray, y.size ≤ 140737488355328 ∧ W.cell? (a.add i) = some (.string y) := fun i hlt => by
      obtain ⟨cs, d, hcs, ht, hsd⟩ := hel i hlt
      rw [cellsStr, Nat.mul_one] at hcs
      obtain ⟨s, rfl, hd, _⟩ := DataW.trod_string Tryd.underlying9 ht
      obtain ⟨_, _, hat⟩ := World.cells?_some hcs
      have h0 := hat 0 (by omega)
      have e : (a.add i).add 0 = a.add i := by simp [Addr.add]
      rw [e] at h0
      exact ⟨s, text_size (by rw [hd]) hsd, h0⟩
    obtain ⟨f, hfl⟩ := Deep.choose_lt each
    refine ⟨(List.range len).map f, by simp, fun i x hx => ?_⟩
    have hlt : i < len := by
      have := (List.getElem?_eq_some_iff.1 hx).1
      simpa using this
    have hxe : x = f i := by
      rw [List.getElem?_map, List.getElem?_range hlt] at hx
      simpa using hx.symm
    subst hxe
    obtain ⟨b, off, spot⟩ := a
    have h0 := (hfl 0 (by omega)).2
    have hspot : spot = none := by simpa [Addr.add] using World.cell?_spot h0
    subst hspot
    have hcell := (hfl i hlt).2
    rw [add_plain] at hcell
    exact ⟨⟨b, off, rfl, World.block_lt_of_cell? W _ hcell, hcell⟩, (hfl i hlt).1⟩
theorem slice_is {t e : TypeId} (hu : Tryd.prog.underlying t = some (.slice e)) {fuel : Nat} {c : Value} {x : DataW H × List MemPlace} (h : DataW.trod enc Tryd.prog W base spare held fuel t [c] = some x) : ∃ a len cap, c = .slice a len cap := by
  rcases DataW.trod_slice hu h with ⟨hc, _⟩ | ⟨a, l, c', _, _, _, _, hc, _⟩
  · exact ⟨_, _, _, by simpa using hc⟩
  · exact ⟨_, _, _, by simpa using hc⟩
theorem node_of : ∀ (fuel : Nat) (cs : List Value) (x : DataW H × List MemPlace), DataW.trod enc Tryd.prog W base spare held fuel 27 cs = some x → Sized 27 x.1 → ∃ n r, cs = (rawCells n r).toList ∧ NdAt W W.heap.size n r := by
  intro fuel
  induction fuel using Nat.strongRecOn with
  | ind fuel ih =>
    intro cs x h hs
    obtain ⟨xs, m, hfu, hxe, hlen, hxl, hf⟩ := DataW.trod_struct Tryd.underlying27 h
    rw [cellsNode] at hlen
    obtain ⟨c0, c1, c2, c3, c4, c5, c6, rfl⟩ := seven hlen
    obtain ⟨x0, x1, x2, x3, x4, x5, x6, rfl⟩ := seven hxl
    have sz : ∀ (j : Nat) (t : TypeId) (d : DataW H), ([3, 4, 23, 24, 3, 25, 9] : List TypeId)[j]? = some t → ([x0.1, x1.1, x2.1, x3.1, x4.1, x5.1, x6.1] : List (DataW H))[j]? = some d → Sized t d := fun j t d ht hd k hk => hs k (by
      rw [hxe]
      simp only [DataW.weights, Tryd.underlying27]
      exact DataW.weights_mem_each (j := j) ht hd k hk)
    have g0 : DataW.trod enc Tryd.prog W base spare held m 3 (([c0, c1, c2, c3, c4, c5, c6].drop 0).take (Tryd.prog.cellsOf 3)) = some x0 := hf 0 _ rfl
    have g1 : DataW.trod enc Tryd.prog W base spare held m 4 (([c0, c1, c2, c3, c4, c5, c6].drop 1).take (Tryd.prog.cellsOf 4)) = some x1 := hf 1 _ rfl
    have g2 : DataW.trod enc Tryd.prog W base spare held m 23 (([c0, c1, c2, c3, c4, c5, c6].drop 2).take (Tryd.prog.cellsOf 23)) = some x2 := hf 2 _ rfl
    have g3 : DataW.trod enc Tryd.prog W base spare held m 24 (([c0, c1, c2, c3, c4, c5, c6].drop 3).take (Tryd.prog.cellsOf 24)) = some x3 := hf 3 _ rfl
    have g4 : DataW.trod enc Tryd.prog W base spare held m 3 (([c0, c1, c2, c3, c4, c5, c6].drop 4).take (Tryd.prog.cellsOf 3)) = some x4 := hf 4 _ rfl
    have g5 : DataW.trod enc Tryd.prog W base spare held m 25 (([c0, c1, c2, c3, c4, c5, c6].drop 5).take (Tryd.prog.cellsOf 25)) = some x5 := hf 5 _ rfl
    have g6 : DataW.trod enc Tryd.prog W base spare held m 9 (([c0, c1, c2, c3, c4, c5, c6].drop 6).take (Tryd.prog.cellsOf 9)) = some x6 := hf 6 _ rfl
    rw [cellsInt] at g0 g4
    rw [cellsBool] at g1
    rw [cellsStrs] at g2
    rw [cellsNodes] at g3
    rw [cellsExts] at g5
    rw [cellsStr] at g6
    obtain ⟨K, e0, _, wK⟩ := DataW.trod_int Tryd.underlying3 (show DataW.trod enc Tryd.prog W base spare held m 3 [c0] = some x0 from g0)
    obtain ⟨O, e1, _⟩ := DataW.trod_bool Tryd.underlying4 (show DataW.trod enc Tryd.prog W base spare held m 4 [c1] = some x1 from g1)
    obtain ⟨An, ln, cn, rfl⟩ := slice_is Tryd.underlying23 (show DataW.trod enc Tryd.prog W base spare held m 23 [c2] = some x2 from g2)
    obtain ⟨Ai, li, ci, rfl⟩ := slice_is Tryd.underlying24 (show DataW.trod enc Tryd.prog W base spare held m 24 [c3] = some x3 from g3)
    obtain ⟨S, e4, _, wS⟩ := DataW.trod_int Tryd.underlying3 (show DataW.trod enc Tryd.prog W base spare held m 3 [c4] = some x4 from g4)
    obtain ⟨Ae, le, ce, rfl⟩ := slice_is Tryd.underlying25 (show DataW.trod enc Tryd.prog W base spare held m 25 [c5] = some x5 from g5)
    obtain ⟨T, e6, e6', _⟩ := DataW.trod_string Tryd.underlying9 (show DataW.trod enc Tryd.prog W base spare held m 9 [c6] = some x6 from g6)
    have g2' : DataW.trod enc Tryd.prog W base spare held m 23 [.slice An ln cn] = some x2 := g2
    have g3' : DataW.trod enc Tryd.prog W base spare held m 24 [.slice Ai li ci] = some x3 := g3
    have g5' : DataW.trod enc Tryd.prog W base spare held m 25 [.slice Ae le ce] = some x5 := g5
    have s2 := sz 2 _ _ rfl rfl
    have s3 := sz 3 _ _ rfl rfl
    have s5 := sz 5 _ _ rfl rfl
    have s6 := sz 6 _ _ rfl rfl
    obtain ⟨N, rfl, hN⟩ := txts_of g2' s2
    obtain ⟨E, rfl, hE, _⟩ := exts_of g5' s5
    obtain ⟨n1, n2, n3⟩ := slice_facts Tryd.underlying23 g2' s2
    obtain ⟨i1, i2, i3⟩ := slice_facts Tryd.underlying24 g3' s3
    obtain ⟨p1, p2, p3⟩ := slice_facts Tryd.underlying25 g5' s5
    rw [bytesStr] at n1
    rw [bytesNode] at i1
    rw [bytesExt] at p1
    have hT : T.size ≤ 140737488355328 := text_size (by rw [e6']) s6
    have hKb := int_bounds wK
    have hSb := int_bounds wS
    obtain ⟨I, hIl, rs, hcell, hit⟩ : ∃ I : List Nd, I.length = li ∧ ∃ rs : Nat → Raw, (∀ (i : Nat) (x : Nd), I[i]? = some x → ∃ b off, Ai = some ⟨b, off, none⟩ ∧ b < W.heap.size ∧ ∀ j v, (rawCells x (rs i))[j]? = some v → W.cell? ⟨b, off + i * 7 + j, none⟩ = some v) ∧ ∀ (i : Nat) (x : Nd), I[i]? = some x → NdAt W W.heap.size x (rs i) := by
      rcases Ai with _ | a
      · obtain ⟨rfl, _⟩ := i3 rfl
        exact ⟨[], rfl, fun _ => raw0, fun i x hx => by simp at hx, fun i x hx => by simp at hx⟩
      · obtain ⟨k, hk, hel⟩ := slice_each Tryd.underlying24 g3' s3
        have each : ∀ i, i < li → ∃ y : Nd × Raw, NdAt W W.heap.size y.1 y.2 ∧ ∀ j v, (rawCells y.1 y.2)[j]? = some v → W.cell? ((a.add (i * 7)).add j) = some v := fun i hlt => by
          obtain ⟨cs, d, hcs, ht, hsd⟩ := hel i hlt
          rw [cellsNode] at hcs
          obtain ⟨y, ry, rfl, hy⟩ := ih k (by omega) cs d ht hsd
          obtain ⟨_, _, hat⟩ := World.cells?_some hcs
          exact ⟨(y, ry), hy, fun j v hj => (hat j (by have := (Array.getElem?_eq_some_iff.1 hj).1; exact this)).trans (by rw [Array.getElem?_toList]; exact hj)⟩
        obtain ⟨f, hfl⟩ := Deep.choose_lt each
        have at_ : ∀ (i : Nat) (x : Nd), ((List.range li).map fun i => (f i).1)[i]? = some x → i < li ∧ x = (f i).1 := fun i x hx => by
          have hlt : i < li := by
            have := (List.getElem?_eq_some_iff.1 hx).1
            simpa using this
          rw [List.getElem?_map, List.getElem?_range hlt] at hx
          exact ⟨hlt, by simpa using hx.symm⟩
        refine ⟨(List.range li).map fun i => (f i).1, by simp, fun i => (f i).2, fun i x hx => ?_, fun i x hx => ?_⟩
        · obtain ⟨hlt, rfl⟩ := at_ i x hx
          obtain ⟨b, off, spot⟩ := a
          have h0 := (hfl 0 (by omega)).2 0 _ rfl
          have hspot : spot = none := by simpa [Addr.add] using World.cell?_spot h0
          subst hspot
          obtain ⟨_, hc⟩ := hfl i hlt
          simp only [add_plain] at hc
          exact ⟨b, off, rfl, World.block_lt_of_cell? W _ (hc 0 _ rfl), hc⟩
        · obtain ⟨hlt, rfl⟩ := at_ i x hx
          exact (hfl i hlt).1
    subst hIl
    refine ⟨.mk K O N I S E T, ⟨An, cn, Ai, ci, Ae, ce⟩, by simp_all [rawCells, Nd.K, Nd.O, Nd.N, Nd.I, Nd.S, Nd.E, Nd.T], .mk rs ⟨hKb.1, hKb.2, hSb.1, hSb.2, hT, n1, i1, p1, n2, i2, p2, n3, i3, p3⟩ hN hE hcell hit⟩
end
end Go.Proofs.YtniklphdnakehaaDoor.tre
