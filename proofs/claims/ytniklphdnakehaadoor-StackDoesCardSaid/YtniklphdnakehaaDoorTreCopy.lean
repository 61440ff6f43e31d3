/- What the library's Clone answers of rows of texts, of extents, and of nodes: a row of its own with the same cells. Conditions: the row is one that was read. -/
import Derived.Test.YtniklphdnakehaaDoorTreRSame
import Derived.Lib.LazyBuf
import Derived.Test.YtniklphdnakehaaDoorExtRefRead
import Derived.Deep.AppendLies
namespace Go.Proofs.YtniklphdnakehaaDoor.tre
set_option maxRecDepth 100000
open Go.RowKit Go.Proofs.YtniklphdnakehaaDoor.words Go.Proofs.YtniklphdnakehaaDoor.ext Go.Proofs.YtniklphdnakehaaDoor.name

/-! What lies in certain blocks -/
def TxtIn (w : World) (P : Nat → Prop) (A : Option Addr) (Q : List ByteArray) : Prop :=
  ∀ i x, Q[i]? = some x → (∃ b off, A = some ⟨b, off, none⟩ ∧ P b ∧ w.cell? ⟨b, off + i, none⟩ = some (.string x)) ∧ x.size ≤ 140737488355328
def ExtIn (w : World) (P : Nat → Prop) (A : Option Addr) (L : List Ex) : Prop :=
  ∀ i x, L[i]? = some x → (∃ b off, A = some ⟨b, off, none⟩ ∧ P b ∧ w.cell? ⟨b, off + i * 2, none⟩ = some (.int .i64 x.O) ∧ w.cell? ⟨b, off + i * 2 + 1, none⟩ = some (.string x.D)) ∧
    -9223372036854775808 ≤ x.O ∧ x.O ≤ 9223372036854775807 ∧ x.D.size ≤ 140737488355328
inductive NdIn (w : World) (P : Nat → Prop) : Nd → Raw → Prop
  | mk {n : Nd} {r : Raw} (rs : Nat → Raw) (fit : Fit n r) (names : TxtIn w P r.An n.N) (exts : ExtIn w P r.Ae n.E)
      (cells : ∀ i x, n.I[i]? = some x → ∃ b off, r.Ai = some ⟨b, off, none⟩ ∧ P b ∧ ∀ j v, (rawCells x (rs i))[j]? = some v → w.cell? ⟨b, off + i * 7 + j, none⟩ = some v)
      (items : ∀ i x, n.I[i]? = some x → NdIn w P x (rs i)) : NdIn w P n r
theorem NdIn.keep {w w' : World} {P P' : Nat → Prop} {n : Nd} {r : Raw} (h : NdIn w P n r) (hk : ∀ b, P b → w'.heap[b]? = w.heap[b]? ∧ P' b) : NdIn w' P' n r := by
  have hc : ∀ b o, P b → w'.cell? ⟨b, o, none⟩ = w.cell? ⟨b, o, none⟩ := fun b o hb => World.cell?_of_block (hk b hb).1
  induction h with
  | mk rs fit names exts cells items ih =>
    refine .mk rs fit (fun i x hx => ?_) (fun i x hx => ?_) (fun i x hx => ?_) ih
    · obtain ⟨⟨b, off, h1, h2, h3⟩, h4⟩ := names i x hx
      exact ⟨⟨b, off, h1, (hk b h2).2, (hc b _ h2).trans h3⟩, h4⟩
    · obtain ⟨⟨b, off, h1, h2, h3, h3'⟩, h4⟩ := exts i x hx
      exact ⟨⟨b, off, h1, (hk b h2).2, (hc b _ h2).trans h3, (hc b _ h2).trans h3'⟩, h4⟩
    · obtain ⟨b, off, h1, h2, h3⟩ := cells i x hx
      exact ⟨b, off, h1, (hk b h2).2, fun j v hj => (hc b _ h2).trans (h3 j v hj)⟩
theorem NdIn.at_ {w : World} {P : Nat → Prop} {B : Nat} {n : Nd} {r : Raw} (h : NdIn w P n r) (hP : ∀ b, P b → b < B) : NdAt w B n r := by
  induction h with
  | mk rs fit names exts cells items ih =>
    refine .mk rs fit (fun i x hx => ?_) (fun i x hx => ?_) (fun i x hx => ?_) ih
    · obtain ⟨⟨b, off, h1, h2, h3⟩, h4⟩ := names i x hx
      exact ⟨⟨b, off, h1, hP b h2, h3⟩, h4⟩
    · obtain ⟨⟨b, off, h1, h2, h3, h3'⟩, h4⟩ := exts i x hx
      exact ⟨⟨b, off, h1, hP b h2, h3, h3'⟩, h4⟩
    · obtain ⟨b, off, h1, h2, h3⟩ := cells i x hx
      exact ⟨b, off, h1, hP b h2, h3⟩

/-! Rows as cells -/
/-- The cells behind a slice's address. -/
def Lies (w : World) (A : Option Addr) (xs : List Value) : Prop := ∀ j u, xs[j]? = some u → ∃ b off, A = some ⟨b, off, none⟩ ∧ b < w.heap.size ∧ w.cell? ⟨b, off + j, none⟩ = some u
def ndCells (L : List Nd) (rs : Nat → Raw) : List Value := (List.range L.length).flatMap fun i => match L[i]? with | some x => (rawCells x (rs i)).toList | none => []
/-- What Clone hands back. -/
def Copied (E : TypeId) (size n : Nat) (xs : List Value) (w : World) (e : Ending) (w' : World) : Prop :=
  (∃ A c, e = .returned (.slice A n c) ∧ n ≤ c ∧ (A = none → n = 0 ∧ c = 0) ∧ w'.ownsRow w.heap.size E size (.slice A n c) n xs) ∧ Below w.heap.size w w'
theorem own_facts {w : World} {B : Nat} {E : TypeId} {size n : Nat} {v : Value} {xs : List Value} (h : w.ownsRow B E size v n xs) : ∃ A c, v = .slice A n c ∧ n ≤ c ∧ (A = none → n = 0 ∧ c = 0) := by
  rcases h.2 with ⟨rfl, rfl⟩ | ⟨g, cap, cur, rfl, _, _, hle, _⟩
  · exact ⟨none, 0, rfl, Nat.le_refl _, fun _ => ⟨rfl, rfl⟩⟩
  · exact ⟨_, cap, rfl, hle, fun h => by cases h⟩
theorem add_place (b off j : Nat) : (⟨b, off, none⟩ : Addr).add j = ⟨b, off + j, none⟩ := by unfold Addr.add; split <;> simp_all

set_option maxHeartbeats 1600000 in
theorem copy_txt (A : Option Addr) (n c : Nat) (xs : List Value) (w : World) (hN : Lies w A xs) (hz : A = none → n = 0 ∧ c = 0) (hl : n * 16 ≤ 140737488355328) (hlen : xs.length = n * 1) (hone : ∀ u ∈ xs, u.oneCell' = true) :
    Calls Tryd.prog 75 #[.slice A n c] w (Copied 9 1 n xs w) := by
  have hi0 : (Tryd.prog.info? 9).map (fun i => (i.zero, i.size, i.bytes)) = some (some (.string ⟨#[]⟩), 1, 16) := by kernel_rfl
  obtain ⟨i0, hi, hz0, hz1, hz2⟩ := info_parts hi0
  rcases A with _ | ad
  · obtain ⟨rfl, rfl⟩ := hz rfl
    obtain rfl : xs = [] := List.eq_nil_of_length_eq_zero (by omega)
    have heq0 := fun wx => Lib.run_eql_slice_nil (P := Tryd.prog) wx 23 9 none 0 0 0 0 Tryd.underlying23
    clear hN hl hi0 hz0 hz1 hz2 hi
    go_enter Tryd.func75, Tryd.ntmps75
    go_wp2_with fail
    go_ret
    exact ⟨⟨none, 0, rfl, Nat.le_refl _, fun _ => ⟨rfl, rfl⟩, World.ownsRow_nil _ _ _ _⟩, Below.refl _ _⟩
  · have heq := fun wx => Lib.run_eql_slice_nil (P := Tryd.prog) wx 23 9 (some ad) n c 0 0 Tryd.underlying23
    have hnews : Hid (∀ j u, xs[j]? = some u → (w.alloc (.cells #[] 9)).cell? (ad.add j) = some u) := Lib.hid fun j u hu => by
      obtain ⟨b, off, hA, hB, hc⟩ := hN j u hu
      injection hA with hA
      subst hA
      rw [add_place]
      exact (((Below.refl w.heap.size w).alloc (Nat.le_refl _) (.cells #[] 9)).cell (p := ⟨b, off + j, none⟩) hB).trans hc
    have HOne := Lib.hid hone
    have HLen := Lib.hid hlen
    clear hN hi0 hone hlen hz
    go_enter Tryd.func75, Tryd.ntmps75
    go_wp2_with (at_builtin; refine wpList_append_own _ rfl (.tmp 5) (.tmp 6) 23 rfl w.heap.size 9 i0 _ 1 16 Tryd.underlying23 hi hz0 hz1 hz2 rfl (by omega) (.slice (some ⟨w.heap.size, 0, none⟩) 0 0) 0 [] rfl (World.ownsRow_made w #[] 0 (Nat.le_refl _) (by decide) rfl) ad n c xs rfl HLen.out hnews.out HOne.out (by simp only [maxLen]; omega) (by omega) (by simp) ?_; intro v4 w4 hown4 hgrow hnil4)
    rw [Nat.zero_add, List.nil_append] at hown4
    obtain ⟨A4, c4, rfl, h1, h2⟩ := own_facts hown4
    have HO4 := Lib.hid hown4
    have HB4 := Lib.hid (keep_grown (S := w.heap.size) ((Below.refl w.heap.size w).alloc (Nat.le_refl _) (.cells #[] 9)) (World.ownsRow_made w #[] 0 (Nat.le_refl _) (by decide) rfl : (w.alloc (.cells #[] 9)).ownsRow w.heap.size 9 1 _ 0 []) hgrow (Nat.le_refl _) (Nat.le_refl _))
    clear hown4 hgrow hnil4
    go_wp2_with fail
    go_ret
    exact ⟨⟨A4, c4, rfl, h1, h2, HO4.out⟩, HB4.out⟩

set_option maxHeartbeats 1600000 in
theorem copy_ext (A : Option Addr) (n c : Nat) (xs : List Value) (w : World) (hN : Lies w A xs) (hz : A = none → n = 0 ∧ c = 0) (hl : n * 24 ≤ 140737488355328) (hlen : xs.length = n * 2) (hone : ∀ u ∈ xs, u.oneCell' = true) :
    Calls Tryd.prog 129 #[.slice A n c] w (Copied 101 2 n xs w) := by
  have hi0 : (Tryd.prog.info? 101).map (fun i => (i.zero, i.size, i.bytes)) = some (some (.agg #[.int .i64 0, .string ⟨#[]⟩]), 2, 24) := by kernel_rfl
  obtain ⟨i0, hi, hz0, hz1, hz2⟩ := info_parts hi0
  rcases A with _ | ad
  · obtain ⟨rfl, rfl⟩ := hz rfl
    obtain rfl : xs = [] := List.eq_nil_of_length_eq_zero (by omega)
    have heq0 := fun wx => Lib.run_eql_slice_nil (P := Tryd.prog) wx 25 101 none 0 0 0 0 Tryd.underlying25
    clear hN hl hi0 hz0 hz1 hz2 hi
    go_enter Tryd.func129, Tryd.ntmps129
    go_wp2_with fail
    go_ret
    exact ⟨⟨none, 0, rfl, Nat.le_refl _, fun _ => ⟨rfl, rfl⟩, World.ownsRow_nil _ _ _ _⟩, Below.refl _ _⟩
  · have heq := fun wx => Lib.run_eql_slice_nil (P := Tryd.prog) wx 25 101 (some ad) n c 0 0 Tryd.underlying25
    have hnews : Hid (∀ j u, xs[j]? = some u → (w.alloc (.cells #[] 101)).cell? (ad.add j) = some u) := Lib.hid fun j u hu => by
      obtain ⟨b, off, hA, hB, hc⟩ := hN j u hu
      injection hA with hA
      subst hA
      rw [add_place]
      exact (((Below.refl w.heap.size w).alloc (Nat.le_refl _) (.cells #[] 101)).cell (p := ⟨b, off + j, none⟩) hB).trans hc
    have HOne := Lib.hid hone
    have HLen := Lib.hid hlen
    clear hN hi0 hone hlen hz
    go_enter Tryd.func129, Tryd.ntmps129
    go_wp2_with (at_builtin; refine wpList_append_own _ rfl (.tmp 5) (.tmp 6) 25 rfl w.heap.size 101 i0 _ 2 24 Tryd.underlying25 hi hz0 hz1 hz2 rfl (by omega) (.slice (some ⟨w.heap.size, 0, none⟩) 0 0) 0 [] rfl (World.ownsRow_made w #[] 0 (Nat.le_refl _) (by decide) rfl) ad n c xs rfl HLen.out hnews.out HOne.out (by simp only [maxLen]; omega) (by omega) (by simp) ?_; intro v4 w4 hown4 hgrow hnil4)
    rw [Nat.zero_add, List.nil_append] at hown4
    obtain ⟨A4, c4, rfl, h1, h2⟩ := own_facts hown4
    have HO4 := Lib.hid hown4
    have HB4 := Lib.hid (keep_grown (S := w.heap.size) ((Below.refl w.heap.size w).alloc (Nat.le_refl _) (.cells #[] 101)) (World.ownsRow_made w #[] 0 (Nat.le_refl _) (by decide) rfl : (w.alloc (.cells #[] 101)).ownsRow w.heap.size 101 2 _ 0 []) hgrow (Nat.le_refl _) (Nat.le_refl _))
    clear hown4 hgrow hnil4
    go_wp2_with fail
    go_ret
    exact ⟨⟨A4, c4, rfl, h1, h2, HO4.out⟩, HB4.out⟩

set_option maxHeartbeats 1600000 in
theorem copy_nd (A : Option Addr) (n c : Nat) (xs : List Value) (w : World) (hN : Lies w A xs) (hz : A = none → n = 0 ∧ c = 0) (hl : n * 112 ≤ 140737488355328) (hlen : xs.length = n * 7) (hone : ∀ u ∈ xs, u.oneCell' = true) :
    Calls Tryd.prog 76 #[.slice A n c] w (Copied 27 7 n xs w) := by
  have hi0 : (Tryd.prog.info? 27).map (fun i => (i.zero, i.size, i.bytes)) = some (some (.agg #[.int .i64 0, .bool false, .slice none 0 0, .slice none 0 0, .int .i64 0, .slice none 0 0, .string ⟨#[]⟩]), 7, 112) := by kernel_rfl
  obtain ⟨i0, hi, hz0, hz1, hz2⟩ := info_parts hi0
  rcases A with _ | ad
  · obtain ⟨rfl, rfl⟩ := hz rfl
    obtain rfl : xs = [] := List.eq_nil_of_length_eq_zero (by omega)
    have heq0 := fun wx => Lib.run_eql_slice_nil (P := Tryd.prog) wx 24 27 none 0 0 0 0 Tryd.underlying24
    clear hN hl hi0 hz0 hz1 hz2 hi
    go_enter Tryd.func76, Tryd.ntmps76
    go_wp2_with fail
    go_ret
    exact ⟨⟨none, 0, rfl, Nat.le_refl _, fun _ => ⟨rfl, rfl⟩, World.ownsRow_nil _ _ _ _⟩, Below.refl _ _⟩
  · have heq := fun wx => Lib.run_eql_slice_nil (P := Tryd.prog) wx 24 27 (some ad) n c 0 0 Tryd.underlying24
    have hnews : Hid (∀ j u, xs[j]? = some u → (w.alloc (.cells #[] 27)).cell? (ad.add j) = some u) := Lib.hid fun j u hu => by
      obtain ⟨b, off, hA, hB, hc⟩ := hN j u hu
      injection hA with hA
      subst hA
      rw [add_place]
      exact (((Below.refl w.heap.size w).alloc (Nat.le_refl _) (.cells #[] 27)).cell (p := ⟨b, off + j, none⟩) hB).trans hc
    have HOne := Lib.hid hone
    have HLen := Lib.hid hlen
    clear hN hi0 hone hlen hz
    go_enter Tryd.func76, Tryd.ntmps76
    go_wp2_with (at_builtin; refine wpList_append_own _ rfl (.tmp 5) (.tmp 6) 24 rfl w.heap.size 27 i0 _ 7 112 Tryd.underlying24 hi hz0 hz1 hz2 rfl (by omega) (.slice (some ⟨w.heap.size, 0, none⟩) 0 0) 0 [] rfl (World.ownsRow_made w #[] 0 (Nat.le_refl _) (by decide) rfl) ad n c xs rfl HLen.out hnews.out HOne.out (by simp only [maxLen]; omega) (by omega) (by simp) ?_; intro v4 w4 hown4 hgrow hnil4)
    rw [Nat.zero_add, List.nil_append] at hown4
    obtain ⟨A4, c4, rfl, h1, h2⟩ := own_facts hown4
    have HO4 := Lib.hid hown4
    have HB4 := Lib.hid (keep_grown (S := w.heap.size) ((Below.refl w.heap.size w).alloc (Nat.le_refl _) (.cells #[] 27)) (World.ownsRow_made w #[] 0 (Nat.le_refl _) (by decide) rfl : (w.alloc (.cells #[] 27)).ownsRow w.heap.size 27 7 _ 0 []) hgrow (Nat.le_refl _) (Nat.le_refl _))
    clear hown4 hgrow hnil4
    go_wp2_with fail
    go_ret
    exact ⟨⟨A4, c4, rfl, h1, h2, HO4.out⟩, HB4.out⟩

/-! The three rows as they were read -/
theorem lies_txt {w : World} {A : Option Addr} {N : List ByteArray} (h : Txts w w.heap.size A N) : Lies w A (N.map Value.string) := fun j u hu => by
  rw [List.getElem?_map] at hu
  rcases hx : N[j]? with _ | x
  · rw [hx] at hu; cases hu
  · rw [hx] at hu
    obtain rfl : Value.string x = u := Option.some.inj hu
    obtain ⟨⟨b, off, hA, hB, hc⟩, _⟩ := h j x hx
    exact ⟨b, off, hA, hB, hc⟩
theorem exCells_split {L : List Ex} {j : Nat} {u : Value} (h : (exCells L)[j]? = some u) : ∃ i x, L[i]? = some x ∧ ((j = i * 2 ∧ u = .int .i64 x.O) ∨ (j = i * 2 + 1 ∧ u = .string x.D)) := by
  have hlt : j < L.length * 2 := by
    have := (List.getElem?_eq_some_iff.1 h).1
    rwa [exCells_length] at this
  obtain ⟨x, hx⟩ : ∃ x, L[j / 2]? = some x := ⟨_, List.getElem?_eq_getElem (by omega)⟩
  obtain ⟨e0, e1⟩ := exCells_at hx
  refine ⟨j / 2, x, hx, ?_⟩
  rcases Nat.mod_two_eq_zero_or_one j with hm | hm
  · have hj : j / 2 * 2 = j := by omega
    rw [hj, h] at e0
    exact .inl ⟨hj.symm, Option.some.inj e0⟩
  · have hj : j / 2 * 2 + 1 = j := by omega
    rw [hj, h] at e1
    exact .inr ⟨hj.symm, Option.some.inj e1⟩
theorem lies_ext {w : World} {A : Option Addr} {L : List Ex} (h : Exts w w.heap.size A L) : Lies w A (exCells L) := fun j u hu => by
  obtain ⟨i, x, hx, hc⟩ := exCells_split hu
  obtain ⟨⟨b, off, hA, hB, c0, c1⟩, _⟩ := h i x hx
  rcases hc with ⟨rfl, rfl⟩ | ⟨rfl, rfl⟩
  · exact ⟨b, off, hA, hB, c0⟩
  · exact ⟨b, off, hA, hB, by rw [← Nat.add_assoc]; exact c1⟩
def rowCells : List Nd → (Nat → Raw) → List Value
  | [], _ => []
  | x :: L, rs => (rawCells x (rs 0)).toList ++ rowCells L (fun i => rs (i + 1))
theorem raw_length (x : Nd) (r : Raw) : (rawCells x r).toList.length = 7 := rfl
theorem rowCells_length : ∀ (L : List Nd) (rs : Nat → Raw), (rowCells L rs).length = L.length * 7
  | [], _ => rfl
  | x :: L, rs => by rw [rowCells, List.length_append, raw_length, rowCells_length L, List.length_cons]; omega
theorem rowCells_at : ∀ {L : List Nd} {rs : Nat → Raw} {i : Nat} {x : Nd}, L[i]? = some x → ∀ j v, (rawCells x (rs i))[j]? = some v → (rowCells L rs)[i * 7 + j]? = some v
  | [], _, i, x, h, _, _, _ => by simp at h
  | y :: L, rs, 0, x, h, j, v, hj => by
    obtain rfl : y = x := by simpa using h
    have hlt : j < 7 := by
      have := (Array.getElem?_eq_some_iff.1 hj).1
      exact this
    rw [rowCells, Nat.zero_mul, Nat.zero_add, List.getElem?_append_left (by rw [raw_length]; exact hlt), Array.getElem?_toList]
    exact hj
  | y :: L, rs, i + 1, x, h, j, v, hj => by
    have := rowCells_at (L := L) (rs := fun i => rs (i + 1)) (i := i) (x := x) (by simpa using h) j v hj
    rw [rowCells, List.getElem?_append_right (by rw [raw_length]; omega), raw_length, show (i + 1) * 7 + j - 7 = i * 7 + j by omega]
    exact this
theorem rowCells_split {L : List Nd} {rs : Nat → Raw} {j : Nat} {u : Value} (h : (rowCells L rs)[j]? = some u) : ∃ i x k, L[i]? = some x ∧ j = i * 7 + k ∧ (rawCells x (rs i))[k]? = some u := by
  have hlt : j < L.length * 7 := by
    have := (List.getElem?_eq_some_iff.1 h).1
    rwa [rowCells_length] at this
  obtain ⟨x, hx⟩ : ∃ x, L[j / 7]? = some x := ⟨_, List.getElem?_eq_getElem (by omega)⟩
  have hk : j % 7 < (rawCells x (rs (j / 7))).size := Nat.mod_lt _ (by decide)
  have hj := rowCells_at (rs := rs) hx (j % 7) _ (Array.getElem?_eq_getElem hk)
  rw [show j / 7 * 7 + j % 7 = j by omega, h] at hj
  exact ⟨j / 7, x, j % 7, hx, by omega, by rw [Array.getElem?_eq_getElem hk]; exact hj.symm⟩
theorem rowCells_one (L : List Nd) (rs : Nat → Raw) : ∀ u ∈ rowCells L rs, u.oneCell' = true := fun u hu => by
  obtain ⟨j, hj⟩ := List.mem_iff_getElem?.1 hu
  obtain ⟨i, x, k, _, _, hk⟩ := rowCells_split hj
  have hlt : k < 7 := (Array.getElem?_eq_some_iff.1 hk).1
  have : k = 0 ∨ k = 1 ∨ k = 2 ∨ k = 3 ∨ k = 4 ∨ k = 5 ∨ k = 6 := by omega
  rcases this with rfl | rfl | rfl | rfl | rfl | rfl | rfl <;> (obtain rfl := (Option.some.inj hk).symm; rfl)
theorem exCells_one (L : List Ex) : ∀ u ∈ exCells L, u.oneCell' = true := fun u hu => by
  obtain ⟨j, hj⟩ := List.mem_iff_getElem?.1 hu
  obtain ⟨i, x, _, h⟩ := exCells_split hj
  rcases h with ⟨_, rfl⟩ | ⟨_, rfl⟩ <;> rfl
theorem txtCells_one (N : List ByteArray) : ∀ u ∈ N.map Value.string, u.oneCell' = true := fun u hu => by
  obtain ⟨x, _, rfl⟩ := List.mem_map.1 hu
  rfl
end Go.Proofs.YtniklphdnakehaaDoor.tre
