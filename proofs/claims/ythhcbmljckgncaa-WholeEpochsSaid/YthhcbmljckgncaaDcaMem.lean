/- What was seen by names, in memory: a block with shards of entries and two counters; places of the entries; name.Child, socagelaw15's child and Dir; slices.Clone of a place, dcache.apart. Condition: what is read lies in memory. -/
import Derived.Test.YthhcbmljckgncaaShdAsk
import Derived.Test.YthhcbmljckgncaaNameRight
namespace Go.Proofs.Ythhcbmljckgncaa.dca
set_option maxRecDepth 100000
open Go.RowKit Go.Proofs.Ythhcbmljckgncaa.words Go.Proofs.Ythhcbmljckgncaa.lru Go.Proofs.Ythhcbmljckgncaa.sha Go.Proofs.Ythhcbmljckgncaa.lrd Go.Proofs.Ythhcbmljckgncaa.shd

/-! Texts -/
def root : ByteArray := ⟨#[47]⟩
def childB (d s : ByteArray) : ByteArray := if d = root then root ++ s else d ++ ⟨#[47]⟩ ++ s
theorem toList_inj {a b : ByteArray} (h : a.toList = b.toList) : a = b := by
  rw [ByteArray.toList_eq, ByteArray.toList_eq] at h
  exact ByteArray.ext (Array.ext' h)
theorem text_ne {a b : ByteArray} (h : a ≠ b) : (a.toList == b.toList) = false := by
  rw [beq_eq_false_iff_ne]
  exact fun e => h (toList_inj e)
theorem root_list : root.toList = [47] := by rw [ByteArray.toList_eq]; rfl
theorem childB_size (d s : ByteArray) : (childB d s).size ≤ d.size + 1 + s.size := by
  unfold childB
  split
  · rw [ByteArray.size_append]; show 1 + s.size ≤ _; omega
  · rw [ByteArray.size_append, ByteArray.size_append]; show d.size + 1 + s.size ≤ _; omega
theorem child_any (d s : ByteArray) (w : World) (h1 : d.size ≤ 1000000000) (h2 : s.size ≤ 1000000000) :
    Calls Try.prog 44 #[.string d, .string s] w fun e w' => e = .returned (.string (childB d s)) ∧ w = w' := by
  obtain ⟨r, hr⟩ : ∃ r, r = childB d s := ⟨_, rfl⟩
  rw [← hr]
  unfold childB at hr
  have hz : (d ++ ⟨#[47]⟩).size ≤ 1000000001 := by rw [ByteArray.size_append]; show d.size + 1 ≤ _; omega
  by_cases c : d = root
  · subst c
    rw [if_pos rfl] at hr
    have f1 : (root.toList == [47]) = true := by rw [root_list]; rfl
    unfold root at f1 hr h1 hz ⊢
    have HR := Lib.hid hr.symm
    clear hr
    go_enter Try.func44, Try.ntmps44
    go_wp2
    go_ret
    exact ⟨by rw [← HR.out]; rfl, rfl⟩
  · rw [if_neg c] at hr
    have f1 : (d.toList == [47]) = false := by have h := text_ne (b := root) c; rwa [root_list] at h
    have HR := Lib.hid hr.symm
    clear hr c
    go_enter Try.func44, Try.ntmps44
    go_wp2
    go_ret
    exact ⟨by rw [← HR.out]; rfl, rfl⟩
theorem lawchild_any (d s : ByteArray) (w : World) (h1 : d.size ≤ 1000000000) (h2 : s.size ≤ 1000000000) :
    Calls Try.prog 12 #[.string d, .string s] w fun e w' => e = .returned (.string (childB d s)) ∧ w = w' := by
  obtain ⟨r, hr⟩ : ∃ r, r = childB d s := ⟨_, rfl⟩
  rw [← hr]
  unfold childB at hr
  have hz : (d ++ ⟨#[47]⟩).size ≤ 1000000001 := by rw [ByteArray.size_append]; show d.size + 1 ≤ _; omega
  by_cases c : d = root
  · subst c
    rw [if_pos rfl] at hr
    have f1 : (root.toList == [47]) = true := by rw [root_list]; rfl
    unfold root at f1 hr h1 hz ⊢
    have HR := Lib.hid hr.symm
    clear hr
    go_enter Try.func12, Try.ntmps12
    go_wp2
    go_ret
    exact ⟨by rw [← HR.out]; rfl, rfl⟩
  · rw [if_neg c] at hr
    have f1 : (d.toList == [47]) = false := by have h := text_ne (b := root) c; rwa [root_list] at h
    have HR := Lib.hid hr.symm
    clear hr c
    go_enter Try.func12, Try.ntmps12
    go_wp2
    go_ret
    exact ⟨by rw [← HR.out]; rfl, rfl⟩
/-- One of some directories. -/
def dirB (n : Nat) : ByteArray := match n % 4 with
  | 0 => ⟨#[47]⟩
  | 1 => ⟨#[47, 97]⟩
  | 2 => ⟨#[47, 97, 47, 98]⟩
  | _ => ⟨#[47, 97, 97]⟩
theorem dirB_size (n : Nat) : (dirB n).size ≤ 4 := by
  unfold dirB
  split <;> decide
theorem dir_any (n : Nat) (w : World) (hn : n ≤ 255) : Calls Try.prog 11 #[.int .u8 (n : Int)] w fun e w' => e = .returned (.string (dirB n)) ∧ w = w' := by
  obtain ⟨r, hr⟩ : ∃ r, r = dirB n := ⟨_, rfl⟩
  rw [← hr]
  unfold dirB at hr
  have h4 : n % 4 = 0 ∨ n % 4 = 1 ∨ n % 4 = 2 ∨ n % 4 = 3 := by omega
  rcases h4 with h | h | h | h
  all_goals
    rw [h] at hr
    have HR := Lib.hid hr.symm
    first
      | (have e1 : (n : Int) % 4 = 0 := by omega)
      | (have e1 : (n : Int) % 4 = 1 := by omega)
      | (have e1 : (n : Int) % 4 = 2 := by omega)
      | (have e1 : (n : Int) % 4 = 3 := by omega)
    have e2 := e1
    rw [← Int.tmod_eq_emod_of_nonneg (by omega)] at e2
    have x0 : ∀ w : World, (Instr.index 99 (.agg #[.string ⟨#[47]⟩, .string ⟨#[47, 97]⟩, .string ⟨#[47, 97, 47, 98]⟩, .string ⟨#[47, 97, 97]⟩]) (.int .u8 0)).run Try.prog w = .ok (.string ⟨#[47]⟩) w := fun _ => by kernel_rfl
    have x1 : ∀ w : World, (Instr.index 99 (.agg #[.string ⟨#[47]⟩, .string ⟨#[47, 97]⟩, .string ⟨#[47, 97, 47, 98]⟩, .string ⟨#[47, 97, 97]⟩]) (.int .u8 1)).run Try.prog w = .ok (.string ⟨#[47, 97]⟩) w := fun _ => by kernel_rfl
    have x2 : ∀ w : World, (Instr.index 99 (.agg #[.string ⟨#[47]⟩, .string ⟨#[47, 97]⟩, .string ⟨#[47, 97, 47, 98]⟩, .string ⟨#[47, 97, 97]⟩]) (.int .u8 2)).run Try.prog w = .ok (.string ⟨#[47, 97, 47, 98]⟩) w := fun _ => by kernel_rfl
    have x3 : ∀ w : World, (Instr.index 99 (.agg #[.string ⟨#[47]⟩, .string ⟨#[47, 97]⟩, .string ⟨#[47, 97, 47, 98]⟩, .string ⟨#[47, 97, 97]⟩]) (.int .u8 3)).run Try.prog w = .ok (.string ⟨#[47, 97, 97]⟩) w := fun _ => by kernel_rfl
    clear hr h
    go_enter Try.func11, Try.ntmps11
    have n0 : (0 : Int) ≤ (n : Int) := by omega
    have n1 : (n : Int) ≤ 255 := by omega
    go_wp2_with fail
    go_ret
    exact ⟨by rw [← HR.out]; rfl, rfl⟩

/-! Places -/
def spC (p : Int × Int) : List Value := [.int .i64 p.1, .int .i64 p.2]
/-- A slice of n spots, in a block from lo on, that reads as P. -/
def Sp (w : World) (lo : Nat) (A : Option Addr) (n : Nat) (P : List (Int × Int)) : Prop :=
  n = P.length ∧ ∀ i p, P[i]? = some p → ∃ b off cs, A = some ⟨b, off, none⟩ ∧ lo ≤ b ∧ w.heap[b]? = some (.cells cs 44 (0, 0)) ∧ cs[off + i * 2]? = some (.int .i64 p.1) ∧ cs[off + i * 2 + 1]? = some (.int .i64 p.2)
theorem Sp.nil (w : World) (lo : Nat) (A : Option Addr) : Sp w lo A 0 [] := ⟨rfl, fun i p h => by simp at h⟩
theorem Sp.kept {S : TypeId → Prop} {B : Nat} {w w' : World} {lo : Nat} {A : Option Addr} {n : Nat} {P : List (Int × Int)} (h : Sp w lo A n P) (hk : Kept S B w w') (hS : ¬ S 44) : Sp w' lo A n P :=
  ⟨h.1, fun i p hp => by
    obtain ⟨b, off, cs, h1, h2, h3, h4⟩ := h.2 i p hp
    exact ⟨b, off, cs, h1, h2, hk.blk h3 hS, h4⟩⟩
theorem Sp.later {w w' : World} {lo : Nat} {A : Option Addr} {n : Nat} {P : List (Int × Int)} (h : Sp w lo A n P) (hb : Below w.heap.size w w') : Sp w' lo A n P := h.kept (Kept.of_below hb (fun _ => False) 0) (fun hc => hc)
theorem Sp.mono {w : World} {lo lo' : Nat} {A : Option Addr} {n : Nat} {P : List (Int × Int)} (h : Sp w lo A n P) (hl : lo' ≤ lo) : Sp w lo' A n P :=
  ⟨h.1, fun i p hp => by
    obtain ⟨b, off, cs, h1, h2, h3⟩ := h.2 i p hp
    exact ⟨b, off, cs, h1, Nat.le_trans hl h2, h3⟩⟩
theorem Sp.at {w : World} {lo : Nat} {A : Option Addr} {n : Nat} {P : List (Int × Int)} (h : Sp w lo A n P) {i : Nat} {p : Int × Int} (hp : P[i]? = some p) :
    ∃ b off, A = some ⟨b, off, none⟩ ∧ lo ≤ b ∧ b < w.heap.size ∧ w.cell? ⟨b, off + i * 2, none⟩ = some (.int .i64 p.1) ∧ w.cell? ⟨b, off + i * 2 + 1, none⟩ = some (.int .i64 p.2) := by
  obtain ⟨b, off, cs, h1, h2, h3, h4, h5⟩ := h.2 i p hp
  exact ⟨b, off, h1, h2, lt_of_some h3, (cell_of_blk h3 _).trans h4, (cell_of_blk h3 _).trans h5⟩
theorem spC_one (P : List (Int × Int)) : ∀ u ∈ P.flatMap spC, u.oneCell' = true := fun u hu => by
  obtain ⟨p, _, hp⟩ := List.mem_flatMap.1 hu
  simp only [spC, List.mem_cons, List.mem_nil_iff, or_false] at hp
  rcases hp with rfl | rfl <;> rfl
theorem spC_len (P : List (Int × Int)) : (P.flatMap spC).length = P.length * 2 := by
  induction P with
  | nil => rfl
  | cons p L ih => rw [List.flatMap_cons, List.length_append, ih, List.length_cons]; simp [spC]; omega
theorem spC_at : ∀ {P : List (Int × Int)} {j : Nat} {u : Value}, (P.flatMap spC)[j]? = some u → ∃ i p, P[i]? = some p ∧ ((j = i * 2 ∧ u = .int .i64 p.1) ∨ (j = i * 2 + 1 ∧ u = .int .i64 p.2))
  | [], j, u, h => by simp at h
  | x :: P, j, u, h => by
    rw [List.flatMap_cons] at h
    rcases j with _ | _ | j
    · exact ⟨0, x, rfl, .inl ⟨rfl, by simpa [spC] using h.symm⟩⟩
    · exact ⟨0, x, rfl, .inr ⟨rfl, by simpa [spC] using h.symm⟩⟩
    · rw [List.getElem?_append_right (by simp [spC])] at h
      obtain ⟨i, p, h1, h2⟩ := spC_at (P := P) (j := j) (by simpa [spC] using h)
      exact ⟨i + 1, p, by simpa using h1, h2.imp (fun ⟨a, b⟩ => ⟨by omega, b⟩) (fun ⟨a, b⟩ => ⟨by omega, b⟩)⟩
theorem spC_get : ∀ {P : List (Int × Int)} {i : Nat} {p : Int × Int}, P[i]? = some p → (P.flatMap spC)[i * 2]? = some (.int .i64 p.1) ∧ (P.flatMap spC)[i * 2 + 1]? = some (.int .i64 p.2)
  | [], i, p, h => by simp at h
  | x :: P, i, p, h => by
    rw [List.flatMap_cons]
    rcases i with _ | i
    · obtain rfl : x = p := by simpa using h
      exact ⟨rfl, rfl⟩
    · obtain ⟨h1, h2⟩ := spC_get (P := P) (i := i) (by simpa using h)
      rw [List.getElem?_append_right (by simp [spC]; omega), List.getElem?_append_right (by simp [spC]; omega)]
      exact ⟨by rw [← h1]; congr 1; simp [spC]; omega, by rw [← h2]; congr 1; simp [spC]; omega⟩
theorem Sp.of_own {w : World} {B : Nat} {A : Option Addr} {c : Nat} {P : List (Int × Int)} (h : w.ownsRow B 44 2 (.slice A P.length c) P.length (P.flatMap spC)) : Sp w B A P.length P := by
  refine ⟨rfl, fun i p hp => ?_⟩
  obtain ⟨h1, h2⟩ := spC_get hp
  have hi : i < P.length := (List.getElem?_eq_some_iff.1 hp).1
  rcases h.2 with ⟨_, h0⟩ | ⟨b, c', cur, hv, hB, hh, _, _, _, h4⟩
  · omega
  · injection hv with hv
    refine ⟨b, 0, cur, hv, hB, hh, ?_, ?_⟩
    · rw [← h4, List.getElem?_take] at h1
      split at h1
      · rw [← Array.getElem?_toList, Nat.zero_add]; exact h1
      · cases h1
    · rw [← h4, List.getElem?_take] at h2
      split at h2
      · rw [← Array.getElem?_toList, Nat.zero_add]; exact h2
      · cases h2
theorem infoSpot : (Try.prog.info? 44).map (fun i => (i.zero, i.size, i.bytes)) = some (some (.agg #[.int .i64 0, .int .i64 0]), 2, 16) := by kernel_rfl
/-- What a place's copy is. -/
def Spd (P : List (Int × Int)) (w : World) (e : Ending) (w' : World) : Prop := (∃ A c, e = .returned (.slice A P.length c) ∧ Sp w' w.heap.size A P.length P) ∧ Below w.heap.size w w'
set_option maxHeartbeats 1600000 in
theorem copy_any (lo : Nat) (A : Option Addr) (c : Nat) (P : List (Int × Int)) (w : World) (hp : Sp w lo A P.length P) (hl : P.length ≤ 1000) :
    Calls Try.prog 60 #[.slice A P.length c] w (Spd P w) := by
  obtain ⟨i0, hi, hz0, hz1, hz2⟩ := info_three infoSpot
  rcases A with _ | ad
  · have hP : P = [] := by
      rcases P with _ | ⟨p, P⟩
      · rfl
      · obtain ⟨b, off, h1, _⟩ := hp.at (i := 0) (p := p) rfl
        cases h1
    subst hP
    have heq0 := fun wx => Lib.run_eql_slice_nil (P := Try.prog) wx 46 44 none 0 c 0 0 Try.underlying46
    clear hp hl hz0 hz1 hz2 hi
    go_enter Try.func60, Try.ntmps60
    go_wp2_with fail
    go_ret
    exact ⟨⟨none, 0, rfl, Sp.nil _ _ _⟩, Below.refl _ _⟩
  · have heq := fun wx => Lib.run_eql_slice_nil (P := Try.prog) wx 46 44 (some ad) P.length c 0 0 Try.underlying46
    have hnews : Hid (∀ j u, (P.flatMap spC)[j]? = some u → (w.alloc (.cells #[] 44)).cell? (ad.add j) = some u) := Lib.hid fun j u hu => by
      obtain ⟨i, p, hip, hj⟩ := spC_at hu
      obtain ⟨b, off, hA, _, hB, hc1, hc2⟩ := hp.at hip
      injection hA with hA
      subst hA
      rw [add_place]
      have hbl := (Below.refl w.heap.size w).alloc (Nat.le_refl _) (.cells #[] 44)
      rcases hj with ⟨rfl, rfl⟩ | ⟨rfl, rfl⟩
      · exact (hbl.cell (p := ⟨b, off + i * 2, none⟩) hB).trans hc1
      · rw [← Nat.add_assoc]
        exact (hbl.cell (p := ⟨b, off + i * 2 + 1, none⟩) hB).trans hc2
    have HOne := Lib.hid (spC_one P)
    have HLen := Lib.hid (spC_len P)
    clear hp
    go_enter Try.func60, Try.ntmps60
    go_wp2_with (at_builtin; refine wpList_append_own _ rfl (.tmp 5) (.tmp 6) 46 rfl w.heap.size 44 i0 _ 2 16 Try.underlying46 hi hz0 hz1 hz2 rfl (by omega) (.slice (some ⟨w.heap.size, 0, none⟩) 0 0) 0 [] rfl (World.ownsRow_made w #[] 0 (Nat.le_refl _) (by decide) rfl) ad P.length c (P.flatMap spC) rfl HLen.out hnews.out HOne.out (by simp only [maxLen]; omega) (by omega) (by simp) ?_; intro v4 w4 hown4 hgrow hnil4)
    rw [Nat.zero_add, List.nil_append] at hown4
    obtain ⟨A4, c4, rfl, h1, h2, _⟩ := own_facts hown4
    have HO4 := Lib.hid hown4
    have HB4 := Lib.hid (keep_grown (S := w.heap.size) ((Below.refl w.heap.size w).alloc (Nat.le_refl _) (.cells #[] 44)) (World.ownsRow_made w #[] 0 (Nat.le_refl _) (by decide) rfl : (w.alloc (.cells #[] 44)).ownsRow w.heap.size 44 2 _ 0 []) hgrow (Nat.le_refl _) (Nat.le_refl _))
    clear hown4 hgrow hnil4
    go_wp2_with fail
    go_ret
    exact ⟨⟨A4, c4, rfl, Sp.of_own HO4.out⟩, HB4.out⟩

/-! Entries apart -/
/-- An entry whose place lies elsewhere. -/
def moved (x : Ent) (A : Option Addr) (c : Nat) : Ent := { x with da := A, dc := c }
def ApOut (x : Ent) (P : List (Int × Int)) (w : World) (e : Ending) (w' : World) : Prop := (∃ A c, e = .returned (.agg #[.int .i64 x.ep, .bool x.th, .int .i64 x.kd, .int .i64 x.lv, .int .i64 x.nd, .slice A x.dn c, .string x.tg]) ∧ Sp w' w.heap.size A x.dn P) ∧ Below w.heap.size w w'
set_option maxHeartbeats 1600000 in
theorem apart_any (lo : Nat) (x : Ent) (P : List (Int × Int)) (w : World) (hp : Sp w lo x.da x.dn P) (hl : P.length ≤ 1000) :
    Calls Try.prog 47 #[.agg #[.int .i64 x.ep, .bool x.th, .int .i64 x.kd, .int .i64 x.lv, .int .i64 x.nd, .slice x.da x.dn x.dc, .string x.tg]] w (ApOut x P w) := by
  obtain ⟨W1, hW1⟩ : ∃ W1, W1 = w.alloc (.cells #[.int .i64 x.ep, .bool x.th, .int .i64 x.kd, .int .i64 x.lv, .int .i64 x.nd, .slice x.da x.dn x.dc, .string x.tg] 50) := ⟨_, rfl⟩
  obtain ⟨W2, hW2⟩ : ∃ W2, W2 = W1.alloc (.cells #[.int .i64 0, .bool false, .int .i64 0, .int .i64 0, .int .i64 0, .slice none 0 0, .string ⟨#[]⟩] 50) := ⟨_, rfl⟩
  have hb1 : Below w.heap.size w W1 := by rw [hW1]; exact (Below.refl _ _).alloc (Nat.le_refl _) _
  have hb2 : Below W1.heap.size W1 W2 := by rw [hW2]; exact (Below.refl _ _).alloc (Nat.le_refl _) _
  have hz1 : W1.heap.size = w.heap.size + 1 := by rw [hW1]; simp
  have k1 : W1.heap[w.heap.size]? = some (.cells #[.int .i64 x.ep, .bool x.th, .int .i64 x.kd, .int .i64 x.lv, .int .i64 x.nd, .slice x.da x.dn x.dc, .string x.tg] 50 (0, 0)) := by rw [hW1]; exact heap_alloc_new w _
  have k2 : W2.heap[w.heap.size + 1]? = some (.cells #[.int .i64 0, .bool false, .int .i64 0, .int .i64 0, .int .i64 0, .slice none 0 0, .string ⟨#[]⟩] 50 (0, 0)) := by rw [hW2, ← hz1]; exact heap_alloc_new W1 _
  have k3 := (hb2.block _ (lt_of_some k1)).trans k1
  have hb12 := hb1.trans (hb2.mono hb1.size)
  have hsp := hp.later hb12
  have HC := Lib.hid (show Calls Try.prog 60 #[.slice x.da x.dn x.dc] W2 (Spd P W2) from by
    have h := hp.1
    have := copy_any lo x.da x.dc P W2 (by rw [h] at hsp; exact hsp) hl
    rw [← h] at this
    exact this)
  have a0 := cell_of_blk k3 0
  have a1 := cell_of_blk k3 1
  have a2 := cell_of_blk k3 2
  have a3 := cell_of_blk k3 3
  have a4 := cell_of_blk k3 4
  have a5 := cell_of_blk k3 5
  have a6 := cell_of_blk k3 6
  have HP := Lib.hid hp.1
  have HK2 := Lib.hid k2
  have HK3 := Lib.hid k3
  have HB := Lib.hid hb12
  have HZ1 := Lib.hid hz1
  have HW1 := Lib.hid hW1
  have HW2 := Lib.hid hW2
  clear hp hsp hW1 hW2 hb1 hb2 k1 k2 k3 hb12 hz1
  go_enter Try.func47, Try.ntmps47
  go_upto_region 1 with fail
  rw [← HW1.out, ← HW2.out]
  clear a0 a1 a2 a3 a4 a6
  go_wp2_with fail
  refine HC.out.mono ?_
  rintro e w3 ⟨⟨A, c', rfl, hsp3⟩, hb3⟩
  rw [← HP.out] at hsp3 ⊢
  have k3 := (hb3.block _ (lt_of_some HK3.out)).trans HK3.out
  have k2 := (hb3.block _ (lt_of_some HK2.out)).trans HK2.out
  have b5 := cell_of_blk k3 5
  have g5 := free_of_blk k3 5
  obtain ⟨W4, hW4⟩ : ∃ W4, W4 = w3.setCell ⟨w.heap.size, 5, none⟩ (.slice A x.dn c') := ⟨_, rfl⟩
  have k3' : W4.heap[w.heap.size]? = some (.cells #[.int .i64 x.ep, .bool x.th, .int .i64 x.kd, .int .i64 x.lv, .int .i64 x.nd, .slice A x.dn c', .string x.tg] 50 (0, 0)) := by
    rw [hW4]
    exact heap_setCell_same w3 w.heap.size 5 _ _ _ k3
  have k2' : W4.heap[w.heap.size + 1]? = some (.cells #[.int .i64 0, .bool false, .int .i64 0, .int .i64 0, .int .i64 0, .slice none 0 0, .string ⟨#[]⟩] 50 (0, 0)) := by
    rw [hW4, Below.heap_setCell _ _ _ _ (show w.heap.size + 1 ≠ w.heap.size by omega)]
    exact k2
  have hb4 : Below w.heap.size w W4 := by
    rw [hW4]
    exact (HB.out.trans (hb3.mono HB.out.size)).setCell (Nat.le_refl _) _
  have hk34 : Kept (fun t => t = 50) 0 w3 W4 := by
    rw [hW4]
    exact (Kept.refl (fun t => t = 50) _ _).setCell (p := ⟨w.heap.size, 5, none⟩) (Nat.zero_le _) ⟨_, _, _, k3, rfl⟩ _
  have hsp4 := (hsp3.kept hk34 (by decide)).mono (show w.heap.size ≤ W2.heap.size from HB.out.size)
  have HB4 := Lib.hid hb4
  have HS4 := Lib.hid hsp4
  have HW4 := Lib.hid hW4
  have HK4 := Lib.hid k2'
  have HK5 := Lib.hid k3'
  have q0 := cell_of_blk k3' 0
  have z0 := cell_of_blk k2' 0
  have fz0 := free_of_blk k2' 0
  have q1 := cell_of_blk k3' 1
  have z1 := cell_of_blk k2' 1
  have fz1 := free_of_blk k2' 1
  have q2 := cell_of_blk k3' 2
  have z2 := cell_of_blk k2' 2
  have fz2 := free_of_blk k2' 2
  have q3 := cell_of_blk k3' 3
  have z3 := cell_of_blk k2' 3
  have fz3 := free_of_blk k2' 3
  have q4 := cell_of_blk k3' 4
  have z4 := cell_of_blk k2' 4
  have fz4 := free_of_blk k2' 4
  have q5 := cell_of_blk k3' 5
  have z5 := cell_of_blk k2' 5
  have fz5 := free_of_blk k2' 5
  have q6 := cell_of_blk k3' 6
  have z6 := cell_of_blk k2' 6
  have fz6 := free_of_blk k2' 6
  clear k3 k2 k3' k2' hb3 hsp3 hb4 hk34 hsp4 hW4 a5
  go_upto_region 2 with fail
  rw [← HW4.out]
  clear b5 g5
  go_wp2_with fail
  obtain ⟨W9, hW9⟩ : ∃ W9, W9 = (((((((W4.setCell ⟨w.heap.size + 1, 0, none⟩ (.int .i64 x.ep)).setCell ⟨w.heap.size + 1, 1, none⟩ (.bool x.th)).setCell ⟨w.heap.size + 1, 2, none⟩ (.int .i64 x.kd)).setCell ⟨w.heap.size + 1, 3, none⟩ (.int .i64 x.lv)).setCell ⟨w.heap.size + 1, 4, none⟩ (.int .i64 x.nd)).setCell ⟨w.heap.size + 1, 5, none⟩ (.slice A x.dn c')).setCell ⟨w.heap.size + 1, 6, none⟩ (.string x.tg)) := ⟨_, rfl⟩
  have h9 : W9 = setsV W4 (w.heap.size + 1) 0 [.int .i64 x.ep, .bool x.th, .int .i64 x.kd, .int .i64 x.lv, .int .i64 x.nd, .slice A x.dn c', .string x.tg] := hW9
  rw [← hW9]
  have hbk9 : W9.heap[w.heap.size + 1]? = some (.cells #[.int .i64 x.ep, .bool x.th, .int .i64 x.kd, .int .i64 x.lv, .int .i64 x.nd, .slice A x.dn c', .string x.tg] 50 (0, 0)) := by rw [h9]; exact setsV_all HK4.out rfl
  have ht9 : Tn (fun k => k = w.heap.size + 1) W4 W9 := by rw [h9]; exact setsV_tn (S := fun k => k = w.heap.size + 1) _ (.inr rfl) _ _ _ (Tn.refl _ _)
  have hk49 : Kept (fun t => t = 50) 0 W4 W9 := ht9.kept fun k hk => by subst hk; exact ⟨Nat.zero_le _, _, _, _, HK4.out, rfl⟩
  have hb9 : Below w.heap.size w W9 := HB4.out.trans (ht9.below (fun k hk => by omega) (HB4.out.size))
  have HF : Hid (ApOut x P w (.returned (.agg #[.int .i64 x.ep, .bool x.th, .int .i64 x.kd, .int .i64 x.lv, .int .i64 x.nd, .slice A x.dn c', .string x.tg])) W9) := Lib.hid ⟨⟨A, c', rfl, HS4.out.kept hk49 (by decide)⟩, hb9⟩
  have y0 := cell_of_blk hbk9 0
  have y1 := cell_of_blk hbk9 1
  have y2 := cell_of_blk hbk9 2
  have y3 := cell_of_blk hbk9 3
  have y4 := cell_of_blk hbk9 4
  have y5 := cell_of_blk hbk9 5
  have y6 := cell_of_blk hbk9 6
  clear hk49 ht9 hb9 hbk9 h9 hW9
  exact bodyPost_ret (v := .agg #[.int .i64 x.ep, .bool x.th, .int .i64 x.kd, .int .i64 x.lv, .int .i64 x.nd, .slice A x.dn c', .string x.tg]) (by simp [results, Try.results47, go_sem, y0, y1, y2, y3, y4, y5, y6]) rfl HF.out
end Go.Proofs.Ythhcbmljckgncaa.dca
