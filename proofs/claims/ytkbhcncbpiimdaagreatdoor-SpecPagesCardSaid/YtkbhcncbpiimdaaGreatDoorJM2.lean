/- What merge's Names answers of entries, and Page: so many of them from one on, and whether there are none behind them. Conditions: the entries lie in memory. What merge's Page answers: so many entries from one on, copied, and whether there are none behind them. Condition: the entries lie in memory, a million at most. -/
import Derived.Test.YtkbhcncbpiimdaaGreatDoorJM1
import Derived.Test.YtkbhcncbpiimdaaGreatDoorJO
import Derived.Lib.MinMax
namespace Go.Proofs.YtkbhcncbpiimdaaGreatDoor.mrg
set_option maxRecDepth 100000
open Go.RowKit Go.Proofs.YtkbhcncbpiimdaaGreatDoor.words Go.Proofs.YtkbhcncbpiimdaaGreatDoor.ext Go.Proofs.YtkbhcncbpiimdaaGreatDoor.name Go.Proofs.YtkbhcncbpiimdaaGreatDoor.tre Go.Proofs.YtkbhcncbpiimdaaGreatDoor.stk Go.Proofs.YtkbhcncbpiimdaaGreatDoor.seen

set_option maxHeartbeats 1600000 in
theorem copy_en (A : Option Addr) (n c : Nat) (xs : List Value) (w : World) (hN : Lies w A xs) (hz : A = none → n = 0 ∧ c = 0) (hl : n * 24 ≤ 140737488355328) (hlen : xs.length = n * 2) (hone : ∀ u ∈ xs, u.oneCell' = true) :
    Calls Tryz.prog 169 #[.slice A n c] w (Copied 41 2 n xs w) := by
  have hi0 : (Tryz.prog.info? 41).map (fun i => (i.zero, i.size, i.bytes)) = some (some (.agg #[.string ⟨#[]⟩, .int .i64 0]), 2, 24) := by kernel_rfl
  obtain ⟨i0, hi, hz0, hz1, hz2⟩ := info_parts hi0
  rcases A with _ | ad
  · obtain ⟨rfl, rfl⟩ := hz rfl
    obtain rfl : xs = [] := List.eq_nil_of_length_eq_zero (by omega)
    have heq0 := fun wx => Lib.run_eql_slice_nil (P := Tryz.prog) wx 30 41 none 0 0 0 0 Tryz.underlying30
    clear hN hl hi0 hz0 hz1 hz2 hi
    go_enter Tryz.func169, Tryz.ntmps169
    go_wp2_with fail
    go_ret
    exact ⟨⟨none, 0, rfl, Nat.le_refl _, fun _ => ⟨rfl, rfl⟩, World.ownsRow_nil _ _ _ _⟩, Below.refl _ _⟩
  · have heq := fun wx => Lib.run_eql_slice_nil (P := Tryz.prog) wx 30 41 (some ad) n c 0 0 Tryz.underlying30
    have hnews : Hid (∀ j u, xs[j]? = some u → (w.alloc (.cells #[] 41)).cell? (ad.add j) = some u) := Lib.hid fun j u hu => by
      obtain ⟨b, off, hA, hB, hc⟩ := hN j u hu
      injection hA with hA
      subst hA
      rw [add_place]
      exact (((Below.refl w.heap.size w).alloc (Nat.le_refl _) (.cells #[] 41)).cell (p := ⟨b, off + j, none⟩) hB).trans hc
    have HOne := Lib.hid hone
    have HLen := Lib.hid hlen
    clear hN hi0 hone hlen hz
    go_enter Tryz.func169, Tryz.ntmps169
    go_wp2_with (at_builtin; refine wpList_append_own _ rfl (.tmp 5) (.tmp 6) 30 rfl w.heap.size 41 i0 _ 2 24 Tryz.underlying30 hi hz0 hz1 hz2 rfl (by omega) (.slice (some ⟨w.heap.size, 0, none⟩) 0 0) 0 [] rfl (World.ownsRow_made w #[] 0 (Nat.le_refl _) (by decide) rfl) ad n c xs rfl HLen.out hnews.out HOne.out (by simp only [maxLen]; omega) (by omega) (by simp) ?_; intro v4 w4 hown4 hgrow hnil4)
    rw [Nat.zero_add, List.nil_append] at hown4
    obtain ⟨A4, c4, rfl, h1, h2⟩ := own_facts hown4
    have HO4 := Lib.hid hown4
    have HB4 := Lib.hid (keep_grown (S := w.heap.size) ((Below.refl w.heap.size w).alloc (Nat.le_refl _) (.cells #[] 41)) (World.ownsRow_made w #[] 0 (Nat.le_refl _) (by decide) rfl : (w.alloc (.cells #[] 41)).ownsRow w.heap.size 41 7 _ 0 []) hgrow (Nat.le_refl _) (Nat.le_refl _))
    clear hown4 hgrow hnil4
    go_wp2_with fail
    go_ret
    exact ⟨⟨A4, c4, rfl, h1, h2, HO4.out⟩, HB4.out⟩

theorem enC_len (E : List (ByteArray × Int)) : (E.flatMap enC).length = E.length * 2 := by
  induction E with
  | nil => rfl
  | cons x E ih => rw [List.flatMap_cons, List.length_append, ih, List.length_cons]; show 2 + _ = _; omega
theorem enC_at : ∀ {E : List (ByteArray × Int)} {k : Nat} {x : ByteArray × Int}, E[k]? = some x → ∀ j, j < 2 → (E.flatMap enC)[k * 2 + j]? = (enC x)[j]?
  | [], k, x, hk, _, _ => by simp at hk
  | y :: E, k, x, hk, j, hj => by
    rw [List.flatMap_cons]
    have hl : (enC y).length = 2 := rfl
    rcases k with _ | k
    · obtain rfl : y = x := by simpa using hk
      rw [List.getElem?_append_left (by omega), Nat.zero_mul, Nat.zero_add]
    · rw [List.getElem?_append_right (by omega), hl, show (k + 1) * 2 + j - 2 = k * 2 + j by omega]
      exact enC_at (by simpa using hk) j hj
theorem lies_en {w : World} {A : Option Addr} {E : List (ByteArray × Int)} (h : Lies w A (E.flatMap enC)) {k : Nat} {x : ByteArray × Int} (hx : E[k]? = some x) : ∃ b off, A = some ⟨b, off, none⟩ ∧ b < w.heap.size ∧ w.cell? ⟨b, off + k * 2, none⟩ = some (.string x.1) ∧ w.cell? ⟨b, off + k * 2 + 1, none⟩ = some (.int .i64 x.2) := by
  obtain ⟨b, off, h1, h2, h3⟩ := h (k * 2 + 0) (.string x.1) (by rw [enC_at hx 0 (by omega)]; rfl)
  obtain ⟨b', off', h4, _, h5⟩ := h (k * 2 + 1) (.int .i64 x.2) (by rw [enC_at hx 1 (by omega)]; rfl)
  rw [h1] at h4
  injection h4 with h4
  injection h4 with e1 e2
  subst e1 e2
  exact ⟨b, off, h1, h2, h3, h5⟩
theorem lies_own {w : World} {B n c size : Nat} {E : TypeId} {A : Option Addr} {xs : List Value} (h : w.ownsRow B E size (.slice A n c) n xs) : Lies w A xs := fun j u hj => by
  obtain ⟨g, cur, h1, _, h2, _, h3⟩ := tre.own_cell h hj
  exact ⟨g, 0, h1, h2, by rw [Nat.zero_add]; exact h3⟩
set_option maxHeartbeats 3200000 in
theorem names_any (A : Option Addr) (c : Nat) (E : List (ByteArray × Int)) (w : World) (hE : Lies w A (E.flatMap enC)) (hl : E.length ≤ 1000000) :
    Calls Tryz.prog 145 #[.slice A E.length c] w fun e w' => (∃ A' c', e = .returned (.slice A' E.length c') ∧ w'.ownsRow w.heap.size 9 1 (.slice A' E.length c') E.length (E.map fun x => .string x.1)) ∧ Below w.heap.size w w' := by
  have HE := Lib.hid hE
  clear hE
  obtain ⟨iS, hiS, zS0, zS1, zS2⟩ := info_parts infoStr
  go_enter Tryz.func145, Tryz.ntmps145
  go_wp2_with fail
  go_loopw [8, 3] (fun v v3 wr => ∃ k : Nat, v = .int .i64 (k : Int) ∧ k ≤ E.length ∧ Hid (wr.ownsRow w.heap.size 9 1 v3 k ((E.take k).map fun x => .string x.1)) ∧ Hid (Below w.heap.size w wr)) (fun v _ _ => E.length - (intOf v).toNat)
  case atStart => exact ⟨0, rfl, Nat.zero_le _, Lib.hid (World.ownsRow_nil _ _ _ _), Lib.hid (Below.refl _ _)⟩
  case round =>
    obtain ⟨k, rfl, hk, HO, HB⟩ := hrel
    obtain ⟨Ar, cr, rfl, hcr, _⟩ := own_facts HO.out
    by_cases hlt : k < E.length
    · obtain ⟨⟨sx, kx⟩, hx⟩ : ∃ x, E[k]? = some x := ⟨_, List.getElem?_eq_getElem hlt⟩
      obtain ⟨b, off, hA, hb, x0, x1⟩ := lies_en (Below.lies HE.out HB.out) hx
      subst hA
      have i0 : (0 : Int) ≤ (k : Int) := by omega
      have i1 : (k : Int) < (E.length : Int) := by omega
      obtain ⟨W3, hW3⟩ : ∃ W3, W3 = wr.alloc (.cells #[.string sx, .int .i64 kx] 41) := ⟨_, rfl⟩
      have hb3 : Below wr.heap.size wr W3 := by rw [hW3]; exact (Below.refl _ _).alloc (Nat.le_refl _) _
      have hk3 : W3.heap[wr.heap.size]? = some (.cells #[.string sx, .int .i64 kx] 41 (0, 0)) := by rw [hW3]; exact heap_alloc_new wr _
      have t0 := cell_of_blk hk3 0
      obtain ⟨Wc, hWc⟩ : ∃ Wc, Wc = W3.alloc (.cells #[.string sx] 9) := ⟨_, rfl⟩
      have hbc : Below W3.heap.size W3 Wc := by rw [hWc]; exact (Below.refl _ _).alloc (Nat.le_refl _) _
      have HNc : Hid (∀ (i : Nat) (u : Value), ([.string sx] : List Value)[i]? = some u → Wc.cell? ((⟨W3.heap.size, 0, none⟩ : Addr).add i) = some u) := Lib.hid fun i u hi => by rw [hWc, new_cell]; simpa using hi
      have hb3c := hb3.trans (hbc.mono hb3.size)
      have HOc := Lib.hid (ownL HO.out hb3c)
      have HBc := Lib.hid (HB.out.trans (hb3c.mono HB.out.size))
      have HTk : Hid (((E.take (k + 1)).map fun x => Value.string x.1) = ((E.take k).map fun x => Value.string x.1) ++ [.string sx]) := Lib.hid (by
        obtain ⟨hkl, hxx⟩ := List.getElem?_eq_some_iff.1 hx
        rw [List.take_succ_eq_append_getElem hkl, hxx, List.map_append]
        rfl)
      have HW3 := Lib.hid hW3
      have HWc := Lib.hid hWc.symm
      clear hx hb hW3 hb3 hk3 hWc hbc hb3c HO HB
      go_upto_region 5 with fail
      rw [← HW3.out]
      clear HW3 x0 x1
      go_wp2_with (at_builtin; rw [HWc.out]; refine wpList_append_own _ rfl (.tmp 12) (.tmp 15) 34 rfl w.heap.size 9 iS _ 1 16 Tryz.underlying34 hiS zS0 zS1 zS2 rfl (by omega) (.slice Ar k cr) k ((E.take k).map fun x => .string x.1) rfl HOc.out ⟨W3.heap.size, 0, none⟩ 1 1 [.string sx] rfl rfl HNc.out (by simp [Value.oneCell']) (by simp only [maxLen]; omega) (by omega) HBc.out.size ?_; intro v3' wq hownq hgrowq hnilq)
      have HBq := Lib.hid (keep_grown HBc.out HOc.out hgrowq (Nat.le_refl _) (Nat.le_refl _))
      have HOq : Hid (wq.ownsRow w.heap.size 9 1 v3' (k + 1) ((E.take (k + 1)).map fun x => .string x.1)) := Lib.hid (by rw [HTk.out]; exact hownq)
      clear hownq hgrowq hnilq t0
      go_roundw
      case rel => exact ⟨k + 1, by go_num, by omega, HOq, HBq⟩
      case measure => simp [intOf]; omega
    · obtain rfl : k = E.length := by omega
      have HFin := Lib.hid (show (∃ A' c', Ending.returned (.slice Ar E.length cr) = .returned (.slice A' E.length c') ∧ wr.ownsRow w.heap.size 9 1 (.slice A' E.length c') E.length (E.map fun x => .string x.1)) ∧ Below w.heap.size w wr from ⟨⟨Ar, cr, rfl, by have h := HO.out; rwa [List.take_length] at h⟩, HB.out⟩)
      clear HO HB
      go_wp2_with fail
      go_ret
      exact HFin.out
theorem cut_en (A : Option Addr) (n cap i : Nat) (h : i ≤ cap) (wx : World) :
    (Instr.slice 30 (.slice A n cap) none (some (.int .i64 (i : Int))) none).run Tryz.prog wx = .ok (.slice A i cap) wx := by
  obtain ⟨i0, hi, hz0, hz1, hz2⟩ := info_parts infoEntry
  have he : Tryz.prog.elem 30 = 41 := by kernel_rfl
  rw [run_slice_h (P := Tryz.prog) wx 30 A n cap (by kernel_rfl) .i64 (i : Int) (by omega) (by omega), he]
  simp [sizeOf, typeInfo, hi, hz1, Result.andThen, sliced]
  rcases A with _ | A
  · intro _; rfl
  · simp [Addr.add]
end Go.Proofs.YtkbhcncbpiimdaaGreatDoor.mrg

namespace Go.Proofs.YtkbhcncbpiimdaaGreatDoor.mrg
set_option maxRecDepth 100000
open Go.RowKit Go.Proofs.YtkbhcncbpiimdaaGreatDoor.words Go.Proofs.YtkbhcncbpiimdaaGreatDoor.ext Go.Proofs.YtkbhcncbpiimdaaGreatDoor.name Go.Proofs.YtkbhcncbpiimdaaGreatDoor.tre Go.Proofs.YtkbhcncbpiimdaaGreatDoor.stk Go.Proofs.YtkbhcncbpiimdaaGreatDoor.seen

theorem cut_en_l (A : Option Addr) (n cap i : Nat) (h : i ≤ n) (wx : World) :
    (Instr.slice 30 (.slice A n cap) (some (.int .i64 (i : Int))) none none).run Tryz.prog wx = .ok (.slice (if cap = i then A else A.map (·.add (i * 2))) (n - i) (cap - i)) wx := by
  obtain ⟨i0, hi, hz0, hz1, hz2⟩ := info_parts infoEntry
  have he : Tryz.prog.elem 30 = 41 := by kernel_rfl
  rw [run_slice_l (P := Tryz.prog) wx 30 A n cap (by kernel_rfl) .i64 (i : Int) (by omega) (by omega), he]
  simp [sizeOf, typeInfo, hi, hz1, Result.andThen, sliced]
theorem lies_part {w : World} {A : Option Addr} {E : List (ByteArray × Int)} (h : Lies w A (E.flatMap enC)) (a n c : Nat) (hac : a < c ∨ a = E.length) :
    Lies w (if c = a then A else A.map (·.add (a * 2))) (((E.drop a).take n).flatMap enC) := fun j u hj => by
  have hjl : j < (((E.drop a).take n).flatMap enC).length := (List.getElem?_eq_some_iff.1 hj).1
  rw [enC_len, List.length_take, List.length_drop] at hjl
  have hca : c ≠ a := by rcases hac with h | h <;> omega
  rw [if_neg hca]
  obtain ⟨q, r, rfl, hr⟩ : ∃ q r, j = q * 2 + r ∧ r < 2 := ⟨j / 2, j % 2, by omega, by omega⟩
  have hq : q < E.length - a := by omega
  obtain ⟨x, hx⟩ : ∃ x, E[a + q]? = some x := ⟨_, List.getElem?_eq_getElem (by omega)⟩
  have hx2 : ((E.drop a).take n)[q]? = some x := by rw [List.getElem?_take_of_lt (by omega), List.getElem?_drop]; exact hx
  rw [enC_at hx2 r hr] at hj
  obtain ⟨b, off, rfl, hb, h3⟩ := h ((a + q) * 2 + r) u (by rw [enC_at hx r hr]; exact hj)
  refine ⟨b, off + a * 2, by simp [Addr.add], hb, ?_⟩
  rw [show off + a * 2 + (q * 2 + r) = off + ((a + q) * 2 + r) by omega]
  exact h3
def PageOut (E : List (ByteArray × Int)) (a n : Nat) (w : World) (e : Ending) (w' : World) : Prop :=
  ∃ A' c', e = .returned (.tuple #[.slice A' n c', .bool (n == E.length - a)]) ∧ w'.ownsRow w.heap.size 41 2 (.slice A' n c') n (((E.drop a).take n).flatMap enC) ∧ Below w.heap.size w w'
set_option maxHeartbeats 3200000 in
theorem page_any (A : Option Addr) (c : Nat) (E : List (ByteArray × Int)) (f m : Int) (a n : Nat) (w : World) (hE : Lies w A (E.flatMap enC)) (hz : A = none → c = 0) (hl : E.length ≤ 1000000) (hc : E.length ≤ c)
    (ha : (a : Int) = min (max f 0) (E.length : Int)) (hn : (n : Int) = min (max m 0) ((E.length - a : Nat) : Int)) :
    Calls Tryz.prog 143 #[.slice A E.length c, .int .i64 f, .int .i64 m] w (PageOut E a n w) := by
  obtain ⟨r, hr⟩ : ∃ r, r = E.length - a := ⟨_, rfl⟩
  obtain ⟨rc, hrc⟩ : ∃ rc, rc = c - a := ⟨_, rfl⟩
  obtain ⟨A2, hA2⟩ : ∃ A2, A2 = (if c = a then A else A.map (·.add (a * 2))) := ⟨_, rfl⟩
  rw [← hr] at hn
  have hal : a ≤ E.length := by omega
  have hnr : n ≤ r := by omega
  have hLs : Lies w A2 (((E.drop a).take n).flatMap enC) := by
    by_cases hq : n = 0
    · subst hq; intro j u hj; simp at hj
    · rw [hA2]; exact lies_part hE a n c (.inl (by omega))
  have hc1 : ∀ wx, (Instr.slice 30 (.slice A E.length c) (some (.int .i64 (min (max f 0) (E.length : Int)))) none none).run Tryz.prog wx = .ok (.slice A2 r rc) wx := fun wx => by
    rw [← ha, hA2, hr, hrc]; exact cut_en_l A E.length c a hal wx
  have hc2 : ∀ wx, (Instr.slice 30 (.slice A2 r rc) none (some (.int .i64 (min (max m 0) (r : Int)))) none).run Tryz.prog wx = .ok (.slice A2 n rc) wx := fun wx => by
    rw [← hn]; exact cut_en A2 r rc n (by omega) wx
  have HC := Lib.hid (copy_en A2 n rc (((E.drop a).take n).flatMap enC) w hLs (fun e => by
      have hAn : A = none := by
        rw [hA2] at e
        split at e
        · exact e
        · rcases A with _ | A
          · rfl
          · cases e
      have := hz hAn
      omega) (by omega) (by rw [enC_len, List.length_take, List.length_drop, Nat.min_eq_left (by omega)]) (enC_one _))
  have HQ : Hid ((n == E.length - a) = (min (max m 0) (r : Int) == (r : Int))) := Lib.hid (by rw [← hn, ← hr, Bool.eq_iff_iff]; simp only [beq_iff_eq]; omega)
  clear hE hz hl hc ha hn hr hrc hA2 hal hnr hLs
  go_enter Tryz.func143, Tryz.ntmps143
  go_wp2_with fail
  refine HC.out.mono ?_
  rintro e w1 ⟨⟨A', c', rfl, h1, h2, ho⟩, hb⟩
  have HO := Lib.hid ho
  have HB := Lib.hid hb
  clear ho hb h2 hc1 hc2
  go_wp2_with fail
  refine bodyPost_ret (v := .tuple #[.slice A' n c', .bool (min (max m 0) (r : Int) == (r : Int))]) (by simp [results, Tryz.results143, go_sem]) rfl ?_
  exact ⟨A', c', by rw [HQ.out], HO.out, HB.out⟩
end Go.Proofs.YtkbhcncbpiimdaaGreatDoor.mrg
