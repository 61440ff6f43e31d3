/- What merge's Page answers: so many entries from one on, copied, and whether there are none behind them. Condition: the entries lie in memory, a million at most. -/
import Derived.Test.YtmmpceodhadipaaDoorJY2
import Derived.Lib.MinMax
namespace Go.Proofs.YtmmpceodhadipaaDoor.mrg
set_option maxRecDepth 100000
open Go.RowKit Go.Proofs.YtmmpceodhadipaaDoor.words Go.Proofs.YtmmpceodhadipaaDoor.ext Go.Proofs.YtmmpceodhadipaaDoor.name Go.Proofs.YtmmpceodhadipaaDoor.tre Go.Proofs.YtmmpceodhadipaaDoor.stk Go.Proofs.YtmmpceodhadipaaDoor.seen

theorem cut_en_l (A : Option Addr) (n cap i : Nat) (h : i ≤ n) (wx : World) :
    (Instr.slice 77 (.slice A n cap) (some (.int .i64 (i : Int))) none none).run Tryd.prog wx = .ok (.slice (if cap = i then A else A.map (·.add (i * 2))) (n - i) (cap - i)) wx := by
  obtain ⟨i0, hi, hz0, hz1, hz2⟩ := info_parts infoEntry
  have he : Tryd.prog.elem 77 = 79 := by kernel_rfl
  rw [run_slice_l (P := Tryd.prog) wx 77 A n cap (by kernel_rfl) .i64 (i : Int) (by omega) (by omega), he]
  simp [sizeOf, typeInfo, hi, hz1, Result.andThen, sliced]
/-- The entries from one on, so many of them, lie where the row's tail lies. -/
theorem lies_part {w : World} {A : Option Addr} {E : List (ByteArray × Int)} (h : Lies w A (E.flatMap enC)) (a n c : Nat) (hac : a < c ∨ a = E.length) :
    Lies w (if c = a then A else A.map (·.add (a * 2))) (((E.drop a).take n).flatMap enC) := fun j u hj => by
  have hjl : j < (((E.drop a).take n).flatMap enC).length := (List.getElem?_eq_some_iff.1 hj).1
  rw [enC_len, List.length_take, List.length_drop] at hjl
  have hca : c ≠ a := by rcases hac with h | h <;> omega
  rw [if_neg hca]
  obtain ⟨q, r, rfl, hr⟩ : ∃ q r, j = q * 2 + r ∧ r < 2 := ⟨j / 2, j % 2, by omega, by omega⟩
  have hq : q < E.length - a := by omega
  obtain ⟨x, hx⟩ : ∃ x, E[a + q]? = some x := ⟨_, List.getElem?_eq_getElem (by omega)⟩
  have hx2 : ((E.drop a).take n)[q]? = some x := by rw [List.getElem?_take_of_lt (by omega), List.getElem?_drop]; exact hx
  rw [enC_at hx2 r hr] at hj
  obtain ⟨b, off, rfl, hb, h3⟩ := h ((a + q) * 2 + r) u (by rw [enC_at hx r hr]; exact hj)
  refine ⟨b, off + a * 2, by simp [Addr.add], hb, ?_⟩
  rw [show off + a * 2 + (q * 2 + r) = off + ((a + q) * 2 + r) by omega]
  exact h3
def PageOut (E : List (ByteArray × Int)) (a n : Nat) (w : World) (e : Ending) (w' : World) : Prop :=
  ∃ A' c', e = .returned (.tuple #[.slice A' n c', .bool (n == E.length - a)]) ∧ w'.ownsRow w.heap.size 79 2 (.slice A' n c') n (((E.drop a).take n).flatMap enC) ∧ Below w.heap.size w w'
set_option maxHeartbeats 3200000 in
theorem page_any (A : Option Addr) (c : Nat) (E : List (ByteArray × Int)) (f m : Int) (a n : Nat) (w : World) (hE : Lies w A (E.flatMap enC)) (hz : A = none → c = 0) (hl : E.length ≤ 1000000) (hc : E.length ≤ c)
    (ha : (a : Int) = min (max f 0) (E.length : Int)) (hn : (n : Int) = min (max m 0) ((E.length - a : Nat) : Int)) :
    Calls Tryd.prog 45 #[.slice A E.length c, .int .i64 f, .int .i64 m] w (PageOut E a n w) := by
  obtain ⟨r, hr⟩ : ∃ r, r = E.length - a := ⟨_, rfl⟩
  obtain ⟨rc, hrc⟩ : ∃ rc, rc = c - a := ⟨_, rfl⟩
  obtain ⟨A2, hA2⟩ : ∃ A2, A2 = (if c = a then A else A.map (·.add (a * 2))) := ⟨_, rfl⟩
  rw [← hr] at hn
  have hal : a ≤ E.length := by omega
  have hnr : n ≤ r := by omega
  have hLs : Lies w A2 (((E.drop a).take n).flatMap enC) := by
    by_cases hq : n = 0
    · subst hq; intro j u hj; simp at hj
    · rw [hA2]; exact lies_part hE a n c (.inl (by omega))
  have hc1 : ∀ wx, (Instr.slice 77 (.slice A E.length c) (some (.int .i64 (min (max f 0) (E.length : Int)))) none none).run Tryd.prog wx = .ok (.slice A2 r rc) wx := fun wx => by
    rw [← ha, hA2, hr, hrc]; exact cut_en_l A E.length c a hal wx
  have hc2 : ∀ wx, (Instr.slice 77 (.slice A2 r rc) none (some (.int .i64 (min (max m 0) (r : Int)))) none).run Tryd.prog wx = .ok (.slice A2 n rc) wx := fun wx => by
    rw [← hn]; exact cut_en A2 r rc n (by omega) wx
  have HC := Lib.hid (copy_en A2 n rc (((E.drop a).take n).flatMap enC) w hLs (fun e => by
      have hAn : A = none := by
        rw [hA2] at e
        split at e
        · exact e
        · rcases A with _ | A
          · rfl
          · cases e
      have := hz hAn
      omega) (by omega) (by rw [enC_len, List.length_take, List.length_drop, Nat.min_eq_left (by omega)]) (enC_one _))
  have HQ : Hid ((n == E.length - a) = (min (max m 0) (r : Int) == (r : Int))) := Lib.hid (by rw [← hn, ← hr, Bool.eq_iff_iff]; simp only [beq_iff_eq]; omega)
  clear hE hz hl hc ha hn hr hrc hA2 hal hnr hLs
  go_enter Tryd.func45, Tryd.ntmps45
  go_wp2_with fail
  refine HC.out.mono ?_
  rintro e w1 ⟨⟨A', c', rfl, h1, h2, ho⟩, hb⟩
  have HO := Lib.hid ho
  have HB := Lib.hid hb
  clear ho hb h2 hc1 hc2
  go_wp2_with fail
  refine bodyPost_ret (v := .tuple #[.slice A' n c', .bool (min (max m 0) (r : Int) == (r : Int))]) (by simp [results, Tryd.results45, go_sem]) rfl ?_
  exact ⟨A', c', by rw [HQ.out], HO.out, HB.out⟩
end Go.Proofs.YtmmpceodhadipaaDoor.mrg
