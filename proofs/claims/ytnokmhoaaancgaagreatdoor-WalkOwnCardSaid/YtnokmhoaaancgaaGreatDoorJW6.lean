/- What container/heap's up, down, Push and Pop leave of the heads: a heap again; the least one. Condition: the heads lie in memory. What container/heap's down, Push and Pop leave of the heads: a heap again; the least one. Condition: the heads lie in memory. -/
import Derived.Test.YtnokmhoaaancgaaGreatDoorJW5
namespace Go.Proofs.YtnokmhoaaancgaaGreatDoor.heap
set_option maxRecDepth 100000
open Go.RowKit Go.Proofs.YtnokmhoaaancgaaGreatDoor.words
open scoped List

theorem hless_int (B g i j : Nat) (a b : Int) (K : List Hd) (x y : Hd) (w : World) (h : Heaps w B g K) (hx : K[i]? = some x) (hy : K[j]? = some y) (ha : a = (i : Int)) (hb : b = (j : Int)) :
    Calls Tryz.prog 191 #[.pointer (some ⟨g, 0, none⟩), .int .i64 a, .int .i64 b] w fun e w' => e = .returned (.bool (ltHB x y)) ∧ Below w.heap.size w w' := by
  subst ha hb
  exact hless_any B g i j K x y w h hx hy
theorem hswap_int (B g i j : Nat) (a b : Int) (K : List Hd) (w : World) (h : Heaps w B g K) (hi : i < K.length) (hj : j < K.length) (ha : a = (i : Int)) (hb : b = (j : Int)) :
    Calls Tryz.prog 194 #[.pointer (some ⟨g, 0, none⟩), .int .i64 a, .int .i64 b] w (Done fun w' => Heaps w' B g (swapL K i j hi hj) ∧ Kept HS B w w') := by
  subst ha hb
  exact hswap_any B g i j K w h hi hj

/-- The heads' methods, as they are found by name. -/
theorem m_less (a : Addr) (w : World) : Sem.run Tryz.prog (method 347 174 (.pointer (some a)) "Less") w = .ok (191, .pointer (some a)) w := by kernel_rfl
theorem m_swap (a : Addr) (w : World) : Sem.run Tryz.prog (method 347 174 (.pointer (some a)) "Swap") w = .ok (194, .pointer (some a)) w := by kernel_rfl
theorem m_push (a : Addr) (w : World) : Sem.run Tryz.prog (method 347 174 (.pointer (some a)) "Push") w = .ok (193, .pointer (some a)) w := by kernel_rfl
theorem m_pop (a : Addr) (w : World) : Sem.run Tryz.prog (method 347 174 (.pointer (some a)) "Pop") w = .ok (192, .pointer (some a)) w := by kernel_rfl
theorem m_len (a : Addr) (w : World) : Sem.run Tryz.prog (method 347 174 (.pointer (some a)) "Len") w = .ok (117, .pointer (some a)) w := by kernel_rfl

structure UpIn (B g : Nat) (K : List Hd) (w : World) (j : Nat) (L : List Hd) (wr : World) : Prop where
  lt : j < L.length
  hs : Heaps wr B g L
  perm : L ~ K
  up : Up ltH L L.length j
  kept : Kept HS B w wr
structure HeapIn (B g : Nat) (K : List Hd) (w : World) (L : List Hd) (wr : World) : Prop where
  hs : Heaps wr B g L
  perm : L ~ K
  hp : Hp ltH L L.length
  kept : Kept HS B w wr
def Heaped (B g : Nat) (K : List Hd) (w w' : World) : Prop := ∃ L, HeapIn B g K w L w'
set_option maxHeartbeats 3200000 in
theorem up_any (B g j : Nat) (K : List Hd) (w : World) (h : Heaps w B g K) (hj : j < K.length) (hu : Up ltH K K.length j) (hlen : K.length ≤ 100000) :
    Calls Tryz.prog 161 #[.iface 174 (.pointer (some ⟨g, 0, none⟩)), .int .i64 (j : Int)] w (Done (Heaped B g K w)) := by
  have HI : Hid (UpIn B g K w j K w) := Lib.hid ⟨hj, h, List.Perm.refl _, hu, Kept.refl _ _ _⟩
  clear h hu
  go_enter Tryz.func161, Tryz.ntmps161
  go_wp2_with fail
  go_loopw [1] (fun v wr => ∃ (i : Nat) (L : List Hd), v = .int .i64 (i : Int) ∧ i ≤ j ∧ Hid (UpIn B g K w i L wr)) (fun v _ => (intOf v).toNat)
  case atStart => exact ⟨j, K, rfl, Nat.le_refl _, HI⟩
  case round =>
    obtain ⟨i, L, rfl, hij, HL⟩ := hrel
    rcases i with _ | k
    · have HE : Hid (HeapIn B g K w L wr) := Lib.hid ⟨HL.out.hs, HL.out.perm, HL.out.up.done0, HL.out.kept⟩
      clear HL
      go_wp2_with fail
      go_end0
      exact ⟨⟨_, rfl⟩, L, HE.out⟩
    · have hlt := HL.out.lt
      obtain ⟨x, hx⟩ : ∃ x, L[k + 1]? = some x := ⟨_, List.getElem?_eq_getElem hlt⟩
      obtain ⟨y, hy⟩ : ∃ y, L[k / 2]? = some y := ⟨_, List.getElem?_eq_getElem (by omega)⟩
      have hxx : L[k + 1] = x := (List.getElem?_eq_some_iff.1 hx).2
      have hyy : L[k / 2]'(by omega) = y := (List.getElem?_eq_some_iff.1 hy).2
      have k0 : (0 : Int) ≤ (k : Int) := by omega
      have k1 : (k : Int) ≤ 100000 := by have := HL.out.perm.length_eq; omega
      have g0 : (((k : Int) / 2) == (k : Int) + 1) = false := by rw [beq_eq_false_iff_ne]; omega
      have HC := Lib.hid (hless_int B g (k + 1) (k / 2) ((k : Int) + 1) ((k : Int) / 2) L x y wr HL.out.hs hx hy (by omega) (by omega))
      have hm1 := fun w => m_less ⟨g, 0, none⟩ w
      have hm2 := fun w => m_swap ⟨g, 0, none⟩ w
      have HX := Lib.hid (And.intro hxx hyy)
      clear hx hy hxx hyy
      go_wp2_with fail
      refine HC.out.mono ?_
      rintro e w2 ⟨rfl, hb2⟩
      have hs2 := HL.out.hs.later hb2
      have hk2 := HL.out.kept.trans (Kept.of_below hb2 HS B)
      rcases hr : ltHB x y with _ | _
      · have HE : Hid (HeapIn B g K w L w2) := Lib.hid ⟨hs2, HL.out.perm, HL.out.up.done (p := k / 2) hlt (by omega) (by omega) (by rw [HX.out.1, HX.out.2]; exact ltHB_no hr), hk2⟩
        clear hs2 hk2 hb2 HC
        go_wp2_with fail
        go_end0
        exact ⟨⟨_, rfl⟩, L, HE.out⟩
      · have HC2 := Lib.hid (hswap_int B g (k / 2) (k + 1) ((k : Int) / 2) ((k : Int) + 1) L w2 hs2 (by omega) hlt (by omega) (by omega))
        have HU := Lib.hid (HL.out.up.step ltH_ord (p := k / 2) hlt (by omega) hlt (by omega) (by omega) (by rw [HX.out.1, HX.out.2]; exact ltHB_yes hr))
        have HK2 := Lib.hid hk2
        clear hs2 hk2 hb2 HC
        go_wp2_with fail
        refine HC2.out.mono ?_
        rintro e w3 ⟨⟨u, rfl⟩, hs3, hk3⟩
        have HN : Hid (UpIn B g K w (k / 2) (swapL L (k / 2) (k + 1) (by omega) hlt) w3) := Lib.hid ⟨by rw [swapL_length]; omega, hs3, (swapL_perm _ _ _ _ _).trans HL.out.perm, by rw [swapL_length]; exact HU.out, HK2.out.trans hk3⟩
        clear hs3 hk3 HC2 HU HK2
        go_wp2_with fail
        go_roundw
        case rel => exact ⟨k / 2, _, by first | rfl | (congr 1; omega), by omega, HN⟩
        case measure => simp [intOf]; omega
end Go.Proofs.YtnokmhoaaancgaaGreatDoor.heap

namespace Go.Proofs.YtnokmhoaaancgaaGreatDoor.heap
set_option maxRecDepth 100000
open Go.RowKit Go.Proofs.YtnokmhoaaancgaaGreatDoor.words
open scoped List

structure DownIn (B g n : Nat) (K : List Hd) (w : World) (i : Nat) (L : List Hd) (wr : World) : Prop where
  lt : n < L.length
  hs : Heaps wr B g L
  perm : L ~ K
  last : L[n]? = K[n]?
  down : Down ltH L n i
  kept : Kept HS B w wr
structure CutIn (B g n : Nat) (K : List Hd) (w : World) (L : List Hd) (wr : World) : Prop where
  hs : Heaps wr B g L
  perm : L ~ K
  last : L[n]? = K[n]?
  hp : Hp ltH L n
  kept : Kept HS B w wr
def Sunk (B g n : Nat) (K : List Hd) (w : World) (e : Ending) (w' : World) : Prop := (∃ b, e = .returned (.bool b)) ∧ ∃ L, CutIn B g n K w L w'
/-- The child of i that comes first. -/
structure Child (L : List Hd) (n i j : Nat) : Prop where
  lt : j < n
  lo : 2 * i + 1 ≤ j
  hi : j ≤ 2 * i + 2
  le : ∀ k (hk : k < L.length) (hj : j < L.length), 0 < k → k < n → (k - 1) / 2 = i → ¬ ltH L[k] L[j]
theorem Child.only {L : List Hd} {n i : Nat} (h1 : 2 * i + 1 < n) (h2 : ¬ 2 * i + 2 < n) : Child L n i (2 * i + 1) :=
  ⟨h1, by omega, by omega, fun k hk hj h0 hn e => by
    obtain rfl : k = 2 * i + 1 := by omega
    exact fun hc => ltH_ord.asym _ _ hc hc⟩
theorem Child.left {L : List Hd} {n i : Nat} {x y : Hd} (h2 : 2 * i + 2 < n) (hx : L[2 * i + 2]? = some x) (hy : L[2 * i + 1]? = some y) (h : ltHB x y = false) : Child L n i (2 * i + 1) :=
  ⟨by omega, by omega, by omega, fun k hk hj h0 hkn e => by
    rcases (show k = 2 * i + 1 ∨ k = 2 * i + 2 by omega) with rfl | rfl
    · exact fun hc => ltH_ord.asym _ _ hc hc
    · rw [(List.getElem?_eq_some_iff.1 hx).2, (List.getElem?_eq_some_iff.1 hy).2]
      exact ltHB_no h⟩
theorem Child.right {L : List Hd} {n i : Nat} {x y : Hd} (h2 : 2 * i + 2 < n) (hx : L[2 * i + 2]? = some x) (hy : L[2 * i + 1]? = some y) (h : ltHB x y = true) : Child L n i (2 * i + 2) :=
  ⟨by omega, by omega, by omega, fun k hk hj h0 hkn e => by
    rcases (show k = 2 * i + 1 ∨ k = 2 * i + 2 by omega) with rfl | rfl
    · rw [(List.getElem?_eq_some_iff.1 hx).2, (List.getElem?_eq_some_iff.1 hy).2]
      exact ltH_ord.asym _ _ (ltHB_yes h)
    · exact fun hc => ltH_ord.asym _ _ hc hc⟩
theorem swapL_last {L : List Hd} {i j n : Nat} (hi : i < L.length) (hj : j < L.length) (h1 : i ≠ n) (h2 : j ≠ n) : (swapL L i j hi hj)[n]? = L[n]? := by
  unfold swapL
  rw [List.getElem?_set_ne h2, List.getElem?_set_ne h1]

set_option maxHeartbeats 6400000 in
theorem down_any (B g n : Nat) (K : List Hd) (w : World) (h : Heaps w B g K) (hn : n < K.length) (hd : Down ltH K n 0) (hlen : K.length ≤ 100000) :
    Calls Tryz.prog 143 #[.iface 174 (.pointer (some ⟨g, 0, none⟩)), .int .i64 0, .int .i64 (n : Int)] w (Sunk B g n K w) := by
  have HI : Hid (DownIn B g n K w 0 K w) := Lib.hid ⟨hn, h, List.Perm.refl _, rfl, hd, Kept.refl _ _ _⟩
  have hm1 := fun w => m_less ⟨g, 0, none⟩ w
  have hm2 := fun w => m_swap ⟨g, 0, none⟩ w
  clear h hd
  go_enter Tryz.func143, Tryz.ntmps143
  go_wp2_with fail
  go_loopw [7] (fun v wr => ∃ (i : Nat) (L : List Hd), v = .int .i64 (i : Int) ∧ i ≤ n ∧ Hid (DownIn B g n K w i L wr)) (fun v _ => n - (intOf v).toNat)
  case atStart => exact ⟨0, K, rfl, Nat.zero_le _, HI⟩
  case round =>
    obtain ⟨i, L, rfl, hin, HL⟩ := hrel
    have hln := HL.out.lt
    have hL : L.length ≤ 100000 := by have := HL.out.perm.length_eq; omega
    have i0 : (0 : Int) ≤ (i : Int) := by omega
    have i1 : (i : Int) ≤ 100000 := by omega
    have i2 : (n : Int) ≤ 100000 := by omega
    by_cases h1 : 2 * i + 1 < n
    · have g1 : decide ((n : Int) ≤ 2 * (i : Int) + 1) = false := by rw [decide_eq_false_iff_not]; omega
      have g1' : ¬ (n : Int) ≤ 2 * (i : Int) + 1 := by omega
      have g2 : ¬ 2 * (i : Int) + 1 < 0 := by omega
      obtain ⟨z, hz⟩ : ∃ z, L[i]? = some z := ⟨_, List.getElem?_eq_getElem (by omega)⟩
      obtain ⟨y, hy⟩ : ∃ y, L[2 * i + 1]? = some y := ⟨_, List.getElem?_eq_getElem (by omega)⟩
      by_cases h2 : 2 * i + 2 < n
      · have g3 : decide (2 * (i : Int) + 1 + 1 < (n : Int)) = true := by rw [decide_eq_true_iff]; omega
        have g3' : 2 * (i : Int) + 1 + 1 < (n : Int) := by omega
        obtain ⟨x, hx⟩ : ∃ x, L[2 * i + 2]? = some x := ⟨_, List.getElem?_eq_getElem (by omega)⟩
        have HC := Lib.hid (hless_int B g (2 * i + 2) (2 * i + 1) (2 * (i : Int) + 1 + 1) (2 * (i : Int) + 1) L x y wr HL.out.hs hx hy (by omega) (by omega))
        have HX := Lib.hid (And.intro hx (And.intro hy hz))
        clear hx hy hz
        go_wp2_with fail
        refine HC.out.mono ?_
        rintro e w2 ⟨rfl, hb2⟩
        have HS2 := Lib.hid (HL.out.hs.later hb2)
        have HK2 := Lib.hid (HL.out.kept.trans (Kept.of_below hb2 HS B))
        have HZ := Lib.hid HX.out.2.2
        clear hb2 HC
        rcases hr : ltHB x y with _ | _
        · have HCh := Lib.hid (Child.left h2 HX.out.1 HX.out.2.1 hr)
          have HJ := Lib.hid HX.out.2.1
          clear hr
          have HC1 := Lib.hid (hless_int B g (2 * i + 1) i (2 * (i : Int) + 1) (i : Int) L y z w2 HS2.out HJ.out HZ.out (by omega) rfl)
          go_wp2_with fail
          refine HC1.out.mono ?_
          rintro e w4 ⟨rfl, hb4⟩
          have HS4 := Lib.hid (HS2.out.later hb4)
          have HK4 := Lib.hid (HK2.out.trans (Kept.of_below hb4 HS B))
          clear hb4 HC1
          rcases hr2 : ltHB y z with _ | _
          · have HE : Hid (CutIn B g n K w L w4) := Lib.hid ⟨HS4.out, HL.out.perm, HL.out.last, HL.out.down.stop ltH_ord (j := 2 * i + 1) (by omega) (by omega) (fun k hk k0 kn ke => HCh.out.le k hk (by omega) k0 kn ke) (by rw [(List.getElem?_eq_some_iff.1 HJ.out).2, (List.getElem?_eq_some_iff.1 HZ.out).2]; exact ltHB_no hr2), HK4.out⟩
            clear hr2
            go_wp2_with fail
            go_ret
            exact ⟨⟨_, rfl⟩, L, HE.out⟩
          · have HD := Lib.hid (HL.out.down.step ltH_ord (j := 2 * i + 1) (by omega) (by omega) (by omega) (by omega) (by omega) (fun k hk k0 kn ke => HCh.out.le k hk (by omega) k0 kn ke) (by rw [(List.getElem?_eq_some_iff.1 HJ.out).2, (List.getElem?_eq_some_iff.1 HZ.out).2]; exact ltHB_yes hr2))
            have HC2 := Lib.hid (hswap_int B g i (2 * i + 1) (i : Int) (2 * (i : Int) + 1) L w4 HS4.out (by omega) (by omega) rfl (by omega))
            clear hr2
            go_wp2_with fail
            refine HC2.out.mono ?_
            rintro e w5 ⟨⟨u, rfl⟩, hs5, hk5⟩
            have HN : Hid (DownIn B g n K w (2 * i + 1) (swapL L i (2 * i + 1) (by omega) (by omega)) w5) := Lib.hid ⟨by rw [swapL_length]; exact hln, hs5, (swapL_perm _ _ _ _ _).trans HL.out.perm, (swapL_last _ _ (by omega) (by omega)).trans HL.out.last, HD.out, HK4.out.trans hk5⟩
            clear hs5 hk5 HC2 HD HS4 HK4
            go_wp2_with fail
            go_roundw
            case rel => exact ⟨2 * i + 1, _, by first | rfl | (congr 1; omega), by omega, HN⟩
            case measure => simp [intOf]; omega
        · have HCh := Lib.hid (Child.right h2 HX.out.1 HX.out.2.1 hr)
          have HJ := Lib.hid HX.out.1
          clear hr
          have HC1 := Lib.hid (hless_int B g (2 * i + 2) i (2 * (i : Int) + 1 + 1) (i : Int) L x z w2 HS2.out HJ.out HZ.out (by omega) rfl)
          go_wp2_with fail
          refine HC1.out.mono ?_
          rintro e w4 ⟨rfl, hb4⟩
          have HS4 := Lib.hid (HS2.out.later hb4)
          have HK4 := Lib.hid (HK2.out.trans (Kept.of_below hb4 HS B))
          clear hb4 HC1
          rcases hr2 : ltHB x z with _ | _
          · have HE : Hid (CutIn B g n K w L w4) := Lib.hid ⟨HS4.out, HL.out.perm, HL.out.last, HL.out.down.stop ltH_ord (j := 2 * i + 2) (by omega) (by omega) (fun k hk k0 kn ke => HCh.out.le k hk (by omega) k0 kn ke) (by rw [(List.getElem?_eq_some_iff.1 HJ.out).2, (List.getElem?_eq_some_iff.1 HZ.out).2]; exact ltHB_no hr2), HK4.out⟩
            clear hr2
            go_wp2_with fail
            go_ret
            exact ⟨⟨_, rfl⟩, L, HE.out⟩
          · have HD := Lib.hid (HL.out.down.step ltH_ord (j := 2 * i + 2) (by omega) (by omega) (by omega) (by omega) (by omega) (fun k hk k0 kn ke => HCh.out.le k hk (by omega) k0 kn ke) (by rw [(List.getElem?_eq_some_iff.1 HJ.out).2, (List.getElem?_eq_some_iff.1 HZ.out).2]; exact ltHB_yes hr2))
            have HC2 := Lib.hid (hswap_int B g i (2 * i + 2) (i : Int) (2 * (i : Int) + 1 + 1) L w4 HS4.out (by omega) (by omega) rfl (by omega))
            clear hr2
            go_wp2_with fail
            refine HC2.out.mono ?_
            rintro e w5 ⟨⟨u, rfl⟩, hs5, hk5⟩
            have HN : Hid (DownIn B g n K w (2 * i + 2) (swapL L i (2 * i + 2) (by omega) (by omega)) w5) := Lib.hid ⟨by rw [swapL_length]; exact hln, hs5, (swapL_perm _ _ _ _ _).trans HL.out.perm, (swapL_last _ _ (by omega) (by omega)).trans HL.out.last, HD.out, HK4.out.trans hk5⟩
            clear hs5 hk5 HC2 HD HS4 HK4
            go_wp2_with fail
            go_roundw
            case rel => exact ⟨2 * i + 2, _, by first | rfl | (congr 1; omega), by omega, HN⟩
            case measure => simp [intOf]; omega
      · have g3 : decide (2 * (i : Int) + 1 + 1 < (n : Int)) = false := by rw [decide_eq_false_iff_not]; omega
        have g3' : ¬ 2 * (i : Int) + 1 + 1 < (n : Int) := by omega
        have HCh := Lib.hid (Child.only (L := L) h1 h2)
        have HS2 := Lib.hid HL.out.hs
        have HK2 := Lib.hid HL.out.kept
        have HZ := Lib.hid hz
        have HJ := Lib.hid hy
        clear hz hy
        have HC1 := Lib.hid (hless_int B g (2 * i + 1) i (2 * (i : Int) + 1) (i : Int) L y z wr HS2.out HJ.out HZ.out (by omega) rfl)
        go_wp2_with fail
        refine HC1.out.mono ?_
        rintro e w4 ⟨rfl, hb4⟩
        have HS4 := Lib.hid (HS2.out.later hb4)
        have HK4 := Lib.hid (HK2.out.trans (Kept.of_below hb4 HS B))
        clear hb4 HC1
        rcases hr2 : ltHB y z with _ | _
        · have HE : Hid (CutIn B g n K w L w4) := Lib.hid ⟨HS4.out, HL.out.perm, HL.out.last, HL.out.down.stop ltH_ord (j := 2 * i + 1) (by omega) (by omega) (fun k hk k0 kn ke => HCh.out.le k hk (by omega) k0 kn ke) (by rw [(List.getElem?_eq_some_iff.1 HJ.out).2, (List.getElem?_eq_some_iff.1 HZ.out).2]; exact ltHB_no hr2), HK4.out⟩
          clear hr2
          go_wp2_with fail
          go_ret
          exact ⟨⟨_, rfl⟩, L, HE.out⟩
        · have HD := Lib.hid (HL.out.down.step ltH_ord (j := 2 * i + 1) (by omega) (by omega) (by omega) (by omega) (by omega) (fun k hk k0 kn ke => HCh.out.le k hk (by omega) k0 kn ke) (by rw [(List.getElem?_eq_some_iff.1 HJ.out).2, (List.getElem?_eq_some_iff.1 HZ.out).2]; exact ltHB_yes hr2))
          have HC2 := Lib.hid (hswap_int B g i (2 * i + 1) (i : Int) (2 * (i : Int) + 1) L w4 HS4.out (by omega) (by omega) rfl (by omega))
          clear hr2
          go_wp2_with fail
          refine HC2.out.mono ?_
          rintro e w5 ⟨⟨u, rfl⟩, hs5, hk5⟩
          have HN : Hid (DownIn B g n K w (2 * i + 1) (swapL L i (2 * i + 1) (by omega) (by omega)) w5) := Lib.hid ⟨by rw [swapL_length]; exact hln, hs5, (swapL_perm _ _ _ _ _).trans HL.out.perm, (swapL_last _ _ (by omega) (by omega)).trans HL.out.last, HD.out, HK4.out.trans hk5⟩
          clear hs5 hk5 HC2 HD HS4 HK4
          go_wp2_with fail
          go_roundw
          case rel => exact ⟨2 * i + 1, _, by first | rfl | (congr 1; omega), by omega, HN⟩
          case measure => simp [intOf]; omega
    · have g1 : (n : Int) ≤ 2 * (i : Int) + 1 := by omega
      have HE : Hid (CutIn B g n K w L wr) := Lib.hid ⟨HL.out.hs, HL.out.perm, HL.out.last, HL.out.down.done (by omega) fun k hk k0 kn e => by omega, HL.out.kept⟩
      clear HL
      go_wp2_with fail
      go_ret
      exact ⟨⟨_, rfl⟩, L, HE.out⟩
end Go.Proofs.YtnokmhoaaancgaaGreatDoor.heap
