/- What container/heap's up, down, Push and Pop leave of the heads: a heap again; the least one. Condition: the heads lie in memory. -/
import Derived.Test.YtdljogdegcmmiaaGreatDoorJW5
namespace Go.Proofs.YtdljogdegcmmiaaGreatDoor.heap
set_option maxRecDepth 100000
open Go.RowKit Go.Proofs.YtdljogdegcmmiaaGreatDoor.words
open scoped List

theorem hless_int (B g i j : Nat) (a b : Int) (K : List Hd) (x y : Hd) (w : World) (h : Heaps w B g K) (hx : K[i]? = some x) (hy : K[j]? = some y) (ha : a = (i : Int)) (hb : b = (j : Int)) :
    Calls Tryz.prog 199 #[.pointer (some ⟨g, 0, none⟩), .int .i64 a, .int .i64 b] w fun e w' => e = .returned (.bool (ltHB x y)) ∧ Below w.heap.size w w' := by
  subst ha hb
  exact hless_any B g i j K x y w h hx hy
theorem hswap_int (B g i j : Nat) (a b : Int) (K : List Hd) (w : World) (h : Heaps w B g K) (hi : i < K.length) (hj : j < K.length) (ha : a = (i : Int)) (hb : b = (j : Int)) :
    Calls Tryz.prog 202 #[.pointer (some ⟨g, 0, none⟩), .int .i64 a, .int .i64 b] w (Done fun w' => Heaps w' B g (swapL K i j hi hj) ∧ Kept HS B w w') := by
  subst ha hb
  exact hswap_any B g i j K w h hi hj

/-- The heads' methods, as they are found by name. -/
theorem m_less (a : Addr) (w : World) : Sem.run Tryz.prog (method 352 145 (.pointer (some a)) "Less") w = .ok (199, .pointer (some a)) w := by kernel_rfl
theorem m_swap (a : Addr) (w : World) : Sem.run Tryz.prog (method 352 145 (.pointer (some a)) "Swap") w = .ok (202, .pointer (some a)) w := by kernel_rfl
theorem m_push (a : Addr) (w : World) : Sem.run Tryz.prog (method 352 145 (.pointer (some a)) "Push") w = .ok (201, .pointer (some a)) w := by kernel_rfl
theorem m_pop (a : Addr) (w : World) : Sem.run Tryz.prog (method 352 145 (.pointer (some a)) "Pop") w = .ok (200, .pointer (some a)) w := by kernel_rfl
theorem m_len (a : Addr) (w : World) : Sem.run Tryz.prog (method 352 145 (.pointer (some a)) "Len") w = .ok (89, .pointer (some a)) w := by kernel_rfl

structure UpIn (B g : Nat) (K : List Hd) (w : World) (j : Nat) (L : List Hd) (wr : World) : Prop where
  lt : j < L.length
  hs : Heaps wr B g L
  perm : L ~ K
  up : Up ltH L L.length j
  kept : Kept HS B w wr
structure HeapIn (B g : Nat) (K : List Hd) (w : World) (L : List Hd) (wr : World) : Prop where
  hs : Heaps wr B g L
  perm : L ~ K
  hp : Hp ltH L L.length
  kept : Kept HS B w wr
def Heaped (B g : Nat) (K : List Hd) (w w' : World) : Prop := ∃ L, HeapIn B g K w L w'
set_option maxHeartbeats 3200000 in
theorem up_any (B g j : Nat) (K : List Hd) (w : World) (h : Heaps w B g K) (hj : j < K.length) (hu : Up ltH K K.length j) (hlen : K.length ≤ 100000) :
    Calls Tryz.prog 136 #[.iface 145 (.pointer (some ⟨g, 0, none⟩)), .int .i64 (j : Int)] w (Done (Heaped B g K w)) := by
  have HI : Hid (UpIn B g K w j K w) := Lib.hid ⟨hj, h, List.Perm.refl _, hu, Kept.refl _ _ _⟩
  clear h hu
  go_enter Tryz.func136, Tryz.ntmps136
  go_wp2_with fail
  go_loopw [1] (fun v wr => ∃ (i : Nat) (L : List Hd), v = .int .i64 (i : Int) ∧ i ≤ j ∧ Hid (UpIn B g K w i L wr)) (fun v _ => (intOf v).toNat)
  case atStart => exact ⟨j, K, rfl, Nat.le_refl _, HI⟩
  case round =>
    obtain ⟨i, L, rfl, hij, HL⟩ := hrel
    rcases i with _ | k
    · have HE : Hid (HeapIn B g K w L wr) := Lib.hid ⟨HL.out.hs, HL.out.perm, HL.out.up.done0, HL.out.kept⟩
      clear HL
      go_wp2_with fail
      go_end0
      exact ⟨⟨_, rfl⟩, L, HE.out⟩
    · have hlt := HL.out.lt
      obtain ⟨x, hx⟩ : ∃ x, L[k + 1]? = some x := ⟨_, List.getElem?_eq_getElem hlt⟩
      obtain ⟨y, hy⟩ : ∃ y, L[k / 2]? = some y := ⟨_, List.getElem?_eq_getElem (by omega)⟩
      have hxx : L[k + 1] = x := (List.getElem?_eq_some_iff.1 hx).2
      have hyy : L[k / 2]'(by omega) = y := (List.getElem?_eq_some_iff.1 hy).2
      have k0 : (0 : Int) ≤ (k : Int) := by omega
      have k1 : (k : Int) ≤ 100000 := by have := HL.out.perm.length_eq; omega
      have g0 : (((k : Int) / 2) == (k : Int) + 1) = false := by rw [beq_eq_false_iff_ne]; omega
      have HC := Lib.hid (hless_int B g (k + 1) (k / 2) ((k : Int) + 1) ((k : Int) / 2) L x y wr HL.out.hs hx hy (by omega) (by omega))
      have hm1 := fun w => m_less ⟨g, 0, none⟩ w
      have hm2 := fun w => m_swap ⟨g, 0, none⟩ w
      have HX := Lib.hid (And.intro hxx hyy)
      clear hx hy hxx hyy
      go_wp2_with fail
      refine HC.out.mono ?_
      rintro e w2 ⟨rfl, hb2⟩
      have hs2 := HL.out.hs.later hb2
      have hk2 := HL.out.kept.trans (Kept.of_below hb2 HS B)
      rcases hr : ltHB x y with _ | _
      · have HE : Hid (HeapIn B g K w L w2) := Lib.hid ⟨hs2, HL.out.perm, HL.out.up.done (p := k / 2) hlt (by omega) (by omega) (by rw [HX.out.1, HX.out.2]; exact ltHB_no hr), hk2⟩
        clear hs2 hk2 hb2 HC
        go_wp2_with fail
        go_end0
        exact ⟨⟨_, rfl⟩, L, HE.out⟩
      · have HC2 := Lib.hid (hswap_int B g (k / 2) (k + 1) ((k : Int) / 2) ((k : Int) + 1) L w2 hs2 (by omega) hlt (by omega) (by omega))
        have HU := Lib.hid (HL.out.up.step ltH_ord (p := k / 2) hlt (by omega) hlt (by omega) (by omega) (by rw [HX.out.1, HX.out.2]; exact ltHB_yes hr))
        have HK2 := Lib.hid hk2
        clear hs2 hk2 hb2 HC
        go_wp2_with fail
        refine HC2.out.mono ?_
        rintro e w3 ⟨⟨u, rfl⟩, hs3, hk3⟩
        have HN : Hid (UpIn B g K w (k / 2) (swapL L (k / 2) (k + 1) (by omega) hlt) w3) := Lib.hid ⟨by rw [swapL_length]; omega, hs3, (swapL_perm _ _ _ _ _).trans HL.out.perm, by rw [swapL_length]; exact HU.out, HK2.out.trans hk3⟩
        clear hs3 hk3 HC2 HU HK2
        go_wp2_with fail
        go_roundw
        case rel => exact ⟨k / 2, _, by first | rfl | (congr 1; omega), by omega, HN⟩
        case measure => simp [intOf]; omega
end Go.Proofs.YtdljogdegcmmiaaGreatDoor.heap
