/- What extent's search for the first extent behind a place answers: a place ahead of which all extents end no later. Conditions: the extents are right. -/
import Derived.Test.YtkbhcncbpiimdaaGreatDoorJB2
import Derived.StillTailTactics
import Derived.Deep.LoopGhost
namespace Go.Proofs.YtkbhcncbpiimdaaGreatDoor.ext
set_option maxRecDepth 100000
open Go.RowKit Go.Proofs.YtkbhcncbpiimdaaGreatDoor.words

set_option maxHeartbeats 800000 in
theorem ends_any (x : Ex) (off : Int) (w : World) (h1 : -4611686018427387904 ≤ x.O) (h2 : x.O ≤ 4611686018427387904) (h3 : x.D.size ≤ 140737488355328) :
    Calls Tryz.prog 193 #[.agg #[.int .i64 x.O, .string x.D], .int .i64 off] w fun e w' => e = .returned (.bool (decide (off < x.O + (x.D.size : Int)))) ∧ Below w.heap.size w w' := by
  go_enter Tryz.func193, Tryz.ntmps193
  go_wp2_with fail
  go_ret
  exact ⟨rfl, (Below.refl _ _).alloc (Nat.le_refl _) _⟩
theorem ends_is (x : Ex) (off : Int) (r : Bool) (w : World) (h1 : -4611686018427387904 ≤ x.O) (h2 : x.O ≤ 4611686018427387904) (h3 : x.D.size ≤ 140737488355328) (hr : decide (off < x.O + (x.D.size : Int)) = r) :
    Calls Tryz.prog 193 #[.agg #[.int .i64 x.O, .string x.D], .int .i64 off] w fun e w' => e = .returned (.bool r) ∧ Below w.heap.size w w' :=
  (ends_any x off w h1 h2 h3).mono fun _ _ ⟨he, hb⟩ => ⟨by rw [he, hr], hb⟩

structure Asks (w : World) (A : Option Addr) (cap : Nat) (L : List Ex) (off : Int) (bl bo : Nat) : Prop where
  l : w.heap[bl]? = some (.cells #[.slice A L.length cap] 97 (0, 0))
  o : w.heap[bo]? = some (.cells #[.int .i64 off] 3 (0, 0))
  e : Exts w w.heap.size A L
theorem Asks.keep {w w' : World} {A : Option Addr} {cap : Nat} {L : List Ex} {off : Int} {bl bo : Nat} (h : Asks w A cap L off bl bo) (hb : Below w.heap.size w w') : Asks w' A cap L off bl bo :=
  ⟨(hb.block bl (lt_of_some h.l)).trans h.l, (hb.block bo (lt_of_some h.o)).trans h.o, (h.e.keep hb).more hb.size⟩

set_option maxRecDepth 100000 in
set_option maxHeartbeats 1600000 in
theorem asked_any (k : Nat) (x : Ex) (A : Option Addr) (cap : Nat) (L : List Ex) (off : Int) (bl bo : Nat) (r : Bool) (w : World) (h : Asks w A cap L off bl bo) (hx : L[k]? = some x) (_hlen : L.length ≤ 4611686018427387904)
    (h1 : -4611686018427387904 ≤ x.O) (h2 : x.O ≤ 4611686018427387904) (hr : decide (off < x.O + (x.D.size : Int)) = r) :
    Calls Tryz.prog 192 #[.int .i64 (k : Int), .pointer (some ⟨bl, 0, none⟩), .pointer (some ⟨bo, 0, none⟩)] w fun e w' => e = .returned (.bool r) ∧ Below w.heap.size w w' := by
  have hlt : k < L.length := (List.getElem?_eq_some_iff.1 hx).1
  obtain ⟨⟨b, o, rfl, hB, c0, c1⟩, _, _, h3⟩ := h.e k x hx
  have cl : w.cell? ⟨bl, 0, none⟩ = some (.slice (some ⟨b, o, none⟩) L.length cap) := cell_of_blk h.l 0
  have co : w.cell? ⟨bo, 0, none⟩ = some (.int .i64 off) := cell_of_blk h.o 0
  have i0 : (0 : Int) ≤ (k : Int) := by omega
  have i1 : (k : Int) < (L.length : Int) := by omega
  have HR := Lib.hid hr
  clear h hx hr
  go_enter Tryz.func192, Tryz.ntmps192
  go_wp2_with fail
  go_still_tail 5, (by kernel_rfl)
  change wpList _ _ _ _ _ w.drew
  generalize hw : w.drew = w2
  have HW : Hid (Below w.heap.size w w2) := by rw [← hw]; exact Lib.hid (Below.refl _ _).drew
  clear hw
  go_wp2_with fail
  refine (ends_is x off r _ h1 h2 h3 HR.out).mono ?_
  rintro e w3 ⟨rfl, hb3⟩
  have HB3 := Lib.hid (HW.out.trans (hb3.mono HW.out.size))
  clear hb3
  go_wp2_with fail
  go_ret
  exact ⟨rfl, HB3.out⟩

set_option maxHeartbeats 1600000 in
theorem search_any (A : Option Addr) (cap : Nat) (L : List Ex) (off : Int) (bl bo : Nat) (w : World) (h : Asks w A cap L off bl bo) (hlen : L.length ≤ 4611686018427387903)
    (hL : ∀ x ∈ L, 0 ≤ x.O ∧ x.O + (x.D.size : Int) ≤ 1048576) (hp : L.Pairwise fun x y => x.O + (x.D.size : Int) ≤ y.O) :
    Calls Tryz.prog 191 #[.int .i64 (L.length : Int), .func (.func 192) #[] #[.pointer (some ⟨bl, 0, none⟩), .pointer (some ⟨bo, 0, none⟩)]] w fun e w' =>
      (∃ i : Nat, i ≤ L.length ∧ e = .returned (.int .i64 (i : Int)) ∧ ∀ j y, j < i → L[j]? = some y → y.O + (y.D.size : Int) ≤ off) ∧ Below w.heap.size w w' := by
  have HA := Lib.hid h
  have HL := Lib.hid hL
  have HP := Lib.hid hp
  clear h hL hp
  go_enter Tryz.func191, Tryz.ntmps191
  go_wp2_with fail
  go_loopg [5, 6] L.length (fun g s5 s6 wr => ∃ lo hi : Nat, s5 = .int .i64 lo ∧ s6 = .int .i64 hi ∧ lo ≤ hi ∧ hi ≤ L.length ∧ hi - lo ≤ g ∧ (∀ j y, j < lo → L[j]? = some y → y.O + (y.D.size : Int) ≤ off) ∧ Below w.heap.size w wr)
  case atStart => exact ⟨0, L.length, rfl, rfl, Nat.zero_le _, Nat.le_refl _, by omega, fun j y hj => absurd hj (Nat.not_lt_zero _), Below.refl _ _⟩
  case round =>
    obtain ⟨lo, hi, rfl, rfl, hlh, hin, hg, hlo, hbel⟩ := hrel
    have HB := Lib.hid hbel
    have HLO := Lib.hid hlo
    clear hbel hlo
    by_cases hlt : lo < hi
    · obtain ⟨x, hx⟩ : ∃ x, L[(lo + hi) / 2]? = some x := ⟨_, List.getElem?_eq_getElem (by omega)⟩
      obtain ⟨x1, x2⟩ := HL.out x (List.mem_of_getElem? hx)
      have HX := Lib.hid hx
      have HAr := Lib.hid (HA.out.keep HB.out)
      have em : ((lo : Int) + (hi : Int)) / 2 = (((lo + hi) / 2 : Nat) : Int) := by omega
      have hm1 : lo ≤ (lo + hi) / 2 := by omega
      have hm2 : (lo + hi) / 2 < hi := by omega
      have EM := Lib.hid em
      obtain ⟨r, hr⟩ : ∃ r, r = decide (off < x.O + (x.D.size : Int)) := ⟨_, rfl⟩
      have HC := Lib.hid (asked_any ((lo + hi) / 2) x A cap L off bl bo r _ HAr.out HX.out (by omega) (by omega) (by omega) hr.symm)
      have HR := Lib.hid hr
      clear hx em hr
      rw [← EM.out] at HC
      cases r
      · go_wp2_with fail
        refine HC.out.mono ?_
        rintro e w2 ⟨rfl, hb2⟩
        have HB2 := Lib.hid (HB.out.trans (hb2.mono HB.out.size))
        have HN : Hid (x.O + (x.D.size : Int) ≤ off) := Lib.hid (by have := of_decide_eq_false HR.out.symm; omega)
        clear hb2 HC
        go_wp2_with fail
        go_roundg (hi - ((lo + hi) / 2 + 1))
        case measure => omega
        case rel =>
          refine ⟨(lo + hi) / 2 + 1, hi, by rw [EM.out]; go_num, rfl, by omega, hin, Nat.le_refl _, fun j y hj hy => ?_, HB2.out⟩
          have hn := HN.out
          by_cases hjm : j = (lo + hi) / 2
          · subst hjm
            rw [HX.out] at hy
            injection hy with e
            subst e
            exact hn
          · have := pair_at HP.out (show j < (lo + hi) / 2 by omega) hy HX.out
            omega
      · go_wp2_with fail
        refine HC.out.mono ?_
        rintro e w2 ⟨rfl, hb2⟩
        have HB2 := Lib.hid (HB.out.trans (hb2.mono HB.out.size))
        clear hb2 HC
        go_wp2_with fail
        go_roundg ((lo + hi) / 2 - lo)
        case measure => omega
        case rel => exact ⟨lo, (lo + hi) / 2, rfl, by rw [EM.out], by omega, by omega, Nat.le_refl _, HLO.out, HB2.out⟩
    · go_wp2_with fail
      go_ret
      exact ⟨⟨lo, by omega, rfl, HLO.out⟩, HB.out⟩

set_option maxHeartbeats 800000 in
theorem first_any (A : Option Addr) (cap : Nat) (L : List Ex) (off : Int) (w : World) (hI : Exts w w.heap.size A L) (hlen : L.length ≤ 4611686018427387903)
    (hL : ∀ x ∈ L, 0 ≤ x.O ∧ x.O + (x.D.size : Int) ≤ 1048576) (hp : L.Pairwise fun x y => x.O + (x.D.size : Int) ≤ y.O) :
    Calls Tryz.prog 166 #[.slice A L.length cap, .int .i64 off] w fun e w' =>
      (∃ i : Nat, i ≤ L.length ∧ e = .returned (.int .i64 (i : Int)) ∧ ∀ j y, j < i → L[j]? = some y → y.O + (y.D.size : Int) ≤ off) ∧ Below w.heap.size w w' := by
  obtain ⟨w2, hw2⟩ : ∃ w2, w2 = (w.alloc (.cells #[.slice A L.length cap] 97)).alloc (.cells #[.int .i64 off] 3) := ⟨_, rfl⟩
  have hb : Below w.heap.size w w2 := by
    rw [hw2]
    exact ((Below.refl _ _).alloc (Nat.le_refl _) _).alloc (by simp) _
  have hA : Asks w2 A cap L off w.heap.size (w.heap.size + 1) := by
    refine ⟨?_, ?_, (hI.keep hb).more hb.size⟩
    · rw [hw2]
      exact (Below.heap_alloc _ _ _ (by simp)).trans (heap_alloc_new w _)
    · rw [hw2]
      have := heap_alloc_new (w.alloc (.cells #[.slice A L.length cap] 97)) (.cells #[.int .i64 off] 3)
      simpa using this
  have HC := Lib.hid (search_any A cap L off _ _ w2 hA hlen hL hp)
  have HB := Lib.hid hb
  rw [hw2] at HC HB
  clear hI hL hp hb hA hw2
  go_enter Tryz.func166, Tryz.ntmps166
  go_wp2_with fail
  refine HC.out.mono ?_
  rintro e w3 ⟨⟨i, hi, rfl, hlo⟩, hb3⟩
  have HLO := Lib.hid hlo
  have HB3 := Lib.hid (HB.out.trans (hb3.mono HB.out.size))
  clear hlo hb3 HC
  go_wp2_with fail
  go_ret
  exact ⟨⟨i, hi, rfl, HLO.out⟩, HB3.out⟩
end Go.Proofs.YtkbhcncbpiimdaaGreatDoor.ext
