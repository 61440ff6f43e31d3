/- How an argument of bytes lies in memory. No condition. -/
import Derived.Test.YtmmpceodhadipaaDoorJH
import Derived.Test.YtmmpceodhadipaaDoorJY6
namespace Go.Proofs.YtmmpceodhadipaaDoor.mrg
set_option maxRecDepth 100000
open Go.ChangeShapes Go.RowKit Go.Proofs.YtmmpceodhadipaaDoor.words Go.Proofs.YtmmpceodhadipaaDoor.ext Go.Proofs.YtmmpceodhadipaaDoor.tre
section
variable {W : World} {base : Nat} {spare : Nat → Bool} {held : Bool} {H : Type} {enc : TypeId × Value → H}
theorem cellsU8 : Tryd.prog.cellsOf 5 = 1 := by kernel_rfl
theorem u8s_of {fuel : Nat} {a0 : Option Addr} {len cap : Nat} {x : DataW H × List MemPlace} (h : DataW.trod enc Tryd.prog W base spare held fuel 76 [.slice a0 len cap] = some x) (hs : Sized 76 x.1) :
    ∃ L : List Nat, L.length = len ∧ Lies W a0 (L.map u8V) ∧ ∀ y ∈ L, y ≤ 255 := by
  rcases a0 with _ | a
  · obtain ⟨rfl, _⟩ := (slice_facts Tryd.underlying76 h hs).2.2 rfl
    exact ⟨[], rfl, fun i x hx => by simp at hx, fun y hy => by cases hy⟩
  · obtain ⟨n, _, hel⟩ := slice_each Tryd.underlying76 h hs
    have each : ∀ i, i < len → ∃ y : Nat, y ≤ 255 ∧ W.cell? (a.add i) = some (u8V y) := fun i hlt => by
      obtain ⟨cs, d, hcs, ht, hsd⟩ := hel i hlt
      rw [cellsU8, Nat.mul_one] at hcs
      obtain ⟨s, rfl, hd, hw⟩ := DataW.trod_int Tryd.underlying5 ht
      obtain ⟨_, _, hat⟩ := World.cells?_some hcs
      have h0 := hat 0 (by omega)
      have e : (a.add i).add 0 = a.add i := by simp [Addr.add]
      rw [e] at h0
      have hb : 0 ≤ s ∧ s ≤ 255 := by
        simp [Lit.wf, IntKind.min, IntKind.max, IntKind.signed, IntKind.bits] at hw
        omega
      refine ⟨s.toNat, by omega, ?_⟩
      rw [h0]
      unfold u8V
      rw [Int.toNat_of_nonneg hb.1]
      rfl
    obtain ⟨f, hfl⟩ := Deep.choose_lt each
    refine ⟨(List.range len).map f, by simp, fun i x hx => ?_, fun y hy => ?_⟩
    · have hlt : i < len := by
        have := (List.getElem?_eq_some_iff.1 hx).1
        simpa using this
      have hxe : x = u8V (f i) := by
        rw [List.getElem?_map, List.getElem?_map, List.getElem?_range hlt] at hx
        simpa using hx.symm
      subst hxe
      obtain ⟨b, off, spot⟩ := a
      have h0 := (hfl 0 (by omega)).2
      have hspot : spot = none := by simpa [Addr.add] using World.cell?_spot h0
      subst hspot
      have hcell := (hfl i hlt).2
      rw [add_place] at hcell
      exact ⟨b, off, rfl, World.block_lt_of_cell? W _ hcell, hcell⟩
    · obtain ⟨i, hi, rfl⟩ := List.mem_map.1 hy
      exact (hfl i (by simpa using hi)).1
end
end Go.Proofs.YtmmpceodhadipaaDoor.mrg
