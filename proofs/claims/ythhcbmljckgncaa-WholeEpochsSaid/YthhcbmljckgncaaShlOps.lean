/- What shards' New, Many, Of, Get, Put, Len and Most answer. Condition: the shards and their caches lie in memory. -/
import Derived.Test.YthhcbmljckgncaaShlMem
namespace Go.Proofs.Ythhcbmljckgncaa.shl
set_option maxRecDepth 100000
open Go.RowKit Go.Proofs.Ythhcbmljckgncaa.words Go.Proofs.Ythhcbmljckgncaa.lru Go.Proofs.Ythhcbmljckgncaa.sha Go.Proofs.Ythhcbmljckgncaa.lrl

theorem infoPtr : (Try.prog.info? 120).map (fun i => (i.zero, i.size, i.bytes)) = some (some (.pointer none), 1, 8) := by kernel_rfl
def NewOut (w : World) (n r : Nat) (e : Ending) (w' : World) : Prop :=
  e = .returned (.pointer (some ⟨w.heap.size, 0, none⟩)) ∧ ∃ gs : List Nat, gs.length = n ∧ Shd w' w.heap.size w.heap.size gs ∧ Fam w' w.heap.size (news gs r) ∧ Below w.heap.size w w'
set_option maxHeartbeats 6400000 in
theorem snew_any (n r : Nat) (many room : Int) (w : World) (hn : (n : Int) = min (max many 1) 256) (hr : (r : Int) = max room 1) :
    Calls Try.prog 50 #[.int .i64 many, .int .i64 room] w (NewOut w n r) := by
  obtain ⟨i1, hi', hw0, hw1, hw2⟩ := info_three infoPtr
  have hr1 : 1 ≤ r := by omega
  have hn256 : n ≤ 256 := by omega
  obtain ⟨W1, hW1⟩ : ∃ W1, W1 = w.alloc (.cells #[.slice none 0 0] 119) := ⟨_, rfl⟩
  have hb1 : Below w.heap.size w W1 := by rw [hW1]; exact (Below.refl _ _).alloc (Nat.le_refl _) _
  have HI : Hid (NewIn w r [] (.slice none 0 0) W1) := Lib.hid ⟨by rw [hW1]; exact heap_alloc_new w _, World.ownsRow_nil _ _ _ _, Fam.nil _ _, hb1⟩
  have hmn : min (max many 1) 256 = (n : Int) := hn.symm
  have HR := Lib.hid hr
  have HW1 := Lib.hid hW1
  clear hb1 hW1 hn hr
  go_enter Try.func50, Try.ntmps50
  go_upto_region 2 with fail
  rw [← HW1.out]
  go_wp2_with fail
  go_loopw [11] (fun v wr => ∃ (k : Nat) (gs : List Nat) (vs : Value), v = .int .i64 (k : Int) ∧ k ≤ n ∧ Hid (NewIn w r gs vs wr) ∧ gs.length = k) (fun v _ => n - (intOf v).toNat)
  case atStart => exact ⟨0, [], _, rfl, Nat.zero_le _, HI, rfl⟩
  case round =>
    clear HI
    obtain ⟨k, gs, vs, rfl, hk, HN, hgk⟩ := hrel
    have k0 : (0 : Int) ≤ (k : Int) := by omega
    by_cases hkn : k < n
    · have k1 : (k : Int) < (n : Int) := by omega
      obtain ⟨A, c, rfl, _, _, _⟩ := own_facts HN.out.own
      have cg : wr.cell? ⟨w.heap.size, 0, none⟩ = some (.slice A gs.length c) := cell_of_blk HN.out.blk 0
      obtain ⟨w3, hw3⟩ : ∃ w3, w3 = wr.drew.alloc (.cells #[.int .i64 (r : Int), .slice none 0 0] 129) := ⟨_, rfl⟩
      have hb3 : Below wr.heap.size wr w3 := by rw [hw3]; exact (Below.refl _ _).drew.alloc (Nat.le_refl _) _
      have hz3 : w3.heap.size = wr.heap.size + 1 := by rw [hw3]; simp
      have HC : Hid (Calls Try.prog 61 #[.int .i64 room] wr.drew fun e w' => e = .returned (.pointer (some ⟨wr.heap.size, 0, none⟩)) ∧ w3 = w') := Lib.hid ((new_any r room wr.drew HR.out).mono fun e w' ⟨h1, h2⟩ => ⟨h1, by rw [h2, hw3]⟩)
      have hblk3 := (hb3.block _ (lt_of_some HN.out.blk)).trans HN.out.blk
      have cg3 : w3.cell? ⟨w.heap.size, 0, none⟩ = some (.slice A gs.length c) := cell_of_blk hblk3 0
      obtain ⟨w4, hw4⟩ : ∃ w4, w4 = w3.alloc (.cells #[ptrC wr.heap.size] 120) := ⟨_, rfl⟩
      have hb4 : Below w3.heap.size w3 w4 := by rw [hw4]; exact (Below.refl _ _).alloc (Nat.le_refl _) _
      have hb34 := hb3.trans (hb4.mono hb3.size)
      have HO4 := Lib.hid (ownL HN.out.own hb34)
      have hblk4 := (hb34.block _ (lt_of_some HN.out.blk)).trans HN.out.blk
      have HBLK4 := Lib.hid hblk4
      have HN4 : Hid (∀ (m : Nat) (u : Value), ([ptrC wr.heap.size] : List Value)[m]? = some u → w4.cell? ((⟨w3.heap.size, 0, none⟩ : Addr).add m) = some u) := Lib.hid fun m u hm => by rw [hw4, new_cell]; simpa using hm
      have cgA : ∀ o : Obj, (w3.alloc o).cell? ⟨w.heap.size, 0, none⟩ = some (.slice A gs.length c) := fun o => (World.cell?_of_block (Below.heap_alloc w3 o _ (lt_of_some hblk3))).trans cg3
      have HZ4 : Hid (w.heap.size ≤ w4.heap.size) := Lib.hid (Nat.le_trans HN.out.below.size hb34.size)
      have HNX := Lib.hid (fun (w5 : World) (b c' : Nat) (ho : w5.ownsRow w.heap.size 120 1 (.slice (some ⟨b, 0, none⟩) (gs.length + 1) c') (gs.length + 1) (gs.map ptrC ++ [ptrC wr.heap.size])) (hg : w4.grownBy w5 (Value.slice A gs.length c).ownBlock) => NewIn.next (wr := wr.drew) (w3 := w3) (w4 := w4) ⟨HN.out.blk, HN.out.own, ⟨HN.out.fam.lru, HN.out.fam.ok, HN.out.fam.apart⟩, ⟨HN.out.below.os, HN.out.below.tape, HN.out.below.output, HN.out.below.size, HN.out.below.block⟩⟩ hr1 hw3 hb4 ho hg)
      have HW4 := Lib.hid hw4
      unfold ptrC at hw4
      have HW4' := Lib.hid hw4.symm
      have HZ3 := Lib.hid hz3
      have HGK := Lib.hid hgk
      have hg256 : gs.length ≤ 256 := by omega
      clear hw3 hb3 hz3 hblk3 hw4 hb4 hb34 hblk4 HN hgk
      go_wp2_with fail
      go_region_law (first
        | (go_simp; go_at_call 61; refine HC.out.mono ?_; rintro e wx ⟨rfl, rfl⟩)
        | (rw [HW4'.out]; refine step_append_lies _ (by rfl) _ _ _ (by rfl) w.heap.size 120 i1 _ 1 8 Try.underlying117 hi' hw0 hw1 hw2 rfl (by omega) (.slice A gs.length c) gs.length (gs.map ptrC) (by rfl) HO4.out
              ⟨w3.heap.size, 0, none⟩ 1 1 [ptrC wr.heap.size] (by rfl) (by rfl) HN4.out (by simp [Value.oneCell', ptrC]) (by omega) (by simp only [maxLen]; omega) (by omega) HZ4.out w4.heap.size (by rfl) ?_; intro b c' w5 hown5 hgrow5 hat5 hlt5; have hg5 := (hgrow5.block _ (lt_of_some HBLK4.out) (fun e => own_ne HO4.out HBLK4.out (by decide) e.symm)).trans HBLK4.out; have hc5 := cell_of_blk hg5 0; have hf5 := free_of_blk hg5 0))
      all_goals
        have HNN := Lib.hid (HNX.out w5 b c' hown5 hgrow5)
        clear hown5 hgrow5 hat5 hlt5 hg5
        go_wp2_with fail
        go_roundw
        case rel => exact ⟨k + 1, gs ++ [wr.heap.size], _, by go_num, by omega, HNN, by rw [List.length_append, HGK.out]; rfl⟩
        case measure => simp [intOf]; omega
    · obtain rfl : k = n := by omega
      have HE : Hid (NewOut w k r (.returned (.pointer (some ⟨w.heap.size, 0, none⟩))) wr) := Lib.hid ⟨rfl, gs, hgk, ⟨Nat.le_refl _, _, HN.out.blk, HN.out.own⟩, HN.out.fam, HN.out.below⟩
      clear HN hgk
      go_wp2_with fail
      go_ret
      exact HE.out
theorem many_any (B h : Nat) (gs : List Nat) (w : World) (hs : Shd w B h gs) :
    Calls Try.prog 38 #[.pointer (some ⟨h, 0, none⟩)] w fun e w' => e = .returned (.int .i64 (gs.length : Int)) ∧ w = w' := by
  obtain ⟨A, c, c0, _, _⟩ := hs.cells
  clear hs
  go_enter Try.func38, Try.ntmps38
  go_wp2_with fail
  go_ret
  exact ⟨rfl, rfl⟩
set_option maxHeartbeats 1600000 in
theorem of_any (B h : Nat) (gs : List Nat) (k : ByteArray) (w : World) (hs : Shd w B h gs) (h1 : 0 < gs.length) (h2 : gs.length ≤ 256) (hk : k.size ≤ 9223372036854775807) :
    Calls Try.prog 34 #[.pointer (some ⟨h, 0, none⟩), .string k] w fun e w' => e = .returned (.int .i64 (ofF k gs.length : Int)) ∧ ∃ n, w' = w.drewN n := by
  obtain ⟨A, c, c0, _, _⟩ := hs.cells
  obtain ⟨s, hs1⟩ : ∃ s, s = sumF k.data.toList := ⟨_, rfl⟩
  have hlt := sumF_lt k.data.toList
  have HC := Lib.hid (fun w => sum_any k w hk)
  unfold ofF
  rw [← hs1] at hlt HC ⊢
  obtain ⟨n, hn⟩ : ∃ n, n = gs.length := ⟨_, rfl⟩
  rw [← hn] at c0 h1 h2 ⊢
  have w1 : IntKind.u32.wrap (n : Int) = (n : Int) := by rw [IntKind.wrap_u32']; omega
  have z1 : (0 : Int) ≤ (s : Int) := by omega
  have z2 : (0 : Int) < (n : Int) := by omega
  have z3 : ¬ ((n : Int) = 0) := by omega
  have z4 : ¬ (n = 0) := by omega
  have hmm : (s : Int) % (n : Int) = ((s % n : Nat) : Int) := by rw [Int.natCast_emod]
  have hml : s % n < n := Nat.mod_lt _ h1
  have w2 : IntKind.i64.wrap ((s : Int) % (n : Int)) = (s : Int) % (n : Int) := IntWalk.i64_in _ (by omega)
  have HMM := Lib.hid hmm
  clear hs hs1 hn hmm hml
  go_enter Try.func34, Try.ntmps34
  go_wp2_with fail
  go_quiet ((go_at_call 55; exact Calls.quiet_of_same ((HC.out _).mono fun e w' ⟨h1, h2⟩ => ⟨h1, h2.symm⟩)))
  go_wp2_with fail
  go_ret
  exact ⟨by rw [← HMM.out]; rfl, _, rfl⟩
end Go.Proofs.Ythhcbmljckgncaa.shl
