/- What the law's 'same' answers where a stack's rows are those that the numbers and the branches tell: yes. Condition: what they tell lies in memory. -/
import Derived.Test.YtniklphdnakehaaDoorStkOf
import Derived.Deep.RegionHeld3
import Derived.Lib.Builder
namespace Go.Proofs.YtniklphdnakehaaDoor.stk
set_option maxRecDepth 100000
open Go.RowKit Go.Proofs.YtniklphdnakehaaDoor.words Go.Proofs.YtniklphdnakehaaDoor.ext Go.Proofs.YtniklphdnakehaaDoor.name Go.Proofs.YtniklphdnakehaaDoor.tre

/-- The numbers of a stack's rows, as the law keeps them. -/
def Nums (w : World) (B : Nat) (A : Option Addr) (L : List (Nat × Int)) : Prop :=
  ∀ (i : Nat) (x : Nat × Int), L[i]? = some x → ∃ b off, A = some ⟨b, off, none⟩ ∧ b < B ∧ w.cell? ⟨b, off + i, none⟩ = some (.int .i64 x.2)
theorem Nums.keep {w w' : World} {B : Nat} {A : Option Addr} {L : List (Nat × Int)} (h : Nums w B A L) (hb : Below B w w') : Nums w' B A L := fun i x hx => by
  obtain ⟨b, off, h1, h2, h3⟩ := h i x hx
  exact ⟨b, off, h1, h2, (hb.cell (p := ⟨b, off + i, none⟩) h2).trans h3⟩
theorem Nums.more {w : World} {B B' : Nat} {A : Option Addr} {L : List (Nat × Int)} (h : Nums w B A L) (hB : B ≤ B') : Nums w B' A L := fun i x hx => by
  obtain ⟨b, off, h1, h2, h3⟩ := h i x hx
  exact ⟨b, off, h1, Nat.lt_of_lt_of_le h2 hB, h3⟩
/-- The branches made so far, as the law keeps them. -/
def Ptrs (w : World) (B : Nat) (A : Option Addr) (G : List Nat) : Prop :=
  ∀ (i : Nat) (g : Nat), G[i]? = some g → ∃ b off, A = some ⟨b, off, none⟩ ∧ b < B ∧ w.cell? ⟨b, off + i, none⟩ = some (.pointer (some ⟨g, 0, none⟩))
theorem Ptrs.keep {w w' : World} {B : Nat} {A : Option Addr} {G : List Nat} (h : Ptrs w B A G) (hb : Below B w w') : Ptrs w' B A G := fun i x hx => by
  obtain ⟨b, off, h1, h2, h3⟩ := h i x hx
  exact ⟨b, off, h1, h2, (hb.cell (p := ⟨b, off + i, none⟩) h2).trans h3⟩
theorem Ptrs.more {w : World} {B B' : Nat} {A : Option Addr} {G : List Nat} (h : Ptrs w B A G) (hB : B ≤ B') : Ptrs w B' A G := fun i x hx => by
  obtain ⟨b, off, h1, h2, h3⟩ := h i x hx
  exact ⟨b, off, h1, Nat.lt_of_lt_of_le h2 hB, h3⟩
theorem ptr_same (a : Addr) (w' : World) : Sem.run Tryd.prog (binOp .neq 39 (.pointer (some a)) (.pointer (some a))) w' = .ok (.bool false) w' := by
  have h : (Tryd.prog.info? 115).isSome = true := by kernel_rfl
  obtain ⟨j, hj⟩ := Option.isSome_iff_exists.1 h
  exact Lib.run_neq_ptr_same w' a Tryd.underlying39 hj
/-- Each row's branch is that of its number. -/
def Told (L : List (Nat × Int)) (G : List Nat) : Prop := ∀ x ∈ L, ∃ j : Nat, x.2 = (j : Int) ∧ G[j]? = some x.1
set_option maxHeartbeats 6400000 in
theorem same_yes (A : Option Addr) (n c : Nat) (ad : Int) (L : List (Nat × Int)) (Ai : Option Addr) (ci : Nat) (Ab : Option Addr) (cb : Nat) (G : List Nat) (w : World) (h : Rows w w.heap.size A L) (hn : L.length = n) (hi : Nums w w.heap.size Ai L) (hg : Ptrs w w.heap.size Ab G) (ht : Told L G) (hlm : n ≤ 140737488355328) :
    Calls Tryd.prog 31 #[stkV A n c ad, .slice Ai n ci, .slice Ab G.length cb] w fun e w' => e = .returned (.bool true) ∧ Below w.heap.size w w' := by
  obtain ⟨W1, hW1⟩ : ∃ W1, W1 = w.alloc (.cells #[.slice A n c, .int .i64 ad] 54) := ⟨_, rfl⟩
  have hb1 : Below w.heap.size w W1 := by rw [hW1]; exact (Below.refl _ _).alloc (Nat.le_refl _) _
  have hs1 : W1.heap[w.heap.size]? = some (.cells #[.slice A n c, .int .i64 ad] 54 (0, 0)) := by rw [hW1]; exact heap_alloc_new w _
  have HK := Lib.hid hs1
  have HR := Lib.hid ((h.keep hb1).more hb1.size)
  have HI := Lib.hid ((hi.keep hb1).more hb1.size)
  have HG := Lib.hid ((hg.keep hb1).more hb1.size)
  have HT := Lib.hid ht
  have HN := Lib.hid hn
  have HW1 := Lib.hid hW1
  have HB1 := Lib.hid hb1
  have s0 := cell_of_blk HK.out 0
  have s1 := cell_of_blk HK.out 1
  have gne : ((n : Int) != (n : Int)) = false := by simp
  clear hW1 hb1 hs1 h hi hg ht hn
  unfold stkV
  go_enter Tryd.func31, Tryd.ntmps31
  go_upto_region 1 with fail
  rw [← HW1.out]
  clear HW1
  have HC := Lib.hid (show Calls Tryd.prog 33 #[.agg #[.slice A n c, .int .i64 ad]] W1 fun e w' => e = .returned (.int .i64 (n : Int)) ∧ Below W1.heap.size W1 w' from slen_any A n c ad W1)
  go_wp2_with fail
  refine HC.out.mono ?_
  rintro e v1 ⟨rfl, hb⟩
  have HB := Lib.hid hb
  clear hb HC s0 s1
  have s0 := cell_of_blk ((HB.out.block _ (lt_of_some HK.out)).trans HK.out) 0
  have s1 := cell_of_blk ((HB.out.block _ (lt_of_some HK.out)).trans HK.out) 1
  have HC := Lib.hid (show Calls Tryd.prog 34 #[.agg #[.slice A n c, .int .i64 ad], .int .i64 (-1)] v1 fun e w' => e = .returned (.pointer none) ∧ Below v1.heap.size v1 w' from sat_no A n c (-1) ad v1 (Or.inl (by decide)))
  go_wp2_with fail
  refine HC.out.mono ?_
  rintro e v2 ⟨rfl, hb⟩
  replace HB := Lib.hid (HB.out.trans (hb.mono HB.out.size))
  clear hb HC s0 s1
  have s0 := cell_of_blk ((HB.out.block _ (lt_of_some HK.out)).trans HK.out) 0
  have s1 := cell_of_blk ((HB.out.block _ (lt_of_some HK.out)).trans HK.out) 1
  have HC := Lib.hid (show Calls Tryd.prog 35 #[.agg #[.slice A n c, .int .i64 ad], .int .i64 (-1)] v2 fun e w' => e = .returned (.int .i64 (-1)) ∧ Below v2.heap.size v2 w' from sid_no A n c (-1) ad v2 (Or.inl (by decide)))
  go_wp2_with fail
  refine HC.out.mono ?_
  rintro e v3 ⟨rfl, hb⟩
  replace HB := Lib.hid (HB.out.trans (hb.mono HB.out.size))
  clear hb HC s0 s1
  have s0 := cell_of_blk ((HB.out.block _ (lt_of_some HK.out)).trans HK.out) 0
  have s1 := cell_of_blk ((HB.out.block _ (lt_of_some HK.out)).trans HK.out) 1
  have HC := Lib.hid (show Calls Tryd.prog 34 #[.agg #[.slice A n c, .int .i64 ad], .int .i64 (n : Int)] v3 fun e w' => e = .returned (.pointer none) ∧ Below v3.heap.size v3 w' from sat_no A n c n ad v3 (Or.inr (Int.le_refl _)))
  go_wp2_with fail
  refine HC.out.mono ?_
  rintro e v4 ⟨rfl, hb⟩
  replace HB := Lib.hid (HB.out.trans (hb.mono HB.out.size))
  clear hb HC s0 s1
  have s0 := cell_of_blk ((HB.out.block _ (lt_of_some HK.out)).trans HK.out) 0
  have s1 := cell_of_blk ((HB.out.block _ (lt_of_some HK.out)).trans HK.out) 1
  have HC := Lib.hid (show Calls Tryd.prog 35 #[.agg #[.slice A n c, .int .i64 ad], .int .i64 (n : Int)] v4 fun e w' => e = .returned (.int .i64 (-1)) ∧ Below v4.heap.size v4 w' from sid_no A n c n ad v4 (Or.inr (Int.le_refl _)))
  go_wp2_with fail
  refine HC.out.mono ?_
  rintro e v5 ⟨rfl, hb⟩
  replace HB := Lib.hid (HB.out.trans (hb.mono HB.out.size))
  clear hb HC s0 s1 gne
  go_wp2_with fail
  go_loopw [40] (fun v wr => ∃ k : Nat, v = .int .i64 (k : Int) ∧ k ≤ n ∧ Hid (Below W1.heap.size W1 wr)) (fun v _ => n - (intOf v).toNat)
  case atStart => exact ⟨0, rfl, Nat.zero_le _, HB⟩
  case round =>
    clear HB
    obtain ⟨k, rfl, hk, HB⟩ := hrel
    by_cases hlt : k < n
    · obtain ⟨x, hx⟩ : ∃ x, L[k]? = some x := ⟨_, List.getElem?_eq_getElem (by rw [HN.out]; exact hlt)⟩
      obtain ⟨j, hj, hGj⟩ := HT.out x (List.mem_of_getElem? hx)
      obtain ⟨bi, oi, hAi, hbi, hci⟩ := (HI.out.keep HB.out) k x hx
      obtain ⟨bg, og, hAg, hbg, hcg⟩ := (HG.out.keep HB.out) j x.1 hGj
      rw [hj] at hci
      have hjn : j < G.length := (List.getElem?_eq_some_iff.1 hGj).1
      have hZ : W1.heap.size ≤ wr.heap.size := HB.out.size
      have hkr := (HB.out.block _ (lt_of_some HK.out)).trans HK.out
      have HR' := Lib.hid ((HR.out.keep HB.out).more hZ)
      have HSS : Hid (∀ w' : World, Below wr.heap.size wr w' → (w'.cell? ⟨w.heap.size, 0, none⟩ = some (.slice A n c) ∧ w'.cell? ⟨w.heap.size, 1, none⟩ = some (.int .i64 ad) ∧ w'.cell? ⟨bg, og + j, none⟩ = some (.pointer (some ⟨x.1, 0, none⟩)) ∧ Below wr.heap.size wr w')) := Lib.hid fun w' hb' => by
        have e := (hb'.block _ (lt_of_some hkr)).trans hkr
        exact ⟨cell_of_blk e 0, cell_of_blk e 1, (hb'.cell (p := ⟨bg, og + j, none⟩) (Nat.lt_of_lt_of_le hbg hZ)).trans hcg, hb'⟩
      have HID := Lib.hid (fun (w' : World) (hb' : Below wr.heap.size wr w') => show Calls Tryd.prog 35 #[.agg #[.slice A n c, .int .i64 ad], .int .i64 (k : Int)] w' fun e w'' => e = .returned (.int .i64 (j : Int)) ∧ Below wr.heap.size wr w'' from (sid_yes A n c k ad L x w' ((HR'.out.keep hb').more hb'.size) HN.out hx).mono fun e w'' ⟨h1, h2⟩ => ⟨by rw [h1, hj], hb'.trans (h2.mono hb'.size)⟩)
      have HAT := Lib.hid (fun (w' : World) (hb' : Below wr.heap.size wr w') => show Calls Tryd.prog 34 #[.agg #[.slice A n c, .int .i64 ad], .int .i64 (k : Int)] w' fun e w'' => e = .returned (.pointer (some ⟨x.1, 0, none⟩)) ∧ Below wr.heap.size wr w'' from (sat_yes A n c k ad L x w' ((HR'.out.keep hb').more hb'.size) HN.out hx).mono fun e w'' ⟨h1, h2⟩ => ⟨h1, hb'.trans (h2.mono hb'.size)⟩)
      have HB60 := Lib.hid (Below.refl wr.heap.size wr).drew
      subst hAi
      subst hAg
      have i0 : (0 : Int) ≤ (k : Int) := by omega
      have i1 : (k : Int) < (n : Int) := by omega
      have j0 : (0 : Int) ≤ (j : Int) := by omega
      have j1 : (j : Int) < (G.length : Int) := by omega
      have j2 : ((j : Int)).toNat = j := by omega
      have g1 : ((j : Int) != (j : Int)) = false := by simp
      have g2 := ptr_same ⟨x.1, 0, none⟩
      clear hx hj hGj hbi hbg hcg hjn hZ hkr HR'
      go_upto_region 6 with fail
      go_region_held3 (fun w' => (w'.cell? ⟨w.heap.size, 0, none⟩ = some (.slice A n c) ∧ w'.cell? ⟨w.heap.size, 1, none⟩ = some (.int .i64 ad) ∧ w'.cell? ⟨bg, og + j, none⟩ = some (.pointer (some ⟨x.1, 0, none⟩)) ∧ Below wr.heap.size wr w'))
        (first | exact HSS.out _ (by assumption) | exact HSS.out _ HB60.out)
        (first | ((go_at_call 35; with_reducible refine (HID.out _ (by first | assumption | exact HB60.out)).mono ?_); rintro e w' ⟨rfl, hb'⟩) | ((go_at_call 34; with_reducible refine (HAT.out _ (by first | assumption | exact HB60.out)).mono ?_); rintro e w' ⟨rfl, hb'⟩))
      all_goals
        have HF := Lib.hid (HB.out.trans (hb'.mono HB.out.size))
        clear hb'
        go_wp2_with fail
        go_roundw
        case rel => exact ⟨k + 1, by go_num, by omega, HF⟩
        case measure => simp [intOf]; omega
    · obtain rfl : k = n := by omega
      have HF := Lib.hid (HB1.out.trans (HB.out.mono HB1.out.size))
      clear HB
      go_wp2_with fail
      go_ret
      exact ⟨rfl, HF.out⟩
end Go.Proofs.YtniklphdnakehaaDoor.stk
