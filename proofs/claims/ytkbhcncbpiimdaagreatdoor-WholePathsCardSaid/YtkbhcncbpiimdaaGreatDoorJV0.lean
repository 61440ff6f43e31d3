/- What is seen of a root by a name, and what a branch upon it turns of that: plain words. And what Look answers of the root. Conditions: the stack lies in memory, and its trees may be. Trees, and one more behind them, in a row of one's own; and what an append yields, wherever the row that comes behind lies. That one branch makes a stack; a branch without entries upon trees; what is left where the uppermost branch is removed. Condition: the library's MaxLen holds a number. -/
import Derived.Test.YtkbhcncbpiimdaaGreatDoorJP
import Derived.Test.YtkbhcncbpiimdaaGreatDoorJH
import Derived.Laws.AppendOwnNone
import Derived.Test.YtkbhcncbpiimdaaGreatDoorJH2
namespace Go.Proofs.YtkbhcncbpiimdaaGreatDoor.seen
set_option maxRecDepth 100000
open Go.RowKit Go.Proofs.YtkbhcncbpiimdaaGreatDoor.words Go.Proofs.YtkbhcncbpiimdaaGreatDoor.ext Go.Proofs.YtkbhcncbpiimdaaGreatDoor.name Go.Proofs.YtkbhcncbpiimdaaGreatDoor.tre Go.Proofs.YtkbhcncbpiimdaaGreatDoor.stk

/-- Look's answer of the root: the kind, the spot, how many directories, and whether anything is seen. -/
def Hits (R : List Nd) (s : ByteArray) (k l i : Int) (n : Nat) (b : Bool) : Prop :=
  ∃ Q', EntN s (R.take (dirsN R)) Q' ∧ ((b = false ∧ seenOf Q' = [] ∧ k = 0 ∧ l = 0 ∧ i = 0 ∧ n = 0) ∨
    (b = true ∧ ∃ (lv nd : Nat) (d : Nd), (seenOf Q')[0]? = some d ∧ k = d.K ∧ l = (lv : Int) ∧ i = (nd : Int) ∧ Top (rootP (tabs R)) (R.take (dirsN R)) s (lv, nd) ∧ n = if d.K = 2 then (seenOf Q').length else 0))
theorem root_spot {R : List Nd} {k : Nat} {p : Nat × Nat} (h : (rootP (tabs R))[k]? = some p) : p = (k, 0) := by
  unfold rootP at h
  rw [List.getElem?_take] at h
  split at h
  · unfold roots at h
    rw [List.getElem?_map] at h
    obtain ⟨x, hx, rfl⟩ := Option.map_eq_some_iff.1 h
    rw [List.getElem?_range (by
      have := (List.getElem?_eq_some_iff.1 hx).1
      rwa [List.length_range] at this)] at hx
    rw [← Option.some.inj hx]
  · cases h
theorem top_of {R D : List Nd} {s : ByteArray} {lv nd : Nat} (h : Top (rootP (tabs R)) D s (lv, nd)) : ∃ (y : Nd) (i : Nat), D[lv]? = some y ∧ y.N[i]? = some s ∧ (∀ z ∈ D.take lv, ∀ j : Nat, z.N[j]? ≠ some s) ∧ nd = 1 + countL (y.I.take i) := by
  obtain ⟨k, p, y, i, h1, h2, h3, h4, h5⟩ := h
  obtain rfl := root_spot h1
  injection h2 with e1 e2
  subst e1 e2
  exact ⟨y, i, h3, h4, h5, by omega⟩
theorem first_eq {D : List Nd} {s : ByteArray} {k k' : Nat} {y y' : Nd} {i i' : Nat} (h1 : D[k]? = some y) (h2 : y.N[i]? = some s) (h3 : ∀ z ∈ D.take k, ∀ j : Nat, z.N[j]? ≠ some s) (g1 : D[k']? = some y') (g2 : y'.N[i']? = some s) (g3 : ∀ z ∈ D.take k', ∀ j : Nat, z.N[j]? ≠ some s) : k = k' := by
  rcases Nat.lt_trichotomy k k' with hl | hl | hl
  · exact (g3 y (List.mem_of_getElem? (by rw [List.getElem?_take_of_lt hl]; exact h1)) i h2).elim
  · exact hl
  · exact (h3 y' (List.mem_of_getElem? (by rw [List.getElem?_take_of_lt hl]; exact g1)) i' g2).elim
theorem Fine.asc {R : List Nd} (h : Fine R) : ∀ d ∈ R, Asc d.N ∧ d.N.length = d.I.length := fun d hd => by
  obtain ⟨h1, h2, _⟩ := one_right (allB_one (h.all d hd))
  exact ⟨h1, h2⟩
theorem Hits.uniq {R : List Nd} {s : ByteArray} {k l i k' l' i' : Int} {n n' : Nat} {b b' : Bool} (hf : Fine R) (h : Hits R s k l i n b) (g : Hits R s k' l' i' n' b') : k = k' ∧ l = l' ∧ i = i' ∧ n = n' ∧ b = b' := by
  obtain ⟨Q, h1, h2⟩ := h
  obtain ⟨Q2, g1, g2⟩ := g
  have hasc : ∀ d ∈ R.take (dirsN R), Asc d.N := fun d hd => (hf.asc d (List.mem_of_mem_take hd)).1
  obtain rfl := EntN.uniq hasc h1 g1
  rcases h2 with ⟨rfl, a1, rfl, rfl, rfl, rfl⟩ | ⟨rfl, lv, nd, d, a1, rfl, rfl, rfl, a2, rfl⟩
  · rcases g2 with ⟨rfl, b1, rfl, rfl, rfl, rfl⟩ | ⟨rfl, lv, nd, d, b1, _⟩
    · exact ⟨rfl, rfl, rfl, rfl, rfl⟩
    · rw [a1] at b1; cases b1
  · rcases g2 with ⟨rfl, b1, rfl, rfl, rfl, rfl⟩ | ⟨rfl, lv', nd', d', b1, rfl, rfl, rfl, b2, rfl⟩
    · rw [b1] at a1; cases a1
    · rw [a1] at b1
      obtain rfl := Option.some.inj b1
      obtain ⟨y, j, t1, t2, t3, t4⟩ := top_of a2
      obtain ⟨y', j', r1, r2, r3, r4⟩ := top_of b2
      obtain rfl := first_eq t1 t2 t3 r1 r2 r3
      rw [t1] at r1
      obtain rfl := Option.some.inj r1
      obtain rfl := (hasc y (List.mem_of_getElem? t1)).one t2 r2
      exact ⟨rfl, rfl, by rw [t4, r4], rfl, rfl⟩
theorem seenOf_head {Q : List Nd} {d : Nd} (h : (seenOf Q)[0]? = some d) : Q[0]? = some d := by
  rcases Q with _ | ⟨x, Q⟩
  · simp [seenOf] at h
  · unfold seenOf at h
    simp only at h
    split at h
    · simp at h
    · split at h
      · rw [List.getElem?_take] at h
        split at h
        · rw [List.getElem?_take] at h
          split at h
          · exact h
          · cases h
        · cases h
      · rw [List.getElem?_take] at h
        split at h
        · exact h
        · cases h
theorem Sees.hits {R : List Nd} {s : ByteArray} {Q' : List Nd} {w w' : World} {en : Ending} (hQ : EntN s (R.take (dirsN R)) Q') (h : Sees R (rootP (tabs R)) (R.take (dirsN R)) s Q' w en w') :
    (∃ k l i Af nf cf b, Hits R s k l i nf b ∧ en = .returned (.tuple #[.agg #[.int .i64 k, .int .i64 l, .int .i64 i, .slice Af nf cf], .bool b])) ∧ Below w.heap.size w w' := by
  obtain ⟨h, hb⟩ := h
  refine ⟨?_, hb⟩
  rcases h with ⟨h1, rfl⟩ | ⟨lv, nd, d, Af, nf, cf, h1, h2, h3, h4, rfl⟩
  · exact ⟨0, 0, 0, none, 0, 0, false, ⟨Q', hQ, .inl ⟨rfl, h1, rfl, rfl, rfl, rfl⟩⟩, rfl⟩
  · refine ⟨d.K, (lv : Int), (nd : Int), Af, nf, cf, true, ⟨Q', hQ, .inr ⟨rfl, lv, nd, d, h1, rfl, rfl, rfl, h3, ?_⟩⟩, rfl⟩
    rcases h4 with ⟨h5, h6⟩ | ⟨h5, Q, h6, h7, _⟩
    · rw [if_neg h5, h6]
    · rw [if_pos h5, h6, h7.length]
end Go.Proofs.YtkbhcncbpiimdaaGreatDoor.seen

namespace Go.Proofs.YtkbhcncbpiimdaaGreatDoor.seen
set_option maxRecDepth 100000
open Go.RowKit Go.Proofs.YtkbhcncbpiimdaaGreatDoor.words Go.Proofs.YtkbhcncbpiimdaaGreatDoor.ext Go.Proofs.YtkbhcncbpiimdaaGreatDoor.name Go.Proofs.YtkbhcncbpiimdaaGreatDoor.tre Go.Proofs.YtkbhcncbpiimdaaGreatDoor.stk

end Go.Proofs.YtkbhcncbpiimdaaGreatDoor.seen

namespace Go.Proofs.YtkbhcncbpiimdaaGreatDoor.seen
set_option maxRecDepth 100000
open Go.RowKit Go.Proofs.YtkbhcncbpiimdaaGreatDoor.words Go.Proofs.YtkbhcncbpiimdaaGreatDoor.ext Go.Proofs.YtkbhcncbpiimdaaGreatDoor.name Go.Proofs.YtkbhcncbpiimdaaGreatDoor.tre Go.Proofs.YtkbhcncbpiimdaaGreatDoor.stk

def oT : Nd := dirN [ab] [textN xb]
theorem ot_v (r : Raw) : ndV oT r = dcV r := rfl
theorem ot_fine : ∀ t ∈ [oT], depth t ≤ 1000 ∧ (treeB t = true → countC t = (count t : Int) ∧ count t ≤ 4096) := fun t ht => by
  obtain rfl : t = oT := by simpa using ht
  exact ⟨by decide +kernel, fun _ => ⟨by decide +kernel, by decide +kernel⟩⟩
theorem ot_right : ∀ t ∈ [oT], treeB t = true := fun t ht => by
  obtain rfl : t = oT := by simpa using ht
  decide +kernel
theorem trees_one {w W : World} {x : Nd} {rx : Raw} (hW : W = w.alloc (.cells (rawCells x rx) 99)) (hx : NdAt w w.heap.size x rx) :
    Trees W W.heap.size (some ⟨w.heap.size, 0, none⟩) [x] (fun _ => rx) := by
  have hb : Below w.heap.size w W := by rw [hW]; exact (Below.refl _ _).alloc (Nat.le_refl _) _
  have hk : W.heap[w.heap.size]? = some (.cells (rawCells x rx) 99 (0, 0)) := by rw [hW]; exact heap_alloc_new w _
  intro i z hz
  rcases i with _ | i
  · obtain rfl : x = z := by simpa using hz
    refine ⟨⟨_, 0, rfl, lt_of_some hk, fun j v hj => ?_⟩, hx.later hb⟩
    rw [cell_of_blk hk, show 0 + 0 * 7 + j = j by omega]
    exact hj
  · simp at hz
set_option maxHeartbeats 6400000 in
theorem onestack_any (m : Int) (w : World) (hm : w.cell? ⟨0, 0, none⟩ = some (.int .i64 m)) : Calls Tryz.prog 23 #[] w fun e w' => e = .returned (.bool true) ∧ Below w.heap.size w w' := by
  have HM := Lib.hid hm
  clear hm
  obtain ⟨W1, hW1⟩ : ∃ W1, W1 = w.alloc (.cells #[.string ab] 9) := ⟨_, rfl⟩
  have hb1 : Below w.heap.size w W1 := by rw [hW1]; exact (Below.refl _ _).alloc (Nat.le_refl _) _
  have HT1 : Hid (Txts W1 W1.heap.size (some ⟨w.heap.size, 0, none⟩) [ab]) := by rw [hW1]; exact Lib.hid (txts_one w ab (by decide))
  have hW1' : W1 = w.alloc (.cells #[.string ⟨#[97]⟩] 9) := hW1
  have HW1 := Lib.hid hW1'
  have HB1 := Lib.hid hb1
  clear hW1 hW1' hb1
  go_enter Tryz.func23, Tryz.ntmps23
  go_wp2_with fail
  rw [← HW1.out]
  refine (show Calls Tryz.prog 39 #[.string ⟨#[120]⟩] W1 _ from ((text_any xb W1 (by decide)).mono fun _ _ h => h.as xb_v)).mono ?_
  rintro e w2 ⟨r2, rfl, hn2, hb2⟩
  clear HW1
  unfold x1V
  obtain ⟨W3, hW3⟩ : ∃ W3, W3 = w2.alloc (.cells (rawCells (textN xb) r2) 99) := ⟨_, rfl⟩
  have hb3 : Below w2.heap.size w2 W3 := by rw [hW3]; exact (Below.refl _ _).alloc (Nat.le_refl _) _
  have hb13 := hb2.trans (hb3.mono hb2.size)
  have HP3 := Lib.hid (one_dir ab (textN xb) r2 w.heap.size w2 W3 hW3 ((HT1.out.keep hb13).more hb13.size) hn2)
  have HB3 := Lib.hid (HB1.out.trans (hb13.mono HB1.out.size))
  have hW3' := hW3
  rw [xb_cells] at hW3'
  have HW3 := Lib.hid hW3'
  clear hW3 hW3' hb3 hb13 hb2 hn2 HT1 HB1
  go_wp2_with fail
  rw [← HW3.out]
  refine (HP3.out.mono fun _ _ h => h.as ot_v).mono ?_
  rintro e w5 ⟨r5, rfl, hn5, hb5⟩
  obtain ⟨W6, hW6⟩ : ∃ W6, W6 = w5.alloc (.cells (rawCells oT r5) 99) := ⟨_, rfl⟩
  have hb6 : Below w5.heap.size w5 W6 := by rw [hW6]; exact (Below.refl _ _).alloc (Nat.le_refl _) _
  have hb56 := hb5.trans (hb6.mono hb5.size)
  have HB6 := Lib.hid (HB3.out.trans (hb56.mono HB3.out.size))
  have HC := Lib.hid (show Calls Tryz.prog 37 #[.slice (some ⟨w5.heap.size, 0, none⟩) 1 1] W6 (OfOut [oT] W6) from of_any _ 1 [oT] _ m W6 (trees_one hW6 hn5) (below_cell HM.out HB6.out) ot_fine (by decide))
  have hW6' : W6 = w5.alloc (.cells #[.int .i64 2, .bool false, .slice r5.An 1 r5.cn, .slice r5.Ai 1 r5.ci, .int .i64 0, .slice r5.Ae 0 r5.ce, .string ⟨#[]⟩] 99) := hW6
  have HW6 := Lib.hid hW6'
  clear hn5 hb5 hb6 hb56 hW6 hW6' HP3 HB3 HW3
  unfold dcV
  go_wp2_with fail
  rw [← HW6.out]
  refine HC.out.mono ?_
  rintro e w7 hof
  rcases hof with ⟨A, c, L, rfl, hok, _, _, hb7⟩ | ⟨er, _, hbad, _⟩
  · obtain ⟨W8, hW8⟩ : ∃ W8, W8 = w7.alloc (.cells #[.slice A 1 c, .int .i64 1] 27) := ⟨_, rfl⟩
    have hb8 : Below w7.heap.size w7 W8 := by rw [hW8]; exact (Below.refl _ _).alloc (Nat.le_refl _) _
    have HK8 := Lib.hid (show W8.heap[w7.heap.size]? = some (.cells #[.slice A 1 c, .int .i64 1] 27 (0, 0)) by rw [hW8]; exact heap_alloc_new w7 _)
    have HB8 := Lib.hid ((HB6.out.trans (hb7.mono HB6.out.size)).trans (hb8.mono (HB6.out.trans (hb7.mono HB6.out.size)).size))
    have HW8 := Lib.hid hW8
    have t : ([oT] : List Nd).length = 1 := rfl
    clear hok hb7 hb8 hW8 HC HW6 HB6
    unfold stkV
    go_upto_region 2 with fail
    rw [← HW8.out]
    clear HW8 t
    have s0 := cell_of_blk HK8.out 0
    have s1 := cell_of_blk HK8.out 1
    have HC := Lib.hid (show Calls Tryz.prog 32 #[.agg #[.slice A 1 c, .int .i64 1]] W8 fun e w' => e = .returned (.int .i64 1) ∧ Below W8.heap.size W8 w' from slen_any A 1 c 1 W8)
    go_wp2_with fail
    refine HC.out.mono ?_
    rintro e v1 ⟨rfl, hb⟩
    have HF := Lib.hid (HB8.out.trans (hb.mono HB8.out.size))
    clear HC hb s0 s1
    go_wp2_with fail
    go_ret
    exact ⟨rfl, HF.out⟩
  · exfalso
    rcases hbad with ⟨_, t, ht, hf⟩ | ⟨_, hlt⟩
    · rw [ot_right t ht] at hf; cases hf
    · exact absurd hlt (by decide)
end Go.Proofs.YtkbhcncbpiimdaaGreatDoor.seen
