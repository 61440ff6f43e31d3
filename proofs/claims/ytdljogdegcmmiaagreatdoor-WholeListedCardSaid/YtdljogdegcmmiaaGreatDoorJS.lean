/- That one branch makes a stack; a branch without entries upon trees; what is left where the uppermost branch is removed. Condition: the library's MaxLen holds a number. -/
import Derived.Test.YtdljogdegcmmiaaGreatDoorJQ
import Derived.Test.YtdljogdegcmmiaaGreatDoorJH2
namespace Go.Proofs.YtdljogdegcmmiaaGreatDoor.seen
set_option maxRecDepth 100000
open Go.RowKit Go.Proofs.YtdljogdegcmmiaaGreatDoor.words Go.Proofs.YtdljogdegcmmiaaGreatDoor.ext Go.Proofs.YtdljogdegcmmiaaGreatDoor.name Go.Proofs.YtdljogdegcmmiaaGreatDoor.tre Go.Proofs.YtdljogdegcmmiaaGreatDoor.stk

def oT : Nd := dirN [ab] [textN xb]
theorem ot_v (r : Raw) : ndV oT r = dcV r := rfl
theorem ot_fine : ∀ t ∈ [oT], depth t ≤ 1000 ∧ (treeB t = true → countC t = (count t : Int) ∧ count t ≤ 4096) := fun t ht => by
  obtain rfl : t = oT := by simpa using ht
  exact ⟨by decide +kernel, fun _ => ⟨by decide +kernel, by decide +kernel⟩⟩
theorem ot_right : ∀ t ∈ [oT], treeB t = true := fun t ht => by
  obtain rfl : t = oT := by simpa using ht
  decide +kernel
theorem trees_one {w W : World} {x : Nd} {rx : Raw} (hW : W = w.alloc (.cells (rawCells x rx) 106)) (hx : NdAt w w.heap.size x rx) :
    Trees W W.heap.size (some ⟨w.heap.size, 0, none⟩) [x] (fun _ => rx) := by
  have hb : Below w.heap.size w W := by rw [hW]; exact (Below.refl _ _).alloc (Nat.le_refl _) _
  have hk : W.heap[w.heap.size]? = some (.cells (rawCells x rx) 106 (0, 0)) := by rw [hW]; exact heap_alloc_new w _
  intro i z hz
  rcases i with _ | i
  · obtain rfl : x = z := by simpa using hz
    refine ⟨⟨_, 0, rfl, lt_of_some hk, fun j v hj => ?_⟩, hx.later hb⟩
    rw [cell_of_blk hk, show 0 + 0 * 7 + j = j by omega]
    exact hj
  · simp at hz
set_option maxHeartbeats 6400000 in
theorem onestack_any (m : Int) (w : World) (hm : w.cell? ⟨0, 0, none⟩ = some (.int .i64 m)) : Calls Tryz.prog 44 #[] w fun e w' => e = .returned (.bool true) ∧ Below w.heap.size w w' := by
  have HM := Lib.hid hm
  clear hm
  obtain ⟨W1, hW1⟩ : ∃ W1, W1 = w.alloc (.cells #[.string ab] 9) := ⟨_, rfl⟩
  have hb1 : Below w.heap.size w W1 := by rw [hW1]; exact (Below.refl _ _).alloc (Nat.le_refl _) _
  have HT1 : Hid (Txts W1 W1.heap.size (some ⟨w.heap.size, 0, none⟩) [ab]) := by rw [hW1]; exact Lib.hid (txts_one w ab (by decide))
  have hW1' : W1 = w.alloc (.cells #[.string ⟨#[97]⟩] 9) := hW1
  have HW1 := Lib.hid hW1'
  have HB1 := Lib.hid hb1
  clear hW1 hW1' hb1
  go_enter Tryz.func44, Tryz.ntmps44
  go_wp2_with fail
  rw [← HW1.out]
  refine (show Calls Tryz.prog 53 #[.string ⟨#[120]⟩] W1 _ from ((text_any xb W1 (by decide)).mono fun _ _ h => h.as xb_v)).mono ?_
  rintro e w2 ⟨r2, rfl, hn2, hb2⟩
  clear HW1
  unfold x1V
  obtain ⟨W3, hW3⟩ : ∃ W3, W3 = w2.alloc (.cells (rawCells (textN xb) r2) 106) := ⟨_, rfl⟩
  have hb3 : Below w2.heap.size w2 W3 := by rw [hW3]; exact (Below.refl _ _).alloc (Nat.le_refl _) _
  have hb13 := hb2.trans (hb3.mono hb2.size)
  have HP3 := Lib.hid (one_dir ab (textN xb) r2 w.heap.size w2 W3 hW3 ((HT1.out.keep hb13).more hb13.size) hn2)
  have HB3 := Lib.hid (HB1.out.trans (hb13.mono HB1.out.size))
  have hW3' := hW3
  rw [xb_cells] at hW3'
  have HW3 := Lib.hid hW3'
  clear hW3 hW3' hb3 hb13 hb2 hn2 HT1 HB1
  go_wp2_with fail
  rw [← HW3.out]
  refine (HP3.out.mono fun _ _ h => h.as ot_v).mono ?_
  rintro e w5 ⟨r5, rfl, hn5, hb5⟩
  obtain ⟨W6, hW6⟩ : ∃ W6, W6 = w5.alloc (.cells (rawCells oT r5) 106) := ⟨_, rfl⟩
  have hb6 : Below w5.heap.size w5 W6 := by rw [hW6]; exact (Below.refl _ _).alloc (Nat.le_refl _) _
  have hb56 := hb5.trans (hb6.mono hb5.size)
  have HB6 := Lib.hid (HB3.out.trans (hb56.mono HB3.out.size))
  have HC := Lib.hid (show Calls Tryz.prog 51 #[.slice (some ⟨w5.heap.size, 0, none⟩) 1 1] W6 (OfOut [oT] W6) from of_any _ 1 [oT] _ m W6 (trees_one hW6 hn5) (below_cell HM.out HB6.out) ot_fine (by decide))
  have hW6' : W6 = w5.alloc (.cells #[.int .i64 2, .bool false, .slice r5.An 1 r5.cn, .slice r5.Ai 1 r5.ci, .int .i64 0, .slice r5.Ae 0 r5.ce, .string ⟨#[]⟩] 106) := hW6
  have HW6 := Lib.hid hW6'
  clear hn5 hb5 hb6 hb56 hW6 hW6' HP3 HB3 HW3
  unfold dcV
  go_wp2_with fail
  rw [← HW6.out]
  refine HC.out.mono ?_
  rintro e w7 hof
  rcases hof with ⟨A, c, L, rfl, hok, _, _, hb7⟩ | ⟨er, _, hbad, _⟩
  · obtain ⟨W8, hW8⟩ : ∃ W8, W8 = w7.alloc (.cells #[.slice A 1 c, .int .i64 1] 27) := ⟨_, rfl⟩
    have hb8 : Below w7.heap.size w7 W8 := by rw [hW8]; exact (Below.refl _ _).alloc (Nat.le_refl _) _
    have HK8 := Lib.hid (show W8.heap[w7.heap.size]? = some (.cells #[.slice A 1 c, .int .i64 1] 27 (0, 0)) by rw [hW8]; exact heap_alloc_new w7 _)
    have HB8 := Lib.hid ((HB6.out.trans (hb7.mono HB6.out.size)).trans (hb8.mono (HB6.out.trans (hb7.mono HB6.out.size)).size))
    have HW8 := Lib.hid hW8
    have t : ([oT] : List Nd).length = 1 := rfl
    clear hok hb7 hb8 hW8 HC HW6 HB6
    unfold stkV
    go_upto_region 2 with fail
    rw [← HW8.out]
    clear HW8 t
    have s0 := cell_of_blk HK8.out 0
    have s1 := cell_of_blk HK8.out 1
    have HC := Lib.hid (show Calls Tryz.prog 56 #[.agg #[.slice A 1 c, .int .i64 1]] W8 fun e w' => e = .returned (.int .i64 1) ∧ Below W8.heap.size W8 w' from slen_any A 1 c 1 W8)
    go_wp2_with fail
    refine HC.out.mono ?_
    rintro e v1 ⟨rfl, hb⟩
    have HF := Lib.hid (HB8.out.trans (hb.mono HB8.out.size))
    clear HC hb s0 s1
    go_wp2_with fail
    go_ret
    exact ⟨rfl, HF.out⟩
  · exfalso
    rcases hbad with ⟨_, t, ht, hf⟩ | ⟨_, hlt⟩
    · rw [ot_right t ht] at hf; cases hf
    · exact absurd hlt (by decide)
def oN : Nd := opaqueN e0N
theorem o_at {w w' : World} {B B' : Nat} {r : Raw} (h : NdAt w B e0N r) : NdAt w' B' oN r := (e0_at h).opq
theorem e0_fine : smallB e0N = true ∧ treeB e0N = true := by decide +kernel
theorem o_fine : smallB oN = true ∧ treeB oN = true := by decide +kernel
theorem mayB_more {T : List Nd} {n : Nd} (h : mayB T = true) (hl : T.length ≤ 7) (hn : smallB n = true ∧ treeB n = true) : mayB (T ++ [n]) = true :=
  mayB_yes (by rw [List.length_append, List.length_singleton]; omega) fun t ht => by
    rcases List.mem_append.1 ht with ht | ht
    · exact mayB_all h t ht
    · obtain rfl : t = n := by simpa using ht
      exact hn
theorem e0_none (s : ByteArray) (j : Nat) : e0N.N[j]? ≠ some s := fun h => by
  have h' : ([] : List ByteArray)[j]? = some s := h
  simp at h'
theorem o_none (s : ByteArray) (j : Nat) : oN.N[j]? ≠ some s := fun h => by
  have h' : ([] : List ByteArray)[j]? = some s := h
  simp at h'
/-- Without the uppermost branch the others are as they were. -/
theorem rest_stk {w w' : World} {A A' : Option Addr} {c c' : Nat} {L : List (Nat × Int)} {T : List Nd} {n : Nd} (h : StkOk w A c L (T ++ [n])) (hb : Below w.heap.size w w') (ho : Slc w' w'.heap.size A' c' (L.drop 1)) :
    StkM w' A' (L.drop 1) (tabs T.reverse) := by
  have hm := (StkOk.stkM h).later hb
  have hr : (T ++ [n]).reverse = n :: T.reverse := by rw [List.reverse_append]; rfl
  rw [hr] at hm
  have e : tabs (n :: T.reverse) = flatN 0 n :: tabs T.reverse := rfl
  rw [e] at hm
  have hl := hm.es
  rw [List.length_cons] at hl
  refine ⟨ho.rows, by rw [List.length_drop]; omega, fun k x E h1 h2 => ?_⟩
  rw [List.getElem?_drop] at h1
  exact hm.brs (1 + k) x E h1 (by rw [Nat.add_comm, List.getElem?_cons_succ]; exact h2)
theorem top_id {w : World} {A : Option Addr} {c : Nat} {L : List (Nat × Int)} {T : List Nd} {n : Nd} (h : StkOk w A c L (T ++ [n])) {i : Nat} {x : Nat × Int} (hx : L[i]? = some x) (hi : x.2 = (T.length : Int)) : i = 0 := by
  obtain ⟨h1, _⟩ := h.brs i x hx
  rw [List.length_append, List.length_singleton] at h1
  omega
theorem top_there {w : World} {A : Option Addr} {c : Nat} {L : List (Nat × Int)} {T : List Nd} {n : Nd} (h : StkOk w A c L (T ++ [n])) : ∃ x ∈ L, x.2 = (T.length : Int) := by
  have hl := h.len
  rw [List.length_append, List.length_singleton] at hl
  obtain ⟨x, hx⟩ : ∃ x, L[0]? = some x := ⟨_, List.getElem?_eq_getElem (by omega)⟩
  obtain ⟨h1, _⟩ := h.brs 0 x hx
  rw [List.length_append, List.length_singleton] at h1
  exact ⟨x, List.mem_of_getElem? hx, by omega⟩
end Go.Proofs.YtdljogdegcmmiaaGreatDoor.seen
