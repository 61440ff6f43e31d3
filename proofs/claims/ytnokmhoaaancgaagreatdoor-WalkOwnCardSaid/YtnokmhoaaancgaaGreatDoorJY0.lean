/- What merge's names and kind answer of a place's directory: its names, in a row of their own, and of what kind an entry is. Conditions: the stack lies in memory, and its trees may be. -/
import Derived.Test.YtnokmhoaaancgaaGreatDoorJN
import Derived.Test.YtnokmhoaaancgaaGreatDoorJJ
import Derived.Test.YtnokmhoaaancgaaGreatDoorJW10
namespace Go.Proofs.YtnokmhoaaancgaaGreatDoor.mrg
set_option maxRecDepth 100000
open Go.RowKit Go.Proofs.YtnokmhoaaancgaaGreatDoor.words Go.Proofs.YtnokmhoaaancgaaGreatDoor.ext Go.Proofs.YtnokmhoaaancgaaGreatDoor.name Go.Proofs.YtnokmhoaaancgaaGreatDoor.tre Go.Proofs.YtnokmhoaaancgaaGreatDoor.stk Go.Proofs.YtnokmhoaaancgaaGreatDoor.seen

/-- Names, in a row of the call's own. -/
def NamesOwn (N : List ByteArray) (w : World) (en : Ending) (w' : World) : Prop := ∃ A c, en = .returned (.slice A N.length c) ∧ N.length ≤ c ∧ c ≤ maxLen ∧ w'.ownsRow w.heap.size 9 1 (.slice A N.length c) N.length (N.map Value.string) ∧ Below w.heap.size w w'
theorem own_max {w : World} {B size n c k : Nat} {E : TypeId} {A : Option Addr} {xs : List Value} (h : w.ownsRow B E size (.slice A n c) k xs) : c ≤ maxLen := by
  rcases h.2 with ⟨h0, _⟩ | ⟨g, cap, cur, h1, _, _, _, h4, _⟩
  · injection h0 with _ _ h0
    rw [h0]
    exact Nat.zero_le _
  · injection h1 with _ _ h1
    rw [h1]
    exact h4
set_option maxHeartbeats 1600000 in
theorem bnames_own (g k : Nat) (L : List Ent) (e : Ent) (w : World) (h : Brn w w.heap.size g L) (he : L[k]? = some e) :
    Calls Tryz.prog 51 #[.pointer (some ⟨g, 0, none⟩), .int .i64 (k : Int)] w (NamesOwn e.x.N w) := by
  have H := Lib.hid (at_yes g k L e w h he)
  clear h he
  go_enter Tryz.func51, Tryz.ntmps51
  go_wp2_with fail
  refine H.out.mono ?_
  rintro en w1 ⟨r, A, c, rfl, hen, hb⟩
  have hf1 : ∀ w' : World, Sem.run Tryz.prog (Instr.field 123 (.agg #[.int .i64 e.x.K, .bool e.x.O, .slice r.An e.x.N.length r.cn, .slice r.Ai e.x.I.length r.ci, .int .i64 e.x.S, .slice r.Ae e.x.E.length r.ce, .string e.x.T, .slice A e.ids.length c]) 0) w' = .ok (.agg #[.int .i64 e.x.K, .bool e.x.O, .slice r.An e.x.N.length r.cn, .slice r.Ai e.x.I.length r.ci, .int .i64 e.x.S, .slice r.Ae e.x.E.length r.ce, .string e.x.T]) w' := fun w' => field_node _ _ _ _ _ w'
  have hf2 : ∀ w' : World, Sem.run Tryz.prog (Instr.field 94 (.agg #[.int .i64 e.x.K, .bool e.x.O, .slice r.An e.x.N.length r.cn, .slice r.Ai e.x.I.length r.ci, .int .i64 e.x.S, .slice r.Ae e.x.E.length r.ce, .string e.x.T]) 2) w' = .ok (.slice r.An e.x.N.length r.cn) w' := fun _ => by kernel_rfl
  have HC := Lib.hid ((copy_txt r.An e.x.N.length r.cn _ w1 (lies_txt hen.nd.names) hen.nd.fit.zn hen.nd.fit.ln (by rw [List.length_map, Nat.mul_one]) (txtCells_one e.x.N)).mono fun _ _ h => own_of h)
  have HB := Lib.hid hb
  clear hb H hen
  go_wp2_with fail
  refine HC.out.mono ?_
  rintro en w2 ⟨A3, c3, rfl, h31, h32, ho3, hb2⟩
  have HF := Lib.hid (show NamesOwn e.x.N w (.returned (.slice A3 e.x.N.length c3)) w2 from ⟨A3, c3, rfl, h31, own_max ho3, tre.own_base ho3 HB.out.size, HB.out.trans (hb2.mono HB.out.size)⟩)
  clear ho3 hb2 h31 h32 HC HB
  go_wp2_with fail
  go_ret
  exact HF.out
set_option maxHeartbeats 1600000 in
theorem mnames_any {R : List Nd} {lv nd : Nat} {d : Nd} (hA : seen.At R (lv, nd) d) (A : Option Addr) (c : Nat) (ad : Int) (L : List (Nat × Int)) (w : World) (h : StkM w A L (tabs R)) :
    Calls Tryz.prog 96 #[.agg #[.slice A L.length c, .int .i64 ad], .agg #[.int .i64 (lv : Int), .int .i64 (nd : Int)]] w (NamesOwn d.N w) := by
  obtain ⟨Wa, hWa⟩ : ∃ Wa, Wa = w.alloc (.cells #[.slice A L.length c, .int .i64 ad] 29) := ⟨_, rfl⟩
  obtain ⟨W1, hW1⟩ : ∃ W1, W1 = Wa.alloc (.cells #[.int .i64 (lv : Int), .int .i64 (nd : Int)] 33) := ⟨_, rfl⟩
  have hz : Wa.heap.size = w.heap.size + 1 := by rw [hWa]; simp
  have hba : Below w.heap.size w Wa := by rw [hWa]; exact (Below.refl _ _).alloc (Nat.le_refl _) _
  have hba1 : Below Wa.heap.size Wa W1 := by rw [hW1]; exact (Below.refl _ _).alloc (Nat.le_refl _) _
  have hb1 := hba.trans (hba1.mono hba.size)
  have hs0 : Wa.heap[w.heap.size]? = some (.cells #[.slice A L.length c, .int .i64 ad] 29 (0, 0)) := by rw [hWa]; exact heap_alloc_new w _
  have HKa := Lib.hid ((hba1.block _ (lt_of_some hs0)).trans hs0)
  have HKb := Lib.hid (show W1.heap[w.heap.size + 1]? = some (.cells #[.int .i64 (lv : Int), .int .i64 (nd : Int)] 33 (0, 0)) by rw [← hz, hW1]; exact heap_alloc_new Wa _)
  have hS1 := h.later hb1
  obtain ⟨t, ht, htd⟩ := hA
  have hE := tabs_at ht
  have hEe : (flatN 0 t)[nd]? = some (entOf nd d) := flat_at htd
  obtain ⟨y, hy⟩ : ∃ y, L[lv]? = some y := ⟨_, List.getElem?_eq_getElem (by rw [← hS1.es]; exact (List.getElem?_eq_some_iff.1 hE).1)⟩
  have HAT := Lib.hid (show Calls Tryz.prog 24 #[.agg #[.slice A L.length c, .int .i64 ad], .int .i64 (lv : Int)] W1 fun e w'' => e = .returned (.pointer (some ⟨y.1, 0, none⟩)) ∧ Below W1.heap.size W1 w'' from sat_yes A L.length c lv ad L y W1 hS1.rows rfl hy)
  have hbr : Brn W1 W1.heap.size y.1 (flatN 0 t) := hS1.brs lv y _ hy hE
  have HNm : Hid (∀ w' : World, Below W1.heap.size W1 w' → Calls Tryz.prog 51 #[.pointer (some ⟨y.1, 0, none⟩), .int .i64 (nd : Int)] w' (NamesOwn d.N w')) := Lib.hid fun w' hb => by
    have h1 := bnames_own y.1 nd _ _ w' (hbr.later hb) hEe
    rw [show (entOf nd d).x.N = d.N from alone_N d] at h1
    exact h1
  rw [hWa] at hW1
  have HW1 := Lib.hid hW1
  have HB1 := Lib.hid hb1
  have HZ := Lib.hid hz
  clear hWa hW1 hz hba hba1 hb1 hs0 hS1 ht htd hE hEe hy hbr h
  go_enter Tryz.func96, Tryz.ntmps96
  go_upto_region 1 with fail
  rw [← HW1.out]
  clear HW1
  have s0 := cell_of_blk HKa.out 0
  have s1 := cell_of_blk HKa.out 1
  have p0 := cell_of_blk HKb.out 0
  go_wp2_with fail
  refine HAT.out.mono ?_
  rintro e w2 ⟨rfl, hb2⟩
  have p1 : w2.cell? ⟨w.heap.size + 1, 1, none⟩ = some (.int .i64 (nd : Int)) := cell_of_blk ((hb2.block _ (lt_of_some HKb.out)).trans HKb.out) 1
  have HB2 := Lib.hid (HB1.out.trans (hb2.mono HB1.out.size))
  have HC := Lib.hid (HNm.out w2 hb2)
  clear hb2 HAT HNm s0 s1 p0
  go_wp2_with fail
  refine HC.out.mono ?_
  rintro e w3 ⟨A3, c3, rfl, h1, h2, h3, hb3⟩
  have HF := Lib.hid (show NamesOwn d.N w (.returned (.slice A3 d.N.length c3)) w3 from ⟨A3, c3, rfl, h1, h2, tre.own_base h3 HB2.out.size, HB2.out.trans (hb3.mono HB2.out.size)⟩)
  clear h1 h2 h3 hb3 HC p1
  go_wp2_with fail
  go_ret
  exact HF.out
set_option maxHeartbeats 1600000 in
theorem mkind_any {R : List Nd} (hall : ∀ t ∈ R, allB t = true) {lv nd i : Nat} {d y : Nd} {s : ByteArray} (hA : seen.At R (lv, nd) d) (hi : d.N[i]? = some s) (hyi : d.I[i]? = some y) (A : Option Addr) (c : Nat) (ad : Int) (L : List (Nat × Int)) (w : World) (h : StkM w A L (tabs R)) :
    Calls Tryz.prog 99 #[.agg #[.slice A L.length c, .int .i64 ad], .agg #[.int .i64 (lv : Int), .int .i64 (nd : Int)], .string s] w fun e w' => e = .returned (.int .i64 y.K) ∧ Below w.heap.size w w' := by
  obtain ⟨Wa, hWa⟩ : ∃ Wa, Wa = w.alloc (.cells #[.slice A L.length c, .int .i64 ad] 29) := ⟨_, rfl⟩
  obtain ⟨W1, hW1⟩ : ∃ W1, W1 = Wa.alloc (.cells #[.int .i64 (lv : Int), .int .i64 (nd : Int)] 33) := ⟨_, rfl⟩
  have hz : Wa.heap.size = w.heap.size + 1 := by rw [hWa]; simp
  have hba : Below w.heap.size w Wa := by rw [hWa]; exact (Below.refl _ _).alloc (Nat.le_refl _) _
  have hba1 : Below Wa.heap.size Wa W1 := by rw [hW1]; exact (Below.refl _ _).alloc (Nat.le_refl _) _
  have hb1 := hba.trans (hba1.mono hba.size)
  have hs0 : Wa.heap[w.heap.size]? = some (.cells #[.slice A L.length c, .int .i64 ad] 29 (0, 0)) := by rw [hWa]; exact heap_alloc_new w _
  have HKa := Lib.hid ((hba1.block _ (lt_of_some hs0)).trans hs0)
  have HKb := Lib.hid (show W1.heap[w.heap.size + 1]? = some (.cells #[.int .i64 (lv : Int), .int .i64 (nd : Int)] 33 (0, 0)) by rw [← hz, hW1]; exact heap_alloc_new Wa _)
  have hS1 := h.later hb1
  have hone := hA.one hall
  obtain ⟨t, ht, htd⟩ := hA
  have hE := tabs_at ht
  obtain ⟨b, hb⟩ : ∃ b, L[lv]? = some b := ⟨_, List.getElem?_eq_getElem (by rw [← hS1.es]; exact (List.getElem?_eq_some_iff.1 hE).1)⟩
  have HAT := Lib.hid (show Calls Tryz.prog 24 #[.agg #[.slice A L.length c, .int .i64 ad], .int .i64 (lv : Int)] W1 fun e w'' => e = .returned (.pointer (some ⟨b.1, 0, none⟩)) ∧ Below W1.heap.size W1 w'' from sat_yes A L.length c lv ad L b W1 hS1.rows rfl hb)
  have hbr : Brn W1 W1.heap.size b.1 (flatN 0 t) := hS1.brs lv b _ hb hE
  have HLk : Hid (∀ w' : World, Below W1.heap.size W1 w' → Calls Tryz.prog 93 #[.pointer (some ⟨b.1, 0, none⟩), .int .i64 (nd : Int), .string s] w' fun e w'' => e = .returned (.tuple #[.int .i64 ((nd + 1 + countL (d.I.take i) : Nat) : Int), .bool true]) ∧ Below w'.heap.size w' w'') := Lib.hid fun w' hb' => by
    refine (looked_any b.1 nd t d s w' (hbr.later hb') htd hone).mono ?_
    rintro e w'' ⟨⟨q, h1, _, h3⟩ | ⟨_, h2⟩, h4⟩
    · obtain rfl := (one_right hone).1.one hi h1
      exact ⟨h3, h4⟩
    · exact absurd hi (h2 i)
  have hk := flat_at (preN_kid htd hyi)
  obtain ⟨id, hid⟩ : ∃ id, id = nd + 1 + countL (d.I.take i) := ⟨_, rfl⟩
  rw [← hid] at HLk hk
  have HKd : Hid (∀ w' : World, Below W1.heap.size W1 w' → Calls Tryz.prog 48 #[.pointer (some ⟨b.1, 0, none⟩), .int .i64 (id : Int)] w' fun e w'' => e = .returned (.int .i64 y.K) ∧ Below w'.heap.size w' w'') := Lib.hid fun w' hb' =>
    (bkind_yes b.1 id _ _ w' (hbr.later hb') hk).mono fun _ _ ⟨he, hw⟩ => ⟨by rw [he, show (entOf id y).x.K = y.K from alone_K y], hw⟩
  rw [hWa] at hW1
  have HW1 := Lib.hid hW1
  have HB1 := Lib.hid hb1
  clear hWa hW1 hz hba hba1 hb1 hs0 hS1 ht htd hE hb hbr h hk hid hone
  go_enter Tryz.func99, Tryz.ntmps99
  go_upto_region 1 with fail
  rw [← HW1.out]
  clear HW1
  have s0 := cell_of_blk HKa.out 0
  have s1 := cell_of_blk HKa.out 1
  have p0 := cell_of_blk HKb.out 0
  go_wp2_with fail
  refine HAT.out.mono ?_
  rintro e w2 ⟨rfl, hb2⟩
  have p1 : w2.cell? ⟨w.heap.size + 1, 1, none⟩ = some (.int .i64 (nd : Int)) := cell_of_blk ((hb2.block _ (lt_of_some HKb.out)).trans HKb.out) 1
  have HB2 := Lib.hid hb2
  clear hb2 HAT s0 s1 p0
  go_wp2_with fail
  refine (HLk.out w2 HB2.out).mono ?_
  rintro e w3 ⟨rfl, hb3⟩
  have HB3 := Lib.hid (HB2.out.trans (hb3.mono HB2.out.size))
  clear hb3 HLk p1
  go_wp2_with fail
  refine (HKd.out w3 HB3.out).mono ?_
  rintro e w4 ⟨rfl, hb4⟩
  have HF := Lib.hid (HB1.out.trans ((HB3.out.trans (hb4.mono HB3.out.size)).mono HB1.out.size))
  clear hb4 HKd
  go_wp2_with fail
  go_ret
  exact ⟨rfl, HF.out⟩
end Go.Proofs.YtnokmhoaaancgaaGreatDoor.mrg
