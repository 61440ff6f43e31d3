/- That union speaks: a file, and a directory. Condition: the library's MaxLen holds a number. What union's Do and the reference's answer to whatever is asked. Conditions: the stack, the trees lie in memory; the trees may be; the library's MaxLen holds a number. -/
import Derived.Test.YtkbhcncbpiimdaaGreatDoorJU3
import Derived.Test.YtkbhcncbpiimdaaGreatDoorJXP
namespace Go.Proofs.YtkbhcncbpiimdaaGreatDoor.uni
set_option maxRecDepth 100000
open Go.RowKit Go.Proofs.YtkbhcncbpiimdaaGreatDoor.words Go.Proofs.YtkbhcncbpiimdaaGreatDoor.ext Go.Proofs.YtkbhcncbpiimdaaGreatDoor.name Go.Proofs.YtkbhcncbpiimdaaGreatDoor.tre Go.Proofs.YtkbhcncbpiimdaaGreatDoor.stk Go.Proofs.YtkbhcncbpiimdaaGreatDoor.seen Go.Proofs.YtkbhcncbpiimdaaGreatDoor.wlk

/-- There is a first one, or none. -/
theorem lev_some (ns : List ByteArray) : ∀ R : List Nd, ∃ l, LevI R ns l
  | [] => ⟨-1, .inr ⟨rfl, fun j t d h => by simp at h⟩⟩
  | t :: R => by
    by_cases h : ∃ d, Reach t ns d
    · obtain ⟨d, h⟩ := h
      exact ⟨0, .inl ⟨0, rfl, ⟨t, d, rfl, h⟩, fun j hj => by omega⟩⟩
    · obtain ⟨l, hl⟩ := lev_some ns R
      rcases hl with ⟨k, rfl, ⟨t', d, h1, h2⟩, h3⟩ | ⟨rfl, h3⟩
      · refine ⟨(k : Int) + 1, .inl ⟨k + 1, by omega, ⟨t', d, h1, h2⟩, fun j hj t2 d2 h4 h5 => ?_⟩⟩
        rcases j with _ | j
        · have e : t = t2 := by simpa using h4
          exact h ⟨d2, by rw [e]; exact h5⟩
        · exact h3 j (by omega) t2 d2 (by simpa using h4) h5
      · refine ⟨-1, .inr ⟨rfl, fun j t2 d2 h4 h5 => ?_⟩⟩
        rcases j with _ | j
        · have e : t = t2 := by simpa using h4
          exact h ⟨d2, by rw [e]; exact h5⟩
        · exact h3 j t2 d2 (by simpa using h4) h5
theorem lev_o (R : List Nd) (O : AtO) : ∃ l, ∀ ns E, O = .ok ns E → LevI R ns l := by
  rcases O with k | ⟨ns, E⟩
  · exact ⟨0, fun ns E h => by cases h⟩
  · obtain ⟨l, hl⟩ := lev_some ns R
    exact ⟨l, fun ns' E' h => by injection h with h1 h2; rw [← h1]; exact hl⟩
def xyz : ByteArray := ⟨#[120, 121, 122]⟩
def db : ByteArray := ⟨#[100]⟩
def tx : Nd := textN xyz
def ut : Nd := tre.dirN [ab, db] [tx, e0N]
theorem tx_len : (ofB xyz).length = 1 := by decide +kernel
def x3V (r : Raw) : Value := .agg #[.int .i64 1, .bool false, .slice r.An 0 r.cn, .slice r.Ai 0 r.ci, .int .i64 3, .slice r.Ae 1 r.ce, .string ⟨#[]⟩]
theorem tx_cells (r : Raw) : rawCells tx r = #[.int .i64 1, .bool false, .slice r.An 0 r.cn, .slice r.Ai 0 r.ci, .int .i64 3, .slice r.Ae 1 r.ce, .string ⟨#[]⟩] := by
  unfold rawCells
  rw [show tx.E.length = 1 from tx_len]
  rfl
theorem tx_v (r : Raw) : ndV tx r = x3V r := by unfold ndV; rw [tx_cells]; rfl
theorem ut_v (r : Raw) : ndV ut r = dtV r := rfl
theorem ut_fine : ∀ t ∈ [ut], depth t ≤ 1000 ∧ (treeB t = true → countC t = (count t : Int) ∧ count t ≤ 4096) := fun t ht => by
  simp only [List.mem_cons, List.mem_nil_iff, or_false] at ht
  subst ht
  exact ⟨by decide +kernel, fun _ => ⟨by decide +kernel, by decide +kernel⟩⟩
theorem ut_right : ∀ t ∈ [ut], treeB t = true := fun t ht => by
  simp only [List.mem_cons, List.mem_nil_iff, or_false] at ht
  subst ht
  decide +kernel
theorem ut_all : ∀ t ∈ [ut], allB t = true := fun t ht => by
  simp only [List.mem_cons, List.mem_nil_iff, or_false] at ht
  subst ht
  decide +kernel
theorem ut_dirs : ∀ t ∈ [ut], t.K = 2 := fun t ht => by
  simp only [List.mem_cons, List.mem_nil_iff, or_false] at ht
  subst ht
  rfl
theorem ut_deep : ∀ t ∈ [ut], depth t < 100 := fun t ht => by
  simp only [List.mem_cons, List.mem_nil_iff, or_false] at ht
  subst ht
  decide +kernel
theorem ut_d0 : Along (D0 [ut]) [] [ut] := rfl
theorem ent_ua : EntN ab [ut] [tx] := ⟨some tx, [], .inl ⟨0, tx, rfl, rfl, rfl⟩, rfl, rfl⟩
theorem ent_ud : EntN db [ut] [e0N] := ⟨some e0N, [], .inl ⟨1, e0N, rfl, rfl, rfl⟩, rfl, rfl⟩
theorem db_dd : db ≠ dd := by decide
theorem lead_ua (f : Bool) : Leads [ut] f [] [ab] 40 (.ok [ab] [tx]) :=
  .leaf (d := tx) (S := []) ab_dd ut_d0 ent_ua rfl (by decide) (fun h => absurd h.1 (by decide))
theorem lead_ud : Leads [ut] true [] [db] 40 (.ok [db] [e0N]) :=
  .dir (d := e0N) (S := []) db_dd ut_d0 ent_ud rfl rfl (.done ⟨[e0N], ent_ud, rfl⟩)
theorem goes_ua (f : Bool) : Goes [ut] f ab (.ok [ab] [tx]) := .inr ⟨[ab], by decide +kernel, lead_ua f⟩
theorem goes_ud : Goes [ut] true db (.ok [db] [e0N]) := .inr ⟨[db], by decide +kernel, lead_ud⟩
/-- The stack, in memory. -/
structure UtM (w : World) (A : Option Addr) (c : Nat) (g : Nat) (L : List (Nat × Int)) : Prop where
  stk : StkM w A L (tabs [ut])
  len : L.length = 1
  ids : Falls L
  box : w.heap[g]? = some (.cells #[.slice A 1 c, .int .i64 1] 27 (0, 0))
theorem UtM.later {w w' : World} {A : Option Addr} {c g : Nat} {L : List (Nat × Int)} (h : UtM w A c g L) (hb : Below w.heap.size w w') : UtM w' A c g L :=
  ⟨h.stk.later hb, h.len, h.ids, (hb.block _ (lt_of_some h.box)).trans h.box⟩
theorem ut_do {O : AtO} {k o m : Int} {p : ByteArray} (hO : Goes [ut] (folB k) p O) (hp : p.size ≤ 1000000) (hi : isB k = true) (hb : badB k o m = false) (ho1 : -9223372036854775808 ≤ o) (ho2 : o ≤ 9223372036854775807) (hm1 : -9223372036854775808 ≤ m) (hm2 : m ≤ 9223372036854775807) (mx : Int) (A : Option Addr) (c g : Nat) (L : List (Nat × Int)) (w : World)
    (hm : w.cell? ⟨0, 0, none⟩ = some (.int .i64 mx)) (h : UtM w A c g L) (a : An) (ha : ∀ l, ansM 1 l O k o m = a) :
    Calls Tryz.prog 16 #[.agg #[.slice A 1 c, .int .i64 1], .agg #[.int .i64 k, .string p, .int .i64 o, .int .i64 m, .int .i64 0, .string ⟨#[]⟩]] w fun e w' => Res a e ∧ Below w.heap.size w w' := by
  obtain ⟨l, hl⟩ := lev_o [ut] O
  have h1 := do_yes ut_all ut_dirs ut_deep (by decide) A c 1 L mx k p o m 0 ⟨#[]⟩ w h.stk h.ids hm hp ho1 ho2 hm1 hm2 hO hl hi hb
  rw [h.len] at h1
  have h2 : ansM (([ut] : List Nd).length : Int) l O k o m = a := ha l
  rw [h2] at h1
  exact h1
set_option maxHeartbeats 12800000 in
theorem uspeaks_any (m : Int) (w : World) (hm : w.cell? ⟨0, 0, none⟩ = some (.int .i64 m)) : Calls Tryz.prog 9 #[] w fun e w' => e = .returned (.bool true) ∧ Below w.heap.size w w' := by
  have HM := Lib.hid hm
  clear hm
  obtain ⟨W1, hW1⟩ : ∃ W1, W1 = w.alloc (.cells #[.string ab, .string db] 9) := ⟨_, rfl⟩
  have hb1 : Below w.heap.size w W1 := by rw [hW1]; exact (Below.refl _ _).alloc (Nat.le_refl _) _
  have hT1 : Txts W1 W1.heap.size (some ⟨w.heap.size, 0, none⟩) [ab, db] := by rw [hW1]; exact txts_two w ab db (by decide) (by decide)
  have HT1 := Lib.hid hT1
  have HB1 := Lib.hid hb1
  have hW1' : W1 = w.alloc (.cells #[.string ⟨#[97]⟩, .string ⟨#[100]⟩] 9) := hW1
  have HW1 := Lib.hid hW1'
  clear hW1 hW1' hb1 hT1
  go_enter Tryz.func9, Tryz.ntmps9
  go_wp2_with fail
  rw [← HW1.out]
  refine (show Calls Tryz.prog 39 #[.string ⟨#[120, 121, 122]⟩] W1 _ from ((text_any xyz W1 (by decide)).mono fun _ _ h => h.as tx_v)).mono ?_
  rintro e w2 ⟨r2, rfl, hn2, hb2⟩
  have HN2 := Lib.hid hn2
  have HB2 := Lib.hid hb2
  clear hn2 hb2 HW1
  unfold x3V
  go_wp2_with fail
  refine ((empty_any w2).mono fun _ _ h => h.as e0_v).mono ?_
  rintro e w3 ⟨r3, rfl, hn3, hb3⟩
  unfold e0V
  go_wp2_with fail
  obtain ⟨W4, hW4⟩ : ∃ W4, W4 = w3.alloc (.cells ((rawCells tx r2).toList ++ ((rawCells e0N r3).toList ++ [])).toArray 99) := ⟨_, rfl⟩
  have hb4 : Below w3.heap.size w3 W4 := by rw [hW4]; exact (Below.refl _ _).alloc (Nat.le_refl _) _
  have hb14 : Below W1.heap.size W1 W4 := HB2.out.trans ((hb3.trans (hb4.mono hb3.size)).mono HB2.out.size)
  have HP4 := Lib.hid (pair_dir ab db tx e0N r2 r3 w.heap.size w3 W4 hW4 ((HT1.out.keep hb14).more hb14.size) (HN2.out.later hb3) hn3)
  have HB4 := Lib.hid (HB1.out.trans (hb14.mono HB1.out.size))
  have hW4' := hW4
  rw [tx_cells] at hW4'
  have hW4'' : W4 = w3.alloc (.cells #[.int .i64 1, .bool false, .slice r2.An 0 r2.cn, .slice r2.Ai 0 r2.ci, .int .i64 3, .slice r2.Ae 1 r2.ce, .string ⟨#[]⟩, .int .i64 2, .bool false, .slice r3.An 0 r3.cn, .slice r3.Ai 0 r3.ci, .int .i64 0, .slice r3.Ae 0 r3.ce, .string ⟨#[]⟩] 99) := hW4'
  rw [← hW4'']
  clear hW4 hW4' hW4'' hb4 hb14 hn3 hb3 HT1 HN2 HB2 HB1
  refine (HP4.out.mono fun _ _ h => h.as ut_v).mono ?_
  rintro e w6 ⟨r6, rfl, hn6, hb6⟩
  obtain ⟨W7, hW7⟩ : ∃ W7, W7 = w6.alloc (.cells (rawCells ut r6) 99) := ⟨_, rfl⟩
  have hb7 : Below w6.heap.size w6 W7 := by rw [hW7]; exact (Below.refl _ _).alloc (Nat.le_refl _) _
  have hb57 : Below W4.heap.size W4 W7 := hb6.trans (hb7.mono hb6.size)
  have HB7 := Lib.hid (HB4.out.trans (hb57.mono HB4.out.size))
  have hT7 := trees_1 hW7 hn6
  have HC := Lib.hid (show Calls Tryz.prog 37 #[.slice (some ⟨w6.heap.size, 0, none⟩) 1 1] W7 (OfOut [ut] W7) from stk.of_any _ 1 [ut] _ m W7 hT7 (below_cell HM.out HB7.out) ut_fine (by decide))
  have hW7' : W7 = w6.alloc (.cells #[.int .i64 2, .bool false, .slice r6.An 2 r6.cn, .slice r6.Ai 2 r6.ci, .int .i64 0, .slice r6.Ae 0 r6.ce, .string ⟨#[]⟩] 99) := hW7
  have HW7 := Lib.hid hW7'
  clear hn6 hb6 hb7 hb57 hT7 hW7 hW7' HP4 HB4
  unfold dtV
  go_wp2_with fail
  rw [← HW7.out]
  refine HC.out.mono ?_
  rintro e w8 hof
  rcases hof with ⟨A, c, L, rfl, hok, _, _, hb8⟩ | ⟨er, _, hbad, _⟩
  rotate_left 1
  · exfalso
    rcases hbad with ⟨_, t, ht, hf⟩ | ⟨_, hlt⟩
    · rw [ut_right t ht] at hf; cases hf
    · exact absurd hlt (by decide)
  obtain ⟨W9, hW9⟩ : ∃ W9, W9 = w8.alloc (.cells #[.slice A 1 c, .int .i64 1] 27) := ⟨_, rfl⟩
  have hb9 : Below w8.heap.size w8 W9 := by rw [hW9]; exact (Below.refl _ _).alloc (Nat.le_refl _) _
  have hk9 : W9.heap[w8.heap.size]? = some (.cells #[.slice A 1 c, .int .i64 1] 27 (0, 0)) := by rw [hW9]; exact heap_alloc_new w8 _
  have HF := Lib.hid (show UtM W9 A c w8.heap.size L from ⟨StkOk.stkM (hok.later hb9), hok.len, fun j x hx => by rw [hok.len]; exact (hok.brs j x hx).1, hk9⟩)
  have HB9 := Lib.hid ((HB7.out.trans (hb8.mono HB7.out.size)).trans (hb9.mono (HB7.out.trans (hb8.mono HB7.out.size)).size))
  have HW9 := Lib.hid hW9
  have t : ([ut] : List Nd).length = 1 := rfl
  clear hok hb8 hb9 hk9 hW9 HC HW7 HB7
  unfold stkV
  go_upto_region 2 with fail
  rw [← HW9.out]
  clear HW9 t
  have s0 := cell_of_blk HF.out.box 0
  have s1 := cell_of_blk HF.out.box 1
  have HC := Lib.hid (show Calls Tryz.prog 32 #[.agg #[.slice A 1 c, .int .i64 1]] W9 fun e w' => e = .returned (.int .i64 1) ∧ Below W9.heap.size W9 w' from slen_any A 1 c 1 W9)
  go_wp2_with fail
  refine HC.out.mono ?_
  rintro e v1 ⟨rfl, hb⟩
  replace HF := Lib.hid (HF.out.later hb)
  replace HB9 := Lib.hid (HB9.out.trans (hb.mono HB9.out.size))
  clear HC hb s0 s1
  have s0 := cell_of_blk HF.out.box 0
  have s1 := cell_of_blk HF.out.box 1
  have HC := Lib.hid (ut_do (k := 4) (o := 1) (m := 9) (p := ⟨#[97]⟩) (goes_ua true) (by decide) rfl rfl (by decide) (by decide) (by decide) (by decide) m A c _ L v1 (below_cell HM.out HB9.out) HF.out ⟨0, 0, 0, 0, readB 3 (ofB xyz) 1 9⟩ (fun _ => rfl))
  go_wp2_with fail
  refine HC.out.mono ?_
  rintro e v2 ⟨⟨x, rfl, hx⟩, hb⟩
  have hx2 : (x.toList == [121, 122]) = true := by
    rw [ByteArray.toList_eq, hx]
    decide +kernel
  have HX := Lib.hid hx2
  obtain ⟨V3, hV3⟩ : ∃ V3, V3 = v2.alloc (.cells #[.int .i64 0, .int .i64 0, .int .i64 0, .int .i64 0, .int .i64 0, .string x, .slice none 0 0, .bool false] 44) := ⟨_, rfl⟩
  have hb3 : Below v2.heap.size v2 V3 := by rw [hV3]; exact (Below.refl _ _).alloc (Nat.le_refl _) _
  have HX3 := Lib.hid (show V3.heap[v2.heap.size]? = some (.cells #[.int .i64 0, .int .i64 0, .int .i64 0, .int .i64 0, .int .i64 0, .string x, .slice none 0 0, .bool false] 44 (0, 0)) by rw [hV3]; exact heap_alloc_new v2 _)
  have hb23 := hb.trans (hb3.mono hb.size)
  replace HF := Lib.hid (HF.out.later hb23)
  replace HB9 := Lib.hid (HB9.out.trans (hb23.mono HB9.out.size))
  have HV3 := Lib.hid hV3
  clear HC hx hx2 hb s0 s1 hb3 hb23 hV3
  unfold resV
  go_upto_region 5 with fail
  rw [← HV3.out]
  clear HV3
  have s0 := cell_of_blk HF.out.box 0
  have s1 := cell_of_blk HF.out.box 1
  have HC := Lib.hid (ut_do (k := 4) (o := 0) (m := 0) (p := ⟨#[100]⟩) goes_ud (by decide) rfl rfl (by decide) (by decide) (by decide) (by decide) m A c _ L V3 (below_cell HM.out HB9.out) HF.out ⟨5, 0, 0, 0, []⟩ (fun _ => rfl))
  go_wp2_with fail
  refine HC.out.mono ?_
  rintro e v4 ⟨⟨y, rfl, hy⟩, hb⟩
  obtain ⟨V5, hV5⟩ : ∃ V5, V5 = v4.alloc (.cells #[.int .i64 5, .int .i64 0, .int .i64 0, .int .i64 0, .int .i64 0, .string y, .slice none 0 0, .bool false] 44) := ⟨_, rfl⟩
  have hb3 : Below v4.heap.size v4 V5 := by rw [hV5]; exact (Below.refl _ _).alloc (Nat.le_refl _) _
  have HX5 := Lib.hid (show V5.heap[v4.heap.size]? = some (.cells #[.int .i64 5, .int .i64 0, .int .i64 0, .int .i64 0, .int .i64 0, .string y, .slice none 0 0, .bool false] 44 (0, 0)) by rw [hV5]; exact heap_alloc_new v4 _)
  have hb23 := hb.trans (hb3.mono hb.size)
  replace HF := Lib.hid (HF.out.later hb23)
  replace HB9 := Lib.hid (HB9.out.trans (hb23.mono HB9.out.size))
  replace HX3 := Lib.hid ((hb23.block _ (lt_of_some HX3.out)).trans HX3.out)
  have HV5 := Lib.hid hV5
  clear HC hy hb s0 s1 hb3 hb23 hV5
  unfold resV
  go_upto_region 6 with fail
  rw [← HV5.out]
  clear HV5
  have s0 := cell_of_blk HF.out.box 0
  have s1 := cell_of_blk HF.out.box 1
  have HC := Lib.hid (ut_do (k := 3) (o := 0) (m := 0) (p := ⟨#[97]⟩) (goes_ua false) (by decide) rfl rfl (by decide) (by decide) (by decide) (by decide) m A c _ L V5 (below_cell HM.out HB9.out) HF.out ⟨1, 0, 0, 0, []⟩ (fun _ => rfl))
  go_wp2_with fail
  refine HC.out.mono ?_
  rintro e v6 ⟨⟨z, rfl, hz⟩, hb⟩
  obtain ⟨V7, hV7⟩ : ∃ V7, V7 = v6.alloc (.cells #[.int .i64 1, .int .i64 0, .int .i64 0, .int .i64 0, .int .i64 0, .string z, .slice none 0 0, .bool false] 44) := ⟨_, rfl⟩
  have hb3 : Below v6.heap.size v6 V7 := by rw [hV7]; exact (Below.refl _ _).alloc (Nat.le_refl _) _
  have hx7 : V7.heap[v6.heap.size]? = some (.cells #[.int .i64 1, .int .i64 0, .int .i64 0, .int .i64 0, .int .i64 0, .string z, .slice none 0 0, .bool false] 44 (0, 0)) := by rw [hV7]; exact heap_alloc_new v6 _
  have hb23 := hb.trans (hb3.mono hb.size)
  have h3 := (hb23.block _ (lt_of_some HX3.out)).trans HX3.out
  have h5 := (hb23.block _ (lt_of_some HX5.out)).trans HX5.out
  have t5 := cell_of_blk h3 5
  have u0 := cell_of_blk h5 0
  have v0 := cell_of_blk hx7 0
  have HE := Lib.hid (HB9.out.trans (hb23.mono HB9.out.size))
  have HV7 := Lib.hid hV7
  have hx2 := HX.out
  clear HC hz hb s0 s1 hb3 hb23 hV7 hx7 h3 h5 HF HB9 HX3 HX5 HX
  unfold resV
  go_upto_region 7 with fail
  rw [← HV7.out]
  clear HV7
  go_wp2_with fail
  go_ret
  exact ⟨rfl, HE.out⟩
end Go.Proofs.YtkbhcncbpiimdaaGreatDoor.uni

namespace Go.Proofs.YtkbhcncbpiimdaaGreatDoor.uni
set_option maxRecDepth 100000
open Go.RowKit Go.Proofs.YtkbhcncbpiimdaaGreatDoor.words Go.Proofs.YtkbhcncbpiimdaaGreatDoor.ext Go.Proofs.YtkbhcncbpiimdaaGreatDoor.name Go.Proofs.YtkbhcncbpiimdaaGreatDoor.tre Go.Proofs.YtkbhcncbpiimdaaGreatDoor.stk Go.Proofs.YtkbhcncbpiimdaaGreatDoor.seen Go.Proofs.YtkbhcncbpiimdaaGreatDoor.wlk

/-- Where something is seen, it is along the names. -/
def Here (R : List Nd) (ns : List ByteArray) (E : List Nd) : Prop := Along (D0 R) ns E ∧ (ns ≠ [] → E ≠ [])
theorem Here.up {R : List Nd} {ns : List ByteArray} {E : List Nd} (h : Here R ns E) : ∃ F, Here R (ns.take (ns.length - 1)) F := by
  rcases List.eq_nil_or_concat ns with rfl | ⟨ms, p, rfl⟩
  · exact ⟨E, h⟩
  · rw [List.concat_eq_append] at h ⊢
    obtain ⟨h1, h2⟩ := h
    obtain ⟨F, Q, g1, g2, rfl⟩ := h1.pre
    have e : (ms ++ [p]).take ((ms ++ [p]).length - 1) = ms := by simp
    rw [e]
    refine ⟨F, g1, fun _ hF => ?_⟩
    subst hF
    have hQ : Q = [] := g2
    subst hQ
    exact h2 (by simp) rfl
theorem Here.good {R : List Nd} (hg : ∀ t ∈ R, allB t = true) {ns : List ByteArray} {E : List Nd} (h : Here R ns E) (hne : E ≠ []) : allB (hdN E) = true := by
  obtain ⟨d, E', rfl⟩ := List.exists_cons_of_ne_nil hne
  exact h.1.good (wlk.Good.root hg) d (List.mem_cons_self ..)
theorem Here.len {R : List Nd} (hk : ∀ d ∈ R, depth d < 100) {ns : List ByteArray} {E : List Nd} (h : Here R ns E) : ns.length ≤ 100 := by
  rcases Nat.eq_zero_or_pos ns.length with h0 | h0
  · omega
  · obtain ⟨d, E', rfl⟩ := List.exists_cons_of_ne_nil (h.2 (fun e => by rw [e] at h0; simp at h0))
    have := h.1.deep (k := 100) (fun d hd => hk d (List.mem_of_mem_take hd)) d (List.mem_cons_self ..)
    omega
theorem ansM_no {n l : Int} {O : AtO} {k o m : Int} (h : isB k = false ∨ badB k o m = true) : ansM n l O k o m = ⟨1, 0, 0, 0, []⟩ := by unfold ansM; rw [if_pos h]
theorem ansM_yes {n l : Int} {O : AtO} {k o m : Int} (h1 : isB k = true) (h2 : badB k o m = false) : ansM n l O k o m = ansO n l O k o m := by unfold ansM; rw [if_neg (by rw [h1, h2]; simp)]
theorem do_all {R : List Nd} (hg : ∀ t ∈ R, allB t = true) (hK : ∀ t ∈ R, t.K = 2) (hk : ∀ d ∈ R, depth d < 100) (hR : R.length ≤ 64) (A : Option Addr) (c : Nat) (ad : Int) (L : List (Nat × Int)) (mx : Int) (k : Int) (p : ByteArray) (o m id : Int) (img : ByteArray) (w : World) (hst : StkM w A L (tabs R)) (hL : Falls L)
    (hmx : w.cell? ⟨0, 0, none⟩ = some (.int .i64 mx)) (hp : p.size ≤ 1000000) (ho1 : -9223372036854775808 ≤ o) (ho2 : o ≤ 9223372036854775807) (hm1 : -9223372036854775808 ≤ m) (hm2 : m ≤ 9223372036854775807) {O : AtO} (hO : Goes R (folB k) p O) {l : Int} (hl : ∀ ns E, O = .ok ns E → LevI R ns l) :
    Calls Tryz.prog 16 #[stkV A L.length c ad, opV k p o m id img] w fun e w' => Res (ansM (R.length : Int) l O k o m) e ∧ Below w.heap.size w w' := by
  have no : ∀ (x : ByteArray), x = ⟨#[]⟩ → (isB k = false ∨ badB k o m = true) → Res (ansM (R.length : Int) l O k o m) (.returned (resV 1 0 0 0 x)) := fun x hx h => by
    rw [ansM_no h, hx]
    exact ⟨_, rfl, rfl⟩
  rcases hi : isB k with _ | _
  · exact (do_no A L.length c ad k p o m id img w hi).mono fun e w' ⟨h1, h2⟩ => ⟨by rw [h1]; exact no _ rfl (.inl hi), h2⟩
  · rcases hb : badB k o m with _ | _
    · exact do_yes hg hK hk hR A c ad L mx k p o m id img w hst hL hmx hp ho1 ho2 hm1 hm2 hO hl hi hb
    · exact (do_bad A L.length c ad k p o m id img w hi hb).mono fun e w' ⟨h1, h2⟩ => ⟨by rw [h1]; exact no _ rfl (.inr hb), h2⟩
end Go.Proofs.YtkbhcncbpiimdaaGreatDoor.uni
