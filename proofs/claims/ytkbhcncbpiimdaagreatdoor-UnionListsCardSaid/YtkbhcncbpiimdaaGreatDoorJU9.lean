/- What is listed in a directory is there by its path. Conditions: the trees may be. What union's List answers: a directory's path, and all that is seen in it. Conditions: the stack lies in memory, its trees may be; the library's MaxLen holds a number. What the reference's List answers: a directory's names, and all that is seen in it. Conditions: the trees lie in memory, and may be. What union's Do answers of an entry's path. Conditions: the stack lies in memory, its trees may be; the library's MaxLen holds a number. The law UnionLists: of any branches, what is seen in whatever a path leads to, or why nothing is, is the document's; each entry is what is looked up by its path. Conditions: the trees lie in memory; the library's MaxLen holds a number. -/
import Derived.Test.YtkbhcncbpiimdaaGreatDoorJXK
import Derived.Test.YtkbhcncbpiimdaaGreatDoorJU7
import Derived.Test.YtkbhcncbpiimdaaGreatDoorJM2
import Derived.Test.YtkbhcncbpiimdaaGreatDoorJM3
import Derived.Deep.CutRange
import Derived.BigQuiet
import Derived.Laws.StructEq
namespace Go.Proofs.YtkbhcncbpiimdaaGreatDoor.uni
set_option maxRecDepth 100000
open Go.RowKit Go.Proofs.YtkbhcncbpiimdaaGreatDoor.words Go.Proofs.YtkbhcncbpiimdaaGreatDoor.ext Go.Proofs.YtkbhcncbpiimdaaGreatDoor.name Go.Proofs.YtkbhcncbpiimdaaGreatDoor.tre Go.Proofs.YtkbhcncbpiimdaaGreatDoor.stk Go.Proofs.YtkbhcncbpiimdaaGreatDoor.seen Go.Proofs.YtkbhcncbpiimdaaGreatDoor.wlk

/-- Where a path leads to directories, there one comes along the names. -/
theorem own_way {R : List Nd} {f : Bool} {ns0 ps : List ByteArray} {h : Nat} {o : AtO} (hL : Leads R f ns0 ps h o) : OwnW R ns0 → ∀ (ns : List ByteArray) (E : List Nd), o = .ok ns E → (∀ d ∈ E, d.K = 2) → OwnW R ns := by
  induction hL with
  | done a =>
    intro hw ns E e _
    injection e with e1 e2
    subst e1
    exact hw
  | up _ ih => intro hw ns E e; exact ih (hw.take _) ns E e
  | none _ _ _ _ => intro _ ns E e; cases e
  | dir n a e s k _ ih => intro hw ns E eo; exact ih (hw.snoc n a e s k) ns E eo
  | loop _ _ _ _ _ _ => intro _ ns E e; cases e
  | hop _ _ _ _ _ _ _ _ ih =>
    intro hw ns E e
    refine ih ?_ ns E e
    split
    · exact own_nil R
    · exact hw
  | not _ _ _ _ _ _ _ => intro _ ns E e; cases e
  | leaf n a e s k _ =>
    intro hw ns E eo hd
    injection eo with e1 e2
    subst e2
    exact absurd (hd _ (List.mem_cons_self ..)) k
theorem rise_right : ∀ {N : List ByteArray} {p : Option ByteArray}, riseFrom p N = true → ∀ s ∈ N, right s.data.toList = true
  | [], _, _, s, hs => by cases hs
  | x :: N, p, h, s, hs => by
    rw [riseFrom_cons, Bool.and_eq_true, Bool.and_eq_true] at h
    rcases List.mem_cons.1 hs with rfl | hs
    · exact h.1.1
    · exact rise_right h.2 s hs
theorem right_nm {s : ByteArray} (h : right s.data.toList = true) : NmD s := by
  have hb : bad s.data.toList = false := by unfold bad; rw [h]; simp
  unfold right at h
  simp only [Bool.and_eq_true, decide_eq_true_eq, Bool.not_eq_true', beq_eq_false_iff_ne, List.contains_eq_mem, decide_eq_false_iff_not] at h
  obtain ⟨⟨⟨⟨⟨h1, h2⟩, h3⟩, h4⟩, h5⟩, _⟩ := h
  have hz := name.size_list s
  refine ⟨⟨by omega, ?_, hb, h5⟩, fun e => ?_⟩
  · unfold idle
    rw [Bool.or_eq_false_iff, beq_eq_false_iff_ne, beq_eq_false_iff_ne]
    exact ⟨fun e => by rw [e] at h1; simp at h1, h3⟩
  · subst e
    exact h4 rfl
theorem dir_names {d : Nd} (h : oneB d = true) (hk : d.K = 2) : ∀ s ∈ d.N, NmD s := fun s hs => by
  rw [oneB_2 hk] at h
  simp only [Bool.and_eq_true] at h
  exact right_nm (rise_right h.2.2 s hs)
theorem nm_of {ns : List ByteArray} (h : ∀ n ∈ ns, NmD n) : ∀ p ∈ bytesOf ns, idle p = false ∧ bad p = false ∧ (47 : UInt8) ∉ p := fun p hp => by
  obtain ⟨n, hn, rfl⟩ := List.mem_map.1 hp
  exact (h n hn).1.2
/-- Of a second '/' ahead of a path. -/
theorem parts_root {ps : List (List UInt8)} (h : ∀ p ∈ ps, idle p = false ∧ bad p = false ∧ (47 : UInt8) ∉ p) (hl : (47 :: path ps).length ≤ 1024) : parts (47 :: path ps) = some ps := by
  obtain ⟨h1, h2⟩ := path_parts h
  have hc : cut (47 :: path ps) = [] :: cut (path ps) := by rw [cut, if_pos rfl]
  refine parts_of_cut (by simp) hl (fun p hp => ?_) ?_
  · rw [hc] at hp
    rcases List.mem_cons.1 hp with rfl | hp
    · rfl
    · exact h1 p hp
  · rw [hc, List.filter_cons_of_neg (by decide)]
    exact h2
/-- What is seen in a directory is there by the directory's path and its name. -/
theorem kid_goes {R : List Nd} {f : Bool} {p0 : ByteArray} {ns : List ByteArray} {E Q : List Nd} {n : ByteArray} {d : Nd} {S : List Nd} (hO : Goes R f p0 (.ok ns E)) (hn : ∀ x ∈ ns, NmD x) (hE : ∀ d ∈ E, d.K = 2) (hA : Along (D0 R) ns E) (hQ : EntN n E Q) (hs : seenOf Q = d :: S) (hnm : NmD n)
    {s : ByteArray} (hsd : s.data.toList = path (bytesOf ns) ++ 47 :: n.data.toList) (hsz : s.size ≤ 1024) : Goes R false s (.ok (ns ++ [n]) (seenOf Q)) := by
  have hw : OwnW R ns := by
    rcases hO with ⟨_, h⟩ | ⟨ps, _, h⟩
    · cases h
    · exact own_way h (own_nil R) ns E rfl hE
  have hL : Leads R false [] (ns ++ [n]) 40 (.ok (ns ++ [n]) (seenOf Q)) := by
    refine hw.all ?_
    by_cases hK : d.K = 2
    · exact .dir hnm.2 hA hQ hs hK (.done (hA.snoc hQ))
    · have h1 := Leads.leaf (R := R) (f := false) (h := 40) hnm.2 hA hQ hs hK (fun h => by rcases h.2 with h | h <;> simp at h)
      rw [← hs] at h1
      exact h1
  have hall : ∀ x ∈ ns ++ [n], NmD x := fun x hx => by
    rcases List.mem_append.1 hx with h | h
    · exact hn x h
    · rw [List.mem_singleton.1 h]; exact hnm
  have hz := name.size_list s
  refine .inr ⟨ns ++ [n], ?_, hL⟩
  have e1 : bytesOf (ns ++ [n]) = bytesOf ns ++ [n.data.toList] := by unfold bytesOf; rw [List.map_append]; rfl
  rcases ns with _ | ⟨m, ns⟩
  · have e2 : s.data.toList = 47 :: path [n.data.toList] := by rw [hsd, path_one]; rfl
    rw [e2]
    refine parts_root (fun p hp => ?_) (by rw [← e2]; omega)
    exact nm_of hall p (by rw [e1]; exact List.mem_append_right _ hp)
  · have e2 : s.data.toList = path (bytesOf (m :: ns ++ [n])) := by rw [hsd, e1, path_snoc _ _ (by simp [bytesOf])]
    rw [e2]
    exact parts_path _ (nm_of hall) (by rw [← e2]; omega)
end Go.Proofs.YtkbhcncbpiimdaaGreatDoor.uni

namespace Go.Proofs.YtkbhcncbpiimdaaGreatDoor.uni
set_option maxRecDepth 100000
open Go.RowKit Go.Proofs.YtkbhcncbpiimdaaGreatDoor.words Go.Proofs.YtkbhcncbpiimdaaGreatDoor.ext Go.Proofs.YtkbhcncbpiimdaaGreatDoor.name Go.Proofs.YtkbhcncbpiimdaaGreatDoor.tre Go.Proofs.YtkbhcncbpiimdaaGreatDoor.stk Go.Proofs.YtkbhcncbpiimdaaGreatDoor.seen Go.Proofs.YtkbhcncbpiimdaaGreatDoor.wlk

/-- Why a path leads to no directory; 0: it does. -/
def lsE (O : AtO) : Int := match O with
  | .err j => j
  | .ok _ E => if (hdN E).K = 2 then 0 else 3
/-- All that is seen in directories. -/
def Listed (E : List Nd) (El : List (ByteArray × Int)) : Prop := ∃ out, heap.Merged (mrg.rowsOf E) out ∧ mrg.Kinds E (heap.firsts out) El
/-- What List hands back. -/
def LsOut (R : List Nd) (O : AtO) (w : World) (e : Ending) (w' : World) : Prop :=
  ((lsE O ≠ 0 ∧ e = .returned (.tuple #[.string ⟨#[]⟩, .slice none 0 0, .int .i64 (lsE O)])) ∨
   (∃ (ns : List ByteArray) (E : List Nd) (El : List (ByteArray × Int)) (Al : Option Addr) (cl : Nat), O = .ok ns E ∧ lsE O = 0 ∧ (∀ d ∈ E, d.K = 2) ∧ (∀ d ∈ E, d.N.length ≤ 4096) ∧ (∀ n ∈ ns, NmD n) ∧ ns.length ≤ 200 ∧ Along (D0 R) ns E ∧ (ns ≠ [] → E ≠ []) ∧ Listed E El ∧ El.length ≤ 1000000 ∧
      e = .returned (.tuple #[.string (pathOf ns), .slice Al El.length cl, .int .i64 0]) ∧ Lies w' Al (El.flatMap mrg.enC))) ∧ Below w.heap.size w w'
theorem listed_few {D : List Nd} {out : List heap.It} {E : List (ByteArray × Int)} (hm : heap.Merged (mrg.rowsOf D) out) (hk : mrg.Kinds D (heap.firsts out) E) (hc : ∀ d ∈ D, d.N.length ≤ 4096) (hl : D.length ≤ 64) : E.length ≤ 1000000 := by
  have h1 := mrg.tot_le (L := mrg.rowsOf D) (K := 4096) fun l hl => by
    obtain ⟨i, hi⟩ := List.mem_iff_getElem?.1 hl
    obtain ⟨d, hd, rfl⟩ := mrg.rows_at hi
    exact hc d (List.mem_of_getElem? hd)
  rw [mrg.rows_len] at h1
  have h2 : D.length * 4096 ≤ 64 * 4096 := Nat.mul_le_mul_right _ hl
  have h3 := hm.1.length_eq
  have h4 : (heap.allF (mrg.rowsOf D)).length ≤ D.length * 4096 := h1
  have h5 := hk.len
  have h6 := heap.firsts_le out
  omega
set_option maxHeartbeats 12800000 in
theorem ulist_any {R : List Nd} (hg : ∀ t ∈ R, allB t = true) (hK : ∀ t ∈ R, t.K = 2) (hk : ∀ d ∈ R, depth d < 100) (hR : R.length ≤ 64) (hct : ∀ x d, seen.At R x d → d.N.length ≤ 4096) (A : Option Addr) (c : Nat) (ad : Int) (L : List (Nat × Int)) (mx : Int) (p : ByteArray) (w : World) (hst : StkM w A L (tabs R))
    (hmx : w.cell? ⟨0, 0, none⟩ = some (.int .i64 mx)) (hp : p.size ≤ 1000000) {O : AtO} (hO : Goes R true p O) :
    Calls Tryz.prog 12 #[stkV A L.length c ad, .string p] w (LsOut R O w) := by
  obtain ⟨W1, hW1⟩ : ∃ W1, W1 = w.alloc (.cells #[.slice A L.length c, .int .i64 ad] 27) := ⟨_, rfl⟩
  have hb1 : Below w.heap.size w W1 := by rw [hW1]; exact (Below.refl _ _).alloc (Nat.le_refl _) _
  have hs1 : W1.heap[w.heap.size]? = some (.cells #[.slice A L.length c, .int .i64 ad] 27 (0, 0)) := by rw [hW1]; exact heap_alloc_new w _
  have s0 := cell_of_blk hs1 0
  have s1 := cell_of_blk hs1 1
  have HS := Lib.hid hs1
  have HB1 := Lib.hid hb1
  have HSt := Lib.hid (hst.later hb1)
  have HWk := Lib.hid (show Calls Tryz.prog 20 #[.agg #[.slice A L.length c, .int .i64 ad], .string p, .bool true] W1 (WalkedTo R O W1) from walk_any hg hK hk hR A c ad L mx p true O hO W1 (hst.later hb1) (below_cell hmx hb1) hp)
  have HH := Lib.hid (And.intro hg (And.intro hct hR))
  have HW1 := Lib.hid hW1
  clear hW1 hb1 hs1 hst hmx hg hct hK hk hR hp hO
  unfold stkV
  go_enter Tryz.func12, Tryz.ntmps12
  go_upto_region 1 with fail
  rw [← HW1.out]
  clear HW1
  go_wp2_with fail
  refine HWk.out.mono ?_
  rintro e w2 ⟨(⟨j, hOe, hj, _, _, rfl⟩ | ⟨t, At, ct, ns, E, hOe, rfl, hpl, hl, hz, hH, hS, hn, hnl, hal, hne, hsp⟩), hb2⟩
  · rw [show tgV noT none 0 = .agg #[.string ⟨#[]⟩, .int .i64 0, .int .i64 0, .int .i64 0, .slice none 0 0] from rfl]
    obtain ⟨W3, hW3⟩ : ∃ W3, W3 = w2.alloc (.cells #[.string ⟨#[]⟩, .int .i64 0, .int .i64 0, .int .i64 0, .slice none 0 0] 58) := ⟨_, rfl⟩
    have hb3 : Below w2.heap.size w2 W3 := by rw [hW3]; exact (Below.refl _ _).alloc (Nat.le_refl _) _
    have HF := Lib.hid (HB1.out.trans ((hb2.trans (hb3.mono hb2.size)).mono HB1.out.size))
    have HOe := Lib.hid hOe
    have HJ := Lib.hid hj
    have gj : (j != 0) = true := by rw [bne_iff_ne]; exact hj
    have HW3 := Lib.hid hW3
    clear hW3 hb3 hb2 hOe hj HWk
    go_upto_region 2 with fail
    rw [← HW3.out]
    clear HW3 s0 s1
    go_wp2_with fail
    exact bodyPost_ret (v := .tuple #[.string ⟨#[]⟩, .slice none 0 0, .int .i64 j]) (by simp [results, Tryz.results12, go_sem]) rfl ⟨.inl ⟨by rw [HOe.out]; exact HJ.out, by rw [HOe.out]; rfl⟩, HF.out⟩
  obtain ⟨W3, hW3⟩ : ∃ W3, W3 = w2.alloc (.cells #[.string t.S, .int .i64 t.K, .int .i64 t.l, .int .i64 t.i, .slice At t.Q.length ct] 58) := ⟨_, rfl⟩
  have hx3 : W3.heap[w2.heap.size]? = some (.cells #[.string t.S, .int .i64 t.K, .int .i64 t.l, .int .i64 t.i, .slice At t.Q.length ct] 58 (0, 0)) := by rw [hW3]; exact heap_alloc_new w2 _
  have hb3 : Below w2.heap.size w2 W3 := by rw [hW3]; exact (Below.refl _ _).alloc (Nat.le_refl _) _
  have HB3 := Lib.hid (hb2.trans (hb3.mono hb2.size))
  have HX3 := Lib.hid hx3
  have x1 := cell_of_blk hx3 1
  have HW3 := Lib.hid hW3
  have HPl := Lib.hid ((hpl.keep hb3).more hb3.size)
  have HOe := Lib.hid hOe
  have HSp : Hid (t.S = pathOf ns) := Lib.hid hS
  clear hW3 hb3 hb2 hx3 HWk hpl hS hl hz hsp
  unfold tgV
  rcases hH with hH | ⟨lv, nd, d, rfl, hKd, _, hKt, h6, h7, h8⟩
  rotate_left 1
  · have HF := Lib.hid (HB1.out.trans (HB3.out.mono HB1.out.size))
    have HE3 : Hid (lsE O = 3) := Lib.hid (by
      rw [HOe.out]
      unfold lsE
      exact if_neg (show ¬ d.K = 2 by omega))
    have gk : (t.K != 2) = true := by rw [bne_iff_ne, hKt]; omega
    clear hKd hKt hOe h6 h7 h8 hn hnl hal hne
    go_upto_region 2 with fail
    rw [← HW3.out]
    clear HW3 s0 s1
    go_wp2_with fail
    exact bodyPost_ret (v := .tuple #[.string ⟨#[]⟩, .slice none 0 0, .int .i64 3]) (by simp [results, Tryz.results12, go_sem]) rfl ⟨.inl ⟨by rw [HE3.out]; decide, by rw [HE3.out]⟩, HF.out⟩
  obtain ⟨hdir, hK2, hats, hup, h6, h7⟩ := hH
  clear h6 h7
  have HEr : Hid (lsE O = 0) := Lib.hid (by
    rw [HOe.out]
    unfold lsE
    refine if_pos ?_
    rcases E with _ | ⟨d, E⟩
    · rfl
    · exact hdir d (List.mem_cons_self ..))
  have hcd : ∀ d ∈ E, d.N.length ≤ 4096 := fun d hd => by
    obtain ⟨x, _, hx⟩ := hats.mem d hd
    exact HH.out.2.1 x d hx
  have hel : E.length ≤ 64 := by
    have h1 := hal.len
    have h2 : (D0 R).length ≤ R.length := by unfold D0; rw [List.length_take]; exact Nat.min_le_right _ _
    have h3 := HH.out.2.2
    omega
  have hql : t.Q.length ≤ 64 := by rw [hats.length]; exact hel
  have HFew : Hid (∀ out El, heap.Merged (mrg.rowsOf E) out → mrg.Kinds E (heap.firsts out) El → El.length ≤ 1000000) := Lib.hid fun out El h1 h2 => listed_few h1 h2 hcd hel
  have HAll := Lib.hid (And.intro hdir (And.intro hcd (And.intro hn (And.intro hnl (And.intro hal hne)))))
  have HLi : Hid (∀ w' : World, Below W3.heap.size W3 w' → Calls Tryz.prog 42 #[.agg #[.slice A L.length c, .int .i64 ad], .slice At t.Q.length ct] w' (mrg.ListOut E w')) := Lib.hid fun w' hb => by
    have hb' := HB3.out.trans (hb.mono HB3.out.size)
    exact mrg.list_any HH.out.1 hats hcd A c ad L At ct w' (HSt.out.later hb') ((HPl.out.keep hb).more hb.size) hql
  have HSS : Hid (∀ w' : World, Below W3.heap.size W3 w' → (w'.cell? ⟨w.heap.size, 0, none⟩ = some (.slice A L.length c) ∧ w'.cell? ⟨w.heap.size, 1, none⟩ = some (.int .i64 ad) ∧ w'.cell? ⟨w2.heap.size, 0, none⟩ = some (.string t.S) ∧ w'.cell? ⟨w2.heap.size, 4, none⟩ = some (.slice At t.Q.length ct) ∧ Below W3.heap.size W3 w')) := Lib.hid fun w' hb => by
    have hb' := HB3.out.trans (hb.mono HB3.out.size)
    have e1 := (hb'.block _ (lt_of_some HS.out)).trans HS.out
    have e2 := (hb.block _ (lt_of_some HX3.out)).trans HX3.out
    exact ⟨cell_of_blk e1 0, cell_of_blk e1 1, cell_of_blk e2 0, cell_of_blk e2 4, hb⟩
  have HBv : Hid (Below W3.heap.size W3 W3.drew) := Lib.hid (Below.refl _ _).drew
  rw [hK2] at x1
  clear hdir hK2 hats hup hcd hel hql hn hnl hal hne hOe
  go_upto_region 2 with fail
  rw [← HW3.out]
  clear HW3 s0 s1
  go_upto_region 6 with fail
  refine wp_region_held_drew (S := fun w' => (w'.cell? ⟨w.heap.size, 0, none⟩ = some (.slice A L.length c) ∧ w'.cell? ⟨w.heap.size, 1, none⟩ = some (.int .i64 ad) ∧ w'.cell? ⟨w2.heap.size, 0, none⟩ = some (.string t.S) ∧ w'.cell? ⟨w2.heap.size, 4, none⟩ = some (.slice At t.Q.length ct) ∧ Below W3.heap.size W3 w')) (by kernel_rfl) (HSS.out _ HBv.out) (fun hHeld => ?_)
  refine wpAnyH_take (i := 0) (oi := ⟨some 22, _, _, _, _, _⟩) (v := ?_) rfl (by kernel_rfl) (by kernel_rfl) (by kernel_rfl) (fun _ _ _ h => h) (Or.inl ⟨by kernel_rfl, ?_⟩) (by assumption) ?_
  rotate_left 1
  focus (intro w' hSw; (try dsimp only at hSw); go_simp; (try with_reducible rfl))
  try simp only [Act.put, List.setIfInBounds_toArray, List.set_cons_zero, List.set_cons_succ]
  refine wpAnyH_take (i := 1) (oi := ⟨some 23, _, _, _, _, _⟩) (v := ?_) rfl (by kernel_rfl) (by kernel_rfl) (by kernel_rfl) (fun _ _ _ h => h) (Or.inl ⟨by kernel_rfl, ?_⟩) (by assumption) ?_
  rotate_left 1
  focus (intro w' hSw; (try dsimp only at hSw); go_simp; (try with_reducible rfl))
  try simp only [Act.put, List.setIfInBounds_toArray, List.set_cons_zero, List.set_cons_succ]
  refine wpAnyH_take (i := 2) (oi := ⟨some 24, _, _, _, _, _⟩) (v := ?_) rfl (by kernel_rfl) (by kernel_rfl) (by kernel_rfl) (fun _ _ _ h => h) (Or.inl ⟨by kernel_rfl, ?_⟩) (by assumption) ?_
  rotate_left 1
  focus (intro w' hSw; (try dsimp only at hSw); go_simp; (try with_reducible rfl))
  try simp only [Act.put, List.setIfInBounds_toArray, List.set_cons_zero, List.set_cons_succ]
  refine wpAnyH_take (i := 3) (oi := ⟨some 25, _, _, _, _, _⟩) (v := ?_) rfl (by kernel_rfl) (by kernel_rfl) (by kernel_rfl) (fun _ _ _ h => h) (Or.inl ⟨by kernel_rfl, ?_⟩) (by assumption) ?_
  rotate_left 1
  focus (intro w' hSw; (try dsimp only at hSw); go_simp; (try with_reducible rfl))
  try simp only [Act.put, List.setIfInBounds_toArray, List.set_cons_zero, List.set_cons_succ]
  refine wpAnyH_take (i := 4) (oi := ⟨some 26, _, _, _, _, _⟩) (v := ?_) rfl (by kernel_rfl) (by kernel_rfl) (by kernel_rfl) (fun _ _ _ h => h) (Or.inl ⟨by kernel_rfl, ?_⟩) (by assumption) ?_
  rotate_left 1
  focus (intro w' hSw; (try dsimp only at hSw); go_simp; (try with_reducible rfl))
  try simp only [Act.put, List.setIfInBounds_toArray, List.set_cons_zero, List.set_cons_succ]
  refine wpAnyH_take (i := 5) (oi := ⟨some 27, _, _, _, _, _⟩) (v := ?_) rfl (by kernel_rfl) (by kernel_rfl) (by kernel_rfl) (fun _ _ _ h => h) (Or.inl ⟨by kernel_rfl, ?_⟩) (by assumption) ?_
  rotate_left 1
  focus (intro w' hSw; (try dsimp only at hSw); go_simp; (try with_reducible rfl))
  try simp only [Act.put, List.setIfInBounds_toArray, List.set_cons_zero, List.set_cons_succ]
  refine wpAnyH_ready (rs := [6]) (by kernel_rfl) (by simp) ?_
  refine AllReadyH.cons rfl (fun K hK => ?_) AllReadyH.nil
  go_simp
  go_at_call 42
  refine (HLi.out _ HBv.out).mono ?_
  rintro en v1 ⟨out, El, Al, cl, hmg, hkn, rfl, how, hv1⟩
  have hq1 := HBv.out.trans (hv1.mono HBv.out.size)
  clear hHeld
  refine hK.out _ _ (HSS.out _ hq1) (fun hHeld => ?_)
  clear hK
  refine wpAnyH_take (i := 7) (oi := ⟨some 4, _, _, _, _, _⟩) (v := ?_) rfl (by kernel_rfl) (by kernel_rfl) (by kernel_rfl) (fun _ _ _ h => h) (Or.inl ⟨by kernel_rfl, ?_⟩) (by assumption) ?_
  rotate_left 1
  focus (intro w' hSw; (try dsimp only at hSw); go_simp; (try with_reducible rfl))
  try simp only [Act.put, List.setIfInBounds_toArray, List.set_cons_zero, List.set_cons_succ]
  refine wpAnyH_take (i := 8) (oi := ⟨some 5, _, _, _, _, _⟩) (v := ?_) rfl (by kernel_rfl) (by kernel_rfl) (by kernel_rfl) (fun _ _ _ h => h) (Or.inl ⟨by kernel_rfl, ?_⟩) (by assumption) ?_
  rotate_left 1
  focus (intro w' hSw; (try dsimp only at hSw); go_simp; (try with_reducible rfl))
  try simp only [Act.put, List.setIfInBounds_toArray, List.set_cons_zero, List.set_cons_succ]
  refine wpAnyH_take (i := 9) (oi := ⟨some 6, _, _, _, _, _⟩) (v := ?_) rfl (by kernel_rfl) (by kernel_rfl) (by kernel_rfl) (fun _ _ _ h => h) (Or.inl ⟨by kernel_rfl, ?_⟩) (by assumption) ?_
  rotate_left 1
  focus (intro w' hSw; (try dsimp only at hSw); go_simp; (try with_reducible rfl))
  try simp only [Act.put, List.setIfInBounds_toArray, List.set_cons_zero, List.set_cons_succ]
  refine wpAnyH_done (by kernel_rfl) ?_ _
  have HF := Lib.hid (HB1.out.trans ((HB3.out.trans (hq1.mono HB3.out.size)).mono HB1.out.size))
  have HLe := Lib.hid (HFew.out _ _ hmg hkn)
  have HLd : Hid (Listed E El) := Lib.hid ⟨out, hmg, hkn⟩
  have HLs := Lib.hid (mrg.lies_own how)
  clear hHeld hv1 hq1 hmg hkn how HLi HFew HSS HBv x1
  go_wp2_with fail
  obtain ⟨a1, a2, a3, a4, a5, a6⟩ := HAll.out
  exact bodyPost_ret (v := .tuple #[.string t.S, .slice Al El.length cl, .int .i64 0]) (by simp [results, Tryz.results12, go_sem]) rfl ⟨.inr ⟨ns, E, El, Al, cl, HOe.out, HEr.out, a1, a2, a3, a4, a5, a6, HLd.out, HLe.out, by rw [HSp.out], HLs.out⟩, HF.out⟩
end Go.Proofs.YtkbhcncbpiimdaaGreatDoor.uni

namespace Go.Proofs.YtkbhcncbpiimdaaGreatDoor.uni
set_option maxRecDepth 100000
open Go.RowKit Go.Proofs.YtkbhcncbpiimdaaGreatDoor.words Go.Proofs.YtkbhcncbpiimdaaGreatDoor.ext Go.Proofs.YtkbhcncbpiimdaaGreatDoor.name Go.Proofs.YtkbhcncbpiimdaaGreatDoor.tre Go.Proofs.YtkbhcncbpiimdaaGreatDoor.stk Go.Proofs.YtkbhcncbpiimdaaGreatDoor.seen Go.Proofs.YtkbhcncbpiimdaaGreatDoor.wlk

theorem leads_errL {R : List Nd} {f : Bool} {ns ps : List ByteArray} {h : Nat} {o : AtO} (H : Leads R f ns ps h o) : ∀ j, o = .err j → j ≠ 0 := by
  induction H with
  | done => intro j h; cases h
  | up _ ih => exact ih
  | none => intro j h; injection h with h; omega
  | dir _ _ _ _ _ _ ih => exact ih
  | loop => intro j h; injection h with h; omega
  | hop _ _ _ _ _ _ _ _ ih => exact ih
  | not => intro j h; injection h with h; omega
  | leaf => intro j h; cases h
theorem goes_errL {R : List Nd} {f : Bool} {s : ByteArray} {j : Int} (h : Goes R f s (.err j)) : j ≠ 0 := by
  rcases h with ⟨_, h⟩ | ⟨_, _, h⟩
  · injection h with h; omega
  · exact leads_errL h j rfl
/-- What the reference hands back. -/
def RlOut (O : AtO) (w : World) (e : Ending) (w' : World) : Prop :=
  ((lsE O ≠ 0 ∧ e = .returned (.tuple #[.slice none 0 0, .slice none 0 0, .int .i64 (lsE O)])) ∨
   (∃ (ns : List ByteArray) (E : List Nd) (N : List ByteArray) (E2 : List (ByteArray × Int)) (A1 : Option Addr) (c1 : Nat) (A2 : Option Addr) (c2 : Nat), O = .ok ns E ∧ lsE O = 0 ∧ heap.Ris N ∧ (∀ s, s ∈ N ↔ s ∈ mrg.namesOf E) ∧ mrg.LstK E N E2 ∧
      e = .returned (.tuple #[.slice A1 ns.length c1, .slice A2 E2.length c2, .int .i64 0]) ∧ heap.Row w' w'.heap.size A1 ns ∧ Lies w' A2 (E2.flatMap mrg.enC))) ∧ Below w.heap.size w w'
set_option maxHeartbeats 12800000 in
theorem rlist_any {R : List Nd} (hg : ∀ t ∈ R, allB t = true) (hR : R.length ≤ 64) (A : Option Addr) (c : Nat) (rs : Nat → Raw) (p : ByteArray) (w : World) (hT : Trees w w.heap.size A R rs) (hp : p.size ≤ 1000000) {O : AtO} (hO : Goes R true p O)
    (hcn : lsE O = 0 → ∀ ns E, O = .ok ns E → ∀ d ∈ E, d.N.length ≤ 4096) :
    Calls Tryz.prog 13 #[.slice A R.length c, .string p] w (RlOut O w) := by
  have HWk : Hid (Calls Tryz.prog 43 #[.slice A R.length c, .string p, .bool true] w fun e w'' => (∃ (B1 : Option Addr) (m1 e1 : Nat) (B2 : Option Addr) (m2 e2 : Nat) (kz : Int), e = .returned (.agg #[.slice B1 m1 e1, .slice B2 m2 e2, .int .i64 kz]) ∧ AtIn O (.agg #[.slice B1 m1 e1, .slice B2 m2 e2, .int .i64 kz]) w'') ∧ Below w.heap.size w w'') := Lib.hid (
    (refwalk_any hg hR A c rs p true O w hT hp hO).mono fun e w'' ⟨⟨v, he, hv⟩, hw⟩ => by
      obtain ⟨B1, m1, e1, B2, m2, e2, kz, rfl⟩ := hv.shape
      exact ⟨⟨B1, m1, e1, B2, m2, e2, kz, he, hv⟩, hw⟩)
  have HJ : Hid (∀ j, O = .err j → j ≠ 0) := Lib.hid fun j h => goes_errL (by rw [h] at hO; exact hO)
  have HAl : Hid (∀ ns E, O = .ok ns E → Along (D0 R) ns E) := Lib.hid fun ns E h => (goes_ok hg (by rw [h] at hO; exact hO)).1
  have HGg := Lib.hid (And.intro hg hR)
  have HCn := Lib.hid hcn
  clear hg hR hT hp hO hcn
  go_enter Tryz.func13, Tryz.ntmps13
  go_wp2_with fail
  refine HWk.out.mono ?_
  rintro ex w2 ⟨⟨B1, m1, e1, B2, m2, e2, kz, rfl, hat⟩, hb2⟩
  obtain ⟨W3, hW3⟩ : ∃ W3, W3 = w2.alloc (.cells #[.slice B1 m1 e1, .slice B2 m2 e2, .int .i64 kz] 106) := ⟨_, rfl⟩
  have hx3 : W3.heap[w2.heap.size]? = some (.cells #[.slice B1 m1 e1, .slice B2 m2 e2, .int .i64 kz] 106 (0, 0)) := by rw [hW3]; exact heap_alloc_new w2 _
  have hb23 : Below w2.heap.size w2 W3 := by rw [hW3]; exact (Below.refl _ _).alloc (Nat.le_refl _) _
  have HB3 := Lib.hid (hb2.trans (hb23.mono hb2.size))
  have HAt := Lib.hid (hat.later hb23)
  have HX3 := Lib.hid hx3
  have a1 := cell_of_blk hx3 1
  have a2 := cell_of_blk hx3 2
  have HW3 := Lib.hid hW3.symm
  have HSS : Hid (∀ w' : World, Below W3.heap.size W3 w' → (w'.cell? ⟨w2.heap.size, 0, none⟩ = some (.slice B1 m1 e1) ∧ w'.cell? ⟨w2.heap.size, 1, none⟩ = some (.slice B2 m2 e2) ∧ w'.cell? ⟨w2.heap.size, 2, none⟩ = some (.int .i64 kz) ∧ Below W3.heap.size W3 w')) := Lib.hid fun w' hb => by
    have e2 := (hb.block _ (lt_of_some HX3.out)).trans HX3.out
    exact ⟨cell_of_blk e2 0, cell_of_blk e2 1, cell_of_blk e2 2, hb⟩
  have HBv : Hid (Below W3.heap.size W3 W3.drew) := Lib.hid (Below.refl _ _).drew
  clear hW3 hx3 hb23 hb2 hat HWk
  go_upto_region 2 with fail
  rw [HW3.out]
  clear HW3
  rcases hOe : O with j | ⟨ns, E⟩
  · subst hOe
    have hj : j ≠ 0 := HJ.out j rfl
    obtain rfl : kz = j := by
      have h1 : (.agg #[.slice B1 m1 e1, .slice B2 m2 e2, .int .i64 kz] : Value) = .agg #[.slice none 0 0, .slice none 0 0, .int .i64 j] := HAt.out
      injection h1 with h1
      have h2 := congrArg (fun x : Array Value => x[2]?) h1
      simpa using h2
    have gj : (kz != 0) = true := by rw [bne_iff_ne]; exact hj
    have HJz := Lib.hid hj
    clear hj
    go_upto_region 3 with fail
    refine wp_region_held_drew (S := fun w' => (w'.cell? ⟨w2.heap.size, 0, none⟩ = some (.slice B1 m1 e1) ∧ w'.cell? ⟨w2.heap.size, 1, none⟩ = some (.slice B2 m2 e2) ∧ w'.cell? ⟨w2.heap.size, 2, none⟩ = some (.int .i64 kz) ∧ Below W3.heap.size W3 w')) (by kernel_rfl) (HSS.out _ HBv.out) (fun hHeld => ?_)
    refine wpAnyH_take (i := 0) (oi := ⟨some 14, _, _, _, _, _⟩) (v := ?_) rfl (by kernel_rfl) (by kernel_rfl) (by kernel_rfl) (fun _ _ _ h => h) (Or.inl ⟨by kernel_rfl, ?_⟩) (by assumption) ?_
    rotate_left 1
    focus (intro w' hSw; (try dsimp only at hSw); go_simp; (try with_reducible rfl))
    try simp only [Act.put, List.setIfInBounds_toArray, List.set_cons_zero, List.set_cons_succ]
    refine wpAnyH_take (i := 1) (oi := ⟨some 15, _, _, _, _, _⟩) (v := ?_) rfl (by kernel_rfl) (by kernel_rfl) (by kernel_rfl) (fun _ _ _ h => h) (Or.inl ⟨by kernel_rfl, ?_⟩) (by assumption) ?_
    rotate_left 1
    focus (intro w' hSw; (try dsimp only at hSw); go_simp; (try with_reducible rfl))
    try simp only [Act.put, List.setIfInBounds_toArray, List.set_cons_zero, List.set_cons_succ]
    refine wpAnyH_take (i := 2) (oi := ⟨some 4, _, _, _, _, _⟩) (v := ?_) rfl (by kernel_rfl) (by kernel_rfl) (by kernel_rfl) (fun _ _ _ h => h) (Or.inl ⟨by kernel_rfl, ?_⟩) (by assumption) ?_
    rotate_left 1
    focus (intro w' hSw; (try dsimp only at hSw); go_simp; (try with_reducible rfl))
    try simp only [Act.put, List.setIfInBounds_toArray, List.set_cons_zero, List.set_cons_succ]
    refine wpAnyH_take (i := 3) (oi := ⟨some 5, _, _, _, _, _⟩) (v := ?_) rfl (by kernel_rfl) (by kernel_rfl) (by kernel_rfl) (fun _ _ _ h => h) (Or.inl ⟨by kernel_rfl, ?_⟩) (by assumption) ?_
    rotate_left 1
    focus (intro w' hSw; (try dsimp only at hSw); go_simp; (try with_reducible rfl))
    try simp only [Act.put, List.setIfInBounds_toArray, List.set_cons_zero, List.set_cons_succ]
    refine wpAnyH_take (i := 4) (oi := ⟨some 6, _, _, _, _, _⟩) (v := ?_) rfl (by kernel_rfl) (by kernel_rfl) (by kernel_rfl) (fun _ _ _ h => h) (Or.inl ⟨by kernel_rfl, ?_⟩) (by assumption) ?_
    rotate_left 1
    focus (intro w' hSw; (try dsimp only at hSw); go_simp; (try with_reducible rfl))
    try simp only [Act.put, List.setIfInBounds_toArray, List.set_cons_zero, List.set_cons_succ]
    refine wpAnyH_done (by kernel_rfl) ?_ _
    have HF := Lib.hid (HB3.out.trans (HBv.out.mono HB3.out.size))
    clear hHeld HSS a1 a2
    go_wp2_with fail
    exact bodyPost_ret (v := .tuple #[.slice none 0 0, .slice none 0 0, .int .i64 kz]) (by simp [results, Tryz.results13, go_sem]) rfl ⟨.inl ⟨HJz.out, rfl⟩, HF.out⟩
  subst hOe
  have hAt := HAt.out
  obtain ⟨A1, c1, A2, c2, qs, hv, hrow, _, _, htr, _⟩ := hAt
  injection hv with hv
  have h0 := congrArg (fun x : Array Value => x[0]?) hv
  have h1 := congrArg (fun x : Array Value => x[1]?) hv
  have h2 := congrArg (fun x : Array Value => x[2]?) hv
  simp at h0 h1 h2
  obtain ⟨rfl, rfl, rfl⟩ := h0
  obtain ⟨rfl, rfl, rfl⟩ := h1
  subst h2
  have HRow := Lib.hid hrow
  have HTr := Lib.hid htr
  clear hv hrow htr HAt HJ
  rcases E with _ | ⟨d, E⟩
  · have HEr : Hid (lsE (.ok ns []) = 0) := Lib.hid rfl
    have hal := HAl.out ns [] rfl
    have hgd := hal.good (wlk.Good.root HGg.out.1)
    have hcd := HCn.out HEr.out ns [] rfl
    have hel : ([] : List Nd).length ≤ 64 := by
      have h1 := hal.len
      have h2 : (D0 R).length ≤ R.length := by unfold D0; rw [List.length_take]; exact Nat.min_le_right _ _
      have h3 := HGg.out.2
      omega
    have HLi : Hid (∀ w' : World, Below W3.heap.size W3 w' → Calls Tryz.prog 44 #[.slice B2 ([] : List Nd).length e2] w' (mrg.RefOut [] w')) := Lib.hid fun w' hb => mrg.reflist_any B2 e2 [] qs w' (HTr.out.later hb) hel hgd.asc hcd
    clear hal hgd hcd hel
    go_upto_region 6 with fail
    refine wp_region_held_drew (S := fun w' => (w'.cell? ⟨w2.heap.size, 0, none⟩ = some (.slice B1 ns.length e1) ∧ w'.cell? ⟨w2.heap.size, 1, none⟩ = some (.slice B2 ([] : List Nd).length e2) ∧ w'.cell? ⟨w2.heap.size, 2, none⟩ = some (.int .i64 0) ∧ Below W3.heap.size W3 w')) (by kernel_rfl) (HSS.out _ HBv.out) (fun hHeld => ?_)
    refine wpAnyH_take (i := 0) (oi := ⟨some 28, _, _, _, _, _⟩) (v := ?_) rfl (by kernel_rfl) (by kernel_rfl) (by kernel_rfl) (fun _ _ _ h => h) (Or.inl ⟨by kernel_rfl, ?_⟩) (by assumption) ?_
    rotate_left 1
    focus (intro w' hSw; (try dsimp only at hSw); go_simp; (try with_reducible rfl))
    try simp only [Act.put, List.setIfInBounds_toArray, List.set_cons_zero, List.set_cons_succ]
    refine wpAnyH_take (i := 1) (oi := ⟨some 29, _, _, _, _, _⟩) (v := ?_) rfl (by kernel_rfl) (by kernel_rfl) (by kernel_rfl) (fun _ _ _ h => h) (Or.inl ⟨by kernel_rfl, ?_⟩) (by assumption) ?_
    rotate_left 1
    focus (intro w' hSw; (try dsimp only at hSw); go_simp; (try with_reducible rfl))
    try simp only [Act.put, List.setIfInBounds_toArray, List.set_cons_zero, List.set_cons_succ]
    refine wpAnyH_take (i := 2) (oi := ⟨some 30, _, _, _, _, _⟩) (v := ?_) rfl (by kernel_rfl) (by kernel_rfl) (by kernel_rfl) (fun _ _ _ h => h) (Or.inl ⟨by kernel_rfl, ?_⟩) (by assumption) ?_
    rotate_left 1
    focus (intro w' hSw; (try dsimp only at hSw); go_simp; (try with_reducible rfl))
    try simp only [Act.put, List.setIfInBounds_toArray, List.set_cons_zero, List.set_cons_succ]
    refine wpAnyH_take (i := 3) (oi := ⟨some 31, _, _, _, _, _⟩) (v := ?_) rfl (by kernel_rfl) (by kernel_rfl) (by kernel_rfl) (fun _ _ _ h => h) (Or.inl ⟨by kernel_rfl, ?_⟩) (by assumption) ?_
    rotate_left 1
    focus (intro w' hSw; (try dsimp only at hSw); go_simp; (try with_reducible rfl))
    try simp only [Act.put, List.setIfInBounds_toArray, List.set_cons_zero, List.set_cons_succ]
    refine wpAnyH_ready (rs := [4]) (by kernel_rfl) (by simp) ?_
    refine AllReadyH.cons rfl (fun K hK => ?_) AllReadyH.nil
    go_simp
    go_at_call 44
    refine (HLi.out _ HBv.out).mono ?_
    rintro en v1 ⟨⟨N, E2, A2, c2, hris, hmem, hlk, hle, rfl, hlies⟩, hv1⟩
    have hq1 := HBv.out.trans (hv1.mono HBv.out.size)
    clear hHeld
    refine hK.out _ _ (HSS.out _ hq1) (fun hHeld => ?_)
    clear hK
    refine wpAnyH_take (i := 5) (oi := ⟨some 4, _, _, _, _, _⟩) (v := ?_) rfl (by kernel_rfl) (by kernel_rfl) (by kernel_rfl) (fun _ _ _ h => h) (Or.inl ⟨by kernel_rfl, ?_⟩) (by assumption) ?_
    rotate_left 1
    focus (intro w' hSw; (try dsimp only at hSw); go_simp; (try with_reducible rfl))
    try simp only [Act.put, List.setIfInBounds_toArray, List.set_cons_zero, List.set_cons_succ]
    refine wpAnyH_take (i := 6) (oi := ⟨some 5, _, _, _, _, _⟩) (v := ?_) rfl (by kernel_rfl) (by kernel_rfl) (by kernel_rfl) (fun _ _ _ h => h) (Or.inl ⟨by kernel_rfl, ?_⟩) (by assumption) ?_
    rotate_left 1
    focus (intro w' hSw; (try dsimp only at hSw); go_simp; (try with_reducible rfl))
    try simp only [Act.put, List.setIfInBounds_toArray, List.set_cons_zero, List.set_cons_succ]
    refine wpAnyH_take (i := 7) (oi := ⟨some 6, _, _, _, _, _⟩) (v := ?_) rfl (by kernel_rfl) (by kernel_rfl) (by kernel_rfl) (fun _ _ _ h => h) (Or.inl ⟨by kernel_rfl, ?_⟩) (by assumption) ?_
    rotate_left 1
    focus (intro w' hSw; (try dsimp only at hSw); go_simp; (try with_reducible rfl))
    try simp only [Act.put, List.setIfInBounds_toArray, List.set_cons_zero, List.set_cons_succ]
    refine wpAnyH_done (by kernel_rfl) ?_ _
    have HF := Lib.hid (HB3.out.trans (hq1.mono HB3.out.size))
    have HX := Lib.hid (And.intro hris (And.intro hmem (And.intro hlk (And.intro ((HRow.out.keep hq1).more hq1.size) hlies))))
    clear hHeld hv1 hq1 hris hmem hlk hlies hle HLi HSS HBv a1 a2
    go_wp2_with fail
    obtain ⟨a1, a2, a3, a4, a5⟩ := HX.out
    exact bodyPost_ret (v := .tuple #[.slice B1 ns.length e1, .slice A2 E2.length c2, .int .i64 0]) (by simp [results, Tryz.results13, go_sem]) rfl ⟨.inr ⟨ns, [], N, E2, _, _, _, _, rfl, HEr.out, a1, a2, a3, rfl, a4, a5⟩, HF.out⟩
  obtain ⟨⟨bn, on, hA2, hbn, hcn⟩, _⟩ := HTr.out 0 d rfl
  subst hA2
  have kd : W3.cell? ⟨bn, on, none⟩ = some (.int .i64 d.K) := by
    have h1 := hcn 0 _ rfl
    rw [Nat.zero_mul, Nat.add_zero] at h1
    exact h1
  have l0 : (0 : Int) < ((E.length + 1 : Nat) : Int) := by omega
  have l0' : (0 : Int) < (E.length : Int) + 1 := by omega
  clear hbn hcn
  by_cases hd : d.K = 2
  · rw [hd] at kd
    have HEr : Hid (lsE (.ok ns (d :: E)) = 0) := Lib.hid (if_pos hd)
    have hal := HAl.out ns (d :: E) rfl
    have hgd := hal.good (wlk.Good.root HGg.out.1)
    have hcd := HCn.out HEr.out ns (d :: E) rfl
    have hel : ((d :: E) : List Nd).length ≤ 64 := by
      have h1 := hal.len
      have h2 : (D0 R).length ≤ R.length := by unfold D0; rw [List.length_take]; exact Nat.min_le_right _ _
      have h3 := HGg.out.2
      omega
    have HLi : Hid (∀ w' : World, Below W3.heap.size W3 w' → Calls Tryz.prog 44 #[(.slice (some ⟨bn, on, none⟩) ((d :: E) : List Nd).length e2)] w' (mrg.RefOut (d :: E) w')) := Lib.hid fun w' hb => mrg.reflist_any (some ⟨bn, on, none⟩) e2 (d :: E) qs w' (HTr.out.later hb) hel hgd.asc hcd
    clear hal hgd hcd hel
    clear hd
    go_upto_region 6 with fail
    refine wp_region_held_drew (S := fun w' => (w'.cell? ⟨w2.heap.size, 0, none⟩ = some (.slice B1 ns.length e1) ∧ w'.cell? ⟨w2.heap.size, 1, none⟩ = some (.slice (some ⟨bn, on, none⟩) (d :: E).length e2) ∧ w'.cell? ⟨w2.heap.size, 2, none⟩ = some (.int .i64 0) ∧ Below W3.heap.size W3 w')) (by kernel_rfl) (HSS.out _ HBv.out) (fun hHeld => ?_)
    refine wpAnyH_take (i := 0) (oi := ⟨some 28, _, _, _, _, _⟩) (v := ?_) rfl (by kernel_rfl) (by kernel_rfl) (by kernel_rfl) (fun _ _ _ h => h) (Or.inl ⟨by kernel_rfl, ?_⟩) (by assumption) ?_
    rotate_left 1
    focus (intro w' hSw; (try dsimp only at hSw); go_simp; (try with_reducible rfl))
    try simp only [Act.put, List.setIfInBounds_toArray, List.set_cons_zero, List.set_cons_succ]
    refine wpAnyH_take (i := 1) (oi := ⟨some 29, _, _, _, _, _⟩) (v := ?_) rfl (by kernel_rfl) (by kernel_rfl) (by kernel_rfl) (fun _ _ _ h => h) (Or.inl ⟨by kernel_rfl, ?_⟩) (by assumption) ?_
    rotate_left 1
    focus (intro w' hSw; (try dsimp only at hSw); go_simp; (try with_reducible rfl))
    try simp only [Act.put, List.setIfInBounds_toArray, List.set_cons_zero, List.set_cons_succ]
    refine wpAnyH_take (i := 2) (oi := ⟨some 30, _, _, _, _, _⟩) (v := ?_) rfl (by kernel_rfl) (by kernel_rfl) (by kernel_rfl) (fun _ _ _ h => h) (Or.inl ⟨by kernel_rfl, ?_⟩) (by assumption) ?_
    rotate_left 1
    focus (intro w' hSw; (try dsimp only at hSw); go_simp; (try with_reducible rfl))
    try simp only [Act.put, List.setIfInBounds_toArray, List.set_cons_zero, List.set_cons_succ]
    refine wpAnyH_take (i := 3) (oi := ⟨some 31, _, _, _, _, _⟩) (v := ?_) rfl (by kernel_rfl) (by kernel_rfl) (by kernel_rfl) (fun _ _ _ h => h) (Or.inl ⟨by kernel_rfl, ?_⟩) (by assumption) ?_
    rotate_left 1
    focus (intro w' hSw; (try dsimp only at hSw); go_simp; (try with_reducible rfl))
    try simp only [Act.put, List.setIfInBounds_toArray, List.set_cons_zero, List.set_cons_succ]
    refine wpAnyH_ready (rs := [4]) (by kernel_rfl) (by simp) ?_
    refine AllReadyH.cons rfl (fun K hK => ?_) AllReadyH.nil
    go_simp
    go_at_call 44
    refine (HLi.out _ HBv.out).mono ?_
    rintro en v1 ⟨⟨N, E2, A2, c2, hris, hmem, hlk, hle, rfl, hlies⟩, hv1⟩
    have hq1 := HBv.out.trans (hv1.mono HBv.out.size)
    clear hHeld
    refine hK.out _ _ (HSS.out _ hq1) (fun hHeld => ?_)
    clear hK
    refine wpAnyH_take (i := 5) (oi := ⟨some 4, _, _, _, _, _⟩) (v := ?_) rfl (by kernel_rfl) (by kernel_rfl) (by kernel_rfl) (fun _ _ _ h => h) (Or.inl ⟨by kernel_rfl, ?_⟩) (by assumption) ?_
    rotate_left 1
    focus (intro w' hSw; (try dsimp only at hSw); go_simp; (try with_reducible rfl))
    try simp only [Act.put, List.setIfInBounds_toArray, List.set_cons_zero, List.set_cons_succ]
    refine wpAnyH_take (i := 6) (oi := ⟨some 5, _, _, _, _, _⟩) (v := ?_) rfl (by kernel_rfl) (by kernel_rfl) (by kernel_rfl) (fun _ _ _ h => h) (Or.inl ⟨by kernel_rfl, ?_⟩) (by assumption) ?_
    rotate_left 1
    focus (intro w' hSw; (try dsimp only at hSw); go_simp; (try with_reducible rfl))
    try simp only [Act.put, List.setIfInBounds_toArray, List.set_cons_zero, List.set_cons_succ]
    refine wpAnyH_take (i := 7) (oi := ⟨some 6, _, _, _, _, _⟩) (v := ?_) rfl (by kernel_rfl) (by kernel_rfl) (by kernel_rfl) (fun _ _ _ h => h) (Or.inl ⟨by kernel_rfl, ?_⟩) (by assumption) ?_
    rotate_left 1
    focus (intro w' hSw; (try dsimp only at hSw); go_simp; (try with_reducible rfl))
    try simp only [Act.put, List.setIfInBounds_toArray, List.set_cons_zero, List.set_cons_succ]
    refine wpAnyH_done (by kernel_rfl) ?_ _
    have HF := Lib.hid (HB3.out.trans (hq1.mono HB3.out.size))
    have HX := Lib.hid (And.intro hris (And.intro hmem (And.intro hlk (And.intro ((HRow.out.keep hq1).more hq1.size) hlies))))
    clear hHeld hv1 hq1 hris hmem hlk hlies hle HLi HSS HBv a1 a2
    go_wp2_with fail
    obtain ⟨a1, a2, a3, a4, a5⟩ := HX.out
    exact bodyPost_ret (v := .tuple #[.slice B1 ns.length e1, .slice A2 E2.length c2, .int .i64 0]) (by simp [results, Tryz.results13, go_sem]) rfl ⟨.inr ⟨ns, (d :: E), N, E2, _, _, _, _, rfl, HEr.out, a1, a2, a3, rfl, a4, a5⟩, HF.out⟩
  · have gk : (d.K != 2) = true := by rw [bne_iff_ne]; exact hd
    have HE3 : Hid (lsE (.ok ns (d :: E)) = 3) := Lib.hid (if_neg hd)
    clear hd
    go_wp2_with fail
    exact bodyPost_ret (v := .tuple #[.slice none 0 0, .slice none 0 0, .int .i64 3]) (by simp [results, Tryz.results13, go_sem]) rfl ⟨.inl ⟨by rw [HE3.out]; decide, by rw [HE3.out]⟩, HB3.out⟩
end Go.Proofs.YtkbhcncbpiimdaaGreatDoor.uni

namespace Go.Proofs.YtkbhcncbpiimdaaGreatDoor.uni
set_option maxRecDepth 100000
open Go.RowKit Go.Proofs.YtkbhcncbpiimdaaGreatDoor.words Go.Proofs.YtkbhcncbpiimdaaGreatDoor.ext Go.Proofs.YtkbhcncbpiimdaaGreatDoor.name Go.Proofs.YtkbhcncbpiimdaaGreatDoor.tre Go.Proofs.YtkbhcncbpiimdaaGreatDoor.stk Go.Proofs.YtkbhcncbpiimdaaGreatDoor.seen Go.Proofs.YtkbhcncbpiimdaaGreatDoor.wlk

theorem app_data (a b : ByteArray) : (a ++ b).data.toList = a.data.toList ++ b.data.toList := by simp [ByteArray.data_append]
theorem text_eq {a b : ByteArray} (h : a.data.toList = b.data.toList) : a = b := ByteArray.ext (Array.toList_inj.1 h)
theorem kids_few {w : World} {B : Nat} {A : Option Addr} {T : List Nd} {rs : Nat → Raw} (hT : Trees w B A T rs) (hm : mayB T = true) : ∀ (x : Nat × Nat) (d : Nd), seen.At T.reverse x d → d.N.length ≤ 4096 := fun x d h => by
  have hone := h.one (fine_of hT hm).rev.all
  obtain ⟨t, ht, hd⟩ := h
  have htm : t ∈ T := List.mem_reverse.1 (List.mem_of_getElem? ht)
  obtain ⟨i, hi⟩ := List.mem_iff_getElem?.1 htm
  have hok := okay_of (mayB_all hm t htm).1 (hT i t hi).2.tame (mayB_all hm t htm).2
  have h1 := hok.cnt
  have h2 := (preN_in t d (List.mem_of_getElem? hd)).2.1
  have h3 : d.I.length ≤ countL d.I := countL_len d.I
  have h4 : count d = 1 + countL d.I := count_eq d
  have h5 := (one_right hone).2.1
  omega
/-- What is listed is a name of a directory, and is there. -/
theorem listed_kid {R : List Nd} (hg : ∀ t ∈ R, allB t = true) {ns : List ByteArray} {E : List Nd} {El : List (ByteArray × Int)} {s : ByteArray} {K : Int} (hdir : ∀ d ∈ E, d.K = 2) (hal : Along (D0 R) ns E) (hld : Listed E El) (hx : (s, K) ∈ El) :
    NmD s ∧ ∃ Q y S, EntN s E Q ∧ seenOf Q = y :: S ∧ y.K = K := by
  obtain ⟨out, hm, hk⟩ := hld
  have hgd := hal.good (wlk.Good.root hg)
  obtain ⟨Q, y, h1, h2, h3⟩ := mrg.listed_seen hgd.asc hm hk hx
  obtain ⟨x, _, d, i, _, he, _, g1, g2, _⟩ := hk.mem _ hx
  injection he with he _
  subst he
  have hd : d ∈ E := List.mem_of_getElem? g1
  refine ⟨dir_names (hgd.one hd) (hdir d hd) _ (List.mem_of_getElem? g2), Q, y, ?_⟩
  rcases hS : seenOf Q with _ | ⟨z, S⟩
  · rw [hS] at h2; simp at h2
  · rw [hS] at h2
    obtain rfl : z = y := by simpa using h2
    exact ⟨S, h1, rfl, h3⟩
theorem own_size {ns : List ByteArray} (hn : ∀ x ∈ ns, NmD x) (hl : ns.length ≤ 200) : (pathOf ns).size ≤ 250000 := by
  have h1 := pathOf_size ns ⟨#[47]⟩ fun n h => (hn n h).1.1
  have h2 : (⟨#[47]⟩ : ByteArray).size = 1 := rfl
  unfold pathOf
  have h3 : ns.length * 1025 ≤ 200 * 1025 := Nat.mul_le_mul_right _ hl
  omega
theorem kid_do {R : List Nd} (hg : ∀ t ∈ R, allB t = true) (hK : ∀ t ∈ R, t.K = 2) (hk : ∀ d ∈ R, depth d < 100) (hR : R.length ≤ 64) (A : Option Addr) (c : Nat) (ad : Int) (L : List (Nat × Int)) (mx : Int) {p0 : ByteArray} {ns : List ByteArray} {E : List Nd} {El : List (ByteArray × Int)} {s : ByteArray} {K : Int}
    (hO : Goes R true p0 (.ok ns E)) (hdir : ∀ d ∈ E, d.K = 2) (hn : ∀ x ∈ ns, NmD x) (hnl : ns.length ≤ 200) (hal : Along (D0 R) ns E) (hld : Listed E El) (hx : (s, K) ∈ El) (ch : ByteArray) (hch : ch = pathOf ns ++ ⟨#[47]⟩ ++ s) (w : World) (hst : StkM w A L (tabs R)) (hL : Falls L)
    (hmx : w.cell? ⟨0, 0, none⟩ = some (.int .i64 mx)) :
    Calls Tryz.prog 16 #[stkV A L.length c ad, opV 1 ch 0 0 0 ⟨#[]⟩] w fun e w' => (∃ er kd wh : Int, e = .returned (resV er kd 0 wh ⟨#[]⟩) ∧ (ch.size ≤ 1024 → er = 0 ∧ kd = K)) ∧ Below w.heap.size w w' := by
  obtain ⟨hnm, Q, y, S, hQ, hS, hy⟩ := listed_kid hg hdir hal hld hx
  have hsz : ch.size ≤ 1000000 := by
    have h1 := own_size hn hnl
    have h2 := hnm.1.1
    have h3 : (⟨#[47]⟩ : ByteArray).size = 1 := rfl
    rw [hch, ByteArray.size_append, ByteArray.size_append]
    omega
  obtain ⟨O, hO2⟩ := Goes.some (f := false) hg ch
  obtain ⟨l, hl⟩ := lev_o R O
  have hkid : ch.size ≤ 1024 → O = .ok (ns ++ [s]) (seenOf Q) := fun hz =>
    hO2.uniq hg (kid_goes hO hn hdir hal hQ hS hnm (by rw [hch, app_data, app_data, path_of ns.length ns rfl hn, List.append_assoc]; rfl) hz)
  refine (do_all hg hK hk hR A c ad L mx 1 ch 0 0 0 ⟨#[]⟩ w hst hL hmx hsz (by decide) (by decide) (by decide) (by decide) (O := O) hO2 hl).mono fun e w' ⟨⟨x, h1, h2⟩, h3⟩ => ⟨?_, h3⟩
  rw [ansM_yes rfl rfl] at h1 h2
  have hx0 : ∀ x : ByteArray, x.data.toList = [] → x = ⟨#[]⟩ := fun x h => text_eq h
  rcases O with j | ⟨ns', E'⟩
  · obtain rfl := hx0 x h2
    exact ⟨j, 0, 0, h1, fun hz => by cases hkid hz⟩
  · obtain rfl := hx0 x h2
    refine ⟨0, (hdN E').K, whI (R.length : Int) l, h1, fun hz => ⟨rfl, ?_⟩⟩
    have h4 := hkid hz
    injection h4 with _ h4
    rw [h4, hS]
    exact hy
end Go.Proofs.YtkbhcncbpiimdaaGreatDoor.uni

namespace Go.Proofs.YtkbhcncbpiimdaaGreatDoor.uni
set_option maxRecDepth 100000
open Go.RowKit Go.Proofs.YtkbhcncbpiimdaaGreatDoor.words Go.Proofs.YtkbhcncbpiimdaaGreatDoor.ext Go.Proofs.YtkbhcncbpiimdaaGreatDoor.name Go.Proofs.YtkbhcncbpiimdaaGreatDoor.tre Go.Proofs.YtkbhcncbpiimdaaGreatDoor.stk Go.Proofs.YtkbhcncbpiimdaaGreatDoor.seen Go.Proofs.YtkbhcncbpiimdaaGreatDoor.wlk

theorem en_neq (s : ByteArray) (r : Int) (W : World) : Sem.run Tryz.prog (binOp .neq 41 (.agg #[.string s, .int .i64 r]) (.agg #[.string s, .int .i64 r])) W = .ok (.bool false) W := by
  rw [run_neq_struct]
  have hs : Tryz.prog.underlying 9 = some .string := Tryz.underlying9
  have hi : Tryz.prog.underlying 3 = some (.int .i64) := Tryz.underlying3
  rw [run_equalIn_agg W 9999 41 _ _ (by kernel_rfl) (by kernel_rfl)]
  simp [hs, hi, go_sem]
set_option maxHeartbeats 12800000 in
theorem law_lists (A : Option Addr) (c : Nat) (T : List Nd) (rs : Nat → Raw) (p : ByteArray) (mx : Int) (w : World) (hT : Trees w w.heap.size A T rs) (hmx : w.cell? ⟨0, 0, none⟩ = some (.int .i64 mx)) (hps : p.size ≤ 140737488355328) :
    Calls Tryz.prog 3 #[.slice A T.length c, .string p] w fun e w' => e = .returned (.bool true) ∧ Below w.heap.size w w' := by
  have HT := Lib.hid hT
  have HM := Lib.hid hmx
  have HSp := Lib.hid (uspeaks_any mx w hmx)
  clear hT hmx
  go_enter Tryz.func3, Tryz.ntmps3
  go_wp2_with fail
  refine HSp.out.mono ?_
  rintro e w2 ⟨rfl, hb2⟩
  have HB2 := Lib.hid hb2
  have HMa := Lib.hid (may_any A c T rs w2 (HT.out.later hb2))
  clear hb2 HSp
  go_wp2_with fail
  refine HMa.out.mono ?_
  rintro e w3 ⟨rfl, hb3⟩
  have HB3 := Lib.hid (HB2.out.trans (hb3.mono HB2.out.size))
  clear hb3 HMa
  rcases hmay : mayB T with _ | _
  · rw [mayI_no hmay]
    clear hmay
    go_wp2_with fail
    go_ret
    exact ⟨rfl, HB3.out⟩
  rw [mayI_yes hmay]
  have HMay := Lib.hid hmay
  have hT8 := mayB_len hmay
  clear hmay
  by_cases hn : 1100 < p.size
  · have g : (1100 : Int) < (p.size : Int) := by omega
    go_wp2_with fail
    go_ret
    exact ⟨rfl, HB3.out⟩
  have g : ¬ (1100 : Int) < (p.size : Int) := by omega
  have HSt := Lib.hid (stack_any A c T rs mx w3 (HT.out.later HB3.out) (below_cell HM.out HB3.out))
  go_wp2_with fail
  refine HSt.out.mono ?_
  rintro e w4 ⟨hst, hb4⟩
  rcases hst with ⟨_, A', c', L, rfl, hok⟩ | ⟨hno, _⟩
  rotate_left 1
  · rw [HMay.out] at hno; cases hno
  obtain ⟨W5, hW5⟩ : ∃ W5, W5 = w4.alloc (.cells #[.slice A' T.length c', .int .i64 (T.length : Int)] 27) := ⟨_, rfl⟩
  have hb5 : Below w4.heap.size w4 W5 := by rw [hW5]; exact (Below.refl _ _).alloc (Nat.le_refl _) _
  have HK := Lib.hid (show W5.heap[w4.heap.size]? = some (.cells #[.slice A' T.length c', .int .i64 (T.length : Int)] 27 (0, 0)) by rw [hW5]; exact heap_alloc_new w4 _)
  have hb15 : Below w.heap.size w W5 := HB3.out.trans ((hb4.trans (hb5.mono hb4.size)).mono HB3.out.size)
  obtain ⟨R, hR⟩ : ∃ R, R = T.reverse := ⟨_, rfl⟩
  have hstM := StkOk.stkM (hok.later hb5)
  have hlen := hok.len
  have hfine := (fine_of HT.out HMay.out).rev
  have hfew := kids_few HT.out HMay.out
  rw [← hR] at hstM hfine hfew
  have hRl : R.length = T.length := by rw [hR, List.length_reverse]
  have hdeep : ∀ d ∈ R, depth d < 100 := fun d hd => by have := hfine.deep d hd; omega
  have hfall : Falls L := fun j x hx => by rw [hlen]; exact (hok.brs j x hx).1
  obtain ⟨O, hO⟩ := Goes.some (f := true) hfine.all p
  have HLi : Hid (Calls Tryz.prog 12 #[.agg #[.slice A' T.length c', .int .i64 (T.length : Int)], .string p] W5 (LsOut R O W5)) := Lib.hid (by
    have h1 := ulist_any hfine.all hfine.dirs hdeep (by omega) hfew A' c' (T.length : Int) L mx p W5 hstM (below_cell HM.out hb15) (by omega) hO
    rw [hlen] at h1
    exact h1)
  have HAb : Hid (∀ w' : World, Below W5.heap.size W5 w' → Calls Tryz.prog 14 #[.slice A T.length c] w' fun e w'' => (∃ Aa ca qs, e = .returned (.slice Aa R.length ca) ∧ Trees w'' w''.heap.size Aa R qs) ∧ Below w'.heap.size w' w'') := Lib.hid fun w' hb => by
    have h1 := above_any A c T rs w' (HT.out.later (hb15.trans (hb.mono hb15.size))) (by omega)
    rw [← hR] at h1
    exact h1.mono fun e w'' ⟨Aa, ca, qs, h2, h3, _, h4⟩ => ⟨⟨Aa, ca, qs, h2, h3⟩, h4⟩
  have HRl : Hid (∀ (w' : World) (Aa : Option Addr) (ca : Nat) (qs : Nat → Raw), Trees w' w'.heap.size Aa R qs → (lsE O = 0 → ∀ ns E, O = .ok ns E → ∀ d ∈ E, d.N.length ≤ 4096) → Calls Tryz.prog 13 #[.slice Aa R.length ca, .string p] w' (RlOut O w')) := Lib.hid fun w' Aa ca qs h1 h2 =>
    rlist_any hfine.all (by omega) Aa ca qs p w' h1 (by omega) hO h2
  have HDo : Hid (∀ (w' : World) (ns : List ByteArray) (E : List Nd) (El : List (ByteArray × Int)) (s : ByteArray) (K : Int) (ch : ByteArray), Below W5.heap.size W5 w' → O = .ok ns E → (∀ d ∈ E, d.K = 2) → (∀ x ∈ ns, NmD x) → ns.length ≤ 200 → Along (D0 R) ns E → Listed E El → (s, K) ∈ El → ch = pathOf ns ++ ⟨#[47]⟩ ++ s →
      Calls Tryz.prog 16 #[.agg #[.slice A' T.length c', .int .i64 (T.length : Int)], .agg #[.int .i64 1, .string ch, .int .i64 0, .int .i64 0, .int .i64 0, .string ⟨#[]⟩]] w' fun e w'' => (∃ er kd wh : Int, e = .returned (resV er kd 0 wh ⟨#[]⟩) ∧ (ch.size ≤ 1024 → er = 0 ∧ kd = K)) ∧ Below w'.heap.size w' w'') := Lib.hid fun w' ns E El s K ch hb h1 h2 h3 h4 h5 h6 h7 h8 => by
    have hb' := hb15.trans (hb.mono hb15.size)
    have h9 := kid_do hfine.all hfine.dirs hdeep (by omega) A' c' (T.length : Int) L mx (by rw [h1] at hO; exact hO) h2 h3 h4 h5 h6 h7 ch h8 w' (hstM.later hb) hfall (below_cell HM.out hb')
    rw [hlen] at h9
    exact h9
  have HSm : Hid (∀ ns E El s K, (∀ d ∈ E, d.K = 2) → Along (D0 R) ns E → Listed E El → (s, K) ∈ El → s.size ≤ 1024) := Lib.hid fun ns E El s K h1 h2 h3 h4 => (listed_kid hfine.all h1 h2 h3 h4).1.1.1
  have HAs : Hid (∀ ns E, Along (D0 R) ns E → ∀ d ∈ E, Asc d.N ∧ d.N.length = d.I.length) := Lib.hid fun ns E h => (h.good (wlk.Good.root hfine.all)).asc
  have HB15 := Lib.hid hb15
  have HW5 := Lib.hid hW5.symm
  have s0 := cell_of_blk HK.out 0
  have s1 := cell_of_blk HK.out 1
  obtain ⟨z, hz⟩ : ∃ z, z = lsE O := ⟨_, rfl⟩
  have HZ := Lib.hid hz
  clear hb4 hok hW5 hb5 hb15 hR hstM hlen hfine hfew hRl hdeep hfall hO HSt hz
  go_upto_region 8 with fail
  rw [HW5.out]
  clear HW5
  go_wp2_with fail
  refine HLi.out.mono ?_
  rintro e w6 ⟨(⟨hne, rfl⟩ | ⟨ns, E, El, Al, cl, hOe, hz, hdir, hcd, hnm, hnl, hal, hnz, hld, hle, rfl, hlies⟩), hb6⟩
  · rw [← HZ.out] at hne ⊢
    have HNe := Lib.hid hne
    have HA6 := Lib.hid (HAb.out w6 hb6)
    have HB6 := Lib.hid hb6
    clear hne hb6 HLi HAb HDo
    go_wp2_with fail
    refine HA6.out.mono ?_
    rintro e w7 ⟨⟨Aa, ca, qs, rfl, hta⟩, hb7⟩
    have HR7 := Lib.hid (HRl.out w7 Aa ca qs hta (fun h => absurd (HZ.out.trans h) HNe.out))
    have HB7 := Lib.hid (HB6.out.trans (hb7.mono HB6.out.size))
    clear hta hb7 HA6 HRl
    go_wp2_with fail
    refine HR7.out.mono ?_
    rintro e w8 ⟨(⟨_, rfl⟩ | ⟨_, _, _, _, _, _, _, _, _, hz, _⟩), hb8⟩
    rotate_left 1
    · exact absurd (HZ.out.trans hz) HNe.out
    rw [← HZ.out]
    have HF := Lib.hid (HB15.out.trans ((HB7.out.trans (hb8.mono HB7.out.size)).mono HB15.out.size))
    have t1 : (z != z) = false := bne_self_eq_false _
    have t2 : (z != 0) = true := by rw [bne_iff_ne]; exact HNe.out
    clear hb8 HR7 s0 s1
    go_wp2_with fail
    go_ret
    exact ⟨rfl, HF.out⟩
  have HA6 := Lib.hid (HAb.out w6 hb6)
  have HB6 := Lib.hid hb6
  have HL6 := Lib.hid hlies
  have HAl := Lib.hid (And.intro hOe (And.intro hdir (And.intro hnm (And.intro hnl (And.intro hal (And.intro hld hcd))))))
  have HLe := Lib.hid hle
  clear hOe hdir hcd hnm hnl hal hnz hld hle hz hlies hb6 HLi HAb
  go_wp2_with fail
  refine HA6.out.mono ?_
  rintro e w7 ⟨⟨Aa, ca, qs, rfl, hta⟩, hb7⟩
  have HR7 := Lib.hid (HRl.out w7 Aa ca qs hta (fun _ ns' E' h => by
    rw [HAl.out.1] at h
    injection h with _ h
    rw [← h]
    exact HAl.out.2.2.2.2.2.2))
  have HB7 := Lib.hid (HB6.out.trans (hb7.mono HB6.out.size))
  have HB67 := Lib.hid hb7
  clear hta hb7 HA6 HRl
  go_wp2_with fail
  refine HR7.out.mono ?_
  rintro e w8 ⟨(⟨hne, _⟩ | ⟨ns', E', N, E2, A1, c1, A2, c2, hOe, _, hris, hmem, hlk, rfl, hrow, hlies⟩), hb8⟩
  · exfalso
    rw [HAl.out.1] at hne
    unfold lsE at hne
    refine hne (if_pos ?_)
    rcases E with _ | ⟨d, E⟩
    · rfl
    · exact HAl.out.2.1 d (List.mem_cons_self ..)
  rw [HAl.out.1] at hOe
  injection hOe with h1 h2
  subst h1 h2
  obtain rfl : E2 = El := by
    obtain ⟨out, hm, hk⟩ := HAl.out.2.2.2.2.2.1
    exact mrg.listed_ref (HAs.out _ _ HAl.out.2.2.2.2.1) hm hk hris hmem hlk
  have HB8 := Lib.hid (HB7.out.trans (hb8.mono HB7.out.size))
  have HB68 := Lib.hid (HB67.out.trans (hb8.mono HB67.out.size))
  have HL8 := Lib.hid hlies
  have HJ8 := Lib.hid (refjoin_big (.slice A1 ns.length c1) ns w8 ⟨A1, c1, rfl, hrow⟩ HAl.out.2.2.2.1 fun x hx => (HAl.out.2.2.1 x hx).1.1)
  clear hris hmem hlk hrow hlies hb8 HR7 HB67 HAs s0 s1
  have t1 : (E2.length != E2.length) = false := bne_self_eq_false _
  go_wp2_with fail
  refine HJ8.out.mono ?_
  rintro e w9 ⟨⟨r, rfl, hr⟩, rfl⟩
  obtain rfl : r = pathOf ns := text_eq (by rw [hr, path_of ns.length ns rfl HAl.out.2.2.1])
  have t2 : ((pathOf ns).toList != (pathOf ns).toList) = false := bne_self_eq_false _
  clear hr HJ8 t1
  obtain ⟨pp, hpp⟩ : ∃ pp, pp = pathOf ns := ⟨_, rfl⟩
  rw [← hpp] at t2 ⊢
  have HP := Lib.hid hpp
  clear hpp
  go_wp2_with fail
  go_loopw [69] (fun v wr => ∃ (k : Nat), v = .int .i64 (k : Int) ∧ k ≤ E2.length ∧ Hid (Below w8.heap.size w8 wr)) (fun v _ => E2.length - (intOf v).toNat)
  case atStart => exact ⟨0, rfl, Nat.zero_le _, Lib.hid (Below.refl _ _)⟩
  case round =>
    obtain ⟨k, rfl, hk, HB⟩ := hrel
    have hkb : E2.length ≤ 1000000 := HLe.out
    by_cases hlt : k < E2.length
    · obtain ⟨⟨s, K⟩, hx⟩ : ∃ x, E2[k]? = some x := ⟨_, List.getElem?_eq_getElem hlt⟩
      have hxm : (s, K) ∈ E2 := List.mem_of_getElem? hx
      have hb6 := HB68.out.trans (HB.out.mono HB68.out.size)
      obtain ⟨b, off, hA, hb, x0, x1⟩ := mrg.lies_en HL6.out hx
      obtain ⟨b', off', hA', hb', y0, y1⟩ := mrg.lies_en HL8.out hx
      subst hA hA'
      have x0 := (hb6.cell (p := ⟨b, off + k * 2, none⟩) hb).trans x0
      have x1 := (hb6.cell (p := ⟨b, off + k * 2 + 1, none⟩) hb).trans x1
      obtain ⟨W3, hW3⟩ : ∃ W3, W3 = wr.alloc (.cells #[.string s, .int .i64 K] 41) := ⟨_, rfl⟩
      have hb3 := HB.out.trans ((show Below wr.heap.size wr W3 by rw [hW3]; exact (Below.refl _ _).alloc (Nat.le_refl _) _).mono HB.out.size)
      have hk3 : W3.heap[wr.heap.size]? = some (.cells #[.string s, .int .i64 K] 41 (0, 0)) := by rw [hW3]; exact heap_alloc_new wr _
      have y0 := (hb3.cell (p := ⟨b', off' + k * 2, none⟩) hb').trans y0
      have y1 := (hb3.cell (p := ⟨b', off' + k * 2 + 1, none⟩) hb').trans y1
      have t0 := cell_of_blk hk3 0
      have t3 := cell_of_blk hk3 1
      have i0 : (0 : Int) ≤ (k : Int) := by omega
      have i1 : (k : Int) < (E2.length : Int) := by omega
      have hneq := fun W => en_neq s K W
      have HX3 := Lib.hid hk3
      have HB3' := Lib.hid hb3
      have HW3 := Lib.hid hW3
      have HXm := Lib.hid hxm
      clear hx hxm hb hb' hb6 hb3 hk3 hW3
      go_upto_region 19 with fail
      rw [← HW3.out]
      clear HW3 x0 x1
      go_cut [79] from 74 to 80 (fun v wx => v = .bool false ∧ Hid (Below W3.heap.size W3 wx))
      case first =>
        go_quiet (fail)
        go_wp2_with fail
        go_meet
        case rel => exact ⟨rfl, Lib.hid (heap.below_drewN (Below.refl _ _) _)⟩
      case rest =>
        obtain ⟨rfl, HBx⟩ := hcut
        rename World => Wx
        have ex := (HBx.out.block _ (lt_of_some HX3.out)).trans HX3.out
        have HBx8 := Lib.hid (HB3'.out.trans (HBx.out.mono HB3'.out.size))
        have HBx5 := Lib.hid (HB8.out.trans (HBx8.out.mono HB8.out.size))
        have es := (HBx5.out.block _ (lt_of_some HK.out)).trans HK.out
        clear t0 t3 y0 y1 i0 i1 hneq
        have t0 := cell_of_blk ex 0
        have s0 := cell_of_blk es 0
        have s1 := cell_of_blk es 1
        obtain ⟨ch, hch⟩ : ∃ ch, ch = pp ++ ⟨#[47]⟩ ++ s := ⟨_, rfl⟩
        have hzs : s.size ≤ 1024 := HSm.out ns E E2 s K HAl.out.2.1 HAl.out.2.2.2.2.1 HAl.out.2.2.2.2.2.1 HXm.out
        have hzp : pp.size ≤ 250000 := by rw [HP.out]; exact own_size HAl.out.2.2.1 HAl.out.2.2.2.1
        have HD := Lib.hid (HDo.out Wx ns E E2 s K ch HBx5.out HAl.out.1 HAl.out.2.1 HAl.out.2.2.1 HAl.out.2.2.2.1 HAl.out.2.2.2.2.1 HAl.out.2.2.2.2.2.1 HXm.out (by rw [← HP.out]; exact hch))
        have HEx := Lib.hid ex
        have HCh := Lib.hid hch
        clear ex es hch
        go_upto_region 22 with fail
        rw [← HCh.out]
        clear hzs hzp
        go_wp2_with fail
        refine HD.out.mono ?_
        rintro e v4 ⟨⟨er, kd, wh, rfl, hkid⟩, hb4⟩
        obtain ⟨V5, hV5⟩ : ∃ V5, V5 = v4.alloc (.cells #[.int .i64 er, .int .i64 kd, .int .i64 0, .int .i64 wh, .int .i64 0, .string ⟨#[]⟩, .slice none 0 0, .bool false] 44) := ⟨_, rfl⟩
        have hb45 : Below v4.heap.size v4 V5 := by rw [hV5]; exact (Below.refl _ _).alloc (Nat.le_refl _) _
        have hv5 : V5.heap[v4.heap.size]? = some (.cells #[.int .i64 er, .int .i64 kd, .int .i64 0, .int .i64 wh, .int .i64 0, .string ⟨#[]⟩, .slice none 0 0, .bool false] 44 (0, 0)) := by rw [hV5]; exact heap_alloc_new v4 _
        have hbx := hb4.trans (hb45.mono hb4.size)
        have ex := (hbx.block _ (lt_of_some HEx.out)).trans HEx.out
        have x1 := cell_of_blk ex 1
        have r0 := cell_of_blk hv5 0
        have r1 := cell_of_blk hv5 1
        have HBn := Lib.hid (HBx8.out.trans (hbx.mono HBx8.out.size))
        have HV5 := Lib.hid hV5
        clear hV5 hb45 hv5 hbx ex hb4 HD t0 s0 s1
        unfold resV
        by_cases hz : ch.size ≤ 1024
        · obtain ⟨rfl, rfl⟩ := hkid hz
          have g1 : (ch.size : Int) ≤ 1024 := by omega
          have g2 : (kd != kd) = false := bne_self_eq_false _
          clear hkid hz
          go_upto_region 23 with fail
          rw [← HV5.out]
          go_wp2_with fail
          go_roundw
          case rel => exact ⟨k + 1, by go_num, by omega, HBn⟩
          case measure => simp [intOf]; omega
        · have g1 : ¬ (ch.size : Int) ≤ 1024 := by omega
          clear hkid hz
          go_upto_region 23 with fail
          rw [← HV5.out]
          go_wp2_with fail
          go_roundw
          case rel => exact ⟨k + 1, by go_num, by omega, HBn⟩
          case measure => simp [intOf]; omega
    · obtain rfl : k = E2.length := by omega
      have HFin := Lib.hid (HB15.out.trans ((HB8.out.trans (HB.out.mono HB8.out.size)).mono HB15.out.size))
      clear HB
      go_wp2_with fail
      go_ret
      exact ⟨rfl, HFin.out⟩
end Go.Proofs.YtkbhcncbpiimdaaGreatDoor.uni
