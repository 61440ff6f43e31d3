/- What union's Do and the reference's answer to whatever is asked. Conditions: the stack, the trees lie in memory; the trees may be; the library's MaxLen holds a number. The law UnionDoes: of any branches, what is answered to whatever is asked is the document's. Conditions: the trees lie in memory; the library's MaxLen holds a number. -/
import Derived.Test.YtkdldnjnadadgaaGreatDoorJU6
namespace Go.Proofs.YtkdldnjnadadgaaGreatDoor.uni
set_option maxRecDepth 100000
open Go.RowKit Go.Proofs.YtkdldnjnadadgaaGreatDoor.words Go.Proofs.YtkdldnjnadadgaaGreatDoor.ext Go.Proofs.YtkdldnjnadadgaaGreatDoor.name Go.Proofs.YtkdldnjnadadgaaGreatDoor.tre Go.Proofs.YtkdldnjnadadgaaGreatDoor.stk Go.Proofs.YtkdldnjnadadgaaGreatDoor.seen Go.Proofs.YtkdldnjnadadgaaGreatDoor.wlk

/-- Where something is seen, it is along the names. -/
def Here (R : List Nd) (ns : List ByteArray) (E : List Nd) : Prop := Along (D0 R) ns E ∧ (ns ≠ [] → E ≠ [])
theorem Here.up {R : List Nd} {ns : List ByteArray} {E : List Nd} (h : Here R ns E) : ∃ F, Here R (ns.take (ns.length - 1)) F := by
  rcases List.eq_nil_or_concat ns with rfl | ⟨ms, p, rfl⟩
  · exact ⟨E, h⟩
  · rw [List.concat_eq_append] at h ⊢
    obtain ⟨h1, h2⟩ := h
    obtain ⟨F, Q, g1, g2, rfl⟩ := h1.pre
    have e : (ms ++ [p]).take ((ms ++ [p]).length - 1) = ms := by simp
    rw [e]
    refine ⟨F, g1, fun _ hF => ?_⟩
    subst hF
    have hQ : Q = [] := g2
    subst hQ
    exact h2 (by simp) rfl
theorem leads_ok {R : List Nd} (hg : ∀ t ∈ R, allB t = true) {f : Bool} {ns ps : List ByteArray} {h : Nat} {o : AtO} (H : Leads R f ns ps h o) : (∃ D, Here R ns D) → ∀ ns' E, o = .ok ns' E → Here R ns' E := by
  induction H with
  | done a =>
    rintro ⟨D, h1, h2⟩ ns' E he
    injection he with e1 e2
    subst e1
    subst e2
    obtain rfl := a.uniq (wlk.Good.root hg) h1
    exact ⟨a, h2⟩
  | up _ ih =>
    rintro ⟨D, h1⟩
    exact ih h1.up
  | none => intro _ ns' E he; cases he
  | dir _ hD hQ hs _ _ ih =>
    intro _
    refine ih ⟨_, hD.snoc hQ, fun _ => ?_⟩
    rw [hs]
    simp
  | loop => intro _ ns' E he; cases he
  | @hop ns _ _ _ D _ d _ _ _ _ hD _ _ _ _ _ _ ih =>
    rintro ⟨F, h1⟩
    refine ih ?_
    split
    · exact ⟨D0 R, rfl, fun h => absurd rfl h⟩
    · exact ⟨F, h1⟩
  | not => intro _ ns' E he; cases he
  | leaf _ hD hQ hs _ _ =>
    intro _ ns' E he
    injection he with e1 e2
    subst e1
    subst e2
    have h1 := hD.snoc hQ
    rw [hs] at h1
    exact ⟨h1, fun _ => by simp⟩
theorem goes_ok {R : List Nd} (hg : ∀ t ∈ R, allB t = true) {f : Bool} {s : ByteArray} {ns : List ByteArray} {E : List Nd} (h : Goes R f s (.ok ns E)) : Here R ns E := by
  rcases h with ⟨_, h⟩ | ⟨_, _, h⟩
  · cases h
  · exact leads_ok hg h ⟨D0 R, rfl, fun h => absurd rfl h⟩ ns E rfl
theorem Here.good {R : List Nd} (hg : ∀ t ∈ R, allB t = true) {ns : List ByteArray} {E : List Nd} (h : Here R ns E) (hne : E ≠ []) : allB (hdN E) = true := by
  obtain ⟨d, E', rfl⟩ := List.exists_cons_of_ne_nil hne
  exact h.1.good (wlk.Good.root hg) d (List.mem_cons_self ..)
theorem Here.len {R : List Nd} (hk : ∀ d ∈ R, depth d < 100) {ns : List ByteArray} {E : List Nd} (h : Here R ns E) : ns.length ≤ 100 := by
  rcases Nat.eq_zero_or_pos ns.length with h0 | h0
  · omega
  · obtain ⟨d, E', rfl⟩ := List.exists_cons_of_ne_nil (h.2 (fun e => by rw [e] at h0; simp at h0))
    have := h.1.deep (k := 100) (fun d hd => hk d (List.mem_of_mem_take hd)) d (List.mem_cons_self ..)
    omega
theorem ansM_no {n l : Int} {O : AtO} {k o m : Int} (h : isB k = false ∨ badB k o m = true) : ansM n l O k o m = ⟨1, 0, 0, 0, []⟩ := by unfold ansM; rw [if_pos h]
theorem ansM_yes {n l : Int} {O : AtO} {k o m : Int} (h1 : isB k = true) (h2 : badB k o m = false) : ansM n l O k o m = ansO n l O k o m := by unfold ansM; rw [if_neg (by rw [h1, h2]; simp)]
theorem do_all {R : List Nd} (hg : ∀ t ∈ R, allB t = true) (hK : ∀ t ∈ R, t.K = 2) (hk : ∀ d ∈ R, depth d < 100) (hR : R.length ≤ 64) (A : Option Addr) (c : Nat) (ad : Int) (L : List (Nat × Int)) (mx : Int) (k : Int) (p : ByteArray) (o m id : Int) (img : ByteArray) (w : World) (hst : StkM w A L (tabs R)) (hL : Falls L)
    (hmx : w.cell? ⟨1, 0, none⟩ = some (.int .i64 mx)) (hp : p.size ≤ 1000000) (ho1 : -9223372036854775808 ≤ o) (ho2 : o ≤ 9223372036854775807) (hm1 : -9223372036854775808 ≤ m) (hm2 : m ≤ 9223372036854775807) {O : AtO} (hO : Goes R (folB k) p O) {l : Int} (hl : ∀ ns E, O = .ok ns E → LevI R ns l) :
    Calls Tryz.prog 29 #[stkV A L.length c ad, opV k p o m id img] w fun e w' => Res (ansM (R.length : Int) l O k o m) e ∧ Below w.heap.size w w' := by
  have no : ∀ (x : ByteArray), x = ⟨#[]⟩ → (isB k = false ∨ badB k o m = true) → Res (ansM (R.length : Int) l O k o m) (.returned (resV 1 0 0 0 x)) := fun x hx h => by
    rw [ansM_no h, hx]
    exact ⟨_, rfl, rfl⟩
  rcases hi : isB k with _ | _
  · exact (do_no A L.length c ad k p o m id img w hi).mono fun e w' ⟨h1, h2⟩ => ⟨by rw [h1]; exact no _ rfl (.inl hi), h2⟩
  · rcases hb : badB k o m with _ | _
    · exact do_yes hg hK hk hR A c ad L mx k p o m id img w hst hL hmx hp ho1 ho2 hm1 hm2 hO hl hi hb
    · exact (do_bad A L.length c ad k p o m id img w hi hb).mono fun e w' ⟨h1, h2⟩ => ⟨by rw [h1]; exact no _ rfl (.inr hb), h2⟩
theorem ref_all {R : List Nd} (hg : ∀ t ∈ R, allB t = true) (hk : ∀ d ∈ R, depth d < 100) (hR : R.length ≤ 64) (A : Option Addr) (c : Nat) (rs : Nat → Raw) (Ai : Option Addr) (ni ci : Nat) (k : Int) (p : ByteArray) (o m id : Int) (img : ByteArray) (w : World) (hT : Trees w w.heap.size A R rs) (hp : p.size ≤ 1000000) (hni : ni = R.length) (hId : IdsAt w w.heap.size Ai R.length)
    (ho2 : o ≤ 9223372036854775807) (hm2 : m ≤ 9223372036854775807) (hm3 : m ≤ 3000) {O : AtO} (hO : Goes R (folB k) p O) {l : Int} (hl : ∀ ns E, O = .ok ns E → LevI R ns l) :
    Calls Tryz.prog 30 #[.slice A R.length c, .slice Ai ni ci, opV k p o m id img] w fun e w' => Res (ansM (R.length : Int) l O k o m) e ∧ Below w.heap.size w w' := by
  have no : (isB k = false ∨ badB k o m = true) → Calls Tryz.prog 30 #[.slice A R.length c, .slice Ai ni ci, opV k p o m id img] w fun e w' => Res (ansM (R.length : Int) l O k o m) e ∧ Below w.heap.size w w' := fun h =>
    (refdo_no R A c Ai ni ci k p o m id img w h).mono fun e w' ⟨h1, h2⟩ => ⟨by rw [h1, ansM_no h]; exact ⟨_, rfl, rfl⟩, h2⟩
  rcases hi : isB k with _ | _
  · exact no (.inl hi)
  · rcases hb : badB k o m with _ | _
    · rw [ansM_yes hi hb]
      rcases isB_of hi with rfl | rfl | rfl | rfl
      · exact refdo_1 hg hR A c rs Ai ni ci p o m id img w hT hp hO hni hId (fun ns E h => ⟨hl ns E h, by subst h; have := (goes_ok hg hO).len hk; omega⟩)
      · have e : ansO (R.length : Int) l O 2 o m = ansO (R.length : Int) 0 O 2 o m := by rcases O with _ | _ <;> rfl
        rw [e]
        exact refdo_2 hg hR A c rs Ai ni ci p o m id img w hT hp hO
      · have e : ansO (R.length : Int) l O 3 o m = ansO (R.length : Int) 0 O 3 o m := by rcases O with _ | _ <;> rfl
        rw [e]
        exact refdo_3 hg hR A c rs Ai ni ci p o m id img w hT hp hO
      · have e : ansO (R.length : Int) l O 4 o m = ansO (R.length : Int) 0 O 4 o m := by rcases O with _ | _ <;> rfl
        rw [e]
        have hom : ¬ o < 0 ∧ ¬ m < 0 := by
          unfold badB at hb
          simp at hb
          omega
        exact refdo_4 hg hR A c rs Ai ni ci p o m id img w hT hp hO hom.1 hom.2 ho2 hm2 hm3 (fun ns E h hne => by subst h; exact (goes_ok hg hO).good hg hne)
    · exact no (.inr hb)
end Go.Proofs.YtkdldnjnadadgaaGreatDoor.uni

namespace Go.Proofs.YtkdldnjnadadgaaGreatDoor.uni
set_option maxRecDepth 100000
open Go.RowKit Go.Proofs.YtkdldnjnadadgaaGreatDoor.words Go.Proofs.YtkdldnjnadadgaaGreatDoor.ext Go.Proofs.YtkdldnjnadadgaaGreatDoor.name Go.Proofs.YtkdldnjnadadgaaGreatDoor.tre Go.Proofs.YtkdldnjnadadgaaGreatDoor.stk Go.Proofs.YtkdldnjnadadgaaGreatDoor.seen Go.Proofs.YtkdldnjnadadgaaGreatDoor.wlk

theorem text_one {a b : ByteArray} (h : a.data.toList = b.data.toList) : a = b := ByteArray.ext (Array.toList_inj.1 h)
set_option maxHeartbeats 12800000 in
theorem law_does (A : Option Addr) (c : Nat) (T : List Nd) (rs : Nat → Raw) (k : Int) (p : ByteArray) (o m id : Int) (img : ByteArray) (mx : Int) (w : World) (hT : Trees w w.heap.size A T rs) (hmx : w.cell? ⟨1, 0, none⟩ = some (.int .i64 mx)) (hps : p.size ≤ 140737488355328)
    (ho1 : -9223372036854775808 ≤ o) (ho2 : o ≤ 9223372036854775807) (hm1 : -9223372036854775808 ≤ m) (hm2 : m ≤ 9223372036854775807) :
    Calls Tryz.prog 4 #[.slice A T.length c, opV k p o m id img] w fun e w' => e = .returned (.bool true) ∧ Below w.heap.size w w' := by
  obtain ⟨W1, hW1⟩ : ∃ W1, W1 = w.alloc (.cells #[.int .i64 k, .string p, .int .i64 o, .int .i64 m, .int .i64 id, .string img] 63) := ⟨_, rfl⟩
  have hb1 : Below w.heap.size w W1 := by rw [hW1]; exact (Below.refl _ _).alloc (Nat.le_refl _) _
  have HC1 := Lib.hid (show W1.heap[w.heap.size]? = some (.cells #[.int .i64 k, .string p, .int .i64 o, .int .i64 m, .int .i64 id, .string img] 63 (0, 0)) by rw [hW1]; exact heap_alloc_new w _)
  have HT := Lib.hid (hT.later hb1)
  have HM := Lib.hid (below_cell hmx hb1)
  have HB1 := Lib.hid hb1
  have HSp := Lib.hid (uspeaks_any mx W1 HM.out)
  have HW1 := Lib.hid hW1
  have HBd := Lib.hid (And.intro ho1 (And.intro ho2 (And.intro hm1 hm2)))
  clear hT hmx hW1 hb1 ho1 ho2 hm1 hm2
  unfold opV
  go_enter Tryz.func4, Tryz.ntmps4
  go_upto_region 1 with fail
  rw [← HW1.out]
  clear HW1
  go_wp2_with fail
  refine HSp.out.mono ?_
  rintro e w2 ⟨rfl, hb2⟩
  have HB2 := Lib.hid hb2
  have HMa := Lib.hid (may_any A c T rs w2 (HT.out.later hb2))
  clear hb2 HSp
  go_wp2_with fail
  refine HMa.out.mono ?_
  rintro e w3 ⟨rfl, hb3⟩
  have HB3 := Lib.hid (HB2.out.trans (hb3.mono HB2.out.size))
  have e1 := (HB3.out.block _ (lt_of_some HC1.out)).trans HC1.out
  have c1 : w3.cell? ⟨w.heap.size, 1, none⟩ = some (.string p) := cell_of_blk e1 1
  have c3 : w3.cell? ⟨w.heap.size, 3, none⟩ = some (.int .i64 m) := cell_of_blk e1 3
  clear hb3 HMa
  rcases hmay : mayB T with _ | _
  · rw [mayI_no hmay]
    have HF := Lib.hid (HB1.out.trans (HB3.out.mono HB1.out.size))
    clear e1 hmay
    go_wp2_with fail
    go_ret
    exact ⟨rfl, HF.out⟩
  rw [mayI_yes hmay]
  have HMay := Lib.hid hmay
  have hT8 := mayB_len hmay
  clear hmay
  by_cases hn : 1100 < p.size
  · have g : (1100 : Int) < (p.size : Int) := by omega
    have HF := Lib.hid (HB1.out.trans (HB3.out.mono HB1.out.size))
    clear e1
    go_wp2_with fail
    go_ret
    exact ⟨rfl, HF.out⟩
  have g : ¬ (1100 : Int) < (p.size : Int) := by omega
  by_cases hm3 : (3000 : Int) < m
  · have HF := Lib.hid (HB1.out.trans (HB3.out.mono HB1.out.size))
    clear e1
    go_wp2_with fail
    go_ret
    exact ⟨rfl, HF.out⟩
  have HSt := Lib.hid (stack_any A c T rs mx w3 (HT.out.later HB3.out) (below_cell HM.out HB3.out))
  clear e1
  go_wp2_with fail
  refine HSt.out.mono ?_
  rintro e w4 ⟨hst, hb4⟩
  rcases hst with ⟨_, A', c', L, rfl, hok⟩ | ⟨hno, _⟩
  rotate_left 1
  · rw [HMay.out] at hno; cases hno
  obtain ⟨W5, hW5⟩ : ∃ W5, W5 = w4.alloc (.cells #[.slice A' T.length c', .int .i64 (T.length : Int)] 29) := ⟨_, rfl⟩
  have hb5 : Below w4.heap.size w4 W5 := by rw [hW5]; exact (Below.refl _ _).alloc (Nat.le_refl _) _
  have HK := Lib.hid (show W5.heap[w4.heap.size]? = some (.cells #[.slice A' T.length c', .int .i64 (T.length : Int)] 29 (0, 0)) by rw [hW5]; exact heap_alloc_new w4 _)
  have hb15 : Below W1.heap.size W1 W5 := HB3.out.trans ((hb4.trans (hb5.mono hb4.size)).mono HB3.out.size)
  obtain ⟨R, hR⟩ : ∃ R, R = T.reverse := ⟨_, rfl⟩
  have hstM := StkOk.stkM (hok.later hb5)
  have hlen := hok.len
  have hfine := (fine_of HT.out HMay.out).rev
  rw [← hR] at hstM hfine
  have hRl : R.length = T.length := by rw [hR, List.length_reverse]
  have hdeep : ∀ d ∈ R, depth d < 100 := fun d hd => by have := hfine.deep d hd; omega
  have hfall : Falls L := fun j x hx => by rw [hlen]; exact (hok.brs j x hx).1
  obtain ⟨O, hO⟩ := Goes.some (f := folB k) hfine.all p
  obtain ⟨l, hl⟩ := lev_o R O
  obtain ⟨⟨ae, ak, az, aw, ax⟩, ha⟩ : ∃ a, a = ansM (R.length : Int) l O k o m := ⟨_, rfl⟩
  have HDo : Hid (∀ w' : World, Below W5.heap.size W5 w' → Calls Tryz.prog 29 #[.agg #[.slice A' T.length c', .int .i64 (T.length : Int)], .agg #[.int .i64 k, .string p, .int .i64 o, .int .i64 m, .int .i64 id, .string img]] w' fun e w'' => (∃ x : ByteArray, e = .returned (resV ae ak az aw x) ∧ x.data.toList = ax) ∧ Below w'.heap.size w' w'') := Lib.hid fun w' hb => by
    have hb' := hb15.trans (hb.mono hb15.size)
    have h1 := do_all hfine.all hfine.dirs hdeep (by omega) A' c' (T.length : Int) L mx k p o m id img w' (hstM.later hb) hfall (below_cell HM.out hb') (by omega) HBd.out.1 HBd.out.2.1 HBd.out.2.2.1 HBd.out.2.2.2 hO hl
    rw [hlen, ← ha] at h1
    exact h1
  have HAb : Hid (∀ w' : World, Below W5.heap.size W5 w' → Calls Tryz.prog 16 #[.slice A T.length c] w' fun e w'' => (∃ Aa ca qs, e = .returned (.slice Aa R.length ca) ∧ Trees w'' w''.heap.size Aa R qs) ∧ Below w'.heap.size w' w'') := Lib.hid fun w' hb => by
    have h1 := above_any A c T rs w' (HT.out.later (hb15.trans (hb.mono hb15.size))) (by omega)
    rw [← hR] at h1
    exact h1.mono fun e w'' ⟨Aa, ca, qs, h2, h3, _, h4⟩ => ⟨⟨Aa, ca, qs, h2, h3⟩, h4⟩
  have HIds : Hid (∀ w' : World, Calls Tryz.prog 31 #[.int .i64 (T.length : Int)] w' fun e w'' => (∃ Ai ci, e = .returned (.slice Ai T.length ci) ∧ IdsAt w'' w''.heap.size Ai R.length) ∧ Below w'.heap.size w' w'') := Lib.hid fun w' => by
    rw [hRl]
    exact ids_any T.length w' (by omega)
  have HRd : Hid (∀ (w' : World) (Aa : Option Addr) (ca : Nat) (qs : Nat → Raw) (Ai : Option Addr) (ci : Nat), Trees w' w'.heap.size Aa R qs → IdsAt w' w'.heap.size Ai R.length → Calls Tryz.prog 30 #[.slice Aa R.length ca, .slice Ai T.length ci, .agg #[.int .i64 k, .string p, .int .i64 o, .int .i64 m, .int .i64 id, .string img]] w' fun e w'' => (∃ x : ByteArray, e = .returned (resV ae ak az aw x) ∧ x.data.toList = ax) ∧ Below w'.heap.size w' w'') := Lib.hid fun w' Aa ca qs Ai ci h1 h2 => by
    have h3 := ref_all hfine.all hdeep (by omega) Aa ca qs Ai T.length ci k p o m id img w' h1 (by omega) hRl.symm h2 HBd.out.2.1 HBd.out.2.2.2 (by omega) hO hl
    rw [← ha] at h3
    exact h3
  have HSS : Hid (∀ w' : World, Below W5.heap.size W5 w' → (w'.cell? ⟨w4.heap.size, 0, none⟩ = some (.slice A' T.length c') ∧ w'.cell? ⟨w4.heap.size, 1, none⟩ = some (.int .i64 (T.length : Int)) ∧ w'.cell? ⟨w.heap.size, 0, none⟩ = some (.int .i64 k) ∧ w'.cell? ⟨w.heap.size, 1, none⟩ = some (.string p) ∧ w'.cell? ⟨w.heap.size, 2, none⟩ = some (.int .i64 o) ∧ w'.cell? ⟨w.heap.size, 3, none⟩ = some (.int .i64 m) ∧ w'.cell? ⟨w.heap.size, 4, none⟩ = some (.int .i64 id) ∧ w'.cell? ⟨w.heap.size, 5, none⟩ = some (.string img) ∧ Below W5.heap.size W5 w')) := Lib.hid fun w' hb' => by
    have hb := hb15.trans (hb'.mono hb15.size)
    have e1 := (hb.block _ (lt_of_some HC1.out)).trans HC1.out
    have e2 := (hb'.block _ (lt_of_some HK.out)).trans HK.out
    exact ⟨cell_of_blk e2 0, cell_of_blk e2 1, cell_of_blk e1 0, cell_of_blk e1 1, cell_of_blk e1 2, cell_of_blk e1 3, cell_of_blk e1 4, cell_of_blk e1 5, hb'⟩
  have HBv : Hid (Below W5.heap.size W5 W5.drew) := Lib.hid (Below.refl _ _).drew
  have HB15 := Lib.hid (HB1.out.trans (hb15.mono HB1.out.size))
  have HW5 := Lib.hid hW5.symm
  clear hb4 hok hW5 hb5 hb15 hR hstM hlen hfine hRl hdeep hfall hO hl ha HSt c1 c3
  go_upto_region 8 with fail
  rw [HW5.out]
  clear HW5
  refine wp_region_held_drew (S := fun w' => (w'.cell? ⟨w4.heap.size, 0, none⟩ = some (.slice A' T.length c') ∧ w'.cell? ⟨w4.heap.size, 1, none⟩ = some (.int .i64 (T.length : Int)) ∧ w'.cell? ⟨w.heap.size, 0, none⟩ = some (.int .i64 k) ∧ w'.cell? ⟨w.heap.size, 1, none⟩ = some (.string p) ∧ w'.cell? ⟨w.heap.size, 2, none⟩ = some (.int .i64 o) ∧ w'.cell? ⟨w.heap.size, 3, none⟩ = some (.int .i64 m) ∧ w'.cell? ⟨w.heap.size, 4, none⟩ = some (.int .i64 id) ∧ w'.cell? ⟨w.heap.size, 5, none⟩ = some (.string img) ∧ Below W5.heap.size W5 w')) (by kernel_rfl) (HSS.out _ HBv.out) (fun hHeld => ?_)
  refine wpAnyH_take (i := 0) (oi := ⟨some 30, _, _, _, _, _⟩) (v := ?_) rfl (by kernel_rfl) (by kernel_rfl) (by kernel_rfl) (fun _ _ _ h => h) (Or.inl ⟨by kernel_rfl, ?_⟩) (by assumption) ?_
  rotate_left 1
  focus (intro w' hSw; (try dsimp only at hSw); go_simp; (try with_reducible rfl))
  try simp only [Act.put, List.setIfInBounds_toArray, List.set_cons_zero, List.set_cons_succ]
  refine wpAnyH_take (i := 1) (oi := ⟨some 31, _, _, _, _, _⟩) (v := ?_) rfl (by kernel_rfl) (by kernel_rfl) (by kernel_rfl) (fun _ _ _ h => h) (Or.inl ⟨by kernel_rfl, ?_⟩) (by assumption) ?_
  rotate_left 1
  focus (intro w' hSw; (try dsimp only at hSw); go_simp; (try with_reducible rfl))
  try simp only [Act.put, List.setIfInBounds_toArray, List.set_cons_zero, List.set_cons_succ]
  refine wpAnyH_take (i := 3) (oi := ⟨some 33, _, _, _, _, _⟩) (v := ?_) rfl (by kernel_rfl) (by kernel_rfl) (by kernel_rfl) (fun _ _ _ h => h) (Or.inl ⟨by kernel_rfl, ?_⟩) (by assumption) ?_
  rotate_left 1
  focus (intro w' hSw; (try dsimp only at hSw); go_simp; (try with_reducible rfl))
  try simp only [Act.put, List.setIfInBounds_toArray, List.set_cons_zero, List.set_cons_succ]
  refine wpAnyH_take (i := 5) (oi := ⟨some 35, _, _, _, _, _⟩) (v := ?_) rfl (by kernel_rfl) (by kernel_rfl) (by kernel_rfl) (fun _ _ _ h => h) (Or.inl ⟨by kernel_rfl, ?_⟩) (by assumption) ?_
  rotate_left 1
  focus (intro w' hSw; (try dsimp only at hSw); go_simp; (try with_reducible rfl))
  try simp only [Act.put, List.setIfInBounds_toArray, List.set_cons_zero, List.set_cons_succ]
  refine wpAnyH_take (i := 6) (oi := ⟨some 36, _, _, _, _, _⟩) (v := ?_) rfl (by kernel_rfl) (by kernel_rfl) (by kernel_rfl) (fun _ _ _ h => h) (Or.inl ⟨by kernel_rfl, ?_⟩) (by assumption) ?_
  rotate_left 1
  focus (intro w' hSw; (try dsimp only at hSw); go_simp; (try with_reducible rfl))
  try simp only [Act.put, List.setIfInBounds_toArray, List.set_cons_zero, List.set_cons_succ]
  refine wpAnyH_take (i := 8) (oi := ⟨some 38, _, _, _, _, _⟩) (v := ?_) rfl (by kernel_rfl) (by kernel_rfl) (by kernel_rfl) (fun _ _ _ h => h) (Or.inl ⟨by kernel_rfl, ?_⟩) (by assumption) ?_
  rotate_left 1
  focus (intro w' hSw; (try dsimp only at hSw); go_simp; (try with_reducible rfl))
  try simp only [Act.put, List.setIfInBounds_toArray, List.set_cons_zero, List.set_cons_succ]
  refine wpAnyH_ready (rs := [2]) (by kernel_rfl) (by simp) ?_
  refine AllReadyH.cons rfl (fun K hK => ?_) AllReadyH.nil
  go_simp
  go_at_call 29
  refine (HDo.out _ HBv.out).mono ?_
  rintro en v1 ⟨⟨x, rfl, hx⟩, hv1⟩
  have hq1 := HBv.out.trans (hv1.mono HBv.out.size)
  clear hHeld
  refine hK.out _ _ (HSS.out _ hq1) (fun hHeld => ?_)
  clear hK
  refine wpAnyH_ready (rs := [4]) (by kernel_rfl) (by simp) ?_
  refine AllReadyH.cons rfl (fun K hK => ?_) AllReadyH.nil
  go_simp
  go_at_call 16
  refine (HAb.out _ hq1).mono ?_
  rintro en v2 ⟨⟨Aa, ca, qs, rfl, hta⟩, hv2⟩
  have hq2 := hq1.trans (hv2.mono hq1.size)
  clear hHeld
  refine hK.out _ _ (HSS.out _ hq2) (fun hHeld => ?_)
  clear hK
  refine wpAnyH_ready (rs := [7]) (by kernel_rfl) (by simp) ?_
  refine AllReadyH.cons rfl (fun K hK => ?_) AllReadyH.nil
  go_simp
  go_at_call 31
  refine (HIds.out _).mono ?_
  rintro en v3 ⟨⟨Ai, ci, rfl, hid⟩, hv3⟩
  have hq3 := hq2.trans (hv3.mono hq2.size)
  clear hHeld
  refine hK.out _ _ (HSS.out _ hq3) (fun hHeld => ?_)
  clear hK
  refine wpAnyH_ready (rs := [9]) (by kernel_rfl) (by simp) ?_
  refine AllReadyH.cons rfl (fun K hK => ?_) AllReadyH.nil
  go_simp
  go_at_call 30
  refine (HRd.out _ Aa ca qs Ai ci (hta.later hv3) hid).mono ?_
  rintro en v4 ⟨⟨x2, rfl, hx2⟩, hv4⟩
  have hq4 := hq3.trans (hv4.mono hq3.size)
  have hxx : x2 = x := text_one (hx2.trans hx.symm)
  subst hxx
  clear hHeld
  refine hK.out _ _ (HSS.out _ hq4) (fun hHeld => ?_)
  clear hK
  refine wpAnyH_ready (rs := [10]) (by kernel_rfl) (by simp) ?_
  refine AllReadyH.cons rfl (fun K hK => ?_) AllReadyH.nil
  go_simp
  go_at_call 28
  refine (same_res ae ak az aw x2 _).mono ?_
  rintro en v5 ⟨rfl, hv5⟩
  have hq5 := hq4.trans (hv5.mono hq4.size)
  clear hHeld
  refine hK.out _ _ (HSS.out _ hq5) (fun hHeld => ?_)
  clear hK
  refine wpAnyH_take (i := 11) (oi := ⟨some 4, _, _, _, _, _⟩) (v := ?_) rfl (by kernel_rfl) (by kernel_rfl) (by kernel_rfl) (fun _ _ _ h => h) (Or.inl ⟨by kernel_rfl, ?_⟩) (by assumption) ?_
  rotate_left 1
  focus (intro w' hSw; (try dsimp only at hSw); go_simp; (try with_reducible rfl))
  try simp only [Act.put, List.setIfInBounds_toArray, List.set_cons_zero, List.set_cons_succ]
  refine wpAnyH_done (by kernel_rfl) ?_ _
  have HF := Lib.hid (HB15.out.trans (hq5.mono HB15.out.size))
  clear hHeld hv1 hv2 hv3 hv4 hv5 hq1 hq2 hq3 hq4 hq5 hta hid hx hx2 HDo HAb HIds HRd HSS HBv
  go_wp2_with fail
  go_ret
  exact ⟨rfl, HF.out⟩
end Go.Proofs.YtkdldnjnadadgaaGreatDoor.uni
