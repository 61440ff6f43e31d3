/- Where the paths of names lead, with links or without them; how long they are. Conditions: the trees may be. (Plain words, and what ID answers.) What all answers: each place that can be come to by names alone is what is asked for by its path. Conditions: the stack lies in memory, its trees may be; the library's MaxLen holds a number. What all answers: each place that can be come to by names alone is what is asked for by its path. Conditions: the stack lies in memory, its trees may be; the library's MaxLen holds a number. The law WholePaths: all that is listed, from the root on, is there by its path; what is read by a path is read by the path that it leads to. Conditions: the trees lie in memory; the library's MaxLen holds a number. -/
import Derived.Test.YtkbhcncbpiimdaaGreatDoorJU9
import Derived.Deep.CutRange
import Derived.Deep.RegionHeld3
import Derived.Test.YtkbhcncbpiimdaaGreatDoorJV0
namespace Go.Proofs.YtkbhcncbpiimdaaGreatDoor.uni
set_option maxRecDepth 100000
open Go.RowKit Go.Proofs.YtkbhcncbpiimdaaGreatDoor.words Go.Proofs.YtkbhcncbpiimdaaGreatDoor.ext Go.Proofs.YtkbhcncbpiimdaaGreatDoor.name Go.Proofs.YtkbhcncbpiimdaaGreatDoor.tre Go.Proofs.YtkbhcncbpiimdaaGreatDoor.stk Go.Proofs.YtkbhcncbpiimdaaGreatDoor.seen Go.Proofs.YtkbhcncbpiimdaaGreatDoor.wlk

theorem seen_dirs {Q : List Nd} {d : Nd} {S : List Nd} (h : seenOf Q = d :: S) (hk : d.K = 2) : ∀ x ∈ seenOf Q, x.K = 2 := fun x hx => by
  rcases Q with _ | ⟨q, Q⟩
  · cases hx
  · unfold seenOf at h hx
    simp only at h hx
    split at h
    · cases h
    · rename_i h4
      rw [if_neg h4] at hx
      split at h
      · rename_i h2
        rw [if_pos h2] at hx
        exact head_dirs _ x (List.mem_of_mem_take hx)
      · rename_i h2
        have h1 : (q :: Q).take 1 = [q] := rfl
        rw [h1] at h
        injection h with h1 _
        subst h1
        exact absurd hk h2
/-- A way that ends at no link is one whether the last link is followed or not. -/
theorem leads_true {R : List Nd} {ns ps : List ByteArray} {h : Nat} {o : AtO} (H : Leads R false ns ps h o) : ∀ ns' E, o = .ok ns' E → (∀ d ∈ E, d.K ≠ 3) → Leads R true ns ps h o := by
  induction H with
  | done a => intro _ _ _ _; exact .done a
  | up _ ih => intro ns' E e hd; exact .up (ih ns' E e hd)
  | none _ _ _ _ => intro _ _ e; cases e
  | dir n a e s k _ ih => intro ns' E eo hd; exact .dir n a e s k (ih ns' E eo hd)
  | loop _ _ _ _ _ _ => intro _ _ e; cases e
  | hop n a e s k _ p _ ih => intro ns' E eo hd; exact .hop n a e s k (.inl rfl) p (ih ns' E eo hd)
  | not _ _ _ _ _ _ _ => intro _ _ e; cases e
  | leaf n a e s k _ =>
    intro ns' E eo hd
    injection eo with e1 e2
    subst e2
    exact .leaf n a e s k fun h => hd _ (List.mem_cons_self ..) h.1
/-- All that leads there are directories. -/
def AllD (R : List Nd) (ns : List ByteArray) : Prop := ∀ k D, Along (D0 R) (ns.take k) D → ∀ d ∈ D, d.K = 2
theorem AllD.nil {R : List Nd} (hK : ∀ t ∈ R, t.K = 2) : AllD R [] := fun k D h d hd => by
  rw [List.take_nil, Along_nil] at h
  rw [h] at hd
  exact hK d (List.mem_of_mem_take hd)
theorem AllD.take {R : List Nd} {ns : List ByteArray} (h : AllD R ns) (n : Nat) : AllD R (ns.take n) := fun k D hD => h (min k n) D (by rw [← List.take_take]; exact hD)
theorem AllD.snoc {R : List Nd} (hg : ∀ t ∈ R, allB t = true) {ns : List ByteArray} (h : AllD R ns) {p : ByteArray} {D Q : List Nd} {d : Nd} {S : List Nd} (hD : Along (D0 R) ns D) (hQ : EntN p D Q) (hs : seenOf Q = d :: S) (hk : d.K = 2) : AllD R (ns ++ [p]) := fun k F hF => by
  rcases Nat.lt_or_ge ns.length k with hlt | hge
  · rw [List.take_of_length_le (by rw [List.length_append, List.length_singleton]; omega)] at hF
    rw [hF.uniq (wlk.Good.root hg) (hD.snoc hQ)]
    exact seen_dirs hs hk
  · rw [List.take_append_of_le_length hge] at hF
    exact h k F hF
theorem leads_nolink {R : List Nd} (hg : ∀ t ∈ R, allB t = true) (hK : ∀ t ∈ R, t.K = 2) {ns ps : List ByteArray} {h : Nat} {o : AtO} (H : Leads R true ns ps h o) : AllD R ns → ∀ ns' d S, o = .ok ns' (d :: S) → d.K ≠ 3 := by
  induction H with
  | @done ns h D a =>
    intro hw ns' d S e
    injection e with e1 e2
    have h1 := hw ns.length D (by rw [List.take_length]; exact a) d (by rw [e2]; exact List.mem_cons_self ..)
    omega
  | up _ ih => intro hw; exact ih (hw.take _)
  | none _ _ _ _ => intro _ _ _ _ e; cases e
  | dir n a e s k _ ih => intro hw; exact ih (hw.snoc hg a e s k)
  | loop _ _ _ _ _ _ => intro _ _ _ _ e; cases e
  | hop _ _ _ _ _ _ _ _ ih =>
    intro hw
    refine ih ?_
    split
    · exact AllD.nil hK
    · exact hw
  | not _ _ _ _ _ _ _ => intro _ _ _ _ e; cases e
  | leaf _ _ _ _ _ c =>
    intro _ ns' d S e
    injection e with e1 e2
    injection e2 with e3 _
    subst e3
    exact fun h => c ⟨h, .inl rfl⟩
theorem nm_64 {p : ByteArray} (h : NmD p) : p.size ≤ 64 := by
  obtain ⟨⟨_, hi, hb, _⟩, hd⟩ := h
  have hr : right p.data.toList = true := by
    rcases hr : right p.data.toList with _ | _
    · exfalso
      unfold bad at hb
      rw [hi, hr] at hb
      rcases h2 : (p.data.toList == [46, 46]) with _ | _
      · rw [h2] at hb; cases hb
      · exact hd (text_eq (by rw [eq_of_beq h2]; rfl))
    · rfl
  unfold right at hr
  simp only [Bool.and_eq_true, decide_eq_true_eq] at hr
  have := name.size_list p
  omega
theorem fold_size : ∀ (ns : List ByteArray) (s0 : ByteArray), (∀ n ∈ ns, NmD n) → (ns.foldl childS s0).size ≤ s0.size + ns.length * 65
  | [], s0, _ => by simp
  | n :: ns, s0, h => by
    have h1 := fold_size ns (childS s0 n) fun m hm => h m (List.mem_cons_of_mem _ hm)
    have h2 := childS_size s0 n
    have h3 := nm_64 (h n (List.mem_cons_self ..))
    rw [List.foldl_cons, List.length_cons, Nat.add_mul]
    omega
theorem way_len {R : List Nd} (hk : ∀ d ∈ R, depth d < 16) {ns : List ByteArray} {E : List Nd} (h : Along (D0 R) ns E) (hne : ns ≠ [] → E ≠ []) : ns.length ≤ 15 := by
  rcases Nat.eq_zero_or_pos ns.length with h0 | h0
  · omega
  · obtain ⟨d, E', rfl⟩ := List.exists_cons_of_ne_nil (hne (fun e => by rw [e] at h0; simp at h0))
    have := h.deep (k := 16) (fun d hd => hk d (List.mem_of_mem_take hd)) d (List.mem_cons_self ..)
    omega
theorem way_size {ns : List ByteArray} (hn : ∀ n ∈ ns, NmD n) (hl : ns.length ≤ 15) : (pathOf ns).size ≤ 1024 := by
  have h1 := fold_size ns ⟨#[47]⟩ hn
  have h2 : (⟨#[47]⟩ : ByteArray).size = 1 := rfl
  have h3 : ns.length * 65 ≤ 15 * 65 := Nat.mul_le_mul_right _ hl
  unfold pathOf
  omega
theorem own_goes {R : List Nd} {f : Bool} {ns : List ByteArray} {E : List Nd} (hL : Leads R f [] ns 40 (.ok ns E)) (hn : ∀ n ∈ ns, NmD n) (hl : ns.length ≤ 15) : Goes R f (pathOf ns) (.ok ns E) := by
  have h1 := way_size hn hl
  have h2 := name.size_list (pathOf ns)
  have h3 := path_of ns.length ns rfl hn
  exact .inr ⟨ns, by rw [h3]; exact parts_path _ (nm_of hn) (by rw [← h3]; omega), hL⟩
theorem way_not {ns : List ByteArray} {m : ByteArray} (hm : NmD m) : (pathOf (ns ++ [m])).data.toList ≠ [47] := fun h => by
  rw [pathOf_snoc] at h
  have hz : m.data.toList ≠ [] := fun e => by
    have := hm.1.2.1
    rw [e] at this
    cases this
  have h2 := congrArg List.length h
  have h3 : m.data.toList.length ≠ 0 := fun e => hz (List.eq_nil_of_length_eq_zero e)
  unfold childS at h2
  simp only at h2
  split at h2
  · simp only [List.length_cons, List.length_nil] at h2; omega
  · simp only [List.length_cons, List.length_append, List.length_nil] at h2; omega
theorem kid_top {ns : List ByteArray} (h : ns = []) (s : ByteArray) : pathOf ns ++ s = pathOf (ns ++ [s]) := by
  subst h
  refine text_eq ?_
  rw [app_data, pathOf_snoc]
  rfl
theorem kid_below {ns : List ByteArray} (hn : ∀ n ∈ ns, NmD n) (h : ns ≠ []) (s : ByteArray) : pathOf ns ++ ⟨#[47]⟩ ++ s = pathOf (ns ++ [s]) := by
  refine text_eq ?_
  rw [app_data, app_data, pathOf_snoc]
  have hw : (pathOf ns).data.toList ≠ [47] := by
    have e := List.dropLast_concat_getLast h
    rw [← e]
    exact way_not (hn _ (List.getLast_mem h))
  unfold childS
  simp only
  rw [if_neg hw, List.append_assoc]
  rfl
/-- What ID answers of where a walk has led. -/
theorem id_at {R : List Nd} (hg : ∀ t ∈ R, allB t = true) (hk : ∀ t ∈ R, t.K = 2) (A : Option Addr) (c : Nat) (ad : Int) (L : List (Nat × Int)) {w : World} (hst : StkM w A L (tabs R)) (hL : Falls L) {t : Tg} {ns : List ByteArray} {d : Nd} {S : List Nd} (hH : Hold R t (d :: S)) (hS : Spt R ns t) (hA : Along (D0 R) ns (d :: S)) {l : Int} (hl : LevI R ns l) :
    IdC A L.length c ad t.l (whI (R.length : Int) l) w := fun w' hb => by
  have hLR : L.length = R.length := by rw [← hst.es, tabs_length]
  obtain ⟨lv, nd, h1, h2, h3, h4, h5⟩ := lev_of hg hk hH hS hA
  have hll := h5.uniq hl
  subst hll
  obtain ⟨t', ht, htd⟩ := h3
  have hE' := tabs_at ht
  obtain ⟨y, hy⟩ : ∃ y, L[lv]? = some y := ⟨_, List.getElem?_eq_getElem (by rw [← hst.es]; exact (List.getElem?_eq_some_iff.1 hE').1)⟩
  have h6 := sid_yes A L.length c lv ad L y w' (hst.later hb).rows rfl hy
  rw [hL lv y hy, hLR] at h6
  unfold whI
  rw [if_neg (by omega), h1, hLR]
  exact h6
end Go.Proofs.YtkbhcncbpiimdaaGreatDoor.uni

namespace Go.Proofs.YtkbhcncbpiimdaaGreatDoor.uni
set_option maxRecDepth 100000
open Go.RowKit Go.Proofs.YtkbhcncbpiimdaaGreatDoor.words Go.Proofs.YtkbhcncbpiimdaaGreatDoor.ext Go.Proofs.YtkbhcncbpiimdaaGreatDoor.name Go.Proofs.YtkbhcncbpiimdaaGreatDoor.tre Go.Proofs.YtkbhcncbpiimdaaGreatDoor.stk Go.Proofs.YtkbhcncbpiimdaaGreatDoor.seen Go.Proofs.YtkbhcncbpiimdaaGreatDoor.wlk

/-- All that is seen from these names on is there by its path. -/
def AllC (R : List Nd) (A : Option Addr) (c : Nat) (ad : Int) (L : List (Nat × Int)) (mx : Int) (ns : List ByteArray) : Prop := ∀ w : World, StkM w A L (tabs R) → w.cell? ⟨0, 0, none⟩ = some (.int .i64 mx) →
  Calls Tryz.prog 24 #[stkV A L.length c ad, .string (pathOf ns)] w fun e w' => e = .returned (.bool true) ∧ Below w.heap.size w w'
/-- What is asked of an entry, by its path. -/
def KidC (A : Option Addr) (c : Nat) (ad : Int) (n : Nat) (ch : ByteArray) (K : Int) (W : World) : Prop := ∃ wh : Int,
  (∀ w' : World, Below W.heap.size W w' → Calls Tryz.prog 20 #[.agg #[.slice A n c, .int .i64 ad], .string ch, .bool false] w' fun e w'' => (∃ (lt it : Int) (At : Option Addr) (nt ct : Nat), e = .returned (.tuple #[.agg #[.string ch, .int .i64 K, .int .i64 lt, .int .i64 it, .slice At nt ct], .int .i64 0]) ∧
     ∀ w3 : World, Below w''.heap.size w'' w3 → Calls Tryz.prog 52 #[.agg #[.slice A n c, .int .i64 ad], .int .i64 lt] w3 fun e w4 => e = .returned (.int .i64 wh) ∧ Below w3.heap.size w3 w4) ∧ Below w'.heap.size w' w'') ∧
  (∀ w' : World, Below W.heap.size W w' → Calls Tryz.prog 16 #[.agg #[.slice A n c, .int .i64 ad], .agg #[.int .i64 1, .string ch, .int .i64 0, .int .i64 0, .int .i64 0, .string ⟨#[]⟩]] w' fun e w'' => e = .returned (resV 0 K 0 wh ⟨#[]⟩) ∧ Below w'.heap.size w' w'') ∧
  (K = 2 → ∀ w' : World, Below W.heap.size W w' → Calls Tryz.prog 24 #[.agg #[.slice A n c, .int .i64 ad], .string ch] w' fun e w'' => e = .returned (.bool true) ∧ Below w'.heap.size w' w'')
theorem kid_c {R : List Nd} (hg : ∀ t ∈ R, allB t = true) (hK : ∀ t ∈ R, t.K = 2) (hk : ∀ d ∈ R, depth d < 16) (hR : R.length ≤ 64) (A : Option Addr) (c : Nat) (ad : Int) (L : List (Nat × Int)) (mx : Int) (hL : Falls L) {ns : List ByteArray} {E Q : List Nd} {s : ByteArray} {y : Nd} {S : List Nd}
    (hOw : OwnW R ns) (hAl : Along (D0 R) ns E) (hn : ∀ n ∈ ns, NmD n) (hnm : NmD s) (hQ : EntN s E Q) (hS : seenOf Q = y :: S) (IH : y.K = 2 → AllC R A c ad L mx (ns ++ [s])) (W : World) (hst : StkM W A L (tabs R)) (hmx : W.cell? ⟨0, 0, none⟩ = some (.int .i64 mx)) :
    KidC A c ad L.length (pathOf (ns ++ [s])) y.K W := by
  have hA2 := hAl.snoc hQ
  have hn2 : ∀ x ∈ ns ++ [s], NmD x := fun x hx => by
    rcases List.mem_append.1 hx with h | h
    · exact hn x h
    · rw [List.mem_singleton.1 h]; exact hnm
  have hk100 : ∀ d ∈ R, depth d < 100 := fun d hd => by have := hk d hd; omega
  have hnl := way_len hk hA2 (fun _ => by rw [hS]; simp)
  have hL2 : Leads R false [] (ns ++ [s]) 40 (.ok (ns ++ [s]) (seenOf Q)) := by
    refine hOw.all ?_
    by_cases hk2 : y.K = 2
    · exact .dir hnm.2 hAl hQ hS hk2 (.done hA2)
    · have h1 := Leads.leaf (R := R) (f := false) (h := 40) hnm.2 hAl hQ hS hk2 (fun h => by rcases h.2 with h | h <;> simp at h)
      rw [← hS] at h1
      exact h1
  have hGo := own_goes hL2 hn2 hnl
  have hsz := way_size hn2 hnl
  obtain ⟨l, hl⟩ := lev_o R (.ok (ns ++ [s]) (seenOf Q))
  have hlv := hl _ _ rfl
  refine ⟨whI (R.length : Int) l, fun w' hb => ?_, fun w' hb => ?_, fun h2 w' hb => ?_⟩
  · refine (walk_any hg hK hk100 hR A c ad L mx (pathOf (ns ++ [s])) false _ hGo w' (hst.later hb) (below_cell hmx hb) (by omega)).mono fun e w'' ⟨h1, hb2⟩ => ⟨?_, hb2⟩
    rcases h1 with ⟨j, h1, _⟩ | ⟨t, At, ct, ns', E', h1, rfl, _, _, _, hH, hSt, _, _, hal', _, hsp⟩
    · cases h1
    · injection h1 with h1 h2
      subst h1 h2
      rw [hS] at hH hal'
      refine ⟨t.l, t.i, At, t.Q.length, ct, ?_, fun w3 hb3 => ?_⟩
      · have hKt : t.K = y.K := by
          rcases hH with hH | ⟨_, _, d, hd, _, _, hKt, _⟩
          · rw [hH.2.1, hH.1 y (List.mem_cons_self ..)]
          · injection hd with hd _
            rw [hKt, hd]
        unfold tgV
        rw [hSt, hKt]
      · exact id_at hg hK A c ad L ((hst.later hb).later hb2) hL hH hsp hal' hlv w3 hb3
  · refine (do_all hg hK hk100 hR A c ad L mx 1 (pathOf (ns ++ [s])) 0 0 0 ⟨#[]⟩ w' (hst.later hb) hL (below_cell hmx hb) (by omega) (by decide) (by decide) (by decide) (by decide) (O := .ok (ns ++ [s]) (seenOf Q)) hGo hl).mono fun e w'' ⟨⟨x, h1, h2⟩, h3⟩ => ⟨?_, h3⟩
    rw [ansM_yes rfl rfl] at h1 h2
    obtain rfl : x = ⟨#[]⟩ := text_eq h2
    rw [h1, hS]
    rfl
  · exact IH h2 w' (hst.later hb) (below_cell hmx hb)
end Go.Proofs.YtkbhcncbpiimdaaGreatDoor.uni

namespace Go.Proofs.YtkbhcncbpiimdaaGreatDoor.uni
set_option maxRecDepth 100000
open Go.RowKit Go.Proofs.YtkbhcncbpiimdaaGreatDoor.words Go.Proofs.YtkbhcncbpiimdaaGreatDoor.ext Go.Proofs.YtkbhcncbpiimdaaGreatDoor.name Go.Proofs.YtkbhcncbpiimdaaGreatDoor.tre Go.Proofs.YtkbhcncbpiimdaaGreatDoor.stk Go.Proofs.YtkbhcncbpiimdaaGreatDoor.seen Go.Proofs.YtkbhcncbpiimdaaGreatDoor.wlk

set_option maxHeartbeats 12800000 in
theorem all_step {R : List Nd} (hg : ∀ t ∈ R, allB t = true) (hK : ∀ t ∈ R, t.K = 2) (hk : ∀ d ∈ R, depth d < 16) (hR : R.length ≤ 64) (hct : ∀ x d, seen.At R x d → d.N.length ≤ 4096) (A : Option Addr) (c : Nat) (ad : Int) (L : List (Nat × Int)) (mx : Int) (hL : Falls L) {ns : List ByteArray} {E : List Nd}
    (hOw : OwnW R ns) (hAl : Along (D0 R) ns E) (hdir : ∀ d ∈ E, d.K = 2) (hne : ns ≠ [] → E ≠ []) (hn : ∀ n ∈ ns, NmD n) (IH : ∀ s Q y S, EntN s E Q → seenOf Q = y :: S → y.K = 2 → NmD s → AllC R A c ad L mx (ns ++ [s])) : AllC R A c ad L mx ns := by
  intro w hst hmx
  have hnl := way_len hk hAl hne
  have hk100 : ∀ d ∈ R, depth d < 100 := fun d hd => by have := hk d hd; omega
  have hsz := way_size hn hnl
  have hLf : Leads R false [] ns 40 (.ok ns E) := by
    have h1 := hOw.all (rest := []) (h' := 40) (.done hAl)
    rw [List.append_nil] at h1
    exact h1
  have hO := own_goes (leads_true hLf ns E rfl fun d hd => by rw [hdir d hd]; decide) hn hnl
  obtain ⟨O, hOO⟩ : ∃ O, O = AtO.ok ns E := ⟨_, rfl⟩
  rw [← hOO] at hO
  have HOO := Lib.hid hOO
  obtain ⟨W1, hW1⟩ : ∃ W1, W1 = w.alloc (.cells #[.slice A L.length c, .int .i64 ad] 27) := ⟨_, rfl⟩
  have hb1 : Below w.heap.size w W1 := by rw [hW1]; exact (Below.refl _ _).alloc (Nat.le_refl _) _
  have hs1 : W1.heap[w.heap.size]? = some (.cells #[.slice A L.length c, .int .i64 ad] 27 (0, 0)) := by rw [hW1]; exact heap_alloc_new w _
  have HLi := Lib.hid (show Calls Tryz.prog 12 #[.agg #[.slice A L.length c, .int .i64 ad], .string (pathOf ns)] W1 (LsOut R O W1) from ulist_any hg hK hk100 hR hct A c ad L mx (pathOf ns) W1 (hst.later hb1) (below_cell hmx hb1) (by omega) hO)
  have HKC : Hid (∀ (El : List (ByteArray × Int)), Listed E El → ∀ s K, (s, K) ∈ El → KidC A c ad L.length (pathOf (ns ++ [s])) K W1) := Lib.hid fun El hld s K hx => by
    obtain ⟨hnm, Q, y, S, hQ, hS, rfl⟩ := listed_kid hg hdir hAl hld hx
    exact kid_c hg hK hk hR A c ad L mx hL hOw hAl hn hnm hQ hS (fun h2 => IH s Q y S hQ hS h2 hnm) W1 (hst.later hb1) (below_cell hmx hb1)
  have HE0 : Hid (lsE O = 0) := Lib.hid (by
    rw [hOO]
    unfold lsE
    refine if_pos ?_
    rcases E with _ | ⟨d, E⟩
    · rfl
    · exact hdir d (List.mem_cons_self ..))
  have HSm : Hid (∀ El, Listed E El → ∀ s K, (s, K) ∈ El → s.size ≤ 1024) := Lib.hid fun El h3 s K h4 => (listed_kid hg hdir hAl h3 h4).1.1.1
  have HTop : Hid (∀ s, ns = [] → pathOf ns ++ s = pathOf (ns ++ [s])) := Lib.hid fun s h => kid_top h s
  have HBel : Hid (∀ s, ns ≠ [] → pathOf ns ++ ⟨#[47]⟩ ++ s = pathOf (ns ++ [s])) := Lib.hid fun s h => kid_below hn h s
  have HEq : Hid ((ns = [] → ((pathOf ns).toList == [47]) = true) ∧ (ns ≠ [] → ((pathOf ns).toList == [47]) = false)) := Lib.hid ⟨fun h => by subst h; rw [ByteArray.toList_eq]; rfl, fun h => by
    rw [beq_eq_false_iff_ne, ByteArray.toList_eq, ← List.dropLast_concat_getLast h]
    exact way_not (hn _ (List.getLast_mem h))⟩
  have HS := Lib.hid hs1
  have HB1 := Lib.hid hb1
  have s0 := cell_of_blk hs1 0
  have s1 := cell_of_blk hs1 1
  have HW1 := Lib.hid hW1
  clear hW1 hb1 hs1 hst hmx hg hK hk hR hct hL hOw hAl hdir hne hn IH hnl hk100 hLf hO hOO
  obtain ⟨pp, hpp⟩ : ∃ pp, pp = pathOf ns := ⟨_, rfl⟩
  rw [← hpp] at HLi HTop HBel HEq hsz
  unfold stkV
  rw [← hpp]
  have HP := Lib.hid hpp
  clear hpp
  have t2 : (pp.toList != pp.toList) = false := bne_self_eq_false _
  go_enter Tryz.func24, Tryz.ntmps24
  go_upto_region 1 with fail
  rw [← HW1.out]
  clear HW1
  go_wp2_with fail
  refine HLi.out.mono ?_
  rintro e w2 ⟨(⟨hno, _⟩ | ⟨ns', E', El, Al, cl, hOe, _, _, _, _, _, _, _, hld, hle, rfl, hlies⟩), hb2⟩
  · exact absurd HE0.out hno
  rw [HOO.out] at hOe
  injection hOe with h1 h2
  subst h1 h2
  rw [← HP.out]
  have HB2 := Lib.hid hb2
  have HLs := Lib.hid hlies
  have HKd := Lib.hid (HKC.out El hld)
  have HSz := Lib.hid (HSm.out El hld)
  have HPz := Lib.hid hsz
  have HLe := Lib.hid hle
  clear hld hle hlies hb2 HLi HKC s0 s1 HE0 hsz HSm
  go_wp2_with fail
  go_loopw [30] (fun v wr => ∃ (k : Nat), v = .int .i64 (k : Int) ∧ k ≤ El.length ∧ Hid (Below w2.heap.size w2 wr)) (fun v _ => El.length - (intOf v).toNat)
  case atStart => exact ⟨0, rfl, Nat.zero_le _, Lib.hid (Below.refl _ _)⟩
  case round =>
    obtain ⟨k, rfl, hk, HB⟩ := hrel
    have hkb : El.length ≤ 1000000 := HLe.out
    by_cases hlt : k < El.length
    · obtain ⟨⟨s, K⟩, hx⟩ : ∃ x, El[k]? = some x := ⟨_, List.getElem?_eq_getElem hlt⟩
      have hxm : (s, K) ∈ El := List.mem_of_getElem? hx
      obtain ⟨b, off, hA, hb, x0, x1⟩ := mrg.lies_en HLs.out hx
      subst hA
      have x0 := (HB.out.cell (p := ⟨b, off + k * 2, none⟩) hb).trans x0
      have x1 := (HB.out.cell (p := ⟨b, off + k * 2 + 1, none⟩) hb).trans x1
      obtain ⟨W3, hW3⟩ : ∃ W3, W3 = wr.alloc (.cells #[.string s, .int .i64 K] 41) := ⟨_, rfl⟩
      have hbr : Below wr.heap.size wr W3 := by rw [hW3]; exact (Below.refl _ _).alloc (Nat.le_refl _) _
      have HX3 := Lib.hid (show W3.heap[wr.heap.size]? = some (.cells #[.string s, .int .i64 K] 41 (0, 0)) by rw [hW3]; exact heap_alloc_new wr _)
      have HB23 := Lib.hid (HB.out.trans (hbr.mono HB.out.size))
      have HB13 := Lib.hid (HB2.out.trans (HB23.out.mono HB2.out.size))
      have HK3 := Lib.hid (HKd.out s K hxm)
      have HXm := Lib.hid hxm
      have HW3 := Lib.hid hW3
      have i0 : (0 : Int) ≤ (k : Int) := by omega
      have i1 : (k : Int) < (El.length : Int) := by omega
      clear hx hxm hb hbr hW3
      go_upto_region 7 with fail
      rw [← HW3.out]
      clear HW3 x0 x1 i0 i1
      have x0 := cell_of_blk HX3.out 0
      have hzs : s.size ≤ 1024 := HSz.out s K HXm.out
      have hzp : pp.size ≤ 1024 := HPz.out
      obtain ⟨b0, hb0⟩ : ∃ b0, b0 = (pp.toList == [47]) := ⟨_, rfl⟩
      have HB0 := Lib.hid hb0
      have hb0' := hb0.symm
      clear hb0
      go_upto_region 8 with fail
      go_cut [40] from 39 to 40 (fun v wx => v = .bool b0 ∧ wx = W3)
      case first =>
        go_wp2_with fail
        go_meet
        case rel => exact ⟨rfl, rfl⟩
      case rest =>
      obtain ⟨rfl, hWx⟩ := hcut
      have hWx := hWx.symm
      subst hWx
      clear hb0'
      obtain ⟨v40, hv40⟩ : ∃ v, v = Value.bool b0 := ⟨_, rfl⟩
      rw [← hv40]
      have HV40 := Lib.hid hv40
      clear hv40
      go_wp2_with fail
      go_cut [10] from 40 to 45 (fun v wx => v = .string (pathOf (ns ++ [s])) ∧ wx = W3)
      case first =>
        by_cases hns : ns = []
        · have t3 : b0 = true := HB0.out.trans (HEq.out.1 hns)
          subst t3
          rw [HV40.out]
          go_wp2_with fail
          go_meet
          case rel => exact ⟨by rw [HTop.out s hns], rfl⟩
        · have t3 : b0 = false := HB0.out.trans (HEq.out.2 hns)
          subst t3
          rw [HV40.out]
          go_wp2_with fail
          go_meet
          case rel => exact ⟨by rw [HBel.out s hns], rfl⟩
      case rest =>
        obtain ⟨rfl, hWx⟩ := hcut
        have hWx := hWx.symm
        subst hWx
        clear hzs hzp
        obtain ⟨ch, hch⟩ : ∃ ch, ch = pathOf (ns ++ [s]) := ⟨_, rfl⟩
        rw [← hch] at HK3 ⊢
        obtain ⟨wh, hwk, hdo, hrec⟩ := HK3.out
        have HWk := Lib.hid (hwk W3 HB13.out)
        have HDo := Lib.hid hdo
        have HRec := Lib.hid hrec
        have es := (HB13.out.block _ (lt_of_some HS.out)).trans HS.out
        have s0 := cell_of_blk es 0
        have s1 := cell_of_blk es 1
        clear hwk hdo hrec HK3 hch es x0
        go_wp2_with fail
        refine HWk.out.mono ?_
        rintro e v1 ⟨⟨lt, it, At, nt, ct, rfl, hid⟩, hv1⟩
        obtain ⟨V2, hV2⟩ : ∃ V2, V2 = v1.alloc (.cells #[.string ch, .int .i64 K, .int .i64 lt, .int .i64 it, .slice At nt ct] 58) := ⟨_, rfl⟩
        have hb2 : Below v1.heap.size v1 V2 := by rw [hV2]; exact (Below.refl _ _).alloc (Nat.le_refl _) _
        have HX2 := Lib.hid (show V2.heap[v1.heap.size]? = some (.cells #[.string ch, .int .i64 K, .int .i64 lt, .int .i64 it, .slice At nt ct] 58 (0, 0)) by rw [hV2]; exact heap_alloc_new v1 _)
        have HB32 := Lib.hid (hv1.trans (hb2.mono hv1.size))
        have HB12 := Lib.hid (HB13.out.trans (HB32.out.mono HB13.out.size))
        have HId := Lib.hid (fun w3 (h : Below V2.heap.size V2 w3) => hid w3 (hb2.trans (h.mono hb2.size)))
        have HD2 := Lib.hid (HDo.out V2 HB12.out)
        have HV2 := Lib.hid hV2
        have es := (HB12.out.block _ (lt_of_some HS.out)).trans HS.out
        clear s0 s1
        have s0 := cell_of_blk es 0
        have s1 := cell_of_blk es 1
        clear hv1 hb2 hid hV2 HWk HDo es
        go_upto_region 11 with fail
        rw [← HV2.out]
        clear HV2
        go_wp2_with fail
        refine HD2.out.mono ?_
        rintro e v3 ⟨rfl, hv3⟩
        obtain ⟨V4, hV4⟩ : ∃ V4, V4 = v3.alloc (.cells #[.int .i64 0, .int .i64 K, .int .i64 0, .int .i64 wh, .int .i64 0, .string ⟨#[]⟩, .slice none 0 0, .bool false] 44) := ⟨_, rfl⟩
        have hb4 : Below v3.heap.size v3 V4 := by rw [hV4]; exact (Below.refl _ _).alloc (Nat.le_refl _) _
        have HX4 := Lib.hid (show V4.heap[v3.heap.size]? = some (.cells #[.int .i64 0, .int .i64 K, .int .i64 0, .int .i64 wh, .int .i64 0, .string ⟨#[]⟩, .slice none 0 0, .bool false] 44 (0, 0)) by rw [hV4]; exact heap_alloc_new v3 _)
        have HB24 := Lib.hid (hv3.trans (hb4.mono hv3.size))
        have HB34 := Lib.hid (HB32.out.trans (HB24.out.mono HB32.out.size))
        have HB14 := Lib.hid (HB13.out.trans (HB34.out.mono HB13.out.size))
        have HV4 := Lib.hid hV4
        clear hv3 hb4 hV4 HD2 s0 s1
        have HSS : Hid (∀ w' : World, Below V4.heap.size V4 w' → (w'.cell? ⟨w.heap.size, 0, none⟩ = some (.slice A L.length c) ∧ w'.cell? ⟨w.heap.size, 1, none⟩ = some (.int .i64 ad) ∧ w'.cell? ⟨v1.heap.size, 0, none⟩ = some (.string ch) ∧ w'.cell? ⟨v1.heap.size, 1, none⟩ = some (.int .i64 K) ∧ w'.cell? ⟨v1.heap.size, 2, none⟩ = some (.int .i64 lt) ∧ w'.cell? ⟨wr.heap.size, 1, none⟩ = some (.int .i64 K) ∧ w'.cell? ⟨v3.heap.size, 1, none⟩ = some (.int .i64 K) ∧ w'.cell? ⟨v3.heap.size, 3, none⟩ = some (.int .i64 wh) ∧ Below V4.heap.size V4 w')) := Lib.hid fun w' hb => by
          have e1 := ((HB14.out.trans (hb.mono HB14.out.size)).block _ (lt_of_some HS.out)).trans HS.out
          have e2 := ((HB24.out.trans (hb.mono HB24.out.size)).block _ (lt_of_some HX2.out)).trans HX2.out
          have e3 := ((HB34.out.trans (hb.mono HB34.out.size)).block _ (lt_of_some HX3.out)).trans HX3.out
          have e4 := (hb.block _ (lt_of_some HX4.out)).trans HX4.out
          exact ⟨cell_of_blk e1 0, cell_of_blk e1 1, cell_of_blk e2 0, cell_of_blk e2 1, cell_of_blk e2 2, cell_of_blk e3 1, cell_of_blk e4 1, cell_of_blk e4 3, hb⟩
        have HBv : Hid (Below V4.heap.size V4 V4.drew) := Lib.hid (Below.refl _ _).drew
        have t4 : (ch.toList != ch.toList) = false := bne_self_eq_false _
        have t5 : (K != K) = false := bne_self_eq_false _
        have t6 : (wh != wh) = false := bne_self_eq_false _
        unfold resV
        go_upto_region 12 with fail
        rw [← HV4.out]
        clear HV4
        go_cut [88] from 55 to 88 (fun v wx => v = .bool false ∧ Hid (Below V4.heap.size V4 wx))
        case first =>
          refine wp_region_held_drew (S := fun w' => (w'.cell? ⟨w.heap.size, 0, none⟩ = some (.slice A L.length c) ∧ w'.cell? ⟨w.heap.size, 1, none⟩ = some (.int .i64 ad) ∧ w'.cell? ⟨v1.heap.size, 0, none⟩ = some (.string ch) ∧ w'.cell? ⟨v1.heap.size, 1, none⟩ = some (.int .i64 K) ∧ w'.cell? ⟨v1.heap.size, 2, none⟩ = some (.int .i64 lt) ∧ w'.cell? ⟨wr.heap.size, 1, none⟩ = some (.int .i64 K) ∧ w'.cell? ⟨v3.heap.size, 1, none⟩ = some (.int .i64 K) ∧ w'.cell? ⟨v3.heap.size, 3, none⟩ = some (.int .i64 wh) ∧ Below V4.heap.size V4 w')) (by kernel_rfl) (HSS.out _ HBv.out) (fun hHeld => ?_)
          refine wpAnyH_take (i := 0) (oi := ⟨some 55, _, _, _, _, _⟩) (v := ?_) rfl (by kernel_rfl) (by kernel_rfl) (by kernel_rfl) (fun _ _ _ h => h) (Or.inl ⟨by kernel_rfl, ?_⟩) (by assumption) ?_
          rotate_left 1
          focus (intro w' hSw; (try dsimp only at hSw); go_simp; (try with_reducible rfl))
          try simp only [Act.put, List.setIfInBounds_toArray, List.set_cons_zero, List.set_cons_succ]
          refine wpAnyH_take (i := 1) (oi := ⟨some 56, _, _, _, _, _⟩) (v := ?_) rfl (by kernel_rfl) (by kernel_rfl) (by kernel_rfl) (fun _ _ _ h => h) (Or.inl ⟨by kernel_rfl, ?_⟩) (by assumption) ?_
          rotate_left 1
          focus (intro w' hSw; (try dsimp only at hSw); go_simp; (try with_reducible rfl))
          try simp only [Act.put, List.setIfInBounds_toArray, List.set_cons_zero, List.set_cons_succ]
          refine wpAnyH_take (i := 2) (oi := ⟨some 57, _, _, _, _, _⟩) (v := ?_) rfl (by kernel_rfl) (by kernel_rfl) (by kernel_rfl) (fun _ _ _ h => h) (Or.inl ⟨by kernel_rfl, ?_⟩) (by assumption) ?_
          rotate_left 1
          focus (intro w' hSw; (try dsimp only at hSw); go_simp; (try with_reducible rfl))
          try simp only [Act.put, List.setIfInBounds_toArray, List.set_cons_zero, List.set_cons_succ]
          refine wpAnyH_take (i := 3) (oi := ⟨some 58, _, _, _, _, _⟩) (v := ?_) rfl (by kernel_rfl) (by kernel_rfl) (by kernel_rfl) (fun _ _ _ h => h) (Or.inl ⟨by kernel_rfl, ?_⟩) (by assumption) ?_
          rotate_left 1
          focus (intro w' hSw; (try dsimp only at hSw); go_simp; (try with_reducible rfl))
          try simp only [Act.put, List.setIfInBounds_toArray, List.set_cons_zero, List.set_cons_succ]
          refine wpAnyH_take (i := 4) (oi := ⟨some 59, _, _, _, _, _⟩) (v := ?_) rfl (by kernel_rfl) (by kernel_rfl) (by kernel_rfl) (fun _ _ _ h => h) (Or.inl ⟨by kernel_rfl, ?_⟩) (by assumption) ?_
          rotate_left 1
          focus (intro w' hSw; (try dsimp only at hSw); go_simp; (try with_reducible rfl))
          try simp only [Act.put, List.setIfInBounds_toArray, List.set_cons_zero, List.set_cons_succ]
          refine wpAnyH_take (i := 5) (oi := ⟨some 60, _, _, _, _, _⟩) (v := ?_) rfl (by kernel_rfl) (by kernel_rfl) (by kernel_rfl) (fun _ _ _ h => h) (Or.inl ⟨by kernel_rfl, ?_⟩) (by assumption) ?_
          rotate_left 1
          focus (intro w' hSw; (try dsimp only at hSw); go_simp; (try with_reducible rfl))
          try simp only [Act.put, List.setIfInBounds_toArray, List.set_cons_zero, List.set_cons_succ]
          refine wpAnyH_take (i := 6) (oi := ⟨some 61, _, _, _, _, _⟩) (v := ?_) rfl (by kernel_rfl) (by kernel_rfl) (by kernel_rfl) (fun _ _ _ h => h) (Or.inl ⟨by kernel_rfl, ?_⟩) (by assumption) ?_
          rotate_left 1
          focus (intro w' hSw; (try dsimp only at hSw); go_simp; (try with_reducible rfl))
          try simp only [Act.put, List.setIfInBounds_toArray, List.set_cons_zero, List.set_cons_succ]
          refine wpAnyH_take (i := 7) (oi := ⟨some 62, _, _, _, _, _⟩) (v := ?_) rfl (by kernel_rfl) (by kernel_rfl) (by kernel_rfl) (fun _ _ _ h => h) (Or.inl ⟨by kernel_rfl, ?_⟩) (by assumption) ?_
          rotate_left 1
          focus (intro w' hSw; (try dsimp only at hSw); go_simp; (try with_reducible rfl))
          try simp only [Act.put, List.setIfInBounds_toArray, List.set_cons_zero, List.set_cons_succ]
          refine wpAnyH_take (i := 8) (oi := ⟨some 63, _, _, _, _, _⟩) (v := ?_) rfl (by kernel_rfl) (by kernel_rfl) (by kernel_rfl) (fun _ _ _ h => h) (Or.inl ⟨by kernel_rfl, ?_⟩) (by assumption) ?_
          rotate_left 1
          focus (intro w' hSw; (try dsimp only at hSw); go_simp; (try with_reducible rfl))
          try simp only [Act.put, List.setIfInBounds_toArray, List.set_cons_zero, List.set_cons_succ]
          refine wpAnyH_take (i := 9) (oi := ⟨some 64, _, _, _, _, _⟩) (v := ?_) rfl (by kernel_rfl) (by kernel_rfl) (by kernel_rfl) (fun _ _ _ h => h) (Or.inl ⟨by kernel_rfl, ?_⟩) (by assumption) ?_
          rotate_left 1
          focus (intro w' hSw; (try dsimp only at hSw); go_simp; (try with_reducible rfl))
          try simp only [Act.put, List.setIfInBounds_toArray, List.set_cons_zero, List.set_cons_succ]
          refine wpAnyH_take (i := 10) (oi := ⟨some 65, _, _, _, _, _⟩) (v := ?_) rfl (by kernel_rfl) (by kernel_rfl) (by kernel_rfl) (fun _ _ _ h => h) (Or.inl ⟨by kernel_rfl, ?_⟩) (by assumption) ?_
          rotate_left 1
          focus (intro w' hSw; (try dsimp only at hSw); go_simp; (try with_reducible rfl))
          try simp only [Act.put, List.setIfInBounds_toArray, List.set_cons_zero, List.set_cons_succ]
          refine wpAnyH_take (i := 11) (oi := ⟨some 66, _, _, _, _, _⟩) (v := ?_) rfl (by kernel_rfl) (by kernel_rfl) (by kernel_rfl) (fun _ _ _ h => h) (Or.inl ⟨by kernel_rfl, ?_⟩) (by assumption) ?_
          rotate_left 1
          focus (intro w' hSw; (try dsimp only at hSw); go_simp; (try with_reducible rfl))
          try simp only [Act.put, List.setIfInBounds_toArray, List.set_cons_zero, List.set_cons_succ]
          refine wpAnyH_take (i := 12) (oi := ⟨some 67, _, _, _, _, _⟩) (v := ?_) rfl (by kernel_rfl) (by kernel_rfl) (by kernel_rfl) (fun _ _ _ h => h) (Or.inl ⟨by kernel_rfl, ?_⟩) (by assumption) ?_
          rotate_left 1
          focus (intro w' hSw; (try dsimp only at hSw); go_simp; (try with_reducible rfl))
          try simp only [Act.put, List.setIfInBounds_toArray, List.set_cons_zero, List.set_cons_succ]
          refine wpAnyH_take (i := 13) (oi := ⟨some 68, _, _, _, _, _⟩) (v := ?_) rfl (by kernel_rfl) (by kernel_rfl) (by kernel_rfl) (fun _ _ _ h => h) (Or.inl ⟨by kernel_rfl, ?_⟩) (by assumption) ?_
          rotate_left 1
          focus (intro w' hSw; (try dsimp only at hSw); go_simp; (try with_reducible rfl))
          try simp only [Act.put, List.setIfInBounds_toArray, List.set_cons_zero, List.set_cons_succ]
          refine wpAnyH_take (i := 14) (oi := ⟨some 69, _, _, _, _, _⟩) (v := ?_) rfl (by kernel_rfl) (by kernel_rfl) (by kernel_rfl) (fun _ _ _ h => h) (Or.inl ⟨by kernel_rfl, ?_⟩) (by assumption) ?_
          rotate_left 1
          focus (intro w' hSw; (try dsimp only at hSw); go_simp; (try with_reducible rfl))
          try simp only [Act.put, List.setIfInBounds_toArray, List.set_cons_zero, List.set_cons_succ]
          refine wpAnyH_take (i := 15) (oi := ⟨some 70, _, _, _, _, _⟩) (v := ?_) rfl (by kernel_rfl) (by kernel_rfl) (by kernel_rfl) (fun _ _ _ h => h) (Or.inl ⟨by kernel_rfl, ?_⟩) (by assumption) ?_
          rotate_left 1
          focus (intro w' hSw; (try dsimp only at hSw); go_simp; (try with_reducible rfl))
          try simp only [Act.put, List.setIfInBounds_toArray, List.set_cons_zero, List.set_cons_succ]
          refine wpAnyH_take (i := 16) (oi := ⟨some 71, _, _, _, _, _⟩) (v := ?_) rfl (by kernel_rfl) (by kernel_rfl) (by kernel_rfl) (fun _ _ _ h => h) (Or.inl ⟨by kernel_rfl, ?_⟩) (by assumption) ?_
          rotate_left 1
          focus (intro w' hSw; (try dsimp only at hSw); go_simp; (try with_reducible rfl))
          try simp only [Act.put, List.setIfInBounds_toArray, List.set_cons_zero, List.set_cons_succ]
          refine wpAnyH_take (i := 17) (oi := ⟨some 72, _, _, _, _, _⟩) (v := ?_) rfl (by kernel_rfl) (by kernel_rfl) (by kernel_rfl) (fun _ _ _ h => h) (Or.inl ⟨by kernel_rfl, ?_⟩) (by assumption) ?_
          rotate_left 1
          focus (intro w' hSw; (try dsimp only at hSw); go_simp; (try with_reducible rfl))
          try simp only [Act.put, List.setIfInBounds_toArray, List.set_cons_zero, List.set_cons_succ]
          refine wpAnyH_take (i := 18) (oi := ⟨some 73, _, _, _, _, _⟩) (v := ?_) rfl (by kernel_rfl) (by kernel_rfl) (by kernel_rfl) (fun _ _ _ h => h) (Or.inl ⟨by kernel_rfl, ?_⟩) (by assumption) ?_
          rotate_left 1
          focus (intro w' hSw; (try dsimp only at hSw); go_simp; (try with_reducible rfl))
          try simp only [Act.put, List.setIfInBounds_toArray, List.set_cons_zero, List.set_cons_succ]
          refine wpAnyH_take (i := 19) (oi := ⟨some 74, _, _, _, _, _⟩) (v := ?_) rfl (by kernel_rfl) (by kernel_rfl) (by kernel_rfl) (fun _ _ _ h => h) (Or.inl ⟨by kernel_rfl, ?_⟩) (by assumption) ?_
          rotate_left 1
          focus (intro w' hSw; (try dsimp only at hSw); go_simp; (try with_reducible rfl))
          try simp only [Act.put, List.setIfInBounds_toArray, List.set_cons_zero, List.set_cons_succ]
          refine wpAnyH_take (i := 20) (oi := ⟨some 75, _, _, _, _, _⟩) (v := ?_) rfl (by kernel_rfl) (by kernel_rfl) (by kernel_rfl) (fun _ _ _ h => h) (Or.inl ⟨by kernel_rfl, ?_⟩) (by assumption) ?_
          rotate_left 1
          focus (intro w' hSw; (try dsimp only at hSw); go_simp; (try with_reducible rfl))
          try simp only [Act.put, List.setIfInBounds_toArray, List.set_cons_zero, List.set_cons_succ]
          refine wpAnyH_take (i := 21) (oi := ⟨some 76, _, _, _, _, _⟩) (v := ?_) rfl (by kernel_rfl) (by kernel_rfl) (by kernel_rfl) (fun _ _ _ h => h) (Or.inl ⟨by kernel_rfl, ?_⟩) (by assumption) ?_
          rotate_left 1
          focus (intro w' hSw; (try dsimp only at hSw); go_simp; (try with_reducible rfl))
          try simp only [Act.put, List.setIfInBounds_toArray, List.set_cons_zero, List.set_cons_succ]
          refine wpAnyH_take (i := 22) (oi := ⟨some 77, _, _, _, _, _⟩) (v := ?_) rfl (by kernel_rfl) (by kernel_rfl) (by kernel_rfl) (fun _ _ _ h => h) (Or.inl ⟨by kernel_rfl, ?_⟩) (by assumption) ?_
          rotate_left 1
          focus (intro w' hSw; (try dsimp only at hSw); go_simp; (try with_reducible rfl))
          try simp only [Act.put, List.setIfInBounds_toArray, List.set_cons_zero, List.set_cons_succ]
          refine wpAnyH_take (i := 23) (oi := ⟨some 78, _, _, _, _, _⟩) (v := ?_) rfl (by kernel_rfl) (by kernel_rfl) (by kernel_rfl) (fun _ _ _ h => h) (Or.inl ⟨by kernel_rfl, ?_⟩) (by assumption) ?_
          rotate_left 1
          focus (intro w' hSw; (try dsimp only at hSw); go_simp; (try with_reducible rfl))
          try simp only [Act.put, List.setIfInBounds_toArray, List.set_cons_zero, List.set_cons_succ]
          refine wpAnyH_take (i := 24) (oi := ⟨some 79, _, _, _, _, _⟩) (v := ?_) rfl (by kernel_rfl) (by kernel_rfl) (by kernel_rfl) (fun _ _ _ h => h) (Or.inl ⟨by kernel_rfl, ?_⟩) (by assumption) ?_
          rotate_left 1
          focus (intro w' hSw; (try dsimp only at hSw); go_simp; (try with_reducible rfl))
          try simp only [Act.put, List.setIfInBounds_toArray, List.set_cons_zero, List.set_cons_succ]
          refine wpAnyH_take (i := 25) (oi := ⟨some 80, _, _, _, _, _⟩) (v := ?_) rfl (by kernel_rfl) (by kernel_rfl) (by kernel_rfl) (fun _ _ _ h => h) (Or.inl ⟨by kernel_rfl, ?_⟩) (by assumption) ?_
          rotate_left 1
          focus (intro w' hSw; (try dsimp only at hSw); go_simp; (try with_reducible rfl))
          try simp only [Act.put, List.setIfInBounds_toArray, List.set_cons_zero, List.set_cons_succ]
          refine wpAnyH_take (i := 26) (oi := ⟨some 81, _, _, _, _, _⟩) (v := ?_) rfl (by kernel_rfl) (by kernel_rfl) (by kernel_rfl) (fun _ _ _ h => h) (Or.inl ⟨by kernel_rfl, ?_⟩) (by assumption) ?_
          rotate_left 1
          focus (intro w' hSw; (try dsimp only at hSw); go_simp; (try with_reducible rfl))
          try simp only [Act.put, List.setIfInBounds_toArray, List.set_cons_zero, List.set_cons_succ]
          refine wpAnyH_take (i := 27) (oi := ⟨some 82, _, _, _, _, _⟩) (v := ?_) rfl (by kernel_rfl) (by kernel_rfl) (by kernel_rfl) (fun _ _ _ h => h) (Or.inl ⟨by kernel_rfl, ?_⟩) (by assumption) ?_
          rotate_left 1
          focus (intro w' hSw; (try dsimp only at hSw); go_simp; (try with_reducible rfl))
          try simp only [Act.put, List.setIfInBounds_toArray, List.set_cons_zero, List.set_cons_succ]
          refine wpAnyH_take (i := 28) (oi := ⟨some 83, _, _, _, _, _⟩) (v := ?_) rfl (by kernel_rfl) (by kernel_rfl) (by kernel_rfl) (fun _ _ _ h => h) (Or.inl ⟨by kernel_rfl, ?_⟩) (by assumption) ?_
          rotate_left 1
          focus (intro w' hSw; (try dsimp only at hSw); go_simp; (try with_reducible rfl))
          try simp only [Act.put, List.setIfInBounds_toArray, List.set_cons_zero, List.set_cons_succ]
          refine wpAnyH_take (i := 29) (oi := ⟨some 84, _, _, _, _, _⟩) (v := ?_) rfl (by kernel_rfl) (by kernel_rfl) (by kernel_rfl) (fun _ _ _ h => h) (Or.inl ⟨by kernel_rfl, ?_⟩) (by assumption) ?_
          rotate_left 1
          focus (intro w' hSw; (try dsimp only at hSw); go_simp; (try with_reducible rfl))
          try simp only [Act.put, List.setIfInBounds_toArray, List.set_cons_zero, List.set_cons_succ]
          refine wpAnyH_take (i := 30) (oi := ⟨some 85, _, _, _, _, _⟩) (v := ?_) rfl (by kernel_rfl) (by kernel_rfl) (by kernel_rfl) (fun _ _ _ h => h) (Or.inl ⟨by kernel_rfl, ?_⟩) (by assumption) ?_
          rotate_left 1
          focus (intro w' hSw; (try dsimp only at hSw); go_simp; (try with_reducible rfl))
          try simp only [Act.put, List.setIfInBounds_toArray, List.set_cons_zero, List.set_cons_succ]
          refine wpAnyH_ready (rs := [31]) (by kernel_rfl) (by simp) ?_
          refine AllReadyH.cons rfl (fun K hK => ?_) AllReadyH.nil
          go_simp
          go_at_call 52
          refine (HId.out _ (HB24.out.trans (HBv.out.mono HB24.out.size))).mono ?_
          rintro en v5 ⟨rfl, hv5⟩
          have hq5 := HBv.out.trans (hv5.mono HBv.out.size)
          clear hHeld
          refine hK.out _ _ (HSS.out _ hq5) (fun hHeld => ?_)
          clear hK
          refine wpAnyH_take (i := 32) (oi := ⟨some 87, _, _, _, _, _⟩) (v := ?_) rfl (by kernel_rfl) (by kernel_rfl) (by kernel_rfl) (fun _ _ _ h => h) (Or.inl ⟨by kernel_rfl, ?_⟩) (by assumption) ?_
          rotate_left 1
          focus (intro w' hSw; (try dsimp only at hSw); go_simp; (try with_reducible rfl))
          try simp only [Act.put, List.setIfInBounds_toArray, List.set_cons_zero, List.set_cons_succ]
          refine wpAnyH_take (i := 33) (oi := ⟨some 88, _, _, _, _, _⟩) (v := ?_) rfl (by kernel_rfl) (by kernel_rfl) (by kernel_rfl) (fun _ _ _ h => h) (Or.inl ⟨by kernel_rfl, ?_⟩) (by assumption) ?_
          rotate_left 1
          focus (intro w' hSw; (try dsimp only at hSw); go_simp; (try with_reducible rfl))
          try simp only [Act.put, List.setIfInBounds_toArray, List.set_cons_zero, List.set_cons_succ]
          refine wpAnyH_done (by kernel_rfl) ?_ _
          clear hHeld
          go_wp2_with fail
          go_meet
          case rel => exact ⟨rfl, Lib.hid hq5⟩
        case rest =>
          obtain ⟨rfl, HBx⟩ := hcut
          rename World => Wx
          have HB4x := Lib.hid (HB34.out.trans (HBx.out.mono HB34.out.size))
          have HB2x := Lib.hid (HB23.out.trans (HB4x.out.mono HB23.out.size))
          have HB1x := Lib.hid (HB14.out.trans (HBx.out.mono HB14.out.size))
          have ex := (HB4x.out.block _ (lt_of_some HX3.out)).trans HX3.out
          have es := (HB1x.out.block _ (lt_of_some HS.out)).trans HS.out
          have x1 := cell_of_blk ex 1
          have s0 := cell_of_blk es 0
          have s1 := cell_of_blk es 1
          clear ex es t4 t5 t6 HSS HBv HId
          by_cases hK2 : K = 2
          · have HR := Lib.hid (HRec.out hK2 Wx HB1x.out)
            subst hK2
            go_wp2_with fail
            refine HR.out.mono ?_
            rintro e v6 ⟨rfl, hv6⟩
            have HBn := Lib.hid (HB2x.out.trans (hv6.mono HB2x.out.size))
            clear hv6 HR
            go_wp2_with fail
            go_roundw
            case rel => exact ⟨k + 1, by go_num, by omega, HBn⟩
            case measure => simp [intOf]; omega
          · have g2 : (K == 2) = false := by rw [beq_eq_false_iff_ne]; exact hK2
            clear hK2
            go_wp2_with fail
            go_roundw
            case rel => exact ⟨k + 1, by go_num, by omega, HB2x⟩
            case measure => simp [intOf]; omega
    · obtain rfl : k = El.length := by omega
      have HFin := Lib.hid (HB1.out.trans ((HB2.out.trans (HB.out.mono HB2.out.size)).mono HB1.out.size))
      clear HB
      go_wp2_with fail
      go_ret
      exact ⟨rfl, HFin.out⟩
theorem all_any {R : List Nd} (hg : ∀ t ∈ R, allB t = true) (hK : ∀ t ∈ R, t.K = 2) (hk : ∀ d ∈ R, depth d < 16) (hR : R.length ≤ 64) (hct : ∀ x d, seen.At R x d → d.N.length ≤ 4096) (A : Option Addr) (c : Nat) (ad : Int) (L : List (Nat × Int)) (mx : Int) (hL : Falls L) :
    ∀ (k : Nat) (ns : List ByteArray) (E : List Nd), OwnW R ns → Along (D0 R) ns E → (∀ d ∈ E, d.K = 2) → (ns ≠ [] → E ≠ []) → (∀ n ∈ ns, NmD n) → (∀ d ∈ E, depth d < k) → AllC R A c ad L mx ns
  | 0, ns, E, h1, h2, h3, h4, h5, h6 => all_step hg hK hk hR hct A c ad L mx hL h1 h2 h3 h4 h5 fun s Q y S hQ hS _ _ => by
    have hy : y ∈ seenOf Q := by rw [hS]; exact List.mem_cons_self ..
    obtain ⟨d, hd, _⟩ := ent_kid hQ y (seenOf_sub Q y hy)
    exact absurd (h6 d hd) (Nat.not_lt_zero _)
  | k + 1, ns, E, h1, h2, h3, h4, h5, h6 => all_step hg hK hk hR hct A c ad L mx hL h1 h2 h3 h4 h5 fun s Q y S hQ hS hy2 hnm =>
    all_any hg hK hk hR hct A c ad L mx hL k (ns ++ [s]) (seenOf Q) (h1.snoc hnm.2 h2 hQ hS hy2) (h2.snoc hQ) (seen_dirs hS hy2) (fun _ => by rw [hS]; simp) (fun x hx => by
      rcases List.mem_append.1 hx with h | h
      · exact h5 x h
      · rw [List.mem_singleton.1 h]; exact hnm) (seen_depth hQ h6)
end Go.Proofs.YtkbhcncbpiimdaaGreatDoor.uni

namespace Go.Proofs.YtkbhcncbpiimdaaGreatDoor.uni
set_option maxRecDepth 100000
open Go.RowKit Go.Proofs.YtkbhcncbpiimdaaGreatDoor.words Go.Proofs.YtkbhcncbpiimdaaGreatDoor.ext Go.Proofs.YtkbhcncbpiimdaaGreatDoor.name Go.Proofs.YtkbhcncbpiimdaaGreatDoor.tre Go.Proofs.YtkbhcncbpiimdaaGreatDoor.stk Go.Proofs.YtkbhcncbpiimdaaGreatDoor.seen Go.Proofs.YtkbhcncbpiimdaaGreatDoor.wlk

theorem deep_16 {w : World} {B : Nat} {A : Option Addr} {T : List Nd} {rs : Nat → Raw} (hT : Trees w B A T rs) (hm : mayB T = true) : ∀ d ∈ T.reverse, depth d < 16 := fun d hd => by
  have htm : d ∈ T := List.mem_reverse.1 hd
  obtain ⟨i, hi⟩ := List.mem_iff_getElem?.1 htm
  obtain ⟨h1, h2⟩ := mayB_all hm d htm
  rw [tree_same h1 (hT i d hi).2.tame] at h2
  unfold refB at h2
  simp only [Bool.and_eq_true, decide_eq_true_eq] at h2
  omega
/-- Where a path leads that is followed, its own path leads, too. -/
theorem goes_again {R : List Nd} (hg : ∀ t ∈ R, allB t = true) (hK : ∀ t ∈ R, t.K = 2) (hk : ∀ d ∈ R, depth d < 16) {p : ByteArray} {ns : List ByteArray} {E : List Nd} {t : Tg} (hO : Goes R true p (.ok ns E)) (hH : Hold R t E) (hA : Along (D0 R) ns E) (hne : ns ≠ [] → E ≠ []) (hn : ∀ n ∈ ns, NmD n) : Goes R true (pathOf ns) (.ok ns E) := by
  have hL : ∃ ps, Leads R true [] ps 40 (.ok ns E) := by
    rcases hO with ⟨_, h⟩ | ⟨ps, _, h⟩
    · cases h
    · exact ⟨ps, h⟩
  obtain ⟨ps, hL⟩ := hL
  have h3 : ∀ d ∈ E, d.K ≠ 3 := fun d hd => by
    rcases hH with hH | ⟨_, _, d', rfl, _⟩
    · rw [hH.1 d hd]; decide
    · rw [List.mem_singleton.1 hd]
      exact leads_nolink hg hK hL (AllD.nil hK) ns d' [] rfl
  exact own_goes (leads_true (own_leads hL (own_nil R) ns E 40 rfl) ns E rfl h3) hn (way_len hk hA hne)
/-- What Do answers to ReadAt. -/
def RdC (A : Option Addr) (c : Nat) (n : Int) (p : ByteArray) (o m : Int) (L : Nat) (ae ak az aw : Int) (ax : List UInt8) (w : World) : Prop := ∀ w' : World, Below w.heap.size w w' → Calls Tryz.prog 16 #[.agg #[.slice A L c, .int .i64 n], .agg #[.int .i64 4, .string p, .int .i64 o, .int .i64 m, .int .i64 0, .string ⟨#[]⟩]] w' fun e w'' => (∃ x : ByteArray, e = .returned (resV ae ak az aw x) ∧ x.data.toList = ax) ∧ Below w'.heap.size w' w''
set_option maxHeartbeats 12800000 in
theorem law_paths (A : Option Addr) (c : Nat) (T : List Nd) (rs : Nat → Raw) (p : ByteArray) (f : Bool) (o m mx : Int) (w : World) (hT : Trees w w.heap.size A T rs) (hmx : w.cell? ⟨0, 0, none⟩ = some (.int .i64 mx)) (hps : p.size ≤ 140737488355328)
    (ho1 : -9223372036854775808 ≤ o) (ho2 : o ≤ 9223372036854775807) (hm1 : -9223372036854775808 ≤ m) (hm2 : m ≤ 9223372036854775807) :
    Calls Tryz.prog 5 #[.agg #[.slice A T.length c, .string p, .bool f], .int .i64 o, .int .i64 m] w fun e w' => e = .returned (.bool true) ∧ Below w.heap.size w w' := by
  obtain ⟨W1, hW1⟩ : ∃ W1, W1 = w.alloc (.cells #[.slice A T.length c, .string p, .bool f] 65) := ⟨_, rfl⟩
  have hb1 : Below w.heap.size w W1 := by rw [hW1]; exact (Below.refl _ _).alloc (Nat.le_refl _) _
  have HC1 := Lib.hid (show W1.heap[w.heap.size]? = some (.cells #[.slice A T.length c, .string p, .bool f] 65 (0, 0)) by rw [hW1]; exact heap_alloc_new w _)
  have HT := Lib.hid (hT.later hb1)
  have HM := Lib.hid (below_cell hmx hb1)
  have HB1 := Lib.hid hb1
  have HSp := Lib.hid (onestack_any mx W1 HM.out)
  have HBd := Lib.hid (And.intro ho1 (And.intro ho2 (And.intro hm1 hm2)))
  have HW1 := Lib.hid hW1
  clear hT hmx hW1 hb1 ho1 ho2 hm1 hm2
  go_enter Tryz.func5, Tryz.ntmps5
  go_upto_region 1 with fail
  rw [← HW1.out]
  clear HW1
  go_wp2_with fail
  refine HSp.out.mono ?_
  rintro e w2 ⟨rfl, hb2⟩
  have HB2 := Lib.hid hb2
  have HMa := Lib.hid (may_any A c T rs w2 (HT.out.later hb2))
  have e1 := (hb2.block _ (lt_of_some HC1.out)).trans HC1.out
  have c0 : w2.cell? ⟨w.heap.size, 0, none⟩ = some (.slice A T.length c) := cell_of_blk e1 0
  clear hb2 HSp e1
  go_wp2_with fail
  refine HMa.out.mono ?_
  rintro e w3 ⟨rfl, hb3⟩
  have HB3 := Lib.hid (HB2.out.trans (hb3.mono HB2.out.size))
  have e1 := (HB3.out.block _ (lt_of_some HC1.out)).trans HC1.out
  clear c0
  have c0 : w3.cell? ⟨w.heap.size, 0, none⟩ = some (.slice A T.length c) := cell_of_blk e1 0
  have c1 : w3.cell? ⟨w.heap.size, 1, none⟩ = some (.string p) := cell_of_blk e1 1
  clear hb3 HMa e1
  have HF3 := Lib.hid (HB1.out.trans (HB3.out.mono HB1.out.size))
  rcases hmay : mayB T with _ | _
  · rw [mayI_no hmay]
    clear hmay
    go_wp2_with fail
    go_ret
    exact ⟨rfl, HF3.out⟩
  rw [mayI_yes hmay]
  have HMay := Lib.hid hmay
  have hT8 := mayB_len hmay
  clear hmay
  by_cases hn : 1000 < p.size
  · have g : (1000 : Int) < (p.size : Int) := by omega
    go_wp2_with fail
    go_ret
    exact ⟨rfl, HF3.out⟩
  have g : ¬ (1000 : Int) < (p.size : Int) := by omega
  by_cases hm3 : (3000 : Int) < m
  · go_wp2_with fail
    go_ret
    exact ⟨rfl, HF3.out⟩
  have HSt := Lib.hid (stack_any A c T rs mx w3 (HT.out.later HB3.out) (below_cell HM.out HB3.out))
  go_wp2_with fail
  refine HSt.out.mono ?_
  rintro e w4 ⟨hst, hb4⟩
  rcases hst with ⟨_, A', c', L, rfl, hok⟩ | ⟨hno, _⟩
  rotate_left 1
  · rw [HMay.out] at hno; cases hno
  obtain ⟨W5, hW5⟩ : ∃ W5, W5 = w4.alloc (.cells #[.slice A' T.length c', .int .i64 (T.length : Int)] 27) := ⟨_, rfl⟩
  have hb5 : Below w4.heap.size w4 W5 := by rw [hW5]; exact (Below.refl _ _).alloc (Nat.le_refl _) _
  have HK := Lib.hid (show W5.heap[w4.heap.size]? = some (.cells #[.slice A' T.length c', .int .i64 (T.length : Int)] 27 (0, 0)) by rw [hW5]; exact heap_alloc_new w4 _)
  have hb15 : Below W1.heap.size W1 W5 := HB3.out.trans ((hb4.trans (hb5.mono hb4.size)).mono HB3.out.size)
  obtain ⟨R, hR⟩ : ∃ R, R = T.reverse := ⟨_, rfl⟩
  have hstM := StkOk.stkM (hok.later hb5)
  have hlen := hok.len
  have hfine := (fine_of HT.out HMay.out).rev
  have hfew := kids_few HT.out HMay.out
  have h16 := deep_16 HT.out HMay.out
  rw [← hR] at hstM hfine hfew h16
  have hRl : R.length = T.length := by rw [hR, List.length_reverse]
  have hdeep : ∀ d ∈ R, depth d < 100 := fun d hd => by have := h16 d hd; omega
  have hfall : Falls L := fun j x hx => by rw [hlen]; exact (hok.brs j x hx).1
  obtain ⟨O, hO⟩ := Goes.some (f := true) hfine.all p
  obtain ⟨l, hl⟩ := lev_o R O
  obtain ⟨⟨ae, ak, az, aw, ax⟩, ha⟩ : ∃ a, a = ansM (R.length : Int) l O 4 o m := ⟨_, rfl⟩
  have HAl : Hid (Calls Tryz.prog 24 #[.agg #[.slice A' T.length c', .int .i64 (T.length : Int)], .string ⟨#[47]⟩] W5 fun e w' => e = .returned (.bool true) ∧ Below W5.heap.size W5 w') := Lib.hid (by
    have h1 := all_any hfine.all hfine.dirs h16 (by omega) hfew A' c' (T.length : Int) L mx hfall 16 [] (D0 R) (own_nil R) rfl (fun d hd => hfine.dirs d (List.mem_of_mem_take hd)) (fun h => absurd rfl h) (fun n h => by cases h) (fun d hd => h16 d (List.mem_of_mem_take hd)) W5 hstM (below_cell HM.out hb15)
    rw [hlen] at h1
    exact h1)
  have HWk : Hid (∀ w' : World, Below W5.heap.size W5 w' → Calls Tryz.prog 20 #[.agg #[.slice A' T.length c', .int .i64 (T.length : Int)], .string p, .bool true] w' fun e w'' => (∃ (St : ByteArray) (Kt lt it : Int) (At : Option Addr) (nt ct : Nat) (er : Int), e = .returned (.tuple #[.agg #[.string St, .int .i64 Kt, .int .i64 lt, .int .i64 it, .slice At nt ct], .int .i64 er]) ∧
      ((er ≠ 0 ∧ O = .err er) ∨ (er = 0 ∧ RdC A' c' (T.length : Int) St o m T.length ae ak az aw ax W5))) ∧ Below w'.heap.size w' w'') := Lib.hid fun w' hb => by
    have hb' := hb15.trans (hb.mono hb15.size)
    have h1 := walk_any hfine.all hfine.dirs hdeep (by omega) A' c' (T.length : Int) L mx p true O hO w' (hstM.later hb) (below_cell HM.out hb') (by omega)
    rw [hlen] at h1
    refine h1.mono fun e w'' H => ⟨?_, H.2⟩
    obtain ⟨⟨j, g1, g2, _, _, rfl⟩ | ⟨t, At, ct, ns, E, g1, rfl, _, _, _, gH, gS, gn, _, gA, gne, _⟩, _⟩ := H
    · exact ⟨_, _, _, _, _, _, _, _, rfl, .inl ⟨g2, g1⟩⟩
    · refine ⟨_, _, _, _, _, _, _, _, rfl, .inr ⟨rfl, fun w3 hb3 => ?_⟩⟩
      have hO2 : Goes R (folB 4) (pathOf ns) O := by
        rw [g1] at hO ⊢
        exact goes_again hfine.all hfine.dirs h16 hO gH gA gne gn
      have hz := way_size gn (way_len h16 gA gne)
      have h2 := do_all hfine.all hfine.dirs hdeep (by omega) A' c' (T.length : Int) L mx 4 t.S o m 0 ⟨#[]⟩ w3 (hstM.later hb3) hfall (below_cell HM.out (hb15.trans (hb3.mono hb15.size))) (by rw [gS]; omega) HBd.out.1 HBd.out.2.1 HBd.out.2.2.1 HBd.out.2.2.2 (by rw [gS]; exact hO2) hl
      rw [hlen, ← ha] at h2
      exact h2
  have HDo : Hid (RdC A' c' (T.length : Int) p o m T.length ae ak az aw ax W5) := Lib.hid fun w' hb => by
    have hb' := hb15.trans (hb.mono hb15.size)
    have h1 := do_all hfine.all hfine.dirs hdeep (by omega) A' c' (T.length : Int) L mx 4 p o m 0 ⟨#[]⟩ w' (hstM.later hb) hfall (below_cell HM.out hb') (by omega) HBd.out.1 HBd.out.2.1 HBd.out.2.2.1 HBd.out.2.2.2 (O := O) hO hl
    rw [hlen, ← ha] at h1
    exact h1
  have HAe : Hid ((⟨ae, ak, az, aw, ax⟩ : An) = ansM (R.length : Int) l O 4 o m) := Lib.hid ha
  have HB15 := Lib.hid (HB1.out.trans (hb15.mono HB1.out.size))
  have HB5 := Lib.hid hb15
  have HW5 := Lib.hid hW5.symm
  have s0 := cell_of_blk HK.out 0
  have s1 := cell_of_blk HK.out 1
  clear hb4 hok hW5 hb5 hb15 hR hstM hlen hfine hfew h16 hRl hdeep hfall hO hl ha HSt c0 c1
  go_upto_region 6 with fail
  rw [HW5.out]
  clear HW5
  go_wp2_with fail
  refine HAl.out.mono ?_
  rintro e w6 ⟨rfl, hb6⟩
  have HB6 := Lib.hid hb6
  have es := (hb6.block _ (lt_of_some HK.out)).trans HK.out
  have ec := ((HB5.out.trans (hb6.mono HB5.out.size)).block _ (lt_of_some HC1.out)).trans HC1.out
  clear s0 s1
  have s0 := cell_of_blk es 0
  have s1 := cell_of_blk es 1
  have c1 : w6.cell? ⟨w.heap.size, 1, none⟩ = some (.string p) := cell_of_blk ec 1
  clear hb6 HAl es ec
  go_wp2_with fail
  refine (HWk.out w6 HB6.out).mono ?_
  rintro e w7 ⟨⟨St, Kt, lt, it, At, nt, ct, er, rfl, hcs⟩, hb7⟩
  obtain ⟨W8, hW8⟩ : ∃ W8, W8 = w7.alloc (.cells #[.string St, .int .i64 Kt, .int .i64 lt, .int .i64 it, .slice At nt ct] 58) := ⟨_, rfl⟩
  have hb78 : Below w7.heap.size w7 W8 := by rw [hW8]; exact (Below.refl _ _).alloc (Nat.le_refl _) _
  have HX8 := Lib.hid (show W8.heap[w7.heap.size]? = some (.cells #[.string St, .int .i64 Kt, .int .i64 lt, .int .i64 it, .slice At nt ct] 58 (0, 0)) by rw [hW8]; exact heap_alloc_new w7 _)
  have HB8 := Lib.hid (HB6.out.trans ((hb7.trans (hb78.mono hb7.size)).mono HB6.out.size))
  have HCs := Lib.hid hcs
  have HD8 := Lib.hid (HDo.out W8 HB8.out)
  have es := (HB8.out.block _ (lt_of_some HK.out)).trans HK.out
  have ec := ((HB5.out.trans (HB8.out.mono HB5.out.size)).block _ (lt_of_some HC1.out)).trans HC1.out
  have HW8 := Lib.hid hW8.symm
  clear s0 s1 c1
  have s0 := cell_of_blk es 0
  have s1 := cell_of_blk es 1
  have c1 : W8.cell? ⟨w.heap.size, 1, none⟩ = some (.string p) := cell_of_blk ec 1
  clear hb7 hb78 hcs es ec hW8 HWk HDo
  go_upto_region 9 with fail
  rw [HW8.out]
  clear HW8
  go_wp2_with fail
  refine HD8.out.mono ?_
  rintro e w9 ⟨⟨x, rfl, hx⟩, hb9⟩
  obtain ⟨V, hV⟩ : ∃ V, V = w9.alloc (.cells #[.int .i64 ae, .int .i64 ak, .int .i64 az, .int .i64 aw, .int .i64 0, .string x, .slice none 0 0, .bool false] 44) := ⟨_, rfl⟩
  have hb9V : Below w9.heap.size w9 V := by rw [hV]; exact (Below.refl _ _).alloc (Nat.le_refl _) _
  have HXV := Lib.hid (show V.heap[w9.heap.size]? = some (.cells #[.int .i64 ae, .int .i64 ak, .int .i64 az, .int .i64 aw, .int .i64 0, .string x, .slice none 0 0, .bool false] 44 (0, 0)) by rw [hV]; exact heap_alloc_new w9 _)
  have HB8V := Lib.hid (hb9.trans (hb9V.mono hb9.size))
  have HBV := Lib.hid (HB8.out.trans (HB8V.out.mono HB8.out.size))
  have HXx := Lib.hid hx
  have HV := Lib.hid hV.symm
  have r0 := cell_of_blk HXV.out 0
  have HF := Lib.hid (HB15.out.trans (HBV.out.mono HB15.out.size))
  clear hb9 hb9V hx hV HD8 s0 s1 c1
  unfold resV
  rcases HCs.out with ⟨hne, hOe⟩ | ⟨rfl, hrd⟩
  · have ge : (er != 0) = true := by rw [bne_iff_ne]; exact hne
    have h9 := HAe.out
    by_cases hb : badB 4 o m = true
    · rw [ansM_no (.inr hb)] at h9
      injection h9 with h9 z1 z2 z3 z4
      clear z1 z2 z3 z4
      subst h9
      have hom : o < 0 ∨ m < 0 := by
        unfold badB at hb
        simp at hb
        omega
      clear hb hOe hne
      by_cases h1 : (1 : Int) = er
      · have g1 : ((1 : Int) == er) = true := by rw [← h1]; rfl
        clear h1
        go_upto_region 10 with fail
        rw [HV.out]
        go_wp2_with fail
        go_ret
        exact ⟨rfl, HF.out⟩
      have g1 : ((1 : Int) == er) = false := by rw [beq_eq_false_iff_ne]; exact h1
      clear h1
      by_cases h2 : o < 0
      · clear hom
        go_upto_region 10 with fail
        rw [HV.out]
        go_wp2_with fail
        go_ret
        exact ⟨rfl, HF.out⟩
      · have h3 : m < 0 := by omega
        clear hom
        go_upto_region 10 with fail
        rw [HV.out]
        go_wp2_with fail
        go_ret
        exact ⟨rfl, HF.out⟩
    · have hb' : badB 4 o m = false := by
        rcases h : badB 4 o m with _ | _
        · rfl
        · exact absurd h hb
      rw [ansM_yes rfl hb', hOe] at h9
      injection h9 with h9 z1 z2 z3 z4
      clear z1 z2 z3 z4 hb hb' hOe hne
      subst h9
      have g1 : (ae == ae) = true := beq_self_eq_true _
      go_upto_region 10 with fail
      rw [HV.out]
      go_wp2_with fail
      go_ret
      exact ⟨rfl, HF.out⟩
  have HRd := Lib.hid (hrd V HBV.out)
  have es := (HBV.out.block _ (lt_of_some HK.out)).trans HK.out
  have et := (HB8V.out.block _ (lt_of_some HX8.out)).trans HX8.out
  have s0 := cell_of_blk es 0
  have s1 := cell_of_blk es 1
  have t0 := cell_of_blk et 0
  clear es et hrd r0
  go_upto_region 10 with fail
  rw [HV.out]
  clear HV
  go_wp2_with fail
  refine HRd.out.mono ?_
  rintro e v1 ⟨⟨x2, rfl, hx2⟩, hv1⟩
  obtain rfl : x2 = x := text_eq (hx2.trans HXx.out.symm)
  obtain ⟨V2, hV2⟩ : ∃ V2, V2 = v1.alloc (.cells #[.int .i64 ae, .int .i64 ak, .int .i64 az, .int .i64 aw, .int .i64 0, .string x2, .slice none 0 0, .bool false] 44) := ⟨_, rfl⟩
  have hb2V : Below v1.heap.size v1 V2 := by rw [hV2]; exact (Below.refl _ _).alloc (Nat.le_refl _) _
  have hx2V : V2.heap[v1.heap.size]? = some (.cells #[.int .i64 ae, .int .i64 ak, .int .i64 az, .int .i64 aw, .int .i64 0, .string x2, .slice none 0 0, .bool false] 44 (0, 0)) := by rw [hV2]; exact heap_alloc_new v1 _
  have hbV2 := hv1.trans (hb2V.mono hv1.size)
  have ex := (hbV2.block _ (lt_of_some HXV.out)).trans HXV.out
  have r0 := cell_of_blk ex 0
  have r5 := cell_of_blk ex 5
  have q0 := cell_of_blk hx2V 0
  have q5 := cell_of_blk hx2V 5
  have HF2 := Lib.hid (HF.out.trans (hbV2.mono HF.out.size))
  have HV2 := Lib.hid hV2.symm
  have g1 : (ae == ae) = true := beq_self_eq_true _
  have g2 : (x2.toList == x2.toList) = true := beq_self_eq_true _
  clear hv1 hx2 hb2V hx2V hbV2 ex hV2 HRd s0 s1 t0
  unfold resV
  go_upto_region 13 with fail
  rw [HV2.out]
  go_wp2_with fail
  go_ret
  exact ⟨rfl, HF2.out⟩
end Go.Proofs.YtkbhcncbpiimdaaGreatDoor.uni
