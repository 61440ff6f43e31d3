/- A step of the reference along parts. Condition: what it is given lies in memory. What the reference answers of any path: where it leads. Condition: the trees lie in memory. -/
import Derived.Test.YtkbhcncbpiimdaaGreatDoorJXE
namespace Go.Proofs.YtkbhcncbpiimdaaGreatDoor.wlk
set_option maxRecDepth 100000
open Go.RowKit Go.Proofs.YtkbhcncbpiimdaaGreatDoor.words Go.Proofs.YtkbhcncbpiimdaaGreatDoor.ext Go.Proofs.YtkbhcncbpiimdaaGreatDoor.name Go.Proofs.YtkbhcncbpiimdaaGreatDoor.tre Go.Proofs.YtkbhcncbpiimdaaGreatDoor.stk Go.Proofs.YtkbhcncbpiimdaaGreatDoor.seen

/-- How it goes on, of what is seen. -/
inductive Stp (R : List Nd) (f : Bool) (ns : List ByteArray) (p : ByteArray) (ps : List ByteArray) (h : Nat) (o : AtO) (S : List Nd) : Prop
  | none : S = [] → o = .err 2 → Stp R f ns p ps h o S
  | dir (d : Nd) (S' : List Nd) : S = d :: S' → d.K = 2 → AlC R f (ns ++ [p]) ps h o → Stp R f ns p ps h o S
  | loop (d : Nd) (S' : List Nd) : S = d :: S' → d.K = 3 → (f = true ∨ 0 < ps.length) → h = 0 → o = .err 4 → Stp R f ns p ps h o S
  | hop (d : Nd) (S' : List Nd) (qs : List ByteArray) (h' : Nat) : S = d :: S' → d.K = 3 → (f = true ∨ 0 < ps.length) → h = h' + 1 → parts d.T.data.toList = some (qs.map fun y => y.data.toList) → d.T.size ≤ 256 →
      AlC R f (if (d.T.data.toList.head? == some 47) = true then [] else ns) (qs ++ ps) h' o → Stp R f ns p ps h o S
  | not (d : Nd) (S' : List Nd) : S = d :: S' → d.K ≠ 2 → ¬ (d.K = 3 ∧ (f = true ∨ 0 < ps.length)) → 0 < ps.length → o = .err 3 → Stp R f ns p ps h o S
  | leaf (d : Nd) (S' : List Nd) : S = d :: S' → d.K ≠ 2 → ¬ (d.K = 3 ∧ (f = true ∨ 0 < ps.length)) → ps = [] → o = .ok (ns ++ [p]) (d :: S') → Stp R f ns p ps h o S
theorem strs_one (N : List ByteArray) : ∀ u ∈ N.map Value.string, u.oneCell' = true := fun u hu => by
  obtain ⟨x, _, rfl⟩ := List.mem_map.1 hu
  rfl
theorem one_lies (w : World) (p : ByteArray) : Lies (w.alloc (.cells #[.string p] 9)) (some ⟨w.heap.size, 0, none⟩) [.string p] := fun j u hj => by
  rcases j with _ | j
  · obtain rfl : Value.string p = u := by simpa using hj
    exact ⟨_, 0, rfl, lt_of_some (heap_alloc_new w _), cell_of_blk (heap_alloc_new w _) 0⟩
  · simp at hj
set_option maxHeartbeats 25600000 in
theorem al_step {R : List Nd} (hg : ∀ t ∈ R, allB t = true) (hl : R.length ≤ 64) {f : Bool} {ns : List ByteArray} {p : ByteArray} {ps : List ByteArray} {h : Nat} {o : AtO} {D Q : List Nd} (hp : p ≠ dd) (hD : Along (D0 R) ns D) (hQ : EntN p D Q) (hS : Stp R f ns p ps h o (seenOf Q)) : AlC R f ns (p :: ps) h o := fun A c rs An cn Ap cp w hI hF => by
  obtain ⟨is, his, sz0, sz1, sz2⟩ := info_parts infoStr
  obtain ⟨W1, hW1⟩ : ∃ W1, W1 = w.alloc (bx3 none none 0 0 0 0 0) := ⟨_, rfl⟩
  have hb1 : Below w.heap.size w W1 := by rw [hW1]; exact (Below.refl _ _).alloc (Nat.le_refl _) _
  have hx1 : W1.heap[w.heap.size]? = some (bx3 none none 0 0 0 0 0) := by rw [hW1]; exact new3 w
  have hI1 := hI.later hb1
  obtain ⟨b, off, Ap2, hcut⟩ := cut_any hI1.parts hI1.plen
  obtain rfl := hcut.eq
  have c0 := hcut.c0
  have hc1 := hcut.cut
  have hgd := hD.good (Good.root hg)
  have hDl : D.length ≤ R.length := Nat.le_trans hD.len (D0_len R)
  have HH := Lib.hid (here_any hg A c rs An cn ns D hD W1 hI1.trees hI1.names hl (by have := hF.1; omega))
  have HR : Hid (∀ (A : Option Addr) (c : Nat) (rs : Nat → Raw) (w : World), Trees w w.heap.size A D rs → Calls Tryz.prog 89 #[.slice A D.length c, .string p] w (TreesOut (seenOf Q) w)) := Lib.hid fun A c rs w hT => refs_any hgd.asc hQ A c rs w hT (by omega)
  obtain ⟨S, hSe⟩ : ∃ S, S = seenOf Q := ⟨_, rfl⟩
  rw [← hSe] at hS HR
  have HX := Lib.hid hx1
  have HB1 := Lib.hid hb1
  have HI := Lib.hid hI1
  have HCt := Lib.hid hcut
  have HS := Lib.hid hS
  have HFw := Lib.hid hF
  have hnl : ns.length ≤ 100000 := by have := hF.1; omega
  have hpl : ps.length ≤ 100000 := by have := hF.1; rw [List.length_cons] at this; omega
  have hd : (p.toList == [46, 46]) = false := by
    rw [beq_eq_false_iff_ne]
    exact fun e => hp (heap.toList_inj (e.trans dd_list.symm))
  have l0 : (0 : Int) < ((ps.length : Int) + 1) := by omega
  rw [List.length_cons]
  unfold bx3 at hW1
  have HW1 := Lib.hid hW1
  clear hI hI1 hx1 hb1 hW1 hcut hgd hDl hSe hS hF hD hQ hg hp
  go_enter Tryz.func87, Tryz.ntmps87
  go_upto_region 1 with fail
  rw [← HW1.out]
  clear HW1
  go_wp2_with fail
  refine HH.out.mono ?_
  rintro e w2 ⟨A2, c2, r2, rfl, hT2, hc2, hb2⟩
  have HA := Lib.hid (HR.out A2 c2 r2 w2 hT2)
  have HB2 := Lib.hid hb2
  clear HR HH hT2 hc2 hb2 c0 hd l0
  go_wp2_with fail
  refine HA.out.mono ?_
  rintro e w3 ⟨A3, c3, r3, rfl, hT3, hc3, hb3⟩
  have HB3 := Lib.hid (HB2.out.trans (hb3.mono HB2.out.size))
  have HT3 := Lib.hid hT3
  have HC3 := Lib.hid hc3
  clear HA HB2 hT3 hc3 hb3
  have hSc := HS.out
  rcases S with _ | ⟨d, S'⟩
  · have ho : o = .err 2 := by
      cases hSc with
      | none _ h2 => exact h2
      | dir _ _ h1 => cases h1
      | loop _ _ h1 => cases h1
      | hop _ _ _ _ h1 => cases h1
      | not _ _ h1 => cases h1
      | leaf _ _ h1 => cases h1
    subst ho
    rw [List.length_nil]
    obtain ⟨W9, hW9⟩ : ∃ W9, W9 = w3 := ⟨_, rfl⟩
    have HB9 : Hid (Below W1.heap.size W1 W9) := by rw [hW9]; exact HB3
    subst hW9
    clear hSc HS HT3 HC3
    have HP := Lib.hid ((show AtIn (.err 2) (.agg #[.slice none 0 0, .slice none 0 0, .int .i64 2]) W9 from rfl).put HX.out HB1.out HB9.out)
    have hg2 := (HB9.out.block _ (lt_of_some HX.out)).trans HX.out
    unfold bx3 at hg2
    have z0 := free_of_blk hg2 0
    have z1 := free_of_blk hg2 1
    have z2 := free_of_blk hg2 2
    have d0 : W9.cell? ⟨w.heap.size, 0, none⟩ = some (.slice none 0 0) := cell_of_blk hg2 0
    have d1 : W9.cell? ⟨w.heap.size, 1, none⟩ = some (.slice none 0 0) := cell_of_blk hg2 1
    have d2 : W9.cell? ⟨w.heap.size, 2, none⟩ = some (.int .i64 0) := cell_of_blk hg2 2
    clear hg2
    go_wp2_with fail
    obtain ⟨p0, p1, p2, HE⟩ := HP.out _ rfl
    unfold set3 at p0 p1 p2 HE
    exact bodyPost_ret (v := .agg #[.slice none 0 0, .slice none 0 0, .int .i64 2]) (by simp [results, Tryz.results87, go_sem, p0, p1, p2]) rfl HE
  have g0 : (((S'.length : Int) + 1) == 0) = false := by rw [beq_eq_false_iff_ne]; omega
  have g1 : (0 : Int) < (S'.length : Int) + 1 := by omega
  rw [List.length_cons]
  obtain ⟨W4, hW4⟩ : ∃ W4, W4 = w3.alloc (.cells #[] 9) := ⟨_, rfl⟩
  have hb4 : Below w3.heap.size w3 W4 := by rw [hW4]; exact (Below.refl _ _).alloc (Nat.le_refl _) _
  have HO4 : Hid (W4.ownsRow w3.heap.size 9 1 (.slice (some ⟨w3.heap.size, 0, none⟩) 0 0) 0 []) := Lib.hid (by rw [hW4]; exact World.ownsRow_made w3 #[] 0 (Nat.le_refl _) (by decide) rfl)
  have HB4 := Lib.hid hb4
  have HL4 := Lib.hid (row_lies ((HI.out.later (HB3.out.trans (hb4.mono HB3.out.size))).names))
  have HZn := Lib.hid HI.out.nnil
  have HW4 := Lib.hid hW4.symm
  clear hW4 hb4
  go_upto_region 14 with (first
    | (at_builtin; rw [HW4.out]; refine wpList_append_opt rfl (.tmp 55) (.tmp 56) 34 rfl w3.heap.size 9 is _ 1 16 Tryz.underlying34 his sz0 sz1 sz2 rfl (by omega) (.slice (some ⟨w3.heap.size, 0, none⟩) 0 0) 0 [] rfl HO4.out An ns.length cn (ns.map Value.string) HZn.out rfl (by simp) HL4.out (strs_one ns) (by simp only [maxLen]; omega) (by omega) HB4.out.size ?_; intro vr w5 hown hgrow; rw [Nat.zero_add, List.nil_append] at hown; obtain ⟨Ar, cr, rfl, _, _⟩ := tre.own_facts hown; have HB5 := Lib.hid (keep_grown HB4.out HO4.out hgrow (Nat.le_refl _) (Nat.le_refl _)); have HO5 := Lib.hid hown; clear hown hgrow; obtain ⟨W6, hW6⟩ : ∃ W6, W6 = w5.alloc (.cells #[.string p] 9) := ⟨_, rfl⟩; have hb6 : Below w5.heap.size w5 W6 := (by rw [hW6]; exact (Below.refl _ _).alloc (Nat.le_refl _) _); have HO6 := Lib.hid (seen.ownL HO5.out hb6); have HL6 : Hid (Lies W6 (some ⟨w5.heap.size, 0, none⟩) [.string p]) := Lib.hid (by rw [hW6]; exact one_lies w5 p); have HB6 := Lib.hid (HB5.out.trans (hb6.mono HB5.out.size)); have HW6 := Lib.hid hW6.symm; clear hW6 hb6)
    | (at_builtin; rw [HW6.out]; refine wpList_append_opt rfl (.tmp 57) (.tmp 59) 34 rfl w3.heap.size 9 is _ 1 16 Tryz.underlying34 his sz0 sz1 sz2 rfl (by omega) (.slice Ar ns.length cr) ns.length (ns.map Value.string) rfl HO6.out (some ⟨w5.heap.size, 0, none⟩) 1 1 [.string p] (fun h => by cases h) rfl rfl HL6.out (strs_one [p]) (by simp only [maxLen]; omega) (by omega) HB6.out.size ?_; intro vm w7 hown hgrow; obtain ⟨Am, cm, rfl, hcm, hzm⟩ := tre.own_facts hown; have HB7 := Lib.hid (keep_grown HB6.out HO6.out hgrow (Nat.le_refl _) (Nat.le_refl _)); have HCm := Lib.hid hcm; have HZm := Lib.hid hzm; have HRm : Hid (heap.Row w7 w7.heap.size Am (ns ++ [p])) := Lib.hid (own_txts (N := ns ++ [p]) (by rw [List.map_append]; exact hown)); clear hown hgrow hcm hzm)
    | fail)
  obtain ⟨W9, hW9⟩ : ∃ W9, W9 = w7 := ⟨_, rfl⟩
  have HB9 : Hid (Below W1.heap.size W1 W9) := Lib.hid (by rw [hW9]; exact HB3.out.trans (HB7.out.mono HB3.out.size))
  have HT9 : Hid (Trees W9 W9.heap.size A3 (d :: S') r3) := Lib.hid (by rw [hW9]; exact HT3.out.later HB7.out)
  subst hW9
  obtain ⟨⟨b3, o3, hA3, hb3, hc3⟩, _⟩ := HT9.out 0 d rfl
  subst hA3
  have k0 : W9.cell? ⟨b3, o3, none⟩ = some (.int .i64 d.K) := hc3 0 _ rfl
  have k6 : W9.cell? ⟨b3, o3 + 6, none⟩ = some (.string d.T) := hc3 6 _ rfl
  clear hc3
  obtain ⟨K, hK⟩ : ∃ K, K = d.K := ⟨_, rfl⟩
  rw [← hK] at k0
  have HIm : Hid (AlIn R A rs Am cm (ns ++ [p]) Ap2 (cp - 1) ps W9) := Lib.hid (
    have h1 := HI.out.later HB9.out
    have h2 := (HCt.out.row.keep HB9.out).more HB9.out.size
    ⟨h1.trees, HRm.out, by rw [List.length_append, List.length_singleton]; exact HCm.out, fun e => by rw [List.length_append, List.length_singleton]; exact HZm.out e, h2, HCt.out.len, HCt.out.nil⟩)
  have HIo : Hid (AlIn R A rs An cn ns Ap2 (cp - 1) ps W9) := Lib.hid (
    have h1 := HI.out.later HB9.out
    ⟨h1.trees, h1.names, h1.nlen, h1.nnil, HIm.out.parts, HIm.out.plen, HIm.out.pnil⟩)
  clear HRm HCm HZm HO4 HB4 HL4 HZn HW4 HB5 HO5 HB6 HO6 HL6 HW6 HB7 HT3 g0
  cases hSc with
  | none h1 => cases h1
  | dir d2 S2 h1 h2 hC =>
    injection h1 with e1 e2
    subst e1
    have hK2 : K = 2 := hK.trans h2
    subst hK2
    have HC : Hid (Calls Tryz.prog 87 #[.slice A R.length c, .slice Am (ns.length + 1) cm, .slice Ap2 ps.length (cp - 1), .bool f, .int .i64 (h : Int)] W9 (AtOut o W9)) := Lib.hid (by
      have h3 := hC A c rs Am cm Ap2 (cp - 1) W9 HIm.out (by
        have h4 := HFw.out
        unfold Few at h4 ⊢
        rw [List.length_cons] at h4
        rw [List.length_append, List.length_singleton]
        omega)
      rw [List.length_append, List.length_singleton] at h3
      exact h3)
    clear hC hK HS e2 k6
    go_wp2_with fail
    refine HC.out.mono ?_
    rintro e w2 ⟨⟨v, he, hv⟩, hbz⟩
    obtain ⟨B1, m1, e1, B2, m2, e2, kz, rfl⟩ := hv.shape
    subst he
    have HP := Lib.hid (hv.put HX.out HB1.out (HB9.out.trans (hbz.mono HB9.out.size)))
    have hg2 := ((HB9.out.trans (hbz.mono HB9.out.size)).block _ (lt_of_some HX.out)).trans HX.out
    unfold bx3 at hg2
    have z0 := free_of_blk hg2 0
    have z1 := free_of_blk hg2 1
    have z2 := free_of_blk hg2 2
    have d0 : w2.cell? ⟨w.heap.size, 0, none⟩ = some (.slice none 0 0) := cell_of_blk hg2 0
    have d1 : w2.cell? ⟨w.heap.size, 1, none⟩ = some (.slice none 0 0) := cell_of_blk hg2 1
    have d2 : w2.cell? ⟨w.heap.size, 2, none⟩ = some (.int .i64 0) := cell_of_blk hg2 2
    clear hg2 hv hbz
    go_wp2_with fail
    obtain ⟨p0, p1, p2, HE⟩ := HP.out _ rfl
    unfold set3 at p0 p1 p2 HE
    exact bodyPost_ret (v := .agg #[.slice B1 m1 e1, .slice B2 m2 e2, .int .i64 kz]) (by simp [results, Tryz.results87, go_sem, p0, p1, p2]) rfl HE
  | loop d2 S2 h1 h2 hcnd h0 ho =>
    injection h1 with e1 e2
    subst e1
    have hK2 : K = 3 := hK.trans h2
    subst hK2
    subst h0
    subst ho
    clear hK HS e2 k6 HIm HIo
    rcases ps with _ | ⟨p2, ps⟩
    · have hf : f = true := by
        rcases hcnd with h | h
        · exact h
        · simp at h
      subst hf
      rw [List.length_nil]
      clear hcnd
      have HP := Lib.hid ((show AtIn (.err 4) (.agg #[.slice none 0 0, .slice none 0 0, .int .i64 4]) W9 from rfl).put HX.out HB1.out HB9.out)
      have hg2 := (HB9.out.block _ (lt_of_some HX.out)).trans HX.out
      unfold bx3 at hg2
      have z0 := free_of_blk hg2 0
      have z1 := free_of_blk hg2 1
      have z2 := free_of_blk hg2 2
      have d0 : W9.cell? ⟨w.heap.size, 0, none⟩ = some (.slice none 0 0) := cell_of_blk hg2 0
      have d1 : W9.cell? ⟨w.heap.size, 1, none⟩ = some (.slice none 0 0) := cell_of_blk hg2 1
      have d2 : W9.cell? ⟨w.heap.size, 2, none⟩ = some (.int .i64 0) := cell_of_blk hg2 2
      clear hg2
      go_wp2_with fail
      obtain ⟨p0, p1, p2, HE⟩ := HP.out _ rfl
      unfold set3 at p0 p1 p2 HE
      exact bodyPost_ret (v := .agg #[.slice none 0 0, .slice none 0 0, .int .i64 4]) (by simp [results, Tryz.results87, go_sem, p0, p1, p2]) rfl HE
    · rw [List.length_cons]
      have g2 : (0 : Int) < (ps.length : Int) + 1 := by omega
      clear hcnd
      have HP := Lib.hid ((show AtIn (.err 4) (.agg #[.slice none 0 0, .slice none 0 0, .int .i64 4]) W9 from rfl).put HX.out HB1.out HB9.out)
      have hg2 := (HB9.out.block _ (lt_of_some HX.out)).trans HX.out
      unfold bx3 at hg2
      have z0 := free_of_blk hg2 0
      have z1 := free_of_blk hg2 1
      have z2 := free_of_blk hg2 2
      have d0 : W9.cell? ⟨w.heap.size, 0, none⟩ = some (.slice none 0 0) := cell_of_blk hg2 0
      have d1 : W9.cell? ⟨w.heap.size, 1, none⟩ = some (.slice none 0 0) := cell_of_blk hg2 1
      have d2 : W9.cell? ⟨w.heap.size, 2, none⟩ = some (.int .i64 0) := cell_of_blk hg2 2
      clear hg2
      go_wp2_with fail
      obtain ⟨p0, p1, p2, HE⟩ := HP.out _ rfl
      unfold set3 at p0 p1 p2 HE
      exact bodyPost_ret (v := .agg #[.slice none 0 0, .slice none 0 0, .int .i64 4]) (by simp [results, Tryz.results87, go_sem, p0, p1, p2]) rfl HE
  | not d2 S2 h1 h2 hcnd hps ho =>
    injection h1 with e1 e2
    subst e1
    subst ho
    rcases ps with _ | ⟨p2, ps⟩
    · simp at hps
    have g3 : (K == 3) = false := by rw [beq_eq_false_iff_ne, hK]; exact fun h => hcnd ⟨h, .inr hps⟩
    have g4 : (K == 2) = false := by rw [beq_eq_false_iff_ne, hK]; exact h2
    rw [List.length_cons]
    have g2 : (0 : Int) < (ps.length : Int) + 1 := by omega
    clear hK HS e2 k6 HIm HIo hcnd hps h2
    have HP := Lib.hid ((show AtIn (.err 3) (.agg #[.slice none 0 0, .slice none 0 0, .int .i64 3]) W9 from rfl).put HX.out HB1.out HB9.out)
    have hg2 := (HB9.out.block _ (lt_of_some HX.out)).trans HX.out
    unfold bx3 at hg2
    have z0 := free_of_blk hg2 0
    have z1 := free_of_blk hg2 1
    have z2 := free_of_blk hg2 2
    have d0 : W9.cell? ⟨w.heap.size, 0, none⟩ = some (.slice none 0 0) := cell_of_blk hg2 0
    have d1 : W9.cell? ⟨w.heap.size, 1, none⟩ = some (.slice none 0 0) := cell_of_blk hg2 1
    have d2 : W9.cell? ⟨w.heap.size, 2, none⟩ = some (.int .i64 0) := cell_of_blk hg2 2
    clear hg2
    go_wp2_with fail
    obtain ⟨p0, p1, p2, HE⟩ := HP.out _ rfl
    unfold set3 at p0 p1 p2 HE
    exact bodyPost_ret (v := .agg #[.slice none 0 0, .slice none 0 0, .int .i64 3]) (by simp [results, Tryz.results87, go_sem, p0, p1, p2]) rfl HE
  | leaf d2 S2 h1 h2 hcnd hps ho =>
    injection h1 with e1 e2
    subst e1
    subst e2
    subst ho
    subst hps
    have g4 : (K == 2) = false := by rw [beq_eq_false_iff_ne, hK]; exact h2
    rw [List.length_nil]
    have HP := Lib.hid ((show AtIn (.ok (ns ++ [p]) (d :: S')) (.agg #[.slice Am (ns.length + 1) cm, .slice (some ⟨b3, o3, none⟩) (S'.length + 1) c3, .int .i64 0]) W9 from
      ⟨Am, cm, _, c3, r3, by rw [List.length_append, List.length_singleton, List.length_cons], HIm.out.names, HIm.out.nlen, HIm.out.nnil, HT9.out, HC3.out⟩).put HX.out HB1.out HB9.out)
    have hg2 := (HB9.out.block _ (lt_of_some HX.out)).trans HX.out
    unfold bx3 at hg2
    have z0 := free_of_blk hg2 0
    have z1 := free_of_blk hg2 1
    have z2 := free_of_blk hg2 2
    have d0 : W9.cell? ⟨w.heap.size, 0, none⟩ = some (.slice none 0 0) := cell_of_blk hg2 0
    have d1 : W9.cell? ⟨w.heap.size, 1, none⟩ = some (.slice none 0 0) := cell_of_blk hg2 1
    have d2 : W9.cell? ⟨w.heap.size, 2, none⟩ = some (.int .i64 0) := cell_of_blk hg2 2
    have hcase : (K == 3) = false ∨ (K = 3 ∧ f = false) := by
      rcases f with _ | _
      · by_cases h3 : K = 3
        · exact .inr ⟨h3, rfl⟩
        · exact .inl (by rw [beq_eq_false_iff_ne]; exact h3)
      · exact .inl (by rw [beq_eq_false_iff_ne, hK]; exact fun h => hcnd ⟨h, .inl rfl⟩)
    clear hg2 hK HS k6 HIm HIo hcnd h2
    rcases hcase with g3 | ⟨rfl, rfl⟩
    · go_wp2_with fail
      obtain ⟨p0, p1, p2, HE⟩ := HP.out _ rfl
      unfold set3 at p0 p1 p2 HE
      exact bodyPost_ret (v := .agg #[.slice Am (ns.length + 1) cm, .slice (some ⟨b3, o3, none⟩) (S'.length + 1) c3, .int .i64 0]) (by simp [results, Tryz.results87, go_sem, p0, p1, p2]) rfl HE
    · clear g4
      go_wp2_with fail
      obtain ⟨p0, p1, p2, HE⟩ := HP.out _ rfl
      unfold set3 at p0 p1 p2 HE
      exact bodyPost_ret (v := .agg #[.slice Am (ns.length + 1) cm, .slice (some ⟨b3, o3, none⟩) (S'.length + 1) c3, .int .i64 0]) (by simp [results, Tryz.results87, go_sem, p0, p1, p2]) rfl HE
  | hop d2 S2 qs h' h1 h2 hcnd hh hpa hsz hC =>
    injection h1 with e1 e2
    subst e1
    have hK2 : K = 3 := hK.trans h2
    subst hK2
    have hpl2 := parts_len hpa
    rw [List.length_map] at hpl2
    obtain ⟨tx, htx⟩ : ∃ tx, tx = d.T := ⟨_, rfl⟩
    rw [← htx] at k6 hpa hsz hC hpl2
    rw [name.size_list] at hpl2
    have hql : qs.length ≤ 513 := by omega
    have hs0 : 0 < tx.size := by omega
    have hs1 : (0 : Int) < (tx.size : Int) := by omega
    have hby := head_byte tx hs0
    have HSp := Lib.hid (refsplit_any tx W9 (by omega))
    have g5 : ((h : Int) == 0) = false := by rw [beq_eq_false_iff_ne]; omega
    have w8 : IntKind.i64.wrap ((h : Int) - 1) = (h' : Int) := by
      have e : (h : Int) - 1 = (h' : Int) := by omega
      rw [e]
      have := HFw.out.2
      exact IntWalk.i64_in _ (by omega)
    have HPa := Lib.hid hpa
    have HC : Hid (∀ (Ax : Option Addr) (cx : Nat) (Ay : Option Addr) (cy : Nat) (W : World), Below W9.heap.size W9 W → heap.Row W W.heap.size Ax (if (tx.data.toList.head? == some 47) = true then [] else ns) → (if (tx.data.toList.head? == some 47) = true then [] else ns).length ≤ cx → (Ax = none → (if (tx.data.toList.head? == some 47) = true then [] else ns).length = 0 ∧ cx = 0) →
        heap.Row W W.heap.size Ay (qs ++ ps) → (qs ++ ps).length ≤ cy → (Ay = none → (qs ++ ps).length = 0 ∧ cy = 0) →
        Calls Tryz.prog 87 #[.slice A R.length c, .slice Ax (if (tx.data.toList.head? == some 47) = true then [] else ns).length cx, .slice Ay (qs ++ ps).length cy, .bool f, .int .i64 (h' : Int)] W (AtOut o W)) := Lib.hid fun Ax cx Ay cy W hb hr1 hr2 hr3 hr4 hr5 hr6 =>
      hC A c rs Ax cx Ay cy W ⟨HIo.out.trees.later hb, hr1, hr2, hr3, hr4, hr5, hr6⟩ (by
        have h4 := HFw.out
        unfold Few at h4 ⊢
        rw [List.length_cons] at h4
        rw [List.length_append]
        have h5 : (if (tx.data.toList.head? == some 47) = true then [] else ns).length ≤ ns.length := by split <;> simp
        omega)
    have HDi := Lib.hid (fun (Q : List ByteArray) (hQ : parts tx.data.toList = some (Q.map fun x => x.data.toList)) => show qs = Q by
      have e := hpa.symm.trans hQ
      injection e with e
      exact data_inj e)
    clear hC hK HS e2 hpa hpl2 hh htx HIm
    rcases ps with _ | ⟨p2, ps⟩
    · have hf : f = true := by
        rcases hcnd with h | h
        · exact h
        · simp at h
      subst hf
      rw [List.length_nil]
      clear hcnd
      rcases hrt : (tx.data.toList.head? == some 47) with _ | _
      · have HC2 : Hid (∀ (Ay : Option Addr) (cy : Nat) (W : World), Below W9.heap.size W9 W → heap.Row W W.heap.size Ay (qs ++ []) → (qs ++ []).length ≤ cy → (Ay = none → (qs ++ []).length = 0 ∧ cy = 0) →
            Calls Tryz.prog 87 #[.slice A R.length c, .slice An ns.length cn, .slice Ay (qs ++ []).length cy, .bool true, .int .i64 (h' : Int)] W (AtOut o W)) := Lib.hid fun Ay cy W hb h1 h2 h3 => by
          have h4 := HC.out An cn Ay cy W hb
          rw [hrt] at h4
          rw [if_neg (by decide)] at h4
          exact h4 ((HIo.out.later hb).names) HIo.out.nlen HIo.out.nnil h1 h2 h3
        rw [hrt] at hby
        clear HC hrt
        go_upto_region 21 with fail
        clear g5 k0
        go_wp2_with fail
        refine HSp.out.mono ?_
        rintro e w10 ⟨hto, hb10⟩
        rcases hto with ⟨hno, _⟩ | ⟨v, Q, hQ, rfl, hown⟩
        · rw [HPa.out] at hno; cases hno
        obtain rfl := HDi.out Q hQ
        obtain ⟨Aq, cq, rfl, hcq, hzq⟩ := tre.own_facts hown
        have HRq := Lib.hid (own_txts hown)
        have HZq := Lib.hid hzq
        have HB10 := Lib.hid hb10
        have k7 : w10.cell? ⟨b3, o3 + 6, none⟩ = some (.string tx) := (hb10.cell (p := ⟨b3, o3 + 6, none⟩) hb3).trans k6
        obtain ⟨W11, hW11⟩ : ∃ W11, W11 = w10.alloc (.cells #[] 9) := ⟨_, rfl⟩
        have hb11 : Below w10.heap.size w10 W11 := by rw [hW11]; exact (Below.refl _ _).alloc (Nat.le_refl _) _
        have HO11 : Hid (W11.ownsRow w10.heap.size 9 1 (.slice (some ⟨w10.heap.size, 0, none⟩) 0 0) 0 []) := Lib.hid (by rw [hW11]; exact World.ownsRow_made w10 #[] 0 (Nat.le_refl _) (by decide) rfl)
        have HB11 := Lib.hid hb11
        have HL11 := Lib.hid (row_lies ((HRq.out.keep hb11).more hb11.size))
        have HW11 := Lib.hid hW11.symm
        clear hQ hown hcq hzq hb10 hW11 hb11 k6 HSp
        go_wp2_with (first
          | (at_builtin; rw [HW11.out]; refine wpList_append_opt rfl (.tmp 100) (.tmp 101) 34 rfl w10.heap.size 9 is _ 1 16 Tryz.underlying34 his sz0 sz1 sz2 rfl (by omega) (.slice (some ⟨w10.heap.size, 0, none⟩) 0 0) 0 [] rfl HO11.out Aq qs.length cq (qs.map Value.string) HZq.out rfl (by simp) HL11.out (strs_one qs) (by simp only [maxLen]; omega) (by omega) HB11.out.size ?_; intro vr w12 hown hgrow; rw [Nat.zero_add, List.nil_append] at hown; obtain ⟨Ar, cr, rfl, _, _⟩ := tre.own_facts hown; have HB12 := Lib.hid (keep_grown HB11.out HO11.out hgrow (Nat.le_refl _) (Nat.le_refl _)); have HO12 := Lib.hid hown; clear hown hgrow; have HL12 := Lib.hid (row_lies (((HIo.out.later (HB10.out.trans (HB12.out.mono HB10.out.size))).parts))))
          | (at_builtin; refine wpList_append_opt rfl (.tmp 102) (.tmp 103) 34 rfl w10.heap.size 9 is _ 1 16 Tryz.underlying34 his sz0 sz1 sz2 rfl (by omega) (.slice Ar qs.length cr) qs.length (qs.map Value.string) rfl HO12.out Ap2 0 (cp - 1) ([].map Value.string) HIo.out.pnil rfl (by simp) HL12.out (strs_one []) (by simp only [maxLen]; omega) (by omega) HB12.out.size ?_; intro vm w13 hown hgrow; obtain ⟨Am2, cm2, rfl, hcm2, hzm2⟩ := tre.own_facts hown; have HB13 := Lib.hid (HB10.out.trans ((keep_grown HB12.out HO12.out hgrow (Nat.le_refl _) (Nat.le_refl _)).mono HB10.out.size)); have HIn := Lib.hid (HC2.out Am2 cm2 w13 HB13.out (own_txts (N := qs ++ []) (by rw [List.map_append]; exact hown)) (by rw [List.length_append]; exact hcm2) (fun e => by rw [List.length_append]; exact hzm2 e)); rw [List.length_append] at HIn; clear hown hgrow hcm2 hzm2)
          | fail)
        refine HIn.out.mono ?_
        rintro e w2 ⟨⟨v, he, hv⟩, hbz⟩
        obtain ⟨B1, m1, e1, B2, m2, e2, kz, rfl⟩ := hv.shape
        subst he
        have HBz := Lib.hid (HB9.out.trans ((HB13.out.trans (hbz.mono HB13.out.size)).mono HB9.out.size))
        have HP := Lib.hid (hv.put HX.out HB1.out HBz.out)
        have hg2 := (HBz.out.block _ (lt_of_some HX.out)).trans HX.out
        unfold bx3 at hg2
        have z0 := free_of_blk hg2 0
        have z1 := free_of_blk hg2 1
        have z2 := free_of_blk hg2 2
        have d0 : w2.cell? ⟨w.heap.size, 0, none⟩ = some (.slice none 0 0) := cell_of_blk hg2 0
        have d1 : w2.cell? ⟨w.heap.size, 1, none⟩ = some (.slice none 0 0) := cell_of_blk hg2 1
        have d2 : w2.cell? ⟨w.heap.size, 2, none⟩ = some (.int .i64 0) := cell_of_blk hg2 2
        clear hg2 hv hbz
        go_wp2_with fail
        obtain ⟨p0, p1, p2, HE⟩ := HP.out _ rfl
        unfold set3 at p0 p1 p2 HE
        exact bodyPost_ret (v := .agg #[.slice B1 m1 e1, .slice B2 m2 e2, .int .i64 kz]) (by simp [results, Tryz.results87, go_sem, p0, p1, p2]) rfl HE
      · have HC2 : Hid (∀ (Ay : Option Addr) (cy : Nat) (W : World), Below W9.heap.size W9 W → heap.Row W W.heap.size Ay (qs ++ []) → (qs ++ []).length ≤ cy → (Ay = none → (qs ++ []).length = 0 ∧ cy = 0) →
            Calls Tryz.prog 87 #[.slice A R.length c, .slice none 0 0, .slice Ay (qs ++ []).length cy, .bool true, .int .i64 (h' : Int)] W (AtOut o W)) := Lib.hid fun Ay cy W hb h1 h2 h3 => by
          have h4 := HC.out none 0 Ay cy W hb
          rw [hrt] at h4
          rw [if_pos rfl] at h4
          exact h4 (fun i s hs => by simp at hs) (Nat.le_refl _) (fun _ => ⟨rfl, rfl⟩) h1 h2 h3
        rw [hrt] at hby
        clear HC hrt
        go_upto_region 21 with fail
        clear g5 k0
        go_wp2_with fail
        refine HSp.out.mono ?_
        rintro e w10 ⟨hto, hb10⟩
        rcases hto with ⟨hno, _⟩ | ⟨v, Q, hQ, rfl, hown⟩
        · rw [HPa.out] at hno; cases hno
        obtain rfl := HDi.out Q hQ
        obtain ⟨Aq, cq, rfl, hcq, hzq⟩ := tre.own_facts hown
        have HRq := Lib.hid (own_txts hown)
        have HZq := Lib.hid hzq
        have HB10 := Lib.hid hb10
        have k7 : w10.cell? ⟨b3, o3 + 6, none⟩ = some (.string tx) := (hb10.cell (p := ⟨b3, o3 + 6, none⟩) hb3).trans k6
        obtain ⟨W11, hW11⟩ : ∃ W11, W11 = w10.alloc (.cells #[] 9) := ⟨_, rfl⟩
        have hb11 : Below w10.heap.size w10 W11 := by rw [hW11]; exact (Below.refl _ _).alloc (Nat.le_refl _) _
        have HO11 : Hid (W11.ownsRow w10.heap.size 9 1 (.slice (some ⟨w10.heap.size, 0, none⟩) 0 0) 0 []) := Lib.hid (by rw [hW11]; exact World.ownsRow_made w10 #[] 0 (Nat.le_refl _) (by decide) rfl)
        have HB11 := Lib.hid hb11
        have HL11 := Lib.hid (row_lies ((HRq.out.keep hb11).more hb11.size))
        have HW11 := Lib.hid hW11.symm
        clear hQ hown hcq hzq hb10 hW11 hb11 k6 HSp
        go_wp2_with (first
          | (at_builtin; rw [HW11.out]; refine wpList_append_opt rfl (.tmp 100) (.tmp 101) 34 rfl w10.heap.size 9 is _ 1 16 Tryz.underlying34 his sz0 sz1 sz2 rfl (by omega) (.slice (some ⟨w10.heap.size, 0, none⟩) 0 0) 0 [] rfl HO11.out Aq qs.length cq (qs.map Value.string) HZq.out rfl (by simp) HL11.out (strs_one qs) (by simp only [maxLen]; omega) (by omega) HB11.out.size ?_; intro vr w12 hown hgrow; rw [Nat.zero_add, List.nil_append] at hown; obtain ⟨Ar, cr, rfl, _, _⟩ := tre.own_facts hown; have HB12 := Lib.hid (keep_grown HB11.out HO11.out hgrow (Nat.le_refl _) (Nat.le_refl _)); have HO12 := Lib.hid hown; clear hown hgrow; have HL12 := Lib.hid (row_lies (((HIo.out.later (HB10.out.trans (HB12.out.mono HB10.out.size))).parts))))
          | (at_builtin; refine wpList_append_opt rfl (.tmp 102) (.tmp 103) 34 rfl w10.heap.size 9 is _ 1 16 Tryz.underlying34 his sz0 sz1 sz2 rfl (by omega) (.slice Ar qs.length cr) qs.length (qs.map Value.string) rfl HO12.out Ap2 0 (cp - 1) ([].map Value.string) HIo.out.pnil rfl (by simp) HL12.out (strs_one []) (by simp only [maxLen]; omega) (by omega) HB12.out.size ?_; intro vm w13 hown hgrow; obtain ⟨Am2, cm2, rfl, hcm2, hzm2⟩ := tre.own_facts hown; have HB13 := Lib.hid (HB10.out.trans ((keep_grown HB12.out HO12.out hgrow (Nat.le_refl _) (Nat.le_refl _)).mono HB10.out.size)); have HIn := Lib.hid (HC2.out Am2 cm2 w13 HB13.out (own_txts (N := qs ++ []) (by rw [List.map_append]; exact hown)) (by rw [List.length_append]; exact hcm2) (fun e => by rw [List.length_append]; exact hzm2 e)); rw [List.length_append] at HIn; clear hown hgrow hcm2 hzm2)
          | fail)
        refine HIn.out.mono ?_
        rintro e w2 ⟨⟨v, he, hv⟩, hbz⟩
        obtain ⟨B1, m1, e1, B2, m2, e2, kz, rfl⟩ := hv.shape
        subst he
        have HBz := Lib.hid (HB9.out.trans ((HB13.out.trans (hbz.mono HB13.out.size)).mono HB9.out.size))
        have HP := Lib.hid (hv.put HX.out HB1.out HBz.out)
        have hg2 := (HBz.out.block _ (lt_of_some HX.out)).trans HX.out
        unfold bx3 at hg2
        have z0 := free_of_blk hg2 0
        have z1 := free_of_blk hg2 1
        have z2 := free_of_blk hg2 2
        have d0 : w2.cell? ⟨w.heap.size, 0, none⟩ = some (.slice none 0 0) := cell_of_blk hg2 0
        have d1 : w2.cell? ⟨w.heap.size, 1, none⟩ = some (.slice none 0 0) := cell_of_blk hg2 1
        have d2 : w2.cell? ⟨w.heap.size, 2, none⟩ = some (.int .i64 0) := cell_of_blk hg2 2
        clear hg2 hv hbz
        go_wp2_with fail
        obtain ⟨p0, p1, p2, HE⟩ := HP.out _ rfl
        unfold set3 at p0 p1 p2 HE
        exact bodyPost_ret (v := .agg #[.slice B1 m1 e1, .slice B2 m2 e2, .int .i64 kz]) (by simp [results, Tryz.results87, go_sem, p0, p1, p2]) rfl HE
    · rw [List.length_cons]
      have g2 : (0 : Int) < (ps.length : Int) + 1 := by omega
      rw [List.length_cons] at hpl
      clear hcnd
      rcases hrt : (tx.data.toList.head? == some 47) with _ | _
      · have HC2 : Hid (∀ (Ay : Option Addr) (cy : Nat) (W : World), Below W9.heap.size W9 W → heap.Row W W.heap.size Ay (qs ++ (p2 :: ps)) → (qs ++ (p2 :: ps)).length ≤ cy → (Ay = none → (qs ++ (p2 :: ps)).length = 0 ∧ cy = 0) →
            Calls Tryz.prog 87 #[.slice A R.length c, .slice An ns.length cn, .slice Ay (qs ++ (p2 :: ps)).length cy, .bool f, .int .i64 (h' : Int)] W (AtOut o W)) := Lib.hid fun Ay cy W hb h1 h2 h3 => by
          have h4 := HC.out An cn Ay cy W hb
          rw [hrt] at h4
          rw [if_neg (by decide)] at h4
          exact h4 ((HIo.out.later hb).names) HIo.out.nlen HIo.out.nnil h1 h2 h3
        rw [hrt] at hby
        clear HC hrt
        go_upto_region 21 with fail
        clear g5 k0
        go_wp2_with fail
        refine HSp.out.mono ?_
        rintro e w10 ⟨hto, hb10⟩
        rcases hto with ⟨hno, _⟩ | ⟨v, Q, hQ, rfl, hown⟩
        · rw [HPa.out] at hno; cases hno
        obtain rfl := HDi.out Q hQ
        obtain ⟨Aq, cq, rfl, hcq, hzq⟩ := tre.own_facts hown
        have HRq := Lib.hid (own_txts hown)
        have HZq := Lib.hid hzq
        have HB10 := Lib.hid hb10
        have k7 : w10.cell? ⟨b3, o3 + 6, none⟩ = some (.string tx) := (hb10.cell (p := ⟨b3, o3 + 6, none⟩) hb3).trans k6
        obtain ⟨W11, hW11⟩ : ∃ W11, W11 = w10.alloc (.cells #[] 9) := ⟨_, rfl⟩
        have hb11 : Below w10.heap.size w10 W11 := by rw [hW11]; exact (Below.refl _ _).alloc (Nat.le_refl _) _
        have HO11 : Hid (W11.ownsRow w10.heap.size 9 1 (.slice (some ⟨w10.heap.size, 0, none⟩) 0 0) 0 []) := Lib.hid (by rw [hW11]; exact World.ownsRow_made w10 #[] 0 (Nat.le_refl _) (by decide) rfl)
        have HB11 := Lib.hid hb11
        have HL11 := Lib.hid (row_lies ((HRq.out.keep hb11).more hb11.size))
        have HW11 := Lib.hid hW11.symm
        clear hQ hown hcq hzq hb10 hW11 hb11 k6 HSp
        go_wp2_with (first
          | (at_builtin; rw [HW11.out]; refine wpList_append_opt rfl (.tmp 100) (.tmp 101) 34 rfl w10.heap.size 9 is _ 1 16 Tryz.underlying34 his sz0 sz1 sz2 rfl (by omega) (.slice (some ⟨w10.heap.size, 0, none⟩) 0 0) 0 [] rfl HO11.out Aq qs.length cq (qs.map Value.string) HZq.out rfl (by simp) HL11.out (strs_one qs) (by simp only [maxLen]; omega) (by omega) HB11.out.size ?_; intro vr w12 hown hgrow; rw [Nat.zero_add, List.nil_append] at hown; obtain ⟨Ar, cr, rfl, _, _⟩ := tre.own_facts hown; have HB12 := Lib.hid (keep_grown HB11.out HO11.out hgrow (Nat.le_refl _) (Nat.le_refl _)); have HO12 := Lib.hid hown; clear hown hgrow; have HL12 := Lib.hid (row_lies (((HIo.out.later (HB10.out.trans (HB12.out.mono HB10.out.size))).parts))))
          | (at_builtin; refine wpList_append_opt rfl (.tmp 102) (.tmp 103) 34 rfl w10.heap.size 9 is _ 1 16 Tryz.underlying34 his sz0 sz1 sz2 rfl (by omega) (.slice Ar qs.length cr) qs.length (qs.map Value.string) rfl HO12.out Ap2 (ps.length + 1) (cp - 1) ((p2 :: ps).map Value.string) HIo.out.pnil rfl (by simp) HL12.out (strs_one (p2 :: ps)) (by simp only [maxLen]; omega) (by omega) HB12.out.size ?_; intro vm w13 hown hgrow; obtain ⟨Am2, cm2, rfl, hcm2, hzm2⟩ := tre.own_facts hown; have HB13 := Lib.hid (HB10.out.trans ((keep_grown HB12.out HO12.out hgrow (Nat.le_refl _) (Nat.le_refl _)).mono HB10.out.size)); have HIn := Lib.hid (HC2.out Am2 cm2 w13 HB13.out (own_txts (N := qs ++ (p2 :: ps)) (by rw [List.map_append]; exact hown)) (by rw [List.length_append]; exact hcm2) (fun e => by rw [List.length_append]; exact hzm2 e)); rw [List.length_append] at HIn; clear hown hgrow hcm2 hzm2)
          | fail)
        refine HIn.out.mono ?_
        rintro e w2 ⟨⟨v, he, hv⟩, hbz⟩
        obtain ⟨B1, m1, e1, B2, m2, e2, kz, rfl⟩ := hv.shape
        subst he
        have HBz := Lib.hid (HB9.out.trans ((HB13.out.trans (hbz.mono HB13.out.size)).mono HB9.out.size))
        have HP := Lib.hid (hv.put HX.out HB1.out HBz.out)
        have hg2 := (HBz.out.block _ (lt_of_some HX.out)).trans HX.out
        unfold bx3 at hg2
        have z0 := free_of_blk hg2 0
        have z1 := free_of_blk hg2 1
        have z2 := free_of_blk hg2 2
        have d0 : w2.cell? ⟨w.heap.size, 0, none⟩ = some (.slice none 0 0) := cell_of_blk hg2 0
        have d1 : w2.cell? ⟨w.heap.size, 1, none⟩ = some (.slice none 0 0) := cell_of_blk hg2 1
        have d2 : w2.cell? ⟨w.heap.size, 2, none⟩ = some (.int .i64 0) := cell_of_blk hg2 2
        clear hg2 hv hbz
        go_wp2_with fail
        obtain ⟨p0, p1, p2, HE⟩ := HP.out _ rfl
        unfold set3 at p0 p1 p2 HE
        exact bodyPost_ret (v := .agg #[.slice B1 m1 e1, .slice B2 m2 e2, .int .i64 kz]) (by simp [results, Tryz.results87, go_sem, p0, p1, p2]) rfl HE
      · have HC2 : Hid (∀ (Ay : Option Addr) (cy : Nat) (W : World), Below W9.heap.size W9 W → heap.Row W W.heap.size Ay (qs ++ (p2 :: ps)) → (qs ++ (p2 :: ps)).length ≤ cy → (Ay = none → (qs ++ (p2 :: ps)).length = 0 ∧ cy = 0) →
            Calls Tryz.prog 87 #[.slice A R.length c, .slice none 0 0, .slice Ay (qs ++ (p2 :: ps)).length cy, .bool f, .int .i64 (h' : Int)] W (AtOut o W)) := Lib.hid fun Ay cy W hb h1 h2 h3 => by
          have h4 := HC.out none 0 Ay cy W hb
          rw [hrt] at h4
          rw [if_pos rfl] at h4
          exact h4 (fun i s hs => by simp at hs) (Nat.le_refl _) (fun _ => ⟨rfl, rfl⟩) h1 h2 h3
        rw [hrt] at hby
        clear HC hrt
        go_upto_region 21 with fail
        clear g5 k0
        go_wp2_with fail
        refine HSp.out.mono ?_
        rintro e w10 ⟨hto, hb10⟩
        rcases hto with ⟨hno, _⟩ | ⟨v, Q, hQ, rfl, hown⟩
        · rw [HPa.out] at hno; cases hno
        obtain rfl := HDi.out Q hQ
        obtain ⟨Aq, cq, rfl, hcq, hzq⟩ := tre.own_facts hown
        have HRq := Lib.hid (own_txts hown)
        have HZq := Lib.hid hzq
        have HB10 := Lib.hid hb10
        have k7 : w10.cell? ⟨b3, o3 + 6, none⟩ = some (.string tx) := (hb10.cell (p := ⟨b3, o3 + 6, none⟩) hb3).trans k6
        obtain ⟨W11, hW11⟩ : ∃ W11, W11 = w10.alloc (.cells #[] 9) := ⟨_, rfl⟩
        have hb11 : Below w10.heap.size w10 W11 := by rw [hW11]; exact (Below.refl _ _).alloc (Nat.le_refl _) _
        have HO11 : Hid (W11.ownsRow w10.heap.size 9 1 (.slice (some ⟨w10.heap.size, 0, none⟩) 0 0) 0 []) := Lib.hid (by rw [hW11]; exact World.ownsRow_made w10 #[] 0 (Nat.le_refl _) (by decide) rfl)
        have HB11 := Lib.hid hb11
        have HL11 := Lib.hid (row_lies ((HRq.out.keep hb11).more hb11.size))
        have HW11 := Lib.hid hW11.symm
        clear hQ hown hcq hzq hb10 hW11 hb11 k6 HSp
        go_wp2_with (first
          | (at_builtin; rw [HW11.out]; refine wpList_append_opt rfl (.tmp 100) (.tmp 101) 34 rfl w10.heap.size 9 is _ 1 16 Tryz.underlying34 his sz0 sz1 sz2 rfl (by omega) (.slice (some ⟨w10.heap.size, 0, none⟩) 0 0) 0 [] rfl HO11.out Aq qs.length cq (qs.map Value.string) HZq.out rfl (by simp) HL11.out (strs_one qs) (by simp only [maxLen]; omega) (by omega) HB11.out.size ?_; intro vr w12 hown hgrow; rw [Nat.zero_add, List.nil_append] at hown; obtain ⟨Ar, cr, rfl, _, _⟩ := tre.own_facts hown; have HB12 := Lib.hid (keep_grown HB11.out HO11.out hgrow (Nat.le_refl _) (Nat.le_refl _)); have HO12 := Lib.hid hown; clear hown hgrow; have HL12 := Lib.hid (row_lies (((HIo.out.later (HB10.out.trans (HB12.out.mono HB10.out.size))).parts))))
          | (at_builtin; refine wpList_append_opt rfl (.tmp 102) (.tmp 103) 34 rfl w10.heap.size 9 is _ 1 16 Tryz.underlying34 his sz0 sz1 sz2 rfl (by omega) (.slice Ar qs.length cr) qs.length (qs.map Value.string) rfl HO12.out Ap2 (ps.length + 1) (cp - 1) ((p2 :: ps).map Value.string) HIo.out.pnil rfl (by simp) HL12.out (strs_one (p2 :: ps)) (by simp only [maxLen]; omega) (by omega) HB12.out.size ?_; intro vm w13 hown hgrow; obtain ⟨Am2, cm2, rfl, hcm2, hzm2⟩ := tre.own_facts hown; have HB13 := Lib.hid (HB10.out.trans ((keep_grown HB12.out HO12.out hgrow (Nat.le_refl _) (Nat.le_refl _)).mono HB10.out.size)); have HIn := Lib.hid (HC2.out Am2 cm2 w13 HB13.out (own_txts (N := qs ++ (p2 :: ps)) (by rw [List.map_append]; exact hown)) (by rw [List.length_append]; exact hcm2) (fun e => by rw [List.length_append]; exact hzm2 e)); rw [List.length_append] at HIn; clear hown hgrow hcm2 hzm2)
          | fail)
        refine HIn.out.mono ?_
        rintro e w2 ⟨⟨v, he, hv⟩, hbz⟩
        obtain ⟨B1, m1, e1, B2, m2, e2, kz, rfl⟩ := hv.shape
        subst he
        have HBz := Lib.hid (HB9.out.trans ((HB13.out.trans (hbz.mono HB13.out.size)).mono HB9.out.size))
        have HP := Lib.hid (hv.put HX.out HB1.out HBz.out)
        have hg2 := (HBz.out.block _ (lt_of_some HX.out)).trans HX.out
        unfold bx3 at hg2
        have z0 := free_of_blk hg2 0
        have z1 := free_of_blk hg2 1
        have z2 := free_of_blk hg2 2
        have d0 : w2.cell? ⟨w.heap.size, 0, none⟩ = some (.slice none 0 0) := cell_of_blk hg2 0
        have d1 : w2.cell? ⟨w.heap.size, 1, none⟩ = some (.slice none 0 0) := cell_of_blk hg2 1
        have d2 : w2.cell? ⟨w.heap.size, 2, none⟩ = some (.int .i64 0) := cell_of_blk hg2 2
        clear hg2 hv hbz
        go_wp2_with fail
        obtain ⟨p0, p1, p2, HE⟩ := HP.out _ rfl
        unfold set3 at p0 p1 p2 HE
        exact bodyPost_ret (v := .agg #[.slice B1 m1 e1, .slice B2 m2 e2, .int .i64 kz]) (by simp [results, Tryz.results87, go_sem, p0, p1, p2]) rfl HE
end Go.Proofs.YtkbhcncbpiimdaaGreatDoor.wlk

namespace Go.Proofs.YtkbhcncbpiimdaaGreatDoor.wlk
set_option maxRecDepth 100000
open Go.RowKit Go.Proofs.YtkbhcncbpiimdaaGreatDoor.words Go.Proofs.YtkbhcncbpiimdaaGreatDoor.ext Go.Proofs.YtkbhcncbpiimdaaGreatDoor.name Go.Proofs.YtkbhcncbpiimdaaGreatDoor.tre Go.Proofs.YtkbhcncbpiimdaaGreatDoor.stk Go.Proofs.YtkbhcncbpiimdaaGreatDoor.seen

theorem al_all {R : List Nd} (hg : ∀ t ∈ R, allB t = true) (hl : R.length ≤ 64) {f : Bool} {ns ps : List ByteArray} {h : Nat} {o : AtO} (hL : Leads R f ns ps h o) : AlC R f ns ps h o := by
  induction hL with
  | done a => exact al_done hg hl a
  | up _ ih => exact al_up ih
  | none n a e s => exact al_step hg hl n a e (.none s rfl)
  | dir n a e s k _ ih => exact al_step hg hl n a e (.dir _ _ s k ih)
  | loop n a e s k c => exact al_step hg hl n a e (.loop _ _ s k c rfl rfl)
  | hop n a e s k c p _ ih =>
    exact al_step hg hl n a e (.hop _ _ _ _ s k c rfl p (link_parts (((a.good (Good.root hg)).seen e).one (by rw [s]; exact List.mem_cons_self ..)) k).1 ih)
  | not n a e s k c l => exact al_step hg hl n a e (.not _ _ s k c l rfl)
  | leaf n a e s k c => exact al_step hg hl n a e (.leaf _ _ s k c rfl rfl)
/-- A step there always is. -/
theorem lead_step {R : List Nd} {f : Bool} (hg : ∀ t ∈ R, allB t = true) {h : Nat} {ps : List ByteArray} (hh : ∀ h', h = h' + 1 → ∀ ps ns, ∃ o, Leads R f ns ps h' o) (hp : ∀ ns, ∃ o, Leads R f ns ps h o) (p : ByteArray) (ns : List ByteArray) : ∃ o, Leads R f ns (p :: ps) h o := by
  by_cases hd : p = dd
  · subst hd
    obtain ⟨o, ho⟩ := hp (ns.take (ns.length - 1))
    exact ⟨o, .up ho⟩
  obtain ⟨D, hD⟩ := Along.some (ns := ns) (Good.root hg)
  have hgd := hD.good (Good.root hg)
  obtain ⟨Q, hQ⟩ := EntN.some (s := p) (D := D) fun d hd => (hgd.asc d hd).2
  rcases hS : seenOf Q with _ | ⟨d, S⟩
  · exact ⟨_, .none hd hD hQ hS⟩
  by_cases h2 : d.K = 2
  · obtain ⟨o, ho⟩ := hp (ns ++ [p])
    exact ⟨o, .dir hd hD hQ hS h2 ho⟩
  by_cases h3 : d.K = 3 ∧ (f = true ∨ 0 < ps.length)
  · rcases h with _ | h
    · exact ⟨_, .loop hd hD hQ hS h3.1 h3.2⟩
    · obtain ⟨_, qs, hq⟩ := link_parts ((hgd.seen hQ).one (d := d) (by rw [hS]; exact List.mem_cons_self ..)) h3.1
      obtain ⟨o, ho⟩ := hh h rfl (qs ++ ps) (if (d.T.data.toList.head? == Option.some 47) = true then [] else ns)
      exact ⟨o, .hop hd hD hQ hS h3.1 h3.2 hq ho⟩
  rcases ps with _ | ⟨q, ps⟩
  · exact ⟨_, .leaf hd hD hQ hS h2 h3⟩
  · exact ⟨_, .not hd hD hQ hS h2 h3 (by simp)⟩
theorem leads_some {R : List Nd} {f : Bool} (hg : ∀ t ∈ R, allB t = true) : ∀ (h : Nat) (ps ns : List ByteArray), ∃ o, Leads R f ns ps h o := by
  intro h
  induction h with
  | zero =>
    intro ps
    induction ps with
    | nil => intro ns; obtain ⟨D, hD⟩ := Along.some (ns := ns) (Good.root hg); exact ⟨_, .done hD⟩
    | cons p ps ih => intro ns; exact lead_step hg (fun h' e => by cases e) ih p ns
  | succ h ihh =>
    intro ps
    induction ps with
    | nil => intro ns; obtain ⟨D, hD⟩ := Along.some (ns := ns) (Good.root hg); exact ⟨_, .done hD⟩
    | cons p ps ih => intro ns; exact lead_step hg (fun h' e => by injection e with e; subst e; exact ihh) ih p ns
/-- Where a path leads. -/
def Goes (R : List Nd) (f : Bool) (s : ByteArray) (o : AtO) : Prop :=
  (parts s.data.toList = none ∧ o = .err 1) ∨ ∃ ps : List ByteArray, parts s.data.toList = some (ps.map fun y => y.data.toList) ∧ Leads R f [] ps 40 o
theorem Goes.some {R : List Nd} {f : Bool} (hg : ∀ t ∈ R, allB t = true) (s : ByteArray) : ∃ o, Goes R f s o := by
  rcases hp : parts s.data.toList with _ | ls
  · exact ⟨_, .inl ⟨hp, rfl⟩⟩
  · have hq : ls = (ls.map fun l => (⟨⟨l⟩⟩ : ByteArray)).map fun y => y.data.toList := by
      rw [List.map_map]
      exact (List.map_id' ls).symm
    obtain ⟨o, ho⟩ := leads_some (f := f) hg 40 (ls.map fun l => (⟨⟨l⟩⟩ : ByteArray)) []
    exact ⟨o, .inr ⟨_, by rw [hp, ← hq], ho⟩⟩
theorem Goes.uniq {R : List Nd} {f : Bool} (hg : ∀ t ∈ R, allB t = true) {s : ByteArray} {o o' : AtO} (h : Goes R f s o) (h' : Goes R f s o') : o = o' := by
  rcases h with ⟨h1, h2⟩ | ⟨ps, h1, h2⟩
  · rcases h' with ⟨_, h2'⟩ | ⟨ps', h1', _⟩
    · rw [h2, h2']
    · rw [h1] at h1'; cases h1'
  · rcases h' with ⟨h1', _⟩ | ⟨ps', h1', h2'⟩
    · rw [h1] at h1'; cases h1'
    · rw [h1] at h1'
      injection h1' with e
      obtain rfl := data_inj e
      exact h2.uniq hg h2'
set_option maxHeartbeats 6400000 in
theorem refwalk_any {R : List Nd} (hg : ∀ t ∈ R, allB t = true) (hl : R.length ≤ 64) (A : Option Addr) (c : Nat) (rs : Nat → Raw) (s : ByteArray) (f : Bool) (o : AtO) (w : World) (hT : Trees w w.heap.size A R rs) (hs : s.size ≤ 1000000) (ho : Goes R f s o) :
    Calls Tryz.prog 43 #[.slice A R.length c, .string s, .bool f] w (AtOut o w) := by
  obtain ⟨W1, hW1⟩ : ∃ W1, W1 = w.alloc (bx3 none none 0 0 0 0 0) := ⟨_, rfl⟩
  have hb1 : Below w.heap.size w W1 := by rw [hW1]; exact (Below.refl _ _).alloc (Nat.le_refl _) _
  have hx1 : W1.heap[w.heap.size]? = some (bx3 none none 0 0 0 0 0) := by rw [hW1]; exact new3 w
  have HT := Lib.hid (hT.later hb1)
  have HX := Lib.hid hx1
  have HB1 := Lib.hid hb1
  have HSp := Lib.hid (refsplit_any s W1 (by omega))
  have HG := Lib.hid ho
  have HAl := Lib.hid fun (ps : List ByteArray) (hL : Leads R f [] ps 40 o) => al_all hg hl hL
  unfold bx3 at hW1
  have HW1 := Lib.hid hW1
  clear hT hx1 hb1 hW1 ho hg
  go_enter Tryz.func43, Tryz.ntmps43
  go_upto_region 1 with fail
  rw [← HW1.out]
  clear HW1
  go_wp2_with fail
  refine HSp.out.mono ?_
  rintro e w2 ⟨(⟨hno, rfl⟩ | ⟨v, Q, hQ, rfl, hown⟩), hb2⟩
  · have ho2 : o = .err 1 := by
      rcases HG.out with ⟨_, h⟩ | ⟨ps, h, _⟩
      · exact h
      · rw [hno] at h; cases h
    subst ho2
    have HP := Lib.hid ((show AtIn (.err 1) (.agg #[.slice none 0 0, .slice none 0 0, .int .i64 1]) w2 from rfl).put HX.out HB1.out hb2)
    have hg2 := (hb2.block _ (lt_of_some HX.out)).trans HX.out
    unfold bx3 at hg2
    have z0 := free_of_blk hg2 0
    have z1 := free_of_blk hg2 1
    have z2 := free_of_blk hg2 2
    have d0 : w2.cell? ⟨w.heap.size, 0, none⟩ = some (.slice none 0 0) := cell_of_blk hg2 0
    have d1 : w2.cell? ⟨w.heap.size, 1, none⟩ = some (.slice none 0 0) := cell_of_blk hg2 1
    have d2 : w2.cell? ⟨w.heap.size, 2, none⟩ = some (.int .i64 0) := cell_of_blk hg2 2
    clear hg2 hb2 hno
    go_wp2_with fail
    obtain ⟨p0, p1, p2, HE⟩ := HP.out _ rfl
    unfold set3 at p0 p1 p2 HE
    exact bodyPost_ret (v := .agg #[.slice none 0 0, .slice none 0 0, .int .i64 1]) (by simp [results, Tryz.results43, go_sem, p0, p1, p2]) rfl HE
  · have hL : Leads R f [] Q 40 o := by
      rcases HG.out with ⟨h, _⟩ | ⟨ps, h, hL⟩
      · rw [hQ] at h; cases h
      · rw [hQ] at h
        injection h with h
        rw [data_inj h]
        exact hL
    have hpl := parts_len hQ
    rw [List.length_map] at hpl
    obtain ⟨Aq, cq, rfl, hcq, hzq⟩ := tre.own_facts hown
    have HB2 := Lib.hid hb2
    have HC : Hid (Calls Tryz.prog 87 #[.slice A R.length c, .slice none 0 0, .slice Aq Q.length cq, .bool f, .int .i64 40] w2 (AtOut o w2)) := Lib.hid
      (HAl.out Q hL A c rs none 0 Aq cq w2 ⟨HT.out.later hb2, fun i s h => by simp at h, Nat.le_refl _, fun _ => ⟨rfl, rfl⟩, own_txts hown, hcq, hzq⟩ (by unfold Few; simp only [List.length_nil]; omega))
    clear hQ hL hpl hown hcq hzq hb2
    go_wp2_with fail
    refine HC.out.mono ?_
    rintro e w3 ⟨⟨v, he, hv⟩, hbz⟩
    obtain ⟨B1, m1, e1, B2, m2, e2, kz, rfl⟩ := hv.shape
    subst he
    have HP := Lib.hid (hv.put HX.out HB1.out (HB2.out.trans (hbz.mono HB2.out.size)))
    have hg2 := ((HB2.out.trans (hbz.mono HB2.out.size)).block _ (lt_of_some HX.out)).trans HX.out
    unfold bx3 at hg2
    have z0 := free_of_blk hg2 0
    have z1 := free_of_blk hg2 1
    have z2 := free_of_blk hg2 2
    have d0 : w3.cell? ⟨w.heap.size, 0, none⟩ = some (.slice none 0 0) := cell_of_blk hg2 0
    have d1 : w3.cell? ⟨w.heap.size, 1, none⟩ = some (.slice none 0 0) := cell_of_blk hg2 1
    have d2 : w3.cell? ⟨w.heap.size, 2, none⟩ = some (.int .i64 0) := cell_of_blk hg2 2
    clear hg2 hv hbz
    go_wp2_with fail
    obtain ⟨p0, p1, p2, HE⟩ := HP.out _ rfl
    unfold set3 at p0 p1 p2 HE
    exact bodyPost_ret (v := .agg #[.slice B1 m1 e1, .slice B2 m2 e2, .int .i64 kz]) (by simp [results, Tryz.results43, go_sem, p0, p1, p2]) rfl HE
end Go.Proofs.YtkbhcncbpiimdaaGreatDoor.wlk
