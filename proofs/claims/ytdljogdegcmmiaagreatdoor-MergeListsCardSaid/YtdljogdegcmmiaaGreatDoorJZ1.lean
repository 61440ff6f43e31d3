/- That what is listed in a place, and in all places in it, is what the reference lists. Conditions: the place, the stack and the directories lie in memory, and hang together. -/
import Derived.Test.YtdljogdegcmmiaaGreatDoorJZ0
import Derived.Test.YtdljogdegcmmiaaGreatDoorJP
namespace Go.Proofs.YtdljogdegcmmiaaGreatDoor.mrg
set_option maxRecDepth 100000
open Go.RowKit Go.Proofs.YtdljogdegcmmiaaGreatDoor.words Go.Proofs.YtdljogdegcmmiaaGreatDoor.ext Go.Proofs.YtdljogdegcmmiaaGreatDoor.name Go.Proofs.YtdljogdegcmmiaaGreatDoor.tre Go.Proofs.YtdljogdegcmmiaaGreatDoor.stk Go.Proofs.YtdljogdegcmmiaaGreatDoor.seen

/-- What is listed is there. -/
theorem Kinds.mem {D : List Nd} : ∀ {F : List heap.It} {E : List (ByteArray × Int)}, Kinds D F E → ∀ z ∈ E, ∃ x ∈ F, ∃ (d : Nd) (i : Nat) (y : Nd), z = (x.1, y.K) ∧ y.K ≠ 4 ∧ D[x.2]? = some d ∧ d.N[i]? = some x.1 ∧ d.I[i]? = some y
  | [], E, h, z, hz => by
    have h' : E = [] := h
    rw [h'] at hz
    cases hz
  | x :: F, E, ⟨d, i, y, E', q1, q2, q3, q4, q5⟩, z, hz => by
    rw [q4] at hz
    rcases List.mem_append.1 hz with hz | hz
    · by_cases h4 : y.K = 4
      · rw [if_pos h4] at hz; cases hz
      · rw [if_neg h4] at hz
        exact ⟨x, List.mem_cons_self .., d, i, y, by simpa using hz, h4, q1, q2, q3⟩
    · obtain ⟨x', hx, r⟩ := q5.mem z hz
      exact ⟨x', List.mem_cons_of_mem _ hx, r⟩
/-- What is listed is looked up. -/
theorem listed_seen {D : List Nd} (hD : ∀ d ∈ D, Asc d.N ∧ d.N.length = d.I.length) {out : List heap.It} {E : List (ByteArray × Int)} (hm : heap.Merged (rowsOf D) out) (hk : Kinds D (heap.firsts out) E) {s : ByteArray} {K : Int} (hz : (s, K) ∈ E) : ∃ Q' y, EntN s D Q' ∧ (seenOf Q')[0]? = some y ∧ y.K = K := by
  obtain ⟨x, hx, d, i, y, he, h4, h1, h2, h3⟩ := hk.mem _ hz
  injection he with e1 e2
  subst e1
  obtain ⟨Q', hQ⟩ := EntN.some (s := x.1) (D := D) fun d hd => (hD d hd).2
  exact ⟨Q', y, hQ, seenOf_head (ent_head hQ (fun d hd => (hD d hd).1) h1 h2 h3 (first_top hm hx)) h4, e2.symm⟩
theorem listed_ref {D : List Nd} (hD : ∀ d ∈ D, Asc d.N ∧ d.N.length = d.I.length) {out : List heap.It} {E E2 : List (ByteArray × Int)} {N : List ByteArray} (hm : heap.Merged (rowsOf D) out) (hk : Kinds D (heap.firsts out) E) (hr : heap.Ris N) (hn : ∀ s, s ∈ N ↔ s ∈ namesOf D) (hl : LstK D N E2) : E2 = E := by
  have e : N = (heap.firsts out).map Prod.fst := heap.ris_eq hr hm.names.1 fun s => (hn s).trans (Iff.trans (by
    unfold namesOf rowsOf
    rw [List.mem_flatMap]
    constructor
    · rintro ⟨d, h1, h2⟩
      exact ⟨d.N, List.mem_map_of_mem h1, h2⟩
    · rintro ⟨l, h1, h2⟩
      obtain ⟨d, h3, rfl⟩ := List.mem_map.1 h1
      exact ⟨d, h3, h2⟩) (hm.names.2 s).symm)
  subst e
  exact LstK.uniq (fun d hd => (hD d hd).1) hl (Kinds.ref hD hk fun x hx => first_top hm hx)
/-- Whoever comes to a place that isn't too deep finds what the document says. -/
def MWalks (R : List Nd) (A : Option Addr) (c : Nat) (ad : Int) (L : List (Nat × Int)) (k : Nat) : Prop :=
  ∀ (P : List (Nat × Nat)) (D : List Nd) (Ap : Option Addr) (cp : Nat) (Ad : Option Addr) (cd : Nat) (rs : Nat → Raw) (w : World), D ≠ [] → Ats R P D → Up P → (∀ d ∈ D, depth d < k) →
    StkM w A L (tabs R) → Plc w w.heap.size Ap P → Trees w w.heap.size Ad D rs → P.length ≤ 64 →
    Calls Tryz.prog 15 #[.agg #[.slice A L.length c, .int .i64 ad], .slice Ap P.length cp, .slice Ad D.length cd] w fun e w' => e = .returned (.bool true) ∧ Below w.heap.size w w'
set_option maxHeartbeats 25600000 in
theorem mwalk_step {R : List Nd} (hall : ∀ t ∈ R, allB t = true) (hct : ∀ x d, At R x d → d.N.length ≤ 4096) (A : Option Addr) (c : Nat) (ad : Int) (L : List (Nat × Int)) (m : Nat) (IH : MWalks R A c ad L m)
    (P : List (Nat × Nat)) (D : List Nd) (Ap : Option Addr) (cp : Nat) (Ad : Option Addr) (cd : Nat) (rs : Nat → Raw) (w : World) (hD : Ats R P D) (hU : Up P) (hm : ∀ d ∈ D, depth d < m + 1)
    (h : StkM w A L (tabs R)) (hp : Plc w w.heap.size Ap P) (hT : Trees w w.heap.size Ad D rs) (hlp : P.length ≤ 64) :
    Calls Tryz.prog 15 #[.agg #[.slice A L.length c, .int .i64 ad], .slice Ap P.length cp, .slice Ad D.length cd] w fun e w' => e = .returned (.bool true) ∧ Below w.heap.size w w' := by
  obtain ⟨W1, hW1⟩ : ∃ W1, W1 = w.alloc (.cells #[.slice A L.length c, .int .i64 ad] 27) := ⟨_, rfl⟩
  have hb1 : Below w.heap.size w W1 := by rw [hW1]; exact (Below.refl _ _).alloc (Nat.le_refl _) _
  have hs1 : W1.heap[w.heap.size]? = some (.cells #[.slice A L.length c, .int .i64 ad] 27 (0, 0)) := by rw [hW1]; exact heap_alloc_new w _
  have hlen : D.length = P.length := hD.length.symm
  have hdr := hD.right hall
  have hdc : ∀ d ∈ D, d.N.length ≤ 4096 := fun d hd => by
    obtain ⟨x, _, hx⟩ := hD.mem d hd
    exact hct x d hx
  have HLI := Lib.hid (list_any hall hD hdc A c ad L Ap cp W1 (h.later hb1) ((hp.keep hb1).more hb1.size) hlp)
  have HK := Lib.hid hs1
  have HS := Lib.hid (h.later hb1)
  have HP := Lib.hid ((hp.keep hb1).more hb1.size)
  have HT := Lib.hid (hT.later hb1)
  have HW1 := Lib.hid hW1
  have HB1 := Lib.hid hb1
  have HD := Lib.hid hD
  have HU := Lib.hid hU
  have HM := Lib.hid hm
  have HIH := Lib.hid IH
  have HAll := Lib.hid hall
  have HDr := Lib.hid hdr
  have HRF : Hid (∀ w' : World, Below W1.heap.size W1 w' → Calls Tryz.prog 60 #[.slice Ad P.length cd] w' (RefOut D w')) := Lib.hid fun w' hb => by
    have h1 := reflist_any Ad cd D rs w' ((hT.later hb1).later hb) (by omega) hdr hdc
    rw [hlen] at h1
    exact h1
  have HTot := Lib.hid (show heap.tot (rowsOf D) ≤ 64 * 4096 by
    have h1 := tot_le (L := rowsOf D) (K := 4096) fun l hl => by
      obtain ⟨i, hi⟩ := List.mem_iff_getElem?.1 hl
      obtain ⟨d, hd, rfl⟩ := rows_at hi
      exact hdc d (List.mem_of_getElem? hd)
    rw [rows_len, hlen] at h1
    exact Nat.le_trans h1 (Nat.mul_le_mul_right _ hlp))
  have HLen := Lib.hid hlen
  clear hW1 hb1 hs1 h hp hT hD hU hm IH hall hct hdr hdc
  rw [hlen]
  clear hlen
  go_enter Tryz.func15, Tryz.ntmps15
  go_upto_region 1 with fail
  rw [← HW1.out]
  clear HW1
  have s0 := cell_of_blk HK.out 0
  have s1 := cell_of_blk HK.out 1
  go_wp2_with fail
  refine HLI.out.mono ?_
  rintro e w2 ⟨out, E, AE, cE, hmg, hkn, rfl, hoE, hb2⟩
  have hE6 : E.length ≤ 1000000 := by
    have h1 := hmg.1.length_eq
    have h2 : (heap.allF (rowsOf D)).length ≤ 64 * 4096 := HTot.out
    have h3 := hkn.len
    have h4 := heap.firsts_le out
    omega
  have HMg := Lib.hid hmg
  have HKn := Lib.hid hkn
  have HLE := Lib.hid (lies_own hoE)
  have HB2 := Lib.hid hb2
  have HR2 := Lib.hid (HRF.out w2 hb2)
  clear hmg hkn hoE hb2 HLI HRF s0 s1
  go_wp2_with fail
  refine HR2.out.mono ?_
  rintro e w3 ⟨⟨N, E2, A2, c2, h1, h2, h3, h4, rfl, h5⟩, hb3⟩
  obtain rfl := listed_ref HDr.out HMg.out HKn.out h1 h2 h3
  have HSM := Lib.hid (same_any AE cE A2 c2 E2 w3 (Below.lies HLE.out hb3) h5 hE6)
  have HB3 := Lib.hid (HB2.out.trans (hb3.mono HB2.out.size))
  have HE3 := Lib.hid hb3
  clear h1 h2 h3 h4 h5 hb3 HR2
  go_wp2_with fail
  refine HSM.out.mono ?_
  rintro e w4 ⟨rfl, hb4⟩
  have HB4 := Lib.hid (HB3.out.trans (hb4.mono HB3.out.size))
  have HE4 := Lib.hid (HE3.out.trans (hb4.mono HE3.out.size))
  clear hb4 HSM HB3 HE3
  go_wp2_with fail
  go_loopw [22] (fun v wr => ∃ i : Nat, v = .int .i64 (i : Int) ∧ i ≤ E2.length ∧ Hid (Below w4.heap.size w4 wr)) (fun v _ => E2.length - (intOf v).toNat)
  case atStart => exact ⟨0, rfl, Nat.zero_le _, Lib.hid (Below.refl _ _)⟩
  case round =>
    obtain ⟨i, rfl, hi, HB⟩ := hrel
    by_cases hlt : i < E2.length
    · obtain ⟨⟨s, K⟩, hs⟩ : ∃ x, E2[i]? = some x := ⟨_, List.getElem?_eq_getElem hlt⟩
      obtain ⟨Q', y, hQ, hy, hyK⟩ := listed_seen HDr.out HMg.out HKn.out (List.mem_of_getElem? hs)
      have hbe := HE4.out.trans (HB.out.mono HE4.out.size)
      have hbw := HB4.out.trans (HB.out.mono HB4.out.size)
      obtain ⟨be, oe, hAE, hbe0, x0, x1⟩ := lies_en HLE.out hs
      subst hAE
      have x0 := (hbe.cell (p := ⟨be, oe + i * 2, none⟩) hbe0).trans x0
      have x1 := (hbe.cell (p := ⟨be, oe + i * 2 + 1, none⟩) hbe0).trans x1
      have i0 : (0 : Int) ≤ (i : Int) := by omega
      have i1 : (i : Int) < (E2.length : Int) := by omega
      obtain ⟨W5, hW5⟩ : ∃ W5, W5 = wr.alloc (.cells #[.string s, .int .i64 K] 84) := ⟨_, rfl⟩
      have hb5 : Below wr.heap.size wr W5 := by rw [hW5]; exact (Below.refl _ _).alloc (Nat.le_refl _) _
      have hk5 : W5.heap[wr.heap.size]? = some (.cells #[.string s, .int .i64 K] 84 (0, 0)) := by rw [hW5]; exact heap_alloc_new wr _
      have hbw5 := hbw.trans (hb5.mono hbw.size)
      have hkr := (hbw5.block _ (lt_of_some HK.out)).trans HK.out
      have s0 := cell_of_blk hkr 0
      have s1 := cell_of_blk hkr 1
      have y0 := cell_of_blk hk5 0
      have y1 := cell_of_blk hk5 1
      have hL := (seen_any HAll.out HD.out HU.out hQ A c ad L Ap cp W5 (HS.out.later hbw5) ((HP.out.keep hbw5).more hbw5.size) (by omega)).mono fun _ _ h => Saw.sees h
      unfold stkV at hL
      have HL := Lib.hid hL
      have HQ := Lib.hid hQ
      have HY := Lib.hid hy
      have HYK := Lib.hid hyK
      have HK5 := Lib.hid hk5
      have HBW := Lib.hid hbw5
      have HB5 := Lib.hid (HB.out.trans (hb5.mono HB.out.size))
      have HW5 := Lib.hid hW5
      clear hs hQ hy hyK hbe hbw hbe0 hW5 hb5 hk5 hbw5 hkr hL HB
      go_upto_region 7 with fail
      rw [← HW5.out]
      clear HW5 x0 x1
      go_wp2_with fail
      refine HL.out.mono ?_
      rintro en w6 ⟨hsee, hb6⟩
      rcases hsee with ⟨hno, rfl⟩ | ⟨lv, nd, d, Af, nf, cf, hd, hat, htop, htail, rfl⟩
      · have h0 := HY.out
        rw [hno] at h0
        simp at h0
      · have hdy : d = y := by
          have h0 := HY.out
          rw [hd] at h0
          exact Option.some.inj h0
        have hdK : d.K = K := by rw [hdy]; exact HYK.out
        rw [hdK]
        obtain ⟨W7, hW7⟩ : ∃ W7, W7 = w6.alloc (.cells #[.int .i64 K, .int .i64 (lv : Int), .int .i64 (nd : Int), .slice Af nf cf] 41) := ⟨_, rfl⟩
        have hb7 : Below w6.heap.size w6 W7 := by rw [hW7]; exact (Below.refl _ _).alloc (Nat.le_refl _) _
        have hk7 : W7.heap[w6.heap.size]? = some (.cells #[.int .i64 K, .int .i64 (lv : Int), .int .i64 (nd : Int), .slice Af nf cf] 41 (0, 0)) := by rw [hW7]; exact heap_alloc_new w6 _
        have hb67 := hb6.trans (hb7.mono hb6.size)
        have hk57 := (hb67.block _ (lt_of_some HK5.out)).trans HK5.out
        have hbw7 := HBW.out.trans (hb67.mono HBW.out.size)
        have hkr := (hbw7.block _ (lt_of_some HK.out)).trans HK.out
        have HB7 := Lib.hid (HB5.out.trans (hb67.mono HB5.out.size))
        have HBW7 := Lib.hid hbw7
        have HTl := Lib.hid (htail.later hb7)
        have HKr := Lib.hid hkr
        have HK57 := Lib.hid hk57
        have HK7 := Lib.hid hk7
        have HDK := Lib.hid hdK
        have hS0 : ∀ w' : World, Below W7.heap.size W7 w' → (w'.cell? ⟨wr.heap.size, 0, none⟩ = some (.string s) ∧ w'.cell? ⟨wr.heap.size, 1, none⟩ = some (.int .i64 K) ∧ w'.cell? ⟨w6.heap.size, 0, none⟩ = some (.int .i64 K) ∧ w'.cell? ⟨w6.heap.size, 3, none⟩ = some (.slice Af nf cf) ∧ w'.cell? ⟨w.heap.size, 0, none⟩ = some (.slice A L.length c) ∧ w'.cell? ⟨w.heap.size, 1, none⟩ = some (.int .i64 ad) ∧ Below W7.heap.size W7 w') := fun w' hb' => by
          have e1 := (hb'.block _ (lt_of_some HK57.out)).trans HK57.out
          have e2 := (hb'.block _ (lt_of_some HK7.out)).trans HK7.out
          have e3 := (hb'.block _ (lt_of_some HKr.out)).trans HKr.out
          exact ⟨cell_of_blk e1 0, cell_of_blk e1 1, cell_of_blk e2 0, cell_of_blk e2 3, cell_of_blk e3 0, cell_of_blk e3 1, hb'⟩
        have HSS := Lib.hid hS0
        have HBv : Hid (Below W7.heap.size W7 W7.drew) := Lib.hid (Below.refl _ _).drew
        have HW7 := Lib.hid hW7
        have gKK : (K != K) = false := by simp
        clear hd hat htop htail hdy hdK hW7 hb6 hb7 hk7 hb67 hk57 hbw7 hkr hS0 HL s0 s1 y0 y1 HK5
        go_upto_region 8 with fail
        rw [← HW7.out]
        clear HW7
        rcases HTl.out with ⟨hk, rfl⟩ | ⟨hk, Q, rfl, hq1, hq2, hq3, hq4, hq5⟩
        · rw [HDK.out] at hk
          have gk : (K == 2) = false := by simp [hk]
          clear hk
          refine wp_region_held_drew (S := fun w' => (w'.cell? ⟨wr.heap.size, 0, none⟩ = some (.string s) ∧ w'.cell? ⟨wr.heap.size, 1, none⟩ = some (.int .i64 K) ∧ w'.cell? ⟨w6.heap.size, 0, none⟩ = some (.int .i64 K) ∧ w'.cell? ⟨w6.heap.size, 3, none⟩ = some (.slice Af 0 cf) ∧ w'.cell? ⟨w.heap.size, 0, none⟩ = some (.slice A L.length c) ∧ w'.cell? ⟨w.heap.size, 1, none⟩ = some (.int .i64 ad) ∧ Below W7.heap.size W7 w')) (by kernel_rfl) (HSS.out _ HBv.out) (fun hHeld => ?_)
          refine wpAnyH_take (i := 0) (oi := ⟨some 34, _, _, _, _, _⟩) (v := ?_) rfl (by kernel_rfl) (by kernel_rfl) (by kernel_rfl) (fun _ _ _ h => h) (Or.inl ⟨by kernel_rfl, ?_⟩) (by assumption) ?_
          rotate_left 1
          focus (intro w' hSw; (try dsimp only at hSw); go_simp; (try with_reducible rfl))
          try simp only [Act.put, List.setIfInBounds_toArray, List.set_cons_zero, List.set_cons_succ]
          refine wpAnyH_take (i := 1) (oi := ⟨some 35, _, _, _, _, _⟩) (v := ?_) rfl (by kernel_rfl) (by kernel_rfl) (by kernel_rfl) (fun _ _ _ h => h) (Or.inl ⟨by kernel_rfl, ?_⟩) (by assumption) ?_
          rotate_left 1
          focus (intro w' hSw; (try dsimp only at hSw); go_simp; (try with_reducible rfl))
          try simp only [Act.put, List.setIfInBounds_toArray, List.set_cons_zero, List.set_cons_succ]
          refine wpAnyH_take (i := 2) (oi := ⟨some 36, _, _, _, _, _⟩) (v := ?_) rfl (by kernel_rfl) (by kernel_rfl) (by kernel_rfl) (fun _ _ _ h => h) (Or.inl ⟨by kernel_rfl, ?_⟩) (by assumption) ?_
          rotate_left 1
          focus (intro w' hSw; (try dsimp only at hSw); go_simp; (try with_reducible rfl))
          try simp only [Act.put, List.setIfInBounds_toArray, List.set_cons_zero, List.set_cons_succ]
          refine wpAnyH_take (i := 3) (oi := ⟨some 37, _, _, _, _, _⟩) (v := ?_) rfl (by kernel_rfl) (by kernel_rfl) (by kernel_rfl) (fun _ _ _ h => h) (Or.inl ⟨by kernel_rfl, ?_⟩) (by assumption) ?_
          rotate_left 1
          focus (intro w' hSw; (try dsimp only at hSw); go_simp; (try with_reducible rfl))
          try simp only [Act.put, List.setIfInBounds_toArray, List.set_cons_zero, List.set_cons_succ]
          refine wpAnyH_take (i := 4) (oi := ⟨some 38, _, _, _, _, _⟩) (v := ?_) rfl (by kernel_rfl) (by kernel_rfl) (by kernel_rfl) (fun _ _ _ h => h) (Or.inl ⟨by kernel_rfl, ?_⟩) (by assumption) ?_
          rotate_left 1
          focus (intro w' hSw; (try dsimp only at hSw); go_simp; (try with_reducible rfl))
          try simp only [Act.put, List.setIfInBounds_toArray, List.set_cons_zero, List.set_cons_succ]
          refine wpAnyH_take (i := 5) (oi := ⟨some 39, _, _, _, _, _⟩) (v := ?_) rfl (by kernel_rfl) (by kernel_rfl) (by kernel_rfl) (fun _ _ _ h => h) (Or.inl ⟨by kernel_rfl, ?_⟩) (by assumption) ?_
          rotate_left 1
          focus (intro w' hSw; (try dsimp only at hSw); go_simp; (try with_reducible rfl))
          try simp only [Act.put, List.setIfInBounds_toArray, List.set_cons_zero, List.set_cons_succ]
          refine wpAnyH_take (i := 6) (oi := ⟨some 40, _, _, _, _, _⟩) (v := ?_) rfl (by kernel_rfl) (by kernel_rfl) (by kernel_rfl) (fun _ _ _ h => h) (Or.inl ⟨by kernel_rfl, ?_⟩) (by assumption) ?_
          rotate_left 1
          focus (intro w' hSw; (try dsimp only at hSw); go_simp; (try with_reducible rfl))
          try simp only [Act.put, List.setIfInBounds_toArray, List.set_cons_zero, List.set_cons_succ]
          refine wpAnyH_take (i := 7) (oi := ⟨some 41, _, _, _, _, _⟩) (v := ?_) rfl (by kernel_rfl) (by kernel_rfl) (by kernel_rfl) (fun _ _ _ h => h) (Or.inl ⟨by kernel_rfl, ?_⟩) (by assumption) ?_
          rotate_left 1
          focus (intro w' hSw; (try dsimp only at hSw); go_simp; (try with_reducible rfl))
          try simp only [Act.put, List.setIfInBounds_toArray, List.set_cons_zero, List.set_cons_succ]
          refine wpAnyH_take (i := 8) (oi := ⟨some 42, _, _, _, _, _⟩) (v := ?_) rfl (by kernel_rfl) (by kernel_rfl) (by kernel_rfl) (fun _ _ _ h => h) (Or.inl ⟨by kernel_rfl, ?_⟩) (by assumption) ?_
          rotate_left 1
          focus (intro w' hSw; (try dsimp only at hSw); go_simp; (try with_reducible rfl))
          try simp only [Act.put, List.setIfInBounds_toArray, List.set_cons_zero, List.set_cons_succ]
          refine wpAnyH_take (i := 9) (oi := ⟨some 43, _, _, _, _, _⟩) (v := ?_) rfl (by kernel_rfl) (by kernel_rfl) (by kernel_rfl) (fun _ _ _ h => h) (Or.inl ⟨by kernel_rfl, ?_⟩) (by assumption) ?_
          rotate_left 1
          focus (intro w' hSw; (try dsimp only at hSw); go_simp; (try with_reducible rfl))
          try simp only [Act.put, List.setIfInBounds_toArray, List.set_cons_zero, List.set_cons_succ]
          refine wpAnyH_take (i := 10) (oi := ⟨some 44, _, _, _, _, _⟩) (v := ?_) rfl (by kernel_rfl) (by kernel_rfl) (by kernel_rfl) (fun _ _ _ h => h) (Or.inl ⟨by kernel_rfl, ?_⟩) (by assumption) ?_
          rotate_left 1
          focus (intro w' hSw; (try dsimp only at hSw); go_simp; (try with_reducible rfl))
          try simp only [Act.put, List.setIfInBounds_toArray, List.set_cons_zero, List.set_cons_succ]
          refine wpAnyH_take (i := 11) (oi := ⟨some 45, _, _, _, _, _⟩) (v := ?_) rfl (by kernel_rfl) (by kernel_rfl) (by kernel_rfl) (fun _ _ _ h => h) (Or.inl ⟨by kernel_rfl, ?_⟩) (by assumption) ?_
          rotate_left 1
          focus (intro w' hSw; (try dsimp only at hSw); go_simp; (try with_reducible rfl))
          try simp only [Act.put, List.setIfInBounds_toArray, List.set_cons_zero, List.set_cons_succ]
          refine wpAnyH_take (i := 12) (oi := ⟨some 46, _, _, _, _, _⟩) (v := ?_) rfl (by kernel_rfl) (by kernel_rfl) (by kernel_rfl) (fun _ _ _ h => h) (Or.inl ⟨by kernel_rfl, ?_⟩) (by assumption) ?_
          rotate_left 1
          focus (intro w' hSw; (try dsimp only at hSw); go_simp; (try with_reducible rfl))
          try simp only [Act.put, List.setIfInBounds_toArray, List.set_cons_zero, List.set_cons_succ]
          refine wpAnyH_take (i := 13) (oi := ⟨some 47, _, _, _, _, _⟩) (v := ?_) rfl (by kernel_rfl) (by kernel_rfl) (by kernel_rfl) (fun _ _ _ h => h) (Or.inl ⟨by kernel_rfl, ?_⟩) (by assumption) ?_
          rotate_left 1
          focus (intro w' hSw; (try dsimp only at hSw); go_simp; (try with_reducible rfl))
          try simp only [Act.put, List.setIfInBounds_toArray, List.set_cons_zero, List.set_cons_succ]
          refine wpAnyH_take (i := 14) (oi := ⟨some 48, _, _, _, _, _⟩) (v := undef) rfl (by kernel_rfl) (by kernel_rfl) (by kernel_rfl) (fun _ _ _ h => h) (Or.inr ⟨by kernel_rfl, rfl⟩) (by assumption) ?_
          try simp only [Act.put, List.setIfInBounds_toArray, List.set_cons_zero, List.set_cons_succ]
          refine wpAnyH_take (i := 15) (oi := ⟨some 49, _, _, _, _, _⟩) (v := undef) rfl (by kernel_rfl) (by kernel_rfl) (by kernel_rfl) (fun _ _ _ h => h) (Or.inr ⟨by kernel_rfl, rfl⟩) (by assumption) ?_
          try simp only [Act.put, List.setIfInBounds_toArray, List.set_cons_zero, List.set_cons_succ]
          refine wpAnyH_take (i := 16) (oi := ⟨some 50, _, _, _, _, _⟩) (v := undef) rfl (by kernel_rfl) (by kernel_rfl) (by kernel_rfl) (fun _ _ _ h => h) (Or.inr ⟨by kernel_rfl, rfl⟩) (by assumption) ?_
          try simp only [Act.put, List.setIfInBounds_toArray, List.set_cons_zero, List.set_cons_succ]
          refine wpAnyH_take (i := 17) (oi := ⟨some 51, _, _, _, _, _⟩) (v := undef) rfl (by kernel_rfl) (by kernel_rfl) (by kernel_rfl) (fun _ _ _ h => h) (Or.inr ⟨by kernel_rfl, rfl⟩) (by assumption) ?_
          try simp only [Act.put, List.setIfInBounds_toArray, List.set_cons_zero, List.set_cons_succ]
          refine wpAnyH_take (i := 18) (oi := ⟨some 52, _, _, _, _, _⟩) (v := undef) rfl (by kernel_rfl) (by kernel_rfl) (by kernel_rfl) (fun _ _ _ h => h) (Or.inr ⟨by kernel_rfl, rfl⟩) (by assumption) ?_
          try simp only [Act.put, List.setIfInBounds_toArray, List.set_cons_zero, List.set_cons_succ]
          refine wpAnyH_take (i := 19) (oi := ⟨some 53, _, _, _, _, _⟩) (v := undef) rfl (by kernel_rfl) (by kernel_rfl) (by kernel_rfl) (fun _ _ _ h => h) (Or.inr ⟨by kernel_rfl, rfl⟩) (by assumption) ?_
          try simp only [Act.put, List.setIfInBounds_toArray, List.set_cons_zero, List.set_cons_succ]
          refine wpAnyH_take (i := 20) (oi := ⟨some 54, _, _, _, _, _⟩) (v := undef) rfl (by kernel_rfl) (by kernel_rfl) (by kernel_rfl) (fun _ _ _ h => h) (Or.inr ⟨by kernel_rfl, rfl⟩) (by assumption) ?_
          try simp only [Act.put, List.setIfInBounds_toArray, List.set_cons_zero, List.set_cons_succ]
          refine wpAnyH_take (i := 21) (oi := ⟨some 55, _, _, _, _, _⟩) (v := undef) rfl (by kernel_rfl) (by kernel_rfl) (by kernel_rfl) (fun _ _ _ h => h) (Or.inr ⟨by kernel_rfl, rfl⟩) (by assumption) ?_
          try simp only [Act.put, List.setIfInBounds_toArray, List.set_cons_zero, List.set_cons_succ]
          refine wpAnyH_take (i := 22) (oi := ⟨some 56, _, _, _, _, _⟩) (v := undef) rfl (by kernel_rfl) (by kernel_rfl) (by kernel_rfl) (fun _ _ _ h => h) (Or.inr ⟨by kernel_rfl, rfl⟩) (by assumption) ?_
          try simp only [Act.put, List.setIfInBounds_toArray, List.set_cons_zero, List.set_cons_succ]
          refine wpAnyH_take (i := 23) (oi := ⟨some 57, _, _, _, _, _⟩) (v := ?_) rfl (by kernel_rfl) (by kernel_rfl) (by kernel_rfl) (fun _ _ _ h => h) (Or.inl ⟨by kernel_rfl, ?_⟩) (by assumption) ?_
          rotate_left 1
          focus (intro w' hSw; (try dsimp only at hSw); go_simp; (try with_reducible rfl))
          try simp only [Act.put, List.setIfInBounds_toArray, List.set_cons_zero, List.set_cons_succ]
          refine wpAnyH_take (i := 24) (oi := ⟨some 58, _, _, _, _, _⟩) (v := ?_) rfl (by kernel_rfl) (by kernel_rfl) (by kernel_rfl) (fun _ _ _ h => h) (Or.inl ⟨by kernel_rfl, ?_⟩) (by assumption) ?_
          rotate_left 1
          focus (intro w' hSw; (try dsimp only at hSw); go_simp; (try with_reducible rfl))
          try simp only [Act.put, List.setIfInBounds_toArray, List.set_cons_zero, List.set_cons_succ]
          refine wpAnyH_done (by kernel_rfl) ?_ _
          have HB8 := Lib.hid (HB7.out.trans (HBv.out.mono HB7.out.size))
          clear hHeld HSS HBv
          go_wp2_with fail
          go_roundw
          case rel => exact ⟨i + 1, by go_num, by omega, HB8⟩
          case measure => simp [intOf]; omega
        · rw [HDK.out] at hk
          have gk : (K == 2) = true := by simp [hk]
          have hql : Q.length = (seenOf Q').length := hq1.length
          have hq64 : Q.length ≤ 64 := by
            have h1 := seenOf_len Q'
            have h2 := HQ.out.len
            have := HLen.out
            omega
          have hqp : 0 < Q.length := (List.getElem?_eq_some_iff.1 hq3).1
          have hne : seenOf Q' ≠ [] := fun h => by
            have h0 : Q.length = 0 := by rw [hql, h]; rfl
            omega
          have hdep := seen_depth HQ.out HM.out
          have JS : Hid (∀ w' : World, Below W7.heap.size W7 w' → Calls Tryz.prog 61 #[.slice Ad P.length cd, .string s] w' fun e w'' => (∃ Al cl rsl, e = .returned (.slice Al (seenOf Q').length cl) ∧ Trees w'' w''.heap.size Al (seenOf Q') rsl) ∧ Below W7.heap.size W7 w'') := Lib.hid fun w' hb => by
            have h1 := refs_any HDr.out HQ.out Ad cd rs w' (HT.out.later (HBW7.out.trans (hb.mono HBW7.out.size))) (by have := HLen.out; omega)
            rw [HLen.out] at h1
            exact h1.mono fun e w'' ⟨Al, cl, rsl, h2, h3, _, h4⟩ => ⟨⟨Al, cl, rsl, h2, h3⟩, hb.trans (h4.mono hb.size)⟩
          have JW : Hid (∀ (w' : World) (Al : Option Addr) (cl : Nat) (rsl : Nat → Raw), Below W7.heap.size W7 w' → Trees w' w'.heap.size Al (seenOf Q') rsl → Calls Tryz.prog 15 #[.agg #[.slice A L.length c, .int .i64 ad], .slice Af Q.length cf, .slice Al (seenOf Q').length cl] w' fun e w'' => e = .returned (.bool true) ∧ Below W7.heap.size W7 w'') := Lib.hid fun w' Al cl rsl hb ht =>
            (HIH.out Q (seenOf Q') Af cf Al cl rsl w' hne hq1 hq2 hdep (HS.out.later (HBW7.out.trans (hb.mono HBW7.out.size))) ((hq5.keep hb).more hb.size) ht hq64).mono fun _ _ ⟨he, hw⟩ => ⟨he, hb.trans (hw.mono hb.size)⟩
          clear hq1 hq2 hq3 hq4 hq5 hne hdep hql hk
          refine wp_region_held_drew (S := fun w' => (w'.cell? ⟨wr.heap.size, 0, none⟩ = some (.string s) ∧ w'.cell? ⟨wr.heap.size, 1, none⟩ = some (.int .i64 K) ∧ w'.cell? ⟨w6.heap.size, 0, none⟩ = some (.int .i64 K) ∧ w'.cell? ⟨w6.heap.size, 3, none⟩ = some (.slice Af Q.length cf) ∧ w'.cell? ⟨w.heap.size, 0, none⟩ = some (.slice A L.length c) ∧ w'.cell? ⟨w.heap.size, 1, none⟩ = some (.int .i64 ad) ∧ Below W7.heap.size W7 w')) (by kernel_rfl) (HSS.out _ HBv.out) (fun hHeld => ?_)
          refine wpAnyH_take (i := 0) (oi := ⟨some 34, _, _, _, _, _⟩) (v := ?_) rfl (by kernel_rfl) (by kernel_rfl) (by kernel_rfl) (fun _ _ _ h => h) (Or.inl ⟨by kernel_rfl, ?_⟩) (by assumption) ?_
          rotate_left 1
          focus (intro w' hSw; (try dsimp only at hSw); go_simp; (try with_reducible rfl))
          try simp only [Act.put, List.setIfInBounds_toArray, List.set_cons_zero, List.set_cons_succ]
          refine wpAnyH_take (i := 1) (oi := ⟨some 35, _, _, _, _, _⟩) (v := ?_) rfl (by kernel_rfl) (by kernel_rfl) (by kernel_rfl) (fun _ _ _ h => h) (Or.inl ⟨by kernel_rfl, ?_⟩) (by assumption) ?_
          rotate_left 1
          focus (intro w' hSw; (try dsimp only at hSw); go_simp; (try with_reducible rfl))
          try simp only [Act.put, List.setIfInBounds_toArray, List.set_cons_zero, List.set_cons_succ]
          refine wpAnyH_take (i := 2) (oi := ⟨some 36, _, _, _, _, _⟩) (v := ?_) rfl (by kernel_rfl) (by kernel_rfl) (by kernel_rfl) (fun _ _ _ h => h) (Or.inl ⟨by kernel_rfl, ?_⟩) (by assumption) ?_
          rotate_left 1
          focus (intro w' hSw; (try dsimp only at hSw); go_simp; (try with_reducible rfl))
          try simp only [Act.put, List.setIfInBounds_toArray, List.set_cons_zero, List.set_cons_succ]
          refine wpAnyH_take (i := 3) (oi := ⟨some 37, _, _, _, _, _⟩) (v := ?_) rfl (by kernel_rfl) (by kernel_rfl) (by kernel_rfl) (fun _ _ _ h => h) (Or.inl ⟨by kernel_rfl, ?_⟩) (by assumption) ?_
          rotate_left 1
          focus (intro w' hSw; (try dsimp only at hSw); go_simp; (try with_reducible rfl))
          try simp only [Act.put, List.setIfInBounds_toArray, List.set_cons_zero, List.set_cons_succ]
          refine wpAnyH_take (i := 4) (oi := ⟨some 38, _, _, _, _, _⟩) (v := ?_) rfl (by kernel_rfl) (by kernel_rfl) (by kernel_rfl) (fun _ _ _ h => h) (Or.inl ⟨by kernel_rfl, ?_⟩) (by assumption) ?_
          rotate_left 1
          focus (intro w' hSw; (try dsimp only at hSw); go_simp; (try with_reducible rfl))
          try simp only [Act.put, List.setIfInBounds_toArray, List.set_cons_zero, List.set_cons_succ]
          refine wpAnyH_take (i := 5) (oi := ⟨some 39, _, _, _, _, _⟩) (v := ?_) rfl (by kernel_rfl) (by kernel_rfl) (by kernel_rfl) (fun _ _ _ h => h) (Or.inl ⟨by kernel_rfl, ?_⟩) (by assumption) ?_
          rotate_left 1
          focus (intro w' hSw; (try dsimp only at hSw); go_simp; (try with_reducible rfl))
          try simp only [Act.put, List.setIfInBounds_toArray, List.set_cons_zero, List.set_cons_succ]
          refine wpAnyH_take (i := 6) (oi := ⟨some 40, _, _, _, _, _⟩) (v := ?_) rfl (by kernel_rfl) (by kernel_rfl) (by kernel_rfl) (fun _ _ _ h => h) (Or.inl ⟨by kernel_rfl, ?_⟩) (by assumption) ?_
          rotate_left 1
          focus (intro w' hSw; (try dsimp only at hSw); go_simp; (try with_reducible rfl))
          try simp only [Act.put, List.setIfInBounds_toArray, List.set_cons_zero, List.set_cons_succ]
          refine wpAnyH_take (i := 7) (oi := ⟨some 41, _, _, _, _, _⟩) (v := ?_) rfl (by kernel_rfl) (by kernel_rfl) (by kernel_rfl) (fun _ _ _ h => h) (Or.inl ⟨by kernel_rfl, ?_⟩) (by assumption) ?_
          rotate_left 1
          focus (intro w' hSw; (try dsimp only at hSw); go_simp; (try with_reducible rfl))
          try simp only [Act.put, List.setIfInBounds_toArray, List.set_cons_zero, List.set_cons_succ]
          refine wpAnyH_take (i := 8) (oi := ⟨some 42, _, _, _, _, _⟩) (v := ?_) rfl (by kernel_rfl) (by kernel_rfl) (by kernel_rfl) (fun _ _ _ h => h) (Or.inl ⟨by kernel_rfl, ?_⟩) (by assumption) ?_
          rotate_left 1
          focus (intro w' hSw; (try dsimp only at hSw); go_simp; (try with_reducible rfl))
          try simp only [Act.put, List.setIfInBounds_toArray, List.set_cons_zero, List.set_cons_succ]
          refine wpAnyH_take (i := 9) (oi := ⟨some 43, _, _, _, _, _⟩) (v := ?_) rfl (by kernel_rfl) (by kernel_rfl) (by kernel_rfl) (fun _ _ _ h => h) (Or.inl ⟨by kernel_rfl, ?_⟩) (by assumption) ?_
          rotate_left 1
          focus (intro w' hSw; (try dsimp only at hSw); go_simp; (try with_reducible rfl))
          try simp only [Act.put, List.setIfInBounds_toArray, List.set_cons_zero, List.set_cons_succ]
          refine wpAnyH_take (i := 10) (oi := ⟨some 44, _, _, _, _, _⟩) (v := ?_) rfl (by kernel_rfl) (by kernel_rfl) (by kernel_rfl) (fun _ _ _ h => h) (Or.inl ⟨by kernel_rfl, ?_⟩) (by assumption) ?_
          rotate_left 1
          focus (intro w' hSw; (try dsimp only at hSw); go_simp; (try with_reducible rfl))
          try simp only [Act.put, List.setIfInBounds_toArray, List.set_cons_zero, List.set_cons_succ]
          refine wpAnyH_take (i := 11) (oi := ⟨some 45, _, _, _, _, _⟩) (v := ?_) rfl (by kernel_rfl) (by kernel_rfl) (by kernel_rfl) (fun _ _ _ h => h) (Or.inl ⟨by kernel_rfl, ?_⟩) (by assumption) ?_
          rotate_left 1
          focus (intro w' hSw; (try dsimp only at hSw); go_simp; (try with_reducible rfl))
          try simp only [Act.put, List.setIfInBounds_toArray, List.set_cons_zero, List.set_cons_succ]
          refine wpAnyH_take (i := 12) (oi := ⟨some 46, _, _, _, _, _⟩) (v := ?_) rfl (by kernel_rfl) (by kernel_rfl) (by kernel_rfl) (fun _ _ _ h => h) (Or.inl ⟨by kernel_rfl, ?_⟩) (by assumption) ?_
          rotate_left 1
          focus (intro w' hSw; (try dsimp only at hSw); go_simp; (try with_reducible rfl))
          try simp only [Act.put, List.setIfInBounds_toArray, List.set_cons_zero, List.set_cons_succ]
          refine wpAnyH_take (i := 13) (oi := ⟨some 47, _, _, _, _, _⟩) (v := ?_) rfl (by kernel_rfl) (by kernel_rfl) (by kernel_rfl) (fun _ _ _ h => h) (Or.inl ⟨by kernel_rfl, ?_⟩) (by assumption) ?_
          rotate_left 1
          focus (intro w' hSw; (try dsimp only at hSw); go_simp; (try with_reducible rfl))
          try simp only [Act.put, List.setIfInBounds_toArray, List.set_cons_zero, List.set_cons_succ]
          refine wpAnyH_take (i := 14) (oi := ⟨some 48, _, _, _, _, _⟩) (v := ?_) rfl (by kernel_rfl) (by kernel_rfl) (by kernel_rfl) (fun _ _ _ h => h) (Or.inl ⟨by kernel_rfl, ?_⟩) (by assumption) ?_
          rotate_left 1
          focus (intro w' hSw; (try dsimp only at hSw); go_simp; (try with_reducible rfl))
          try simp only [Act.put, List.setIfInBounds_toArray, List.set_cons_zero, List.set_cons_succ]
          refine wpAnyH_take (i := 15) (oi := ⟨some 49, _, _, _, _, _⟩) (v := ?_) rfl (by kernel_rfl) (by kernel_rfl) (by kernel_rfl) (fun _ _ _ h => h) (Or.inl ⟨by kernel_rfl, ?_⟩) (by assumption) ?_
          rotate_left 1
          focus (intro w' hSw; (try dsimp only at hSw); go_simp; (try with_reducible rfl))
          try simp only [Act.put, List.setIfInBounds_toArray, List.set_cons_zero, List.set_cons_succ]
          refine wpAnyH_take (i := 16) (oi := ⟨some 50, _, _, _, _, _⟩) (v := ?_) rfl (by kernel_rfl) (by kernel_rfl) (by kernel_rfl) (fun _ _ _ h => h) (Or.inl ⟨by kernel_rfl, ?_⟩) (by assumption) ?_
          rotate_left 1
          focus (intro w' hSw; (try dsimp only at hSw); go_simp; (try with_reducible rfl))
          try simp only [Act.put, List.setIfInBounds_toArray, List.set_cons_zero, List.set_cons_succ]
          refine wpAnyH_take (i := 17) (oi := ⟨some 51, _, _, _, _, _⟩) (v := ?_) rfl (by kernel_rfl) (by kernel_rfl) (by kernel_rfl) (fun _ _ _ h => h) (Or.inl ⟨by kernel_rfl, ?_⟩) (by assumption) ?_
          rotate_left 1
          focus (intro w' hSw; (try dsimp only at hSw); go_simp; (try with_reducible rfl))
          try simp only [Act.put, List.setIfInBounds_toArray, List.set_cons_zero, List.set_cons_succ]
          refine wpAnyH_take (i := 18) (oi := ⟨some 52, _, _, _, _, _⟩) (v := ?_) rfl (by kernel_rfl) (by kernel_rfl) (by kernel_rfl) (fun _ _ _ h => h) (Or.inl ⟨by kernel_rfl, ?_⟩) (by assumption) ?_
          rotate_left 1
          focus (intro w' hSw; (try dsimp only at hSw); go_simp; (try with_reducible rfl))
          try simp only [Act.put, List.setIfInBounds_toArray, List.set_cons_zero, List.set_cons_succ]
          refine wpAnyH_take (i := 19) (oi := ⟨some 53, _, _, _, _, _⟩) (v := ?_) rfl (by kernel_rfl) (by kernel_rfl) (by kernel_rfl) (fun _ _ _ h => h) (Or.inl ⟨by kernel_rfl, ?_⟩) (by assumption) ?_
          rotate_left 1
          focus (intro w' hSw; (try dsimp only at hSw); go_simp; (try with_reducible rfl))
          try simp only [Act.put, List.setIfInBounds_toArray, List.set_cons_zero, List.set_cons_succ]
          refine wpAnyH_ready (rs := [20]) (by kernel_rfl) (by simp) ?_
          refine AllReadyH.cons rfl (fun K hK => ?_) AllReadyH.nil
          go_simp
          go_at_call 61
          refine (JS.out _ HBv.out).mono ?_
          rintro en v8 ⟨⟨Al, cl, rsl, rfl, ht8⟩, hv8⟩
          clear hHeld
          refine hK.out _ _ (HSS.out _ hv8) (fun hHeld => ?_)
          clear hK
          refine wpAnyH_ready (rs := [21]) (by kernel_rfl) (by simp) ?_
          refine AllReadyH.cons rfl (fun K hK => ?_) AllReadyH.nil
          go_simp
          go_at_call 15
          refine (JW.out _ Al cl rsl hv8 ht8).mono ?_
          rintro en v9 ⟨rfl, hv9⟩
          clear hHeld
          refine hK.out _ _ (HSS.out _ hv9) (fun hHeld => ?_)
          clear hK
          refine wpAnyH_take (i := 22) (oi := ⟨some 56, _, _, _, _, _⟩) (v := ?_) rfl (by kernel_rfl) (by kernel_rfl) (by kernel_rfl) (fun _ _ _ h => h) (Or.inl ⟨by kernel_rfl, ?_⟩) (by assumption) ?_
          rotate_left 1
          focus (intro w' hSw; (try dsimp only at hSw); go_simp; (try with_reducible rfl))
          try simp only [Act.put, List.setIfInBounds_toArray, List.set_cons_zero, List.set_cons_succ]
          refine wpAnyH_take (i := 23) (oi := ⟨some 57, _, _, _, _, _⟩) (v := ?_) rfl (by kernel_rfl) (by kernel_rfl) (by kernel_rfl) (fun _ _ _ h => h) (Or.inl ⟨by kernel_rfl, ?_⟩) (by assumption) ?_
          rotate_left 1
          focus (intro w' hSw; (try dsimp only at hSw); go_simp; (try with_reducible rfl))
          try simp only [Act.put, List.setIfInBounds_toArray, List.set_cons_zero, List.set_cons_succ]
          refine wpAnyH_take (i := 24) (oi := ⟨some 58, _, _, _, _, _⟩) (v := ?_) rfl (by kernel_rfl) (by kernel_rfl) (by kernel_rfl) (fun _ _ _ h => h) (Or.inl ⟨by kernel_rfl, ?_⟩) (by assumption) ?_
          rotate_left 1
          focus (intro w' hSw; (try dsimp only at hSw); go_simp; (try with_reducible rfl))
          try simp only [Act.put, List.setIfInBounds_toArray, List.set_cons_zero, List.set_cons_succ]
          refine wpAnyH_done (by kernel_rfl) ?_ _
          have HB9 := Lib.hid (HB7.out.trans (hv9.mono HB7.out.size))
          clear hHeld ht8 hv8 hv9 JW JS HSS HBv
          go_wp2_with fail
          go_roundw
          case rel => exact ⟨i + 1, by go_num, by omega, HB9⟩
          case measure => simp [intOf]; omega
    · obtain rfl : i = E2.length := by omega
      have hbw := HB4.out.trans (HB.out.mono HB4.out.size)
      have HF := Lib.hid (HB1.out.trans (hbw.mono HB1.out.size))
      clear hbw HB
      go_wp2_with fail
      go_ret
      exact ⟨rfl, HF.out⟩
theorem mwalks_all {R : List Nd} (hall : ∀ t ∈ R, allB t = true) (hct : ∀ x d, At R x d → d.N.length ≤ 4096) (A : Option Addr) (c : Nat) (ad : Int) (L : List (Nat × Int)) : ∀ k, MWalks R A c ad L k
  | 0 => fun P D Ap cp Ad cd rs w hne _ _ hk => by
    rcases D with _ | ⟨d, D⟩
    · exact absurd rfl hne
    · exact absurd (hk d (List.mem_cons_self ..)) (Nat.not_lt_zero _)
  | k + 1 => fun P D Ap cp Ad cd rs w _ h1 h2 h3 h4 h5 h6 h7 => mwalk_step hall hct A c ad L k (mwalks_all hall hct A c ad L k) P D Ap cp Ad cd rs w h1 h2 h3 h4 h5 h6 h7
end Go.Proofs.YtdljogdegcmmiaaGreatDoor.mrg
