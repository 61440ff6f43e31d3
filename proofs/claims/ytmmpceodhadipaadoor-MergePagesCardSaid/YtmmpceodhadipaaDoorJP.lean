/- That what is seen in a place, and in all places in it, is the document's. Conditions: the place, the stack, the directories and the names lie in memory, and hang together. The law SeenAll: of any branches, one upon the other, what is seen by any name, wherever one comes, is the document's. Conditions: the trees and the names lie in memory; the library's MaxLen holds a number. -/
import Derived.Test.YtmmpceodhadipaaDoorJO
import Derived.Laws.StructEq
import Derived.Test.YtmmpceodhadipaaDoorJN
namespace Go.Proofs.YtmmpceodhadipaaDoor.seen
set_option maxRecDepth 100000
open Go.RowKit Go.Proofs.YtmmpceodhadipaaDoor.words Go.Proofs.YtmmpceodhadipaaDoor.ext Go.Proofs.YtmmpceodhadipaaDoor.name Go.Proofs.YtmmpceodhadipaaDoor.tre Go.Proofs.YtmmpceodhadipaaDoor.stk

/-- Whoever comes to a place that isn't too deep finds what the document says. -/
def Walks (R : List Nd) (A : Option Addr) (c : Nat) (ad : Int) (L : List (Nat × Int)) (An : Option Addr) (cn : Nat) (N : List ByteArray) (k : Nat) : Prop :=
  ∀ (P : List (Nat × Nat)) (D : List Nd) (Ap : Option Addr) (cp : Nat) (Ad : Option Addr) (cd : Nat) (rs : Nat → Raw) (w : World), D ≠ [] → Ats R P D → Up P → (∀ d ∈ D, d.K = 2) → (∀ d ∈ D, depth d < k) →
    StkM w A L (tabs R) → Plc w w.heap.size Ap P → Trees w w.heap.size Ad D rs → Txts w w.heap.size An N → P.length ≤ 64 →
    Calls Tryd.prog 14 #[stkV A L.length c ad, .slice Ap P.length cp, .slice Ad D.length cd, .slice An N.length cn] w fun e w' => e = .returned (.bool true) ∧ Below w.heap.size w w'
/-- Something is seen. -/
def Tail (R : List Nd) (d : Nd) (x : Nat × Nat) (S : List Nd) (Af : Option Addr) (nf : Nat) (w' : World) : Prop :=
  (d.K ≠ 2 ∧ nf = 0) ∨ (d.K = 2 ∧ ∃ Q, nf = Q.length ∧ Ats R Q S ∧ Up Q ∧ Q[0]? = some x ∧ (∀ d ∈ S, d.K = 2) ∧ Plc w' w'.heap.size Af Q)
theorem Tail.later {R : List Nd} {d : Nd} {x : Nat × Nat} {S : List Nd} {Af : Option Addr} {nf : Nat} {w w' : World} (h : Tail R d x S Af nf w) (hb : Below w.heap.size w w') : Tail R d x S Af nf w' := by
  rcases h with h | ⟨h1, Q, h2, h3, h4, h5, h6, h7⟩
  · exact .inl h
  · exact .inr ⟨h1, Q, h2, h3, h4, h5, h6, (h7.keep hb).more hb.size⟩
def Sees (R : List Nd) (P : List (Nat × Nat)) (D : List Nd) (s : ByteArray) (Q' : List Nd) (w : World) (en : Ending) (w' : World) : Prop :=
  ((seenOf Q' = [] ∧ en = .returned (.tuple #[.agg #[.int .i64 0, .int .i64 0, .int .i64 0, .slice none 0 0], .bool false])) ∨
   (∃ lv nd d Af nf cf, (seenOf Q')[0]? = some d ∧ At R (lv, nd) d ∧ Top P D s (lv, nd) ∧ Tail R d (lv, nd) (seenOf Q') Af nf w' ∧ en = .returned (.tuple #[.agg #[.int .i64 d.K, .int .i64 (lv : Int), .int .i64 (nd : Int), .slice Af nf cf], .bool true]))) ∧ Below w.heap.size w w'
theorem Saw.sees {R : List Nd} {P : List (Nat × Nat)} {D : List Nd} {s : ByteArray} {Q' : List Nd} {w w' : World} {en : Ending} (h : Saw R P D s Q' w en w') : Sees R P D s Q' w en w' := by
  obtain ⟨h, hb⟩ := h
  refine ⟨?_, hb⟩
  rcases h with ⟨h1, rfl⟩ | ⟨⟨lv, nd⟩, d, h1, h2, h3, h4, rfl⟩ | ⟨⟨lv, nd⟩, d, Q, A, c, h1, h2, h3, h4, h5, h6, h7, h8, rfl, h9, _⟩
  · exact .inl ⟨h1, rfl⟩
  · exact .inr ⟨lv, nd, d, none, 0, 0, by rw [h1]; rfl, h2, h4, .inl ⟨by omega, rfl⟩, rfl⟩
  · exact .inr ⟨lv, nd, d, A, Q.length, c, h1, h2, h4, .inr ⟨h3, Q, rfl, h5, h6, h7, h8, h9⟩, rfl⟩
theorem level_is {D : List Nd} {s : ByteArray} {e : Ending} {k : Nat} {y : Nd} {i : Nat} (h1 : D[k]? = some y) (h2 : y.N[i]? = some s) (h3 : ∀ z ∈ D.take k, ∀ j : Nat, z.N[j]? ≠ some s) (h : LevelOut D s e) : e = .returned (.int .i64 (k : Int)) := by
  rcases h with ⟨k', x, i', rfl, g1, g2, g3⟩ | ⟨rfl, g⟩
  · rcases Nat.lt_trichotomy k k' with hl | hl | hl
    · exact (g3 y (List.mem_of_getElem? (by rw [List.getElem?_take_of_lt hl]; exact h1)) i h2).elim
    · rw [hl]
    · exact (h3 x (List.mem_of_getElem? (by rw [List.getElem?_take_of_lt hl]; exact g1)) i' g2).elim
  · exact (g y (List.mem_of_getElem? h1) i h2).elim
set_option maxHeartbeats 25600000 in
theorem walk_step {R : List Nd} (hall : ∀ t ∈ R, allB t = true) (A : Option Addr) (c : Nat) (ad : Int) (L : List (Nat × Int)) (An : Option Addr) (cn : Nat) (N : List ByteArray) (m : Nat) (hN : N.length ≤ 1000) (IH : Walks R A c ad L An cn N m)
    (P : List (Nat × Nat)) (D : List Nd) (Ap : Option Addr) (cp : Nat) (Ad : Option Addr) (cd : Nat) (rs : Nat → Raw) (w : World) (hD : Ats R P D) (hU : Up P) (hK : ∀ d ∈ D, d.K = 2) (hm : ∀ d ∈ D, depth d < m + 1)
    (h : StkM w A L (tabs R)) (hp : Plc w w.heap.size Ap P) (hT : Trees w w.heap.size Ad D rs) (hS : Txts w w.heap.size An N) (hlp : P.length ≤ 64) :
    Calls Tryd.prog 14 #[stkV A L.length c ad, .slice Ap P.length cp, .slice Ad D.length cd, .slice An N.length cn] w fun e w' => e = .returned (.bool true) ∧ Below w.heap.size w w' := by
  obtain ⟨W1, hW1⟩ : ∃ W1, W1 = w.alloc (.cells #[.slice A L.length c, .int .i64 ad] 28) := ⟨_, rfl⟩
  have hb1 : Below w.heap.size w W1 := by rw [hW1]; exact (Below.refl _ _).alloc (Nat.le_refl _) _
  have hs1 : W1.heap[w.heap.size]? = some (.cells #[.slice A L.length c, .int .i64 ad] 28 (0, 0)) := by rw [hW1]; exact heap_alloc_new w _
  have HK := Lib.hid hs1
  have HS := Lib.hid (h.later hb1)
  have HP := Lib.hid ((hp.keep hb1).more hb1.size)
  have HT := Lib.hid (hT.later hb1)
  have HTx := Lib.hid ((hS.keep hb1).more hb1.size)
  have HW1 := Lib.hid hW1
  have HB1 := Lib.hid hb1
  have HD := Lib.hid hD
  have HU := Lib.hid hU
  have HKd := Lib.hid hK
  have HM := Lib.hid hm
  have HIH := Lib.hid IH
  have hlen : D.length = P.length := hD.length.symm
  have HAll := Lib.hid hall
  have HA := alike_any hall hD hU hK A c ad L Ap cp Ad cd rs W1 HS.out HP.out HT.out (by omega)
  rw [hlen] at HA ⊢
  unfold stkV at HA ⊢
  have HA := Lib.hid HA
  have HLen := Lib.hid hlen
  clear hW1 hb1 hs1 h hp hT hD hU hK hm IH hall hlen hS
  go_enter Tryd.func14, Tryd.ntmps14
  go_upto_region 1 with fail
  rw [← HW1.out]
  clear HW1
  have s0 := cell_of_blk HK.out 0
  have s1 := cell_of_blk HK.out 1
  go_wp2_with fail
  refine HA.out.mono ?_
  rintro e wa ⟨rfl, hba⟩
  have HBa := Lib.hid hba
  clear hba s0 s1 HA
  go_wp2_with fail
  go_loopw [22] (fun v wr => ∃ i : Nat, v = .int .i64 (i : Int) ∧ i ≤ N.length ∧ Hid (Below W1.heap.size W1 wr)) (fun v _ => N.length - (intOf v).toNat)
  case atStart => exact ⟨0, rfl, Nat.zero_le _, HBa⟩
  case round =>
    obtain ⟨i, rfl, hi, HB⟩ := hrel
    clear HBa
    by_cases hlt : i < N.length
    · obtain ⟨s, hs⟩ : ∃ s, N[i]? = some s := ⟨_, List.getElem?_eq_getElem hlt⟩
      obtain ⟨⟨bn, on, hAn, hbn, cn0⟩, hsz⟩ := ((HTx.out.keep HB.out).more HB.out.size) i s hs
      subst hAn
      have i0 : (0 : Int) ≤ (i : Int) := by omega
      have i1 : (i : Int) < (N.length : Int) := by omega
      obtain ⟨Q', hQ'⟩ := EntN.some (s := s) (fun d hd => (HD.out.right HAll.out d hd).2)
      have hkr := (HB.out.block _ (lt_of_some HK.out)).trans HK.out
      have s0 := cell_of_blk hkr 0
      have s1 := cell_of_blk hkr 1
      have hL := (seen_any HAll.out HD.out HU.out hQ' A c ad L Ap cp wr (HS.out.later HB.out) ((HP.out.keep HB.out).more HB.out.size) (by omega)).mono fun _ _ h => h.sees
      unfold stkV at hL
      have HL := Lib.hid hL
      have HQ := Lib.hid hQ'
      have Hs := Lib.hid hs
      clear hs hsz hQ' hL hbn
      go_wp2_with fail
      refine HL.out.mono ?_
      rintro en w2 ⟨hsee, hb2⟩
      have hkr2 := (hb2.block _ (lt_of_some hkr)).trans hkr
      have HB2 := Lib.hid (HB.out.trans (hb2.mono HB.out.size))
      clear HL hb2 hkr hkr2 s0 s1 cn0
      rcases hsee with ⟨hno, rfl⟩ | ⟨lv, nd, d, Af, nf, cf, hd, hat, htop, htail, rfl⟩
      · obtain ⟨W3, hW3⟩ : ∃ W3, W3 = w2.alloc (.cells #[.int .i64 0, .int .i64 0, .int .i64 0, .slice none 0 0] 44) := ⟨_, rfl⟩
        have hb3 : Below w2.heap.size w2 W3 := by rw [hW3]; exact (Below.refl _ _).alloc (Nat.le_refl _) _
        have HF3 := Lib.hid (show W3.heap[w2.heap.size]? = some (.cells #[.int .i64 0, .int .i64 0, .int .i64 0, .slice none 0 0] 44 (0, 0)) by rw [hW3]; exact heap_alloc_new w2 _)
        have HB3 := Lib.hid (HB2.out.trans (hb3.mono HB2.out.size))
        have hR := refs_any (HD.out.right HAll.out) HQ.out Ad cd rs W3 (HT.out.later HB3.out) (by have := HLen.out; omega)
        rw [hno, HLen.out] at hR
        have HR := Lib.hid hR
        have HW3 := Lib.hid hW3
        clear hb3 hR hW3 hno
        go_upto_region 7 with fail
        rw [← HW3.out]
        clear HW3
        go_wp2_with fail
        refine HR.out.mono ?_
        rintro e w4 ⟨Al, cl, rsl, rfl, _, _, hb4⟩
        have HF4 := Lib.hid ((hb4.block _ (lt_of_some HF3.out)).trans HF3.out)
        have HB4 := Lib.hid (HB3.out.trans (hb4.mono HB3.out.size))
        have f0 := cell_of_blk HF4.out 0
        have f1 := cell_of_blk HF4.out 1
        have f2 := cell_of_blk HF4.out 2
        have f3 := cell_of_blk HF4.out 3
        clear hb4 HR HF3
        go_wp2_with fail
        go_roundw
        case rel => exact ⟨i + 1, by go_num, by omega, HB4⟩
        case measure => simp [intOf]; omega
      · obtain ⟨W3, hW3⟩ : ∃ W3, W3 = w2.alloc (.cells #[.int .i64 d.K, .int .i64 (lv : Int), .int .i64 (nd : Int), .slice Af nf cf] 44) := ⟨_, rfl⟩
        have hb3 : Below w2.heap.size w2 W3 := by rw [hW3]; exact (Below.refl _ _).alloc (Nat.le_refl _) _
        have HF3 := Lib.hid (show W3.heap[w2.heap.size]? = some (.cells #[.int .i64 d.K, .int .i64 (lv : Int), .int .i64 (nd : Int), .slice Af nf cf] 44 (0, 0)) by rw [hW3]; exact heap_alloc_new w2 _)
        have HB3 := Lib.hid (HB2.out.trans (hb3.mono HB2.out.size))
        have HTl3 := Lib.hid (htail.later hb3)
        have hR := refs_any (HD.out.right HAll.out) HQ.out Ad cd rs W3 (HT.out.later HB3.out) (by have := HLen.out; omega)
        rw [HLen.out] at hR
        have HR := Lib.hid hR
        have HW3 := Lib.hid hW3
        have Hd := Lib.hid hd
        have HAt := Lib.hid hat
        have HTop := Lib.hid htop
        have hpos : 0 < (seenOf Q').length := (List.getElem?_eq_some_iff.1 hd).1
        have gp : (0 : Int) < ((seenOf Q').length : Int) := by omega
        clear hb3 hR hW3 hd hat htop htail
        go_upto_region 7 with fail
        rw [← HW3.out]
        clear HW3
        go_wp2_with fail
        refine HR.out.mono ?_
        rintro e w4 ⟨Al, cl, rsl, rfl, hTl, _, hb4⟩
        have HF4 := Lib.hid ((hb4.block _ (lt_of_some HF3.out)).trans HF3.out)
        have HB4 := Lib.hid (HB3.out.trans (hb4.mono HB3.out.size))
        have HTl4 := Lib.hid (HTl3.out.later hb4)
        have HLs := Lib.hid hTl
        have HK4 := Lib.hid ((HB4.out.block _ (lt_of_some HK.out)).trans HK.out)
        have f0 := cell_of_blk HF4.out 0
        have f1 : w4.cell? ⟨w2.heap.size, 0 + 1, none⟩ = _ := cell_of_blk HF4.out 1
        have s0 := cell_of_blk HK4.out 0
        have s1 := cell_of_blk HK4.out 1
        clear hb4 HR HF3 hTl HTl3
        obtain ⟨t, ht, htd⟩ := id HAt.out
        have hE := tabs_at ht
        have hEe : (flatN 0 t)[nd]? = some (entOf nd d) := flat_at htd
        have hS4 := HS.out.later HB4.out
        obtain ⟨y, hy⟩ : ∃ y, L[lv]? = some y := ⟨_, List.getElem?_eq_getElem (by rw [← hS4.es]; exact (List.getElem?_eq_some_iff.1 hE).1)⟩
        have HAT := Lib.hid (show Calls Tryd.prog 51 #[.agg #[.slice A L.length c, .int .i64 ad], .int .i64 (lv : Int)] w4 fun e w'' => e = .returned (.pointer (some ⟨y.1, 0, none⟩)) ∧ Below w4.heap.size w4 w'' from sat_yes A L.length c lv ad L y w4 hS4.rows rfl hy)
        have hbr : Brn w4 w4.heap.size y.1 (flatN 0 t) := hS4.brs lv y _ hy hE
        have J1 : Hid (∀ w' : World, Below w4.heap.size w4 w' → Calls Tryd.prog 40 #[.pointer (some ⟨y.1, 0, none⟩), .int .i64 (nd : Int)] w' fun e w'' => e = .returned (.int .i64 d.K) ∧ Below w4.heap.size w4 w'') := Lib.hid fun w' hb =>
          (bkind_yes y.1 nd _ _ w' (hbr.later hb) hEe).mono fun _ _ ⟨he, hw⟩ => ⟨by rw [he, show (entOf nd d).x.K = d.K from alone_K d], hb.trans (hw.mono hb.size)⟩
        have J2 : Hid (∀ w' : World, Below w4.heap.size w4 w' → Calls Tryd.prog 52 #[.pointer (some ⟨y.1, 0, none⟩), .int .i64 (nd : Int)] w' fun e w'' => e = .returned (.int .i64 d.S) ∧ Below w4.heap.size w4 w'') := Lib.hid fun w' hb =>
          (bsize_yes y.1 nd _ _ w' (hbr.later hb) hEe).mono fun _ _ ⟨he, hw⟩ => ⟨by rw [he]; show _ = Ending.returned (.int .i64 d.S); rw [← alone_S d]; rfl, hb.trans (hw.mono hb.size)⟩
        have J3 : Hid (∀ w' : World, Below w4.heap.size w4 w' → Calls Tryd.prog 53 #[.pointer (some ⟨y.1, 0, none⟩), .int .i64 (nd : Int)] w' fun e w'' => e = .returned (.string d.T) ∧ Below w4.heap.size w4 w'') := Lib.hid fun w' hb =>
          (btarget_yes y.1 nd _ _ w' (hbr.later hb) hEe).mono fun _ _ ⟨he, hw⟩ => ⟨by rw [he]; show _ = Ending.returned (.string d.T); rw [← alone_T d]; rfl, hb.trans (hw.mono hb.size)⟩
        obtain ⟨kk, pp, yy, ii, hk1, hk2, hk3, hk4, hk5⟩ := id HTop.out
        have J4 : Hid (∀ w' : World, Below w4.heap.size w4 w' → Calls Tryd.prog 54 #[.slice Ad P.length cd, .string s] w' fun e w'' => e = .returned (.int .i64 (kk : Int)) ∧ Below w4.heap.size w4 w'') := Lib.hid fun w' hb => by
          have h1 := level_any Ad cd D rs s w' (HT.out.later (HB4.out.trans (hb.mono HB4.out.size))) (by have := HLen.out; omega)
          rw [HLen.out] at h1
          exact h1.mono fun e w'' ⟨h2, h3⟩ => ⟨level_is hk3 hk4 hk5 h2, hb.trans (h3.mono hb.size)⟩
        obtain ⟨bp, op, hAp, hbp, hpq, _⟩ := ((HP.out.keep HB4.out).more HB4.out.size) kk pp hk1
        subst hAp
        have hpl : (pp.1 : Int) = (lv : Int) := by
          have := congrArg Prod.fst hk2
          have e1 : lv = pp.1 := this
          rw [e1]
        rw [hpl] at hpq
        have k0 : (0 : Int) ≤ (kk : Int) := by omega
        have k1 : (kk : Int) < (P.length : Int) := by have := (List.getElem?_eq_some_iff.1 hk1).1; omega
        obtain ⟨⟨bl, ol, hAl, hbl, hcl⟩, _⟩ := HLs.out 0 d Hd.out
        subst hAl
        have hl0 : w4.cell? ⟨bl, ol + 0 * 7 + 0, none⟩ = some (.int .i64 d.K) := hcl 0 _ rfl
        have hl4 : w4.cell? ⟨bl, ol + 0 * 7 + 4, none⟩ = some (.int .i64 d.S) := hcl 4 _ rfl
        have hl6 : w4.cell? ⟨bl, ol + 0 * 7 + 6, none⟩ = some (.string d.T) := hcl 6 _ rfl
        rw [Nat.zero_mul, Nat.add_zero] at hl0 hl4 hl6
        have hS0 : ∀ w' : World, Below w4.heap.size w4 w' → (w'.cell? ⟨w2.heap.size, 0, none⟩ = some (.int .i64 d.K) ∧ w'.cell? ⟨w2.heap.size, 1, none⟩ = some (.int .i64 (lv : Int)) ∧ w'.cell? ⟨w2.heap.size, 2, none⟩ = some (.int .i64 (nd : Int)) ∧ w'.cell? ⟨bl, ol, none⟩ = some (.int .i64 d.K) ∧ w'.cell? ⟨bl, ol + 4, none⟩ = some (.int .i64 d.S) ∧ w'.cell? ⟨bl, ol + 6, none⟩ = some (.string d.T) ∧ w'.cell? ⟨bp, op + kk * 2, none⟩ = some (.int .i64 (lv : Int)) ∧ Below w4.heap.size w4 w') := fun w' hb' => by
          have e2 := (hb'.block _ (lt_of_some HF4.out)).trans HF4.out
          exact ⟨cell_of_blk e2 0, cell_of_blk e2 1, cell_of_blk e2 2, (hb'.cell (p := ⟨bl, ol, none⟩) hbl).trans hl0, (hb'.cell (p := ⟨bl, ol + 4, none⟩) hbl).trans hl4, (hb'.cell (p := ⟨bl, ol + 6, none⟩) hbl).trans hl6, (hb'.cell (p := ⟨bp, op + kk * 2, none⟩) hbp).trans hpq, hb'⟩
        have HSS := Lib.hid hS0
        have htt : (d.T.toList == d.T.toList) = true := by simp
        clear ht htd hE hEe hS4 hy hbr hk1 hk2 hk3 hk4 hk5 hpq hbp hpl hcl hbl hS0 hl0 hl4 hl6
        go_upto_region 12 with ((go_at_call 51; refine HAT.out.mono ?_); rintro en w5 ⟨rfl, hb5⟩)
        have HB5 := Lib.hid hb5.drew
        clear hb5 s0 s1 f0 f1 HAT
        refine wp_region_held_drew (S := fun w' => (w'.cell? ⟨w2.heap.size, 0, none⟩ = some (.int .i64 d.K) ∧ w'.cell? ⟨w2.heap.size, 1, none⟩ = some (.int .i64 (lv : Int)) ∧ w'.cell? ⟨w2.heap.size, 2, none⟩ = some (.int .i64 (nd : Int)) ∧ w'.cell? ⟨bl, ol, none⟩ = some (.int .i64 d.K) ∧ w'.cell? ⟨bl, ol + 4, none⟩ = some (.int .i64 d.S) ∧ w'.cell? ⟨bl, ol + 6, none⟩ = some (.string d.T) ∧ w'.cell? ⟨bp, op + kk * 2, none⟩ = some (.int .i64 (lv : Int)) ∧ Below w4.heap.size w4 w')) (by kernel_rfl) (HSS.out _ HB5.out) (fun hHeld => ?_)
        refine wpAnyH_take (i := 0) (oi := ⟨some 69, _, _, _, _, _⟩) (v := ?_) rfl (by kernel_rfl) (by kernel_rfl) (by kernel_rfl) (fun _ _ _ h => h) (Or.inl ⟨by kernel_rfl, ?_⟩) (by assumption) ?_
        rotate_left 1
        focus (intro w' hSw; (try dsimp only at hSw); go_simp; (try with_reducible rfl))
        try simp only [Act.put, List.setIfInBounds_toArray, List.set_cons_zero, List.set_cons_succ]
        refine wpAnyH_take (i := 1) (oi := ⟨some 70, _, _, _, _, _⟩) (v := ?_) rfl (by kernel_rfl) (by kernel_rfl) (by kernel_rfl) (fun _ _ _ h => h) (Or.inl ⟨by kernel_rfl, ?_⟩) (by assumption) ?_
        rotate_left 1
        focus (intro w' hSw; (try dsimp only at hSw); go_simp; (try with_reducible rfl))
        try simp only [Act.put, List.setIfInBounds_toArray, List.set_cons_zero, List.set_cons_succ]
        refine wpAnyH_take (i := 2) (oi := ⟨some 71, _, _, _, _, _⟩) (v := ?_) rfl (by kernel_rfl) (by kernel_rfl) (by kernel_rfl) (fun _ _ _ h => h) (Or.inl ⟨by kernel_rfl, ?_⟩) (by assumption) ?_
        rotate_left 1
        focus (intro w' hSw; (try dsimp only at hSw); go_simp; (try with_reducible rfl))
        try simp only [Act.put, List.setIfInBounds_toArray, List.set_cons_zero, List.set_cons_succ]
        refine wpAnyH_take (i := 3) (oi := ⟨some 72, _, _, _, _, _⟩) (v := ?_) rfl (by kernel_rfl) (by kernel_rfl) (by kernel_rfl) (fun _ _ _ h => h) (Or.inl ⟨by kernel_rfl, ?_⟩) (by assumption) ?_
        rotate_left 1
        focus (intro w' hSw; (try dsimp only at hSw); go_simp; (try with_reducible rfl))
        try simp only [Act.put, List.setIfInBounds_toArray, List.set_cons_zero, List.set_cons_succ]
        refine wpAnyH_take (i := 4) (oi := ⟨some 73, _, _, _, _, _⟩) (v := ?_) rfl (by kernel_rfl) (by kernel_rfl) (by kernel_rfl) (fun _ _ _ h => h) (Or.inl ⟨by kernel_rfl, ?_⟩) (by assumption) ?_
        rotate_left 1
        focus (intro w' hSw; (try dsimp only at hSw); go_simp; (try with_reducible rfl))
        try simp only [Act.put, List.setIfInBounds_toArray, List.set_cons_zero, List.set_cons_succ]
        refine wpAnyH_take (i := 5) (oi := ⟨some 74, _, _, _, _, _⟩) (v := ?_) rfl (by kernel_rfl) (by kernel_rfl) (by kernel_rfl) (fun _ _ _ h => h) (Or.inl ⟨by kernel_rfl, ?_⟩) (by assumption) ?_
        rotate_left 1
        focus (intro w' hSw; (try dsimp only at hSw); go_simp; (try with_reducible rfl))
        try simp only [Act.put, List.setIfInBounds_toArray, List.set_cons_zero, List.set_cons_succ]
        refine wpAnyH_take (i := 6) (oi := ⟨some 75, _, _, _, _, _⟩) (v := ?_) rfl (by kernel_rfl) (by kernel_rfl) (by kernel_rfl) (fun _ _ _ h => h) (Or.inl ⟨by kernel_rfl, ?_⟩) (by assumption) ?_
        rotate_left 1
        focus (intro w' hSw; (try dsimp only at hSw); go_simp; (try with_reducible rfl))
        try simp only [Act.put, List.setIfInBounds_toArray, List.set_cons_zero, List.set_cons_succ]
        refine wpAnyH_take (i := 7) (oi := ⟨some 76, _, _, _, _, _⟩) (v := ?_) rfl (by kernel_rfl) (by kernel_rfl) (by kernel_rfl) (fun _ _ _ h => h) (Or.inl ⟨by kernel_rfl, ?_⟩) (by assumption) ?_
        rotate_left 1
        focus (intro w' hSw; (try dsimp only at hSw); go_simp; (try with_reducible rfl))
        try simp only [Act.put, List.setIfInBounds_toArray, List.set_cons_zero, List.set_cons_succ]
        refine wpAnyH_take (i := 8) (oi := ⟨some 77, _, _, _, _, _⟩) (v := ?_) rfl (by kernel_rfl) (by kernel_rfl) (by kernel_rfl) (fun _ _ _ h => h) (Or.inl ⟨by kernel_rfl, ?_⟩) (by assumption) ?_
        rotate_left 1
        focus (intro w' hSw; (try dsimp only at hSw); go_simp; (try with_reducible rfl))
        try simp only [Act.put, List.setIfInBounds_toArray, List.set_cons_zero, List.set_cons_succ]
        refine wpAnyH_take (i := 9) (oi := ⟨some 78, _, _, _, _, _⟩) (v := ?_) rfl (by kernel_rfl) (by kernel_rfl) (by kernel_rfl) (fun _ _ _ h => h) (Or.inl ⟨by kernel_rfl, ?_⟩) (by assumption) ?_
        rotate_left 1
        focus (intro w' hSw; (try dsimp only at hSw); go_simp; (try with_reducible rfl))
        try simp only [Act.put, List.setIfInBounds_toArray, List.set_cons_zero, List.set_cons_succ]
        refine wpAnyH_take (i := 10) (oi := ⟨some 79, _, _, _, _, _⟩) (v := ?_) rfl (by kernel_rfl) (by kernel_rfl) (by kernel_rfl) (fun _ _ _ h => h) (Or.inl ⟨by kernel_rfl, ?_⟩) (by assumption) ?_
        rotate_left 1
        focus (intro w' hSw; (try dsimp only at hSw); go_simp; (try with_reducible rfl))
        try simp only [Act.put, List.setIfInBounds_toArray, List.set_cons_zero, List.set_cons_succ]
        refine wpAnyH_take (i := 11) (oi := ⟨some 80, _, _, _, _, _⟩) (v := ?_) rfl (by kernel_rfl) (by kernel_rfl) (by kernel_rfl) (fun _ _ _ h => h) (Or.inl ⟨by kernel_rfl, ?_⟩) (by assumption) ?_
        rotate_left 1
        focus (intro w' hSw; (try dsimp only at hSw); go_simp; (try with_reducible rfl))
        try simp only [Act.put, List.setIfInBounds_toArray, List.set_cons_zero, List.set_cons_succ]
        refine wpAnyH_take (i := 12) (oi := ⟨some 81, _, _, _, _, _⟩) (v := ?_) rfl (by kernel_rfl) (by kernel_rfl) (by kernel_rfl) (fun _ _ _ h => h) (Or.inl ⟨by kernel_rfl, ?_⟩) (by assumption) ?_
        rotate_left 1
        focus (intro w' hSw; (try dsimp only at hSw); go_simp; (try with_reducible rfl))
        try simp only [Act.put, List.setIfInBounds_toArray, List.set_cons_zero, List.set_cons_succ]
        refine wpAnyH_take (i := 13) (oi := ⟨some 82, _, _, _, _, _⟩) (v := ?_) rfl (by kernel_rfl) (by kernel_rfl) (by kernel_rfl) (fun _ _ _ h => h) (Or.inl ⟨by kernel_rfl, ?_⟩) (by assumption) ?_
        rotate_left 1
        focus (intro w' hSw; (try dsimp only at hSw); go_simp; (try with_reducible rfl))
        try simp only [Act.put, List.setIfInBounds_toArray, List.set_cons_zero, List.set_cons_succ]
        refine wpAnyH_take (i := 14) (oi := ⟨some 83, _, _, _, _, _⟩) (v := ?_) rfl (by kernel_rfl) (by kernel_rfl) (by kernel_rfl) (fun _ _ _ h => h) (Or.inl ⟨by kernel_rfl, ?_⟩) (by assumption) ?_
        rotate_left 1
        focus (intro w' hSw; (try dsimp only at hSw); go_simp; (try with_reducible rfl))
        try simp only [Act.put, List.setIfInBounds_toArray, List.set_cons_zero, List.set_cons_succ]
        refine wpAnyH_take (i := 15) (oi := ⟨some 84, _, _, _, _, _⟩) (v := ?_) rfl (by kernel_rfl) (by kernel_rfl) (by kernel_rfl) (fun _ _ _ h => h) (Or.inl ⟨by kernel_rfl, ?_⟩) (by assumption) ?_
        rotate_left 1
        focus (intro w' hSw; (try dsimp only at hSw); go_simp; (try with_reducible rfl))
        try simp only [Act.put, List.setIfInBounds_toArray, List.set_cons_zero, List.set_cons_succ]
        refine wpAnyH_take (i := 17) (oi := ⟨some 86, _, _, _, _, _⟩) (v := ?_) rfl (by kernel_rfl) (by kernel_rfl) (by kernel_rfl) (fun _ _ _ h => h) (Or.inl ⟨by kernel_rfl, ?_⟩) (by assumption) ?_
        rotate_left 1
        focus (intro w' hSw; (try dsimp only at hSw); go_simp; (try with_reducible rfl))
        try simp only [Act.put, List.setIfInBounds_toArray, List.set_cons_zero, List.set_cons_succ]
        refine wpAnyH_take (i := 18) (oi := ⟨some 87, _, _, _, _, _⟩) (v := ?_) rfl (by kernel_rfl) (by kernel_rfl) (by kernel_rfl) (fun _ _ _ h => h) (Or.inl ⟨by kernel_rfl, ?_⟩) (by assumption) ?_
        rotate_left 1
        focus (intro w' hSw; (try dsimp only at hSw); go_simp; (try with_reducible rfl))
        try simp only [Act.put, List.setIfInBounds_toArray, List.set_cons_zero, List.set_cons_succ]
        refine wpAnyH_ready (rs := [16]) (by kernel_rfl) (by simp) ?_
        refine AllReadyH.cons rfl (fun K hK => ?_) AllReadyH.nil
        go_simp
        go_at_call 40
        refine (J1.out _ HB5.out).mono ?_
        rintro en v1 ⟨rfl, hv1⟩
        clear hHeld
        refine hK.out _ _ (HSS.out _ hv1) (fun hHeld => ?_)
        clear hK
        refine wpAnyH_take (i := 19) (oi := ⟨some 88, _, _, _, _, _⟩) (v := ?_) rfl (by kernel_rfl) (by kernel_rfl) (by kernel_rfl) (fun _ _ _ h => h) (Or.inl ⟨by kernel_rfl, ?_⟩) (by assumption) ?_
        rotate_left 1
        focus (intro w' hSw; (try dsimp only at hSw); go_simp; (try with_reducible rfl))
        try simp only [Act.put, List.setIfInBounds_toArray, List.set_cons_zero, List.set_cons_succ]
        refine wpAnyH_take (i := 20) (oi := ⟨some 89, _, _, _, _, _⟩) (v := ?_) rfl (by kernel_rfl) (by kernel_rfl) (by kernel_rfl) (fun _ _ _ h => h) (Or.inl ⟨by kernel_rfl, ?_⟩) (by assumption) ?_
        rotate_left 1
        focus (intro w' hSw; (try dsimp only at hSw); go_simp; (try with_reducible rfl))
        try simp only [Act.put, List.setIfInBounds_toArray, List.set_cons_zero, List.set_cons_succ]
        refine wpAnyH_take (i := 21) (oi := ⟨some 90, _, _, _, _, _⟩) (v := ?_) rfl (by kernel_rfl) (by kernel_rfl) (by kernel_rfl) (fun _ _ _ h => h) (Or.inl ⟨by kernel_rfl, ?_⟩) (by assumption) ?_
        rotate_left 1
        focus (intro w' hSw; (try dsimp only at hSw); go_simp; (try with_reducible rfl))
        try simp only [Act.put, List.setIfInBounds_toArray, List.set_cons_zero, List.set_cons_succ]
        refine wpAnyH_take (i := 22) (oi := ⟨some 91, _, _, _, _, _⟩) (v := ?_) rfl (by kernel_rfl) (by kernel_rfl) (by kernel_rfl) (fun _ _ _ h => h) (Or.inl ⟨by kernel_rfl, ?_⟩) (by assumption) ?_
        rotate_left 1
        focus (intro w' hSw; (try dsimp only at hSw); go_simp; (try with_reducible rfl))
        try simp only [Act.put, List.setIfInBounds_toArray, List.set_cons_zero, List.set_cons_succ]
        refine wpAnyH_take (i := 23) (oi := ⟨some 92, _, _, _, _, _⟩) (v := ?_) rfl (by kernel_rfl) (by kernel_rfl) (by kernel_rfl) (fun _ _ _ h => h) (Or.inl ⟨by kernel_rfl, ?_⟩) (by assumption) ?_
        rotate_left 1
        focus (intro w' hSw; (try dsimp only at hSw); go_simp; (try with_reducible rfl))
        try simp only [Act.put, List.setIfInBounds_toArray, List.set_cons_zero, List.set_cons_succ]
        refine wpAnyH_take (i := 24) (oi := ⟨some 93, _, _, _, _, _⟩) (v := ?_) rfl (by kernel_rfl) (by kernel_rfl) (by kernel_rfl) (fun _ _ _ h => h) (Or.inl ⟨by kernel_rfl, ?_⟩) (by assumption) ?_
        rotate_left 1
        focus (intro w' hSw; (try dsimp only at hSw); go_simp; (try with_reducible rfl))
        try simp only [Act.put, List.setIfInBounds_toArray, List.set_cons_zero, List.set_cons_succ]
        refine wpAnyH_take (i := 25) (oi := ⟨some 94, _, _, _, _, _⟩) (v := ?_) rfl (by kernel_rfl) (by kernel_rfl) (by kernel_rfl) (fun _ _ _ h => h) (Or.inl ⟨by kernel_rfl, ?_⟩) (by assumption) ?_
        rotate_left 1
        focus (intro w' hSw; (try dsimp only at hSw); go_simp; (try with_reducible rfl))
        try simp only [Act.put, List.setIfInBounds_toArray, List.set_cons_zero, List.set_cons_succ]
        refine wpAnyH_take (i := 27) (oi := ⟨some 96, _, _, _, _, _⟩) (v := ?_) rfl (by kernel_rfl) (by kernel_rfl) (by kernel_rfl) (fun _ _ _ h => h) (Or.inl ⟨by kernel_rfl, ?_⟩) (by assumption) ?_
        rotate_left 1
        focus (intro w' hSw; (try dsimp only at hSw); go_simp; (try with_reducible rfl))
        try simp only [Act.put, List.setIfInBounds_toArray, List.set_cons_zero, List.set_cons_succ]
        refine wpAnyH_take (i := 28) (oi := ⟨some 97, _, _, _, _, _⟩) (v := ?_) rfl (by kernel_rfl) (by kernel_rfl) (by kernel_rfl) (fun _ _ _ h => h) (Or.inl ⟨by kernel_rfl, ?_⟩) (by assumption) ?_
        rotate_left 1
        focus (intro w' hSw; (try dsimp only at hSw); go_simp; (try with_reducible rfl))
        try simp only [Act.put, List.setIfInBounds_toArray, List.set_cons_zero, List.set_cons_succ]
        refine wpAnyH_take (i := 29) (oi := ⟨some 98, _, _, _, _, _⟩) (v := ?_) rfl (by kernel_rfl) (by kernel_rfl) (by kernel_rfl) (fun _ _ _ h => h) (Or.inl ⟨by kernel_rfl, ?_⟩) (by assumption) ?_
        rotate_left 1
        focus (intro w' hSw; (try dsimp only at hSw); go_simp; (try with_reducible rfl))
        try simp only [Act.put, List.setIfInBounds_toArray, List.set_cons_zero, List.set_cons_succ]
        refine wpAnyH_take (i := 30) (oi := ⟨some 99, _, _, _, _, _⟩) (v := ?_) rfl (by kernel_rfl) (by kernel_rfl) (by kernel_rfl) (fun _ _ _ h => h) (Or.inl ⟨by kernel_rfl, ?_⟩) (by assumption) ?_
        rotate_left 1
        focus (intro w' hSw; (try dsimp only at hSw); go_simp; (try with_reducible rfl))
        try simp only [Act.put, List.setIfInBounds_toArray, List.set_cons_zero, List.set_cons_succ]
        refine wpAnyH_ready (rs := [26]) (by kernel_rfl) (by simp) ?_
        refine AllReadyH.cons rfl (fun K hK => ?_) AllReadyH.nil
        go_simp
        go_at_call 52
        refine (J2.out _ hv1).mono ?_
        rintro en v2 ⟨rfl, hv2⟩
        clear hHeld
        refine hK.out _ _ (HSS.out _ hv2) (fun hHeld => ?_)
        clear hK
        refine wpAnyH_take (i := 31) (oi := ⟨some 100, _, _, _, _, _⟩) (v := ?_) rfl (by kernel_rfl) (by kernel_rfl) (by kernel_rfl) (fun _ _ _ h => h) (Or.inl ⟨by kernel_rfl, ?_⟩) (by assumption) ?_
        rotate_left 1
        focus (intro w' hSw; (try dsimp only at hSw); go_simp; (try with_reducible rfl))
        try simp only [Act.put, List.setIfInBounds_toArray, List.set_cons_zero, List.set_cons_succ]
        refine wpAnyH_take (i := 32) (oi := ⟨some 101, _, _, _, _, _⟩) (v := ?_) rfl (by kernel_rfl) (by kernel_rfl) (by kernel_rfl) (fun _ _ _ h => h) (Or.inl ⟨by kernel_rfl, ?_⟩) (by assumption) ?_
        rotate_left 1
        focus (intro w' hSw; (try dsimp only at hSw); go_simp; (try with_reducible rfl))
        try simp only [Act.put, List.setIfInBounds_toArray, List.set_cons_zero, List.set_cons_succ]
        refine wpAnyH_take (i := 33) (oi := ⟨some 102, _, _, _, _, _⟩) (v := ?_) rfl (by kernel_rfl) (by kernel_rfl) (by kernel_rfl) (fun _ _ _ h => h) (Or.inl ⟨by kernel_rfl, ?_⟩) (by assumption) ?_
        rotate_left 1
        focus (intro w' hSw; (try dsimp only at hSw); go_simp; (try with_reducible rfl))
        try simp only [Act.put, List.setIfInBounds_toArray, List.set_cons_zero, List.set_cons_succ]
        refine wpAnyH_take (i := 34) (oi := ⟨some 103, _, _, _, _, _⟩) (v := ?_) rfl (by kernel_rfl) (by kernel_rfl) (by kernel_rfl) (fun _ _ _ h => h) (Or.inl ⟨by kernel_rfl, ?_⟩) (by assumption) ?_
        rotate_left 1
        focus (intro w' hSw; (try dsimp only at hSw); go_simp; (try with_reducible rfl))
        try simp only [Act.put, List.setIfInBounds_toArray, List.set_cons_zero, List.set_cons_succ]
        refine wpAnyH_take (i := 35) (oi := ⟨some 104, _, _, _, _, _⟩) (v := ?_) rfl (by kernel_rfl) (by kernel_rfl) (by kernel_rfl) (fun _ _ _ h => h) (Or.inl ⟨by kernel_rfl, ?_⟩) (by assumption) ?_
        rotate_left 1
        focus (intro w' hSw; (try dsimp only at hSw); go_simp; (try with_reducible rfl))
        try simp only [Act.put, List.setIfInBounds_toArray, List.set_cons_zero, List.set_cons_succ]
        refine wpAnyH_take (i := 36) (oi := ⟨some 105, _, _, _, _, _⟩) (v := ?_) rfl (by kernel_rfl) (by kernel_rfl) (by kernel_rfl) (fun _ _ _ h => h) (Or.inl ⟨by kernel_rfl, ?_⟩) (by assumption) ?_
        rotate_left 1
        focus (intro w' hSw; (try dsimp only at hSw); go_simp; (try with_reducible rfl))
        try simp only [Act.put, List.setIfInBounds_toArray, List.set_cons_zero, List.set_cons_succ]
        refine wpAnyH_take (i := 37) (oi := ⟨some 106, _, _, _, _, _⟩) (v := ?_) rfl (by kernel_rfl) (by kernel_rfl) (by kernel_rfl) (fun _ _ _ h => h) (Or.inl ⟨by kernel_rfl, ?_⟩) (by assumption) ?_
        rotate_left 1
        focus (intro w' hSw; (try dsimp only at hSw); go_simp; (try with_reducible rfl))
        try simp only [Act.put, List.setIfInBounds_toArray, List.set_cons_zero, List.set_cons_succ]
        refine wpAnyH_take (i := 39) (oi := ⟨some 108, _, _, _, _, _⟩) (v := ?_) rfl (by kernel_rfl) (by kernel_rfl) (by kernel_rfl) (fun _ _ _ h => h) (Or.inl ⟨by kernel_rfl, ?_⟩) (by assumption) ?_
        rotate_left 1
        focus (intro w' hSw; (try dsimp only at hSw); go_simp; (try with_reducible rfl))
        try simp only [Act.put, List.setIfInBounds_toArray, List.set_cons_zero, List.set_cons_succ]
        refine wpAnyH_take (i := 40) (oi := ⟨some 109, _, _, _, _, _⟩) (v := ?_) rfl (by kernel_rfl) (by kernel_rfl) (by kernel_rfl) (fun _ _ _ h => h) (Or.inl ⟨by kernel_rfl, ?_⟩) (by assumption) ?_
        rotate_left 1
        focus (intro w' hSw; (try dsimp only at hSw); go_simp; (try with_reducible rfl))
        try simp only [Act.put, List.setIfInBounds_toArray, List.set_cons_zero, List.set_cons_succ]
        refine wpAnyH_take (i := 41) (oi := ⟨some 110, _, _, _, _, _⟩) (v := ?_) rfl (by kernel_rfl) (by kernel_rfl) (by kernel_rfl) (fun _ _ _ h => h) (Or.inl ⟨by kernel_rfl, ?_⟩) (by assumption) ?_
        rotate_left 1
        focus (intro w' hSw; (try dsimp only at hSw); go_simp; (try with_reducible rfl))
        try simp only [Act.put, List.setIfInBounds_toArray, List.set_cons_zero, List.set_cons_succ]
        refine wpAnyH_take (i := 42) (oi := ⟨some 111, _, _, _, _, _⟩) (v := ?_) rfl (by kernel_rfl) (by kernel_rfl) (by kernel_rfl) (fun _ _ _ h => h) (Or.inl ⟨by kernel_rfl, ?_⟩) (by assumption) ?_
        rotate_left 1
        focus (intro w' hSw; (try dsimp only at hSw); go_simp; (try with_reducible rfl))
        try simp only [Act.put, List.setIfInBounds_toArray, List.set_cons_zero, List.set_cons_succ]
        refine wpAnyH_ready (rs := [38]) (by kernel_rfl) (by simp) ?_
        refine AllReadyH.cons rfl (fun K hK => ?_) AllReadyH.nil
        go_simp
        go_at_call 53
        refine (J3.out _ hv2).mono ?_
        rintro en v3 ⟨rfl, hv3⟩
        clear hHeld
        refine hK.out _ _ (HSS.out _ hv3) (fun hHeld => ?_)
        clear hK
        refine wpAnyH_take (i := 43) (oi := ⟨some 112, _, _, _, _, _⟩) (v := ?_) rfl (by kernel_rfl) (by kernel_rfl) (by kernel_rfl) (fun _ _ _ h => h) (Or.inl ⟨by kernel_rfl, ?_⟩) (by assumption) ?_
        rotate_left 1
        focus (intro w' hSw; (try dsimp only at hSw); go_simp; (try with_reducible rfl))
        try simp only [Act.put, List.setIfInBounds_toArray, List.set_cons_zero, List.set_cons_succ]
        refine wpAnyH_take (i := 44) (oi := ⟨some 113, _, _, _, _, _⟩) (v := ?_) rfl (by kernel_rfl) (by kernel_rfl) (by kernel_rfl) (fun _ _ _ h => h) (Or.inl ⟨by kernel_rfl, ?_⟩) (by assumption) ?_
        rotate_left 1
        focus (intro w' hSw; (try dsimp only at hSw); go_simp; (try with_reducible rfl))
        try simp only [Act.put, List.setIfInBounds_toArray, List.set_cons_zero, List.set_cons_succ]
        refine wpAnyH_take (i := 45) (oi := ⟨some 114, _, _, _, _, _⟩) (v := ?_) rfl (by kernel_rfl) (by kernel_rfl) (by kernel_rfl) (fun _ _ _ h => h) (Or.inl ⟨by kernel_rfl, ?_⟩) (by assumption) ?_
        rotate_left 1
        focus (intro w' hSw; (try dsimp only at hSw); go_simp; (try with_reducible rfl))
        try simp only [Act.put, List.setIfInBounds_toArray, List.set_cons_zero, List.set_cons_succ]
        refine wpAnyH_take (i := 46) (oi := ⟨some 115, _, _, _, _, _⟩) (v := ?_) rfl (by kernel_rfl) (by kernel_rfl) (by kernel_rfl) (fun _ _ _ h => h) (Or.inl ⟨by kernel_rfl, ?_⟩) (by assumption) ?_
        rotate_left 1
        focus (intro w' hSw; (try dsimp only at hSw); go_simp; (try with_reducible rfl))
        try simp only [Act.put, List.setIfInBounds_toArray, List.set_cons_zero, List.set_cons_succ]
        refine wpAnyH_take (i := 47) (oi := ⟨some 116, _, _, _, _, _⟩) (v := ?_) rfl (by kernel_rfl) (by kernel_rfl) (by kernel_rfl) (fun _ _ _ h => h) (Or.inl ⟨by kernel_rfl, ?_⟩) (by assumption) ?_
        rotate_left 1
        focus (intro w' hSw; (try dsimp only at hSw); go_simp; (try with_reducible rfl))
        try simp only [Act.put, List.setIfInBounds_toArray, List.set_cons_zero, List.set_cons_succ]
        refine wpAnyH_take (i := 48) (oi := ⟨some 117, _, _, _, _, _⟩) (v := ?_) rfl (by kernel_rfl) (by kernel_rfl) (by kernel_rfl) (fun _ _ _ h => h) (Or.inl ⟨by kernel_rfl, ?_⟩) (by assumption) ?_
        rotate_left 1
        focus (intro w' hSw; (try dsimp only at hSw); go_simp; (try with_reducible rfl))
        try simp only [Act.put, List.setIfInBounds_toArray, List.set_cons_zero, List.set_cons_succ]
        refine wpAnyH_take (i := 49) (oi := ⟨some 118, _, _, _, _, _⟩) (v := ?_) rfl (by kernel_rfl) (by kernel_rfl) (by kernel_rfl) (fun _ _ _ h => h) (Or.inl ⟨by kernel_rfl, ?_⟩) (by assumption) ?_
        rotate_left 1
        focus (intro w' hSw; (try dsimp only at hSw); go_simp; (try with_reducible rfl))
        try simp only [Act.put, List.setIfInBounds_toArray, List.set_cons_zero, List.set_cons_succ]
        refine wpAnyH_take (i := 50) (oi := ⟨some 119, _, _, _, _, _⟩) (v := ?_) rfl (by kernel_rfl) (by kernel_rfl) (by kernel_rfl) (fun _ _ _ h => h) (Or.inl ⟨by kernel_rfl, ?_⟩) (by assumption) ?_
        rotate_left 1
        focus (intro w' hSw; (try dsimp only at hSw); go_simp; (try with_reducible rfl))
        try simp only [Act.put, List.setIfInBounds_toArray, List.set_cons_zero, List.set_cons_succ]
        refine wpAnyH_take (i := 51) (oi := ⟨some 120, _, _, _, _, _⟩) (v := ?_) rfl (by kernel_rfl) (by kernel_rfl) (by kernel_rfl) (fun _ _ _ h => h) (Or.inl ⟨by kernel_rfl, ?_⟩) (by assumption) ?_
        rotate_left 1
        focus (intro w' hSw; (try dsimp only at hSw); go_simp; (try with_reducible rfl))
        try simp only [Act.put, List.setIfInBounds_toArray, List.set_cons_zero, List.set_cons_succ]
        refine wpAnyH_ready (rs := [52]) (by kernel_rfl) (by simp) ?_
        refine AllReadyH.cons rfl (fun K hK => ?_) AllReadyH.nil
        go_simp
        go_at_call 54
        refine (J4.out _ hv3).mono ?_
        rintro en v4 ⟨rfl, hv4⟩
        clear hHeld
        refine hK.out _ _ (HSS.out _ hv4) (fun hHeld => ?_)
        clear hK
        refine wpAnyH_take (i := 53) (oi := ⟨some 122, _, _, _, _, _⟩) (v := ?_) rfl (by kernel_rfl) (by kernel_rfl) (by kernel_rfl) (fun _ _ _ h => h) (Or.inl ⟨by kernel_rfl, ?_⟩) (by assumption) ?_
        rotate_left 1
        focus (intro w' hSw; (try dsimp only at hSw); go_simp; (try with_reducible rfl))
        try simp only [Act.put, List.setIfInBounds_toArray, List.set_cons_zero, List.set_cons_succ]
        refine wpAnyH_take (i := 54) (oi := ⟨some 123, _, _, _, _, _⟩) (v := ?_) rfl (by kernel_rfl) (by kernel_rfl) (by kernel_rfl) (fun _ _ _ h => h) (Or.inl ⟨by kernel_rfl, ?_⟩) (by assumption) ?_
        rotate_left 1
        focus (intro w' hSw; (try dsimp only at hSw); go_simp; (try with_reducible rfl))
        try simp only [Act.put, List.setIfInBounds_toArray, List.set_cons_zero, List.set_cons_succ]
        refine wpAnyH_take (i := 55) (oi := ⟨some 124, _, _, _, _, _⟩) (v := ?_) rfl (by kernel_rfl) (by kernel_rfl) (by kernel_rfl) (fun _ _ _ h => h) (Or.inl ⟨by kernel_rfl, ?_⟩) (by assumption) ?_
        rotate_left 1
        focus (intro w' hSw; (try dsimp only at hSw); go_simp; (try with_reducible rfl))
        try simp only [Act.put, List.setIfInBounds_toArray, List.set_cons_zero, List.set_cons_succ]
        refine wpAnyH_take (i := 56) (oi := ⟨some 125, _, _, _, _, _⟩) (v := ?_) rfl (by kernel_rfl) (by kernel_rfl) (by kernel_rfl) (fun _ _ _ h => h) (Or.inl ⟨by kernel_rfl, ?_⟩) (by assumption) ?_
        rotate_left 1
        focus (intro w' hSw; (try dsimp only at hSw); go_simp; (try with_reducible rfl))
        try simp only [Act.put, List.setIfInBounds_toArray, List.set_cons_zero, List.set_cons_succ]
        refine wpAnyH_take (i := 57) (oi := ⟨some 126, _, _, _, _, _⟩) (v := ?_) rfl (by kernel_rfl) (by kernel_rfl) (by kernel_rfl) (fun _ _ _ h => h) (Or.inl ⟨by kernel_rfl, ?_⟩) (by assumption) ?_
        rotate_left 1
        focus (intro w' hSw; (try dsimp only at hSw); go_simp; (try with_reducible rfl))
        try simp only [Act.put, List.setIfInBounds_toArray, List.set_cons_zero, List.set_cons_succ]
        refine wpAnyH_done (by kernel_rfl) ?_ _
        have HB6 := Lib.hid (HB4.out.trans (hv4.mono HB4.out.size))
        have HF6 := Lib.hid ((hv4.block _ (lt_of_some HF4.out)).trans HF4.out)
        have HTl6 := Lib.hid (HTl4.out.later hv4)
        have HLs6 := Lib.hid (HLs.out.later hv4)
        clear hHeld hv1 hv2 hv3 hv4 J1 J2 J3 J4 HSS HB4 HF4 HTl4 HLs HB5 HK4 k0 k1 gp htt
        have f0 := cell_of_blk HF6.out 0
        have f3 := cell_of_blk HF6.out 3
        rcases HTl6.out with ⟨hk, rfl⟩ | ⟨hk, Q, rfl, hq1, hq2, hq3, hq4, hq5⟩
        · have gk : (d.K != 2) = true := by simp [hk]
          clear HTl6 hk
          go_wp2_with fail
          go_roundw
          case rel => exact ⟨i + 1, by go_num, by omega, HB6⟩
          case measure => simp [intOf]; omega
        · have gk : (d.K != 2) = false := by simp [hk]
          have hqp : 0 < Q.length := (List.getElem?_eq_some_iff.1 hq3).1
          have q0 : (0 : Int) < (Q.length : Int) := by omega
          have gq : ((Q.length : Int) == 0) = false := by rw [beq_eq_false_iff_ne]; omega
          obtain ⟨bq, oq, hAq, hbq, hc0, hc1⟩ := hq5 0 _ hq3
          rw [Nat.zero_mul, Nat.add_zero] at hc0 hc1
          have hql : Q.length = (seenOf Q').length := hq1.length
          have hq64 : Q.length ≤ 64 := by
            have h1 := seenOf_len Q'
            have h2 := HQ.out.len
            have := HLen.out
            omega
          have hne : seenOf Q' ≠ [] := fun h => by
            have h0 : Q.length = 0 := by rw [hql, h]; rfl
            omega
          have hdep := seen_depth HQ.out HM.out
          have JW : Hid (∀ w' : World, Below v4.heap.size v4 w' → Calls Tryd.prog 14 #[.agg #[.slice A L.length c, .int .i64 ad], .slice Af Q.length cf, .slice (some ⟨bl, ol, none⟩) (seenOf Q').length cl, .slice (some ⟨bn, on, none⟩) N.length cn] w' fun e w'' => e = .returned (.bool true) ∧ Below v4.heap.size v4 w'') := Lib.hid fun w' hb =>
            (HIH.out Q (seenOf Q') Af cf (some ⟨bl, ol, none⟩) cl rsl w' hne hq1 hq2 hq4 hdep (HS.out.later (HB6.out.trans (hb.mono HB6.out.size))) ((hq5.keep hb).more hb.size) (HLs6.out.later hb) ((HTx.out.keep (HB6.out.trans (hb.mono HB6.out.size))).more (HB6.out.trans (hb.mono HB6.out.size)).size) hq64).mono fun _ _ ⟨he, hw⟩ => ⟨he, hb.trans (hw.mono hb.size)⟩
          subst hAq
          have hS0 : ∀ w' : World, Below v4.heap.size v4 w' → (w'.cell? ⟨w2.heap.size, 1, none⟩ = some (.int .i64 (lv : Int)) ∧ w'.cell? ⟨w2.heap.size, 2, none⟩ = some (.int .i64 (nd : Int)) ∧ w'.cell? ⟨w2.heap.size, 3, none⟩ = some (.slice (some ⟨bq, oq, none⟩) Q.length cf) ∧ w'.cell? ⟨w.heap.size, 0, none⟩ = some (.slice A L.length c) ∧ w'.cell? ⟨w.heap.size, 1, none⟩ = some (.int .i64 ad) ∧ w'.cell? ⟨bq, oq, none⟩ = some (.int .i64 (lv : Int)) ∧ w'.cell? ⟨bq, oq + 1, none⟩ = some (.int .i64 (nd : Int)) ∧ Below v4.heap.size v4 w') := fun w' hb' => by
            have e2 := (hb'.block _ (lt_of_some HF6.out)).trans HF6.out
            have hb1' := HB6.out.trans (hb'.mono HB6.out.size)
            have e3 := (hb1'.block _ (lt_of_some HK.out)).trans HK.out
            exact ⟨cell_of_blk e2 1, cell_of_blk e2 2, cell_of_blk e2 3, cell_of_blk e3 0, cell_of_blk e3 1, (hb'.cell (p := ⟨bq, oq, none⟩) hbq).trans hc0, (hb'.cell (p := ⟨bq, oq + 1, none⟩) hbq).trans hc1, hb'⟩
          have HSS := Lib.hid hS0
          have HBv : Hid (Below v4.heap.size v4 v4.drew) := Lib.hid (Below.refl _ _).drew
          clear hS0 hc0 hc1 hbq hq1 hq2 hq3 hq4 hq5 hne hdep hql HTl6 hk
          go_upto_region 17 with fail
          clear f0 f3
          refine wp_region_held_drew (S := fun w' => (w'.cell? ⟨w2.heap.size, 1, none⟩ = some (.int .i64 (lv : Int)) ∧ w'.cell? ⟨w2.heap.size, 2, none⟩ = some (.int .i64 (nd : Int)) ∧ w'.cell? ⟨w2.heap.size, 3, none⟩ = some (.slice (some ⟨bq, oq, none⟩) Q.length cf) ∧ w'.cell? ⟨w.heap.size, 0, none⟩ = some (.slice A L.length c) ∧ w'.cell? ⟨w.heap.size, 1, none⟩ = some (.int .i64 ad) ∧ w'.cell? ⟨bq, oq, none⟩ = some (.int .i64 (lv : Int)) ∧ w'.cell? ⟨bq, oq + 1, none⟩ = some (.int .i64 (nd : Int)) ∧ Below v4.heap.size v4 w')) (by kernel_rfl) (HSS.out _ HBv.out) (fun hHeld => ?_)
          refine wpAnyH_take (i := 0) (oi := ⟨some 134, _, _, _, _, _⟩) (v := ?_) rfl (by kernel_rfl) (by kernel_rfl) (by kernel_rfl) (fun _ _ _ h => h) (Or.inl ⟨by kernel_rfl, ?_⟩) (by assumption) ?_
          rotate_left 1
          focus (intro w' hSw; (try dsimp only at hSw); go_simp; (try with_reducible rfl))
          try simp only [Act.put, List.setIfInBounds_toArray, List.set_cons_zero, List.set_cons_succ]
          refine wpAnyH_take (i := 1) (oi := ⟨some 135, _, _, _, _, _⟩) (v := ?_) rfl (by kernel_rfl) (by kernel_rfl) (by kernel_rfl) (fun _ _ _ h => h) (Or.inl ⟨by kernel_rfl, ?_⟩) (by assumption) ?_
          rotate_left 1
          focus (intro w' hSw; (try dsimp only at hSw); go_simp; (try with_reducible rfl))
          try simp only [Act.put, List.setIfInBounds_toArray, List.set_cons_zero, List.set_cons_succ]
          refine wpAnyH_take (i := 2) (oi := ⟨some 136, _, _, _, _, _⟩) (v := ?_) rfl (by kernel_rfl) (by kernel_rfl) (by kernel_rfl) (fun _ _ _ h => h) (Or.inl ⟨by kernel_rfl, ?_⟩) (by assumption) ?_
          rotate_left 1
          focus (intro w' hSw; (try dsimp only at hSw); go_simp; (try with_reducible rfl))
          try simp only [Act.put, List.setIfInBounds_toArray, List.set_cons_zero, List.set_cons_succ]
          refine wpAnyH_take (i := 3) (oi := ⟨some 137, _, _, _, _, _⟩) (v := ?_) rfl (by kernel_rfl) (by kernel_rfl) (by kernel_rfl) (fun _ _ _ h => h) (Or.inl ⟨by kernel_rfl, ?_⟩) (by assumption) ?_
          rotate_left 1
          focus (intro w' hSw; (try dsimp only at hSw); go_simp; (try with_reducible rfl))
          try simp only [Act.put, List.setIfInBounds_toArray, List.set_cons_zero, List.set_cons_succ]
          refine wpAnyH_take (i := 4) (oi := ⟨some 138, _, _, _, _, _⟩) (v := ?_) rfl (by kernel_rfl) (by kernel_rfl) (by kernel_rfl) (fun _ _ _ h => h) (Or.inl ⟨by kernel_rfl, ?_⟩) (by assumption) ?_
          rotate_left 1
          focus (intro w' hSw; (try dsimp only at hSw); go_simp; (try with_reducible rfl))
          try simp only [Act.put, List.setIfInBounds_toArray, List.set_cons_zero, List.set_cons_succ]
          refine wpAnyH_take (i := 5) (oi := ⟨some 139, _, _, _, _, _⟩) (v := ?_) rfl (by kernel_rfl) (by kernel_rfl) (by kernel_rfl) (fun _ _ _ h => h) (Or.inl ⟨by kernel_rfl, ?_⟩) (by assumption) ?_
          rotate_left 1
          focus (intro w' hSw; (try dsimp only at hSw); go_simp; (try with_reducible rfl))
          try simp only [Act.put, List.setIfInBounds_toArray, List.set_cons_zero, List.set_cons_succ]
          refine wpAnyH_take (i := 6) (oi := ⟨some 140, _, _, _, _, _⟩) (v := ?_) rfl (by kernel_rfl) (by kernel_rfl) (by kernel_rfl) (fun _ _ _ h => h) (Or.inl ⟨by kernel_rfl, ?_⟩) (by assumption) ?_
          rotate_left 1
          focus (intro w' hSw; (try dsimp only at hSw); go_simp; (try with_reducible rfl))
          try simp only [Act.put, List.setIfInBounds_toArray, List.set_cons_zero, List.set_cons_succ]
          refine wpAnyH_take (i := 7) (oi := ⟨some 141, _, _, _, _, _⟩) (v := ?_) rfl (by kernel_rfl) (by kernel_rfl) (by kernel_rfl) (fun _ _ _ h => h) (Or.inl ⟨by kernel_rfl, ?_⟩) (by assumption) ?_
          rotate_left 1
          focus (intro w' hSw; (try dsimp only at hSw); go_simp; (try with_reducible rfl))
          try simp only [Act.put, List.setIfInBounds_toArray, List.set_cons_zero, List.set_cons_succ]
          refine wpAnyH_take (i := 8) (oi := ⟨some 142, _, _, _, _, _⟩) (v := ?_) rfl (by kernel_rfl) (by kernel_rfl) (by kernel_rfl) (fun _ _ _ h => h) (Or.inl ⟨by kernel_rfl, ?_⟩) (by assumption) ?_
          rotate_left 1
          focus (intro w' hSw; (try dsimp only at hSw); go_simp; (try with_reducible rfl))
          try simp only [Act.put, List.setIfInBounds_toArray, List.set_cons_zero, List.set_cons_succ]
          refine wpAnyH_take (i := 9) (oi := ⟨some 143, _, _, _, _, _⟩) (v := ?_) rfl (by kernel_rfl) (by kernel_rfl) (by kernel_rfl) (fun _ _ _ h => h) (Or.inl ⟨by kernel_rfl, ?_⟩) (by assumption) ?_
          rotate_left 1
          focus (intro w' hSw; (try dsimp only at hSw); go_simp; (try with_reducible rfl))
          try simp only [Act.put, List.setIfInBounds_toArray, List.set_cons_zero, List.set_cons_succ]
          refine wpAnyH_take (i := 10) (oi := ⟨some 144, _, _, _, _, _⟩) (v := ?_) rfl (by kernel_rfl) (by kernel_rfl) (by kernel_rfl) (fun _ _ _ h => h) (Or.inl ⟨by kernel_rfl, ?_⟩) (by assumption) ?_
          rotate_left 1
          focus (intro w' hSw; (try dsimp only at hSw); go_simp; (try with_reducible rfl))
          try simp only [Act.put, List.setIfInBounds_toArray, List.set_cons_zero, List.set_cons_succ]
          refine wpAnyH_take (i := 11) (oi := ⟨some 145, _, _, _, _, _⟩) (v := ?_) rfl (by kernel_rfl) (by kernel_rfl) (by kernel_rfl) (fun _ _ _ h => h) (Or.inl ⟨by kernel_rfl, ?_⟩) (by assumption) ?_
          rotate_left 1
          focus (intro w' hSw; (try dsimp only at hSw); go_simp; (try with_reducible rfl))
          try simp only [Act.put, List.setIfInBounds_toArray, List.set_cons_zero, List.set_cons_succ]
          refine wpAnyH_take (i := 12) (oi := ⟨some 146, _, _, _, _, _⟩) (v := ?_) rfl (by kernel_rfl) (by kernel_rfl) (by kernel_rfl) (fun _ _ _ h => h) (Or.inl ⟨by kernel_rfl, ?_⟩) (by assumption) ?_
          rotate_left 1
          focus (intro w' hSw; (try dsimp only at hSw); go_simp; (try with_reducible rfl))
          try simp only [Act.put, List.setIfInBounds_toArray, List.set_cons_zero, List.set_cons_succ]
          refine wpAnyH_take (i := 13) (oi := ⟨some 147, _, _, _, _, _⟩) (v := ?_) rfl (by kernel_rfl) (by kernel_rfl) (by kernel_rfl) (fun _ _ _ h => h) (Or.inl ⟨by kernel_rfl, ?_⟩) (by assumption) ?_
          rotate_left 1
          focus (intro w' hSw; (try dsimp only at hSw); go_simp; (try with_reducible rfl))
          try simp only [Act.put, List.setIfInBounds_toArray, List.set_cons_zero, List.set_cons_succ]
          refine wpAnyH_take (i := 14) (oi := ⟨some 148, _, _, _, _, _⟩) (v := ?_) rfl (by kernel_rfl) (by kernel_rfl) (by kernel_rfl) (fun _ _ _ h => h) (Or.inl ⟨by kernel_rfl, ?_⟩) (by assumption) ?_
          rotate_left 1
          focus (intro w' hSw; (try dsimp only at hSw); go_simp; (try with_reducible rfl))
          try simp only [Act.put, List.setIfInBounds_toArray, List.set_cons_zero, List.set_cons_succ]
          refine wpAnyH_take (i := 15) (oi := ⟨some 149, _, _, _, _, _⟩) (v := ?_) rfl (by kernel_rfl) (by kernel_rfl) (by kernel_rfl) (fun _ _ _ h => h) (Or.inl ⟨by kernel_rfl, ?_⟩) (by assumption) ?_
          rotate_left 1
          focus (intro w' hSw; (try dsimp only at hSw); go_simp; (try with_reducible rfl))
          try simp only [Act.put, List.setIfInBounds_toArray, List.set_cons_zero, List.set_cons_succ]
          refine wpAnyH_take (i := 16) (oi := ⟨some 150, _, _, _, _, _⟩) (v := ?_) rfl (by kernel_rfl) (by kernel_rfl) (by kernel_rfl) (fun _ _ _ h => h) (Or.inl ⟨by kernel_rfl, ?_⟩) (by assumption) ?_
          rotate_left 1
          focus (intro w' hSw; (try dsimp only at hSw); go_simp; (try with_reducible rfl))
          try simp only [Act.put, List.setIfInBounds_toArray, List.set_cons_zero, List.set_cons_succ]
          refine wpAnyH_take (i := 17) (oi := ⟨some 151, _, _, _, _, _⟩) (v := ?_) rfl (by kernel_rfl) (by kernel_rfl) (by kernel_rfl) (fun _ _ _ h => h) (Or.inl ⟨by kernel_rfl, ?_⟩) (by assumption) ?_
          rotate_left 1
          focus (intro w' hSw; (try dsimp only at hSw); go_simp; (try with_reducible rfl))
          try simp only [Act.put, List.setIfInBounds_toArray, List.set_cons_zero, List.set_cons_succ]
          refine wpAnyH_take (i := 18) (oi := ⟨some 152, _, _, _, _, _⟩) (v := ?_) rfl (by kernel_rfl) (by kernel_rfl) (by kernel_rfl) (fun _ _ _ h => h) (Or.inl ⟨by kernel_rfl, ?_⟩) (by assumption) ?_
          rotate_left 1
          focus (intro w' hSw; (try dsimp only at hSw); go_simp; (try with_reducible rfl))
          try simp only [Act.put, List.setIfInBounds_toArray, List.set_cons_zero, List.set_cons_succ]
          refine wpAnyH_ready (rs := [19]) (by kernel_rfl) (by simp) ?_
          refine AllReadyH.cons rfl (fun K hK => ?_) AllReadyH.nil
          go_simp
          go_at_call 14
          refine (JW.out _ HBv.out).mono ?_
          rintro en v9 ⟨rfl, hv9⟩
          clear hHeld
          refine hK.out _ _ (HSS.out _ hv9) (fun hHeld => ?_)
          clear hK
          refine wpAnyH_take (i := 20) (oi := ⟨some 154, _, _, _, _, _⟩) (v := ?_) rfl (by kernel_rfl) (by kernel_rfl) (by kernel_rfl) (fun _ _ _ h => h) (Or.inl ⟨by kernel_rfl, ?_⟩) (by assumption) ?_
          rotate_left 1
          focus (intro w' hSw; (try dsimp only at hSw); go_simp; (try with_reducible rfl))
          try simp only [Act.put, List.setIfInBounds_toArray, List.set_cons_zero, List.set_cons_succ]
          refine wpAnyH_take (i := 21) (oi := ⟨some 155, _, _, _, _, _⟩) (v := ?_) rfl (by kernel_rfl) (by kernel_rfl) (by kernel_rfl) (fun _ _ _ h => h) (Or.inl ⟨by kernel_rfl, ?_⟩) (by assumption) ?_
          rotate_left 1
          focus (intro w' hSw; (try dsimp only at hSw); go_simp; (try with_reducible rfl))
          try simp only [Act.put, List.setIfInBounds_toArray, List.set_cons_zero, List.set_cons_succ]
          refine wpAnyH_done (by kernel_rfl) ?_ _
          have HB9 := Lib.hid (HB6.out.trans (hv9.mono HB6.out.size))
          clear hHeld hv9 JW HSS HBv
          go_wp2_with fail
          go_roundw
          case rel => exact ⟨i + 1, by go_num, by omega, HB9⟩
          case measure => simp [intOf]; omega
    · obtain rfl : i = N.length := by omega
      have HF := Lib.hid (HB1.out.trans (HB.out.mono HB1.out.size))
      clear HB
      go_wp2_with fail
      go_ret
      exact ⟨rfl, HF.out⟩
theorem walks_all {R : List Nd} (hall : ∀ t ∈ R, allB t = true) (A : Option Addr) (c : Nat) (ad : Int) (L : List (Nat × Int)) (An : Option Addr) (cn : Nat) (N : List ByteArray) (hN : N.length ≤ 1000) : ∀ k, Walks R A c ad L An cn N k
  | 0 => fun P D Ap cp Ad cd rs w hne _ _ _ hk => by
    rcases D with _ | ⟨d, D⟩
    · exact absurd rfl hne
    · exact absurd (hk d (List.mem_cons_self ..)) (Nat.not_lt_zero _)
  | k + 1 => fun P D Ap cp Ad cd rs w _ h1 h2 h3 h4 h5 h6 h7 h8 h9 => walk_step hall A c ad L An cn N k hN (walks_all hall A c ad L An cn N hN k) P D Ap cp Ad cd rs w h1 h2 h3 h4 h5 h6 h7 h8 h9
end Go.Proofs.YtmmpceodhadipaaDoor.seen

namespace Go.Proofs.YtmmpceodhadipaaDoor.seen
set_option maxRecDepth 100000
open Go.RowKit Go.Proofs.YtmmpceodhadipaaDoor.words Go.Proofs.YtmmpceodhadipaaDoor.ext Go.Proofs.YtmmpceodhadipaaDoor.name Go.Proofs.YtmmpceodhadipaaDoor.tre Go.Proofs.YtmmpceodhadipaaDoor.stk

theorem infoStr : (Tryd.prog.info? 9).map (fun i => (i.zero, i.size, i.bytes)) = some (some (.string ⟨#[]⟩), 1, 16) := by kernel_rfl
theorem cut_texts (A : Option Addr) (n cap i : Nat) (h : i ≤ cap) (wx : World) :
    (Instr.slice 23 (.slice A n cap) none (some (.int .i64 (i : Int))) none).run Tryd.prog wx = .ok (.slice A i cap) wx := by
  obtain ⟨i0, hi, hz0, hz1, hz2⟩ := info_parts infoStr
  have he : Tryd.prog.elem 23 = 9 := by kernel_rfl
  rw [run_slice_h (P := Tryd.prog) wx 23 A n cap (by kernel_rfl) .i64 (i : Int) (by omega) (by omega), he]
  simp [sizeOf, typeInfo, hi, hz1, Result.andThen, sliced]
  rcases A with _ | A
  · intro _; rfl
  · simp [Addr.add]
/-- What is known of trees that may be, from above. -/
structure Fine (R : List Nd) : Prop where
  all : ∀ t ∈ R, allB t = true
  dirs : ∀ t ∈ R, t.K = 2
  deep : ∀ t ∈ R, depth t ≤ 30
theorem fine_of {w : World} {B : Nat} {A : Option Addr} {T : List Nd} {rs : Nat → Raw} (hT : Trees w B A T rs) (hm : mayB T = true) : Fine T := by
  have key : ∀ t ∈ T, Okay t := fun t ht => by
    obtain ⟨i, hi⟩ := List.mem_iff_getElem?.1 ht
    exact okay_of (mayB_all hm t ht).1 (hT i t hi).2.tame (mayB_all hm t ht).2
  exact ⟨fun t ht => (key t ht).all, fun t ht => by
    have h := (mayB_all hm t ht).2
    unfold treeB at h
    simp only [Bool.and_eq_true, beq_iff_eq] at h
    exact h.1, fun t ht => (key t ht).dep⟩
theorem Fine.rev {T : List Nd} (h : Fine T) : Fine T.reverse := ⟨fun t ht => h.all t (List.mem_reverse.1 ht), fun t ht => h.dirs t (List.mem_reverse.1 ht), fun t ht => h.deep t (List.mem_reverse.1 ht)⟩
theorem root_len {R : List Nd} : (rootP (tabs R)).length ≤ R.length := by
  rw [rootP_length]
  have := oneN_le (tabs R) (roots (tabs R).length)
  rw [roots_length, tabs_length] at this
  rw [tabs_length]
  exact this
set_option maxHeartbeats 25600000 in
theorem law_all (A : Option Addr) (c : Nat) (T : List Nd) (rs : Nat → Raw) (An : Option Addr) (cn : Nat) (N : List ByteArray) (m : Int) (w : World) (hT : Trees w w.heap.size A T rs) (hm : w.cell? ⟨0, 0, none⟩ = some (.int .i64 m)) (hN : Txts w w.heap.size An N) (hcn : N.length ≤ cn) :
    Calls Tryd.prog 3 #[.slice A T.length c, .slice An N.length cn] w fun e w' => e = .returned (.bool true) ∧ Below w.heap.size w w' := by
  have HT := Lib.hid hT
  have HM := Lib.hid hm
  have HN := Lib.hid hN
  clear hT hm hN
  go_enter Tryd.func3, Tryd.ntmps3
  go_wp2_with fail
  refine (speaks_any m w HM.out).mono ?_
  rintro e w1 ⟨rfl, hb1⟩
  have HB1 := Lib.hid hb1
  have HC := Lib.hid (may_any A c T rs w1 (HT.out.later hb1))
  clear hb1
  go_wp2_with fail
  refine HC.out.mono ?_
  rintro e w2 ⟨rfl, hb2⟩
  have HB2 := Lib.hid (HB1.out.trans (hb2.mono HB1.out.size))
  clear hb2 HC HB1
  rcases hmay : mayB T with _ | _
  · rw [mayI_no hmay]
    go_wp2_with fail
    go_ret
    exact ⟨rfl, HB2.out⟩
  · rw [mayI_yes hmay]
    have HMay := Lib.hid hmay
    clear hmay
    by_cases hn8 : 8 < N.length
    · have g : (8 : Int) < (N.length : Int) := by omega
      go_wp2_with fail
      go_ret
      exact ⟨rfl, HB2.out⟩
    · have g : ¬ (8 : Int) < (N.length : Int) := by omega
      have HC := Lib.hid (stack_any A c T rs m w2 (HT.out.later HB2.out) (below_cell HM.out HB2.out))
      go_wp2_with fail
      refine HC.out.mono ?_
      rintro e w3 ⟨hst, hb3⟩
      rcases hst with ⟨_, A', c', L, rfl, hok⟩ | ⟨hno, _⟩
      · obtain ⟨W4, hW4⟩ : ∃ W4, W4 = w3.alloc (.cells #[.slice A' T.length c', .int .i64 (T.length : Int)] 28) := ⟨_, rfl⟩
        have hb4 : Below w3.heap.size w3 W4 := by rw [hW4]; exact (Below.refl _ _).alloc (Nat.le_refl _) _
        have hk4 : W4.heap[w3.heap.size]? = some (.cells #[.slice A' T.length c', .int .i64 (T.length : Int)] 28 (0, 0)) := by rw [hW4]; exact heap_alloc_new w3 _
        have hb24 := hb3.trans (hb4.mono hb3.size)
        have HB4 := Lib.hid (HB2.out.trans (hb24.mono HB2.out.size))
        have HK := Lib.hid hk4
        have HS := Lib.hid (StkOk.stkM (hok.later hb4))
        have HLen := Lib.hid hok.len
        have HW4 := Lib.hid hW4
        clear hb3 hok hb4 hk4 hb24 hW4 HC
        go_upto_region 6 with fail
        rw [← HW4.out]
        clear HW4
        go_wp2_with fail
        go_loopw [30] (fun v wr => ∃ i : Nat, v = .int .i64 (i : Int) ∧ i ≤ N.length ∧ Hid (Below W4.heap.size W4 wr)) (fun v _ => N.length - (intOf v).toNat)
        case atStart => exact ⟨0, rfl, Nat.zero_le _, Lib.hid (Below.refl _ _)⟩
        case round =>
          obtain ⟨i, rfl, hi, HB⟩ := hrel
          by_cases hlt : i < N.length
          · obtain ⟨s, hs⟩ : ∃ s, N[i]? = some s := ⟨_, List.getElem?_eq_getElem hlt⟩
            obtain ⟨⟨bn, on, hAn, hbn, cn0⟩, hsz⟩ := (HN.out.keep (HB4.out.trans (HB.out.mono HB4.out.size))) i s hs
            subst hAn
            have i0 : (0 : Int) ≤ (i : Int) := by omega
            have i1 : (i : Int) < (N.length : Int) := by omega
            have hcut := cut_texts (some ⟨bn, on, none⟩) N.length cn i (by omega)
            by_cases hs100 : 100 < s.size
            · have g1 : (100 : Int) < (s.size : Int) := by omega
              have HF := Lib.hid (HB4.out.trans (HB.out.mono HB4.out.size))
              go_wp2_with fail
              go_ret
              exact ⟨rfl, HF.out⟩
            · have g1 : ¬ (100 : Int) < (s.size : Int) := by omega
              have HBo := Lib.hid HB.out
              clear hs hsz
              go_wp2_with fail
              rename World => wo
              go_loopw [42] (fun v wr => ∃ j : Nat, v = .int .i64 (j : Int) ∧ j ≤ i ∧ wr = wo) (fun v _ => i - (intOf v).toNat)
              case atStart => exact ⟨0, rfl, Nat.zero_le _, rfl⟩
              case round =>
                obtain ⟨j, rfl, hj, rfl⟩ := hrel
                by_cases hji : j < i
                · obtain ⟨s2, hs2⟩ : ∃ s2, N[j]? = some s2 := ⟨_, List.getElem?_eq_getElem (by omega)⟩
                  obtain ⟨⟨bm, om, hAm, hbm, cm0⟩, hsz2⟩ := (HN.out.keep (HB4.out.trans (HBo.out.mono HB4.out.size))) j s2 hs2
                  injection hAm with hAm
                  injection hAm with e1 e2
                  subst e1 e2
                  have j0 : (0 : Int) ≤ (j : Int) := by omega
                  have j1 : (j : Int) < (i : Int) := by omega
                  clear hs2 hsz2
                  rcases hr : (s2.toList == s.toList) with _ | _
                  · go_wp2_with fail
                    go_roundw
                    case rel => exact ⟨j + 1, by go_num, by omega, by first | trivial | rfl⟩
                    case measure => simp [intOf]; omega
                  · have HF := Lib.hid (HB4.out.trans (HBo.out.mono HB4.out.size))
                    go_wp2_with fail
                    go_ret
                    exact ⟨rfl, HF.out⟩
                · obtain rfl : j = i := by omega
                  go_wp2_with fail
                  go_roundw
                  case rel => exact ⟨j + 1, by go_num, by omega, HBo⟩
                  case measure => simp [intOf]; omega
          · obtain rfl : i = N.length := by omega
            rename World => wr
            have HT4 := Lib.hid ((HT.out.later HB4.out).later HB.out)
            have HSr := Lib.hid (HS.out.later HB.out)
            have HNr := Lib.hid ((HN.out.keep (HB4.out.trans (HB.out.mono HB4.out.size))).more (HB4.out.trans (HB.out.mono HB4.out.size)).size)
            have hfine := (fine_of HT4.out HMay.out).rev
            have HKr := Lib.hid ((HB.out.block _ (lt_of_some HK.out)).trans HK.out)
            have hT8 := mayB_len HMay.out
            obtain ⟨R, hR⟩ : ∃ R, R = T.reverse := ⟨_, rfl⟩
            have hRl : R.length = T.length := by rw [hR, List.length_reverse]
            rw [← hR] at hfine HSr
            obtain ⟨P, hPe⟩ : ∃ P, P = rootP (tabs R) := ⟨_, rfl⟩
            obtain ⟨D, hDe⟩ : ∃ D, D = R.take (dirsN R) := ⟨_, rfl⟩
            have hats := root_ats hfine.dirs
            have hup := root_up (R := R)
            have hpl := root_len (R := R)
            rw [← hPe] at hats hup hpl
            rw [← hDe] at hats
            have HFine := Lib.hid hfine
            have HAts := Lib.hid hats
            have HUp := Lib.hid hup
            have J1 : Hid (∀ w' : World, Below wr.heap.size wr w' → Calls Tryd.prog 15 #[.agg #[.slice A' T.length c', .int .i64 (T.length : Int)]] w' fun e w'' => (∃ Ap cp, e = .returned (.slice Ap P.length cp) ∧ Plc w'' w''.heap.size Ap P) ∧ Below wr.heap.size wr w'') := Lib.hid fun w' hb => by
              have h1 := root_any A' c' (T.length : Int) L (tabs R) w' (HSr.out.later hb) (by rw [HLen.out]; omega) tab_root
              rw [HLen.out, ← hPe] at h1
              exact h1.mono fun e w'' ⟨Ap, cp, h2, h3, _, _, h4⟩ => ⟨⟨Ap, cp, h2, h3⟩, hb.trans (h4.mono hb.size)⟩
            have J2 : Hid (∀ w' : World, Below wr.heap.size wr w' → Calls Tryd.prog 17 #[.slice A T.length c] w' fun e w'' => (∃ Aa ca qs, e = .returned (.slice Aa R.length ca) ∧ Trees w'' w''.heap.size Aa R qs) ∧ Below w'.heap.size w' w'' ∧ Below wr.heap.size wr w'') := Lib.hid fun w' hb => by
              have h1 := above_any A c T rs w' (HT4.out.later hb) (by omega)
              rw [← hR] at h1
              exact h1.mono fun e w'' ⟨Aa, ca, qs, h2, h3, _, h4⟩ => ⟨⟨Aa, ca, qs, h2, h3⟩, h4, hb.trans (h4.mono hb.size)⟩
            have J3 : Hid (∀ (w' : World) (Aa : Option Addr) (ca : Nat) (qs : Nat → Raw), Below wr.heap.size wr w' → Trees w' w'.heap.size Aa R qs → Calls Tryd.prog 16 #[.slice Aa R.length ca] w' fun e w'' => (∃ Ad cd rd, e = .returned (.slice Ad D.length cd) ∧ Trees w'' w''.heap.size Ad D rd) ∧ Below w'.heap.size w' w'' ∧ Below wr.heap.size wr w'') := Lib.hid fun w' Aa ca qs hb ht => by
              have h1 := dirs_any Aa ca R qs w' ht (by omega)
              rw [← hDe] at h1
              exact h1.mono fun e w'' ⟨Ad, cd, rd, h2, h3, _, h4⟩ => ⟨⟨Ad, cd, rd, h2, h3⟩, h4, hb.trans (h4.mono hb.size)⟩
            have HDe := Lib.hid hDe
            have J4 : Hid (∀ (w' : World) (Ap : Option Addr) (cp : Nat) (Ad : Option Addr) (cd : Nat) (rd : Nat → Raw), Below wr.heap.size wr w' → Plc w' w'.heap.size Ap P → Trees w' w'.heap.size Ad D rd → Calls Tryd.prog 14 #[.agg #[.slice A' T.length c', .int .i64 (T.length : Int)], .slice Ap P.length cp, .slice Ad D.length cd, .slice An N.length cn] w' fun e w'' => e = .returned (.bool true) ∧ Below wr.heap.size wr w'') := Lib.hid fun w' Ap cp Ad cd rd hb hp ht => by
              have h1 := walk_step HFine.out.all A' c' (T.length : Int) L An cn N 100 (by omega) (walks_all HFine.out.all A' c' (T.length : Int) L An cn N (by omega) 100) P D Ap cp Ad cd rd w' HAts.out HUp.out
                (fun d hd => HFine.out.dirs d (by rw [HDe.out] at hd; exact List.mem_of_mem_take hd)) (fun d hd => by have := HFine.out.deep d (by rw [HDe.out] at hd; exact List.mem_of_mem_take hd); omega)
                (HSr.out.later hb) hp ht ((HNr.out.keep hb).more hb.size) (by omega)
              rw [HLen.out] at h1
              exact h1.mono fun e w'' ⟨h2, h3⟩ => ⟨h2, hb.trans (h3.mono hb.size)⟩
            have HSS : Hid (∀ w' : World, Below wr.heap.size wr w' → (w'.cell? ⟨w3.heap.size, 0, none⟩ = some (.slice A' T.length c') ∧ w'.cell? ⟨w3.heap.size, 1, none⟩ = some (.int .i64 (T.length : Int)) ∧ Below wr.heap.size wr w')) := Lib.hid fun w' hb' => by
              have e2 := (hb'.block _ (lt_of_some HKr.out)).trans HKr.out
              exact ⟨cell_of_blk e2 0, cell_of_blk e2 1, hb'⟩
            have HBv : Hid (Below wr.heap.size wr wr.drew) := Lib.hid (Below.refl _ _).drew
            clear hfine hT8 hR hRl hPe hDe hats hup hpl
            go_upto_region 20 with fail
            refine wp_region_held_drew (S := fun w' => (w'.cell? ⟨w3.heap.size, 0, none⟩ = some (.slice A' T.length c') ∧ w'.cell? ⟨w3.heap.size, 1, none⟩ = some (.int .i64 (T.length : Int)) ∧ Below wr.heap.size wr w')) (by kernel_rfl) (HSS.out _ HBv.out) (fun hHeld => ?_)
            refine wpAnyH_take (i := 0) (oi := ⟨some 51, _, _, _, _, _⟩) (v := ?_) rfl (by kernel_rfl) (by kernel_rfl) (by kernel_rfl) (fun _ _ _ h => h) (Or.inl ⟨by kernel_rfl, ?_⟩) (by assumption) ?_
            rotate_left 1
            focus (intro w' hSw; (try dsimp only at hSw); go_simp; (try with_reducible rfl))
            try simp only [Act.put, List.setIfInBounds_toArray, List.set_cons_zero, List.set_cons_succ]
            refine wpAnyH_take (i := 1) (oi := ⟨some 52, _, _, _, _, _⟩) (v := ?_) rfl (by kernel_rfl) (by kernel_rfl) (by kernel_rfl) (fun _ _ _ h => h) (Or.inl ⟨by kernel_rfl, ?_⟩) (by assumption) ?_
            rotate_left 1
            focus (intro w' hSw; (try dsimp only at hSw); go_simp; (try with_reducible rfl))
            try simp only [Act.put, List.setIfInBounds_toArray, List.set_cons_zero, List.set_cons_succ]
            refine wpAnyH_take (i := 3) (oi := ⟨some 54, _, _, _, _, _⟩) (v := ?_) rfl (by kernel_rfl) (by kernel_rfl) (by kernel_rfl) (fun _ _ _ h => h) (Or.inl ⟨by kernel_rfl, ?_⟩) (by assumption) ?_
            rotate_left 1
            focus (intro w' hSw; (try dsimp only at hSw); go_simp; (try with_reducible rfl))
            try simp only [Act.put, List.setIfInBounds_toArray, List.set_cons_zero, List.set_cons_succ]
            refine wpAnyH_take (i := 6) (oi := ⟨some 57, _, _, _, _, _⟩) (v := ?_) rfl (by kernel_rfl) (by kernel_rfl) (by kernel_rfl) (fun _ _ _ h => h) (Or.inl ⟨by kernel_rfl, ?_⟩) (by assumption) ?_
            rotate_left 1
            focus (intro w' hSw; (try dsimp only at hSw); go_simp; (try with_reducible rfl))
            try simp only [Act.put, List.setIfInBounds_toArray, List.set_cons_zero, List.set_cons_succ]
            refine wpAnyH_ready (rs := [2]) (by kernel_rfl) (by simp) ?_
            refine AllReadyH.cons rfl (fun K hK => ?_) AllReadyH.nil
            go_simp
            go_at_call 15
            refine (J1.out _ HBv.out).mono ?_
            rintro en v1 ⟨⟨Ap, cp, rfl, hp1⟩, hv1⟩
            clear hHeld
            refine hK.out _ _ (HSS.out _ hv1) (fun hHeld => ?_)
            clear hK
            refine wpAnyH_ready (rs := [4]) (by kernel_rfl) (by simp) ?_
            refine AllReadyH.cons rfl (fun K hK => ?_) AllReadyH.nil
            go_simp
            go_at_call 17
            refine (J2.out _ hv1).mono ?_
            rintro en v2 ⟨⟨Aa, ca, qs, rfl, ht2⟩, hv12, hv2⟩
            clear hHeld
            refine hK.out _ _ (HSS.out _ hv2) (fun hHeld => ?_)
            clear hK
            refine wpAnyH_ready (rs := [5]) (by kernel_rfl) (by simp) ?_
            refine AllReadyH.cons rfl (fun K hK => ?_) AllReadyH.nil
            go_simp
            go_at_call 16
            refine (J3.out _ Aa ca qs hv2 ht2).mono ?_
            rintro en v3 ⟨⟨Ad, cd, rd, rfl, ht3⟩, hv23, hv3⟩
            clear hHeld
            refine hK.out _ _ (HSS.out _ hv3) (fun hHeld => ?_)
            clear hK
            refine wpAnyH_ready (rs := [7]) (by kernel_rfl) (by simp) ?_
            refine AllReadyH.cons rfl (fun K hK => ?_) AllReadyH.nil
            go_simp
            go_at_call 14
            refine (J4.out _ Ap cp Ad cd rd hv3 ((((hp1.keep hv12).more hv12.size).keep hv23).more hv23.size) ht3).mono ?_
            rintro en v4 ⟨rfl, hv4⟩
            clear hHeld
            refine hK.out _ _ (HSS.out _ hv4) (fun hHeld => ?_)
            clear hK
            refine wpAnyH_take (i := 8) (oi := ⟨some 4, _, _, _, _, _⟩) (v := ?_) rfl (by kernel_rfl) (by kernel_rfl) (by kernel_rfl) (fun _ _ _ h => h) (Or.inl ⟨by kernel_rfl, ?_⟩) (by assumption) ?_
            rotate_left 1
            focus (intro w' hSw; (try dsimp only at hSw); go_simp; (try with_reducible rfl))
            try simp only [Act.put, List.setIfInBounds_toArray, List.set_cons_zero, List.set_cons_succ]
            refine wpAnyH_done (by kernel_rfl) ?_ _
            have HF := Lib.hid ((HB4.out.trans (HB.out.mono HB4.out.size)).trans (hv4.mono (HB4.out.trans (HB.out.mono HB4.out.size)).size))
            clear hHeld
            go_wp2_with fail
            go_ret
            exact ⟨rfl, HF.out⟩
      · rw [HMay.out] at hno
        cases hno
end Go.Proofs.YtmmpceodhadipaaDoor.seen
