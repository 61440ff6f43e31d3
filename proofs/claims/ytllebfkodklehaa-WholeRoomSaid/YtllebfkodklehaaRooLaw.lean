/- WholeRoom: true. Condition: the keys lie in memory. -/
import Derived.Test.YtllebfkodklehaaRooMath
import Derived.Test.YtllebfkodklehaaLruArgs
namespace Go.Proofs.Ytllebfkodklehaa.roo
set_option maxRecDepth 100000
open Go.RowKit Go.Proofs.Ytllebfkodklehaa.words Go.Proofs.Ytllebfkodklehaa.lru Go.Proofs.Ytllebfkodklehaa.lrs Go.Proofs.Ytllebfkodklehaa.sha

/-- All that the law keeps. -/
structure InR (w : World) (T : List ByteArray) (n r g0 hW hN : Nat) (gsW gsN : List Nat) (m : Nat) (C : List Cc) (L : List Pr) (wr : World) : Prop where
  fam : Fam wr w.heap.size C
  sW : Shd wr w.heap.size hW gsW
  sN : Shd wr w.heap.size hN gsN
  below : Below w.heap.size w wr
  rel : Rel n r g0 gsW gsN C L
  len : L.length ≤ m
  keys : ∀ j, j < m → ∀ k, T[j]? = some k → ∃ x, (k, x) ∈ L
theorem InR.drewN {w : World} {T : List ByteArray} {n r g0 hW hN : Nat} {gsW gsN : List Nat} {m : Nat} {C : List Cc} {L : List Pr} {wr : World} (h : InR w T n r g0 hW hN gsW gsN m C L wr) (d : Nat) : InR w T n r g0 hW hN gsW gsN m C L (wr.drewN d) :=
  ⟨⟨h.fam.lru, h.fam.ok, h.fam.apart⟩, h.sW, h.sN, ⟨h.below.os, h.below.tape, h.below.output, h.below.size, h.below.block⟩, h.rel, h.len, h.keys⟩
/-- What there is while the three of a key turn. -/
structure Mid (w : World) (hW hN : Nat) (gsW gsN : List Nat) (C : List Cc) (wr : World) : Prop where
  fam : Fam wr w.heap.size C
  sW : Shd wr w.heap.size hW gsW
  sN : Shd wr w.heap.size hN gsN
  below : Below w.heap.size w wr
theorem InR.mid {w : World} {T : List ByteArray} {n r g0 hW hN : Nat} {gsW gsN : List Nat} {m : Nat} {C : List Cc} {L : List Pr} {wr : World} (h : InR w T n r g0 hW hN gsW gsN m C L wr) : Mid w hW hN gsW gsN C wr := ⟨h.fam, h.sW, h.sN, h.below⟩
theorem Mid.left {w wr w' : World} {hW hN i : Nat} {gsW gsN : List Nat} {C : List Cc} {c : Cc} {L' : List Pr} (h : Mid w hW hN gsW gsN C wr) (hi : C[i]? = some c) (hl : lrs.Left wr w.heap.size c.g c.r c.bo L' w') (hok : Ok L' c.r) : ∃ bo', Mid w hW hN gsW gsN (C.set i ⟨c.g, bo', c.r, L'⟩) w' := by
  have hk := h.fam.left_kept hi hl
  obtain ⟨bo', hf⟩ := h.fam.left hi hl hok
  exact ⟨bo', hf, h.sW.kept hk (by unfold LS; decide) (by unfold LS; decide), h.sN.kept hk (by unfold LS; decide) (by unfold LS; decide), h.below.trans (hk.below h.below.size)⟩
theorem put_len2 (L : List Pr) (r : Nat) (k : ByteArray) (x : Int) (h : L.length < r) : (putL L r k x).length ≤ L.length + 1 := by
  rw [(put_room k x h).1, List.length_cons]
  have := rest_le L k
  omega
theorem keys_put {T : List ByteArray} {m : Nat} {L : List Pr} {k : ByteArray} {v : Int} (h : ∀ j, j < m → ∀ k, T[j]? = some k → ∃ x, (k, x) ∈ L) (hk : T[m]? = some k) (hl : L.length < 300) : ∀ j, j < m + 1 → ∀ k', T[j]? = some k' → ∃ x, (k', x) ∈ putL L 300 k v := fun j hj k' hk' => by
  rw [(put_room k v hl).1]
  by_cases e : k' = k
  · exact ⟨v, by rw [e]; exact List.mem_cons_self ..⟩
  · have hjm : j < m := by
      rcases Nat.lt_or_ge j m with h | h
      · exact h
      · obtain rfl : j = m := by omega
        rw [hk] at hk'
        injection hk' with hk'
        exact absurd hk'.symm e
    obtain ⟨x, hx⟩ := h j hjm k' hk'
    exact ⟨x, by rw [List.mem_cons, mem_rest]; exact .inr ⟨hx, e⟩⟩
theorem keys_get {T : List ByteArray} {m : Nat} {L : List Pr} {k : ByteArray} (nd : (L.map (·.1)).Nodup) (h : ∀ j, j < m → ∀ k, T[j]? = some k → ∃ x, (k, x) ∈ L) : ∀ j, j < m → ∀ k', T[j]? = some k' → ∃ x, (k', x) ∈ getL L k := fun j hj k' hk' => by
  obtain ⟨x, hx⟩ := h j hj k' hk'
  exact ⟨x, (mem_get nd _).2 hx⟩
theorem len_get {L : List Pr} {k : ByteArray} {x : Int} (nd : (L.map (·.1)).Nodup) (h : (k, x) ∈ L) : (getL L k).length = L.length := by
  obtain ⟨i, hi⟩ := List.mem_iff_getElem?.1 h
  rw [get_is nd h, List.length_cons, rest_at_len hi nd]
theorem sum_step (n m : Nat) (L : List Pr) : sumTo (m + 1) (fun i => (part n i L).length) = sumTo m (fun i => (part n i L).length) + (part n m L).length := rfl
theorem sum_le (n m : Nat) (L : List Pr) (hm : m ≤ n) (hn : 0 < n) : sumTo m (fun i => (part n i L).length) ≤ L.length := by
  have h := parts_all hn L
  have hmono : ∀ a b, a ≤ b → sumTo a (fun i => (part n i L).length) ≤ sumTo b (fun i => (part n i L).length) := fun a b hab => by
    obtain ⟨d, rfl⟩ := Nat.exists_eq_add_of_le hab
    induction d with
    | zero => exact Nat.le_refl _
    | succ d ih => exact Nat.le_trans (ih (by omega)) (by rw [← Nat.add_assoc]; show _ ≤ sumTo (a + d) _ + _; omega)
  have := hmono m n hm
  omega

set_option maxHeartbeats 12800000 in
theorem law_room (A : Option Addr) (c : Nat) (T : List ByteArray) (many room : Nat) (w : World) (hT : Txts w w.heap.size A T) (hsz : ∀ y ∈ T, y.size ≤ 9223372036854775807) (hlen : T.length ≤ 9223372036854775807) (hm : many ≤ 255) (hr : room ≤ 255) :
    Calls Try.prog 7 #[.slice A T.length c, .int .u8 (many : Int), .int .u8 (room : Int)] w (lrs.Told w) := by
  obtain ⟨n, hn⟩ : ∃ n : Nat, (n : Int) = min (max (many : Int) 1) 256 := ⟨(min (max (many : Int) 1) 256).toNat, by omega⟩
  obtain ⟨r, hrr⟩ : ∃ r : Nat, (r : Int) = max (room : Int) 1 := ⟨(max (room : Int) 1).toNat, by omega⟩
  have n1 : 0 < n := by omega
  have n2 : n ≤ 256 := by omega
  have r1 : r ≤ 255 := by omega
  have HT := Lib.hid hT
  have HSZ := Lib.hid hsz
  have HC0 := Lib.hid (new_any 300 300 w (by decide))
  have HNW := Lib.hid (fun w => snew_any n 300 many 300 w hn (by decide))
  have HNN := Lib.hid (fun w => snew_any n r many room w hn hrr)
  have hmx : max (room : Int) 1 = (r : Int) := hrr.symm
  have k1 : IntKind.i64.wrap (many : Int) = (many : Int) := IntWalk.i64_in _ (by omega)
  have k2 : IntKind.i64.wrap (room : Int) = (room : Int) := IntWalk.i64_in _ (by omega)
  clear hT hsz hn hrr
  go_enter Try.func7, Try.ntmps7
  go_wp2_with fail
  refine HC0.out.mono ?_
  rintro e w1 ⟨rfl, hw1⟩
  have hl1 := new_lru w w.heap.size 300 (Nat.le_refl _)
  rw [← hw1] at hl1
  have hb1 : Below w.heap.size w w1 := by rw [hw1]; exact (Below.refl _ _).alloc (Nat.le_refl _) _
  have HR0 := Lib.hid (room_any _ _ _ _ _ _ hl1)
  have HL1 := Lib.hid hl1
  have HB1 := Lib.hid hb1
  obtain ⟨g0, hg0⟩ : ∃ g0, g0 = w.heap.size := ⟨_, rfl⟩
  have HG0 := Lib.hid hg0
  clear hw1 hl1 hb1 HC0 hg0
  go_wp2_with fail
  refine HR0.out.mono ?_
  rintro e w1' ⟨rfl, rfl⟩
  by_cases h200 : T.length ≤ 200
  · have g200 : ¬ (200 : Int) < (T.length : Int) := by omega
    have g201 : ¬ 200 < T.length := by omega
    go_wp2_with fail
    refine (HNW.out _).mono ?_
    rintro e w2 ⟨rfl, gsW, hwl, hsW, hfW, hbW⟩
    have HSW := Lib.hid hsW
    have HFW := Lib.hid hfW
    have HBW := Lib.hid hbW
    have HWL := Lib.hid hwl
    clear hwl hsW hfW hbW
    go_wp2_with fail
    refine (HNN.out _).mono ?_
    rintro e w3 ⟨rfl, gsN, hnl, hsN, hfN, hbN⟩
    obtain ⟨hW, hhW⟩ : ∃ h, h = w1.heap.size := ⟨_, rfl⟩
    obtain ⟨hN, hhN⟩ : ∃ h, h = w2.heap.size := ⟨_, rfl⟩
    have hf2 := (Fam.one HL1.out (Ok.new (by decide))).join HB1.out.size HBW.out HFW.out
    have hB2 : w.heap.size ≤ w2.heap.size := Nat.le_trans HB1.out.size HBW.out.size
    have hf3 := hf2.join hB2 hbN hfN
    have HI0 : Hid (InR w T n r g0 hW hN gsW gsN 0 ([⟨g0, none, 300, []⟩] ++ news gsW 300 ++ news gsN r) [] w3) := Lib.hid
      ⟨by rw [HG0.out]; exact hf3, by rw [hhW]; exact (HSW.out.mono HB1.out.size).later hbN, by rw [hhN]; exact hsN.mono hB2, (HB1.out.trans (HBW.out.mono HB1.out.size)).trans (hbN.mono hB2), Rel.start HWL.out hnl, Nat.le_refl _, fun j hj => by omega⟩
    rw [← hhW, ← hhN, ← HG0.out]
    clear hf2 hf3 hB2 hnl hsN hfN hbN hhW hhN HSW HFW HBW HWL HNW HNN HR0 HL1 HB1
    go_wp2_with fail
    go_loopw [47] (fun v wr => ∃ (j : Nat) (C : List Cc) (L : List Pr), v = .int .i64 (j : Int) ∧ j ≤ T.length ∧ Hid (InR w T n r g0 hW hN gsW gsN j C L wr)) (fun v _ => T.length - (intOf v).toNat)
    case atStart => exact ⟨0, _, _, rfl, Nat.zero_le _, HI0⟩
    case round =>
      clear HI0
      obtain ⟨j, C, L, rfl, hj, HI⟩ := hrel
      have j0 : (0 : Int) ≤ (j : Int) := by omega
      by_cases hjl : j < T.length
      · obtain ⟨k, hk⟩ : ∃ k, T[j]? = some k := ⟨_, List.getElem?_eq_getElem hjl⟩
        obtain ⟨b, off, hA, _, cb⟩ := (HT.out.keep HI.out.below) j k hk
        subst hA
        have j1 : (j : Int) < (T.length : Int) := by omega
        have hks := HSZ.out k (List.mem_of_getElem? hk)
        have hll := HI.out.len
        have hL300 : L.length < 300 := by omega
        have HK := Lib.hid hk
        clear hk
        by_cases h100 : k.size ≤ 100
        · have g100 : ¬ (100 : Int) < (k.size : Int) := by omega
          have g101 : ¬ 100 < k.size := by omega
          have hi := ofF_lt k n1
          obtain ⟨bo, h0⟩ := HI.out.rel.at0
          obtain ⟨gw, bw, h1, hgw⟩ := HI.out.rel.atW hi
          obtain ⟨gn, bn, N, h2, hgn, hN⟩ := HI.out.rel.atN hi
          have hp0 := put_any w.heap.size g0 bo 300 L k (j : Int) wr (HI.out.fam.lru 0 _ h0) (HI.out.fam.ok 0 _ h0) (by omega) HI.out.below.size
          unfold lrs.PutIn at hp0
          rw [(put_room k (j : Int) hL300).2] at hp0
          have HP0 := Lib.hid hp0
          have HRel := Lib.hid (fun bo' bw' bn' => HI.out.rel.put (v := (j : Int)) (bo' := bo') (bw' := bw') (bn' := bn') hi hL300 h0 h1 h2 hN)
          have HKP := Lib.hid (keys_put (v := (j : Int)) HI.out.keys HK.out hL300)
          have HLP := Lib.hid (put_len2 L 300 k (j : Int) hL300)
          have HPL := Lib.hid (part_le n (ofF k n) L)
          have H0 := Lib.hid h0
          have H1 := Lib.hid h1
          have H2 := Lib.hid h2
          have HGW := Lib.hid hgw
          have HGN := Lib.hid hgn
          have HI1 := Lib.hid hi
          have HJL := Lib.hid hll
          clear hp0 hi h0 h1 h2 hgw hgn hN hll
          go_wp2_with fail
          refine HP0.out.mono ?_
          rintro e w4 ⟨rfl, h4⟩
          obtain ⟨bo', hm4⟩ := HI.out.mid.left H0.out h4 (HI.out.fam.ok 0 _ H0.out |>.put k (j : Int))
          have hW4 : (C.set 0 ⟨g0, bo', 300, putL L 300 k (j : Int)⟩)[1 + ofF k n]? = some ⟨gw, bw, 300, part n (ofF k n) L⟩ := by rw [set_far (by omega)]; exact H1.out
          have hwl := HI.out.rel.lw
          have hp1 := sput_any w.heap.size hW gw gsW bw 300 (part n (ofF k n) L) k (j : Int) w4 hm4.sW (by omega) (by omega) hks (by rw [hwl]; exact HGW.out) (hm4.fam.lru _ _ hW4) (hm4.fam.ok _ _ hW4) (by have := HPL.out; omega) hm4.below.size
          unfold lrs.PutIn at hp1
          rw [(put_room (r := 300) k (j : Int) (show (part n (ofF k n) L).length < 300 by have := HPL.out; omega)).2] at hp1
          have HP1 := Lib.hid hp1
          have HM4 := Lib.hid hm4
          have HW4 := Lib.hid hW4
          clear h4 hm4 hW4 hwl hp1 HP0
          go_wp2_with fail
          refine HP1.out.mono ?_
          rintro e w5 ⟨rfl, h5⟩
          obtain ⟨bw', hm5⟩ := HM4.out.left HW4.out h5 ((HM4.out.fam.ok _ _ HW4.out).put k (j : Int))
          have hN5 : ((C.set 0 ⟨g0, bo', 300, putL L 300 k (j : Int)⟩).set (1 + ofF k n) ⟨gw, bw', 300, putL (part n (ofF k n) L) 300 k (j : Int)⟩)[1 + n + ofF k n]? = some ⟨gn, bn, r, N⟩ := by rw [set_far (by omega), set_far (by omega)]; exact H2.out
          have hnl := HI.out.rel.ln
          have HP2 := Lib.hid (sput_any w.heap.size hN gn gsN bn r N k (j : Int) w5 hm5.sN (by omega) (by omega) hks (by rw [hnl]; exact HGN.out) (hm5.fam.lru _ _ hN5) (hm5.fam.ok _ _ hN5) (by have := (hm5.fam.ok _ _ hN5).len; simp only at this; omega) hm5.below.size)
          have HM5 := Lib.hid hm5
          have HN5 := Lib.hid hN5
          clear h5 hm5 hN5 hnl HP1 HM4 HW4
          go_wp2_with fail
          refine HP2.out.mono ?_
          rintro e w6 ⟨rfl, h6⟩
          obtain ⟨bn', hm6⟩ := HM5.out.left HN5.out h6 ((HM5.out.fam.ok _ _ HN5.out).put k (j : Int))
          have HIN : Hid (InR w T n r g0 hW hN gsW gsN (j + 1) _ (putL L 300 k (j : Int)) w6) := Lib.hid ⟨hm6.fam, hm6.sW, hm6.sN, hm6.below, HRel.out bo' bw' bn', by have := HLP.out; have := HJL.out; omega, HKP.out⟩
          clear h6 hm6 HP2 HM5 HN5 HRel HKP HLP HPL H0 H1 H2 HGW HGN HI
          go_wp2_with fail
          go_roundw
          case rel => exact ⟨j + 1, _, _, by go_num, by omega, HIN⟩
          case measure => simp [intOf]; omega
        · have g100 : (100 : Int) < (k.size : Int) := by omega
          have g101 : 100 < k.size := by omega
          have HB := Lib.hid HI.out.below
          clear HI
          go_wp2_with fail
          go_ret
          exact ⟨rfl, HB.out⟩
      · obtain rfl : j = T.length := by omega
        go_wp2_with fail
        rename World => wo
        go_loopw [80] (fun v wr => ∃ (j : Nat) (C : List Cc) (L : List Pr), v = .int .i64 (j : Int) ∧ j ≤ T.length ∧ Hid (InR w T n r g0 hW hN gsW gsN T.length C L wr)) (fun v _ => T.length - (intOf v).toNat)
        case atStart => exact ⟨0, _, _, rfl, Nat.zero_le _, HI⟩
        case round =>
          clear HI
          obtain ⟨j, C, L, rfl, hj, HI⟩ := hrel
          have j0 : (0 : Int) ≤ (j : Int) := by omega
          by_cases hjl : j < T.length
          · obtain ⟨k, hk⟩ : ∃ k, T[j]? = some k := ⟨_, List.getElem?_eq_getElem hjl⟩
            obtain ⟨b, off, hA, _, cb⟩ := (HT.out.keep HI.out.below) j k hk
            subst hA
            have j1 : (j : Int) < (T.length : Int) := by omega
            have hks := HSZ.out k (List.mem_of_getElem? hk)
            have hll := HI.out.len
            obtain ⟨x, hx⟩ := HI.out.keys j hjl k hk
            have hi := ofF_lt k n1
            obtain ⟨bo, h0⟩ := HI.out.rel.at0
            obtain ⟨gw, bw, h1, hgw⟩ := HI.out.rel.atW hi
            obtain ⟨gn, bn, N, h2, hgn, hN⟩ := HI.out.rel.atN hi
            have hnd := (HI.out.fam.ok 0 _ h0).nd
            have hndN := (HI.out.fam.ok _ _ h2).nd
            have hp0 := get_any w.heap.size g0 bo 300 L k wr (HI.out.fam.lru 0 _ h0) (HI.out.fam.ok 0 _ h0) (by omega)
            unfold lrs.Got at hp0
            rw [show lrs.gotI L k = x by unfold lrs.gotI; rw [val_of hnd hx]; rfl, show lrs.gotB L k = true by unfold lrs.gotB; rw [val_of hnd hx]; rfl] at hp0
            have HP0 := Lib.hid hp0
            have HRel := Lib.hid (fun bo' bw' bn' => HI.out.rel.get (bo' := bo') (bw' := bw') (bn' := bn') hi hnd hx h0 h1 h2 hN hndN)
            have HKP := Lib.hid (keys_get (k := k) hnd HI.out.keys)
            have HLP := Lib.hid (len_get hnd hx)
            have HPL := Lib.hid (part_le n (ofF k n) L)
            have HPX := Lib.hid (show val (part n (ofF k n) L) k = some x from val_of (part_nd hnd) (mem_part.2 ⟨hx, rfl⟩))
            have HNX : Hid (∀ y, val N k = some y → y = x) := Lib.hid fun y hy => by
              have h := (val_of hnd (hN _ (val_mem hy)).1).symm.trans (val_of hnd hx)
              injection h
            have H0 := Lib.hid h0
            have H1 := Lib.hid h1
            have H2 := Lib.hid h2
            have HGW := Lib.hid hgw
            have HGN := Lib.hid hgn
            have HJL := Lib.hid hll
            have gx : ((x : Int) != x) = false := by simp
            clear hp0 hi h0 h1 h2 hgw hgn hN hll hk hx hnd hndN
            go_wp2_with fail
            refine HP0.out.mono ?_
            rintro e w4 ⟨rfl, h4⟩
            obtain ⟨bo', hm4⟩ := HI.out.mid.left H0.out h4 (HI.out.fam.ok 0 _ H0.out |>.get k)
            have hW4 : (C.set 0 ⟨g0, bo', 300, getL L k⟩)[1 + ofF k n]? = some ⟨gw, bw, 300, part n (ofF k n) L⟩ := by rw [set_far (by omega)]; exact H1.out
            have hwl := HI.out.rel.lw
            have hp1 := sget_any w.heap.size hW gw gsW bw 300 (part n (ofF k n) L) k w4 hm4.sW (by omega) (by omega) hks (by rw [hwl]; exact HGW.out) (hm4.fam.lru _ _ hW4) (hm4.fam.ok _ _ hW4) (by have := HPL.out; have := HJL.out; omega)
            unfold lrs.Got at hp1
            rw [show lrs.gotI (part n (ofF k n) L) k = x by unfold lrs.gotI; rw [HPX.out]; rfl, show lrs.gotB (part n (ofF k n) L) k = true by unfold lrs.gotB; rw [HPX.out]; rfl] at hp1
            have HP1 := Lib.hid hp1
            have HM4 := Lib.hid hm4
            have HW4 := Lib.hid hW4
            clear h4 hm4 hW4 hwl hp1 HP0
            go_wp2_with fail
            refine HP1.out.mono ?_
            rintro e w5 ⟨rfl, h5⟩
            obtain ⟨bw', hm5⟩ := HM4.out.left HW4.out h5 ((HM4.out.fam.ok _ _ HW4.out).get k)
            have hN5 : ((C.set 0 ⟨g0, bo', 300, getL L k⟩).set (1 + ofF k n) ⟨gw, bw', 300, getL (part n (ofF k n) L) k⟩)[1 + n + ofF k n]? = some ⟨gn, bn, r, N⟩ := by rw [set_far (by omega), set_far (by omega)]; exact H2.out
            have hnl := HI.out.rel.ln
            have HP2 := Lib.hid (sget_any w.heap.size hN gn gsN bn r N k w5 hm5.sN (by omega) (by omega) hks (by rw [hnl]; exact HGN.out) (hm5.fam.lru _ _ hN5) (hm5.fam.ok _ _ hN5) (by have := (hm5.fam.ok _ _ hN5).len; simp only at this; omega))
            have HM5 := Lib.hid hm5
            have HN5 := Lib.hid hN5
            clear h5 hm5 hN5 hnl HP1 HM4 HW4
            rcases hv : val N k with _ | y
            · have hq : lrs.gotI N k = 0 ∧ lrs.gotB N k = false := by unfold lrs.gotI lrs.gotB; rw [hv]; exact ⟨rfl, rfl⟩
              unfold lrs.Got at HP2
              rw [hq.1, hq.2] at HP2
              clear hq hv
              go_wp2_with fail
              refine HP2.out.mono ?_
              rintro e w6 ⟨rfl, h6⟩
              obtain ⟨bn', hm6⟩ := HM5.out.left HN5.out h6 ((HM5.out.fam.ok _ _ HN5.out).get k)
              have HIN : Hid (InR w T n r g0 hW hN gsW gsN T.length _ (getL L k) w6) := Lib.hid ⟨hm6.fam, hm6.sW, hm6.sN, hm6.below, HRel.out bo' bw' bn', by rw [HLP.out]; exact HJL.out, HKP.out⟩
              clear h6 hm6 HP2 HM5 HN5 HRel HKP HLP HPL H0 H1 H2 HGW HGN HI HPX HNX
              go_wp2_with fail
              go_roundw
              case rel => exact ⟨j + 1, _, _, by go_num, by omega, HIN⟩
              case measure => simp [intOf]; omega
            · obtain rfl := HNX.out y hv
              have hq : lrs.gotI N k = y ∧ lrs.gotB N k = true := by unfold lrs.gotI lrs.gotB; rw [hv]; exact ⟨rfl, rfl⟩
              unfold lrs.Got at HP2
              rw [hq.1, hq.2] at HP2
              clear hq hv
              go_wp2_with fail
              refine HP2.out.mono ?_
              rintro e w6 ⟨rfl, h6⟩
              obtain ⟨bn', hm6⟩ := HM5.out.left HN5.out h6 ((HM5.out.fam.ok _ _ HN5.out).get k)
              have HIN : Hid (InR w T n r g0 hW hN gsW gsN T.length _ (getL L k) w6) := Lib.hid ⟨hm6.fam, hm6.sW, hm6.sN, hm6.below, HRel.out bo' bw' bn', by rw [HLP.out]; exact HJL.out, HKP.out⟩
              clear h6 hm6 HP2 HM5 HN5 HRel HKP HLP HPL H0 H1 H2 HGW HGN HI HPX HNX
              go_wp2_with fail
              go_roundw
              case rel => exact ⟨j + 1, _, _, by go_num, by omega, HIN⟩
              case measure => simp [intOf]; omega
          · have hll := HI.out.len
            have HMA : Hid (Calls Try.prog 27 #[.pointer (some ⟨hW, 0, none⟩)] wr fun e w' => e = .returned (.int .i64 (n : Int)) ∧ wr = w') := Lib.hid ((many_any _ _ gsW wr HI.out.sW).mono fun e w' ⟨h1, h2⟩ => ⟨by rw [h1, HI.out.rel.lw], h2⟩)
            have HLE := Lib.hid (fun (i : Nat) (hi : i < n) => (show Calls Try.prog 31 #[.pointer (some ⟨hW, 0, none⟩), .int .i64 (i : Int)] wr fun e w' => e = .returned (.int .i64 ((part n i L).length : Int)) ∧ wr = w' from by
              obtain ⟨g, bo, hc, hg⟩ := HI.out.rel.atW hi
              exact slen_any w.heap.size hW g i gsW bo 300 _ wr HI.out.sW hg (HI.out.fam.lru _ _ hc)))
            obtain ⟨bo, h0⟩ := HI.out.rel.at0
            have HCL := Lib.hid (len_any _ _ _ _ _ _ (HI.out.fam.lru 0 _ h0))
            have hmost := HI.out.rel.most HI.out.fam
            have hheld := (Fam.drop HI.out.fam (1 + n)).held
            rw [HI.out.rel.gsN] at hheld
            have HMO := Lib.hid (most_any w.heap.size hN gsN _ wr HI.out.sN (by rw [HI.out.rel.ln]; exact n2) hheld)
            obtain ⟨mo, hmo⟩ : ∃ mo, mo = mostF (nsOf (C.drop (1 + n))) := ⟨_, rfl⟩
            rw [← hmo] at hmost HMO
            have HSL := Lib.hid (fun (m : Nat) (hm : m ≤ n) => sum_le n m L hm n1)
            have HAL := Lib.hid (parts_all n1 L)
            have HB := Lib.hid HI.out.below
            have y1 : (mo : Int) ≤ (r : Int) := by omega
            have y2 : ((L.length : Int) == (L.length : Int)) = true := by simp
            clear h0 hmost hheld hmo HI
            go_wp2_with fail
            refine HMA.out.mono ?_
            rintro e wz ⟨rfl, rfl⟩
            go_wp2_with fail
            rename World => wq
            go_loop [124, 24] (fun v v24 => ∃ m : Nat, v = .int .i64 (m : Int) ∧ m ≤ n ∧ v24 = .int .i64 (sumTo m (fun i => (part n i L).length) : Int)) (fun v _ => n - (intOf v).toNat)
            case atStart => exact ⟨0, rfl, Nat.zero_le _, rfl⟩
            case round =>
              obtain ⟨m, rfl, hm, rfl⟩ := hrel
              obtain ⟨su, hsu⟩ : ∃ su, su = sumTo m (fun i => (part n i L).length) := ⟨_, rfl⟩
              have hle := HSL.out m hm
              rw [← hsu] at hle ⊢
              have m0 : (0 : Int) ≤ (m : Int) := by omega
              by_cases hmn : m < n
              · have m1 : (m : Int) < (n : Int) := by omega
                have HC := Lib.hid (HLE.out m hmn)
                have hle2 := HSL.out (m + 1) hmn
                have HN : Hid (sumTo (m + 1) (fun i => (part n i L).length) = su + (part n m L).length) := Lib.hid (by rw [sum_step, hsu])
                rw [HN.out] at hle2
                obtain ⟨pl, hpl⟩ : ∃ pl, pl = (part n m L).length := ⟨_, rfl⟩
                rw [← hpl] at hle2 HC HN
                clear hsu hpl
                go_wp2_with fail
                refine HC.out.mono ?_
                rintro e wz ⟨rfl, rfl⟩
                go_wp2_with fail
                go_round
                case rel => exact ⟨m + 1, by go_num, by omega, by rw [HN.out]; go_num⟩
                case measure => simp [intOf]; omega
              · obtain rfl : m = n := by omega
                have hsl : su = L.length := by rw [hsu, HAL.out]
                clear hsu
                subst hsl
                go_wp2_with fail
                refine HCL.out.mono ?_
                rintro e wz ⟨rfl, rfl⟩
                go_wp2_with fail
                refine HMO.out.mono ?_
                rintro e wz ⟨rfl, rfl⟩
                go_wp2_with fail
                go_ret
                exact ⟨rfl, HB.out⟩
  · have g200 : (200 : Int) < (T.length : Int) := by omega
    have g201 : 200 < T.length := by omega
    have HB := Lib.hid HB1.out
    clear HNW HNN
    go_wp2_with fail
    go_ret
    exact ⟨rfl, HB.out⟩
end Go.Proofs.Ytllebfkodklehaa.roo
