/- ShardDoes: true. Condition: what is asked lies in memory. -/
import Derived.Test.YtllebfkodklehaaSdoMath
import Derived.Test.YtllebfkodklehaaLruArgs
namespace Go.Proofs.Ytllebfkodklehaa.sdo
set_option maxRecDepth 100000
open Go.RowKit Go.Proofs.Ytllebfkodklehaa.words Go.Proofs.Ytllebfkodklehaa.lru Go.Proofs.Ytllebfkodklehaa.lrs Go.Proofs.Ytllebfkodklehaa.sha Go.Proofs.Ytllebfkodklehaa.roo

set_option maxHeartbeats 12800000 in
theorem law_does (many room : Int) (A : Option Addr) (c : Nat) (T : List (ByteArray × Int)) (w0 : World) (hT : Acts w0 w0.heap.size A T) (hsz : ∀ y ∈ T, y.1.size ≤ 9223372036854775807) (hlen : T.length ≤ 9223372036854775807) (_hm : many ≤ 9223372036854775807) (_hr : room ≤ 9223372036854775807) :
    Calls Try.prog 6 #[.agg #[.int .i64 many, .int .i64 room], .slice A T.length c] w0 (lrs.Told w0) := by
  obtain ⟨iP, hiP, zP0, zP1, zP2⟩ := info_three infoPtr
  obtain ⟨n, hn⟩ : ∃ n : Nat, (n : Int) = min (max many 1) 256 := ⟨(min (max many 1) 256).toNat, by omega⟩
  obtain ⟨r, hrr⟩ : ∃ r : Nat, (r : Int) = max room 1 := ⟨(max room 1).toNat, by omega⟩
  have n1 : 0 < n := by omega
  have n2 : n ≤ 256 := by omega
  have r1 : 1 ≤ r := by omega
  obtain ⟨w, hw⟩ : ∃ w, w = w0.alloc (.cells #[.int .i64 many, .int .i64 room] 58) := ⟨_, rfl⟩
  have hb0 : Below w0.heap.size w0 w := by rw [hw]; exact (Below.refl _ _).alloc (Nat.le_refl _) _
  have hk0 : w.heap[w0.heap.size]? = some (.cells #[.int .i64 many, .int .i64 room] 58 (0, 0)) := by rw [hw]; exact heap_alloc_new w0 _
  have hx0 : w0.heap.size < w.heap.size := lt_of_some hk0
  have HBX := Lib.hid (fun (wr : World) (hb : Below w.heap.size w wr) => (show wr.cell? ⟨w0.heap.size, 0, none⟩ = some (.int .i64 many) ∧ wr.cell? ⟨w0.heap.size, 1, none⟩ = some (.int .i64 room) from by
    have h := (hb.block _ hx0).trans hk0
    exact ⟨cell_of_blk h 0, cell_of_blk h 1⟩))
  have HT := Lib.hid (show Acts w w.heap.size A T from fun i x hx => by
    obtain ⟨b, off, h1, h2, h3, h4⟩ := hT i x hx
    exact ⟨b, off, h1, by omega, (hb0.cell (p := ⟨b, off + i * 2, none⟩) h2).trans h3, (hb0.cell (p := ⟨b, off + i * 2 + 1, none⟩) h2).trans h4⟩)
  have HSZ := Lib.hid hsz
  have HB0 := Lib.hid hb0
  have HW := Lib.hid hw
  have HC0 := Lib.hid (sha.speaks_any w)
  have HNS := Lib.hid (fun w => snew_any n r many room w hn hrr)
  have HNL := Lib.hid (fun w => new_any r room w hrr)
  have hmx : max room 1 = (r : Int) := hrr.symm
  have hmn : min (max many 1) 256 = (n : Int) := hn.symm
  clear hT hsz hn hrr hw hb0 hk0 hx0
  go_enter Try.func6, Try.ntmps6
  go_upto_region 1 with fail
  rw [← HW.out]
  go_wp2_with fail
  refine HC0.out.mono ?_
  rintro e w1 ⟨rfl, hb1⟩
  have HB1 := Lib.hid hb1
  clear hb1 HC0
  by_cases h200 : T.length ≤ 200
  · have g200 : ¬ (200 : Int) < (T.length : Int) := by omega
    have g201 : ¬ 200 < T.length := by omega
    obtain ⟨x0, x1⟩ := HBX.out w1 HB1.out
    go_wp2_with fail
    refine (HNS.out _).mono ?_
    rintro e w2 ⟨rfl, gsS, hsl, hsS, hfS, hbS⟩
    obtain ⟨hS, hhS⟩ : ∃ h, h = w1.heap.size := ⟨_, rfl⟩
    have hB2 := HB1.out.trans (hbS.mono HB1.out.size)
    have HSS : Hid (Shd w2 w.heap.size hS gsS) := Lib.hid (by rw [hhS]; exact hsS.mono HB1.out.size)
    have HFS : Hid (Fam w2 w.heap.size (news gsS r)) := Lib.hid ⟨fun i c hc => by
      obtain ⟨h0, v, h1, h2, h3⟩ := hfS.lru i c hc
      exact ⟨Nat.le_trans HB1.out.size h0, v, h1, h2, own_mono h3 HB1.out.size⟩, hfS.ok, hfS.apart⟩
    have HB2 := Lib.hid hB2
    have HSL := Lib.hid hsl
    rw [← hhS]
    clear hsl hsS hfS hbS hhS hB2 x0 x1 HNS
    obtain ⟨x0, x1⟩ := HBX.out w2 HB2.out
    go_wp2_with fail
    have HL0 : Hid (LIn w2 r [] (.slice none 0 0) w2) := Lib.hid ⟨World.ownsRow_nil _ _ _ _, Fam.nil _ _, Below.refl _ _⟩
    go_loopw [37, 7] (fun v v7 wr => ∃ (k : Nat) (gs : List Nat), v = .int .i64 (k : Int) ∧ k ≤ n ∧ Hid (LIn w2 r gs v7 wr) ∧ gs.length = k) (fun v _ _ => n - (intOf v).toNat)
    case atStart => exact ⟨0, [], rfl, Nat.zero_le _, HL0, rfl⟩
    case round =>
      clear HL0 x0 x1
      obtain ⟨k, gs, rfl, hk, HL, hgk⟩ := hrel
      have k0 : (0 : Int) ≤ (k : Int) := by omega
      by_cases hkn : k < n
      · have k1 : (k : Int) < (n : Int) := by omega
        obtain ⟨A7, c7, rfl, _, _, _⟩ := own_facts HL.out.own
        obtain ⟨x0, x1⟩ := HBX.out wr (HB2.out.trans (HL.out.below.mono HB2.out.size))
        obtain ⟨w3, hw3⟩ : ∃ w3, w3 = wr.alloc (.cells #[.int .i64 (r : Int), .slice none 0 0] 67) := ⟨_, rfl⟩
        obtain ⟨w4, hw4⟩ : ∃ w4, w4 = w3.alloc (.cells #[ptrC wr.heap.size] 24) := ⟨_, rfl⟩
        have hb3 : Below wr.heap.size wr w3 := by rw [hw3]; exact (Below.refl _ _).alloc (Nat.le_refl _) _
        have hb4 : Below w3.heap.size w3 w4 := by rw [hw4]; exact (Below.refl _ _).alloc (Nat.le_refl _) _
        have hb34 := hb3.trans (hb4.mono hb3.size)
        have HC : Hid (Calls Try.prog 9 #[.int .i64 room] wr fun e w' => e = .returned (.pointer (some ⟨wr.heap.size, 0, none⟩)) ∧ w3 = w') := Lib.hid ((HNL.out wr).mono fun e w' ⟨h1, h2⟩ => ⟨h1, by rw [h2, hw3]⟩)
        have HO4 := Lib.hid (ownL HL.out.own hb34)
        have HN4 : Hid (∀ (m : Nat) (u : Value), ([ptrC wr.heap.size] : List Value)[m]? = some u → w4.cell? ((⟨w3.heap.size, 0, none⟩ : Addr).add m) = some u) := Lib.hid fun m u hm => by rw [hw4, new_cell]; simpa using hm
        have HZ4 : Hid (w2.heap.size ≤ w4.heap.size) := Lib.hid (Nat.le_trans HL.out.below.size hb34.size)
        have HNX := Lib.hid (fun (w5 : World) (v' : Value) (ho : w5.ownsRow w2.heap.size 24 1 v' (gs.length + 1) (gs.map ptrC ++ [ptrC wr.heap.size])) (hg : w4.grownBy w5 (Value.slice A7 gs.length c7).ownBlock) => HL.out.next r1 hw3 hb4 ho hg)
        unfold ptrC at hw4
        have HW4 := Lib.hid hw4.symm
        have HGK := Lib.hid hgk
        have hg256 : gs.length ≤ 256 := by omega
        clear hw3 hw4 hb3 hb4 hb34 HL hgk
        go_wp2_with fail
        refine HC.out.mono ?_
        rintro e wx ⟨rfl, rfl⟩
        go_wp2_with (at_builtin; rw [HW4.out]; refine wpList_append_own _ rfl (.tmp 39) (.tmp 43) 60 rfl w2.heap.size 24 iP _ 1 8 Try.underlying60 hiP zP0 zP1 zP2 rfl (by omega) (.slice A7 gs.length c7) gs.length (gs.map ptrC) rfl HO4.out ⟨w3.heap.size, 0, none⟩ 1 1 [ptrC wr.heap.size] rfl rfl HN4.out (by simp [Value.oneCell', ptrC]) (by simp only [maxLen]; omega) (by omega) HZ4.out ?_; intro v7' wq hownq hgrowq hnilq)
        have HNN := Lib.hid (HNX.out wq v7' hownq hgrowq)
        clear hownq hgrowq hnilq x0 x1
        go_roundw
        case rel => exact ⟨k + 1, gs ++ [wr.heap.size], by go_num, by omega, HNN, by rw [List.length_append, HGK.out]; rfl⟩
        case measure => simp [intOf]; omega
      · obtain rfl : k = n := by omega
        have hf := HFS.out.join HB2.out.size HL.out.below HL.out.fam
        have HI0 : Hid (InS w k r hS gsS gs u7 0 (news gsS r ++ news gs r) wr) := Lib.hid
          ⟨hf, HSS.out.later HL.out.below, by have h := own_mono HL.out.own HB2.out.size; rw [hgk] at h; exact h, HB2.out.trans (HL.out.below.mono HB2.out.size), RelS.start HSL.out hgk, fun i c hc => by
            have hmem := List.mem_of_getElem? hc
            rw [List.mem_append] at hmem
            unfold news at hmem
            rcases hmem with h | h <;> (obtain ⟨g, _, rfl⟩ := List.mem_map.1 h; exact Nat.le_refl _)⟩
        clear hf HL HFS HSS HSL hgk HNL
        go_wp2_with fail
        rename World => wo
        go_loopw [48] (fun v wr => ∃ (j : Nat) (C : List Cc), v = .int .i64 (j : Int) ∧ j ≤ T.length ∧ Hid (InS w k r hS gsS gs u7 j C wr)) (fun v _ => T.length - (intOf v).toNat)
        case atStart => exact ⟨0, _, rfl, Nat.zero_le _, HI0⟩
        case round =>
          clear HI0
          obtain ⟨j, C, rfl, hj, HI⟩ := hrel
          obtain ⟨A7, c7, rfl, _, _, _⟩ := own_facts HI.out.own
          have j0 : (0 : Int) ≤ (j : Int) := by omega
          by_cases hjl : j < T.length
          · obtain ⟨⟨key, z⟩, hx⟩ : ∃ x, T[j]? = some x := ⟨_, List.getElem?_eq_getElem hjl⟩
            obtain ⟨ba, oa, hAa, _, a0, a1⟩ := (HT.out.keep HI.out.below) j _ hx
            subst hAa
            have hks : key.size ≤ 9223372036854775807 := HSZ.out (key, z) (List.mem_of_getElem? hx)
            have j1 : (j : Int) < (T.length : Int) := by omega
            obtain ⟨W3, hW3⟩ : ∃ W3, W3 = wr.alloc (.cells #[.string key, .int .i64 z] 61) := ⟨_, rfl⟩
            have hb3 : Below wr.heap.size wr W3 := by rw [hW3]; exact (Below.refl _ _).alloc (Nat.le_refl _) _
            have hk3 : W3.heap[wr.heap.size]? = some (.cells #[.string key, .int .i64 z] 61 (0, 0)) := by rw [hW3]; exact heap_alloc_new wr _
            have HI3 := Lib.hid (HI.out.later hb3)
            have HK3 := Lib.hid hk3
            have HW3 := Lib.hid hW3
            clear hx hb3 hk3 hW3 HI
            go_upto_region 15 with fail
            rw [← HW3.out]
            clear a0 a1
            have s0 := cell_of_blk HK3.out 0
            have s1 := cell_of_blk HK3.out 1
            by_cases h100 : key.size ≤ 100
            · have g100 : ¬ (100 : Int) < (key.size : Int) := by omega
              have g101 : ¬ 100 < key.size := by omega
              obtain ⟨s, hs⟩ : ∃ s, s = sumF key.data.toList := ⟨_, rfl⟩
              have hlt := sumF_lt key.data.toList
              have HR := Lib.hid (fun w => refsum_any key w hks)
              rw [← hs] at hlt HR
              obtain ⟨i, hi⟩ : ∃ i, i = ofF key k := ⟨_, rfl⟩
              have hil : i < k := by rw [hi]; exact ofF_lt key n1
              have hsi : (s : Int) % (k : Int) = (i : Int) := by rw [hi, hs]; unfold ofF; rw [Int.natCast_emod]
              have z1 : (0 : Int) ≤ (s : Int) := by omega
              have z2 : (0 : Int) < (k : Int) := by omega
              have z3 : ¬ ((k : Int) = 0) := by omega
              have z4 : ¬ (k = 0) := by omega
              have w1' : IntKind.u64.wrap (k : Int) = (k : Int) := by rw [IntKind.wrap_u64]; omega
              have w2' : IntKind.i64.wrap (i : Int) = (i : Int) := IntWalk.i64_in _ (by omega)
              have i0 : (0 : Int) ≤ (i : Int) := by omega
              have i1 : (i : Int) < (k : Int) := by omega
              obtain ⟨g, bo, g', bo', L, h1, h2, hg, hg'⟩ := HI3.out.rel.pair i hil
              have hLj := HI3.out.len i _ h1
              have hok := HI3.out.fam.ok i _ h1
              simp only at hLj hok
              have hls := HI3.out.rel.ls
              have hgo : gsS[ofF key gsS.length]? = some g := by rw [hls, ← hi]; exact hg
              have H1 := Lib.hid h1
              have H2 := Lib.hid h2
              have HG := Lib.hid hg
              have HG' := Lib.hid hg'
              have HOK := Lib.hid hok
              have HGO := Lib.hid hgo
              have HLS := Lib.hid hls
              have hL200 : L.length ≤ 200 := by omega
              have HIL := Lib.hid hLj
              clear hi hs h1 h2 hg hg' hok hgo hls hLj
              by_cases hz : z = 0
              · subst hz
                have HP0 := Lib.hid (sget_any w.heap.size hS g gsS bo r L key W3 HI3.out.sS (by rw [HLS.out]; exact n1) (by rw [HLS.out]; exact n2) hks HGO.out (HI3.out.fam.lru i _ H1.out) HOK.out (by omega))
                obtain ⟨x, hxx⟩ : ∃ x, x = lrs.gotI L key := ⟨_, rfl⟩
                obtain ⟨b, hbb⟩ : ∃ b, b = lrs.gotB L key := ⟨_, rfl⟩
                unfold lrs.Got at HP0
                rw [← hxx, ← hbb] at HP0
                have HX := Lib.hid (And.intro hxx.symm hbb.symm)
                have gx : ((x : Int) != x) = false := by simp
                have gb : (b != b) = false := by simp
                clear hxx hbb
                go_wp2_with fail
                refine (HR.out _).mono ?_
                rintro e wx ⟨rfl, rfl⟩
                go_wp2_with fail
                refine HP0.out.mono ?_
                rintro e w5 ⟨rfl, h5⟩
                obtain ⟨⟨b1, hm5⟩, hkp⟩ := HI3.out.mid.left H1.out h5 (HOK.out.get key)
                have h25 : (C.set i ⟨g, b1, r, getL L key⟩)[k + i]? = some ⟨g', bo', r, L⟩ := by rw [set_far (by omega)]; exact H2.out
                have hk5 := hkp.blk HK3.out (by unfold LS; decide)
                have s0' : w5.drew.cell? ⟨wr.heap.size, 0, none⟩ = some (.string key) := cell_of_blk hk5 0
                have s0'' : w5.cell? ⟨wr.heap.size, 0, none⟩ = some (.string key) := cell_of_blk hk5 0
                have hgl := HI3.out.rel.ll
                have hown5 := hm5.own
                rw [← hgl] at hown5
                obtain ⟨b7, hA7, hb7, q0⟩ := ptr_at hown5 HG'.out
                subst hA7
                unfold ptrC at q0
                have q0' : w5.drew.cell? ⟨b7, i, none⟩ = some (.pointer (some ⟨g', 0, none⟩)) := q0
                have hp1 := get_any w.heap.size g' bo' r L key w5.drew (hm5.fam.lru _ _ h25) HOK.out (by omega)
                unfold lrs.Got at hp1
                rw [HX.out.1, HX.out.2] at hp1
                have HP1 := Lib.hid hp1
                have HM5 := Lib.hid hm5
                have H25 := Lib.hid h25
                clear h5 hm5 hkp h25 hk5 hgl hown5 hp1 HP0 s0 s1
                go_wp2_with fail
                go_region_law (go_simp; go_at_call 11; refine HP1.out.mono ?_; rintro e w6 ⟨rfl, h6⟩; have H6 := Lib.hid h6; clear h6)
                all_goals
                  obtain ⟨⟨b2, hm6⟩, _⟩ := HM5.out.left H25.out (show lrs.Left w5 w.heap.size g' r bo' (getL L key) w6 from ⟨H6.out.ex, ⟨H6.out.tn.os, H6.out.tn.tape, H6.out.tn.output, H6.out.tn.size, H6.out.tn.block⟩⟩) (HOK.out.get key)
                  have hle := getL_len key HOK.out
                  have HIq : Hid (InS w k r hS gsS gs (.slice (some ⟨b7, 0, none⟩) k c7) (j + 1) _ w6) := Lib.hid ⟨hm6.fam, hm6.sS, hm6.own, hm6.below, HI3.out.rel.turn hil H1.out H2.out HG.out HG'.out, len_set (fun i c hc => HI3.out.len i c hc) (by simp only; have := HIL.out; omega) (by simp only; have := HIL.out; omega)⟩
                  clear hm6 hle H6 HP1 HM5 H25 HX s0' s0'' q0 q0' HI3 H1 H2 HG HG' HOK HGO HLS HIL hL200 HR HK3 HW3
                  go_wp2_with fail
                  obtain ⟨C', hC'⟩ : ∃ C', Hid (InS w k r hS gsS gs (.slice (some ⟨b7, 0, none⟩) k c7) (j + 1) C' w6) := ⟨_, HIq⟩
                  clear HIq
                  go_loop [122, 19] (fun v v19 => ∃ m : Nat, v = .int .i64 (m : Int) ∧ m ≤ k ∧ v19 = .int .i64 (mostF ((lens k C').take m) : Int)) (fun v _ => k - (intOf v).toNat)
                  case atStart => exact ⟨0, rfl, Nat.zero_le _, rfl⟩
                  case round =>
                    obtain ⟨m, rfl, hm, rfl⟩ := hrel
                    obtain ⟨mo, hmo⟩ : ∃ mo, mo = mostF ((lens k C').take m) := ⟨_, rfl⟩
                    rw [← hmo]
                    have m0 : (0 : Int) ≤ (m : Int) := by omega
                    by_cases hmk : m < k
                    · have m1 : (m : Int) < (k : Int) := by omega
                      obtain ⟨ga, bo1, gb', bo2, M, c1, c2, d1, d2⟩ := hC'.out.rel.pair m hmk
                      have hown := hC'.out.own
                      rw [← hC'.out.rel.ll] at hown
                      obtain ⟨b8, hA8, _, q1⟩ := ptr_at hown d2
                      obtain rfl : b7 = b8 := by injection hA8 with h; injection h
                      unfold ptrC at q1
                      have HC1 := Lib.hid (slen_any w.heap.size hS ga m gsS bo1 r M w6 hC'.out.sS d1 (hC'.out.fam.lru _ _ c1))
                      have HC2 := Lib.hid (len_any _ _ _ _ _ _ (hC'.out.fam.lru _ _ c2))
                      have HN : Hid (mostF ((lens k C').take (m + 1)) = max mo M.length) := Lib.hid (by
                        obtain ⟨hkn, hx⟩ := List.getElem?_eq_some_iff.1 (lens_at hmk c1)
                        rw [List.take_succ_eq_append_getElem hkn, hx, mostF_snoc, hmo])
                      have hmx2 : max (mo : Int) (M.length : Int) = ((max mo M.length : Nat) : Int) := by omega
                      have gm : ((M.length : Int) != (M.length : Int)) = false := by simp
                      clear c1 c2 d1 d2 hown hA8 hmo
                      go_wp2_with fail
                      refine HC1.out.mono ?_
                      rintro e wz ⟨rfl, rfl⟩
                      go_wp2_with fail
                      refine HC2.out.mono ?_
                      rintro e wz ⟨rfl, rfl⟩
                      go_wp2_with fail
                      refine HC2.out.mono ?_
                      rintro e wz ⟨rfl, rfl⟩
                      go_wp2_with fail
                      go_round
                      case rel => exact ⟨m + 1, by go_num, by omega, by rw [HN.out]⟩
                      case measure => simp [intOf]; omega
                    · obtain rfl : m = k := by omega
                      have hheld := hC'.out.rel.held hC'.out.fam
                      have hlel := hheld.1
                      have hle := lens_le hC'.out.rel hC'.out.fam
                      have hmm : mo = mostF (lens m C') := by rw [hmo, List.take_of_length_le (by rw [← hlel, hC'.out.rel.ls]; exact Nat.le_refl _)]
                      have HMO := Lib.hid (most_any w.heap.size hS gsS _ w6 hC'.out.sS (by rw [hC'.out.rel.ls]; exact n2) hheld)
                      rw [← hmm] at hle HMO
                      obtain ⟨x0, x1⟩ := HBX.out w6 hC'.out.below
                      have y1 : ¬ (r : Int) < (mo : Int) := by omega
                      have y2 : ((mo : Int) != (mo : Int)) = false := by simp
                      have y3 : ¬ r < mo := by omega
                      clear hheld hlel hle hmm hmo
                      go_wp2_with fail
                      refine HMO.out.mono ?_
                      rintro e wz ⟨rfl, rfl⟩
                      go_wp2_with fail
                      go_roundw
                      case rel => exact ⟨j + 1, C', by go_num, by omega, hC'⟩
                      case measure => simp [intOf]; omega
              · have hz1 : (z == 0) = false := by simpa using hz
                have HP0 := Lib.hid (sput_any w.heap.size hS g gsS bo r L key z W3 HI3.out.sS (by rw [HLS.out]; exact n1) (by rw [HLS.out]; exact n2) hks HGO.out (HI3.out.fam.lru i _ H1.out) HOK.out (by omega) HI3.out.below.size)
                obtain ⟨x, hxx⟩ : ∃ x, x = goneK L r key ⟨#[]⟩ := ⟨_, rfl⟩
                obtain ⟨b, hbb⟩ : ∃ b, b = goneB L r key := ⟨_, rfl⟩
                unfold lrs.PutIn at HP0
                rw [← hxx, ← hbb] at HP0
                have HX := Lib.hid (And.intro hxx.symm hbb.symm)
                have gx : (x.toList != x.toList) = false := by simp
                have gb : (b != b) = false := by simp
                clear hxx hbb
                go_wp2_with fail
                refine (HR.out _).mono ?_
                rintro e wx ⟨rfl, rfl⟩
                go_wp2_with fail
                refine HP0.out.mono ?_
                rintro e w5 ⟨rfl, h5⟩
                obtain ⟨⟨b1, hm5⟩, hkp⟩ := HI3.out.mid.left H1.out h5 (HOK.out.put key z)
                have h25 : (C.set i ⟨g, b1, r, putL L r key z⟩)[k + i]? = some ⟨g', bo', r, L⟩ := by rw [set_far (by omega)]; exact H2.out
                have hk5 := hkp.blk HK3.out (by unfold LS; decide)
                have s0' : w5.drew.cell? ⟨wr.heap.size, 0, none⟩ = some (.string key) := cell_of_blk hk5 0
                have s0'' : w5.cell? ⟨wr.heap.size, 0, none⟩ = some (.string key) := cell_of_blk hk5 0
                have s1' : w5.drew.cell? ⟨wr.heap.size, 1, none⟩ = some (.int .i64 z) := cell_of_blk hk5 1
                have s1'' : w5.cell? ⟨wr.heap.size, 1, none⟩ = some (.int .i64 z) := cell_of_blk hk5 1
                have hgl := HI3.out.rel.ll
                have hown5 := hm5.own
                rw [← hgl] at hown5
                obtain ⟨b7, hA7, hb7, q0⟩ := ptr_at hown5 HG'.out
                subst hA7
                unfold ptrC at q0
                have q0' : w5.drew.cell? ⟨b7, i, none⟩ = some (.pointer (some ⟨g', 0, none⟩)) := q0
                have hp1 := put_any w.heap.size g' bo' r L key z w5.drew (hm5.fam.lru _ _ h25) HOK.out (by omega) hm5.below.size
                unfold lrs.PutIn at hp1
                rw [HX.out.1, HX.out.2] at hp1
                have HP1 := Lib.hid hp1
                have HM5 := Lib.hid hm5
                have H25 := Lib.hid h25
                clear h5 hm5 hkp h25 hk5 hgl hown5 hp1 HP0 s0 s1
                go_wp2_with fail
                go_region_law (go_simp; go_at_call 14; refine HP1.out.mono ?_; rintro e w6 ⟨rfl, h6⟩; have H6 := Lib.hid h6; clear h6)
                all_goals
                  obtain ⟨⟨b2, hm6⟩, _⟩ := HM5.out.left H25.out (show lrs.Left w5 w.heap.size g' r bo' (putL L r key z) w6 from ⟨H6.out.ex, ⟨H6.out.tn.os, H6.out.tn.tape, H6.out.tn.output, H6.out.tn.size, H6.out.tn.block⟩⟩) (HOK.out.put key z)
                  have hle := lrs.put_len L r key z
                  have HIq : Hid (InS w k r hS gsS gs (.slice (some ⟨b7, 0, none⟩) k c7) (j + 1) _ w6) := Lib.hid ⟨hm6.fam, hm6.sS, hm6.own, hm6.below, HI3.out.rel.turn hil H1.out H2.out HG.out HG'.out, len_set (fun i c hc => HI3.out.len i c hc) (by simp only; have := HIL.out; omega) (by simp only; have := HIL.out; omega)⟩
                  clear hm6 hle H6 HP1 HM5 H25 HX s0' s0'' s1' s1'' q0 q0' HI3 H1 H2 HG HG' HOK HGO HLS HIL hL200 HR HK3 HW3
                  go_wp2_with fail
                  obtain ⟨C', hC'⟩ : ∃ C', Hid (InS w k r hS gsS gs (.slice (some ⟨b7, 0, none⟩) k c7) (j + 1) C' w6) := ⟨_, HIq⟩
                  clear HIq
                  go_loop [122, 19] (fun v v19 => ∃ m : Nat, v = .int .i64 (m : Int) ∧ m ≤ k ∧ v19 = .int .i64 (mostF ((lens k C').take m) : Int)) (fun v _ => k - (intOf v).toNat)
                  case atStart => exact ⟨0, rfl, Nat.zero_le _, rfl⟩
                  case round =>
                    obtain ⟨m, rfl, hm, rfl⟩ := hrel
                    obtain ⟨mo, hmo⟩ : ∃ mo, mo = mostF ((lens k C').take m) := ⟨_, rfl⟩
                    rw [← hmo]
                    have m0 : (0 : Int) ≤ (m : Int) := by omega
                    by_cases hmk : m < k
                    · have m1 : (m : Int) < (k : Int) := by omega
                      obtain ⟨ga, bo1, gb', bo2, M, c1, c2, d1, d2⟩ := hC'.out.rel.pair m hmk
                      have hown := hC'.out.own
                      rw [← hC'.out.rel.ll] at hown
                      obtain ⟨b8, hA8, _, q1⟩ := ptr_at hown d2
                      obtain rfl : b7 = b8 := by injection hA8 with h; injection h
                      unfold ptrC at q1
                      have HC1 := Lib.hid (slen_any w.heap.size hS ga m gsS bo1 r M w6 hC'.out.sS d1 (hC'.out.fam.lru _ _ c1))
                      have HC2 := Lib.hid (len_any _ _ _ _ _ _ (hC'.out.fam.lru _ _ c2))
                      have HN : Hid (mostF ((lens k C').take (m + 1)) = max mo M.length) := Lib.hid (by
                        obtain ⟨hkn, hx⟩ := List.getElem?_eq_some_iff.1 (lens_at hmk c1)
                        rw [List.take_succ_eq_append_getElem hkn, hx, mostF_snoc, hmo])
                      have hmx2 : max (mo : Int) (M.length : Int) = ((max mo M.length : Nat) : Int) := by omega
                      have gm : ((M.length : Int) != (M.length : Int)) = false := by simp
                      clear c1 c2 d1 d2 hown hA8 hmo
                      go_wp2_with fail
                      refine HC1.out.mono ?_
                      rintro e wz ⟨rfl, rfl⟩
                      go_wp2_with fail
                      refine HC2.out.mono ?_
                      rintro e wz ⟨rfl, rfl⟩
                      go_wp2_with fail
                      refine HC2.out.mono ?_
                      rintro e wz ⟨rfl, rfl⟩
                      go_wp2_with fail
                      go_round
                      case rel => exact ⟨m + 1, by go_num, by omega, by rw [HN.out]⟩
                      case measure => simp [intOf]; omega
                    · obtain rfl : m = k := by omega
                      have hheld := hC'.out.rel.held hC'.out.fam
                      have hlel := hheld.1
                      have hle := lens_le hC'.out.rel hC'.out.fam
                      have hmm : mo = mostF (lens m C') := by rw [hmo, List.take_of_length_le (by rw [← hlel, hC'.out.rel.ls]; exact Nat.le_refl _)]
                      have HMO := Lib.hid (most_any w.heap.size hS gsS _ w6 hC'.out.sS (by rw [hC'.out.rel.ls]; exact n2) hheld)
                      rw [← hmm] at hle HMO
                      obtain ⟨x0, x1⟩ := HBX.out w6 hC'.out.below
                      have y1 : ¬ (r : Int) < (mo : Int) := by omega
                      have y2 : ((mo : Int) != (mo : Int)) = false := by simp
                      have y3 : ¬ r < mo := by omega
                      clear hheld hlel hle hmm hmo
                      go_wp2_with fail
                      refine HMO.out.mono ?_
                      rintro e wz ⟨rfl, rfl⟩
                      go_wp2_with fail
                      go_roundw
                      case rel => exact ⟨j + 1, C', by go_num, by omega, hC'⟩
                      case measure => simp [intOf]; omega
            · have g100 : (100 : Int) < (key.size : Int) := by omega
              have g101 : 100 < key.size := by omega
              have HB := Lib.hid (HB0.out.trans (HI3.out.below.mono HB0.out.size))
              clear HI3
              go_wp2_with fail
              go_ret
              exact ⟨rfl, HB.out⟩
          · have hls := HI.out.rel.ls
            have HE1 := Lib.hid (slen_below w.heap.size hS gsS (-1) wr HI.out.sS (by omega))
            have HE2 : Hid (Calls Try.prog 31 #[.pointer (some ⟨hS, 0, none⟩), .int .i64 (k : Int)] wr fun e w' => e = .returned (.int .i64 0) ∧ wr = w') := Lib.hid (by have h := slen_above w.heap.size hS gsS wr HI.out.sS; rw [hls] at h; exact h)
            have HB := Lib.hid (HB0.out.trans (HI.out.below.mono HB0.out.size))
            clear HI hls
            go_wp2_with fail
            refine HE1.out.mono ?_
            rintro e wz ⟨rfl, rfl⟩
            go_wp2_with fail
            refine HE2.out.mono ?_
            rintro e wz ⟨rfl, rfl⟩
            go_wp2_with fail
            go_ret
            exact ⟨rfl, HB.out⟩
  · have g200 : (200 : Int) < (T.length : Int) := by omega
    have g201 : 200 < T.length := by omega
    have HB := Lib.hid (HB0.out.trans (HB1.out.mono HB0.out.size))
    clear HNS HNL
    go_wp2_with fail
    go_ret
    exact ⟨rfl, HB.out⟩
end Go.Proofs.Ytllebfkodklehaa.sdo
