/- What socagelaw13's speaks answers, and LruDoes: true. Conditions: what is asked lies in memory. -/
import Derived.Test.YtllebfkodklehaaLruKeys
namespace Go.Proofs.Ytllebfkodklehaa.lrs
set_option maxRecDepth 100000
open Go.RowKit Go.Proofs.Ytllebfkodklehaa.words Go.Proofs.Ytllebfkodklehaa.lru

theorem Left.below {w w' : World} {B g r : Nat} {bo : Option Nat} {L L' : List (ByteArray × Int)} (h : Left w B g r bo L' w') (hl : Lru w B g bo r L) (hB : B ≤ w.heap.size) : Below B w w' := h.tn.below (fun k hk => (hl.types k hk).1) hB
theorem Left.kept {w w' : World} {B g r : Nat} {bo : Option Nat} {L L' : List (ByteArray × Int)} (h : Left w B g r bo L' w') (hl : Lru w B g bo r L) : Kept LS B w w' := h.tn.kept hl.types
def kA : ByteArray := ⟨#[97]⟩
def kB : ByteArray := ⟨#[98]⟩
def kC : ByteArray := ⟨#[99]⟩
theorem get_yes (B g i : Nat) (bo : Option Nat) (r : Nat) (L : List (ByteArray × Int)) (k : ByteArray) (x : Int) (w : World) (h : Lru w B g bo r L) (hok : Ok L r) (hi : L[i]? = some (k, x)) (hl : L.length ≤ 1000) :
    Calls Try.prog 11 #[.pointer (some ⟨g, 0, none⟩), .string k] w fun e w' => e = .returned (.tuple #[.int .i64 x, .bool true]) ∧ Left w B g r bo ((k, x) :: rest L k) w' := by
  obtain ⟨hv, hg⟩ := got_at hok hi
  have hr := rest_at hi hok.nd
  refine (get_any B g bo r L k w h hok hl).mono fun e w' ⟨h1, h2⟩ => ⟨?_, ?_⟩
  · rw [h1]; unfold gotI gotB; rw [hv]; rfl
  · rw [hg, ← hr] at h2; exact h2
theorem get_no (B g : Nat) (bo : Option Nat) (r : Nat) (L : List (ByteArray × Int)) (k : ByteArray) (w : World) (h : Lru w B g bo r L) (hok : Ok L r) (hn : ∀ p ∈ L, p.1 ≠ k) (hl : L.length ≤ 1000) :
    Calls Try.prog 11 #[.pointer (some ⟨g, 0, none⟩), .string k] w fun e w' => e = .returned (.tuple #[.int .i64 0, .bool false]) ∧ Left w B g r bo L w' := by
  obtain ⟨hv, hg⟩ := get_none hn
  refine (get_any B g bo r L k w h hok hl).mono fun e w' ⟨h1, h2⟩ => ⟨?_, ?_⟩
  · rw [h1]; unfold gotI gotB; rw [hv]; rfl
  · rw [hg] at h2; exact h2
theorem put_is {B g : Nat} {bo : Option Nat} {r : Nat} {L : List (ByteArray × Int)} {k : ByteArray} {v : Int} {w : World} (h : Lru w B g bo r L) (hok : Ok L r) (hl : L.length ≤ 900) (hB : B ≤ w.heap.size) {s : ByteArray} {b : Bool} {L' : List (ByteArray × Int)} (h1 : goneK L r k ⟨#[]⟩ = s) (h2 : goneB L r k = b) (h3 : putL L r k v = L') :
    Calls Try.prog 14 #[.pointer (some ⟨g, 0, none⟩), .string k, .int .i64 v] w fun e w' => e = .returned (.tuple #[.string s, .bool b]) ∧ Left w B g r bo L' w' := by
  subst h1 h2 h3
  exact put_any B g bo r L k v w h hok hl hB
theorem q1 : goneK ([] : List (ByteArray × Int)) 2 kA ⟨#[]⟩ = ⟨#[]⟩ ∧ goneB ([] : List (ByteArray × Int)) 2 kA = false ∧ putL [] 2 kA 1 = [(kA, 1)] := by decide
theorem q2 : goneK ([(kA, 1)] : List (ByteArray × Int)) 2 kB ⟨#[]⟩ = ⟨#[]⟩ ∧ goneB ([(kA, 1)] : List (ByteArray × Int)) 2 kB = false ∧ putL [(kA, 1)] 2 kB 2 = [(kB, 2), (kA, 1)] := by decide
theorem q3 : rest ([(kB, 2), (kA, 1)] : List (ByteArray × Int)) kA = [(kB, 2)] := by decide
theorem q4 : goneK ([(kA, 1), (kB, 2)] : List (ByteArray × Int)) 2 kC ⟨#[]⟩ = kB ∧ goneB ([(kA, 1), (kB, 2)] : List (ByteArray × Int)) 2 kC = true ∧ putL [(kA, 1), (kB, 2)] 2 kC 3 = [(kC, 3), (kA, 1)] := by decide
set_option maxHeartbeats 3200000 in
theorem speaks_any (w : World) : Calls Try.prog 8 #[] w fun e w' => e = .returned (.bool true) ∧ Below w.heap.size w w' := by
  have ok0 : Ok ([] : List (ByteArray × Int)) 2 := Ok.new (by omega)
  have ok1 : Ok ([(kA, 1)] : List (ByteArray × Int)) 2 := by have h := ok0.put kA 1; rwa [q1.2.2] at h
  have ok2 : Ok ([(kB, 2), (kA, 1)] : List (ByteArray × Int)) 2 := by have h := ok1.put kB 2; rwa [q2.2.2] at h
  have ok3 : Ok ([(kA, 1), (kB, 2)] : List (ByteArray × Int)) 2 := ⟨by decide, by decide, by decide⟩
  have HC0 := Lib.hid (new_any 2 2 w (by decide))
  go_enter Try.func8, Try.ntmps8
  go_wp2_with fail
  refine HC0.out.mono ?_
  rintro e w1 ⟨rfl, hw1⟩
  have hl1 := new_lru w w.heap.size 2 (Nat.le_refl _)
  rw [← hw1] at hl1
  have hb1 : Below w.heap.size w w1 := by rw [hw1]; exact (Below.refl _ _).alloc (Nat.le_refl _) _
  have HC1 := Lib.hid (put_is (v := 1) hl1 ok0 (by decide) hb1.size q1.1 q1.2.1 q1.2.2)
  have HL1 := Lib.hid hl1
  have HB1 := Lib.hid hb1
  unfold kA at HC1
  clear hw1 hl1 hb1 HC0
  go_wp2_with fail
  refine HC1.out.mono ?_
  rintro e w2 ⟨rfl, h2⟩
  have hb2 := HB1.out.trans (h2.below HL1.out HB1.out.size)
  obtain ⟨bo2, hl2, _⟩ := h2.ex
  have HC2 := Lib.hid (put_is (v := 2) hl2 ok1 (by decide) hb2.size q2.1 q2.2.1 q2.2.2)
  have HL2 := Lib.hid hl2
  have HB2 := Lib.hid hb2
  unfold kB at HC2
  clear h2 hb2 hl2 HC1
  go_wp2_with fail
  refine HC2.out.mono ?_
  rintro e w3 ⟨rfl, h3⟩
  have hb3 := HB2.out.trans (h3.below HL2.out HB2.out.size)
  obtain ⟨bo3, hl3, _⟩ := h3.ex
  have hc3 := get_yes w.heap.size w.heap.size 1 bo3 2 [(kB, 2), (kA, 1)] kA 1 w3 hl3 ok2 rfl (by decide)
  rw [q3] at hc3
  have HC3 := Lib.hid hc3
  have HL3 := Lib.hid hl3
  have HB3 := Lib.hid hb3
  unfold kA at HC3
  clear h3 hb3 hl3 hc3 HC2
  go_wp2_with fail
  refine HC3.out.mono ?_
  rintro e w4 ⟨rfl, h4⟩
  have hb4 := HB3.out.trans (h4.below HL3.out HB3.out.size)
  obtain ⟨bo4, hl4, _⟩ := h4.ex
  have HC4 := Lib.hid (put_is (v := 3) hl4 ok3 (by decide) hb4.size q4.1 q4.2.1 q4.2.2)
  have HL4 := Lib.hid hl4
  have HB4 := Lib.hid hb4
  unfold kC kB at HC4
  clear h4 hb4 hl4 HC3
  go_wp2_with fail
  refine HC4.out.mono ?_
  rintro e w5 ⟨rfl, h5⟩
  have hb5 := HB4.out.trans (h5.below HL4.out HB4.out.size)
  obtain ⟨bo5, hl5, _⟩ := h5.ex
  have HC5 := Lib.hid (len_any _ _ _ _ _ _ hl5)
  have HC6 := Lib.hid (room_any _ _ _ _ _ _ hl5)
  have HB5 := Lib.hid hb5
  clear h5 hb5 hl5 HC4
  go_wp2_with fail
  refine HC5.out.mono ?_
  rintro e w6 ⟨rfl, rfl⟩
  go_wp2_with fail
  refine HC6.out.mono ?_
  rintro e w6 ⟨rfl, rfl⟩
  go_wp2_with fail
  go_ret
  exact ⟨rfl, HB5.out⟩

/-- What is asked, one behind the other. -/
def Acts (w : World) (B : Nat) (A : Option Addr) (T : List (ByteArray × Int)) : Prop :=
  ∀ i x, T[i]? = some x → ∃ b off, A = some ⟨b, off, none⟩ ∧ b < B ∧ w.cell? ⟨b, off + i * 2, none⟩ = some (.string x.1) ∧ w.cell? ⟨b, off + i * 2 + 1, none⟩ = some (.int .i64 x.2)
theorem Acts.keep {w w' : World} {B : Nat} {A : Option Addr} {T : List (ByteArray × Int)} (h : Acts w B A T) (hb : Below B w w') : Acts w' B A T := fun i x hx => by
  obtain ⟨b, off, h1, h2, h3, h4⟩ := h i x hx
  exact ⟨b, off, h1, h2, (hb.cell (p := ⟨b, off + i * 2, none⟩) h2).trans h3, (hb.cell (p := ⟨b, off + i * 2 + 1, none⟩) h2).trans h4⟩
/-- All that the law keeps. -/
structure InD (w : World) (g r : Nat) (L : List (ByteArray × Int)) (v : Value) (wr : World) : Prop where
  lru : ∃ bo, Lru wr w.heap.size g bo r L
  ref : Ref wr w.heap.size v L
  ok : Ok L r
  below : Below w.heap.size w wr
theorem InD.later {w wr w' : World} {g r : Nat} {L : List (ByteArray × Int)} {v : Value} (h : InD w g r L v wr) (hb : Below wr.heap.size wr w') : InD w g r L v w' := by
  obtain ⟨bo, hl⟩ := h.lru
  exact ⟨⟨bo, hl.quiet (Tn.of_below hb _)⟩, ownL h.ref hb, h.ok, h.below.trans (hb.mono h.below.size)⟩
/-- The cache has turned. -/
theorem InD.left {w wr w' : World} {g r : Nat} {bo : Option Nat} {L L' : List (ByteArray × Int)} {v : Value} (hl : Lru wr w.heap.size g bo r L) (hr : Ref wr w.heap.size v L') (hb : Below w.heap.size w wr) (h : Left wr w.heap.size g r bo L' w') (hok : Ok L' r) : InD w g r L' v w' := by
  obtain ⟨bo', h1, _⟩ := h.ex
  exact ⟨⟨bo', h1⟩, (h.kept hl).own hr (by unfold LS; decide), hok, hb.trans (h.below hl hb.size)⟩
theorem keys_next {L : List (ByteArray × Int)} {i : Nat} {p : ByteArray × Int} (h : L[i]? = some p) : ((L.take (i + 1)).map fun x => Value.string x.1) = ((L.take i).map fun x => Value.string x.1) ++ [.string p.1] := by
  obtain ⟨hi, hx⟩ := List.getElem?_eq_some_iff.1 h
  rw [List.take_succ_eq_append_getElem hi, hx, List.map_append]
  rfl
theorem use_ok {L : List (ByteArray × Int)} {r i : Nat} {k : ByteArray} {x : Int} (h : Ok L r) (hi : L[i]? = some (k, x)) : Ok ((k, x) :: rest L k) r ∧ ((k, x) :: rest L k).length = L.length := by
  have hl := rest_at_len hi h.nd
  exact ⟨⟨nd_use k x h.nd, by rw [List.length_cons, hl]; exact h.len, h.pos⟩, by rw [List.length_cons, hl]⟩
theorem put_len (L : List (ByteArray × Int)) (r : Nat) (k : ByteArray) (x : Int) : (putL L r k x).length ≤ L.length + 1 := by
  have := rest_le L k
  unfold putL
  split
  · rw [List.length_dropLast, List.length_cons]; omega
  · rw [List.length_cons]; omega
def Told (w : World) (e : Ending) (w' : World) : Prop := e = .returned (.bool true) ∧ Below w.heap.size w w'

set_option maxHeartbeats 12800000 in
theorem law_does (room : Int) (A : Option Addr) (c : Nat) (T : List (ByteArray × Int)) (w : World) (hT : Acts w w.heap.size A T) (hlen : T.length ≤ 9223372036854775807) (hroom : room ≤ 9223372036854775807) :
    Calls Try.prog 3 #[.int .i64 room, .slice A T.length c] w (Told w) := by
  obtain ⟨iS, hiS, zS0, zS1, zS2⟩ := info_three infoStr
  obtain ⟨r, hr⟩ : ∃ r : Nat, (r : Int) = max room 1 := ⟨(max room 1).toNat, by omega⟩
  have hr1 : 1 ≤ r := by omega
  have hrm : (r : Int) ≤ 9223372036854775807 := by omega
  have HT := Lib.hid hT
  have HC0 := Lib.hid (speaks_any w)
  clear hT
  go_enter Try.func3, Try.ntmps3
  go_wp2_with fail
  refine HC0.out.mono ?_
  rintro e w1 ⟨rfl, hb1⟩
  have HB1 := Lib.hid hb1
  have HN := Lib.hid (new_any r room w1 hr)
  clear hb1 HC0
  by_cases h200 : T.length ≤ 200
  · have g200 : ¬ (200 : Int) < (T.length : Int) := by omega
    have g201 : ¬ 200 < T.length := by omega
    go_wp2_with fail
    refine HN.out.mono ?_
    rintro e w2 ⟨rfl, hw2⟩
    have hl2 := new_lru w1 w.heap.size r HB1.out.size
    rw [← hw2] at hl2
    have hb2 : Below w.heap.size w w2 := HB1.out.trans (by rw [hw2]; exact (Below.refl _ _).alloc HB1.out.size _)
    obtain ⟨g, hg⟩ : ∃ g, g = w1.heap.size := ⟨_, rfl⟩
    rw [← hg] at hl2 ⊢
    have HI0 : Hid (InD w g r [] (.slice none 0 0) w2) := Lib.hid ⟨⟨none, hl2⟩, World.ownsRow_nil _ _ _ _, Ok.new hr1, hb2⟩
    have hmx : max room 1 = (r : Int) := hr.symm
    clear hl2 hb2 hw2 hg HN hr
    go_wp2_with fail
    go_loopw [29, 6] (fun v v6 wr => ∃ (j : Nat) (L : List (ByteArray × Int)), v = .int .i64 (j : Int) ∧ j ≤ T.length ∧ Hid (InD w g r L v6 wr) ∧ L.length ≤ j) (fun v _ _ => T.length - (intOf v).toNat)
    case atStart => exact ⟨0, [], rfl, Nat.zero_le _, HI0, Nat.le_refl _⟩
    case round =>
      obtain ⟨j, L, rfl, hj, HI, hLj⟩ := hrel
      obtain ⟨A6, c6, rfl, _, _, _⟩ := own_facts HI.out.ref
      have j0 : (0 : Int) ≤ (j : Int) := by omega
      by_cases hjl : j < T.length
      · obtain ⟨⟨k, z⟩, hx⟩ : ∃ x, T[j]? = some x := ⟨_, List.getElem?_eq_getElem hjl⟩
        obtain ⟨ba, oa, hAa, _, a0, a1⟩ := (HT.out.keep HI.out.below) j _ hx
        subst hAa
        have j1 : (j : Int) < (T.length : Int) := by omega
        obtain ⟨W3, hW3⟩ : ∃ W3, W3 = wr.alloc (.cells #[.string k, .int .i64 z] 28) := ⟨_, rfl⟩
        have hb3 : Below wr.heap.size wr W3 := by rw [hW3]; exact (Below.refl _ _).alloc (Nat.le_refl _) _
        have hk3 : W3.heap[wr.heap.size]? = some (.cells #[.string k, .int .i64 z] 28 (0, 0)) := by rw [hW3]; exact heap_alloc_new wr _
        have HI3 := Lib.hid (HI.out.later hb3)
        have HK3 := Lib.hid hk3
        have HW3 := Lib.hid hW3
        have hlz : L.length ≤ 200 := by omega
        have hne3 : 28 ≠ 67 ∧ 28 ≠ 69 := by decide
        clear hx hb3 hk3 hW3 HI
        go_upto_region 10 with fail
        rw [← HW3.out]
        clear a0 a1
        have s0 := cell_of_blk HK3.out 0
        have s1 := cell_of_blk HK3.out 1
        obtain ⟨bo, hlu⟩ := HI3.out.lru
        have HLU := Lib.hid hlu
        clear hlu
        by_cases hz : z = 0
        · subst hz
          rcases there L k with ⟨i, x, hi⟩ | hn
          · obtain ⟨hok2, hlen2⟩ := use_ok HI3.out.ok hi
            have hix : i < L.length := (List.getElem?_eq_some_iff.1 hi).1
            have HF := Lib.hid (find_yes w.heap.size i c6 A6 L k x W3 HI3.out.ref hi HI3.out.ok.nd (by omega))
            have HG := Lib.hid (get_yes w.heap.size g i bo r L k x W3 HLU.out HI3.out.ok hi (by omega))
            have i0 : (0 : Int) ≤ (i : Int) := by omega
            have i1 : (i : Int) < (L.length : Int) := by omega
            have gx : ((x : Int) != x) = false := by simp
            obtain ⟨b6, hA6, _, _, d0, d1⟩ := HI3.out.ref.pair hi
            subst hA6
            have HOK := Lib.hid hok2
            have HLN := Lib.hid hlen2
            have HIX := Lib.hid hi
            clear hok2 hlen2 hi
            go_wp2_with fail
            refine HF.out.mono ?_
            rintro e w4 ⟨rfl, rfl⟩
            go_wp2_with fail
            refine HG.out.mono ?_
            rintro e w4 ⟨rfl, h4⟩
            have hkp := h4.kept HLU.out
            have href4 : Ref w4 w.heap.size (.slice (some ⟨b6, 0, none⟩) L.length c6) L := hkp.own HI3.out.ref (by unfold LS; decide)
            obtain ⟨b7, hA7, _, _, d0', d1'⟩ := href4.pair HIX.out
            obtain rfl : b6 = b7 := by injection hA7 with h; injection h
            have hbw4 := HI3.out.below.trans (h4.below HLU.out HI3.out.below.size)
            have HU := Lib.hid (use_any w.heap.size c6 (some ⟨b6, 0, none⟩) L k x w4 href4 (by omega))
            obtain ⟨bo4, hl4, _⟩ := h4.ex
            have HL4 := Lib.hid hl4
            have HB4 := Lib.hid hbw4
            clear h4 hkp href4 hA7 hbw4 hl4 HF HG d0 d1 s0 s1
            go_wp2_with fail
            refine HU.out.mono ?_
            rintro e wq ⟨v6, rfl, hv6, hbq⟩
            obtain ⟨L', hL'⟩ : ∃ L', L' = (k, x) :: rest L k := ⟨_, rfl⟩
            have hln := HLN.out
            have hok' := HOK.out
            have hl4' := HL4.out
            rw [← hL'] at hv6 hln hok' hl4'
            have HIq : Hid (InD w g r L' v6 wq) := Lib.hid ⟨⟨bo4, hl4'.quiet (Tn.of_below hbq _)⟩, own_mono hv6 HB4.out.size, hok', HB4.out.trans (hbq.mono HB4.out.size)⟩
            have hLq : L'.length ≤ j + 1 := by omega
            clear hv6 hbq hL' hln hok' hl4' HU HOK HLN HIX HL4 HB4 d0' d1' HI3 HLU hlz hLj hix i0 i1 gx
            obtain ⟨A9, c9, hA9, _, _, _⟩ := own_facts HIq.out.ref
            try subst hA9
            try clear hA9
            go_wp2_with fail
            go_loopw [111, 17] (fun v v17 wz => ∃ i : Nat, v = .int .i64 (i : Int) ∧ i ≤ L'.length ∧ Hid (wz.ownsRow wq.heap.size 9 1 v17 i ((L'.take i).map fun x => .string x.1)) ∧ Hid (Below wq.heap.size wq wz)) (fun v _ _ => L'.length - (intOf v).toNat)
            case atStart => exact ⟨0, rfl, Nat.zero_le _, Lib.hid (World.ownsRow_nil _ _ _ _), Lib.hid (Below.refl _ _)⟩
            case round =>
              obtain ⟨i, rfl, hi, HO, HB⟩ := hrel
              obtain ⟨Ar, cr, rfl, _, _, _⟩ := own_facts HO.out
              have x0 : (0 : Int) ≤ (i : Int) := by omega
              by_cases hil : i < L'.length
              · obtain ⟨p, hp⟩ : ∃ p, L'[i]? = some p := ⟨_, List.getElem?_eq_getElem hil⟩
                obtain ⟨bp, hAp, _, _, p0, p1⟩ := Ref.pair (L := L') (ownL HIq.out.ref HB.out) hp
                subst hAp
                have x1 : (i : Int) < (L'.length : Int) := by omega
                obtain ⟨W5, hW5⟩ : ∃ W5, W5 = wr.alloc (.cells #[.string p.1, .int .i64 p.2] 32) := ⟨_, rfl⟩
                have hb5 : Below wr.heap.size wr W5 := by rw [hW5]; exact (Below.refl _ _).alloc (Nat.le_refl _) _
                have hk5 : W5.heap[wr.heap.size]? = some (.cells #[.string p.1, .int .i64 p.2] 32 (0, 0)) := by rw [hW5]; exact heap_alloc_new wr _
                have t0 := cell_of_blk hk5 0
                obtain ⟨Wc, hWc⟩ : ∃ Wc, Wc = W5.alloc (.cells #[.string p.1] 9) := ⟨_, rfl⟩
                have hbc : Below W5.heap.size W5 Wc := by rw [hWc]; exact (Below.refl _ _).alloc (Nat.le_refl _) _
                have HNc : Hid (∀ (m : Nat) (u : Value), ([.string p.1] : List Value)[m]? = some u → Wc.cell? ((⟨W5.heap.size, 0, none⟩ : Addr).add m) = some u) := Lib.hid fun m u hm => by rw [hWc, new_cell]; simpa using hm
                have hb5c := hb5.trans (hbc.mono hb5.size)
                have HOc := Lib.hid (ownL HO.out hb5c)
                have HBc := Lib.hid (HB.out.trans (hb5c.mono HB.out.size))
                have HTk := Lib.hid (keys_next hp)
                have HW5 := Lib.hid hW5
                have HWc := Lib.hid hWc.symm
                clear hp hW5 hb5 hk5 hWc hbc hb5c HO HB
                go_upto_region 26 with fail
                rw [← HW5.out]
                clear HW5 p0 p1
                go_wp2_with (at_builtin; rw [HWc.out]; refine wpList_append_own _ rfl (.tmp 115) (.tmp 118) 38 rfl wq.heap.size 9 iS _ 1 16 Try.underlying38 hiS zS0 zS1 zS2 rfl (by omega) (.slice Ar i cr) i ((L'.take i).map fun x => .string x.1) rfl HOc.out ⟨W5.heap.size, 0, none⟩ 1 1 [.string p.1] rfl rfl HNc.out (by simp [Value.oneCell']) (by simp only [maxLen]; omega) (by omega) HBc.out.size ?_; intro v17' wy hownq hgrowq hnilq)
                have HBq := Lib.hid (keep_grown HBc.out HOc.out hgrowq (Nat.le_refl _) (Nat.le_refl _))
                have HOq : Hid (wy.ownsRow wq.heap.size 9 1 v17' (i + 1) ((L'.take (i + 1)).map fun x => .string x.1)) := Lib.hid (by rw [HTk.out]; exact hownq)
                clear hownq hgrowq hnilq t0
                go_roundw
                case rel => exact ⟨i + 1, by go_num, by omega, HOq, HBq⟩
                case measure => simp [intOf]; omega
              · obtain rfl : i = L'.length := by omega
                have HIz := Lib.hid (HIq.out.later HB.out)
                have hst : Strs wr (.slice Ar L'.length cr) (L'.map (·.1)) := by
                  have h := HO.out
                  rw [List.take_length] at h
                  have hlm : (L'.map (·.1)).length = L'.length := List.length_map _
                  have h2 : wr.ownsRow wq.heap.size 9 1 (.slice Ar L'.length cr) (L'.map (·.1)).length ((L'.map (·.1)).map Value.string) := by rw [hlm, List.map_map]; exact h
                  exact Strs.of_own h2
                have HST := Lib.hid hst
                obtain ⟨bz, hlz⟩ := HIz.out.lru
                have HCL := Lib.hid (len_any _ _ _ _ _ _ hlz)
                have HCR := Lib.hid (room_any _ _ _ _ _ _ hlz)
                have HCK := Lib.hid (keys_any _ _ _ _ _ _ hlz (by omega))
                have y0 : ((L'.length : Int) != (L'.length : Int)) = false := by simp
                have y1 : ((r : Int) != (r : Int)) = false := by simp
                have hlr := HIz.out.ok.len
                have y2 : ¬ ((r : Int) < (L'.length : Int)) := by omega
                have y3 : ¬ (r < L'.length) := by omega
                clear hst hlz HO HB HIq hlr
                go_wp2_with fail
                refine HCL.out.mono ?_
                rintro e wa ⟨rfl, rfl⟩
                go_wp2_with fail
                refine HCR.out.mono ?_
                rintro e wa ⟨rfl, rfl⟩
                go_wp2_with fail
                refine HCL.out.mono ?_
                rintro e wa ⟨rfl, rfl⟩
                go_wp2_with fail
                refine HCR.out.mono ?_
                rintro e wa ⟨rfl, rfl⟩
                go_wp2_with fail
                refine HCK.out.mono ?_
                rintro e wa ⟨vk, rfl, hvk, hba⟩
                have HSM := Lib.hid (same_yes vk (.slice Ar L'.length cr) (L'.map (·.1)) wa hvk (HST.out.keep hba) (by rw [List.length_map]; omega))
                have HIa := Lib.hid (HIz.out.later hba)
                clear hvk hba HCL HCR HCK HST
                go_wp2_with fail
                refine HSM.out.mono ?_
                rintro e wb ⟨rfl, nd, hnd⟩
                have HIb := Lib.hid (HIa.out.later (show Below wa.heap.size wa wb by rw [← hnd]; exact ⟨rfl, rfl, rfl, Nat.le_refl _, fun _ _ => rfl⟩))
                clear hnd HSM HIa HIz
                go_wp2_with fail
                go_roundw
                case rel => exact ⟨j + 1, L', by go_num, by omega, HIb, hLq⟩
                case measure => simp [intOf]; omega
          · have HF := Lib.hid (find_no w.heap.size c6 A6 L k W3 HI3.out.ref hn (by omega))
            have HG := Lib.hid (get_no w.heap.size g bo r L k W3 HLU.out HI3.out.ok hn (by omega))
            clear hn
            go_wp2_with fail
            refine HF.out.mono ?_
            rintro e w4 ⟨rfl, rfl⟩
            go_wp2_with fail
            refine HG.out.mono ?_
            rintro e wq ⟨rfl, h4⟩
            obtain ⟨L', hL'⟩ : ∃ L', L' = L := ⟨_, rfl⟩
            have HIq : Hid (InD w g r L' (.slice A6 L'.length c6) wq) := Lib.hid (by rw [hL']; exact InD.left HLU.out HI3.out.ref HI3.out.below h4 HI3.out.ok)
            have hLq : L'.length ≤ j + 1 := by rw [hL']; omega
            rw [← hL']
            clear h4 hL' HF HG HI3 HLU hlz hLj s0 s1
            obtain ⟨A9, c9, hA9, _, _, _⟩ := own_facts HIq.out.ref
            try subst hA9
            try clear hA9
            go_wp2_with fail
            go_loopw [111, 17] (fun v v17 wz => ∃ i : Nat, v = .int .i64 (i : Int) ∧ i ≤ L'.length ∧ Hid (wz.ownsRow wq.heap.size 9 1 v17 i ((L'.take i).map fun x => .string x.1)) ∧ Hid (Below wq.heap.size wq wz)) (fun v _ _ => L'.length - (intOf v).toNat)
            case atStart => exact ⟨0, rfl, Nat.zero_le _, Lib.hid (World.ownsRow_nil _ _ _ _), Lib.hid (Below.refl _ _)⟩
            case round =>
              obtain ⟨i, rfl, hi, HO, HB⟩ := hrel
              obtain ⟨Ar, cr, rfl, _, _, _⟩ := own_facts HO.out
              have x0 : (0 : Int) ≤ (i : Int) := by omega
              by_cases hil : i < L'.length
              · obtain ⟨p, hp⟩ : ∃ p, L'[i]? = some p := ⟨_, List.getElem?_eq_getElem hil⟩
                obtain ⟨bp, hAp, _, _, p0, p1⟩ := Ref.pair (L := L') (ownL HIq.out.ref HB.out) hp
                subst hAp
                have x1 : (i : Int) < (L'.length : Int) := by omega
                obtain ⟨W5, hW5⟩ : ∃ W5, W5 = wr.alloc (.cells #[.string p.1, .int .i64 p.2] 32) := ⟨_, rfl⟩
                have hb5 : Below wr.heap.size wr W5 := by rw [hW5]; exact (Below.refl _ _).alloc (Nat.le_refl _) _
                have hk5 : W5.heap[wr.heap.size]? = some (.cells #[.string p.1, .int .i64 p.2] 32 (0, 0)) := by rw [hW5]; exact heap_alloc_new wr _
                have t0 := cell_of_blk hk5 0
                obtain ⟨Wc, hWc⟩ : ∃ Wc, Wc = W5.alloc (.cells #[.string p.1] 9) := ⟨_, rfl⟩
                have hbc : Below W5.heap.size W5 Wc := by rw [hWc]; exact (Below.refl _ _).alloc (Nat.le_refl _) _
                have HNc : Hid (∀ (m : Nat) (u : Value), ([.string p.1] : List Value)[m]? = some u → Wc.cell? ((⟨W5.heap.size, 0, none⟩ : Addr).add m) = some u) := Lib.hid fun m u hm => by rw [hWc, new_cell]; simpa using hm
                have hb5c := hb5.trans (hbc.mono hb5.size)
                have HOc := Lib.hid (ownL HO.out hb5c)
                have HBc := Lib.hid (HB.out.trans (hb5c.mono HB.out.size))
                have HTk := Lib.hid (keys_next hp)
                have HW5 := Lib.hid hW5
                have HWc := Lib.hid hWc.symm
                clear hp hW5 hb5 hk5 hWc hbc hb5c HO HB
                go_upto_region 26 with fail
                rw [← HW5.out]
                clear HW5 p0 p1
                go_wp2_with (at_builtin; rw [HWc.out]; refine wpList_append_own _ rfl (.tmp 115) (.tmp 118) 38 rfl wq.heap.size 9 iS _ 1 16 Try.underlying38 hiS zS0 zS1 zS2 rfl (by omega) (.slice Ar i cr) i ((L'.take i).map fun x => .string x.1) rfl HOc.out ⟨W5.heap.size, 0, none⟩ 1 1 [.string p.1] rfl rfl HNc.out (by simp [Value.oneCell']) (by simp only [maxLen]; omega) (by omega) HBc.out.size ?_; intro v17' wy hownq hgrowq hnilq)
                have HBq := Lib.hid (keep_grown HBc.out HOc.out hgrowq (Nat.le_refl _) (Nat.le_refl _))
                have HOq : Hid (wy.ownsRow wq.heap.size 9 1 v17' (i + 1) ((L'.take (i + 1)).map fun x => .string x.1)) := Lib.hid (by rw [HTk.out]; exact hownq)
                clear hownq hgrowq hnilq t0
                go_roundw
                case rel => exact ⟨i + 1, by go_num, by omega, HOq, HBq⟩
                case measure => simp [intOf]; omega
              · obtain rfl : i = L'.length := by omega
                have HIz := Lib.hid (HIq.out.later HB.out)
                have hst : Strs wr (.slice Ar L'.length cr) (L'.map (·.1)) := by
                  have h := HO.out
                  rw [List.take_length] at h
                  have hlm : (L'.map (·.1)).length = L'.length := List.length_map _
                  have h2 : wr.ownsRow wq.heap.size 9 1 (.slice Ar L'.length cr) (L'.map (·.1)).length ((L'.map (·.1)).map Value.string) := by rw [hlm, List.map_map]; exact h
                  exact Strs.of_own h2
                have HST := Lib.hid hst
                obtain ⟨bz, hlz⟩ := HIz.out.lru
                have HCL := Lib.hid (len_any _ _ _ _ _ _ hlz)
                have HCR := Lib.hid (room_any _ _ _ _ _ _ hlz)
                have HCK := Lib.hid (keys_any _ _ _ _ _ _ hlz (by omega))
                have y0 : ((L'.length : Int) != (L'.length : Int)) = false := by simp
                have y1 : ((r : Int) != (r : Int)) = false := by simp
                have hlr := HIz.out.ok.len
                have y2 : ¬ ((r : Int) < (L'.length : Int)) := by omega
                have y3 : ¬ (r < L'.length) := by omega
                clear hst hlz HO HB HIq hlr
                go_wp2_with fail
                refine HCL.out.mono ?_
                rintro e wa ⟨rfl, rfl⟩
                go_wp2_with fail
                refine HCR.out.mono ?_
                rintro e wa ⟨rfl, rfl⟩
                go_wp2_with fail
                refine HCL.out.mono ?_
                rintro e wa ⟨rfl, rfl⟩
                go_wp2_with fail
                refine HCR.out.mono ?_
                rintro e wa ⟨rfl, rfl⟩
                go_wp2_with fail
                refine HCK.out.mono ?_
                rintro e wa ⟨vk, rfl, hvk, hba⟩
                have HSM := Lib.hid (same_yes vk (.slice Ar L'.length cr) (L'.map (·.1)) wa hvk (HST.out.keep hba) (by rw [List.length_map]; omega))
                have HIa := Lib.hid (HIz.out.later hba)
                clear hvk hba HCL HCR HCK HST
                go_wp2_with fail
                refine HSM.out.mono ?_
                rintro e wb ⟨rfl, nd, hnd⟩
                have HIb := Lib.hid (HIa.out.later (show Below wa.heap.size wa wb by rw [← hnd]; exact ⟨rfl, rfl, rfl, Nat.le_refl _, fun _ _ => rfl⟩))
                clear hnd HSM HIa HIz
                go_wp2_with fail
                go_roundw
                case rel => exact ⟨j + 1, L', by go_num, by omega, HIb, hLq⟩
                case measure => simp [intOf]; omega
        · have hz1 : (z == 0) = false := by simpa using hz
          have HP1 := Lib.hid (rput_any w.heap.size c6 r A6 L k z W3 HI3.out.ref (by omega) hr1)
          obtain ⟨s, hs⟩ : ∃ s, s = goneK L r k ⟨#[]⟩ := ⟨_, rfl⟩
          obtain ⟨b, hb⟩ : ∃ b, b = goneB L r k := ⟨_, rfl⟩
          obtain ⟨L', hL'⟩ : ∃ L', L' = putL L r k z := ⟨_, rfl⟩
          have hok' := HI3.out.ok.put k z
          have hLq : L'.length ≤ j + 1 := by have := put_len L r k z; rw [hL']; omega
          unfold RPutIn at HP1
          rw [← hs, ← hb, ← hL'] at HP1
          rw [← hL'] at hok'
          have gs : (s.toList != s.toList) = false := by simp
          have gb : (b != b) = false := by simp
          have HOK := Lib.hid hok'
          have HE := Lib.hid (And.intro hs.symm (And.intro hb.symm hL'.symm))
          clear hs hb hL' hok'
          go_wp2_with fail
          refine HP1.out.mono ?_
          rintro e w4 ⟨v6, rfl, hv6, hb4⟩
          have hI4 := HI3.out.later hb4
          obtain ⟨bo4, hl4⟩ := hI4.lru
          have hv6' : Ref w4 w.heap.size v6 L' := own_mono hv6 HI3.out.below.size
          have HP2 := Lib.hid (put_is hl4 hI4.ok (by omega) hI4.below.size HE.out.1 HE.out.2.1 HE.out.2.2)
          have HV6 := Lib.hid hv6'
          have HL4 := Lib.hid hl4
          have HB4 := Lib.hid hI4.below
          have hk4 := (hb4.block _ (lt_of_some HK3.out)).trans HK3.out
          have s0' := cell_of_blk hk4 0
          have s1' := cell_of_blk hk4 1
          clear hv6 hb4 hI4 hl4 hv6' hk4 HP1 s0 s1
          go_wp2_with fail
          refine HP2.out.mono ?_
          rintro e wq ⟨rfl, h5⟩
          have HIq : Hid (InD w g r L' v6 wq) := Lib.hid (InD.left HL4.out HV6.out HB4.out h5 HOK.out)
          clear h5 HP2 HV6 HL4 HB4 HOK HE HI3 HLU hlz hLj s0' s1'
          cases b
          · skip
            obtain ⟨A9, c9, hA9, _, _, _⟩ := own_facts HIq.out.ref
            try subst hA9
            try clear hA9
            go_wp2_with fail
            go_loopw [111, 17] (fun v v17 wz => ∃ i : Nat, v = .int .i64 (i : Int) ∧ i ≤ L'.length ∧ Hid (wz.ownsRow wq.heap.size 9 1 v17 i ((L'.take i).map fun x => .string x.1)) ∧ Hid (Below wq.heap.size wq wz)) (fun v _ _ => L'.length - (intOf v).toNat)
            case atStart => exact ⟨0, rfl, Nat.zero_le _, Lib.hid (World.ownsRow_nil _ _ _ _), Lib.hid (Below.refl _ _)⟩
            case round =>
              obtain ⟨i, rfl, hi, HO, HB⟩ := hrel
              obtain ⟨Ar, cr, rfl, _, _, _⟩ := own_facts HO.out
              have x0 : (0 : Int) ≤ (i : Int) := by omega
              by_cases hil : i < L'.length
              · obtain ⟨p, hp⟩ : ∃ p, L'[i]? = some p := ⟨_, List.getElem?_eq_getElem hil⟩
                obtain ⟨bp, hAp, _, _, p0, p1⟩ := Ref.pair (L := L') (ownL HIq.out.ref HB.out) hp
                subst hAp
                have x1 : (i : Int) < (L'.length : Int) := by omega
                obtain ⟨W5, hW5⟩ : ∃ W5, W5 = wr.alloc (.cells #[.string p.1, .int .i64 p.2] 32) := ⟨_, rfl⟩
                have hb5 : Below wr.heap.size wr W5 := by rw [hW5]; exact (Below.refl _ _).alloc (Nat.le_refl _) _
                have hk5 : W5.heap[wr.heap.size]? = some (.cells #[.string p.1, .int .i64 p.2] 32 (0, 0)) := by rw [hW5]; exact heap_alloc_new wr _
                have t0 := cell_of_blk hk5 0
                obtain ⟨Wc, hWc⟩ : ∃ Wc, Wc = W5.alloc (.cells #[.string p.1] 9) := ⟨_, rfl⟩
                have hbc : Below W5.heap.size W5 Wc := by rw [hWc]; exact (Below.refl _ _).alloc (Nat.le_refl _) _
                have HNc : Hid (∀ (m : Nat) (u : Value), ([.string p.1] : List Value)[m]? = some u → Wc.cell? ((⟨W5.heap.size, 0, none⟩ : Addr).add m) = some u) := Lib.hid fun m u hm => by rw [hWc, new_cell]; simpa using hm
                have hb5c := hb5.trans (hbc.mono hb5.size)
                have HOc := Lib.hid (ownL HO.out hb5c)
                have HBc := Lib.hid (HB.out.trans (hb5c.mono HB.out.size))
                have HTk := Lib.hid (keys_next hp)
                have HW5 := Lib.hid hW5
                have HWc := Lib.hid hWc.symm
                clear hp hW5 hb5 hk5 hWc hbc hb5c HO HB
                go_upto_region 26 with fail
                rw [← HW5.out]
                clear HW5 p0 p1
                go_wp2_with (at_builtin; rw [HWc.out]; refine wpList_append_own _ rfl (.tmp 115) (.tmp 118) 38 rfl wq.heap.size 9 iS _ 1 16 Try.underlying38 hiS zS0 zS1 zS2 rfl (by omega) (.slice Ar i cr) i ((L'.take i).map fun x => .string x.1) rfl HOc.out ⟨W5.heap.size, 0, none⟩ 1 1 [.string p.1] rfl rfl HNc.out (by simp [Value.oneCell']) (by simp only [maxLen]; omega) (by omega) HBc.out.size ?_; intro v17' wy hownq hgrowq hnilq)
                have HBq := Lib.hid (keep_grown HBc.out HOc.out hgrowq (Nat.le_refl _) (Nat.le_refl _))
                have HOq : Hid (wy.ownsRow wq.heap.size 9 1 v17' (i + 1) ((L'.take (i + 1)).map fun x => .string x.1)) := Lib.hid (by rw [HTk.out]; exact hownq)
                clear hownq hgrowq hnilq t0
                go_roundw
                case rel => exact ⟨i + 1, by go_num, by omega, HOq, HBq⟩
                case measure => simp [intOf]; omega
              · obtain rfl : i = L'.length := by omega
                have HIz := Lib.hid (HIq.out.later HB.out)
                have hst : Strs wr (.slice Ar L'.length cr) (L'.map (·.1)) := by
                  have h := HO.out
                  rw [List.take_length] at h
                  have hlm : (L'.map (·.1)).length = L'.length := List.length_map _
                  have h2 : wr.ownsRow wq.heap.size 9 1 (.slice Ar L'.length cr) (L'.map (·.1)).length ((L'.map (·.1)).map Value.string) := by rw [hlm, List.map_map]; exact h
                  exact Strs.of_own h2
                have HST := Lib.hid hst
                obtain ⟨bz, hlz⟩ := HIz.out.lru
                have HCL := Lib.hid (len_any _ _ _ _ _ _ hlz)
                have HCR := Lib.hid (room_any _ _ _ _ _ _ hlz)
                have HCK := Lib.hid (keys_any _ _ _ _ _ _ hlz (by omega))
                have y0 : ((L'.length : Int) != (L'.length : Int)) = false := by simp
                have y1 : ((r : Int) != (r : Int)) = false := by simp
                have hlr := HIz.out.ok.len
                have y2 : ¬ ((r : Int) < (L'.length : Int)) := by omega
                have y3 : ¬ (r < L'.length) := by omega
                clear hst hlz HO HB HIq hlr
                go_wp2_with fail
                refine HCL.out.mono ?_
                rintro e wa ⟨rfl, rfl⟩
                go_wp2_with fail
                refine HCR.out.mono ?_
                rintro e wa ⟨rfl, rfl⟩
                go_wp2_with fail
                refine HCL.out.mono ?_
                rintro e wa ⟨rfl, rfl⟩
                go_wp2_with fail
                refine HCR.out.mono ?_
                rintro e wa ⟨rfl, rfl⟩
                go_wp2_with fail
                refine HCK.out.mono ?_
                rintro e wa ⟨vk, rfl, hvk, hba⟩
                have HSM := Lib.hid (same_yes vk (.slice Ar L'.length cr) (L'.map (·.1)) wa hvk (HST.out.keep hba) (by rw [List.length_map]; omega))
                have HIa := Lib.hid (HIz.out.later hba)
                clear hvk hba HCL HCR HCK HST
                go_wp2_with fail
                refine HSM.out.mono ?_
                rintro e wb ⟨rfl, nd, hnd⟩
                have HIb := Lib.hid (HIa.out.later (show Below wa.heap.size wa wb by rw [← hnd]; exact ⟨rfl, rfl, rfl, Nat.le_refl _, fun _ _ => rfl⟩))
                clear hnd HSM HIa HIz
                go_wp2_with fail
                go_roundw
                case rel => exact ⟨j + 1, L', by go_num, by omega, HIb, hLq⟩
                case measure => simp [intOf]; omega
          · skip
            obtain ⟨A9, c9, hA9, _, _, _⟩ := own_facts HIq.out.ref
            try subst hA9
            try clear hA9
            go_wp2_with fail
            go_loopw [111, 17] (fun v v17 wz => ∃ i : Nat, v = .int .i64 (i : Int) ∧ i ≤ L'.length ∧ Hid (wz.ownsRow wq.heap.size 9 1 v17 i ((L'.take i).map fun x => .string x.1)) ∧ Hid (Below wq.heap.size wq wz)) (fun v _ _ => L'.length - (intOf v).toNat)
            case atStart => exact ⟨0, rfl, Nat.zero_le _, Lib.hid (World.ownsRow_nil _ _ _ _), Lib.hid (Below.refl _ _)⟩
            case round =>
              obtain ⟨i, rfl, hi, HO, HB⟩ := hrel
              obtain ⟨Ar, cr, rfl, _, _, _⟩ := own_facts HO.out
              have x0 : (0 : Int) ≤ (i : Int) := by omega
              by_cases hil : i < L'.length
              · obtain ⟨p, hp⟩ : ∃ p, L'[i]? = some p := ⟨_, List.getElem?_eq_getElem hil⟩
                obtain ⟨bp, hAp, _, _, p0, p1⟩ := Ref.pair (L := L') (ownL HIq.out.ref HB.out) hp
                subst hAp
                have x1 : (i : Int) < (L'.length : Int) := by omega
                obtain ⟨W5, hW5⟩ : ∃ W5, W5 = wr.alloc (.cells #[.string p.1, .int .i64 p.2] 32) := ⟨_, rfl⟩
                have hb5 : Below wr.heap.size wr W5 := by rw [hW5]; exact (Below.refl _ _).alloc (Nat.le_refl _) _
                have hk5 : W5.heap[wr.heap.size]? = some (.cells #[.string p.1, .int .i64 p.2] 32 (0, 0)) := by rw [hW5]; exact heap_alloc_new wr _
                have t0 := cell_of_blk hk5 0
                obtain ⟨Wc, hWc⟩ : ∃ Wc, Wc = W5.alloc (.cells #[.string p.1] 9) := ⟨_, rfl⟩
                have hbc : Below W5.heap.size W5 Wc := by rw [hWc]; exact (Below.refl _ _).alloc (Nat.le_refl _) _
                have HNc : Hid (∀ (m : Nat) (u : Value), ([.string p.1] : List Value)[m]? = some u → Wc.cell? ((⟨W5.heap.size, 0, none⟩ : Addr).add m) = some u) := Lib.hid fun m u hm => by rw [hWc, new_cell]; simpa using hm
                have hb5c := hb5.trans (hbc.mono hb5.size)
                have HOc := Lib.hid (ownL HO.out hb5c)
                have HBc := Lib.hid (HB.out.trans (hb5c.mono HB.out.size))
                have HTk := Lib.hid (keys_next hp)
                have HW5 := Lib.hid hW5
                have HWc := Lib.hid hWc.symm
                clear hp hW5 hb5 hk5 hWc hbc hb5c HO HB
                go_upto_region 26 with fail
                rw [← HW5.out]
                clear HW5 p0 p1
                go_wp2_with (at_builtin; rw [HWc.out]; refine wpList_append_own _ rfl (.tmp 115) (.tmp 118) 38 rfl wq.heap.size 9 iS _ 1 16 Try.underlying38 hiS zS0 zS1 zS2 rfl (by omega) (.slice Ar i cr) i ((L'.take i).map fun x => .string x.1) rfl HOc.out ⟨W5.heap.size, 0, none⟩ 1 1 [.string p.1] rfl rfl HNc.out (by simp [Value.oneCell']) (by simp only [maxLen]; omega) (by omega) HBc.out.size ?_; intro v17' wy hownq hgrowq hnilq)
                have HBq := Lib.hid (keep_grown HBc.out HOc.out hgrowq (Nat.le_refl _) (Nat.le_refl _))
                have HOq : Hid (wy.ownsRow wq.heap.size 9 1 v17' (i + 1) ((L'.take (i + 1)).map fun x => .string x.1)) := Lib.hid (by rw [HTk.out]; exact hownq)
                clear hownq hgrowq hnilq t0
                go_roundw
                case rel => exact ⟨i + 1, by go_num, by omega, HOq, HBq⟩
                case measure => simp [intOf]; omega
              · obtain rfl : i = L'.length := by omega
                have HIz := Lib.hid (HIq.out.later HB.out)
                have hst : Strs wr (.slice Ar L'.length cr) (L'.map (·.1)) := by
                  have h := HO.out
                  rw [List.take_length] at h
                  have hlm : (L'.map (·.1)).length = L'.length := List.length_map _
                  have h2 : wr.ownsRow wq.heap.size 9 1 (.slice Ar L'.length cr) (L'.map (·.1)).length ((L'.map (·.1)).map Value.string) := by rw [hlm, List.map_map]; exact h
                  exact Strs.of_own h2
                have HST := Lib.hid hst
                obtain ⟨bz, hlz⟩ := HIz.out.lru
                have HCL := Lib.hid (len_any _ _ _ _ _ _ hlz)
                have HCR := Lib.hid (room_any _ _ _ _ _ _ hlz)
                have HCK := Lib.hid (keys_any _ _ _ _ _ _ hlz (by omega))
                have y0 : ((L'.length : Int) != (L'.length : Int)) = false := by simp
                have y1 : ((r : Int) != (r : Int)) = false := by simp
                have hlr := HIz.out.ok.len
                have y2 : ¬ ((r : Int) < (L'.length : Int)) := by omega
                have y3 : ¬ (r < L'.length) := by omega
                clear hst hlz HO HB HIq hlr
                go_wp2_with fail
                refine HCL.out.mono ?_
                rintro e wa ⟨rfl, rfl⟩
                go_wp2_with fail
                refine HCR.out.mono ?_
                rintro e wa ⟨rfl, rfl⟩
                go_wp2_with fail
                refine HCL.out.mono ?_
                rintro e wa ⟨rfl, rfl⟩
                go_wp2_with fail
                refine HCR.out.mono ?_
                rintro e wa ⟨rfl, rfl⟩
                go_wp2_with fail
                refine HCK.out.mono ?_
                rintro e wa ⟨vk, rfl, hvk, hba⟩
                have HSM := Lib.hid (same_yes vk (.slice Ar L'.length cr) (L'.map (·.1)) wa hvk (HST.out.keep hba) (by rw [List.length_map]; omega))
                have HIa := Lib.hid (HIz.out.later hba)
                clear hvk hba HCL HCR HCK HST
                go_wp2_with fail
                refine HSM.out.mono ?_
                rintro e wb ⟨rfl, nd, hnd⟩
                have HIb := Lib.hid (HIa.out.later (show Below wa.heap.size wa wb by rw [← hnd]; exact ⟨rfl, rfl, rfl, Nat.le_refl _, fun _ _ => rfl⟩))
                clear hnd HSM HIa HIz
                go_wp2_with fail
                go_roundw
                case rel => exact ⟨j + 1, L', by go_num, by omega, HIb, hLq⟩
                case measure => simp [intOf]; omega
      · have HE := Lib.hid HI.out.below
        clear HI
        go_wp2_with fail
        go_ret
        exact ⟨rfl, HE.out⟩
  · have g200 : (200 : Int) < (T.length : Int) := by omega
    have g201 : 200 < T.length := by omega
    clear HN
    go_wp2_with fail
    go_ret
    exact ⟨rfl, HB1.out⟩
end Go.Proofs.Ytllebfkodklehaa.lrs
