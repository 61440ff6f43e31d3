/- The law WalkOwn: the path that a path leads to leads there, too. Conditions: the trees lie in memory; the library's MaxLen holds a number; what the law's own speaks answers. That walk speaks: a link to itself, a file, and a link to that. Condition: the library's MaxLen holds a number. -/
import Derived.Test.YtnokmhoaaancgaaGreatDoorJZK
import Derived.Laws.StructEq
import Derived.Test.YtnokmhoaaancgaaGreatDoorJZJ
import Derived.Test.YtnokmhoaaancgaaGreatDoorJH2
namespace Go.Proofs.YtnokmhoaaancgaaGreatDoor.wlk
set_option maxRecDepth 100000
open Go.RowKit Go.Proofs.YtnokmhoaaancgaaGreatDoor.words Go.Proofs.YtnokmhoaaancgaaGreatDoor.ext Go.Proofs.YtnokmhoaaancgaaGreatDoor.name Go.Proofs.YtnokmhoaaancgaaGreatDoor.tre Go.Proofs.YtnokmhoaaancgaaGreatDoor.stk Go.Proofs.YtnokmhoaaancgaaGreatDoor.seen

/-- The three texts lead where the path led. -/
def Own3 (R : List Nd) (S : ByteArray) (K l i : Int) (n : Nat) : Prop :=
  ∀ p ∈ [S, (⟨#[46]⟩ : ByteArray) ++ S, (⟨#[46, 46, 47, 46, 47, 47]⟩ : ByteArray) ++ S ++ (⟨#[47, 46]⟩ : ByteArray)], p.size ≤ 1000000 ∧
    ∀ (A : Option Addr) (c : Nat) (ad m : Int) (L : List (Nat × Int)) (w2 : World), StkM w2 A L (tabs R) → w2.cell? ⟨0, 0, none⟩ = some (.int .i64 m) →
      Calls Tryz.prog 13 #[stkV A L.length c ad, .string p, .bool false] w2 fun e w' => (∃ (S' : ByteArray) (K' l' i' : Int) (A' : Option Addr) (n' c' : Nat) (k' : Int), e = .returned (.tuple #[.agg #[.string S', .int .i64 K', .int .i64 l', .int .i64 i', .slice A' n' c'], .int .i64 k']) ∧
        (p.size ≤ 1024 → k' = 0 ∧ S' = S ∧ K' = K ∧ l' = l ∧ i' = i ∧ n' = n)) ∧ Below w2.heap.size w2 w'
theorem nm_parts {ns : List ByteArray} (h : ∀ n ∈ ns, NmD n) : ∀ p ∈ bytesOf ns, idle p = false ∧ bad p = false ∧ (47 : UInt8) ∉ p := fun p hp => by
  obtain ⟨n, hn, rfl⟩ := List.mem_map.1 hp
  exact (h n hn).1.2
theorem goes_own {R : List Nd} {ns : List ByteArray} {E : List Nd} {S : ByteArray} (hn : ∀ n ∈ ns, NmD n) (hS : S.data.toList = path (bytesOf ns)) (hL : Leads R false [] ns 40 (.ok ns E)) :
    ∀ p ∈ [S, (⟨#[46]⟩ : ByteArray) ++ S, (⟨#[46, 46, 47, 46, 47, 47]⟩ : ByteArray) ++ S ++ (⟨#[47, 46]⟩ : ByteArray)], p.size ≤ 1024 → Goes R false p (.ok ns E) := fun p hp hz => by
  have hnp := nm_parts hn
  rw [← name.size_list] at hz
  simp only [List.mem_cons, List.mem_nil_iff, or_false] at hp
  rcases hp with rfl | rfl | rfl
  · rw [hS] at hz
    exact .inr ⟨ns, by rw [hS]; exact parts_path _ hnp hz, hL⟩
  · have e : ((⟨#[46]⟩ : ByteArray) ++ S).data.toList = 46 :: path (bytesOf ns) := by rw [append_data, hS]; rfl
    rw [e] at hz
    exact .inr ⟨ns, by rw [e]; exact parts_dot hnp hz, hL⟩
  · have e : ((⟨#[46, 46, 47, 46, 47, 47]⟩ : ByteArray) ++ S ++ (⟨#[47, 46]⟩ : ByteArray)).data.toList = [46, 46, 47, 46, 47, 47] ++ path (bytesOf ns) ++ [47, 46] := by rw [append_data, append_data, hS]
    rw [e] at hz
    exact .inr ⟨dd :: ns, by rw [e]; exact parts_up hnp hz, .up hL⟩
theorem WalkedTo.own {R : List Nd} {f : Bool} {s : ByteArray} {O : AtO} {w w1 : World} {e : Ending} (H : WalkedTo R O w e w1) (hg : ∀ t ∈ R, allB t = true) (hO : Goes R f s O) (hR : R.length ≤ 64) (hK : ∀ t ∈ R, t.K = 2) (hk : ∀ d ∈ R, depth d < 100) :
    ∃ (S : ByteArray) (K l i : Int) (At : Option Addr) (nt ct : Nat) (k : Int), e = .returned (.tuple #[.agg #[.string S, .int .i64 K, .int .i64 l, .int .i64 i, .slice At nt ct], .int .i64 k]) ∧ (k ≠ 0 ∨ (k = 0 ∧ S.size ≤ 500000 ∧ Own3 R S K l i nt)) := by
  obtain ⟨⟨k, rfl, hk0, _, _, rfl⟩ | ⟨t, At, ct, ns, E, rfl, rfl, hp, hl, hz, hH, hS, hn, hnl, hal, hne, hsp⟩, hb⟩ := H
  · exact ⟨_, _, _, _, _, _, _, _, rfl, .inl hk0⟩
  · refine ⟨_, _, _, _, _, _, _, _, rfl, .inr ⟨rfl, ?_, ?_⟩⟩
    · have h1 := pathOf_size ns ⟨#[47]⟩ fun n h => (hn n h).1.1
      rw [hS]
      unfold pathOf
      have h2 : (⟨#[47]⟩ : ByteArray).size = 1 := rfl
      omega
    · have hSz : t.S.size ≤ 500000 := by
        have h1 := pathOf_size ns ⟨#[47]⟩ fun n h => (hn n h).1.1
        rw [hS]
        unfold pathOf
        have h2 : (⟨#[47]⟩ : ByteArray).size = 1 := rfl
        omega
      have hL : Leads R false [] ns 40 (.ok ns E) := by
        rcases hO with ⟨_, h⟩ | ⟨ps, _, h⟩
        · cases h
        · exact own_leads h (own_nil R) ns E 40 rfl
      have hSd : t.S.data.toList = path (bytesOf ns) := by rw [hS]; exact path_of ns.length ns rfl hn
      intro p hp'
      have hps : p.size ≤ 1000000 := by
        simp only [List.mem_cons, List.mem_nil_iff, or_false] at hp'
        rcases hp' with rfl | rfl | rfl
        · omega
        · rw [ByteArray.size_append]
          have : (⟨#[46]⟩ : ByteArray).size = 1 := rfl
          omega
        · rw [ByteArray.size_append, ByteArray.size_append]
          have h1 : (⟨#[46, 46, 47, 46, 47, 47]⟩ : ByteArray).size = 6 := rfl
          have h2 : (⟨#[47, 46]⟩ : ByteArray).size = 2 := rfl
          omega
      refine ⟨hps, fun A c ad m L w2 hst hm => ?_⟩
      obtain ⟨O', hO'⟩ := Goes.some (f := false) hg p
      refine (walk_any hg hK hk hR A c ad L m p false O' hO' w2 hst hm hps).mono ?_
      rintro e w' ⟨⟨k, rfl, hk0, _, _, rfl⟩ | ⟨t', At', ct', ns', E', rfl, rfl, _, _, _, hH', hS', _, _, _, _, hsp'⟩, hb'⟩
      · refine ⟨⟨_, _, _, _, _, _, _, _, rfl, fun h => ?_⟩, hb'⟩
        have h1 := hO'.uniq hg (goes_own hn hSd hL p hp' h)
        cases h1
      · refine ⟨⟨_, _, _, _, _, _, _, _, rfl, fun h => ?_⟩, hb'⟩
        have h1 := hO'.uniq hg (goes_own hn hSd hL p hp' h)
        injection h1 with e1 e2
        subst e1
        subst e2
        have hKe : t'.K = t.K := by
          rcases hH with ⟨h1, h2, _⟩ | ⟨_, _, d, h1, h2, _, h3, _⟩
          · rcases hH' with ⟨_, h2', _⟩ | ⟨_, _, d', h1', h2', _⟩
            · rw [h2, h2']
            · have := h1 d' (by rw [h1']; exact List.mem_cons_self ..)
              rcases h2' with h | h <;> rw [h] at this <;> exact absurd this (by decide)
          · rcases hH' with ⟨h1', _⟩ | ⟨_, _, d', h1', _, _, h3', _⟩
            · have := h1' d (by rw [h1]; exact List.mem_cons_self ..)
              rcases h2 with h | h <;> rw [h] at this <;> exact absurd this (by decide)
            · rw [h1] at h1'
              injection h1' with h1' _
              rw [h3, h3', h1']
        obtain ⟨u1, u2, u3⟩ := hsp'.uniq hg hKe hsp
        exact ⟨rfl, by rw [hS, hS'], hKe, u1, u2, u3⟩
set_option maxHeartbeats 25600000 in
theorem law_own (A : Option Addr) (c : Nat) (T : List Nd) (rs : Nat → Raw) (s : ByteArray) (f : Bool) (m : Int) (w : World) (hT : Trees w w.heap.size A T rs) (hm : w.cell? ⟨0, 0, none⟩ = some (.int .i64 m)) (hs : s.size ≤ 140737488355328) (hl : T.length * 112 ≤ 140737488355328)
    (hsp : ∀ w' : World, w'.cell? ⟨0, 0, none⟩ = some (.int .i64 m) → Calls Tryz.prog 10 #[] w' fun e w'' => e = .returned (.bool true) ∧ Below w'.heap.size w' w'') :
    Calls Tryz.prog 5 #[.agg #[.slice A T.length c, .string s, .bool f]] w fun e w' => e = .returned (.bool true) ∧ Below w.heap.size w w' := by
  obtain ⟨W1, hW1⟩ : ∃ W1, W1 = w.alloc (.cells #[.slice A T.length c, .string s, .bool f] 24) := ⟨_, rfl⟩
  have hb1 : Below w.heap.size w W1 := by rw [hW1]; exact (Below.refl _ _).alloc (Nat.le_refl _) _
  have HC1 := Lib.hid (show W1.heap[w.heap.size]? = some (.cells #[.slice A T.length c, .string s, .bool f] 24 (0, 0)) by rw [hW1]; exact heap_alloc_new w _)
  have HT := Lib.hid (hT.later hb1)
  have HM := Lib.hid (below_cell hm hb1)
  have HB1 := Lib.hid hb1
  have HSp := Lib.hid (hsp W1 HM.out)
  have HW1 := Lib.hid hW1
  clear hT hm hW1 hb1 hsp
  go_enter Tryz.func5, Tryz.ntmps5
  go_upto_region 1 with fail
  rw [← HW1.out]
  clear HW1
  go_wp2_with fail
  refine HSp.out.mono ?_
  rintro e w2 ⟨rfl, hb2⟩
  have HB2 := Lib.hid hb2
  have e1 := (hb2.block _ (lt_of_some HC1.out)).trans HC1.out
  have c0 : w2.cell? ⟨w.heap.size, 0, none⟩ = some (.slice A T.length c) := cell_of_blk e1 0
  have HMa := Lib.hid (may_any A c T rs w2 (HT.out.later hb2))
  clear hb2 e1 HSp
  go_wp2_with fail
  refine HMa.out.mono ?_
  rintro e w3 ⟨rfl, hb3⟩
  have HB3 := Lib.hid (HB2.out.trans (hb3.mono HB2.out.size))
  have e1 := (HB3.out.block _ (lt_of_some HC1.out)).trans HC1.out
  have c1 : w3.cell? ⟨w.heap.size, 1, none⟩ = some (.string s) := cell_of_blk e1 1
  clear hb3 HMa c0
  rcases hmay : mayB T with _ | _
  · rw [mayI_no hmay]
    have HF := Lib.hid (HB1.out.trans (HB3.out.mono HB1.out.size))
    clear e1 hmay
    go_wp2_with fail
    go_ret
    exact ⟨rfl, HF.out⟩
  rw [mayI_yes hmay]
  have HMay := Lib.hid hmay
  have hT8 := mayB_len hmay
  clear hmay
  by_cases hn : 1100 < s.size
  · have g : (1100 : Int) < (s.size : Int) := by omega
    have HF := Lib.hid (HB1.out.trans (HB3.out.mono HB1.out.size))
    clear e1
    go_wp2_with fail
    go_ret
    exact ⟨rfl, HF.out⟩
  have g : ¬ (1100 : Int) < (s.size : Int) := by omega
  have c0 : w3.cell? ⟨w.heap.size, 0, none⟩ = some (.slice A T.length c) := cell_of_blk e1 0
  have HSt := Lib.hid (stack_any A c T rs m w3 (HT.out.later HB3.out) (below_cell HM.out HB3.out))
  clear e1
  go_wp2_with fail
  refine HSt.out.mono ?_
  rintro e w4 ⟨hst, hb4⟩
  rcases hst with ⟨_, A', c', L, rfl, hok⟩ | ⟨hno, _⟩
  rotate_left 1
  · rw [HMay.out] at hno; cases hno
  obtain ⟨W5, hW5⟩ : ∃ W5, W5 = w4.alloc (.cells #[.slice A' T.length c', .int .i64 (T.length : Int)] 29) := ⟨_, rfl⟩
  have hb5 : Below w4.heap.size w4 W5 := by rw [hW5]; exact (Below.refl _ _).alloc (Nat.le_refl _) _
  have HK := Lib.hid (show W5.heap[w4.heap.size]? = some (.cells #[.slice A' T.length c', .int .i64 (T.length : Int)] 29 (0, 0)) by rw [hW5]; exact heap_alloc_new w4 _)
  have hb15 : Below W1.heap.size W1 W5 := HB3.out.trans ((hb4.trans (hb5.mono hb4.size)).mono HB3.out.size)
  have HB5 := Lib.hid hb15
  obtain ⟨R, hR⟩ : ∃ R, R = T.reverse := ⟨_, rfl⟩
  have hstM := StkOk.stkM (hok.later hb5)
  have hlen := hok.len
  have hfine := (fine_of HT.out HMay.out).rev
  rw [← hR] at hstM hfine
  have hRl : R.length = T.length := by rw [hR, List.length_reverse]
  have hdeep : ∀ d ∈ R, depth d < 100 := fun d hd => by have := hfine.deep d hd; omega
  obtain ⟨O, hO⟩ := Goes.some (f := f) hfine.all s
  have HS5 := Lib.hid hstM
  have HLn := Lib.hid hlen
  have hwk := walk_any hfine.all hfine.dirs hdeep (by omega) A' c' (T.length : Int) L m s f O hO W5 hstM (below_cell HM.out hb15) (by omega)
  rw [hlen] at hwk
  unfold stkV at hwk
  have HWk := Lib.hid hwk
  have HFi := Lib.hid hfine
  have HO := Lib.hid hO
  have HRl := Lib.hid hRl
  have HR := Lib.hid hR
  have e1 := (hb15.block _ (lt_of_some HC1.out)).trans HC1.out
  have c1 : W5.cell? ⟨w.heap.size, 1, none⟩ = some (.string s) := cell_of_blk e1 1
  have c2 : W5.cell? ⟨w.heap.size, 2, none⟩ = some (.bool f) := cell_of_blk e1 2
  have k0 : W5.cell? ⟨w4.heap.size, 0, none⟩ = some (.slice A' T.length c') := cell_of_blk HK.out 0
  have k1 : W5.cell? ⟨w4.heap.size, 1, none⟩ = some (.int .i64 (T.length : Int)) := cell_of_blk HK.out 1
  have HW5 := Lib.hid hW5.symm
  clear hb4 hok hW5 hb5 hb15 hR hstM hlen hfine hRl hdeep hO hwk e1 HSt c0
  go_upto_region 8 with fail
  rw [HW5.out]
  go_wp2_with fail
  refine HWk.out.mono ?_
  rintro e w6 hwt
  have hb6 := hwt.2
  have hst6 := HS5.out.later hb6
  obtain ⟨St, Kt, lt, it, At, nt, ct, kt, rfl, hall⟩ := hwt.own HFi.out.all HO.out (by rw [HRl.out]; omega) HFi.out.dirs (fun d hd => by have := HFi.out.deep d hd; omega)
  obtain ⟨W7, hW7⟩ : ∃ W7, W7 = w6.alloc (.cells #[.string St, .int .i64 Kt, .int .i64 lt, .int .i64 it, .slice At nt ct] 39) := ⟨_, rfl⟩
  have hb7 : Below w6.heap.size w6 W7 := by rw [hW7]; exact (Below.refl _ _).alloc (Nat.le_refl _) _
  have HX7 := Lib.hid (show W7.heap[w6.heap.size]? = some (.cells #[.string St, .int .i64 Kt, .int .i64 lt, .int .i64 it, .slice At nt ct] 39 (0, 0)) by rw [hW7]; exact heap_alloc_new w6 _)
  have hb57 : Below W5.heap.size W5 W7 := hb6.trans (hb7.mono hb6.size)
  have HK7 := Lib.hid ((hb57.block _ (lt_of_some HK.out)).trans HK.out)
  have hb17 : Below W1.heap.size W1 W7 := HB5.out.trans (hb57.mono HB5.out.size)
  have HC7 := Lib.hid ((hb17.block _ (lt_of_some HC1.out)).trans HC1.out)
  have HAll := Lib.hid hall
  have HBt := Lib.hid (HB1.out.trans (hb17.mono HB1.out.size))
  have HS7 := Lib.hid (HS5.out.later hb57)
  have HM7 := Lib.hid (below_cell HM.out hb17)
  have HW7 := Lib.hid hW7.symm
  clear hwt hb6 hst6 hall hW7 hb7 hb57 hb17 HWk c1 c2 k0 k1 HW5
  go_upto_region 9 with fail
  rw [HW7.out]
  rcases HAll.out with hk0 | ⟨rfl, hSz, hown⟩
  · have g0 : (kt != 0) = true := by rw [bne_iff_ne]; exact hk0
    clear hk0
    go_wp2_with fail
    go_ret
    exact ⟨rfl, HBt.out⟩
  have HOwn := Lib.hid hown
  have x0 : W7.cell? ⟨w6.heap.size, 0, none⟩ = some (.string St) := cell_of_blk HX7.out 0
  obtain ⟨W9, hW9⟩ : ∃ W9, W9 = W7.alloc (.cells #[.string St, .string ((⟨#[46]⟩ : ByteArray) ++ St), .string ((⟨#[46, 46, 47, 46, 47, 47]⟩ : ByteArray) ++ St ++ (⟨#[47, 46]⟩ : ByteArray))] 9) := ⟨_, rfl⟩
  have hb9 : Below W7.heap.size W7 W9 := by rw [hW9]; exact (Below.refl _ _).alloc (Nat.le_refl _) _
  have hr9 : W9.heap[W7.heap.size]? = some (.cells #[.string St, .string ((⟨#[46]⟩ : ByteArray) ++ St), .string ((⟨#[46, 46, 47, 46, 47, 47]⟩ : ByteArray) ++ St ++ (⟨#[47, 46]⟩ : ByteArray))] 9 (0, 0)) := by rw [hW9]; exact heap_alloc_new W7 _
  have HB9 := Lib.hid hb9
  have HR9 := Lib.hid hr9
  have HW9 := Lib.hid hW9.symm
  clear hW9 hb9 hr9 hown
  go_wp2_with fail
  rw [HW9.out]
  go_loopw [53] (fun v wr => ∃ j : Nat, v = .int .i64 (j : Int) ∧ j ≤ 3 ∧ Hid (Below W9.heap.size W9 wr)) (fun v _ => 3 - (intOf v).toNat)
  case atStart => exact ⟨0, rfl, Nat.zero_le _, Lib.hid (Below.refl _ _)⟩
  case round =>
    obtain ⟨j, rfl, hj, HB⟩ := hrel
    have hbr := HB9.out.trans (HB.out.mono HB9.out.size)
    by_cases hlt : j < 3
    · obtain ⟨p, hp⟩ : ∃ p, [St, (⟨#[46]⟩ : ByteArray) ++ St, (⟨#[46, 46, 47, 46, 47, 47]⟩ : ByteArray) ++ St ++ (⟨#[47, 46]⟩ : ByteArray)][j]? = some p := ⟨_, List.getElem?_eq_getElem (by simpa using hlt)⟩
      have hr := (HB.out.block _ (lt_of_some HR9.out)).trans HR9.out
      have cj : wr.cell? ⟨W7.heap.size, j, none⟩ = some (.string p) := by
        rw [cell_of_blk hr j]
        have h3 : j = 0 ∨ j = 1 ∨ j = 2 := by omega
        rcases h3 with rfl | rfl | rfl
        · obtain rfl := Option.some.inj hp; rfl
        · obtain rfl := Option.some.inj hp; rfl
        · obtain rfl := Option.some.inj hp; rfl
      have hk := (hbr.block _ (lt_of_some HK7.out)).trans HK7.out
      have hx := (hbr.block _ (lt_of_some HX7.out)).trans HX7.out
      have s0 : wr.cell? ⟨w4.heap.size, 0, none⟩ = some (.slice A' T.length c') := cell_of_blk hk 0
      have s1 : wr.cell? ⟨w4.heap.size, 1, none⟩ = some (.int .i64 (T.length : Int)) := cell_of_blk hk 1
      obtain ⟨hpz, hcall⟩ := HOwn.out p (List.mem_of_getElem? hp)
      have hc1 := hcall A' c' (T.length : Int) m L wr (HS7.out.later hbr) (below_cell HM7.out hbr)
      rw [HLn.out] at hc1
      unfold stkV at hc1
      have HC := Lib.hid hc1
      have HBr := Lib.hid hbr
      have i0 : (0 : Int) ≤ (j : Int) := by omega
      have i1 : (j : Int) < 3 := by omega
      clear hp hr hk hcall hc1 hbr hx
      go_wp2_with fail
      refine HC.out.mono ?_
      rintro e v1 ⟨⟨S', K', l', i', Ax, nx, cx, kx, rfl, hgood⟩, hb1⟩
      obtain ⟨V2, hV2⟩ : ∃ V2, V2 = v1.alloc (.cells #[.string S', .int .i64 K', .int .i64 l', .int .i64 i', .slice Ax nx cx] 39) := ⟨_, rfl⟩
      have hb2 : Below v1.heap.size v1 V2 := by rw [hV2]; exact (Below.refl _ _).alloc (Nat.le_refl _) _
      have hn2 : V2.heap[v1.heap.size]? = some (.cells #[.string S', .int .i64 K', .int .i64 l', .int .i64 i', .slice Ax nx cx] 39 (0, 0)) := by rw [hV2]; exact heap_alloc_new v1 _
      have hb12 := hb1.trans (hb2.mono hb1.size)
      have hb72 := HBr.out.trans (hb12.mono HBr.out.size)
      have hx2 := (hb72.block _ (lt_of_some HX7.out)).trans HX7.out
      have HNext := Lib.hid (HB.out.trans (hb12.mono HB.out.size))
      have HV2 := Lib.hid hV2.symm
      by_cases hz : p.size ≤ 1024
      · obtain ⟨rfl, rfl, rfl, rfl, rfl, rfl⟩ := hgood hz
        have gz : (p.size : Int) ≤ 1024 := by omega
        have t0 := cell_of_blk hx2 0
        have t1 := cell_of_blk hx2 1
        have t2 := cell_of_blk hx2 2
        have t3 := cell_of_blk hx2 3
        have t4 := cell_of_blk hx2 4
        have u0 := cell_of_blk hn2 0
        have u1 := cell_of_blk hn2 1
        have u2 := cell_of_blk hn2 2
        have u3 := cell_of_blk hn2 3
        have u4 := cell_of_blk hn2 4
        clear s0 s1 cj hgood hb1 hb2 hb12 hb72 hV2 hx2 hn2 HC
        go_upto_region 15 with fail
        rw [HV2.out]
        go_wp2_with fail
        go_roundw
        case rel => exact ⟨j + 1, by go_num, by omega, HNext⟩
        case measure => simp [intOf]; omega
      · have gz : ¬ (p.size : Int) ≤ 1024 := by omega
        clear s0 s1 cj hgood hb1 hb2 hb12 hb72 hV2 hx2 hn2 HC
        go_upto_region 15 with fail
        rw [HV2.out]
        go_wp2_with fail
        go_roundw
        case rel => exact ⟨j + 1, by go_num, by omega, HNext⟩
        case measure => simp [intOf]; omega
    · have i1 : ¬ (j : Int) < 3 := by omega
      have HF := Lib.hid (HBt.out.trans (hbr.mono HBt.out.size))
      clear hbr
      go_wp2_with fail
      go_ret
      exact ⟨rfl, HF.out⟩
end Go.Proofs.YtnokmhoaaancgaaGreatDoor.wlk

namespace Go.Proofs.YtnokmhoaaancgaaGreatDoor.wlk
set_option maxRecDepth 100000
open Go.RowKit Go.Proofs.YtnokmhoaaancgaaGreatDoor.words Go.Proofs.YtnokmhoaaancgaaGreatDoor.ext Go.Proofs.YtnokmhoaaancgaaGreatDoor.name Go.Proofs.YtnokmhoaaancgaaGreatDoor.tre Go.Proofs.YtnokmhoaaancgaaGreatDoor.stk Go.Proofs.YtnokmhoaaancgaaGreatDoor.seen

def sb : ByteArray := ⟨#[47, 98]⟩
def ub : ByteArray := ⟨#[98, 47, 46, 46]⟩
def spT : Nd := dirN [ab, bb, cb] [linkN ab, textN seen.xb, linkN sb]
theorem sp_fine : ∀ t ∈ [spT], depth t ≤ 1000 ∧ (treeB t = true → countC t = (count t : Int) ∧ count t ≤ 4096) := fun t ht => by
  simp only [List.mem_cons, List.mem_nil_iff, or_false] at ht
  subst ht
  exact ⟨by decide +kernel, fun _ => ⟨by decide +kernel, by decide +kernel⟩⟩
theorem sp_right : ∀ t ∈ [spT], treeB t = true := fun t ht => by
  simp only [List.mem_cons, List.mem_nil_iff, or_false] at ht
  subst ht
  decide +kernel
theorem sp_all : ∀ t ∈ [spT], allB t = true := fun t ht => by
  simp only [List.mem_cons, List.mem_nil_iff, or_false] at ht
  subst ht
  decide +kernel
theorem sp_dirs : ∀ t ∈ [spT], t.K = 2 := fun t ht => by
  simp only [List.mem_cons, List.mem_nil_iff, or_false] at ht
  subst ht
  rfl
theorem sp_deep : ∀ t ∈ [spT], depth t < 100 := fun t ht => by
  simp only [List.mem_cons, List.mem_nil_iff, or_false] at ht
  subst ht
  decide +kernel
theorem sp_d0 : Along (D0 [spT]) [] [spT] := rfl
theorem ent_sa : EntN ab [spT] [linkN ab] := ⟨some (linkN ab), [], .inl ⟨0, linkN ab, rfl, rfl, rfl⟩, rfl, rfl⟩
theorem ent_sb : EntN bb [spT] [textN seen.xb] := ⟨some (textN seen.xb), [], .inl ⟨1, textN seen.xb, rfl, rfl, rfl⟩, rfl, rfl⟩
theorem ent_sc : EntN cb [spT] [linkN sb] := ⟨some (linkN sb), [], .inl ⟨2, linkN sb, rfl, rfl, rfl⟩, rfl, rfl⟩
theorem ab_dd : ab ≠ dd := by decide
theorem bb_dd : bb ≠ dd := by decide
theorem cb_dd : cb ≠ dd := by decide
theorem lead_a : ∀ h : Nat, Leads [spT] true [] [ab] h (.err 4)
  | 0 => .loop (d := linkN ab) (S := []) ab_dd sp_d0 ent_sa rfl rfl (.inl rfl)
  | h + 1 => .hop (d := linkN ab) (S := []) (qs := [ab]) ab_dd sp_d0 ent_sa rfl rfl (.inl rfl) (by decide +kernel) (by
    rw [show ((linkN ab).T.data.toList.head? == some 47) = false from rfl]
    exact lead_a h)
theorem lead_b (h : Nat) : Leads [spT] true [] [bb] h (.ok [bb] [textN seen.xb]) :=
  .leaf (d := textN seen.xb) (S := []) bb_dd sp_d0 ent_sb rfl (by decide) (fun h => absurd h.1 (by decide))
theorem lead_c : Leads [spT] true [] [cb] 40 (.ok [bb] [textN seen.xb]) :=
  .hop (d := linkN sb) (S := []) (qs := [bb]) cb_dd sp_d0 ent_sc rfl rfl (.inl rfl) (by decide +kernel) (by
    rw [show ((linkN sb).T.data.toList.head? == some 47) = true from rfl]
    exact lead_b 39)
theorem lead_u : Leads [spT] true [] [bb, dd] 40 (.err 3) :=
  .not (d := textN seen.xb) (S := []) bb_dd sp_d0 ent_sb rfl (by decide) (fun h => absurd h.1 (by decide)) (by decide)
theorem goes_a : Goes [spT] true ab (.err 4) := .inr ⟨[ab], by decide +kernel, lead_a 40⟩
theorem goes_c : Goes [spT] true cb (.ok [bb] [textN seen.xb]) := .inr ⟨[cb], by decide +kernel, lead_c⟩
theorem goes_u : Goes [spT] true ub (.err 3) := .inr ⟨[bb, dd], by decide +kernel, lead_u⟩
theorem walked_err {R : List Nd} {k : Int} {w w' : World} {e : Ending} (H : WalkedTo R (.err k) w e w') : e = .returned (.tuple #[.agg #[.string ⟨#[]⟩, .int .i64 0, .int .i64 0, .int .i64 0, .slice none 0 0], .int .i64 k]) ∧ Below w.heap.size w w' := by
  obtain ⟨⟨k', h1, _, _, _, rfl⟩ | ⟨t, A, c, ns, E, h1, _⟩, hb⟩ := H
  · injection h1 with h1
    subst h1
    exact ⟨rfl, hb⟩
  · cases h1
theorem walked_c {w w' : World} {e : Ending} (H : WalkedTo [spT] (.ok [bb] [textN seen.xb]) w e w') : (∃ (S : ByteArray) (l i : Int) (A : Option Addr) (n c : Nat), e = .returned (.tuple #[.agg #[.string S, .int .i64 1, .int .i64 l, .int .i64 i, .slice A n c], .int .i64 0]) ∧ (S.toList == [47, 98]) = true) ∧ Below w.heap.size w w' := by
  obtain ⟨⟨k', h1, _⟩ | ⟨t, A, c, ns, E, h1, rfl, _, _, _, hH, hS, _⟩, hb⟩ := H
  · cases h1
  · injection h1 with h1 h2
    subst h1
    subst h2
    have hK : t.K = 1 := by
      rcases hH with ⟨h3, _⟩ | ⟨_, _, d, h3, _, _, h4, _⟩
      · exact absurd (h3 (textN seen.xb) (List.mem_cons_self ..)) (by decide)
      · injection h3 with h3 _
        rw [h4, ← h3]
        rfl
    refine ⟨⟨t.S, t.l, t.i, A, t.Q.length, c, by unfold tgV; rw [hK], ?_⟩, hb⟩
    rw [hS, ByteArray.toList_eq]
    rfl
theorem trees_1 {w W : World} {x : Nd} {rx : Raw} (hW : W = w.alloc (.cells (rawCells x rx) 94)) (hx : NdAt w w.heap.size x rx) : Trees W W.heap.size (some ⟨w.heap.size, 0, none⟩) [x] (fun _ => rx) := by
  have hb : Below w.heap.size w W := by rw [hW]; exact (Below.refl _ _).alloc (Nat.le_refl _) _
  have hk : W.heap[w.heap.size]? = some (.cells (rawCells x rx) 94 (0, 0)) := by rw [hW]; exact heap_alloc_new w _
  intro i z hz
  rcases i with _ | i
  · obtain rfl : x = z := by simpa using hz
    refine ⟨⟨_, 0, rfl, lt_of_some hk, fun j v hj => ?_⟩, hx.later hb⟩
    rw [cell_of_blk hk, show 0 + 0 * 7 + j = j by omega]
    exact hj
  · simp at hz
def pick3 (rx ry rz : Raw) : Nat → Raw
  | 0 => rx
  | 1 => ry
  | _ + 2 => rz
theorem three_dir (a b c : ByteArray) (x y z : Nd) (rx ry rz : Raw) (t : Nat) (w3 W4 : World) (hW4 : W4 = w3.alloc (.cells ((rawCells x rx).toList ++ ((rawCells y ry).toList ++ ((rawCells z rz).toList ++ []))).toArray 94)) (hT : Txts W4 W4.heap.size (some ⟨t, 0, none⟩) [a, b, c])
    (hx : NdAt w3 w3.heap.size x rx) (hy : NdAt w3 w3.heap.size y ry) (hz : NdAt w3 w3.heap.size z rz) :
    Calls Tryz.prog 41 #[.slice (some ⟨t, 0, none⟩) 3 3, .slice (some ⟨w3.heap.size, 0, none⟩) 3 3] W4 (Built (dirN [a, b, c] [x, y, z]) W4) := by
  have hb : Below w3.heap.size w3 W4 := by rw [hW4]; exact (Below.refl _ _).alloc (Nat.le_refl _) _
  have hblk : W4.heap[w3.heap.size]? = some (.cells ((rawCells x rx).toList ++ ((rawCells y ry).toList ++ ((rawCells z rz).toList ++ []))).toArray 94 (0, 0)) := by rw [hW4]; exact heap_alloc_new w3 _
  refine dir_any (some ⟨t, 0, none⟩) (some ⟨w3.heap.size, 0, none⟩) 3 3 [a, b, c] [x, y, z] (pick3 rx ry rz) W4 hT (fun j u hu => ?_) (fun i v hv => ?_) (show 3 * 16 ≤ 140737488355328 by decide) (show 3 * 112 ≤ 140737488355328 by decide) (fun h => by cases h) (fun h => by cases h)
  · refine ⟨w3.heap.size, 0, rfl, lt_of_some hblk, ?_⟩
    rw [Nat.zero_add]
    have hu' : ((rawCells x rx).toList ++ ((rawCells y ry).toList ++ ((rawCells z rz).toList ++ [])))[j]? = some u := hu
    unfold World.cell?
    rw [hblk]
    simpa using hu'
  · have hlt := (List.getElem?_eq_some_iff.1 hv).1
    have : i = 0 ∨ i = 1 ∨ i = 2 := by simp at hlt; omega
    rcases this with rfl | rfl | rfl
    · obtain rfl : x = v := by simpa using hv
      exact hx.later hb
    · obtain rfl : y = v := by simpa using hv
      exact hy.later hb
    · obtain rfl : z = v := by simpa using hv
      exact hz.later hb
theorem txts_three (w : World) (a b c : ByteArray) (ha : a.size ≤ 140737488355328) (hb : b.size ≤ 140737488355328) (hc : c.size ≤ 140737488355328) :
    Txts (w.alloc (.cells #[.string a, .string b, .string c] 9)) (w.alloc (.cells #[.string a, .string b, .string c] 9)).heap.size (some ⟨w.heap.size, 0, none⟩) [a, b, c] := fun i x hx => by
  have hlt := (List.getElem?_eq_some_iff.1 hx).1
  have : i = 0 ∨ i = 1 ∨ i = 2 := by simp at hlt; omega
  rcases this with rfl | rfl | rfl
  · obtain rfl : a = x := by simpa using hx
    exact ⟨⟨w.heap.size, 0, rfl, by simp, by simp⟩, ha⟩
  · obtain rfl : b = x := by simpa using hx
    exact ⟨⟨w.heap.size, 0, rfl, by simp, by simp⟩, hb⟩
  · obtain rfl : c = x := by simpa using hx
    exact ⟨⟨w.heap.size, 0, rfl, by simp, by simp⟩, hc⟩
def lnV (t : ByteArray) (r : Raw) : Value := .agg #[.int .i64 3, .bool false, .slice r.An 0 r.cn, .slice r.Ai 0 r.ci, .int .i64 0, .slice r.Ae 0 r.ce, .string t]
theorem ln_v (t : ByteArray) (r : Raw) : ndV (linkN t) r = lnV t r := rfl
def spV (r : Raw) : Value := .agg #[.int .i64 2, .bool false, .slice r.An 3 r.cn, .slice r.Ai 3 r.ci, .int .i64 0, .slice r.Ae 0 r.ce, .string ⟨#[]⟩]
theorem sp_v (r : Raw) : ndV spT r = spV r := rfl
/-- The stack, in memory. -/
structure SpM (w : World) (A : Option Addr) (c : Nat) (g : Nat) (L : List (Nat × Int)) : Prop where
  stk : StkM w A L (tabs [spT])
  len : L.length = 1
  box : w.heap[g]? = some (.cells #[.slice A 1 c, .int .i64 1] 29 (0, 0))
theorem SpM.later {w w' : World} {A : Option Addr} {c g : Nat} {L : List (Nat × Int)} (h : SpM w A c g L) (hb : Below w.heap.size w w') : SpM w' A c g L :=
  ⟨h.stk.later hb, h.len, (hb.block _ (lt_of_some h.box)).trans h.box⟩
theorem sp_walk {s : ByteArray} {O : AtO} (hO : Goes [spT] true s O) (hs : s.size ≤ 1000000) (m : Int) (A : Option Addr) (c g : Nat) (L : List (Nat × Int)) (w : World) (hm : w.cell? ⟨0, 0, none⟩ = some (.int .i64 m)) (h : SpM w A c g L) :
    Calls Tryz.prog 13 #[.agg #[.slice A 1 c, .int .i64 1], .string s, .bool true] w (WalkedTo [spT] O w) := by
  have h1 := walk_any sp_all sp_dirs sp_deep (by decide) A c 1 L m s true O hO w h.stk hm hs
  rw [h.len] at h1
  exact h1
set_option maxHeartbeats 12800000 in
theorem wspeaks_any (m : Int) (w : World) (hm : w.cell? ⟨0, 0, none⟩ = some (.int .i64 m)) : Calls Tryz.prog 10 #[] w fun e w' => e = .returned (.bool true) ∧ Below w.heap.size w w' := by
  have HM := Lib.hid hm
  clear hm
  obtain ⟨W1, hW1⟩ : ∃ W1, W1 = w.alloc (.cells #[.string ab, .string bb, .string cb] 9) := ⟨_, rfl⟩
  have hb1 : Below w.heap.size w W1 := by rw [hW1]; exact (Below.refl _ _).alloc (Nat.le_refl _) _
  have hT1 : Txts W1 W1.heap.size (some ⟨w.heap.size, 0, none⟩) [ab, bb, cb] := by rw [hW1]; exact txts_three w ab bb cb (by decide) (by decide) (by decide)
  have HT1 := Lib.hid hT1
  have HB1 := Lib.hid hb1
  have hW1' : W1 = w.alloc (.cells #[.string ⟨#[97]⟩, .string ⟨#[98]⟩, .string ⟨#[99]⟩] 9) := hW1
  have HW1 := Lib.hid hW1'
  clear hW1 hW1' hb1 hT1
  go_enter Tryz.func10, Tryz.ntmps10
  go_wp2_with fail
  rw [← HW1.out]
  refine (show Calls Tryz.prog 42 #[.string ⟨#[97]⟩] W1 _ from ((link_any ab W1 (by decide)).mono fun _ _ h => h.as (ln_v ab))).mono ?_
  rintro e w2 ⟨r2, rfl, hn2, hb2⟩
  have HN2 := Lib.hid hn2
  have HB2 := Lib.hid hb2
  clear hn2 hb2 HW1
  unfold lnV
  go_wp2_with fail
  refine (show Calls Tryz.prog 43 #[.string ⟨#[120]⟩] w2 _ from ((text_any seen.xb w2 (by decide)).mono fun _ _ h => h.as seen.xb_v)).mono ?_
  rintro e w3 ⟨r3, rfl, hn3, hb3⟩
  have HN3 := Lib.hid hn3
  have HB3 := Lib.hid hb3
  clear hn3 hb3
  unfold x1V
  go_wp2_with fail
  refine (show Calls Tryz.prog 42 #[.string ⟨#[47, 98]⟩] w3 _ from ((link_any sb w3 (by decide)).mono fun _ _ h => h.as (ln_v sb))).mono ?_
  rintro e w4 ⟨r4, rfl, hn4, hb4⟩
  obtain ⟨W5, hW5⟩ : ∃ W5, W5 = w4.alloc (.cells ((rawCells (linkN ab) r2).toList ++ ((rawCells (textN seen.xb) r3).toList ++ ((rawCells (linkN sb) r4).toList ++ []))).toArray 94) := ⟨_, rfl⟩
  have hb5 : Below w4.heap.size w4 W5 := by rw [hW5]; exact (Below.refl _ _).alloc (Nat.le_refl _) _
  have hb14 : Below W1.heap.size W1 w4 := HB2.out.trans ((HB3.out.trans (hb4.mono HB3.out.size)).mono HB2.out.size)
  have hb15 : Below W1.heap.size W1 W5 := hb14.trans (hb5.mono hb14.size)
  have HP5 := Lib.hid (three_dir ab bb cb (linkN ab) (textN seen.xb) (linkN sb) r2 r3 r4 w.heap.size w4 W5 hW5 ((HT1.out.keep hb15).more hb15.size) (HN2.out.later (HB3.out.trans (hb4.mono HB3.out.size))) (HN3.out.later hb4) hn4)
  have HB5 := Lib.hid (HB1.out.trans (hb15.mono HB1.out.size))
  have hW5' := hW5
  rw [xb_cells] at hW5'
  have hW5'' : W5 = w4.alloc (.cells #[.int .i64 3, .bool false, .slice r2.An 0 r2.cn, .slice r2.Ai 0 r2.ci, .int .i64 0, .slice r2.Ae 0 r2.ce, .string ab, .int .i64 1, .bool false, .slice r3.An 0 r3.cn, .slice r3.Ai 0 r3.ci, .int .i64 1, .slice r3.Ae 1 r3.ce, .string ⟨#[]⟩, .int .i64 3, .bool false, .slice r4.An 0 r4.cn, .slice r4.Ai 0 r4.ci, .int .i64 0, .slice r4.Ae 0 r4.ce, .string sb] 94) := hW5'
  have HW5 := Lib.hid hW5''
  clear hW5 hW5' hW5'' hb5 hb14 hb15 hn4 hb4 HT1 HN2 HB2 HN3 HB3 HB1
  unfold lnV
  go_wp2_with fail
  rw [← HW5.out]
  refine (HP5.out.mono fun _ _ h => h.as sp_v).mono ?_
  rintro e w6 ⟨r6, rfl, hn6, hb6⟩
  obtain ⟨W7, hW7⟩ : ∃ W7, W7 = w6.alloc (.cells (rawCells spT r6) 94) := ⟨_, rfl⟩
  have hb7 : Below w6.heap.size w6 W7 := by rw [hW7]; exact (Below.refl _ _).alloc (Nat.le_refl _) _
  have hb57 : Below W5.heap.size W5 W7 := hb6.trans (hb7.mono hb6.size)
  have HB7 := Lib.hid (HB5.out.trans (hb57.mono HB5.out.size))
  have hT7 := trees_1 hW7 hn6
  have HC := Lib.hid (show Calls Tryz.prog 40 #[.slice (some ⟨w6.heap.size, 0, none⟩) 1 1] W7 (OfOut [spT] W7) from stk.of_any _ 1 [spT] _ m W7 hT7 (below_cell HM.out HB7.out) sp_fine (by decide))
  have hW7' : W7 = w6.alloc (.cells #[.int .i64 2, .bool false, .slice r6.An 3 r6.cn, .slice r6.Ai 3 r6.ci, .int .i64 0, .slice r6.Ae 0 r6.ce, .string ⟨#[]⟩] 94) := hW7
  have HW7 := Lib.hid hW7'
  clear hn6 hb6 hb7 hb57 hT7 hW7 hW7' HP5 HB5 HW5
  unfold spV
  go_wp2_with fail
  rw [← HW7.out]
  refine HC.out.mono ?_
  rintro e w8 hof
  rcases hof with ⟨A, c, L, rfl, hok, _, _, hb8⟩ | ⟨er, _, hbad, _⟩
  rotate_left 1
  · exfalso
    rcases hbad with ⟨_, t, ht, hf⟩ | ⟨_, hlt⟩
    · rw [sp_right t ht] at hf; cases hf
    · exact absurd hlt (by decide)
  obtain ⟨W9, hW9⟩ : ∃ W9, W9 = w8.alloc (.cells #[.slice A 1 c, .int .i64 1] 29) := ⟨_, rfl⟩
  have hb9 : Below w8.heap.size w8 W9 := by rw [hW9]; exact (Below.refl _ _).alloc (Nat.le_refl _) _
  have hk9 : W9.heap[w8.heap.size]? = some (.cells #[.slice A 1 c, .int .i64 1] 29 (0, 0)) := by rw [hW9]; exact heap_alloc_new w8 _
  have HF := Lib.hid (show SpM W9 A c w8.heap.size L from ⟨StkOk.stkM (hok.later hb9), hok.len, hk9⟩)
  have HB9 := Lib.hid ((HB7.out.trans (hb8.mono HB7.out.size)).trans (hb9.mono (HB7.out.trans (hb8.mono HB7.out.size)).size))
  have HW9 := Lib.hid hW9
  have t : ([spT] : List Nd).length = 1 := rfl
  clear hok hb8 hb9 hk9 hW9 HC HW7 HB7
  unfold stkV
  go_upto_region 2 with fail
  rw [← HW9.out]
  clear HW9 t
  have s0 := cell_of_blk HF.out.box 0
  have s1 := cell_of_blk HF.out.box 1
  have HC := Lib.hid (show Calls Tryz.prog 44 #[.agg #[.slice A 1 c, .int .i64 1]] W9 fun e w' => e = .returned (.int .i64 1) ∧ Below W9.heap.size W9 w' from slen_any A 1 c 1 W9)
  go_wp2_with fail
  refine HC.out.mono ?_
  rintro e v1 ⟨rfl, hb⟩
  replace HF := Lib.hid (HF.out.later hb)
  replace HB9 := Lib.hid (HB9.out.trans (hb.mono HB9.out.size))
  clear HC hb s0 s1
  have s0 := cell_of_blk HF.out.box 0
  have s1 := cell_of_blk HF.out.box 1
  have HC := Lib.hid (show Calls Tryz.prog 13 #[.agg #[.slice A 1 c, .int .i64 1], .string ⟨#[97]⟩, .bool true] v1 (WalkedTo [spT] (.err 4) v1) from sp_walk goes_a (by decide) m A c _ L v1 (below_cell HM.out HB9.out) HF.out)
  go_wp2_with fail
  refine HC.out.mono ?_
  rintro e v2 hw2
  obtain ⟨rfl, hb⟩ := walked_err hw2
  obtain ⟨V3, hV3⟩ : ∃ V3, V3 = v2.alloc (.cells #[.string ⟨#[]⟩, .int .i64 0, .int .i64 0, .int .i64 0, .slice none 0 0] 39) := ⟨_, rfl⟩
  have hb3 : Below v2.heap.size v2 V3 := by rw [hV3]; exact (Below.refl _ _).alloc (Nat.le_refl _) _
  have hb23 := hb.trans (hb3.mono hb.size)
  replace HF := Lib.hid (HF.out.later hb23)
  replace HB9 := Lib.hid (HB9.out.trans (hb23.mono HB9.out.size))
  have HV3 := Lib.hid hV3
  clear HC hw2 hb s0 s1 hb3 hb23 hV3
  go_upto_region 5 with fail
  rw [← HV3.out]
  clear HV3
  have s0 := cell_of_blk HF.out.box 0
  have s1 := cell_of_blk HF.out.box 1
  have HC := Lib.hid (show Calls Tryz.prog 13 #[.agg #[.slice A 1 c, .int .i64 1], .string ⟨#[99]⟩, .bool true] V3 (WalkedTo [spT] (.ok [bb] [textN seen.xb]) V3) from sp_walk goes_c (by decide) m A c _ L V3 (below_cell HM.out HB9.out) HF.out)
  go_wp2_with fail
  refine HC.out.mono ?_
  rintro e v4 hw4
  obtain ⟨⟨S, lt, it, At, nt, ct, rfl, hS⟩, hb⟩ := walked_c hw4
  obtain ⟨V5, hV5⟩ : ∃ V5, V5 = v4.alloc (.cells #[.string S, .int .i64 1, .int .i64 lt, .int .i64 it, .slice At nt ct] 39) := ⟨_, rfl⟩
  have hb3 : Below v4.heap.size v4 V5 := by rw [hV5]; exact (Below.refl _ _).alloc (Nat.le_refl _) _
  have HX5 := Lib.hid (show V5.heap[v4.heap.size]? = some (.cells #[.string S, .int .i64 1, .int .i64 lt, .int .i64 it, .slice At nt ct] 39 (0, 0)) by rw [hV5]; exact heap_alloc_new v4 _)
  have hb23 := hb.trans (hb3.mono hb.size)
  replace HF := Lib.hid (HF.out.later hb23)
  replace HB9 := Lib.hid (HB9.out.trans (hb23.mono HB9.out.size))
  have HV5 := Lib.hid hV5
  clear HC hw4 hb s0 s1 hb3 hb23 hV5
  go_upto_region 6 with fail
  rw [← HV5.out]
  clear HV5
  have s0 := cell_of_blk HF.out.box 0
  have s1 := cell_of_blk HF.out.box 1
  have HC := Lib.hid (show Calls Tryz.prog 13 #[.agg #[.slice A 1 c, .int .i64 1], .string ⟨#[98, 47, 46, 46]⟩, .bool true] V5 (WalkedTo [spT] (.err 3) V5) from sp_walk goes_u (by decide) m A c _ L V5 (below_cell HM.out HB9.out) HF.out)
  go_wp2_with fail
  refine HC.out.mono ?_
  rintro e v6 hw6
  obtain ⟨rfl, hb⟩ := walked_err hw6
  obtain ⟨V7, hV7⟩ : ∃ V7, V7 = v6.alloc (.cells #[.string ⟨#[]⟩, .int .i64 0, .int .i64 0, .int .i64 0, .slice none 0 0] 39) := ⟨_, rfl⟩
  have hb3 : Below v6.heap.size v6 V7 := by rw [hV7]; exact (Below.refl _ _).alloc (Nat.le_refl _) _
  have hb23 := hb.trans (hb3.mono hb.size)
  have hx7 := (hb23.block _ (lt_of_some HX5.out)).trans HX5.out
  have t0 : V7.cell? ⟨v4.heap.size, 0, none⟩ = some (.string S) := cell_of_blk hx7 0
  have t1 : V7.cell? ⟨v4.heap.size, 1, none⟩ = some (.int .i64 1) := cell_of_blk hx7 1
  have HE := Lib.hid (HB9.out.trans (hb23.mono HB9.out.size))
  have HV7 := Lib.hid hV7
  clear HC hw6 hb s0 s1 hb3 hb23 hV7 hx7 HF HB9 HX5
  go_upto_region 7 with fail
  rw [← HV7.out]
  clear HV7
  go_wp2_with fail
  go_ret
  exact ⟨rfl, HE.out⟩
end Go.Proofs.YtnokmhoaaancgaaGreatDoor.wlk
