/- The second law of layer 9: rows that are merged in two parts, and then both of these, have the same names, each once. Condition: the rows lie in memory. -/
import Derived.Test.YtdibdbadoigfoaaHeapLaw
namespace Go.Proofs.Ytdibdbadoigfoaa.heap
set_option maxRecDepth 100000
open Go.RowKit Go.Proofs.Ytdibdbadoigfoaa.words
open scoped List

/-- The names of merged rows, as the law takes them: a row of texts of its own. -/
def NamesIn (w : World) (N : List ByteArray) (e : Ending) (w' : World) : Prop :=
  ∃ A c, e = .returned (.slice A N.length c) ∧ Row w' w'.heap.size A N ∧ N.length ≤ c ∧ c ≤ maxLen ∧ Below w.heap.size w w'
structure In5 (w : World) (F : List It) (k : Nat) (v : Value) (wr : World) : Prop where
  own : wr.ownsRow w.heap.size 9 1 v k ((F.take k).map fun x => Value.string x.1)
  below : Below w.heap.size w wr
theorem own_row {w : World} {B n : Nat} {A : Option Addr} {l c : Nat} {F : List It} (h : w.ownsRow B 9 1 (.slice A l c) n (F.map fun x => Value.string x.1)) : Row w w.heap.size A (F.map Prod.fst) := fun i s hs => by
  rw [List.getElem?_map] at hs
  obtain ⟨x, hx, rfl⟩ := Option.map_eq_some_iff.1 hs
  obtain ⟨b, c', e1, _, h3, _, _, h6, _⟩ := own_cell h (j := i) (u := .string x.1) (by rw [List.getElem?_map, hx]; rfl)
  injection e1 with e1
  exact ⟨b, 0, e1, h3, by rw [Nat.zero_add]; exact h6⟩
theorem own_cap {w : World} {B n e size : Nat} {A : Option Addr} {l c : Nat} {xs : List Value} (h : w.ownsRow B e size (.slice A l c) n xs) : l ≤ c ∧ c ≤ maxLen := by
  rcases h.2 with ⟨h0, _⟩ | ⟨g, cap, cur, hv, _, _, h1, h2, _⟩
  · injection h0 with _ e1 e2
    subst e1 e2
    exact ⟨Nat.le_refl _, Nat.zero_le _⟩
  · injection hv with _ e1 e2
    subst e1 e2
    exact ⟨h1, h2⟩
set_option maxHeartbeats 3200000 in
theorem names_any (A : Option Addr) (c : Nat) (out : List It) (w : World) (hI : Itms w w.heap.size A out) (hlen : out.length ≤ 1000000000) :
    Calls Try.prog 10 #[.slice A out.length c] w (NamesIn w ((firsts out).map Prod.fst)) := by
  obtain ⟨ii, hi', hw0, hw1, hw2⟩ := info_three infoStr
  have HC := Lib.hid (first_any A c out w hI hlen)
  have hfl := firsts_le out
  clear hI
  go_enter Try.func10, Try.ntmps10
  go_wp2_with fail
  refine HC.out.mono ?_
  rintro e w1 ⟨v1, rfl, hown1, hb1⟩
  obtain ⟨F, hF⟩ : ∃ F, F = firsts out := ⟨_, rfl⟩
  rw [← hF] at hown1 hfl
  have HFq := Lib.hid hF
  obtain ⟨A1, l1, c1, rfl⟩ := own_slice hown1
  have hl1 : l1 = F.length := own_len hown1
  subst hl1
  have HI := Lib.hid (own_itms hown1)
  have H5 : Hid (In5 w1 F 0 (.slice none 0 0) w1) := Lib.hid ⟨World.ownsRow_nil _ _ _ _, Below.refl _ _⟩
  have HB1 := Lib.hid hb1
  clear hown1 hb1 HC hF
  go_wp2_with fail
  go_loopw [9, 3] (fun v v3 wr => ∃ k : Nat, v = .int .i64 (k : Int) ∧ k ≤ F.length ∧ Hid (In5 w1 F k v3 wr)) (fun v _ _ => F.length - (intOf v).toNat)
  case atStart => exact ⟨0, rfl, Nat.zero_le _, H5⟩
  case round =>
    obtain ⟨k, rfl, hk, HR⟩ := hrel
    by_cases hlt : k < F.length
    · obtain ⟨x, hx⟩ : ∃ x, F[k]? = some x := ⟨_, List.getElem?_eq_getElem hlt⟩
      obtain ⟨b, off, hA, hb, c0, c1'⟩ := HI.out k x hx
      subst hA
      have d0 : wr.cell? ⟨b, off + k * 2, none⟩ = some (.string x.1) := (HR.out.below.cell (p := ⟨b, off + k * 2, none⟩) hb).trans c0
      have d1 : wr.cell? ⟨b, off + k * 2 + 1, none⟩ = some (.int .i64 (x.2 : Int)) := (HR.out.below.cell (p := ⟨b, off + k * 2 + 1, none⟩) hb).trans c1'
      have i0 : (0 : Int) ≤ (k : Int) := by omega
      have i1 : (k : Int) < (F.length : Int) := by omega
      obtain ⟨W1, hW1⟩ : ∃ W1, W1 = wr.alloc (.cells #[.string x.1, .int .i64 (x.2 : Int)] 32) := ⟨_, rfl⟩
      have hw1 : Below wr.heap.size wr W1 := by rw [hW1]; exact (Below.refl _ _).alloc (Nat.le_refl _) _
      have hbk : W1.heap[wr.heap.size]? = some (.cells #[.string x.1, .int .i64 (x.2 : Int)] 32 (0, 0)) := by rw [hW1]; exact heap_alloc_new wr _
      have e0 : W1.cell? ⟨wr.heap.size, 0, none⟩ = some (.string x.1) := cell_of_blk hbk 0
      have hbw := HR.out.below.trans (hw1.mono HR.out.below.size)
      have HO := Lib.hid ((Kept.of_below hw1 (fun _ => False) 0).own HR.out.own (by simp))
      have HX := Lib.hid hx
      have HW1 := Lib.hid hW1
      have HBW := Lib.hid hbw
      have HZ := Lib.hid (show w1.heap.size ≤ W1.heap.size from hbw.size)
      obtain ⟨A3, l3, c3, h3e⟩ := own_slice HR.out.own
      subst h3e
      have hl3 : l3 = k := own_len HR.out.own
      subst hl3
      clear hx hw1 hbk hbw hW1 c0 c1'
      go_upto_region 5 with fail
      rw [← HW1.out]
      go_wp2_with (at_builtin; refine wpList_append_lies _ rfl (.tmp 13) (.tmp 16) _ rfl w1.heap.size 9 ii _ 1 16 Try.underlying24 hi' hw0 hw1 hw2 rfl (by omega) _ _ _ rfl (HO.out.alloc _) ⟨W1.heap.size, 0, none⟩ 1 1 [.string x.1] rfl rfl (World.news_of_block (cs := #[.string x.1]) (t := 9) (fr := (0, 0)) (heap_alloc_new W1 _)) (by simp [Value.oneCell']) (by omega) (by simp only [maxLen]; omega) (by omega) (by have := HZ.out; simp at this ⊢; omega) (W1.heap.size + 1) (by simp) ?_; intro gg gc w5 hown5 hgrow5 hat5 hlt5)
      have HE : Hid (In5 w1 F (l3 + 1) (.slice (some ⟨gg, 0, none⟩) (l3 + 1) gc) w5) := Lib.hid ⟨by
        obtain ⟨hk', hxx⟩ := List.getElem?_eq_some_iff.1 HX.out
        rw [List.take_succ_eq_append_getElem hk', hxx, List.map_append]
        exact hown5, (HBW.out.alloc HBW.out.size _).trans (below_grown hgrow5 (HO.out.alloc _) (HBW.out.alloc HBW.out.size _).size)⟩
      clear hown5 hgrow5 hat5 hlt5
      go_wp2_with fail
      go_roundw
      case rel => exact ⟨l3 + 1, by go_num, by omega, HE⟩
      case measure => simp [intOf]; omega
    · obtain rfl : k = F.length := by omega
      obtain ⟨A3, l3, c3, h3e⟩ := own_slice HR.out.own
      subst h3e
      have hl3 : l3 = F.length := own_len HR.out.own
      subst hl3
      have hown := HR.out.own
      rw [List.take_length] at hown
      have HE : Hid (NamesIn w ((firsts out).map Prod.fst) (.returned (.slice A3 F.length c3)) wr) := by
        rw [← HFq.out]
        exact Lib.hid ⟨A3, c3, by rw [List.length_map], own_row hown, by rw [List.length_map]; exact (own_cap hown).1, (own_cap hown).2, HB1.out.trans (HR.out.below.mono HB1.out.size)⟩
      clear HR hown
      go_wp2_with fail
      go_ret
      exact HE.out

theorem Rws.take {w : World} {B : Nat} {A : Option Addr} {L : List (List ByteArray)} (h : Rws w B A L) (k : Nat) : Rws w B A (L.take k) := fun i l hl => h i l (by
  rw [List.getElem?_take] at hl
  split at hl
  · exact hl
  · cases hl)
theorem Rws.drop {w : World} {B b off : Nat} {L : List (List ByteArray)} (h : Rws w B (some ⟨b, off, none⟩) L) (k : Nat) : Rws w B (some ⟨b, off + k, none⟩) (L.drop k) := fun i l hl => by
  rw [List.getElem?_drop] at hl
  obtain ⟨b', off', Ai, ci, h1, h2, h3, h4⟩ := h (k + i) l hl
  injection h1 with h1
  injection h1 with e1 e2
  subst e1 e2
  exact ⟨_, _, Ai, ci, rfl, h2, by rw [Nat.add_assoc]; exact h3, h4⟩
theorem infoStrs : (Try.prog.info? 24).map (fun i => (i.zero, i.size, i.bytes)) = some (some (.slice none 0 0), 1, 24) := by kernel_rfl
theorem cut_rows_l (A : Option Addr) (n cap i : Nat) (h : i ≤ n) (wx : World) :
    (Instr.slice 22 (.slice A n cap) (some (.int .i64 (i : Int))) none none).run Try.prog wx = .ok (.slice (if cap = i then A else A.map (·.add (i * 1))) (n - i) (cap - i)) wx := by
  obtain ⟨i0, hi, hz0, hz1, hz2⟩ := info_three infoStrs
  have he : Try.prog.elem 22 = 24 := by kernel_rfl
  rw [run_slice_l (P := Try.prog) wx 22 A n cap (by kernel_rfl) .i64 (i : Int) (by omega) (by omega), he]
  simp [sizeOf, typeInfo, hi, hz1, Result.andThen, sliced]
theorem cut_rows_h (A : Option Addr) (n cap i : Nat) (h : i ≤ cap) (wx : World) :
    (Instr.slice 22 (.slice A n cap) none (some (.int .i64 (i : Int))) none).run Try.prog wx = .ok (.slice A i cap) wx := by
  obtain ⟨i0, hi, hz0, hz1, hz2⟩ := info_three infoStrs
  have he : Try.prog.elem 22 = 24 := by kernel_rfl
  rw [run_slice_h (P := Try.prog) wx 22 A n cap (by kernel_rfl) .i64 (i : Int) (by omega) (by omega), he]
  simp [sizeOf, typeInfo, hi, hz1, Result.andThen, sliced]
  rcases A with _ | A
  · intro _; rfl
  · simp [Addr.add]
set_option maxHeartbeats 12800000 in
theorem parts_walk (A : Option Addr) (c : Nat) (L : List (List ByteArray)) (x : Int) (w : World) (hL : Rws w w.heap.size A L) (hsm : ∀ l ∈ L, Sml l ∧ l.length ≤ 4611686018427387904) (hlm : L.length ≤ 4611686018427387904) (hLc : L.length ≤ c) (hx0 : 0 ≤ x) (hx1 : x ≤ 255) :
    Calls Try.prog 4 #[.slice A L.length c, .int .u8 x] w fun e w' => e = .returned (.bool true) ∧ Below w.heap.size w w' := by
  have HL := Lib.hid hL
  have HSm := Lib.hid hsm
  clear hL hsm
  go_enter Try.func4, Try.ntmps4
  go_wp2_with fail
  refine (speaks_any _).mono ?_
  rintro e w1 ⟨rfl, hb1⟩
  have HB1 := Lib.hid hb1
  clear hb1
  by_cases hn : 70 < L.length
  · have g : (70 : Int) < (L.length : Int) := by omega
    go_wp2_with fail
    go_ret
    exact ⟨rfl, HB1.out⟩
  · have g : ¬ (70 : Int) < (L.length : Int) := by omega
    go_wp2_with fail
    go_loopw [21] (fun v wr => ∃ k : Nat, v = .int .i64 (k : Int) ∧ k ≤ L.length ∧ Hid (Fine L k) ∧ Hid (Below w.heap.size w wr)) (fun v _ => L.length - (intOf v).toNat)
    case atStart => exact ⟨0, rfl, Nat.zero_le _, Lib.hid (fun _ _ h => absurd h (Nat.not_lt_zero _)), HB1⟩
    case round =>
      obtain ⟨k, rfl, hk, HFi, HB⟩ := hrel
      by_cases hlt : k < L.length
      · obtain ⟨l, hl⟩ : ∃ l, L[k]? = some l := ⟨_, List.getElem?_eq_getElem hlt⟩
        obtain ⟨bb, off, Ai, ci, hA, hB, c0, hrow, hci, hcm⟩ := HL.out k l hl
        subst hA
        have cw : wr.cell? ⟨bb, off + k, none⟩ = some (.slice Ai l.length ci) := (HB.out.cell (p := ⟨bb, off + k, none⟩) hB).trans c0
        have i0 : (0 : Int) ≤ (k : Int) := by omega
        have i1 : (k : Int) < (L.length : Int) := by omega
        have hsl := HSm.out l (List.mem_of_getElem? hl)
        by_cases h60 : 60 < l.length
        · have g2 : (60 : Int) < (l.length : Int) := by omega
          have g3 : decide (60 < l.length) = true := by simpa using h60
          go_wp2_with fail
          go_ret
          exact ⟨rfl, HB.out⟩
        · have g2 : ¬ (60 : Int) < (l.length : Int) := by omega
          have g3 : decide (60 < l.length) = false := by simpa using h60
          have HC := Lib.hid (rises_any Ai ci l wr ((hrow.keep HB.out).more HB.out.size) hsl.1 hsl.2)
          have Hl := Lib.hid hl
          clear hl hrow hsl
          go_wp2_with fail
          refine HC.out.mono ?_
          rintro e w2 ⟨⟨r, rfl, hr⟩, nq, hw2⟩
          have HB2 : Hid (Below w.heap.size w w2) := by rw [← hw2]; exact Lib.hid (below_drewN HB.out nq)
          clear hw2
          rcases r with _ | _
          · clear hr
            go_wp2_with fail
            go_ret
            exact ⟨rfl, HB2.out⟩
          · have HN := Lib.hid (HFi.out.next Hl.out (by omega) (hr.1 rfl))
            clear hr
            go_wp2_with fail
            go_roundw
            case rel => exact ⟨k + 1, by go_num, by omega, HN, HB2⟩
            case measure => simp [intOf]; omega
      · obtain rfl : k = L.length := by omega
        rename World => wo
        obtain ⟨hr, h60⟩ := HFi.out.all
        have htot : tot L ≤ 1000000000 := Nat.le_trans (tot_le h60) (by have := Nat.mul_le_mul_right 60 (show L.length ≤ 70 by omega); omega)
        have HR := Lib.hid (And.intro hr h60)
        have hn1 : (0 : Int) < (L.length : Int) + 1 := by omega
        have hn2 : (L.length : Int) ≤ 70 := by omega
        clear hr h60 htot HFi
        go_wp2_with fail
        obtain ⟨k, hk⟩ : ∃ k : Nat, (k : Int) = x % ((L.length : Int) + 1) := ⟨(x % ((L.length : Int) + 1)).toNat, Int.toNat_of_nonneg (Int.emod_nonneg _ (by omega))⟩
        have hkl : k ≤ L.length := by
          have := Int.emod_lt_of_pos x hn1
          omega
        rw [← hk]
        obtain ⟨A', hA'⟩ : ∃ A' : Option Addr, A' = if c = k then A else A.map (·.add (k * 1)) := ⟨_, rfl⟩
        have hs1 := cut_rows_h A L.length c k (by omega)
        have hs2 := cut_rows_l A L.length c k hkl
        rw [← hA'] at hs2
        have hR0 := HL.out.later HB.out
        have hRd : Rws wo wo.heap.size A' (L.drop k) := by
          rw [hA']
          by_cases hck : c = k
          · rw [List.drop_of_length_le (by omega)]
            exact fun i l hl => by simp at hl
          · rw [if_neg hck]
            rcases A with _ | ⟨b, off, sp⟩
            · intro i l hl
              rw [List.getElem?_drop] at hl
              obtain ⟨_, _, _, _, h1, _⟩ := hR0 (k + i) l hl
              cases h1
            · rcases Nat.lt_or_ge k L.length with hkL | hkL
              · obtain ⟨_, _, _, _, h1, _⟩ := hR0 k _ (List.getElem?_eq_getElem hkL)
                injection h1 with h1
                injection h1 with _ _ h1
                subst h1
                rw [Option.map_some, Nat.mul_one, show (⟨b, off, none⟩ : Addr).add k = ⟨b, off + k, none⟩ from add_plain b off k]
                exact hR0.drop k
              · rw [List.drop_of_length_le hkL]
                exact fun i l hl => by simp at hl
        have hpart : ∀ (M : List (List ByteArray)), (∀ l ∈ M, l ∈ L) → M.length ≤ L.length → (∀ l ∈ M, Ris l) ∧ M.length ≤ 10000 ∧ tot M ≤ 4200 := fun M hM hMl =>
          ⟨fun l hl => HR.out.1 l (hM l hl), by omega, Nat.le_trans (tot_le fun l hl => HR.out.2 l (hM l hl)) (by have := Nat.mul_le_mul_right 60 (show M.length ≤ 70 by omega); omega)⟩
        have hM : ∀ (A1 : Option Addr) (c1 : Nat) (M : List (List ByteArray)) (w' : World), Rws w' w'.heap.size A1 M → (∀ l ∈ M, Ris l) → M.length ≤ 10000 → tot M ≤ 10000 → Below wo.heap.size wo w' →
            Calls Try.prog 7 #[.slice A1 M.length c1] w' fun e w'' => ∃ A2 c2 out, e = .returned (.slice A2 out.length c2) ∧ Itms w'' w''.heap.size A2 out ∧ Merged M out ∧ out.length ≤ 1000000000 ∧ Below wo.heap.size wo w'' ∧ Below w'.heap.size w' w'' :=
          fun A1 c1 M w' q1 q2 q3 q4 q5 => (merge_any A1 c1 M w' q1 q2 q3 (by omega)).mono fun e w'' ⟨v, out, e1, e2, e3, e4⟩ => by
            obtain ⟨A2, l2, c2, rfl⟩ := own_slice e2
            have hl2 : l2 = out.length := own_len e2
            subst hl2
            exact ⟨A2, c2, out, e1, own_itms e2, e3, by have := e3.1.length_eq; unfold tot at q4; omega, q5.trans (e4.mono q5.size), e4⟩
        have hN : ∀ (A1 : Option Addr) (c1 : Nat) (out : List It) (w' : World), Itms w' w'.heap.size A1 out → out.length ≤ 1000000000 → Below wo.heap.size wo w' →
            Calls Try.prog 10 #[.slice A1 out.length c1] w' fun e w'' => ∃ A2 c2, e = .returned (.slice A2 ((firsts out).map Prod.fst).length c2) ∧ Row w'' w''.heap.size A2 ((firsts out).map Prod.fst) ∧ ((firsts out).map Prod.fst).length ≤ c2 ∧ c2 ≤ maxLen ∧ Below wo.heap.size wo w'' ∧ Below w'.heap.size w' w'' :=
          fun A1 c1 out w' q1 q2 q3 => (names_any A1 c1 out w' q1 q2).mono fun e w'' ⟨A2, c2, e1, e2, e3, e4, e5⟩ => ⟨A2, c2, e1, e2, e3, e4, q3.trans (e5.mono q3.size), e5⟩
        obtain ⟨t1, t2, t3⟩ := hpart (L.take k) (fun l hl => List.mem_of_mem_take hl) (by rw [List.length_take]; omega)
        obtain ⟨d1, d2, d3⟩ := hpart (L.drop k) (fun l hl => List.mem_of_mem_drop hl) (by rw [List.length_drop]; omega)
        have hM1 : ∀ w', Below wo.heap.size wo w' → Calls Try.prog 7 #[.slice A k c] w' fun e w'' => ∃ A2 c2 out, e = .returned (.slice A2 out.length c2) ∧ Itms w'' w''.heap.size A2 out ∧ Merged (L.take k) out ∧ out.length ≤ 1000000000 ∧ Below wo.heap.size wo w'' ∧ Below w'.heap.size w' w'' := fun w' hb => by
          have := hM A c (L.take k) w' ((hR0.later hb).take k) t1 t2 (by omega) hb
          rwa [List.length_take, Nat.min_eq_left hkl] at this
        have hM2 : ∀ w', Below wo.heap.size wo w' → Calls Try.prog 7 #[.slice A' (L.length - k) (c - k)] w' fun e w'' => ∃ A2 c2 out, e = .returned (.slice A2 out.length c2) ∧ Itms w'' w''.heap.size A2 out ∧ Merged (L.drop k) out ∧ out.length ≤ 1000000000 ∧ Below wo.heap.size wo w'' ∧ Below w'.heap.size w' w'' := fun w' hb => by
          have := hM A' (c - k) (L.drop k) w' (hRd.later hb) d1 d2 (by omega) hb
          rwa [List.length_drop] at this
        have HM := Lib.hid hM
        have HM1 := Lib.hid hM1
        have HM2 := Lib.hid hM2
        have HN := Lib.hid hN
        have HB0 := Lib.hid (Below.refl wo.heap.size wo).drew
        have HRo := Lib.hid hR0
        clear hM hM1 hM2 hN hR0 hRd hpart t1 t2 t3 d1 d2 d3 hA' hk
        go_region_held3 (fun w' => Below wo.heap.size wo w')
          (first | assumption | exact HB0.out)
          (first
            | ((go_at_call 7; with_reducible refine (HM1.out _ (by first | assumption | exact HB0.out)).mono ?_); rintro e w2 ⟨A1, c1, o1, rfl, hI1, hm1, hl1, hb2, hc2⟩)
            | ((go_at_call 7; with_reducible refine (HM2.out _ (by first | assumption | exact HB0.out)).mono ?_); rintro e w4 ⟨A3, c3, o3, rfl, hI3, hm3, hl3, hb4, hc4⟩)
            | ((go_at_call 10; with_reducible refine (HN.out _ _ _ _ hI1 hl1 (by assumption)).mono ?_); rintro e w3 ⟨A2, c2, rfl, hr2, hl2, hm2, hb3, hc3⟩)
            | ((go_at_call 10; with_reducible refine (HN.out _ _ _ _ hI3 hl3 (by assumption)).mono ?_); rintro e w5 ⟨A4, c4, rfl, hr4, hl4, hm4, hb5, hc5⟩))
        obtain ⟨Na, hNa⟩ : ∃ Na, Na = (firsts o1).map Prod.fst := ⟨_, rfl⟩
        obtain ⟨Nb, hNb⟩ : ∃ Nb, Nb = (firsts o3).map Prod.fst := ⟨_, rfl⟩
        have hla : (firsts o1).length = Na.length := by rw [hNa, List.length_map]
        have hlb : (firsts o3).length = Nb.length := by rw [hNb, List.length_map]
        rw [← hNa] at hr2 hl2
        rw [← hNb] at hr4 hl4
        rw [hla, hlb]
        have hra : Row w5 w5.heap.size A2 Na := by
          have h45 := hc4.trans (hc5.mono hc4.size)
          exact (hr2.keep h45).more h45.size
        obtain ⟨W6, hW6⟩ : ∃ W6, W6 = w5.alloc (.cells #[.slice A2 Na.length c2, .slice A4 Nb.length c4] 24) := ⟨_, rfl⟩
        have hb6 : Below w5.heap.size w5 W6 := by rw [hW6]; exact (Below.refl _ _).alloc (Nat.le_refl _) _
        have hk6 : W6.heap[w5.heap.size]? = some (.cells #[.slice A2 Na.length c2, .slice A4 Nb.length c4] 24 (0, 0)) := by rw [hW6]; exact heap_alloc_new w5 _
        have hbo6 : Below wo.heap.size wo W6 := hb5.trans (hb6.mono hb5.size)
        have hR6 : Rws W6 W6.heap.size (some ⟨w5.heap.size, 0, none⟩) [Na, Nb] := fun i l hl => by
          have hlt6 := lt_of_some hk6
          rcases i with _ | _ | i
          · obtain rfl : Na = l := by simpa using hl
            exact ⟨_, _, A2, c2, rfl, hlt6, cell_of_blk hk6 0, (hra.keep hb6).more hb6.size, hl2, hm2⟩
          · obtain rfl : Nb = l := by simpa using hl
            exact ⟨_, _, A4, c4, rfl, hlt6, cell_of_blk hk6 1, (hr4.keep hb6).more hb6.size, hl4, hm4⟩
          · simp at hl
        have hna := hm1.names
        have hnb := hm3.names
        rw [← hNa] at hna
        rw [← hNb] at hnb
        have hbig : Na.length ≤ 4200 ∧ Nb.length ≤ 4200 := by
          have e1 := firsts_le o1
          have e2 := firsts_le o3
          have e3 := hm1.1.length_eq
          have e4 := hm3.1.length_eq
          have e5 := tot_le (L := L.take k) (m := 60) fun l hl => HR.out.2 l (List.mem_of_mem_take hl)
          have e6 := tot_le (L := L.drop k) (m := 60) fun l hl => HR.out.2 l (List.mem_of_mem_drop hl)
          rw [List.length_take] at e5
          rw [List.length_drop] at e6
          unfold tot at e5 e6
          have e7 : min k L.length * 60 ≤ 70 * 60 := Nat.mul_le_mul_right _ (by omega)
          have e8 : (L.length - k) * 60 ≤ 70 * 60 := Nat.mul_le_mul_right _ (by omega)
          omega
        have htot6 : tot [Na, Nb] ≤ 10000 := by
          have : tot [Na, Nb] = Na.length + Nb.length := by unfold tot allF; simp [remF]
          omega
        have HC6 := Lib.hid (HM.out _ 2 [Na, Nb] W6 hR6 (fun l hl => by
          simp only [List.mem_cons, List.mem_nil_iff, or_false] at hl
          rcases hl with rfl | rfl
          · exact hna.1
          · exact hnb.1) (by simp) htot6 hbo6)
        have HW6 := Lib.hid hW6
        have HB6 := Lib.hid hbo6
        have HM13 := Lib.hid (And.intro hm1 hm3)
        have HNab := Lib.hid (And.intro hNa hNb)
        clear hI1 hm1 hl1 hb2 hc2 hI3 hm3 hl3 hb4 hc4 hr2 hl2 hm2 hb3 hc3 hr4 hl4 hm4 hb5 hc5 hNa hNb hla hlb hra hW6 hb6 hk6 hbo6 hR6 hna hnb hbig htot6 HM1 HM2 hs1 hs2
        go_wp2_with fail
        rw [← HW6.out]
        refine HC6.out.mono ?_
        rintro e w7 ⟨A6, c6, o6, rfl, hI6, hm6, hl6, hb7, hc7⟩
        have HC7 := Lib.hid (HN.out A6 c6 o6 w7 hI6 hl6 hb7)
        have HM6 := Lib.hid hm6
        clear hI6 hm6 hl6 hb7 hc7 HC6 HW6
        go_wp2_with fail
        refine HC7.out.mono ?_
        rintro e w8 ⟨A7, c7, rfl, hr7, hl7, hm7, hb8, hc8⟩
        have HC8 := Lib.hid (HM.out A c L w8 (HRo.out.later hb8) HR.out.1 (by omega) (Nat.le_trans (tot_le HR.out.2) (by have := Nat.mul_le_mul_right 60 (show L.length ≤ 70 by omega); omega)) hb8)
        have HR7 := Lib.hid hr7
        clear hr7 hl7 hm7 hb8 hc8 HC7
        go_wp2_with fail
        refine HC8.out.mono ?_
        rintro e w9 ⟨A8, c8, o8, rfl, hI8, hm8, hl8, hb9, hc9⟩
        have HR79 := Lib.hid ((HR7.out.keep hc9).more hc9.size)
        have HC9 := Lib.hid (HN.out A8 c8 o8 w9 hI8 hl8 hb9)
        have hpp := Merged.parts (a := o1) (b := o3) k HM13.out.1 HM13.out.2 (one := o6) (by rw [← HNab.out.1, ← HNab.out.2]; exact HM6.out) hm8
        have HM8 := Lib.hid hm8
        have HPP := Lib.hid hpp
        have hl8' := firsts_le o8
        clear hI8 hm8 hb9 hc9 HC8 hpp HR7
        go_wp2_with fail
        refine HC9.out.mono ?_
        rintro e w10 ⟨A9, c9, rfl, hr9, hl9, hm9, hb10, hc10⟩
        obtain ⟨N, hN8⟩ : ∃ N, N = (firsts o8).map Prod.fst := ⟨_, rfl⟩
        rw [← hN8] at hr9 hl9
        rw [← hN8]
        have e6 : (firsts o6).length = N.length := by rw [hN8, ← HPP.out, List.length_map]
        try rw [e6]
        have hr7 := HR79.out
        rw [HPP.out, ← hN8] at hr7
        have hnm := HM8.out.names
        rw [← hN8] at hnm
        have hNl : N.length ≤ 1000000000 := by rw [hN8, List.length_map]; omega
        have HCr := Lib.hid (rises_any A9 c9 N w10 hr9 (fun s hs => by
          obtain ⟨l, h1, h2⟩ := (hnm.2 s).1 hs
          exact (HSm.out l h1).1 s h2) (by omega))
        have HR7 := Lib.hid ((hr7.keep hc10).more hc10.size)
        have HR9 := Lib.hid hr9
        have HRi := Lib.hid hnm.1
        have HB10 := Lib.hid hb10
        have gne : ((N.length : Int) != (N.length : Int)) = false := by simp
        clear hr7 hr9 hnm hb10 hc10 hl9 hm9 HC9 HR79 e6 hN8 HPP HM8
        go_wp2_with fail
        refine HCr.out.mono ?_
        rintro e w11 ⟨⟨r, rfl, hr⟩, nq, hw11⟩
        obtain rfl : r = true := hr.2 HRi.out
        subst hw11
        clear hr gne HCr
        go_wp2_with fail
        go_loopw [74] (fun v wr => ∃ i nd : Nat, v = .int .i64 (i : Int) ∧ i ≤ N.length ∧ wr = w10.drewN nd) (fun v _ => N.length - (intOf v).toNat)
        case atStart => exact ⟨0, _, rfl, Nat.zero_le _, rfl⟩
        case round =>
          obtain ⟨i, nd, rfl, hi, rfl⟩ := hrel
          by_cases hlt2 : i < N.length
          · obtain ⟨s, hs⟩ : ∃ s, N[i]? = some s := ⟨_, List.getElem?_eq_getElem hlt2⟩
            obtain ⟨b1, q1, hA1, _, p1⟩ := HR7.out i s hs
            obtain ⟨b2, q2, hA2, _, p2⟩ := HR9.out i s hs
            subst hA1 hA2
            have i0 : (0 : Int) ≤ (i : Int) := by omega
            have i1 : (i : Int) < (N.length : Int) := by omega
            have i2 : ((i : Int)).toNat = i := by omega
            have g1 : (s.toList != s.toList) = false := by simp
            clear hs
            go_wp2_with fail
            go_quiet (fail)
            go_wp2_with fail
            go_roundw
            case rel => exact ⟨i + 1, _, by go_num, by omega, rfl⟩
            case measure => simp [intOf]; omega
          · obtain rfl : i = N.length := by omega
            have HE : Hid (Below w.heap.size w (w10.drewN nd)) := Lib.hid (below_drewN (HB.out.trans (HB10.out.mono HB.out.size)) nd)
            go_wp2_with fail
            go_ret
            exact ⟨rfl, HE.out⟩
end Go.Proofs.Ytdibdbadoigfoaa.heap
