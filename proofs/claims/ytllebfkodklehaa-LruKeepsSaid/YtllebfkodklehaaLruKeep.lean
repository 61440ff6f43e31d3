/- LruKeeps: true. Condition: the keys lie in memory. -/
import Derived.Test.YtllebfkodklehaaLruOpsI
import Derived.Test.YtllebfkodklehaaLruArgs
import Derived.Maps.RangeWalk
import Derived.Carry
namespace Go.Proofs.Ytllebfkodklehaa.lrk
set_option maxRecDepth 100000
open Go.RowKit Go.Maps Go.Proofs.Ytllebfkodklehaa.words Go.Proofs.Ytllebfkodklehaa.lru Go.Proofs.Ytllebfkodklehaa.lri

abbrev Pi := Int × Int
theorem pig : ∀ (n : Nat) (L : List Pi), (L.map (·.1)).Nodup → (∀ p ∈ L, 0 ≤ p.1 ∧ p.1 < (n : Int)) → L.length ≤ n
  | 0, L, _, h => by
    rcases L with _ | ⟨p, L⟩
    · exact Nat.le_refl _
    · have := h p (List.mem_cons_self ..); omega
  | n + 1, L, nd, h => by
    have ih := pig n (rest L (n : Int)) (nd_rest _ nd) fun p hp => by
      have h1 := mem_rest.1 hp
      have h2 := h p h1.1
      have h3 := h1.2
      omega
    rcases there L (n : Int) with ⟨i, x, hi⟩ | hn
    · have := rest_at_len hi nd
      omega
    · rw [rest_none hn] at ih
      omega
theorem room_for {n : Nat} {L : List Pi} {x : Int} (nd : (L.map (·.1)).Nodup) (h : ∀ p ∈ L, 0 ≤ p.1 ∧ p.1 < (n : Int)) (hx : 0 ≤ x ∧ x < (n : Int)) (v : Int) : goneB L n x = false ∧ putL L n x v = (x, v) :: rest L x := by
  have hl := pig n ((x, v) :: rest L x) (nd_use x v nd) fun p hp => by
    rcases List.mem_cons.1 hp with rfl | hp
    · exact hx
    · exact h p (mem_rest.1 hp).1
  rw [List.length_cons] at hl
  have hg : goneB L n x = false := by simp [goneB]; omega
  refine ⟨hg, ?_⟩
  unfold putL
  rw [hg, if_neg (by simp)]
theorem val_put {n : Nat} {L : List Pi} {x v : Int} (h : Ok L n) : val (putL L n x v) x = some v := by
  unfold putL
  split
  · rename_i hg
    have hlt : n < (rest L x).length + 1 := by simpa [goneB] using hg
    rcases hr : rest L x with _ | ⟨a, T⟩
    · have := h.pos; rw [hr] at hlt; simp at hlt; omega
    · rw [List.dropLast_cons_of_ne_nil (by simp)]
      unfold val
      rw [List.find?_cons_of_pos (by simp)]
      rfl
  · unfold val
    rw [List.find?_cons_of_pos (by simp)]
    rfl
theorem mem_use' {L : List Pi} {k x : Int} (nd : (L.map (·.1)).Nodup) (h : (k, x) ∈ L) (p : Pi) (hp : p ∈ L) : p ∈ (k, x) :: rest L k := by
  rw [List.mem_cons, mem_rest]
  by_cases e : p.1 = k
  · left
    obtain ⟨a, b⟩ := p
    have e' : a = k := e
    subst e'
    obtain ⟨i, hi⟩ := List.mem_iff_getElem?.1 h
    obtain ⟨j, hj⟩ := List.mem_iff_getElem?.1 hp
    have := (val_at hi nd).symm.trans (val_at hj nd)
    injection this with this
    rw [this]
  · exact .inr ⟨hp, e⟩
/-- What the map holds is what the cache has. -/
def Agr (D : DataW Unit) (L : List Pi) : Prop := ∀ x c : Int, (∀ zd, D.atKey (.int .i64 x) zd = .lit (.int .i64 c)) → (x, c) ∈ L
theorem Agr.start : Agr (.map []) [] := fun x c h => by
  have h1 := h .nil
  have h2 : (DataW.map [] : DataW Unit).atKey (.int .i64 x) .nil = .nil := rfl
  rw [h2] at h1
  cases h1
theorem Agr.put {D : DataW Unit} {L : List Pi} (h : Agr D L) (hm : IsMap D) (x v : Int) : Agr (D.put (.int .i64 x) (.lit (.int .i64 v))) ((x, v) :: rest L x) := fun y c hy => by
  by_cases e : y = x
  · subst e
    have h1 := hy .nil
    rw [atKey_put_same hm (show WideAt.IsKeyLit (.int .i64 y) from trivial)] at h1
    injection h1 with h1
    injection h1 with _ h1
    rw [h1]
    exact List.mem_cons_self ..
  · have h1 : (y, c) ∈ L := h y c fun zd => by
      have := hy zd
      rwa [atKey_put_other (fun hc => e (by injection hc))] at this
    rw [List.mem_cons, mem_rest]
    exact .inr ⟨h1, e⟩
def NotCells (w : World) (k : Nat) : Prop := ∀ cs t f, w.heap[k]? ≠ some (.cells cs t f)
theorem lru_grown {w w' : World} {B g r k : Nat} {bo : Option Nat} {L : List Pi} (h : Lru w B g bo r L) (hg : w.grownBy w' (some k)) (hk : NotCells w k) : Lru w' B g bo r L := by
  refine h.tn (S := fun j => j = k) ⟨hg.os, hg.tape, hg.output, hg.size, fun j hj hn => hg.block j hj fun e => hn (by injection e)⟩ fun j hj e => ?_
  subst e
  obtain ⟨_, cs, t, f, h1, _⟩ := h.types j hj
  exact hk cs t f h1
section
variable {P : Program} {k : TypeId} {R : Value → Option (DataW Unit × List MemPlace)} {w w' : World} {b r n : Nat} {D : DataW Unit} {left : Lit → Bool} {cnt : Nat}
theorem owns_not (h : w.ownsMap P k R b n D) : NotCells w b := fun cs t f hc => by
  obtain ⟨es, clock, hb, _⟩ := h
  rw [hb] at hc
  cases hc
theorem ranges_not (h : w.ranges P k R b r n D left cnt) : NotCells w r := fun cs t f hc => by
  obtain ⟨es, clock, since, seen, c0, _, _, _, _, hr, _⟩ := h
  rw [hr] at hc
  cases hc
theorem owns_kept {S : TypeId → Prop} {B : Nat} (h : w.ownsMap P k R b n D) (hk : Kept S B w w') : w'.ownsMap P k R b n D := by
  have hlt := h.lt
  have hn := owns_not h
  obtain ⟨es, clock, hb, F, hs, hD⟩ := h
  exact ⟨es, clock, (hk.block b hlt (.inr fun cs t f hc => absurd hc (hn cs t f))).trans hb, F, hs, hD⟩
theorem ranges_kept {S : TypeId → Prop} {B : Nat} (h : w.ranges P k R b r n D left cnt) (hk : Kept S B w w') : w'.ranges P k R b r n D left cnt := by
  have h1 := h.owns.lt
  have h2 := h.lt
  have n1 := owns_not h.owns
  have n2 := ranges_not h
  obtain ⟨es, clock, since, seen, c0, hb, F, hs, hD, hr, rest⟩ := h
  exact ⟨es, clock, since, seen, c0, (hk.block b h1 (.inr fun cs t f hc => absurd hc (n1 cs t f))).trans hb, F, hs, hD, (hk.block r h2 (.inr fun cs t f hc => absurd hc (n2 cs t f))).trans hr, rest⟩
end
theorem left_below {w w' : World} {B g r : Nat} {bo : Option Nat} {L L' : List Pi} (h : lri.Left w B g r bo L' w') (hl : Lru w B g bo r L) (hB : B ≤ w.heap.size) : Below B w w' := h.tn.below (fun k hk => (hl.types k hk).1) hB
theorem law3 : Keyed Try.prog 3 := int_keyed Try.underlying3
theorem wf_big {x : Int} (h : lrs.big x) : (Lit.int .i64 x).wf = true := by
  unfold lrs.big at h
  simp [Lit.wf, IntKind.min, IntKind.max, IntKind.signed, IntKind.bits]
  omega
theorem mod_bounds (y : Int) (n : Nat) (h1 : 1 ≤ n) (h2 : n ≤ 20) : 0 ≤ (wrap64 (y.tmod (n : Int) + (n : Int))).tmod (n : Int) ∧ (wrap64 (y.tmod (n : Int) + (n : Int))).tmod (n : Int) < (n : Int) := by
  have b1 : y.tmod (n : Int) < (n : Int) := Int.tmod_lt_of_pos y (by omega)
  have b2 : -(n : Int) < y.tmod (n : Int) := by
    have := Int.tmod_lt_of_pos (-y) (show (0 : Int) < (n : Int) by omega)
    rw [Int.neg_tmod] at this
    omega
  have hw : wrap64 (y.tmod (n : Int) + (n : Int)) = y.tmod (n : Int) + (n : Int) := by
    unfold wrap64
    omega
  rw [hw]
  exact ⟨Int.tmod_nonneg _ (by omega), Int.tmod_lt_of_pos _ (by omega)⟩
/-- All that the law keeps. -/
structure InK (w : World) (g n : Nat) (L : List Pi) (wr : World) : Prop where
  lru : ∃ bo, Lru wr w.heap.size g bo n L
  ok : Ok L n
  rng : ∀ p ∈ L, 0 ≤ p.1 ∧ p.1 < (n : Int)
  below : Below w.heap.size w wr
theorem InK.grown {w wr w' : World} {g n k : Nat} {L : List Pi} (h : InK w g n L wr) (hg : wr.grownBy w' (some k)) (hk : NotCells wr k) (hwk : w.heap.size ≤ k) : InK w g n L w' := by
  obtain ⟨bo, hl⟩ := h.lru
  exact ⟨⟨bo, lru_grown hl hg hk⟩, h.ok, h.rng, h.below.trans ⟨hg.os, hg.tape, hg.output, hg.size, fun j hj => hg.block j (Nat.lt_of_lt_of_le hj h.below.size) fun e => by injection e; omega⟩⟩
theorem InK.new {w wr w' : World} {g n : Nat} {L : List Pi} (h : InK w g n L wr) (hg : wr.grownBy w' none) : InK w g n L w' := by
  obtain ⟨bo, hl⟩ := h.lru
  exact ⟨⟨bo, hl.quiet ⟨hg.os, hg.tape, hg.output, hg.size, fun j hj _ => hg.block j hj (by simp)⟩⟩, h.ok, h.rng, h.below.trans ⟨hg.os, hg.tape, hg.output, hg.size, fun j hj => hg.block j (Nat.lt_of_lt_of_le hj h.below.size) (by simp)⟩⟩
theorem InK.left {w wr w' : World} {g n : Nat} {bo : Option Nat} {L L' : List Pi} (h : InK w g n L wr) (hl : Lru wr w.heap.size g bo n L) (h' : lri.Left wr w.heap.size g n bo L' w') (hok : Ok L' n) (hr : ∀ p ∈ L', 0 ≤ p.1 ∧ p.1 < (n : Int)) : InK w g n L' w' := by
  obtain ⟨bo', h1, _⟩ := h'.ex
  exact ⟨⟨bo', h1⟩, hok, hr, h.below.trans (left_below h' hl h.below.size)⟩

set_option maxHeartbeats 12800000 in
theorem law_keeps (room : Nat) (A : Option Addr) (c : Nat) (T : List Int) (w : World) (hr : room ≤ 255) (hT : lrs.Ints w w.heap.size A T) (hlen : T.length ≤ 9223372036854775807) :
    Calls Try.prog 4 #[.int .u8 (room : Int), .slice A T.length c] w (lrs.Told w) := by
  have hmm := @run_makeMap Try.prog
  obtain ⟨n, hn⟩ : ∃ n, n = 1 + room % 20 := ⟨_, rfl⟩
  have n1 : 1 ≤ n := by omega
  have n2 : n ≤ 20 := by omega
  have hni : (n : Int) = 1 + (room : Int) % 20 := by omega
  have hmn : (n : Int) = max (n : Int) 1 := by omega
  have HT := Lib.hid hT
  have HC0 := Lib.hid (lrs.speaks_any w)
  have HNEW := Lib.hid (fun w => new_any n (n : Int) w hmn)
  have HNI := Lib.hid hni
  have k1 : IntKind.i64.wrap (room : Int) = (room : Int) := IntWalk.i64_in _ (by omega)
  have k2 : (0 : Int) ≤ (room : Int) := by omega
  have k3 : (0 : Int) ≤ (room : Int) % 20 := by omega
  have k4 : (room : Int) % 20 < 20 := by omega
  clear hT hn hni hmn
  go_enter Try.func4, Try.ntmps4
  go_wp2_with fail
  refine HC0.out.mono ?_
  rintro e w1 ⟨rfl, hb1⟩
  have HB1 := Lib.hid hb1
  clear hb1 HC0
  go_upto_region 4 with fail
  rw [← HNI.out]
  clear k1 k2 k3 k4
  by_cases h200 : T.length ≤ 200
  · have g200 : ¬ (200 : Int) < (T.length : Int) := by omega
    have g201 : ¬ 200 < T.length := by omega
    go_wp2_with fail
    refine (HNEW.out _).mono ?_
    rintro e w2 ⟨rfl, hw2⟩
    have hl2 := new_lru w1 w.heap.size n HB1.out.size
    rw [← hw2] at hl2
    have hb2 : Below w.heap.size w w2 := HB1.out.trans (by rw [hw2]; exact (Below.refl _ _).alloc HB1.out.size _)
    obtain ⟨g, hg⟩ : ∃ g, g = w1.heap.size := ⟨_, rfl⟩
    rw [← hg] at hl2 ⊢
    have hI : InK w g n [] w2 := ⟨⟨none, hl2⟩, Ok.new n1, fun p hp => (by cases hp), hb2⟩
    have hI2 := hI.new (World.grownBy_alloc w2 (.map #[] 0) none)
    have HM : Hid ((w2.alloc (.map #[] 0)).ownsMap Try.prog 3 (plainElem (H := Unit) Try.prog 3) w2.heap.size 0 (.map [])) := Lib.hid (World.ownsMap_made _ _ _ _)
    have HI := Lib.hid hI2
    have HW2 : Hid (w.heap.size ≤ w2.heap.size) := Lib.hid hb2.size
    clear hl2 hb2 hI hI2 hw2 hg HNEW
    obtain ⟨b, hb⟩ : ∃ b, b = w2.heap.size := ⟨_, rfl⟩
    rw [← hb] at HM HW2
    go_wp2_with fail
    rw [← hb]
    clear hb
    go_loopw [36] (fun v wr => ∃ (j : Nat) (L : List Pi) (D : DataW Unit), v = .int .i64 (j : Int) ∧ j ≤ T.length ∧ Hid (InK w g n L wr) ∧ Hid (wr.ownsMap Try.prog 3 (plainElem Try.prog 3) b j D) ∧ Hid (Agr D L)) (fun v _ => T.length - (intOf v).toNat)
    case atStart => exact ⟨0, [], .map [], rfl, Nat.zero_le _, HI, HM, Lib.hid Agr.start⟩
    case round =>
      clear HI HM
      obtain ⟨j, L, D, rfl, hj, HI, HM, HA⟩ := hrel
      have j0 : (0 : Int) ≤ (j : Int) := by omega
      by_cases hjl : j < T.length
      · obtain ⟨y, hy⟩ : ∃ y, T[j]? = some y := ⟨_, List.getElem?_eq_getElem hjl⟩
        obtain ⟨⟨bt, off, hA, _, cb⟩, hyb⟩ := (HT.out.keep HI.out.below) j y hy
        subst hA
        have j1 : (j : Int) < (T.length : Int) := by omega
        clear hy
        have hbd := mod_bounds y n n1 n2
        go_upto_region 12 with fail
        generalize (wrap64 (y.tmod (n : Int) + (n : Int))).tmod (n : Int) = x at hbd ⊢
        generalize wrap64 (y.tmod (n : Int) + (n : Int)) = x2
        generalize y.tmod (n : Int) = x3
        obtain ⟨bo, hlu⟩ := HI.out.lru
        have hrf := room_for HI.out.ok.nd HI.out.rng hbd ((j : Int) + 1)
        have hLn := HI.out.ok.len
        have hp := put_any w.heap.size g bo n L x ((j : Int) + 1) wr hlu HI.out.ok (by omega) HI.out.below.size
        unfold lri.PutIn at hp
        rw [hrf.1] at hp
        have HP := Lib.hid hp
        have HLU := Lib.hid hlu
        have HPU := Lib.hid hrf.2
        have HOK2 := Lib.hid (HI.out.ok.put x ((j : Int) + 1))
        have HA2 := Lib.hid (HA.out.put (by obtain ⟨es, clock, _, _, _, h⟩ := HM.out; exact ⟨_, h⟩) x ((j : Int) + 1))
        have HX := Lib.hid hbd
        have hwx : (Lit.int .i64 x).wf = true := wf_big ⟨by omega, by omega⟩
        have hwj : (Lit.int .i64 ((j : Int) + 1)).wf = true := wf_big ⟨by omega, by omega⟩
        have HKX := Lib.hid (keyOf_int_mk (P := Try.prog) Try.underlying3 hwx)
        have HPE := Lib.hid (plainElem_int (H := Unit) (P := Try.prog) Try.underlying3 hwj)
        clear hp hlu hrf hbd hwx hwj cb
        go_wp2_with fail
        refine HP.out.mono ?_
        rintro e w4 ⟨rfl, h4⟩
        have hk4 := h4.tn.kept HLU.out.types
        have HM4 := Lib.hid (owns_kept HM.out hk4)
        have hI4 : InK w g n ((x, (j : Int) + 1) :: rest L x) w4 := by
          have h := HI.out.left HLU.out h4 HOK2.out (by
            rw [HPU.out]
            intro p hp
            rcases List.mem_cons.1 hp with rfl | hp
            · exact HX.out
            · exact HI.out.rng p (mem_rest.1 hp).1)
          rw [HPU.out] at h
          exact h
        have HI4 := Lib.hid hI4
        clear h4 hk4 hI4 HP HLU HPU HOK2 HM HA HI
        go_wp2_with (at_mapUpdate; refine wpList_mapUpdate_own _ rfl _ _ _ 46 rfl 3 3 law3 Try.underlying46 _ b j _ rfl HM4.out (by unfold maxLen; omega) _ _ _ rfl rfl HKX.out _ [] HPE.out ?_; intro w5 hown5 hgrow5; have HI5 := Lib.hid (HI4.out.grown hgrow5 (owns_not HM4.out) HW2.out); have HM5 := Lib.hid hown5; clear hown5 hgrow5)
        go_roundw
        case rel => exact ⟨j + 1, _, _, by go_num, by omega, HI5, HM5, HA2⟩
        case measure => simp [intOf]; omega
      · obtain rfl : j = T.length := by omega
        have HW3 := Lib.hid HI.out.below.size
        obtain ⟨r, hr⟩ : ∃ r, r = wr.heap.size := ⟨_, rfl⟩
        have HR := Lib.hid hr
        clear hr
        go_wp2_with (at_range; refine wpList_range_own _ rfl _ 46 rfl 3 3 law3 Try.underlying46 _ b _ _ rfl HM.out ?_; intro w6 hrg6 hg6 hs6)
        go_frame
        have HI6 := Lib.hid (HI.out.new hg6)
        have HG6 := Lib.hid hrg6
        rw [← HR.out] at HG6 ⊢
        have HRW : Hid (w.heap.size ≤ r) := Lib.hid (by rw [HR.out]; exact HW3.out)
        clear hrg6 hg6 hs6 HI HM HR HW3
        go_loopw [64] (fun _ wr => ∃ (left : Lit → Bool) (cnt : Nat) (L : List Pi), Hid (wr.ranges Try.prog 3 (plainElem Try.prog 3) b r T.length D left cnt) ∧ Hid (InK w g n L wr) ∧ Hid (Agr D L)) (fun _ wr => wr.rangeLeft b r)
        case atStart => exact ⟨_, _, L, HG6, HI6, HA⟩
        case round =>
          clear HG6 HI6 HA
          obtain ⟨left, cnt, L, HG, HI, HA⟩ := hrel
          have hLn := HI.out.ok.len
          go_wp2_with (at_next; refine wpList_next_ranges_ii _ rfl _ rfl 3 3 .i64 .i64 law3 Try.underlying3 Try.underlying3 b r T.length _ _ _ rfl HG.out ?_ ?_)
          · intro hc0 hl0
            clear hc0 hl0 HG HA
            obtain ⟨bo, hlu⟩ := HI.out.lru
            have HCL := Lib.hid (len_any _ _ _ _ _ _ hlu)
            have hnot : goneB L n (n : Int) = decide (L.length = n) := by
              have hn : rest L (n : Int) = L := rest_none fun p hp he => by have := (HI.out.rng p hp).2; omega
              unfold goneB
              rw [hn]
              by_cases h : L.length = n
              · rw [decide_eq_true h, decide_eq_true (by omega)]
              · rw [decide_eq_false h, decide_eq_false (by omega)]
            have hp := put_any w.heap.size g bo n L (n : Int) 1 wr hlu HI.out.ok (by omega) HI.out.below.size
            unfold lri.PutIn at hp
            rw [hnot] at hp
            have HP := Lib.hid hp
            have HLU := Lib.hid hlu
            have HOK2 := Lib.hid (HI.out.ok.put (n : Int) 1)
            have HVP := Lib.hid (val_put (x := (n : Int)) (v := 1) HI.out.ok)
            have hfull : ((L.length : Int) == (n : Int)) = decide (L.length = n) := by
              by_cases h : L.length = n
              · rw [decide_eq_true h, h]; simp
              · rw [decide_eq_false h]; simp; omega
            obtain ⟨fb, hfb⟩ : ∃ fb, fb = decide (L.length = n) := ⟨_, rfl⟩
            rw [← hfb] at HP hfull
            have gf : (fb == fb) = true := by simp
            clear hp hlu hnot hfb
            go_wp2_with fail
            refine HCL.out.mono ?_
            rintro e wz ⟨rfl, rfl⟩
            go_wp2_with fail
            refine HP.out.mono ?_
            rintro e w7 ⟨rfl, h7⟩
            obtain ⟨bo7, hl7, _⟩ := h7.ex
            have hb7 := HI.out.below.trans (left_below h7 HLU.out HI.out.below.size)
            have hlen7 := HOK2.out.len
            have hg7 := get_any w.heap.size g bo7 n _ (n : Int) w7 hl7 HOK2.out (by omega)
            unfold lri.Got at hg7
            rw [show lri.gotB (putL L n (n : Int) 1) (n : Int) = true by unfold lri.gotB; rw [HVP.out]; rfl] at hg7
            have HGT := Lib.hid hg7
            have HB7 := Lib.hid hb7
            have HL7 := Lib.hid hl7
            clear h7 hl7 hb7 hg7 hlen7 HCL HP HLU
            go_wp2_with fail
            refine HGT.out.mono ?_
            rintro e w8 ⟨rfl, h8⟩
            obtain ⟨bo8, hl8, _⟩ := h8.ex
            have hok8 := HOK2.out.get (n : Int)
            have hlen8 := hok8.len
            have HC8 := Lib.hid (len_any _ _ _ _ _ _ hl8)
            have HB8 := Lib.hid (HB7.out.trans (left_below h8 HL7.out HB7.out.size))
            obtain ⟨ln, hln⟩ : ∃ ln, ln = (getL (putL L n (n : Int) 1) (n : Int)).length := ⟨_, rfl⟩
            rw [← hln] at hlen8 HC8
            have gl : (ln : Int) ≤ (n : Int) := by omega
            clear hl8 hok8 h8 hln HGT HL7 HB7
            go_wp2_with fail
            refine HC8.out.mono ?_
            rintro e w9 ⟨rfl, rfl⟩
            go_wp2_with fail
            go_ret
            exact ⟨rfl, HB8.out⟩
          · intro x v w7 cnt7 hwx hwc hlx hat hrg7 hlt7 hg7 hs7 hen
            have hI7 := HI.out.grown hg7 (ranges_not HG.out) HRW.out
            have hmem := HA.out x v hat
            obtain ⟨i, hi⟩ := List.mem_iff_getElem?.1 hmem
            obtain ⟨bo, hlu⟩ := hI7.lru
            obtain ⟨hv, hgl⟩ := got_at hI7.ok hi
            have hgt := get_any w.heap.size g bo n L x w7 hlu hI7.ok (by omega)
            unfold lri.Got at hgt
            rw [show lri.gotI L x = v by unfold lri.gotI; rw [hv]; rfl, show lri.gotB L x = true by unfold lri.gotB; rw [hv]; rfl] at hgt
            have HGT := Lib.hid hgt
            have HI7 := Lib.hid hI7
            have HLU := Lib.hid hlu
            have HG7 := Lib.hid hrg7
            have HLT := Lib.hid hlt7
            have hr := rest_at hi hI7.ok.nd
            rw [← hr] at hgl
            have HGL := Lib.hid hgl
            have HMM := Lib.hid (fun p hp => mem_use' hI7.ok.nd hmem p hp)
            have HX := Lib.hid (hI7.rng _ hmem)
            have gv : ((v : Int) != v) = false := by simp
            clear hwx hwc hlx hat hrg7 hlt7 hg7 hs7 hI7 hmem hi hlu hv hgl hgt hr
            go_wp2_with fail
            refine HGT.out.mono ?_
            rintro e w8 ⟨rfl, h8⟩
            have hk8 := h8.tn.kept HLU.out.types
            have HG8 := Lib.hid (ranges_kept HG7.out hk8)
            have hI8 : InK w g n ((x, v) :: rest L x) w8 := by
              have h := HI7.out.left HLU.out h8 (HI7.out.ok.get x) (by
                rw [HGL.out]
                intro p hp
                rcases List.mem_cons.1 hp with rfl | hp
                · exact HX.out
                · exact HI7.out.rng p (mem_rest.1 hp).1)
              rw [HGL.out] at h
              exact h
            have HI8 := Lib.hid hI8
            have HA8 : Hid (Agr D ((x, v) :: rest L x)) := Lib.hid fun y c hy => HMM.out _ (HA.out y c hy)
            clear h8 hk8 hI8 HGT HLU HGL HMM HX HI7 hen
            go_wp2_with fail
            go_roundw
            case rel => exact ⟨_, cnt7, _, HG8, HI8, HA8⟩
            case measure => rw [HG8.out.left_eq, HG.out.left_eq]; exact HLT.out
  · have g200 : (200 : Int) < (T.length : Int) := by omega
    have g201 : 200 < T.length := by omega
    have HB := Lib.hid HB1.out
    clear HNEW
    go_wp2_with fail
    go_ret
    exact ⟨rfl, HB.out⟩
end Go.Proofs.Ytllebfkodklehaa.lrk
