/- What call's answered and Show answer. Condition: at most a hundred names, each of at most a thousand bytes; a text of ten thousand bytes; numbers of 64 bits; what the listed variables hold. -/
import Derived.Test.YtblhicfllomdlaaDoorCalPage
namespace Go.Proofs.YtblhicfllomdlaaDoor.cal
set_option maxRecDepth 100000
open Go.RowKit Go.Proofs.YtblhicfllomdlaaDoor.words

def ansM (q k z h d : Int) (t : List UInt8) (N : List (List UInt8)) (en : Bool) : List (List UInt8) :=
  if q = 1 then [Lib.itoa k, Lib.itoa h] else if q = 2 then [Lib.itoa k, Lib.itoa z] else if q = 3 ∨ q = 4 then [hexL t] else if q = 5 ∨ q = 8 then [Lib.itoa d] else if q = 6 then pageM en N else []
def okL : List UInt8 := [111, 107]
def errL : List UInt8 := [101, 114, 114, 111, 114]
/-- What is answered, in words. -/
def showM (q e k z h d : Int) (t : List UInt8) (N : List (List UInt8)) (en : Bool) : List UInt8 := if e = 0 then joinM (okL :: ansM q k z h d t N en) else joinM [errL, Lib.itoa e]
structure ResFit (e k z h d : Int) (t : ByteArray) (N : List ByteArray) : Prop where
  e : I64 e
  k : I64 k
  z : I64 z
  h : I64 h
  d : I64 d
  t : t.size ≤ 10000
  N : Few N
def AnsOut (L : List (List UInt8)) (w : World) (e : Ending) (w' : World) : Prop :=
  (∃ (A : Option Addr) (c : Nat) (Q : List ByteArray), e = .returned (.slice A Q.length c) ∧ dataL Q = L ∧ Sl w' A Q ∧ (A = none → Q.length = 0 ∧ c = 0)) ∧ Below w.heap.size w w'
theorem RestOut.ans {L : List (List UInt8)} {w w' : World} {e : Ending} (h : RestOut L w e w') : AnsOut L w e w' := by
  obtain ⟨⟨b, c, Q, h1, h2, h3⟩, h4⟩ := h
  exact ⟨⟨_, _, Q, h1, h2, h3, fun h => by cases h⟩, h4⟩
set_option maxHeartbeats 6400000 in
theorem answered_any (m : Int) (q e k z h d : Int) (t : ByteArray) (A : Option Addr) (N : List ByteArray) (c : Nat) (en : Bool) (w : World) (hE : Env m w) (hN : Sl w A N) (hf : ResFit e k z h d t N) :
    Calls Tryd.prog 36 #[.int .i64 q, resV e k z h d t A N c en] w (AnsOut (ansM q k z h d t.data.toList (dataL N) en) w) := by
  obtain ⟨W1, hW1⟩ : ∃ W1, W1 = w.alloc (.cells #[.int .i64 e, .int .i64 k, .int .i64 z, .int .i64 h, .int .i64 d, .string t, .slice A N.length c, .bool en] 40) := ⟨_, rfl⟩
  have hb1 : Below w.heap.size w W1 := by rw [hW1]; exact (Below.refl _ _).alloc (Nat.le_refl _) _
  have hx : W1.heap[w.heap.size]? = some (resB e k z h d t A N c en) := by rw [hW1]; exact heap_alloc_new w _
  have HX := Lib.hid hx
  have HF := Lib.hid hf
  have HE := Lib.hid (hE.later hb1)
  have HS1 := Lib.hid (hN.later hb1)
  have HB1 := Lib.hid hb1
  have HW := Lib.hid hW1.symm
  unfold resB at hx
  have c0 : W1.cell? ⟨w.heap.size, 0, none⟩ = some (.int .i64 e) := cell_of_blk hx 0
  have c1 : W1.cell? ⟨w.heap.size, 1, none⟩ = some (.int .i64 k) := cell_of_blk hx 1
  have c2 : W1.cell? ⟨w.heap.size, 2, none⟩ = some (.int .i64 z) := cell_of_blk hx 2
  have c3 : W1.cell? ⟨w.heap.size, 3, none⟩ = some (.int .i64 h) := cell_of_blk hx 3
  have c4 : W1.cell? ⟨w.heap.size, 4, none⟩ = some (.int .i64 d) := cell_of_blk hx 4
  have c5 : W1.cell? ⟨w.heap.size, 5, none⟩ = some (.string t) := cell_of_blk hx 5
  have c6 : W1.cell? ⟨w.heap.size, 6, none⟩ = some (.slice A N.length c) := cell_of_blk hx 6
  have c7 : W1.cell? ⟨w.heap.size, 7, none⟩ = some (.bool en) := cell_of_blk hx 7
  clear hW1 hb1 hx hE hN hf
  unfold resV
  go_enter Tryd.func36, Tryd.ntmps36
  go_upto_region 1 with fail
  rw [HW.out]
  clear HW
  by_cases h1 : q = 1
  · subst h1
    have HS : Hid (∀ w' : World, Below W1.heap.size W1 w' → (w'.cell? ⟨w.heap.size, 1, none⟩ = some (.int .i64 k) ∧ w'.cell? ⟨w.heap.size, 3, none⟩ = some (.int .i64 h))) := Lib.hid fun w' hb => by
      have e1 := (hb.block _ (lt_of_some HX.out)).trans HX.out
      unfold resB at e1
      exact ⟨cell_of_blk e1 1, cell_of_blk e1 3⟩
    have HBv : Hid (Below W1.heap.size W1 W1.drew) := Lib.hid (Below.refl _ _).drew
    have HA : Hid (∀ w' : World, Below W1.heap.size W1 w' → Calls Tryd.prog 25 #[.int .i64 k] w' fun e w'' => (∃ r : ByteArray, e = .returned (.string r) ∧ r.data.toList = Lib.itoa k) ∧ Below W1.heap.size W1 w'') := Lib.hid fun w' hb => (itoa_any m k w' HF.out.k (HE.out.later hb)).mono fun e w'' ⟨h1, h2⟩ => ⟨h1, hb.trans (h2.mono hb.size)⟩
    have HBB : Hid (∀ w' : World, Below W1.heap.size W1 w' → Calls Tryd.prog 25 #[.int .i64 h] w' fun e w'' => (∃ r : ByteArray, e = .returned (.string r) ∧ r.data.toList = Lib.itoa h) ∧ Below W1.heap.size W1 w'') := Lib.hid fun w' hb => (itoa_any m h w' HF.out.h (HE.out.later hb)).mono fun e w'' ⟨h1, h2⟩ => ⟨h1, hb.trans (h2.mono hb.size)⟩
    go_upto_region 3 with fail
    refine wp_region_held_drew (S := fun w' => (w'.cell? ⟨w.heap.size, 1, none⟩ = some (.int .i64 k) ∧ w'.cell? ⟨w.heap.size, 3, none⟩ = some (.int .i64 h))) (by kernel_rfl) (HS.out _ HBv.out) (fun hHeld => ?_)
    refine wpAnyH_take (i := 0) (oi := ⟨some 8, _, _, _, _, _⟩) (v := ?_) rfl (by kernel_rfl) (by kernel_rfl) (by kernel_rfl) (fun _ _ _ h => h) (Or.inl ⟨by kernel_rfl, ?_⟩) (by assumption) ?_
    rotate_left 1
    focus (intro w' hSw; (try dsimp only at hSw); go_simp; (try with_reducible rfl))
    try simp only [Act.put, List.setIfInBounds_toArray, List.set_cons_zero, List.set_cons_succ]
    refine wpAnyH_take (i := 1) (oi := ⟨some 9, _, _, _, _, _⟩) (v := ?_) rfl (by kernel_rfl) (by kernel_rfl) (by kernel_rfl) (fun _ _ _ h => h) (Or.inl ⟨by kernel_rfl, ?_⟩) (by assumption) ?_
    rotate_left 1
    focus (intro w' hSw; (try dsimp only at hSw); go_simp; (try with_reducible rfl))
    try simp only [Act.put, List.setIfInBounds_toArray, List.set_cons_zero, List.set_cons_succ]
    refine wpAnyH_take (i := 3) (oi := ⟨some 11, _, _, _, _, _⟩) (v := ?_) rfl (by kernel_rfl) (by kernel_rfl) (by kernel_rfl) (fun _ _ _ h => h) (Or.inl ⟨by kernel_rfl, ?_⟩) (by assumption) ?_
    rotate_left 1
    focus (intro w' hSw; (try dsimp only at hSw); go_simp; (try with_reducible rfl))
    try simp only [Act.put, List.setIfInBounds_toArray, List.set_cons_zero, List.set_cons_succ]
    refine wpAnyH_take (i := 4) (oi := ⟨some 12, _, _, _, _, _⟩) (v := ?_) rfl (by kernel_rfl) (by kernel_rfl) (by kernel_rfl) (fun _ _ _ h => h) (Or.inl ⟨by kernel_rfl, ?_⟩) (by assumption) ?_
    rotate_left 1
    focus (intro w' hSw; (try dsimp only at hSw); go_simp; (try with_reducible rfl))
    try simp only [Act.put, List.setIfInBounds_toArray, List.set_cons_zero, List.set_cons_succ]
    refine wpAnyH_ready (rs := [2]) (by kernel_rfl) (by simp) ?_
    refine AllReadyH.cons rfl (fun K hK => ?_) AllReadyH.nil
    go_simp
    go_at_call 25
    refine (HA.out _ HBv.out).mono ?_
    rintro en1 v1 ⟨⟨ra, rfl, hra⟩, hv1⟩
    clear hHeld
    refine hK.out _ _ (HS.out _ hv1) (fun hHeld => ?_)
    clear hK
    refine wpAnyH_ready (rs := [5]) (by kernel_rfl) (by simp) ?_
    refine AllReadyH.cons rfl (fun K hK => ?_) AllReadyH.nil
    go_simp
    go_at_call 25
    refine (HBB.out _ hv1).mono ?_
    rintro en2 v2 ⟨⟨rb, rfl, hrb⟩, hv2⟩
    clear hHeld
    refine hK.out _ _ (HS.out _ hv2) (fun hHeld => ?_)
    clear hK
    refine wpAnyH_ready (rs := [6]) (by kernel_rfl) (by simp) ?_
    refine AllReadyH.cons rfl (fun K hK => ?_) AllReadyH.nil
    go_simp
    clear hHeld
    refine hK.out _ _ (HS.out _ (hv2.trans ((Below.refl _ _).alloc (Nat.le_refl _) _ |>.mono hv2.size))) (fun hHeld => ?_)
    clear hK
    refine wpAnyH_take (i := 7) (oi := ⟨some 4, _, _, _, _, _⟩) (v := ?_) rfl (by kernel_rfl) (by kernel_rfl) (by kernel_rfl) (fun _ _ _ h => h) (Or.inl ⟨by kernel_rfl, ?_⟩) (by assumption) ?_
    rotate_left 1
    focus (intro w' hSw; (try dsimp only at hSw); go_simp; (try with_reducible rfl))
    try simp only [Act.put, List.setIfInBounds_toArray, List.set_cons_zero, List.set_cons_succ]
    refine wpAnyH_done (by kernel_rfl) ?_ _
    have HR : Hid (AnsOut (ansM 1 k z h d t.data.toList (dataL N) en) w (.returned (.slice (some ⟨v2.heap.size, 0, none⟩) 2 2)) (v2.alloc (.cells #[.string ra, .string rb] 9))) := Lib.hid (rest_end (HB1.out.trans (hv2.mono HB1.out.size)) [ra, rb] (show [ra.data.toList, rb.data.toList] = _ by rw [hra, hrb]; rfl) 2 rfl _ rfl).ans
    clear hHeld hra hrb hv1 hv2 HA HBB HS HBv
    go_wp2_with fail
    go_ret
    exact HR.out
  have g1 : (q == 1) = false := by rw [beq_eq_false_iff_ne]; exact h1
  by_cases h2 : q = 2
  · subst h2
    clear h1
    have HS : Hid (∀ w' : World, Below W1.heap.size W1 w' → (w'.cell? ⟨w.heap.size, 1, none⟩ = some (.int .i64 k) ∧ w'.cell? ⟨w.heap.size, 2, none⟩ = some (.int .i64 z))) := Lib.hid fun w' hb => by
      have e1 := (hb.block _ (lt_of_some HX.out)).trans HX.out
      unfold resB at e1
      exact ⟨cell_of_blk e1 1, cell_of_blk e1 2⟩
    have HBv : Hid (Below W1.heap.size W1 W1.drew) := Lib.hid (Below.refl _ _).drew
    have HA : Hid (∀ w' : World, Below W1.heap.size W1 w' → Calls Tryd.prog 25 #[.int .i64 k] w' fun e w'' => (∃ r : ByteArray, e = .returned (.string r) ∧ r.data.toList = Lib.itoa k) ∧ Below W1.heap.size W1 w'') := Lib.hid fun w' hb => (itoa_any m k w' HF.out.k (HE.out.later hb)).mono fun e w'' ⟨h1, h2⟩ => ⟨h1, hb.trans (h2.mono hb.size)⟩
    have HBB : Hid (∀ w' : World, Below W1.heap.size W1 w' → Calls Tryd.prog 25 #[.int .i64 z] w' fun e w'' => (∃ r : ByteArray, e = .returned (.string r) ∧ r.data.toList = Lib.itoa z) ∧ Below W1.heap.size W1 w'') := Lib.hid fun w' hb => (itoa_any m z w' HF.out.z (HE.out.later hb)).mono fun e w'' ⟨h1, h2⟩ => ⟨h1, hb.trans (h2.mono hb.size)⟩
    go_upto_region 5 with fail
    refine wp_region_held_drew (S := fun w' => (w'.cell? ⟨w.heap.size, 1, none⟩ = some (.int .i64 k) ∧ w'.cell? ⟨w.heap.size, 2, none⟩ = some (.int .i64 z))) (by kernel_rfl) (HS.out _ HBv.out) (fun hHeld => ?_)
    refine wpAnyH_take (i := 0) (oi := ⟨some 17, _, _, _, _, _⟩) (v := ?_) rfl (by kernel_rfl) (by kernel_rfl) (by kernel_rfl) (fun _ _ _ h => h) (Or.inl ⟨by kernel_rfl, ?_⟩) (by assumption) ?_
    rotate_left 1
    focus (intro w' hSw; (try dsimp only at hSw); go_simp; (try with_reducible rfl))
    try simp only [Act.put, List.setIfInBounds_toArray, List.set_cons_zero, List.set_cons_succ]
    refine wpAnyH_take (i := 1) (oi := ⟨some 18, _, _, _, _, _⟩) (v := ?_) rfl (by kernel_rfl) (by kernel_rfl) (by kernel_rfl) (fun _ _ _ h => h) (Or.inl ⟨by kernel_rfl, ?_⟩) (by assumption) ?_
    rotate_left 1
    focus (intro w' hSw; (try dsimp only at hSw); go_simp; (try with_reducible rfl))
    try simp only [Act.put, List.setIfInBounds_toArray, List.set_cons_zero, List.set_cons_succ]
    refine wpAnyH_take (i := 3) (oi := ⟨some 20, _, _, _, _, _⟩) (v := ?_) rfl (by kernel_rfl) (by kernel_rfl) (by kernel_rfl) (fun _ _ _ h => h) (Or.inl ⟨by kernel_rfl, ?_⟩) (by assumption) ?_
    rotate_left 1
    focus (intro w' hSw; (try dsimp only at hSw); go_simp; (try with_reducible rfl))
    try simp only [Act.put, List.setIfInBounds_toArray, List.set_cons_zero, List.set_cons_succ]
    refine wpAnyH_take (i := 4) (oi := ⟨some 21, _, _, _, _, _⟩) (v := ?_) rfl (by kernel_rfl) (by kernel_rfl) (by kernel_rfl) (fun _ _ _ h => h) (Or.inl ⟨by kernel_rfl, ?_⟩) (by assumption) ?_
    rotate_left 1
    focus (intro w' hSw; (try dsimp only at hSw); go_simp; (try with_reducible rfl))
    try simp only [Act.put, List.setIfInBounds_toArray, List.set_cons_zero, List.set_cons_succ]
    refine wpAnyH_ready (rs := [2]) (by kernel_rfl) (by simp) ?_
    refine AllReadyH.cons rfl (fun K hK => ?_) AllReadyH.nil
    go_simp
    go_at_call 25
    refine (HA.out _ HBv.out).mono ?_
    rintro en1 v1 ⟨⟨ra, rfl, hra⟩, hv1⟩
    clear hHeld
    refine hK.out _ _ (HS.out _ hv1) (fun hHeld => ?_)
    clear hK
    refine wpAnyH_ready (rs := [5]) (by kernel_rfl) (by simp) ?_
    refine AllReadyH.cons rfl (fun K hK => ?_) AllReadyH.nil
    go_simp
    go_at_call 25
    refine (HBB.out _ hv1).mono ?_
    rintro en2 v2 ⟨⟨rb, rfl, hrb⟩, hv2⟩
    clear hHeld
    refine hK.out _ _ (HS.out _ hv2) (fun hHeld => ?_)
    clear hK
    refine wpAnyH_ready (rs := [6]) (by kernel_rfl) (by simp) ?_
    refine AllReadyH.cons rfl (fun K hK => ?_) AllReadyH.nil
    go_simp
    clear hHeld
    refine hK.out _ _ (HS.out _ (hv2.trans ((Below.refl _ _).alloc (Nat.le_refl _) _ |>.mono hv2.size))) (fun hHeld => ?_)
    clear hK
    refine wpAnyH_take (i := 7) (oi := ⟨some 4, _, _, _, _, _⟩) (v := ?_) rfl (by kernel_rfl) (by kernel_rfl) (by kernel_rfl) (fun _ _ _ h => h) (Or.inl ⟨by kernel_rfl, ?_⟩) (by assumption) ?_
    rotate_left 1
    focus (intro w' hSw; (try dsimp only at hSw); go_simp; (try with_reducible rfl))
    try simp only [Act.put, List.setIfInBounds_toArray, List.set_cons_zero, List.set_cons_succ]
    refine wpAnyH_done (by kernel_rfl) ?_ _
    have HR : Hid (AnsOut (ansM 2 k z h d t.data.toList (dataL N) en) w (.returned (.slice (some ⟨v2.heap.size, 0, none⟩) 2 2)) (v2.alloc (.cells #[.string ra, .string rb] 9))) := Lib.hid (rest_end (HB1.out.trans (hv2.mono HB1.out.size)) [ra, rb] (show [ra.data.toList, rb.data.toList] = _ by rw [hra, hrb]; rfl) 2 rfl _ rfl).ans
    clear hHeld hra hrb hv1 hv2 HA HBB HS HBv
    go_wp2_with fail
    go_ret
    exact HR.out
  have g2 : (q == 2) = false := by rw [beq_eq_false_iff_ne]; exact h2
  by_cases h3 : q = 3
  · subst h3
    clear h1 h2
    have HC := Lib.hid (hex_any t W1 (by have := HF.out.t; omega))
    go_wp2_with fail
    refine HC.out.mono ?_
    rintro en2 w2 ⟨⟨r, rfl, hr⟩, hb2⟩
    have HR : Hid (AnsOut (ansM 3 k z h d t.data.toList (dataL N) en) w (.returned (.slice (some ⟨w2.heap.size, 0, none⟩) 1 1)) (w2.alloc (.cells #[.string r] 9))) := Lib.hid (rest_end (HB1.out.trans (hb2.mono HB1.out.size)) [r] (show [r.data.toList] = _ by rw [hr]; rfl) 1 rfl _ rfl).ans
    clear hr hb2 HC
    go_wp2_with fail
    go_ret
    exact HR.out
  have g3 : (q == 3) = false := by rw [beq_eq_false_iff_ne]; exact h3
  by_cases h4 : q = 4
  · subst h4
    clear h1 h2 h3
    have HC := Lib.hid (hex_any t W1 (by have := HF.out.t; omega))
    go_wp2_with fail
    refine HC.out.mono ?_
    rintro en2 w2 ⟨⟨r, rfl, hr⟩, hb2⟩
    have HR : Hid (AnsOut (ansM 4 k z h d t.data.toList (dataL N) en) w (.returned (.slice (some ⟨w2.heap.size, 0, none⟩) 1 1)) (w2.alloc (.cells #[.string r] 9))) := Lib.hid (rest_end (HB1.out.trans (hb2.mono HB1.out.size)) [r] (show [r.data.toList] = _ by rw [hr]; rfl) 1 rfl _ rfl).ans
    clear hr hb2 HC
    go_wp2_with fail
    go_ret
    exact HR.out
  have g4 : (q == 4) = false := by rw [beq_eq_false_iff_ne]; exact h4
  by_cases h5 : q = 5
  · subst h5
    clear h1 h2 h3 h4
    have HC := Lib.hid (itoa_any m d W1 HF.out.d HE.out)
    go_wp2_with fail
    refine HC.out.mono ?_
    rintro en2 w2 ⟨⟨r, rfl, hr⟩, hb2⟩
    have HR : Hid (AnsOut (ansM 5 k z h d t.data.toList (dataL N) en) w (.returned (.slice (some ⟨w2.heap.size, 0, none⟩) 1 1)) (w2.alloc (.cells #[.string r] 9))) := Lib.hid (rest_end (HB1.out.trans (hb2.mono HB1.out.size)) [r] (show [r.data.toList] = _ by rw [hr]; rfl) 1 rfl _ rfl).ans
    clear hr hb2 HC
    go_wp2_with fail
    go_ret
    exact HR.out
  have g5 : (q == 5) = false := by rw [beq_eq_false_iff_ne]; exact h5
  by_cases h8 : q = 8
  · subst h8
    clear h1 h2 h3 h4 h5
    have HC := Lib.hid (itoa_any m d W1 HF.out.d HE.out)
    go_wp2_with fail
    refine HC.out.mono ?_
    rintro en2 w2 ⟨⟨r, rfl, hr⟩, hb2⟩
    have HR : Hid (AnsOut (ansM 8 k z h d t.data.toList (dataL N) en) w (.returned (.slice (some ⟨w2.heap.size, 0, none⟩) 1 1)) (w2.alloc (.cells #[.string r] 9))) := Lib.hid (rest_end (HB1.out.trans (hb2.mono HB1.out.size)) [r] (show [r.data.toList] = _ by rw [hr]; rfl) 1 rfl _ rfl).ans
    clear hr hb2 HC
    go_wp2_with fail
    go_ret
    exact HR.out
  have g8 : (q == 8) = false := by rw [beq_eq_false_iff_ne]; exact h8
  by_cases h6 : q = 6
  · subst h6
    clear h1 h2 h3 h4 h5 h8
    have HC := Lib.hid (page_any e k z h d t A N c en W1 HS1.out HF.out.N)
    unfold resV at HC
    go_wp2_with fail
    refine HC.out.mono ?_
    rintro en2 w2 ⟨v, Q, rfl, hg⟩
    obtain ⟨A2, c2, rfl, hs, hn⟩ := hg.val
    have HR : Hid (AnsOut (ansM 6 k z h d t.data.toList (dataL N) en) w (.returned (.slice A2 Q.length c2)) w2) := Lib.hid ⟨⟨A2, c2, Q, rfl, hg.data, hs, hn⟩, HB1.out.trans (hg.low.mono HB1.out.size)⟩
    clear hg hs hn HC
    go_wp2_with fail
    go_ret
    exact HR.out
  have g6 : (q == 6) = false := by rw [beq_eq_false_iff_ne]; exact h6
  have HR : Hid (AnsOut (ansM q k z h d t.data.toList (dataL N) en) w (.returned (.slice none 0 0)) W1) := Lib.hid ⟨⟨none, 0, [], rfl, by
    unfold ansM
    rw [if_neg h1, if_neg h2, if_neg (fun h => h.elim h3 h4), if_neg (fun h => h.elim h5 h8), if_neg h6]
    rfl, (fun i x hx => (by cases hx)), fun _ => ⟨rfl, rfl⟩⟩, HB1.out⟩
  clear h1 h2 h3 h4 h5 h8 h6
  go_wp2_with fail
  go_ret
  exact HR.out
theorem join_cons (a : List UInt8) : ∀ L : List (List UInt8), joinM (a :: L) = a ++ L.flatMap (fun x => 32 :: x)
  | [] => by simp [joinM]
  | b :: r => by
    show a ++ 32 :: joinM (b :: r) = _
    rw [join_cons b r]
    simp
theorem flat_len (n : Nat) : ∀ L : List (List UInt8), (∀ x ∈ L, x.length ≤ n) → (L.flatMap (fun x => 32 :: x)).length ≤ L.length * (n + 1)
  | [], _ => by simp
  | x :: L, h => by
    have h1 := flat_len n L fun y hy => h y (List.mem_cons_of_mem _ hy)
    have h2 := h x (List.mem_cons_self ..)
    simp only [List.flatMap_cons, List.length_append, List.length_cons]
    have : (L.length + 1) * (n + 1) = L.length * (n + 1) + (n + 1) := by rw [Nat.add_mul, Nat.one_mul]
    omega
theorem ans_len {q e k z h d : Int} {t : ByteArray} {N : List ByteArray} {en : Bool} (hf : ResFit e k z h d t N) : (∀ x ∈ ansM q k z h d t.data.toList (dataL N) en, x.length ≤ 20001) ∧ (ansM q k z h d t.data.toList (dataL N) en).length ≤ 101 := by
  have a1 := Lib.itoa_length_le k hf.k.1 hf.k.2
  have a2 := Lib.itoa_length_le h hf.h.1 hf.h.2
  have a3 := Lib.itoa_length_le z hf.z.1 hf.z.2
  have a4 := Lib.itoa_length_le d hf.d.1 hf.d.2
  have a5 := hexL_len t.data.toList
  rw [size_list] at a5
  have a6 := hf.t
  have a7 : ∀ x ∈ N, (hexL x.data.toList).length ≤ 20001 := fun x hx => by
    have h1 := hexL_len x.data.toList
    rw [size_list] at h1
    have := hf.N.2 x hx
    omega
  have a8 := hf.N.1
  unfold ansM
  split
  · refine ⟨fun x hx => ?_, by simp⟩
    simp only [List.mem_cons, List.mem_nil_iff, or_false] at hx
    rcases hx with rfl | rfl <;> omega
  split
  · refine ⟨fun x hx => ?_, by simp⟩
    simp only [List.mem_cons, List.mem_nil_iff, or_false] at hx
    rcases hx with rfl | rfl <;> omega
  split
  · refine ⟨fun x hx => ?_, by simp⟩
    simp only [List.mem_cons, List.mem_nil_iff, or_false] at hx
    subst hx
    omega
  split
  · refine ⟨fun x hx => ?_, by simp⟩
    simp only [List.mem_cons, List.mem_nil_iff, or_false] at hx
    subst hx
    omega
  split
  · unfold pageM dataL
    refine ⟨fun x hx => ?_, ?_⟩
    · rcases List.mem_append.1 hx with hx | hx
      · cases en with
        | true =>
          simp only [if_true, List.mem_cons, List.mem_nil_iff, or_false] at hx
          subst hx
          decide
        | false => simp at hx
      · rw [List.map_map] at hx
        obtain ⟨y, hy, rfl⟩ := List.mem_map.1 hx
        exact a7 y hy
    · cases en <;> simp <;> omega
  · exact ⟨fun x hx => by simp at hx, by simp⟩
set_option maxHeartbeats 3200000 in
theorem show_any (m : Int) (q e k z h d : Int) (t : ByteArray) (A : Option Addr) (N : List ByteArray) (c : Nat) (en : Bool) (w : World) (hE : Env m w) (hN : Sl w A N) (hf : ResFit e k z h d t N) :
    Calls Tryd.prog 18 #[.int .i64 q, resV e k z h d t A N c en] w (StrOut (showM q e k z h d t.data.toList (dataL N) en) w) := by
  obtain ⟨W1, hW1⟩ : ∃ W1, W1 = w.alloc (.cells #[.int .i64 e, .int .i64 k, .int .i64 z, .int .i64 h, .int .i64 d, .string t, .slice A N.length c, .bool en] 40) := ⟨_, rfl⟩
  have hb1 : Below w.heap.size w W1 := by rw [hW1]; exact (Below.refl _ _).alloc (Nat.le_refl _) _
  have hx : W1.heap[w.heap.size]? = some (resB e k z h d t A N c en) := by rw [hW1]; exact heap_alloc_new w _
  have HE := Lib.hid (hE.later hb1)
  have HF := Lib.hid hf
  have HAn := Lib.hid (answered_any m q e k z h d t A N c en W1 HE.out (hN.later hb1) hf)
  have HB1 := Lib.hid hb1
  have HW := Lib.hid hW1.symm
  unfold resB at hx
  have c0 : W1.cell? ⟨w.heap.size, 0, none⟩ = some (.int .i64 e) := cell_of_blk hx 0
  have c1 : W1.cell? ⟨w.heap.size, 1, none⟩ = some (.int .i64 k) := cell_of_blk hx 1
  have c2 : W1.cell? ⟨w.heap.size, 2, none⟩ = some (.int .i64 z) := cell_of_blk hx 2
  have c3 : W1.cell? ⟨w.heap.size, 3, none⟩ = some (.int .i64 h) := cell_of_blk hx 3
  have c4 : W1.cell? ⟨w.heap.size, 4, none⟩ = some (.int .i64 d) := cell_of_blk hx 4
  have c5 : W1.cell? ⟨w.heap.size, 5, none⟩ = some (.string t) := cell_of_blk hx 5
  have c6 : W1.cell? ⟨w.heap.size, 6, none⟩ = some (.slice A N.length c) := cell_of_blk hx 6
  have c7 : W1.cell? ⟨w.heap.size, 7, none⟩ = some (.bool en) := cell_of_blk hx 7
  clear hW1 hb1 hx hE hN hf
  unfold resV at HAn ⊢
  go_enter Tryd.func18, Tryd.ntmps18
  go_upto_region 1 with fail
  rw [HW.out]
  clear HW
  by_cases he : e = 0
  · subst he
    have HM : Hid (showM q 0 k z h d t.data.toList (dataL N) en = joinM (okL :: ansM q k z h d t.data.toList (dataL N) en)) := Lib.hid rfl
    go_wp2_with fail
    refine HAn.out.mono ?_
    rintro en2 w2 ⟨⟨A2, cq, Q, rfl, hQ, hS, hA⟩, hb2⟩
    obtain ⟨hl1, hl2⟩ := ans_len (q := q) (en := en) HF.out
    rw [← hQ] at hl1 hl2
    have hq : Q.length ≤ 101 := by unfold dataL at hl2; rwa [List.length_map] at hl2
    have hjl : (joinM ((⟨#[111, 107]⟩ : ByteArray).data.toList :: dataL Q)).length ≤ 1000000000 := by
      rw [join_cons, List.length_append]
      have := flat_len 20001 (dataL Q) hl1
      have h3 : (dataL Q).length * (20001 + 1) ≤ 101 * (20001 + 1) := Nat.mul_le_mul_right _ hl2
      have h4 : ((⟨#[111, 107]⟩ : ByteArray).data.toList).length = 2 := rfl
      omega
    have HJ := Lib.hid (joined_any ⟨#[111, 107]⟩ A2 cq Q w2 hS hA hjl (by omega))
    rw [hQ] at HJ
    have HB2 := Lib.hid (HB1.out.trans (hb2.mono HB1.out.size))
    clear hQ hS hA hb2 hl1 hl2 hq hjl HAn c0 c1 c2 c3 c4 c5 c6 c7
    go_wp2_with fail
    refine HJ.out.mono ?_
    rintro en3 w3 ⟨⟨r, rfl, hr⟩, hb3⟩
    have HFn : Hid (StrOut (showM q 0 k z h d t.data.toList (dataL N) en) w (.returned (.string r)) w3) := Lib.hid ⟨⟨r, rfl, hr⟩, HB2.out.trans (hb3.mono HB2.out.size)⟩
    clear hr hb3 HJ
    go_wp2_with fail
    go_ret
    exact HFn.out
  · have ge : (e != 0) = true := by rw [bne_iff_ne]; exact he
    have HM : Hid (showM q e k z h d t.data.toList (dataL N) en = joinM [errL, Lib.itoa e]) := Lib.hid (if_neg he)
    have HI := Lib.hid (itoa_any m e W1 HF.out.e HE.out)
    clear he
    go_wp2_with fail
    refine HI.out.mono ?_
    rintro en2 w2 ⟨⟨r, rfl, hr⟩, hb2⟩
    obtain ⟨W3, hW3⟩ : ∃ W3, W3 = w2.alloc (.cells #[.string r] 9) := ⟨_, rfl⟩
    have hb3 : Below w2.heap.size w2 W3 := by rw [hW3]; exact (Below.refl _ _).alloc (Nat.le_refl _) _
    have hS : Sl W3 (some ⟨w2.heap.size, 0, none⟩) [r] := by rw [hW3]; exact sl_new w2 [r]
    have hrl := Lib.itoa_length_le e HF.out.e.1 HF.out.e.2
    have hjl : (joinM ((⟨#[101, 114, 114, 111, 114]⟩ : ByteArray).data.toList :: dataL [r])).length ≤ 1000000000 := by
      rw [join_cons]
      simp only [dataL, List.map_cons, List.map_nil, List.flatMap_cons, List.flatMap_nil, List.append_nil, List.length_append, List.length_cons, hr]
      simp
      omega
    have HJ := Lib.hid (joined_any ⟨#[101, 114, 114, 111, 114]⟩ (some ⟨w2.heap.size, 0, none⟩) 1 [r] W3 hS (fun h => by cases h) hjl (by simp))
    have hdt : dataL [r] = [Lib.itoa e] := by rw [← hr]; rfl
    rw [hdt] at HJ
    have HB3 := Lib.hid (HB1.out.trans ((hb2.trans (hb3.mono hb2.size)).mono HB1.out.size))
    have HW3 := Lib.hid hW3.symm
    have t1 : ([r] : List ByteArray).length = 1 := rfl
    clear hr hb2 hW3 hb3 hS hrl hjl hdt HI c0 c1 c2 c3 c4 c5 c6 c7
    go_wp2_with fail
    rw [HW3.out]
    refine HJ.out.mono ?_
    rintro en3 w4 ⟨⟨u, rfl, hu⟩, hb4⟩
    have HFn : Hid (StrOut (showM q e k z h d t.data.toList (dataL N) en) w (.returned (.string u)) w4) := Lib.hid ⟨⟨u, rfl, by rw [hu, HM.out]; rfl⟩, HB3.out.trans (hb4.mono HB3.out.size)⟩
    clear hu hb4 HJ
    go_wp2_with fail
    go_ret
    exact HFn.out
end Go.Proofs.YtblhicfllomdlaaDoor.cal
