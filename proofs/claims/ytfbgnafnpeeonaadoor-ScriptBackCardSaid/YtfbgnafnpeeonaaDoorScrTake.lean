/- What a script's reader makes of a line more. Conditions: at most a million bytes; what the listed variables hold. -/
import Derived.Test.YtfbgnafnpeeonaaDoorScrCall
import Derived.Test.YtfbgnafnpeeonaaDoorCalRead
namespace Go.Proofs.YtfbgnafnpeeonaaDoor.scr
set_option maxRecDepth 100000
open Go.RowKit Go.Proofs.YtfbgnafnpeeonaaDoor.words Go.Proofs.YtfbgnafnpeeonaaDoor.cal

def roomB : ByteArray := ⟨#[114, 111, 111, 109]⟩
def imageB : ByteArray := ⟨#[105, 109, 97, 103, 101]⟩
def clientB : ByteArray := ⟨#[99, 108, 105, 101, 110, 116]⟩
def pickB : ByteArray := ⟨#[112, 105, 99, 107]⟩
/-- What holds of all that was read. -/
structure FB (n : Nat) (S : ScB) : Prop where
  sh : I64 S.sh
  rm : I64 S.rm
  cu : I64 S.cu
  pk : ∀ x ∈ S.pk, I64 x
  op : ∀ x ∈ S.cl, ∀ o ∈ x, OpFit o.O o.N o.I o.P o.G
  li : S.im.length ≤ n
  lc : S.cl.length ≤ n
  lo : ∀ x ∈ S.cl, x.length ≤ n
theorem FB.more {n : Nat} {S : ScB} (h : FB n S) : FB (n + 1) S := ⟨h.sh, h.rm, h.cu, h.pk, h.op, Nat.le_succ_of_le h.li, Nat.le_succ_of_le h.lc, fun x hx => Nat.le_succ_of_le (h.lo x hx)⟩
theorem FB.image {n : Nat} {S : ScB} (h : FB n S) (x : ByteArray) : FB (n + 1) { S with im := S.im ++ [x] } := ⟨h.sh, h.rm, h.cu, h.pk, h.op, by have := h.li; simp; omega, Nat.le_succ_of_le h.lc, fun x hx => Nat.le_succ_of_le (h.lo x hx)⟩
theorem FB.client {n : Nat} {S : ScB} (h : FB n S) : FB (n + 1) { S with cl := S.cl ++ [[]] } := by
  refine ⟨h.sh, h.rm, h.cu, h.pk, fun x hx o ho => ?_, Nat.le_succ_of_le h.li, by have := h.lc; simp; omega, fun x hx => ?_⟩
  · rcases List.mem_append.1 hx with hx | hx
    · exact h.op x hx o ho
    · obtain rfl : x = [] := by simpa using hx
      cases ho
  · rcases List.mem_append.1 hx with hx | hx
    · exact Nat.le_succ_of_le (h.lo x hx)
    · obtain rfl : x = [] := by simpa using hx
      simp
theorem FB.picks {n : Nat} {S : ScB} (h : FB n S) {ns : List Int} (hn : ∀ x ∈ ns, I64 x) : FB (n + 1) { S with pk := ns } := ⟨h.sh, h.rm, h.cu, hn, h.op, Nat.le_succ_of_le h.li, Nat.le_succ_of_le h.lc, fun x hx => Nat.le_succ_of_le (h.lo x hx)⟩
theorem FB.room {n : Nat} {S : ScB} (h : FB n S) {a b c : Int} (hn : ∀ x ∈ [a, b, c], I64 x) : FB (n + 1) { S with sh := a, rm := b, cu := c } := ⟨hn a (by simp), hn b (by simp), hn c (by simp), h.pk, h.op, Nat.le_succ_of_le h.li, Nat.le_succ_of_le h.lc, fun x hx => Nat.le_succ_of_le (h.lo x hx)⟩
theorem FB.call {n : Nat} {S : ScB} (h : FB n S) {a : List (List OpB)} {x : List OpB} {o : OpB} (hS : S.cl = a ++ [x]) (ho : OpFit o.O o.N o.I o.P o.G) : FB (n + 1) { S with cl := a ++ [x ++ [o]] } := by
  have hx := h.lo x (by rw [hS]; simp)
  refine ⟨h.sh, h.rm, h.cu, h.pk, fun y hy q hq => ?_, Nat.le_succ_of_le h.li, by have := h.lc; rw [hS] at this; simp at this ⊢; omega, fun y hy => ?_⟩
  · rcases List.mem_append.1 hy with hy | hy
    · exact h.op y (by rw [hS]; exact List.mem_append_left _ hy) q hq
    · obtain rfl : y = x ++ [o] := by simpa using hy
      rcases List.mem_append.1 hq with hq | hq
      · exact h.op x (by rw [hS]; simp) q hq
      · obtain rfl : q = o := by simpa using hq
        exact ho
  · rcases List.mem_append.1 hy with hy | hy
    · exact Nat.le_succ_of_le (h.lo y (by rw [hS]; exact List.mem_append_left _ hy))
    · obtain rfl : y = x ++ [o] := by simpa using hy
      simp
      omega
section
variable {l a b : List UInt8} {f : Bool} {s : Sc}
theorem tk0_yes (hc : cutL l = (a, b, f)) (ha : a = roomW) {x y z : Int} (hn : numsM b = some [x, y, z]) : takeM ⟨s, 0⟩ l = some ⟨{ s with sh := x, rm := y, cu := z }, 1⟩ := by
  unfold takeM
  rw [if_pos rfl, hc]
  simp only [ha, if_true, hn]
theorem tk0_num (hc : cutL l = (a, b, f)) (hn : ∀ x y z, numsM b ≠ some [x, y, z]) : takeM ⟨s, 0⟩ l = none := by
  cases ht : takeM ⟨s, 0⟩ l with
  | none => rfl
  | some r =>
    obtain ⟨x, y, z, _, h2, _⟩ := take_0 rfl ht
    rw [hc] at h2
    exact absurd h2 (hn x y z)
theorem tk0_word (hc : cutL l = (a, b, f)) (ha : a ≠ roomW) : takeM ⟨s, 0⟩ l = none := by
  cases ht : takeM ⟨s, 0⟩ l with
  | none => rfl
  | some r =>
    obtain ⟨x, y, z, h1, _, _⟩ := take_0 rfl ht
    rw [hc] at h1
    exact absurd h1 ha
theorem tk3 : takeM ⟨s, 3⟩ l = none := by
  unfold takeM
  rw [if_neg (show ¬ (3 : Nat) = 0 by decide), if_pos rfl]
theorem tk_image {k : Nat} (hk : k = 1 ∨ k = 2) (hc : cutL l = (a, b, f)) (ha : a = imageW) : takeM ⟨s, k⟩ l = if k = 1 then (unH b).map fun x => ⟨{ s with im := s.im ++ [x] }, 1⟩ else none := by
  unfold takeM
  rw [if_neg (show ¬ k = 0 by omega), if_neg (show ¬ k = 3 by omega), hc]
  simp only [ha, if_true]
theorem tk_client {k : Nat} (hk : k = 1 ∨ k = 2) (hc : cutL l = (a, b, f)) (ha : a ≠ imageW) (hl : l = clientW) : takeM ⟨s, k⟩ l = some ⟨{ s with cl := s.cl ++ [[]] }, 2⟩ := by
  unfold takeM
  rw [if_neg (show ¬ k = 0 by omega), if_neg (show ¬ k = 3 by omega), hc, if_neg ha, if_pos hl]
theorem tk_picks {k : Nat} (hk : k = 1 ∨ k = 2) (hc : cutL l = (a, b, f)) (hl : l ≠ clientW) (hp : a = pickW) : takeM ⟨s, k⟩ l = (numsM b).map fun ns => ⟨{ s with pk := ns }, 3⟩ := by
  unfold takeM
  rw [if_neg (show ¬ k = 0 by omega), if_neg (show ¬ k = 3 by omega), hc, if_neg (fun e => absurd (hp.symm.trans e) (by decide)), if_neg hl, if_pos hp]
theorem tk_call {k : Nat} (hk : k = 1 ∨ k = 2) (hc : cutL l = (a, b, f)) (ha : a ≠ imageW) (hl : l ≠ clientW) (hp : a ≠ pickW) : takeM ⟨s, k⟩ l = if k = 2 then (parseM l).map fun o => ⟨{ s with cl := snocOp s.cl o }, 2⟩ else none := by
  unfold takeM
  rw [if_neg (show ¬ k = 0 by omega), if_neg (show ¬ k = 3 by omega), hc, if_neg ha, if_neg hl, if_neg hp]
end
theorem snoc_map {cl a : List (List OpB)} {x : List OpB} (o : OpB) (h : cl = a ++ [x]) : snocOp (cl.map fun l => l.map OpB.m) o.m = (a ++ [x ++ [o]]).map fun l => l.map OpB.m := by
  unfold snocOp
  rw [h]
  simp
theorem text_beq (s : ByteArray) (l : List UInt8) : (s.toList == l) = decide (s.data.toList = l) := by
  rw [to_list, Bool.eq_iff_iff]
  simp
def TakeO (l : ByteArray) (n B g : Nat) (S : ScB) (k : Nat) (w : World) (e : Ending) (w' : World) : Prop :=
  ((∃ S' k' vi vc vp, takeM ⟨S.m, k⟩ l.data.toList = some ⟨S'.m, k'⟩ ∧ e = .returned (.bool true) ∧ Rdr w' B g S' k' vi vc vp ∧ FB (n + 1) S' ∧ (k' = 2 → S'.cl ≠ [])) ∨ (takeM ⟨S.m, k⟩ l.data.toList = none ∧ e = .returned (.bool false))) ∧ Kept RT B w w'
set_option maxHeartbeats 6400000 in
theorem take_any (m : Int) (l : ByteArray) (n B g : Nat) (S : ScB) (k : Nat) (vi vc vp : Value) (w : World) (hl : l.size ≤ 1000000) (hn : n ≤ 1000000) (hF : FB n S) (hk : k ≤ 3) (h2 : k = 2 → S.cl ≠ []) (hC : Cx m B w) (h : Rdr w B g S k vi vc vp) :
    Calls Tryd.prog 23 #[.pointer (some ⟨g, 0, none⟩), .string l] w (TakeO l n B g S k w) := by
  have HCu := Lib.hid (cut_any m l w hl hC.env)
  have H := Lib.hid h
  have HC := Lib.hid hC
  have HF := Lib.hid hF
  have H2k := Lib.hid h2
  clear h hC hF h2
  go_enter Tryd.func23, Tryd.ntmps23
  go_wp2_with fail
  refine HCu.out.mono ?_
  rintro e w2 ⟨⟨a, b, f, rfl, hc⟩, hb2⟩
  have HK2 : Hid (Kept RT B w w2) := Lib.hid (Kept.of_below hb2 RT B)
  have H2 := Lib.hid (H.out.later hb2)
  have HC2 := Lib.hid (HC.out.later hb2)
  have hz := cut_size hc
  have y6 := cell_of_blk H2.out.blk 6
  have HCut := Lib.hid hc
  clear hb2 hc HCu
  have hk4 : k = 0 ∨ k = 1 ∨ k = 2 ∨ k = 3 := by omega
  rcases hk4 with rfl | rfl | rfl | rfl
  · have HN := Lib.hid (room_any m b B g S vi vc vp w2 (by omega) HC2.out.env HC2.out.le H2.out)
    by_cases hw : a.data.toList = roomW
    · have t1 : (a.toList == [114, 111, 111, 109]) = true := by rw [text_beq, decide_eq_true_eq]; exact hw
      have HW := Lib.hid hw
      clear hw hz
      go_wp2_with fail
      refine HN.out.mono ?_
      rintro e w3 ⟨ho, hk3⟩
      have HK3 := Lib.hid (HK2.out.trans hk3)
      clear hk3 HN
      rcases ho with ⟨x, y, z, hx, rfl, hr⟩ | ⟨hx, rfl⟩
      · have HFin : Hid (TakeO l n B g S 0 w (.returned (.bool true)) w3) := Lib.hid ⟨.inl ⟨{ S with sh := x, rm := y, cu := z }, 1, vi, vc, vp, tk0_yes HCut.out HW.out hx, rfl, hr, HF.out.room (numsM_some hx).2.2, fun e => by cases e⟩, HK3.out⟩
        clear hx hr
        go_wp2_with fail
        go_ret
        exact HFin.out
      · have HFin : Hid (TakeO l n B g S 0 w (.returned (.bool false)) w3) := Lib.hid ⟨.inr ⟨tk0_num HCut.out hx, rfl⟩, HK3.out⟩
        clear hx
        go_wp2_with fail
        go_ret
        exact HFin.out
    · have t1 : (a.toList == [114, 111, 111, 109]) = false := by rw [text_beq, decide_eq_false_iff_not]; exact hw
      have HFin : Hid (TakeO l n B g S 0 w (.returned (.bool false)) w2) := Lib.hid ⟨.inr ⟨tk0_word HCut.out hw, rfl⟩, HK2.out⟩
      clear hw hz HN
      go_wp2_with fail
      go_ret
      exact HFin.out
  · have gk : ((1 : Int) == 3) = false := by decide
    by_cases hi : a.data.toList = imageW
    · have t1 : (a.toList == [105, 109, 97, 103, 101]) = true := by rw [text_beq, decide_eq_true_eq]; exact hi
      have HT := Lib.hid (tk_image (s := S.m) (k := 1) (by decide) HCut.out hi)
      have HN := Lib.hid (image_any m b B g S vi vc vp w2 (by omega) (by have := HF.out.li; omega) HC2.out H2.out)
      clear hi hz
      go_wp2_with fail
      refine HN.out.mono ?_
      rintro e w3 ⟨ho, hk3⟩
      have HK3 := Lib.hid (HK2.out.trans hk3)
      clear hk3 HN
      rcases ho with ⟨x, vi', hx, rfl, hr⟩ | ⟨hx, rfl⟩
      · have HFin : Hid (TakeO l n B g S 1 w (.returned (.bool true)) w3) := Lib.hid ⟨.inl ⟨{ S with im := S.im ++ [x] }, 1, vi', vc, vp, by rw [HT.out, if_pos trivial, hx]; unfold ScB.m; simp, rfl, hr, HF.out.image x, fun e => by cases e⟩, HK3.out⟩
        clear hx hr
        go_wp2_with fail
        go_ret
        exact HFin.out
      · have HFin : Hid (TakeO l n B g S 1 w (.returned (.bool false)) w3) := Lib.hid ⟨.inr ⟨by rw [HT.out, if_pos trivial, hx]; rfl, rfl⟩, HK3.out⟩
        clear hx
        go_wp2_with fail
        go_ret
        exact HFin.out
    have t1 : (a.toList == [105, 109, 97, 103, 101]) = false := by rw [text_beq, decide_eq_false_iff_not]; exact hi
    by_cases hc : l.data.toList = clientW
    · have t2 : (l.toList == [99, 108, 105, 101, 110, 116]) = true := by rw [text_beq, decide_eq_true_eq]; exact hc
      have HT := Lib.hid (tk_client (s := S.m) (k := 1) (by decide) HCut.out hi hc)
      have b2 := H2.out.blk
      have z6 := free_of_blk b2 6
      obtain ⟨W3, hW3⟩ : ∃ W3, W3 = w2.setCell ⟨g, 6, none⟩ (.int .i64 2) := ⟨_, rfl⟩
      have b3 : W3.heap[g]? = some (rdB S vi vc vp 2) := by rw [hW3]; exact set_at b2 _
      have hk3 : Kept RB B w2 W3 := by rw [hW3]; exact (Kept.refl RB B w2).setCell (p := ⟨g, 6, none⟩) H2.out.ge ⟨_, _, _, b2, rfl⟩ _
      have HK3 := Lib.hid (HK2.out.trans (rt_of hk3 fun t ht => .inl ht))
      have H3 := Lib.hid (H2.out.box hk3 b3 rfl rfl rfl)
      have HC3 := Lib.hid (HC2.out.next (rt_of hk3 fun t ht => .inl ht))
      obtain ⟨vs, ho, hlv, hr, hd⟩ := H3.out.cl
      obtain ⟨A, c, rfl, _⟩ := lru.own_facts ho
      have hlb : S.cl.length ≤ 1000000 := by have := HF.out.lc; omega
      have hmm : S.cl.length + 1 ≤ maxLen := by unfold maxLen; omega
      have hmb : (S.cl.length + 1) * 24 ≤ 140737488355328 := by omega
      have hBw := HC3.out.le
      have HO3 := Lib.hid (And.intro ho (And.intro hlv (And.intro hr hd)))
      have HAp : Hid (∀ (v' : Value) (w1 : World), w1.ownsRow B 43 1 v' (S.cl.length + 1) (vs ++ [.slice none 0 0]) → (W3.alloc (.cells #[.slice none 0 0] 43)).grownBy w1 (Value.slice A S.cl.length c).ownBlock →
          w1.cell? ⟨g, 4, none⟩ = some (.slice A S.cl.length c) ∧ w1.frozen? ⟨g, 4, none⟩ = false ∧ TakeO l n B g S 1 w (.returned (.bool true)) (w1.setCell ⟨g, 4, none⟩ v')) := Lib.hid fun v' w1 h1 h2 => by
        have hba : Below W3.heap.size W3 (W3.alloc (.cells #[.slice none 0 0] 43)) := (Below.refl _ _).alloc (Nat.le_refl _) _
        have hoA := own_later HO3.out.1 hba
        have hks : Kept (fun t => t = 43) B W3 w1 := (Kept.of_below hba _ B).grown h2 hoA (Nat.le_refl _) rfl
        have hb1 := hks.blk H3.out.blk (by decide)
        have hks2 : Kept (fun t => t = 43 ∨ t = 58) B W3 (w1.setCell ⟨g, 4, none⟩ v') := ((Kept.of_below hba (fun t => t = 43 ∨ t = 58) B).grown h2 hoA (Nat.le_refl _) (.inl rfl)).setCell H3.out.ge ⟨_, _, _, hb1, .inr rfl⟩ _
        have hrow := rows_client hoA HO3.out.2.1 (fun i v l hv hl => own_later (HO3.out.2.2.1 i v l hv hl) hba) HO3.out.2.2.2 h1 h2
        have hrow2 := hrow.kept ((Kept.refl RB B w1).setCell (p := ⟨g, 4, none⟩) H3.out.ge ⟨_, _, _, hb1, rfl⟩ v') (by unfold RB; decide) (by unfold RB; decide)
        refine ⟨cell_of_blk hb1 4, free_of_blk hb1 4, .inl ⟨{ S with cl := S.cl ++ [[]] }, 2, vi, v', vp, by rw [HT.out]; unfold ScB.m; simp, rfl, ⟨H3.out.ge, set_at hb1 v', hks2.own H3.out.im (by decide), hrow2, hks2.own H3.out.pk (by decide)⟩, HF.out.client, fun _ => by simp⟩, HK3.out.trans (rt_of hks2 fun t ht => by rcases ht with rfl | rfl; exact .inr (.inr (.inl rfl)); exact .inl rfl)⟩
      have HW3 := Lib.hid hW3
      obtain ⟨i0, hi0, hy0, hy1, hy2⟩ := info_parts infoL
      have y4 := cell_of_blk H3.out.blk 4
      clear hi hc hz b2 b3 hk3 hlv hr hd hW3
      go_upto_region 10 with fail
      rw [← HW3.out]
      clear HW3 y6 z6
      go_wp2_with (at_builtin; refine wpList_append_own _ rfl _ _ 25 rfl B 43 i0 _ 1 24 Tryd.underlying25 hi0 hy0 hy1 hy2 rfl (by decide) _ _ _ rfl (ho.alloc _) ⟨W3.heap.size, 0, none⟩ 1 1 [.slice none 0 0] rfl rfl (cell_one_new _ _ _) (by simp [Value.oneCell']) hmm hmb (by simp; omega) ?_; intro v' w1 hown' hgrow _; obtain ⟨p0, p1, HFin⟩ := HAp.out v' w1 hown' hgrow; obtain ⟨g', cap', rfl⟩ := ownsRow_succ hown'; clear y4 hown' hgrow)
      go_ret
      exact HFin
    have t2 : (l.toList == [99, 108, 105, 101, 110, 116]) = false := by rw [text_beq, decide_eq_false_iff_not]; exact hc
    by_cases hp : a.data.toList = pickW
    · have t3 : (a.toList == [112, 105, 99, 107]) = true := by rw [text_beq, decide_eq_true_eq]; exact hp
      have HT := Lib.hid (tk_picks (s := S.m) (k := 1) (by decide) HCut.out hc hp)
      have HN := Lib.hid (picks_any m b B g S 1 vi vc vp w2 (by omega) HC2.out H2.out)
      clear hi hc hp hz
      go_wp2_with fail
      refine HN.out.mono ?_
      rintro e w3 ⟨ho, hk3⟩
      have HK3 := Lib.hid (HK2.out.trans hk3)
      clear hk3 HN
      rcases ho with ⟨ns, vp', hx, rfl, hr⟩ | ⟨hx, rfl⟩
      · have HFin : Hid (TakeO l n B g S 1 w (.returned (.bool true)) w3) := Lib.hid ⟨.inl ⟨{ S with pk := ns }, 3, vi, vc, vp', by rw [HT.out, hx]; rfl, rfl, hr, HF.out.picks (numsM_some hx).2.2, fun e => by cases e⟩, HK3.out⟩
        clear hx hr
        go_wp2_with fail
        go_ret
        exact HFin.out
      · have HFin : Hid (TakeO l n B g S 1 w (.returned (.bool false)) w3) := Lib.hid ⟨.inr ⟨by rw [HT.out, hx]; rfl, rfl⟩, HK3.out⟩
        clear hx
        go_wp2_with fail
        go_ret
        exact HFin.out
    have t3 : (a.toList == [112, 105, 99, 107]) = false := by rw [text_beq, decide_eq_false_iff_not]; exact hp
    have HT := Lib.hid (tk_call (s := S.m) (k := 1) (by decide) HCut.out hi hc hp)
    have HFin : Hid (TakeO l n B g S 1 w (.returned (.bool false)) w2) := Lib.hid ⟨.inr ⟨by rw [HT.out, if_neg (by decide)], rfl⟩, HK2.out⟩
    clear hi hc hp hz
    go_wp2_with fail
    go_ret
    exact HFin.out
  · have gk : ((2 : Int) == 3) = false := by decide
    by_cases hi : a.data.toList = imageW
    · have t1 : (a.toList == [105, 109, 97, 103, 101]) = true := by rw [text_beq, decide_eq_true_eq]; exact hi
      have HT := Lib.hid (tk_image (s := S.m) (k := 2) (by decide) HCut.out hi)
      have HFin : Hid (TakeO l n B g S 2 w (.returned (.bool false)) w2) := Lib.hid ⟨.inr ⟨by rw [HT.out, if_neg (by decide)], rfl⟩, HK2.out⟩
      clear hi hz
      go_wp2_with fail
      go_ret
      exact HFin.out
    have t1 : (a.toList == [105, 109, 97, 103, 101]) = false := by rw [text_beq, decide_eq_false_iff_not]; exact hi
    by_cases hc : l.data.toList = clientW
    · have t2 : (l.toList == [99, 108, 105, 101, 110, 116]) = true := by rw [text_beq, decide_eq_true_eq]; exact hc
      have HT := Lib.hid (tk_client (s := S.m) (k := 2) (by decide) HCut.out hi hc)
      have b2 := H2.out.blk
      have z6 := free_of_blk b2 6
      obtain ⟨W3, hW3⟩ : ∃ W3, W3 = w2.setCell ⟨g, 6, none⟩ (.int .i64 2) := ⟨_, rfl⟩
      have b3 : W3.heap[g]? = some (rdB S vi vc vp 2) := by rw [hW3]; exact set_at b2 _
      have hk3 : Kept RB B w2 W3 := by rw [hW3]; exact (Kept.refl RB B w2).setCell (p := ⟨g, 6, none⟩) H2.out.ge ⟨_, _, _, b2, rfl⟩ _
      have HK3 := Lib.hid (HK2.out.trans (rt_of hk3 fun t ht => .inl ht))
      have H3 := Lib.hid (H2.out.box hk3 b3 rfl rfl rfl)
      have HC3 := Lib.hid (HC2.out.next (rt_of hk3 fun t ht => .inl ht))
      obtain ⟨vs, ho, hlv, hr, hd⟩ := H3.out.cl
      obtain ⟨A, c, rfl, _⟩ := lru.own_facts ho
      have hlb : S.cl.length ≤ 1000000 := by have := HF.out.lc; omega
      have hmm : S.cl.length + 1 ≤ maxLen := by unfold maxLen; omega
      have hmb : (S.cl.length + 1) * 24 ≤ 140737488355328 := by omega
      have hBw := HC3.out.le
      have HO3 := Lib.hid (And.intro ho (And.intro hlv (And.intro hr hd)))
      have HAp : Hid (∀ (v' : Value) (w1 : World), w1.ownsRow B 43 1 v' (S.cl.length + 1) (vs ++ [.slice none 0 0]) → (W3.alloc (.cells #[.slice none 0 0] 43)).grownBy w1 (Value.slice A S.cl.length c).ownBlock →
          w1.cell? ⟨g, 4, none⟩ = some (.slice A S.cl.length c) ∧ w1.frozen? ⟨g, 4, none⟩ = false ∧ TakeO l n B g S 2 w (.returned (.bool true)) (w1.setCell ⟨g, 4, none⟩ v')) := Lib.hid fun v' w1 h1 h2 => by
        have hba : Below W3.heap.size W3 (W3.alloc (.cells #[.slice none 0 0] 43)) := (Below.refl _ _).alloc (Nat.le_refl _) _
        have hoA := own_later HO3.out.1 hba
        have hks : Kept (fun t => t = 43) B W3 w1 := (Kept.of_below hba _ B).grown h2 hoA (Nat.le_refl _) rfl
        have hb1 := hks.blk H3.out.blk (by decide)
        have hks2 : Kept (fun t => t = 43 ∨ t = 58) B W3 (w1.setCell ⟨g, 4, none⟩ v') := ((Kept.of_below hba (fun t => t = 43 ∨ t = 58) B).grown h2 hoA (Nat.le_refl _) (.inl rfl)).setCell H3.out.ge ⟨_, _, _, hb1, .inr rfl⟩ _
        have hrow := rows_client hoA HO3.out.2.1 (fun i v l hv hl => own_later (HO3.out.2.2.1 i v l hv hl) hba) HO3.out.2.2.2 h1 h2
        have hrow2 := hrow.kept ((Kept.refl RB B w1).setCell (p := ⟨g, 4, none⟩) H3.out.ge ⟨_, _, _, hb1, rfl⟩ v') (by unfold RB; decide) (by unfold RB; decide)
        refine ⟨cell_of_blk hb1 4, free_of_blk hb1 4, .inl ⟨{ S with cl := S.cl ++ [[]] }, 2, vi, v', vp, by rw [HT.out]; unfold ScB.m; simp, rfl, ⟨H3.out.ge, set_at hb1 v', hks2.own H3.out.im (by decide), hrow2, hks2.own H3.out.pk (by decide)⟩, HF.out.client, fun _ => by simp⟩, HK3.out.trans (rt_of hks2 fun t ht => by rcases ht with rfl | rfl; exact .inr (.inr (.inl rfl)); exact .inl rfl)⟩
      have HW3 := Lib.hid hW3
      obtain ⟨i0, hi0, hy0, hy1, hy2⟩ := info_parts infoL
      have y4 := cell_of_blk H3.out.blk 4
      clear hi hc hz b2 b3 hk3 hlv hr hd hW3
      go_upto_region 10 with fail
      rw [← HW3.out]
      clear HW3 y6 z6
      go_wp2_with (at_builtin; refine wpList_append_own _ rfl _ _ 25 rfl B 43 i0 _ 1 24 Tryd.underlying25 hi0 hy0 hy1 hy2 rfl (by decide) _ _ _ rfl (ho.alloc _) ⟨W3.heap.size, 0, none⟩ 1 1 [.slice none 0 0] rfl rfl (cell_one_new _ _ _) (by simp [Value.oneCell']) hmm hmb (by simp; omega) ?_; intro v' w1 hown' hgrow _; obtain ⟨p0, p1, HFin⟩ := HAp.out v' w1 hown' hgrow; obtain ⟨g', cap', rfl⟩ := ownsRow_succ hown'; clear y4 hown' hgrow)
      go_ret
      exact HFin
    have t2 : (l.toList == [99, 108, 105, 101, 110, 116]) = false := by rw [text_beq, decide_eq_false_iff_not]; exact hc
    by_cases hp : a.data.toList = pickW
    · have t3 : (a.toList == [112, 105, 99, 107]) = true := by rw [text_beq, decide_eq_true_eq]; exact hp
      have HT := Lib.hid (tk_picks (s := S.m) (k := 2) (by decide) HCut.out hc hp)
      have HN := Lib.hid (picks_any m b B g S 2 vi vc vp w2 (by omega) HC2.out H2.out)
      clear hi hc hp hz
      go_wp2_with fail
      refine HN.out.mono ?_
      rintro e w3 ⟨ho, hk3⟩
      have HK3 := Lib.hid (HK2.out.trans hk3)
      clear hk3 HN
      rcases ho with ⟨ns, vp', hx, rfl, hr⟩ | ⟨hx, rfl⟩
      · have HFin : Hid (TakeO l n B g S 2 w (.returned (.bool true)) w3) := Lib.hid ⟨.inl ⟨{ S with pk := ns }, 3, vi, vc, vp', by rw [HT.out, hx]; rfl, rfl, hr, HF.out.picks (numsM_some hx).2.2, fun e => by cases e⟩, HK3.out⟩
        clear hx hr
        go_wp2_with fail
        go_ret
        exact HFin.out
      · have HFin : Hid (TakeO l n B g S 2 w (.returned (.bool false)) w3) := Lib.hid ⟨.inr ⟨by rw [HT.out, hx]; rfl, rfl⟩, HK3.out⟩
        clear hx
        go_wp2_with fail
        go_ret
        exact HFin.out
    have t3 : (a.toList == [112, 105, 99, 107]) = false := by rw [text_beq, decide_eq_false_iff_not]; exact hp
    have HT := Lib.hid (tk_call (s := S.m) (k := 2) (by decide) HCut.out hi hc hp)
    obtain ⟨aa, xx, hcl⟩ : ∃ aa xx, S.cl = aa ++ [xx] := ⟨S.cl.dropLast, S.cl.getLast (H2k.out rfl), (List.dropLast_concat_getLast (H2k.out rfl)).symm⟩
    have HN := Lib.hid (call_any m l B g S aa xx vi vc vp w2 hl (by have := HF.out.lc; omega) (by have := HF.out.lo xx (by rw [hcl]; simp); omega) hcl HC2.out H2.out)
    have HCl := Lib.hid hcl
    clear hi hc hp hz hcl
    go_wp2_with fail
    refine HN.out.mono ?_
    rintro e w3 ⟨ho, hk3⟩
    have HK3 := Lib.hid (HK2.out.trans hk3)
    clear hk3 HN
    rcases ho with ⟨o, hx, hof, rfl, hr⟩ | ⟨hx, rfl⟩
    · have HFin : Hid (TakeO l n B g S 2 w (.returned (.bool true)) w3) := Lib.hid ⟨.inl ⟨{ S with cl := aa ++ [xx ++ [o]] }, 2, vi, vc, vp, by
        rw [HT.out, if_pos trivial, hx]
        show some (⟨{ S.m with cl := snocOp (S.cl.map fun l => l.map OpB.m) o.m }, 2⟩ : Rd) = _
        rw [snoc_map o HCl.out]
        rfl, rfl, hr, HF.out.call HCl.out hof, fun _ => by simp⟩, HK3.out⟩
      clear hx hr hof
      go_wp2_with fail
      go_ret
      exact HFin.out
    · have HFin : Hid (TakeO l n B g S 2 w (.returned (.bool false)) w3) := Lib.hid ⟨.inr ⟨by rw [HT.out, if_pos trivial, hx]; rfl, rfl⟩, HK3.out⟩
      clear hx
      go_wp2_with fail
      go_ret
      exact HFin.out
  · have HFin : Hid (TakeO l n B g S 3 w (.returned (.bool false)) w2) := Lib.hid ⟨.inr ⟨tk3, rfl⟩, HK2.out⟩
    clear hz
    go_wp2_with fail
    go_ret
    exact HFin.out
end Go.Proofs.YtfbgnafnpeeonaaDoor.scr
