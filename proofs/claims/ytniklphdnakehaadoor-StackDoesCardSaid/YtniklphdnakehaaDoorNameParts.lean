/- What name.Split hands back, at any text: its parts, whether it begins at the root, or that it is none. Conditions: the text's length is one; the library's MaxLen holds a number. -/
import Derived.Test.YtniklphdnakehaaDoorNameSplit
namespace Go.Proofs.YtniklphdnakehaaDoor.name
set_option maxRecDepth 100000
open Go.RowKit Go.Proofs.YtniklphdnakehaaDoor.words

theorem info9 : (Tryd.prog.info? 9).map (fun i => (i.zero, i.size, i.bytes)) = some (some (.string ByteArray.empty), 1, 16) := by kernel_rfl

/-- strings.Split at a slash. -/
theorem cut_any (s : ByteArray) (m : Int) (w : World) (hs : s.size < 4294967281) (hm : w.cell? ⟨0, 0, none⟩ = some (.int .i64 m)) :
    Calls Tryd.prog 141 #[.string s, .string ⟨#[47]⟩] w fun e w' => ∃ P : List ByteArray, e = .returned (.slice (some ⟨w.heap.size, 0, none⟩) P.length P.length) ∧ P.map (fun x => x.data.toList) = cut s.data.toList ∧
      P.length ≤ s.size + 1 ∧ w.alloc (.cells (P.map Value.string).toArray 9) = w' :=
  (Tryd.strings_Split s ⟨#[47]⟩ m w hs hm (by decide)).mono fun e w' ⟨he, hw⟩ => by
    have hl : (Lib.splitB ⟨#[47]⟩ 0 (Lib.countB s ⟨#[47]⟩) s).length = Lib.countB s ⟨#[47]⟩ + 1 := Lib.splitB_all ⟨#[47]⟩ (by decide) 0 _ s rfl
    have hc := Lib.countB_le ⟨#[47]⟩ (by decide) s.size s (Nat.le_refl _)
    exact ⟨_, by rw [hl]; exact he, pieces_cut s, by rw [hl]; omega, hw.symm⟩

def keepB (p : ByteArray) : Bool := !idle p.data.toList
theorem idle_of {p : ByteArray} (h : p.toList = [] ∨ p.toList = [46]) : idle p.data.toList = true := by
  rw [to_list] at h
  rcases h with h | h <;> rw [h] <;> rfl
theorem idle_not {p : ByteArray} (h1 : p.toList ≠ []) (h2 : p.toList ≠ [46]) : idle p.data.toList = false := by
  rw [to_list] at h1 h2
  have e1 : (p.data.toList == []) = false := by rw [beq_eq_false_iff_ne]; exact h1
  have e2 : (p.data.toList == [46]) = false := by rw [beq_eq_false_iff_ne]; exact h2
  unfold idle
  rw [e1, e2]
  rfl
theorem take_more {P : List ByteArray} {j : Nat} {p : ByteArray} (h : P[j]? = some p) : P.take (j + 1) = P.take j ++ [p] := by
  rw [List.take_add_one, h]
  rfl
theorem filter_drop {P : List ByteArray} {j : Nat} {p : ByteArray} (h : P[j]? = some p) (hi : idle p.data.toList = true) : (P.take (j + 1)).filter keepB = (P.take j).filter keepB := by
  rw [take_more h, List.filter_append]
  simp [keepB, hi]
theorem filter_keep {P : List ByteArray} {j : Nat} {p : ByteArray} (h : P[j]? = some p) (hi : idle p.data.toList = false) : (P.take (j + 1)).filter keepB = (P.take j).filter keepB ++ [p] := by
  rw [take_more h, List.filter_append]
  simp [keepB, hi]
theorem good_more {P : List ByteArray} {j : Nat} {p : ByteArray} (h : P[j]? = some p) (hg : ∀ q ∈ P.take j, bad q.data.toList = false) (hp : bad p.data.toList = false) : ∀ q ∈ P.take (j + 1), bad q.data.toList = false := by
  rw [take_more h]
  intro q hq
  rcases List.mem_append.1 hq with hq | hq
  · exact hg q hq
  · rw [List.mem_singleton.1 hq]; exact hp
theorem good_idle {p : List UInt8} (h : idle p = true) : bad p = false := by unfold bad; rw [h]; rfl
theorem good_dots {p : List UInt8} (h : p = [46, 46]) : bad p = false := by rw [h]; rfl
theorem good_right {p : List UInt8} (h : right p = true) : bad p = false := by unfold bad; rw [h]; simp
theorem bad_not {p : List UInt8} (h1 : idle p = false) (h2 : p ≠ [46, 46]) (h3 : right p = false) : bad p = true := by
  have e : (p == [46, 46]) = false := by simpa using h2
  unfold bad; rw [h1, e, h3]; rfl
theorem parts_none_of {l : List UInt8} {P : List ByteArray} {p : ByteArray} (hP : P.map (fun x => x.data.toList) = cut l) (hp : p ∈ P) (hb : bad p.data.toList = true) : parts l = none := by
  unfold parts
  have h : (cut l).any bad = true := by
    rw [← hP, List.any_map]
    exact List.any_eq_true.2 ⟨p, hp, hb⟩
  rw [if_pos (.inr (.inr h))]
theorem parts_some_of {l : List UInt8} {P : List ByteArray} (h1 : 1 ≤ l.length) (h2 : l.length ≤ 1024) (hP : P.map (fun x => x.data.toList) = cut l) (hg : ∀ p ∈ P, bad p.data.toList = false) : parts l = some ((P.filter keepB).map fun x => x.data.toList) := by
  unfold parts
  rw [if_neg]
  · rw [← hP, List.filter_map]
    rfl
  · rintro (h | h | h)
    · omega
    · omega
    · rw [← hP, List.any_map, List.any_eq_true] at h
      obtain ⟨p, hp, hb⟩ := h
      have h2 : bad p.data.toList = true := hb
      rw [hg p hp] at h2
      cases h2

theorem cut_len : ∀ (l : List UInt8) (p : List UInt8), p ∈ cut l → p.length ≤ l.length
  | [], p, h => by
    have : p = [] := by simpa [cut] using h
    rw [this]
    exact Nat.zero_le _
  | b :: l, p, h => by
    have ih := cut_len l
    unfold cut at h
    split at h
    · rcases List.mem_cons.1 h with rfl | h
      · exact Nat.zero_le _
      · have := ih p h
        simp only [List.length_cons]; omega
    · split at h
      · rw [List.mem_singleton.1 h]; simp
      · rename_i q r hq
        rcases List.mem_cons.1 h with rfl | h
        · have := ih q (by rw [hq]; exact List.mem_cons_self)
          simp only [List.length_cons]; omega
        · have := ih p (by rw [hq]; exact List.mem_cons_of_mem _ h)
          simp only [List.length_cons]; omega
theorem piece_len {l : List UInt8} {P : List ByteArray} {p : ByteArray} {j : Nat} (hP : P.map (fun x => x.data.toList) = cut l) (hp : P[j]? = some p) : p.size ≤ l.length := by
  rw [← size_list]
  refine cut_len l _ ?_
  rw [← hP]
  exact List.mem_map.2 ⟨p, List.mem_of_getElem? hp, rfl⟩
theorem head_byte (s : ByteArray) (h : 0 < s.size) : ((s[0].toNat : Int) == 47) = (s.data.toList.head? == some 47) := by
  obtain ⟨⟨l⟩⟩ := s
  cases l with
  | nil => exact absurd h (by simp [ByteArray.size])
  | cons b l =>
    show ((b.toNat : Int) == 47) = (some b == some 47)
    rw [Bool.eq_iff_iff, beq_iff_eq, beq_iff_eq]
    constructor
    · intro e
      exact congrArg some (UInt8.toNat_inj.1 (by simpa using Int.ofNat_inj.1 e))
    · intro e
      rw [Option.some.inj e]
      rfl

theorem own_form {w : World} {base : Nat} {e : TypeId} {size n : Nat} {v : Value} {xs : List Value} (h : w.ownsRow base e size v n xs) : ∃ A c, v = .slice A n c := by
  rcases h.2 with ⟨rfl, rfl⟩ | ⟨g, cap, cur, rfl, _⟩
  · exact ⟨_, _, rfl⟩
  · exact ⟨_, _, rfl⟩
theorem own_base {w : World} {B B' : Nat} {e : TypeId} {size n : Nat} {v : Value} {xs : List Value} (h : w.ownsRow B e size v n xs) (hB : B' ≤ B) : w.ownsRow B' e size v n xs :=
  ⟨h.1, h.2.imp id fun ⟨g, cap, cur, hv, hb, hr⟩ => ⟨g, cap, cur, hv, Nat.le_trans hB hb, hr⟩⟩
theorem keep_below {B : Nat} {a w w4 : World} {e : TypeId} {size n : Nat} {v : Value} {xs : List Value} {o : Obj} (hb : Below B a w) (hown : w.ownsRow B e size v n xs) (hg : (w.alloc o).grownBy w4 v.ownBlock) (hB : B ≤ a.heap.size := by simp) : Below B a w4 :=
  ((hb.alloc (Nat.le_trans hB hb.size) o)).grown hg (by have := hb.size; simp; omega) (fun k hk => ((hown.lt k hk).1))

/-- What name.Split hands back. -/
def SplitsTo (B : Nat) (l : List UInt8) (e : Ending) (w' : World) : Prop :=
  (parts l = none ∧ e = .returned (.tuple #[.slice none 0 0, .bool false, .int .i64 1])) ∨
  ∃ (v : Value) (Q : List ByteArray), parts l = some (Q.map fun x => x.data.toList) ∧ e = .returned (.tuple #[v, .bool (l.head? == some 47), .int .i64 0]) ∧ w'.ownsRow B 9 1 v Q.length (Q.map Value.string)

set_option maxHeartbeats 3200000 in
theorem split_any (s : ByteArray) (m : Int) (w : World) (hs : s.size ≤ 9223372036854775807) (hm : w.cell? ⟨0, 0, none⟩ = some (.int .i64 m)) :
    Calls Tryd.prog 136 #[.string s] w fun e w' => SplitsTo w.heap.size s.data.toList e w' ∧ Below w.heap.size w w' := by
  have hl : s.data.toList.length = s.size := size_list s
  by_cases e0 : s.size < 1
  · have hp : parts s.data.toList = none := by unfold parts; rw [if_pos (.inl (by omega))]
    have HP := Lib.hid hp
    clear hl hm hp
    go_enter Tryd.func136, Tryd.ntmps136
    go_wp2
    go_ret3
    exact ⟨.inl ⟨HP.out, rfl⟩, Below.refl _ _⟩
  · have d0 : decide ((s.size : Int) < 1) = false := by simp; omega
    by_cases e3 : 1024 < s.size
    · have hp : parts s.data.toList = none := by unfold parts; rw [if_pos (.inr (.inl (by omega)))]
      have HP := Lib.hid hp
      clear hl hm hp
      go_enter Tryd.func136, Tryd.ntmps136
      go_wp2
      go_ret3
      exact ⟨.inl ⟨HP.out, rfl⟩, Below.refl _ _⟩
    · have d3 : decide (1024 < (s.size : Int)) = false := by simp; omega
      obtain ⟨i0, hi, hz0, hz1, hz2⟩ := info_parts info9
      have HM := Lib.hid hm
      have HLn := Lib.hid hl
      clear hm hl
      go_enter Tryd.func136, Tryd.ntmps136
      go_wp2_with fail
      refine (cut_any s m _ (by omega) HM.out).mono ?_
      rintro e w' ⟨P, rfl, hP, hPl, rfl⟩
      have HP := Lib.hid hP
      clear hP d0 d3
      go_wp2_with fail
      go_loopw [2, 18] (fun v c wr => ∃ (j : Nat) (Q : List ByteArray), j ≤ P.length ∧ c = .int .i64 j ∧ Q = (P.take j).filter keepB ∧ (∀ q ∈ P.take j, bad q.data.toList = false) ∧ wr.ownsRow (w.heap.size + 1) 9 1 v Q.length (Q.map Value.string) ∧
          Below (w.heap.size + 1) (w.alloc (.cells (P.map Value.string).toArray 9)) wr)
        (fun _ c _ => P.length - (intOf c).toNat)
      case atStart => exact ⟨0, [], Nat.zero_le _, rfl, rfl, by simp, World.ownsRow_nil _ _ _ _, Below.refl _ _⟩
      case round =>
        obtain ⟨j, Q, hj, rfl, hQ, hg, hown, hbel⟩ := hrel
        have HQ := Lib.hid hQ
        have HG := Lib.hid hg
        have HB := Lib.hid hbel
        have hQl : Q.length ≤ 1025 := by
          rw [hQ]
          have h1 := List.length_filter_le keepB (P.take j)
          have h2 : (P.take j).length ≤ P.length := List.length_take_le' _ _
          omega
        have HO := Lib.hid hown
        clear hQ hg hown
        by_cases hlt : j < P.length
        · obtain ⟨p, hp⟩ : ∃ p, P[j]? = some p := ⟨_, List.getElem?_eq_getElem hlt⟩
          have hcell : wr.cell? ⟨w.heap.size, j, none⟩ = some (.string p) := by
            rw [hbel.cell (p := ⟨w.heap.size, j, none⟩) (by simp)]
            rw [cell_of_blk (heap_alloc_new w _) j]
            simp [hp]
          have HPj := Lib.hid hp
          clear hp hbel
          by_cases c0 : p.toList = []
          · have f0 : p.toList.isEmpty = true := by rw [c0]; rfl
            have HI := Lib.hid (idle_of (.inl c0))
            clear c0
            go_wp2_with fail
            go_roundw
            case rel => exact ⟨j + 1, Q, by omega, by go_num, by rw [filter_drop HPj.out HI.out]; exact HQ.out, good_more HPj.out HG.out (good_idle HI.out), HO.out, HB.out⟩
            case measure => simp [intOf]; omega
          · have f0 : p.toList.isEmpty = false := by simpa using c0
            by_cases c1 : p.toList = [46]
            · have f1 : (p.toList == [46]) = true := by rw [c1]; rfl
              have HI := Lib.hid (idle_of (.inr c1))
              clear c1
              go_wp2_with fail
              go_roundw
              case rel => exact ⟨j + 1, Q, by omega, by go_num, by rw [filter_drop HPj.out HI.out]; exact HQ.out, good_more HPj.out HG.out (good_idle HI.out), HO.out, HB.out⟩
              case measure => simp [intOf]; omega
            · have f1 : (p.toList == [46]) = false := by simpa using c1
              have HI := Lib.hid (idle_not c0 c1)
              by_cases c2 : p.toList = [46, 46]
              · have f2 : (p.toList != [46, 46]) = false := by rw [c2]; rfl
                have f3 : (p.toList == [46, 46]) = true := by rw [c2]; rfl
                have HD := Lib.hid (good_dots (by rw [← to_list]; exact c2) : bad p.data.toList = false)
                clear c0 c1 c2
                go_wp2_with (at_builtin; refine wpList_append_lies _ rfl (.tmp 35) (.tmp 37) _ rfl (w.heap.size + 1) 9 i0 _ 1 16 Tryd.underlying23 hi hz0 hz1 hz2 rfl (by omega) _ _ _ rfl (HO.out.alloc _) ⟨wr.heap.size, 0, none⟩ 1 1 [.string p] rfl rfl (World.news_of_block (cs := #[.string p]) (t := 9) (fr := (0, 0)) (heap_alloc_new wr _)) (by simp [Value.oneCell']) (by omega) (by simp only [maxLen]; omega) (by omega) (by have := HB.out.size; simp at this ⊢; omega) (wr.heap.size + 1) (by simp) ?_; intro gg gc w4 hown4 hgrow hat hlt4)
                have HB4 := Lib.hid (keep_below HB.out HO.out hgrow)
                clear hgrow hat
                go_roundw
                case rel => exact ⟨j + 1, Q ++ [p], by omega, by go_num, by rw [filter_keep HPj.out HI.out, ← HQ.out], good_more HPj.out HG.out HD.out, by simpa using hown4, HB4.out⟩
                case measure => simp [intOf]; omega
              · have f2 : (p.toList != [46, 46]) = true := by simpa using c2
                have f3 : (p.toList == [46, 46]) = false := by simpa using c2
                have hps : p.size ≤ 9223372036854775807 := by have := piece_len HP.out HPj.out; rw [HLn.out] at this; omega
                have c2' : p.data.toList ≠ [46, 46] := by rw [← to_list]; exact c2
                rcases hr : right p.data.toList with _ | _
                · have HN := Lib.hid (parts_none_of HP.out (List.mem_of_getElem? HPj.out) (bad_not HI.out c2' hr))
                  have HR := Lib.hid hr
                  clear c0 c1 c2 c2' hr
                  go_wp2_with fail
                  refine (right_no p _ hps HR.out).mono ?_
                  rintro e w' ⟨rfl, rfl⟩
                  go_wp2_with fail
                  go_ret3
                  exact ⟨.inl ⟨HN.out, rfl⟩, ((Below.refl _ w).alloc (Nat.le_refl _) _).trans (HB.out.mono (by omega))⟩
                · have HR := Lib.hid hr
                  have HD := Lib.hid (good_right hr)
                  clear c0 c1 c2 c2' hr
                  go_wp2_with fail
                  refine (right_yes p _ hps HR.out).mono ?_
                  rintro e w' ⟨rfl, rfl⟩
                  go_wp2_with (at_builtin; refine wpList_append_lies _ rfl (.tmp 35) (.tmp 37) _ rfl (w.heap.size + 1) 9 i0 _ 1 16 Tryd.underlying23 hi hz0 hz1 hz2 rfl (by omega) _ _ _ rfl (HO.out.alloc _) ⟨wr.heap.size, 0, none⟩ 1 1 [.string p] rfl rfl (World.news_of_block (cs := #[.string p]) (t := 9) (fr := (0, 0)) (heap_alloc_new wr _)) (by simp [Value.oneCell']) (by omega) (by simp only [maxLen]; omega) (by omega) (by have := HB.out.size; simp at this ⊢; omega) (wr.heap.size + 1) (by simp) ?_; intro gg gc w4 hown4 hgrow hat hlt4)
                  have HB4 := Lib.hid (keep_below HB.out HO.out hgrow)
                  clear hgrow hat
                  go_roundw
                  case rel => exact ⟨j + 1, Q ++ [p], by omega, by go_num, by rw [filter_keep HPj.out HI.out, ← HQ.out], good_more HPj.out HG.out HD.out, by simpa using hown4, HB4.out⟩
                  case measure => simp [intOf]; omega
        · have hje : P.take j = P := List.take_of_length_le (by omega)
          rw [hje] at HG HQ
          have HS := Lib.hid (parts_some_of (by rw [HLn.out]; omega) (by rw [HLn.out]; omega) HP.out HG.out)
          have h0s : 0 < s.size := by omega
          have HH := Lib.hid (head_byte s h0s)
          obtain ⟨QA, qc, rfl⟩ := own_form HO.out
          have hi0 : (0 : Int) < (s.size : Int) := by omega
          go_wp2_with fail
          go_region
          go_wp2
          go_ret3
          refine ⟨.inr ⟨_, Q, by rw [HQ.out]; exact HS.out, ?_, own_base HO.out.drew (by omega)⟩, ((Below.refl _ w).alloc (Nat.le_refl _) _).trans ((HB.out.mono (by omega)).drew)⟩
          rw [← HH.out]
          rfl
end Go.Proofs.YtniklphdnakehaaDoor.name
