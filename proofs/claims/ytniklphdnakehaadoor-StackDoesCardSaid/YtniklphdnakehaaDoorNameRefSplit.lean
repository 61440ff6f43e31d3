/- What the reference's Split hands back, at any text: the parts, or that it is no path. Condition: the text's length is one. -/
import Derived.Test.YtniklphdnakehaaDoorNameSame
namespace Go.Proofs.YtniklphdnakehaaDoor.name
set_option maxRecDepth 100000
open Go.RowKit Go.Proofs.YtniklphdnakehaaDoor.words

theorem cut_single : ∀ p : List UInt8, (47 : UInt8) ∉ p → cut p = [p]
  | [], _ => rfl
  | b :: p, h => by
    have hb : b ≠ 47 := fun e => h (by rw [e]; exact List.mem_cons_self)
    rw [cut, if_neg hb, cut_single p (fun hm => h (List.mem_cons_of_mem _ hm))]
theorem cut_pre (r : List UInt8) : ∀ p : List UInt8, (47 : UInt8) ∉ p → cut (p ++ 47 :: r) = p :: cut r
  | [], _ => by rw [List.nil_append, cut, if_pos rfl]
  | b :: p, h => by
    have hb : b ≠ 47 := fun e => h (by rw [e]; exact List.mem_cons_self)
    rw [List.cons_append, cut, if_neg hb, cut_pre r p (fun hm => h (List.mem_cons_of_mem _ hm))]
theorem cut_count : ∀ l : List UInt8, (cut l).length ≤ l.length + 1
  | [] => Nat.le_refl _
  | b :: l => by
    have ih := cut_count l
    unfold cut
    split
    · simp only [List.length_cons]; omega
    · split
      · simp
      · rename_i q r hq
        rw [hq] at ih
        simp only [List.length_cons] at ih ⊢
        omega
/-- Where a piece ends: at a slash, or at the end. -/
theorem piece_at (s : ByteArray) (f i : Nat) (hfi : f ≤ i) (hn : (47 : UInt8) ∉ (s.data.toList.drop f).take (i - f)) (h : i = s.size ∨ ∃ hlt : i < s.size, s[i] = 47) :
    cut (s.data.toList.drop f) = (s.extract f i).data.toList :: (if i < s.size then cut (s.data.toList.drop (i + 1)) else []) := by
  have he : (s.extract f i).data.toList = (s.data.toList.drop f).take (i - f) := Lib.extract_data s f i
  rw [he]
  have hl := size_list s
  rcases h with h | ⟨hlt, h⟩
  · rw [if_neg (by omega)]
    have e : (s.data.toList.drop f).take (i - f) = s.data.toList.drop f := List.take_of_length_le (by rw [List.length_drop]; omega)
    rw [e] at hn ⊢
    exact cut_single _ hn
  · rw [if_pos hlt]
    have e : s.data.toList.drop f = (s.data.toList.drop f).take (i - f) ++ 47 :: s.data.toList.drop (i + 1) := by
      have e1 : (s.data.toList.drop f).drop (i - f) = s.data.toList.drop i := by rw [List.drop_drop]; congr 1; omega
      have e2 : s.data.toList.drop i = s[i] :: s.data.toList.drop (i + 1) := by
        rw [List.drop_eq_getElem_cons (by omega)]
        rfl
      rw [← h, ← e2, ← e1, List.take_append_drop]
    have := cut_pre (s.data.toList.drop (i + 1)) _ hn
    rw [← e] at this
    exact this
theorem more_clean (s : ByteArray) (f i : Nat) (hfi : f ≤ i) (hlt : i < s.size) (hn : (47 : UInt8) ∉ (s.data.toList.drop f).take (i - f)) (h : s[i] ≠ 47) : (47 : UInt8) ∉ (s.data.toList.drop f).take (i + 1 - f) := by
  have e : i + 1 - f = i - f + 1 := by omega
  have hl := size_list s
  rw [e, List.take_succ_eq_append_getElem (by rw [List.length_drop]; omega)]
  intro hm
  rcases List.mem_append.1 hm with hm | hm
  · exact hn hm
  · rw [List.mem_singleton, List.getElem_drop] at hm
    apply h
    rw [hm]
    show s.data.toList[i] = s.data.toList[f + (i - f)]
    congr 1
    omega

theorem refright_yes (s : ByteArray) (w : World) (hs : s.size ≤ 9223372036854775807) (h : right s.data.toList = true) : Calls Tryd.prog 138 #[.string s] w fun e w' => e = .returned (.bool true) ∧ w = w' :=
  (refright_any s w hs).mono fun _ _ ⟨he, hw⟩ => ⟨by rw [he, h], hw⟩
theorem refright_no (s : ByteArray) (w : World) (hs : s.size ≤ 9223372036854775807) (h : right s.data.toList = false) : Calls Tryd.prog 138 #[.string s] w fun e w' => e = .returned (.bool false) ∧ w = w' :=
  (refright_any s w hs).mono fun _ _ ⟨he, hw⟩ => ⟨by rw [he, h], hw⟩

/-- How far the reference's loop has come: the places, the pieces behind it, what is kept of them. -/
structure Come (s : ByteArray) (i f : Nat) (ps : List (List UInt8)) (Q : List ByteArray) : Prop where
  le : f ≤ i
  most : i ≤ s.size + 1
  some_ : i ≤ s.size → cut s.data.toList = ps ++ cut (s.data.toList.drop f) ∧ (47 : UInt8) ∉ (s.data.toList.drop f).take (i - f)
  none_ : i = s.size + 1 → cut s.data.toList = ps
  good : ∀ p ∈ ps, bad p = false
  kept : Q.map (fun x => x.data.toList) = ps.filter fun p => !idle p
theorem Come.start (s : ByteArray) : Come s 0 0 [] [] := ⟨Nat.le_refl _, Nat.zero_le _, fun _ => ⟨by simp, by simp⟩, fun h => by omega, by simp, rfl⟩
theorem Come.on {s : ByteArray} {i f : Nat} {ps : List (List UInt8)} {Q : List ByteArray} (h : Come s i f ps Q) (hlt : i < s.size) (hb : s[i] ≠ 47) : Come s (i + 1) f ps Q :=
  ⟨Nat.le_succ_of_le h.le, by omega, fun _ => ⟨(h.some_ (by omega)).1, more_clean s f i h.le hlt (h.some_ (by omega)).2 hb⟩, fun e => by omega, h.good, h.kept⟩
theorem Come.piece {s : ByteArray} {i f : Nat} {ps : List (List UInt8)} {Q : List ByteArray} (h : Come s i f ps Q) (hi : i ≤ s.size) (he : i = s.size ∨ ∃ hlt : i < s.size, s[i] = 47) :
    cut s.data.toList = ps ++ ((s.extract f i).data.toList :: (if i < s.size then cut (s.data.toList.drop (i + 1)) else [])) := by
  rw [← piece_at s f i h.le (h.some_ hi).2 he]
  exact (h.some_ hi).1
theorem Come.next {s : ByteArray} {i f : Nat} {ps : List (List UInt8)} {Q Q' : List ByteArray} (h : Come s i f ps Q) (hi : i ≤ s.size) (he : i = s.size ∨ ∃ hlt : i < s.size, s[i] = 47)
    (hg : bad (s.extract f i).data.toList = false) (hQ : Q' = if idle (s.extract f i).data.toList then Q else Q ++ [s.extract f i]) : Come s (i + 1) (i + 1) (ps ++ [(s.extract f i).data.toList]) Q' := by
  have hp := h.piece hi he
  refine ⟨Nat.le_refl _, by omega, fun hle => ⟨?_, by simp⟩, fun hee => ?_, fun p hm => ?_, ?_⟩
  · rw [hp, if_pos (by omega), List.append_assoc]; rfl
  · rw [hp, if_neg (by omega)]
  · rcases List.mem_append.1 hm with hm | hm
    · exact h.good p hm
    · rw [List.mem_singleton.1 hm]; exact hg
  · rw [hQ, List.filter_append, ← h.kept]
    generalize s.extract f i = x
    cases hid : idle x.data.toList <;> simp [hid]
theorem Come.count {s : ByteArray} {i f : Nat} {ps : List (List UInt8)} {Q : List ByteArray} (h : Come s i f ps Q) : Q.length ≤ s.size + 1 := by
  have h1 : Q.length = (ps.filter fun p => !idle p).length := by rw [← h.kept, List.length_map]
  have h2 := List.length_filter_le (fun p => !idle p) ps
  have h3 := cut_count s.data.toList
  have h4 : ps.length ≤ (cut s.data.toList).length := by
    by_cases hi : i ≤ s.size
    · rw [(h.some_ hi).1, List.length_append]; omega
    · rw [h.none_ (by have := h.most; omega)]; exact Nat.le_refl _
  rw [size_list] at h3
  omega
theorem Come.bad_ {s : ByteArray} {i f : Nat} {ps : List (List UInt8)} {Q : List ByteArray} (h : Come s i f ps Q) (hi : i ≤ s.size) (he : i = s.size ∨ ∃ hlt : i < s.size, s[i] = 47)
    (hb : bad (s.extract f i).data.toList = true) : parts s.data.toList = none := by
  unfold parts
  have : (cut s.data.toList).any bad = true := by
    rw [h.piece hi he, List.any_append, List.any_cons, hb]
    simp
  rw [if_pos (.inr (.inr this))]
theorem Come.done {s : ByteArray} {i f : Nat} {ps : List (List UInt8)} {Q : List ByteArray} (h : Come s i f ps Q) (hi : ¬ i ≤ s.size) (h1 : 1 ≤ s.size) (h2 : s.size ≤ 1024) : parts s.data.toList = some (Q.map fun x => x.data.toList) := by
  have hc := h.none_ (by have := h.most; omega)
  unfold parts
  rw [if_neg, hc, h.kept]
  rw [size_list, hc]
  rintro (h | h' | h')
  · omega
  · omega
  · rw [List.any_eq_true] at h'
    obtain ⟨p, hp, hb⟩ := h'
    rw [h.good p hp] at hb
    cases hb

/-- What the reference's Split hands back. -/
def RefTo (B : Nat) (l : List UInt8) (e : Ending) (w' : World) : Prop :=
  (parts l = none ∧ e = .returned (.tuple #[.slice none 0 0, .bool false])) ∨
  ∃ (v : Value) (Q : List ByteArray), parts l = some (Q.map fun x => x.data.toList) ∧ e = .returned (.tuple #[v, .bool true]) ∧ w'.ownsRow B 9 1 v Q.length (Q.map Value.string)

set_option maxHeartbeats 6400000 in
theorem refsplit_any (s : ByteArray) (w : World) (hs : s.size ≤ 9223372036854775807) :
    Calls Tryd.prog 128 #[.string s] w fun e w' => RefTo w.heap.size s.data.toList e w' ∧ Below w.heap.size w w' := by
  have hl : s.data.toList.length = s.size := size_list s
  by_cases e0 : s.size < 1
  · have hp : parts s.data.toList = none := by unfold parts; rw [if_pos (.inl (by omega))]
    have HP := Lib.hid hp
    clear hl hp
    go_enter Tryd.func128, Tryd.ntmps128
    go_wp2
    go_ret2
    exact ⟨.inl ⟨HP.out, rfl⟩, Below.refl _ _⟩
  · have d0 : decide ((s.size : Int) < 1) = false := by simp; omega
    by_cases e3 : 1024 < s.size
    · have hp : parts s.data.toList = none := by unfold parts; rw [if_pos (.inr (.inl (by omega)))]
      have HP := Lib.hid hp
      clear hl hp
      go_enter Tryd.func128, Tryd.ntmps128
      go_wp2
      go_ret2
      exact ⟨.inl ⟨HP.out, rfl⟩, Below.refl _ _⟩
    · have d3 : decide (1024 < (s.size : Int)) = false := by simp; omega
      obtain ⟨i0, hi, hz0, hz1, hz2⟩ := info_parts info9
      clear hl
      go_enter Tryd.func128, Tryd.ntmps128
      go_wp2_with fail
      clear d0 d3
      go_loopw [4, 5, 6] (fun v a c wr => ∃ (i f : Nat) (ps : List (List UInt8)) (Q : List ByteArray), Come s i f ps Q ∧ c = .int .i64 i ∧ a = .int .i64 f ∧ wr.ownsRow w.heap.size 9 1 v Q.length (Q.map Value.string) ∧ Below w.heap.size w wr)
        (fun _ _ c _ => s.size + 1 - (intOf c).toNat)
      case atStart =>
        exact ⟨0, 0, [], [], Come.start s, rfl, rfl, World.ownsRow_made w #[] 0 (Nat.le_refl _) (by decide) rfl, (Below.refl _ _).alloc (Nat.le_refl _) _⟩
      case round =>
        obtain ⟨i, f, ps, Q, hcome, rfl, rfl, hown, hbel⟩ := hrel
        have HC := Lib.hid hcome
        have hfi := hcome.le
        have hQl := hcome.count
        have hmost := hcome.most
        have HO := Lib.hid hown
        have HB := Lib.hid hbel
        clear hcome hown hbel
        by_cases hle : i ≤ s.size
        · by_cases hgo : ∃ hlt : i < s.size, s[i] ≠ 47
          · obtain ⟨hlt, hb⟩ := hgo
            have g1 : ((s[i].toNat : Int) != 47) = true := by
              rw [bne_iff_ne]
              intro e
              exact hb (UInt8.toNat_inj.1 (by simpa using Int.ofNat_inj.1 e))
            have HN := Lib.hid (HC.out.on hlt hb)
            clear hb
            go_wp2_with fail
            go_roundw
            case rel => exact ⟨i + 1, f, ps, Q, HN.out, by go_num, rfl, HO.out, HB.out⟩
            case measure => simp [intOf]; omega
          · have he : i = s.size ∨ ∃ hlt : i < s.size, s[i] = 47 := by
              by_cases hlt : i < s.size
              · refine .inr ⟨hlt, ?_⟩
                by_cases hb : s[i] = 47
                · exact hb
                · exact absurd ⟨hlt, hb⟩ hgo
              · exact .inl (by omega)
            have N := fun Q' hg hQ => HC.out.next (Q' := Q') hle he hg hQ
            have BD := fun hb => HC.out.bad_ hle he hb
            obtain ⟨p, hp⟩ : ∃ p, p = s.extract f i := ⟨_, rfl⟩
            have hps : p.size ≤ 9223372036854775807 := by rw [hp, ByteArray.size_extract]; omega
            rw [← hp] at N BD
            have HN := Lib.hid N
            have HBD := Lib.hid BD
            have hsl : ∀ wx : World, (Instr.slice 9 (.string s) (some (.int .i64 (f : Int))) (some (.int .i64 (i : Int))) none).run Tryd.prog wx = .ok (.string p) wx := fun wx => by
              rw [run_slice_string_if (P := Tryd.prog) (w := wx) 9 s .i64 .i64 f i Tryd.underlying9, if_pos ⟨by omega, by omega⟩, if_pos ⟨by omega, by omega⟩, hp]
              rfl
            have hcase : (∃ hlt : i < s.size, ((s[i].toNat : Int) != 47) = false) ∨ ¬ i < s.size := by
              rcases he with h | ⟨hlt, h⟩
              · exact .inr (by omega)
              · exact .inl ⟨hlt, by rw [h]; rfl⟩
            clear N BD hgo he hp
            by_cases c0 : p.toList = []
            · have f0 : p.toList.isEmpty = true := by rw [c0]; rfl
              have HI := Lib.hid (idle_of (.inl c0))
              clear c0
              rcases hcase with ⟨hlt, g1⟩ | hlt
              all_goals
                go_wp2_with fail
                go_roundw
                case rel => exact ⟨i + 1, i + 1, _, Q, HN.out Q (good_idle HI.out) (by rw [HI.out]; rfl), by go_num, by go_num, HO.out, HB.out⟩
                case measure => simp [intOf]; omega
            · have f0 : p.toList.isEmpty = false := by simpa using c0
              by_cases c1 : p.toList = [46]
              · have f1 : (p.toList == [46]) = true := by rw [c1]; rfl
                have HI := Lib.hid (idle_of (.inr c1))
                clear c1 c0
                rcases hcase with ⟨hlt, g1⟩ | hlt
                all_goals
                  go_wp2_with fail
                  go_roundw
                  case rel => exact ⟨i + 1, i + 1, _, Q, HN.out Q (good_idle HI.out) (by rw [HI.out]; rfl), by go_num, by go_num, HO.out, HB.out⟩
                  case measure => simp [intOf]; omega
              · have f1 : (p.toList == [46]) = false := by simpa using c1
                have HI := Lib.hid (idle_not c0 c1)
                by_cases c2 : p.toList = [46, 46]
                · have f2 : (p.toList != [46, 46]) = false := by rw [c2]; rfl
                  have f3 : (p.toList == [46, 46]) = true := by rw [c2]; rfl
                  have HD := Lib.hid (good_dots (by rw [← to_list]; exact c2) : bad p.data.toList = false)
                  clear c0 c1 c2
                  rcases hcase with ⟨hlt, g1⟩ | hlt
                  all_goals
                    go_wp2_with (at_builtin; refine wpList_append_lies _ rfl (.tmp 52) (.tmp 54) _ rfl w.heap.size 9 i0 _ 1 16 Tryd.underlying23 hi hz0 hz1 hz2 rfl (by omega) _ _ _ rfl (HO.out.alloc _) ⟨wr.heap.size, 0, none⟩ 1 1 [.string p] rfl rfl (World.news_of_block (cs := #[.string p]) (t := 9) (fr := (0, 0)) (heap_alloc_new wr _)) (by simp [Value.oneCell']) (by omega) (by simp only [maxLen]; omega) (by omega) (by have := HB.out.size; simp at this ⊢; omega) (wr.heap.size + 1) (by simp) ?_; intro gg gc w4 hown4 hgrow hat hlt4)
                    have HB4 := Lib.hid (keep_below HB.out HO.out hgrow (Nat.le_refl _))
                    clear hgrow hat
                    go_roundw
                    case rel => exact ⟨i + 1, i + 1, _, Q ++ [p], HN.out (Q ++ [p]) HD.out (by rw [HI.out]; rfl), by go_num, by go_num, by simpa using hown4, HB4.out⟩
                    case measure => simp [intOf]; omega
                · have f2 : (p.toList != [46, 46]) = true := by simpa using c2
                  have f3 : (p.toList == [46, 46]) = false := by simpa using c2
                  have c2' : p.data.toList ≠ [46, 46] := by rw [← to_list]; exact c2
                  rcases hr : right p.data.toList with _ | _
                  · have HNo := Lib.hid (HBD.out (bad_not HI.out c2' hr))
                    have HR := Lib.hid hr
                    clear c0 c1 c2 c2' hr
                    rcases hcase with ⟨hlt, g1⟩ | hlt
                    all_goals
                      go_wp2_with fail
                      refine (refright_no p _ hps HR.out).mono ?_
                      rintro e w' ⟨rfl, rfl⟩
                      go_wp2_with fail
                      go_ret2
                      exact ⟨.inl ⟨HNo.out, rfl⟩, HB.out⟩
                  · have HR := Lib.hid hr
                    have HD := Lib.hid (good_right hr)
                    clear c0 c1 c2 c2' hr
                    rcases hcase with ⟨hlt, g1⟩ | hlt
                    all_goals
                      go_wp2_with fail
                      refine (refright_yes p _ hps HR.out).mono ?_
                      rintro e w' ⟨rfl, rfl⟩
                      go_wp2_with (at_builtin; refine wpList_append_lies _ rfl (.tmp 52) (.tmp 54) _ rfl w.heap.size 9 i0 _ 1 16 Tryd.underlying23 hi hz0 hz1 hz2 rfl (by omega) _ _ _ rfl (HO.out.alloc _) ⟨wr.heap.size, 0, none⟩ 1 1 [.string p] rfl rfl (World.news_of_block (cs := #[.string p]) (t := 9) (fr := (0, 0)) (heap_alloc_new wr _)) (by simp [Value.oneCell']) (by omega) (by simp only [maxLen]; omega) (by omega) (by have := HB.out.size; simp at this ⊢; omega) (wr.heap.size + 1) (by simp) ?_; intro gg gc w4 hown4 hgrow hat hlt4)
                      have HB4 := Lib.hid (keep_below HB.out HO.out hgrow (Nat.le_refl _))
                      clear hgrow hat
                      go_roundw
                      case rel => exact ⟨i + 1, i + 1, _, Q ++ [p], HN.out (Q ++ [p]) HD.out (by rw [HI.out]; rfl), by go_num, by go_num, by simpa using hown4, HB4.out⟩
                      case measure => simp [intOf]; omega
        · have HD := Lib.hid (HC.out.done hle (by omega) (by omega))
          go_wp2_with fail
          go_ret2
          exact ⟨.inr ⟨_, Q, HD.out, rfl, HO.out⟩, HB.out⟩
end Go.Proofs.YtniklphdnakehaaDoor.name
