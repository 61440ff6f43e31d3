/- What extent.Of answers of any bytes: their extents, in memory of its own. Condition: the bytes are no more than a million. -/
import Derived.Test.YtkbhcncbpiimdaaGreatDoorJB8
import Derived.Test.YtkbhcncbpiimdaaGreatDoorJB5
import Derived.Test.YtkbhcncbpiimdaaGreatDoorShelf
import Derived.Deep.AppendLies
namespace Go.Proofs.YtkbhcncbpiimdaaGreatDoor.ext
set_option maxRecDepth 100000
open Go.RowKit Go.Proofs.YtkbhcncbpiimdaaGreatDoor.words

theorem clone_any (s : ByteArray) (w : World) (hs : s.size ≤ 140737488355328) :
    Calls Tryz.prog 118 #[.string s] w fun e w' => e = .returned (.string s) ∧ Below w.heap.size w w' := by
  go_enter Tryz.func118, Tryz.ntmps118
  go_wp2_with fail
  refine (Tryz.stringslite_Clone s _ (by omega)).mono ?_
  rintro e w2 ⟨rfl, hb2⟩
  have HB2 := Lib.hid hb2
  clear hb2
  go_wp2_with fail
  go_ret
  exact ⟨rfl, HB2.out⟩
theorem own_below {w w' : World} {base : Nat} {e : TypeId} {size n : Nat} {v : Value} {xs : List Value} (h : w.ownsRow base e size v n xs) (hb : Below w.heap.size w w') : w'.ownsRow base e size v n xs :=
  (Kept.of_below hb (fun _ => False) 0).own h (by simp)
theorem byte_at (s : ByteArray) (k : Nat) (h : k < s.size) : byteAt s k = s[k]'h := by
  have : s[k]'h = s.data.toList[k]'(by rw [size_list]; exact h) := rfl
  unfold byteAt
  rw [this, List.getD_eq_getElem?_getD, List.getElem?_eq_getElem (by rw [size_list]; exact h)]
  rfl
theorem ofSt_le {s : ByteArray} {k f : Nat} {L : List Ex} (hk : k ≤ s.size + 1) (h : ofSt s k = (f, L)) : f ≤ k ∧ L.length ≤ f := by
  have hi := ofInv s k hk
  rw [h] at hi
  exact ⟨hi.le, hi.count⟩

set_option maxHeartbeats 3200000 in
theorem of_any (s : ByteArray) (w : World) (hs : s.size ≤ 1000000) :
    Calls Tryz.prog 77 #[.string s] w fun e w' => (∃ A c, e = .returned (.slice A (ofB s).length c) ∧ w'.ownsRow w.heap.size 199 2 (.slice A (ofB s).length c) (ofB s).length (exCells (ofB s))) ∧ Below w.heap.size w w' := by
  obtain ⟨i0, hi, hz0, hz1, hz2⟩ := info_parts infoExt
  go_enter Tryz.func77, Tryz.ntmps77
  go_wp2_with fail
  go_loopw [3, 4, 9] (fun v a c wr => ∃ (k f : Nat) (L : List Ex) (va : Option Addr) (vc : Nat), k ≤ s.size + 1 ∧ c = .int .i64 k ∧ a = .int .i64 f ∧ v = .slice va L.length vc ∧ Hid (ofSt s k = (f, L)) ∧ wr.ownsRow w.heap.size 199 2 (.slice va L.length vc) L.length (exCells L) ∧ Below w.heap.size w wr)
    (fun _ _ c _ => s.size + 1 - (intOf c).toNat)
  case atStart => exact ⟨0, 0, [], none, 0, Nat.zero_le _, rfl, rfl, rfl, Lib.hid rfl, World.ownsRow_nil _ _ _ _, Below.refl _ _⟩
  case round =>
    obtain ⟨k, f, L, va, vc, hk, rfl, rfl, rfl, HS, hown, hbel⟩ := hrel
    have HO := Lib.hid hown
    have HB := Lib.hid hbel
    obtain ⟨hfk, hLf⟩ := ofSt_le hk HS.out
    clear hown hbel
    by_cases hle : k ≤ s.size
    · by_cases hgo : k < s.size ∧ byteAt s k ≠ 0
      · have HN := Lib.hid (show ofSt s (k + 1) = (f, L) by rw [ofSt_on hgo]; exact HS.out)
        obtain ⟨hlt, hb⟩ := hgo
        have g1 : ((s[k].toNat : Int) != 0) = true := by
          rw [bne_iff_ne]
          intro e
          refine hb ?_
          rw [byte_at s k hlt]
          exact UInt8.toNat_inj.1 (by simpa using Int.ofNat_inj.1 e)
        clear hb
        go_wp2_with fail
        go_roundw
        case rel => exact ⟨k + 1, f, L, va, vc, by omega, by go_num, rfl, rfl, HN, HO.out, HB.out⟩
        case measure => simp [intOf]; omega
      · have hcase : (∃ hlt : k < s.size, ((s[k].toNat : Int) != 0) = false) ∨ ¬ k < s.size := by
          by_cases hlt : k < s.size
          · refine .inl ⟨hlt, ?_⟩
            have : byteAt s k = 0 := Decidable.byContradiction fun h => hgo ⟨hlt, h⟩
            rw [byte_at s k hlt] at this
            rw [this]
            rfl
          · exact .inr hlt
        by_cases hf : f < k
        · have HN := Lib.hid (show ofSt s (k + 1) = (k + 1, L ++ [⟨(f : Int), s.extract f k⟩]) by
            have h1 : (ofSt s k).1 = f := by rw [HS.out]
            have h2 : (ofSt s k).2 = L := by rw [HS.out]
            rw [ofSt_some hgo (by rw [h1]; exact hf), h1, h2])
          obtain ⟨p, hp⟩ : ∃ p, p = s.extract f k := ⟨_, rfl⟩
          have hps : p.size ≤ 1000000 := by rw [hp, ByteArray.size_extract]; omega
          rw [← hp] at HN
          have hsl : ∀ wx : World, (Instr.slice 9 (.string s) (some (.int .i64 (f : Int))) (some (.int .i64 (k : Int))) none).run Tryz.prog wx = .ok (.string p) wx := fun wx => by
            rw [run_slice_string_if (P := Tryz.prog) (w := wx) 9 s .i64 .i64 f k Tryz.underlying9, if_pos ⟨by omega, by omega⟩, if_pos ⟨by omega, by omega⟩, hp]
            rfl
          have hfk' : (f : Int) < (k : Int) := by omega
          clear hp hgo
          rcases hcase with ⟨hlt, g1⟩ | hlt
          all_goals
            go_wp2_with fail
            refine (clone_any p _ (by omega)).mono ?_
            rintro e w2 ⟨rfl, hb2⟩
            have HO2 := Lib.hid (own_below HO.out hb2)
            have HB2 := Lib.hid (HB.out.trans (hb2.mono HB.out.size))
            clear hb2 hsl
            go_wp2_with (at_builtin; refine wpList_append_lies _ rfl (.tmp 25) (.tmp 33) _ rfl w.heap.size 199 i0 _ 2 24 Tryz.underlying97 hi hz0 hz1 hz2 rfl (by omega) _ _ _ rfl (HO2.out.alloc _) ⟨w2.heap.size, 0, none⟩ 1 1 [.int .i64 (f : Int), .string p] rfl rfl (World.news_of_block (cs := #[.int .i64 (f : Int), .string p]) (t := 199) (fr := (0, 0)) (heap_alloc_new w2 _)) (by simp [Value.oneCell']) (by omega) (by simp only [maxLen]; omega) (by omega) (by have := HB2.out.size; simp at this ⊢; omega) (w2.heap.size + 1) (by simp) ?_; intro gg gc w4 hown4 hgrow hat hlt4)
            have HB4 := Lib.hid (keep_grown (HB2.out.alloc HB2.out.size _) (HO2.out.alloc _) hgrow (Nat.le_refl _) (Nat.le_refl _))
            clear hgrow hat
            go_roundw
            case rel => exact ⟨k + 1, k + 1, L ++ [⟨(f : Int), p⟩], _, _, by omega, by go_num, by go_num, by rw [List.length_append]; rfl, HN, by rw [exCells_append, List.length_append]; exact hown4, HB4.out⟩
            case measure => simp [intOf]; omega
        · have HN := Lib.hid (show ofSt s (k + 1) = (k + 1, L) by
            have h1 : (ofSt s k).1 = f := by rw [HS.out]
            have h2 : (ofSt s k).2 = L := by rw [HS.out]
            rw [ofSt_none hgo (by rw [h1]; exact hf), h2])
          have hfk' : ¬ (f : Int) < (k : Int) := by omega
          clear hgo
          rcases hcase with ⟨hlt, g1⟩ | hlt
          all_goals
            go_wp2_with fail
            go_roundw
            case rel => exact ⟨k + 1, k + 1, L, va, vc, by omega, by go_num, by go_num, rfl, HN, HO.out, HB.out⟩
            case measure => simp [intOf]; omega
    · obtain rfl : k = s.size + 1 := by omega
      obtain rfl : L = ofB s := by unfold ofB; rw [HS.out]
      go_wp2_with fail
      go_ret
      exact ⟨⟨_, _, rfl, HO.out⟩, HB.out⟩
end Go.Proofs.YtkbhcncbpiimdaaGreatDoor.ext
