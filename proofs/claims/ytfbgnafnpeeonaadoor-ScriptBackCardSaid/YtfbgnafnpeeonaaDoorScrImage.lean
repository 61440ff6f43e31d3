/- What script's image and call answer, of a reader in memory. Conditions: at most a million bytes; what the listed variables hold. -/
import Derived.Test.YtfbgnafnpeeonaaDoorScrRoom
namespace Go.Proofs.YtfbgnafnpeeonaaDoor.scr
set_option maxRecDepth 100000
open Go.RowKit Go.Proofs.YtfbgnafnpeeonaaDoor.words Go.Proofs.YtfbgnafnpeeonaaDoor.cal

theorem infoS : (Tryd.prog.info? 9).map (fun i => (i.zero, i.size, i.bytes)) = some (some (.string ByteArray.empty), 1, 16) := by kernel_rfl
theorem infoL : (Tryd.prog.info? 43).map (fun i => (i.zero, i.size, i.bytes)) = some (some (.slice none 0 0), 1, 24) := by kernel_rfl
def ImageO (l : ByteArray) (B g : Nat) (S : ScB) (vc vp : Value) (w : World) (e : Ending) (w' : World) : Prop :=
  ((∃ (x : ByteArray) (vi : Value), unH l.data.toList = some x.data.toList ∧ e = .returned (.bool true) ∧ Rdr w' B g { S with im := S.im ++ [x] } 1 vi vc vp) ∨ (unH l.data.toList = none ∧ e = .returned (.bool false))) ∧ Kept RT B w w'
set_option maxHeartbeats 3200000 in
theorem image_any (m : Int) (l : ByteArray) (B g : Nat) (S : ScB) (vi vc vp : Value) (w : World) (hl : l.size ≤ 1000000) (hn : S.im.length ≤ 1000000) (hC : Cx m B w) (h : Rdr w B g S 1 vi vc vp) :
    Calls Tryd.prog 37 #[.pointer (some ⟨g, 0, none⟩), .string l] w (ImageO l B g S vc vp w) := by
  have HN := Lib.hid (bytes_any l w (by omega))
  have H := Lib.hid h
  have HC := Lib.hid hC
  obtain ⟨i0, hi, hy0, hy1, hy2⟩ := info_parts infoS
  clear h hC hl
  go_enter Tryd.func37, Tryd.ntmps37
  go_wp2_with fail
  refine HN.out.mono ?_
  rintro e w2 ⟨ho, hb2⟩
  have HK2 : Hid (Kept RT B w w2) := Lib.hid (Kept.of_below hb2 RT B)
  have H2 := Lib.hid (H.out.later hb2)
  have HC2 := Lib.hid (HC.out.later hb2)
  clear HN hb2
  rcases ho with ⟨hx, rfl⟩ | ⟨x, hx, rfl⟩
  · have HF : Hid (ImageO l B g S vc vp w (.returned (.bool false)) w2) := Lib.hid ⟨.inr ⟨hx, rfl⟩, HK2.out⟩
    clear hx H2 HC2
    go_wp2_with fail
    go_ret
    exact HF.out
  · have HX := Lib.hid hx
    have b2 := H2.out.blk
    have y4 := cell_of_blk b2 3
    have hown := H2.out.im
    have hBw := HC2.out.le
    have hmm : S.im.length + 1 ≤ maxLen := by unfold maxLen; omega
    have hmb : (S.im.length + 1) * 16 ≤ 140737488355328 := by omega
    obtain ⟨A, c, rfl⟩ : ∃ A c, vi = .slice A S.im.length c := by obtain ⟨A, c, h1, _⟩ := lru.own_facts hown; exact ⟨A, c, h1⟩
    obtain ⟨n, hnn⟩ : ∃ n, n = S.im.length := ⟨_, rfl⟩
    have HL := Lib.hid hnn
    have HAp : Hid (∀ (v' : Value) (w1 : World), w1.ownsRow B 9 1 v' (S.im.length + 1) (S.im.map Value.string ++ [.string x]) → (w2.alloc (.cells #[.string x] 9)).grownBy w1 (Value.slice A S.im.length c).ownBlock →
        w1.cell? ⟨g, 3, none⟩ = some (.slice A S.im.length c) ∧ w1.frozen? ⟨g, 3, none⟩ = false ∧ ImageO l B g S vc vp w (.returned (.bool true)) (w1.setCell ⟨g, 3, none⟩ v')) := Lib.hid fun v' w1 h1 h2 => by
      have hk : Kept RT B w2 w1 := ((Kept.refl RT B w2).alloc _).grown h2 (hown.alloc _) (Nat.le_refl _) (.inr (.inl rfl))
      have hks : Kept (fun t => t = 9) B w2 w1 := ((Kept.refl (fun t => t = 9) B w2).alloc _).grown h2 (hown.alloc _) (Nat.le_refl _) rfl
      have hb1 := hks.blk b2 (by decide)
      have hks2 : Kept (fun t => t = 9 ∨ t = 58) B w2 (w1.setCell ⟨g, 3, none⟩ v') := (((Kept.refl (fun t => t = 9 ∨ t = 58) B w2).alloc _).grown h2 (hown.alloc _) (Nat.le_refl _) (.inl rfl)).setCell H2.out.ge ⟨_, _, _, hb1, .inr rfl⟩ _
      refine ⟨cell_of_blk hb1 3, free_of_blk hb1 3, .inl ⟨x, v', HX.out, rfl, H2.out.ge, set_at hb1 v', ?_, H2.out.cl.kept hks2 (by decide) (by decide), hks2.own H2.out.pk (by decide)⟩, HK2.out.trans (rt_of hks2 fun t ht => by rcases ht with ht | ht; exact .inr (.inl ht); exact .inl ht)⟩
      rw [List.length_append, List.map_append]
      exact own_setCell h1 (own_ne h1 hb1 (by decide)) v'
    clear hx
    go_wp2_with (at_builtin; refine wpList_append_own _ rfl _ _ 24 rfl B 9 i0 _ 1 16 Tryd.underlying24 hi hy0 hy1 hy2 rfl (by decide) _ _ _ rfl (hown.alloc _) ⟨w2.heap.size, 0, none⟩ 1 1 [.string x] rfl rfl (cell_one_new _ _ _) (by simp [Value.oneCell']) hmm hmb (by simp; omega) ?_; intro v' w1 hown' hgrow _; obtain ⟨p0, p1, HF⟩ := HAp.out v' w1 hown' hgrow; obtain ⟨g', cap', rfl⟩ := ownsRow_succ hown'; clear y4 hown' hgrow)
    go_ret
    exact HF
end Go.Proofs.YtfbgnafnpeeonaaDoor.scr
