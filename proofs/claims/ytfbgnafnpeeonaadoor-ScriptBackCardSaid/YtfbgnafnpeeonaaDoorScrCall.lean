/- What script's call answers, of a reader in memory. Conditions: at most a million bytes; what the listed variables hold. -/
import Derived.Test.YtfbgnafnpeeonaaDoorScrImage
namespace Go.Proofs.YtfbgnafnpeeonaaDoor.scr
set_option maxRecDepth 100000
open Go.RowKit Go.Proofs.YtfbgnafnpeeonaaDoor.words Go.Proofs.YtfbgnafnpeeonaaDoor.cal

theorem infoO : (Tryd.prog.info? 45).map (fun i => (i.zero, i.size, i.bytes)) = some (some (opV 0 ⟨#[]⟩ 0 0 0 ⟨#[]⟩), 6, 64) := by kernel_rfl
def CallO (l : ByteArray) (B g : Nat) (S : ScB) (a : List (List OpB)) (x : List OpB) (vi vc vp : Value) (w : World) (e : Ending) (w' : World) : Prop :=
  ((∃ o : OpB, parseM l.data.toList = some o.m ∧ OpFit o.O o.N o.I o.P o.G ∧ e = .returned (.bool true) ∧ Rdr w' B g { S with cl := a ++ [x ++ [o]] } 2 vi vc vp) ∨ (parseM l.data.toList = none ∧ e = .returned (.bool false))) ∧ Kept RT B w w'
set_option maxHeartbeats 6400000 in
theorem call_any (m : Int) (l : ByteArray) (B g : Nat) (S : ScB) (a : List (List OpB)) (x : List OpB) (vi vc vp : Value) (w : World) (hl : l.size ≤ 1000000) (hn : S.cl.length ≤ 1000000) (hx : x.length ≤ 1000000) (hcl : S.cl = a ++ [x]) (hC : Cx m B w) (h : Rdr w B g S 2 vi vc vp) :
    Calls Tryd.prog 39 #[.pointer (some ⟨g, 0, none⟩), .string l] w (CallO l B g S a x vi vc vp w) := by
  have HN := Lib.hid (parse_any m l w hl hC.env)
  have H := Lib.hid h
  have HC := Lib.hid hC
  have HCl := Lib.hid hcl
  obtain ⟨i0, hi, hy0, hy1, hy2⟩ := info_parts infoO
  clear h hC hl hcl
  go_enter Tryd.func39, Tryd.ntmps39
  go_wp2_with fail
  refine HN.out.mono ?_
  rintro e w2 ⟨ho, hb2⟩
  have HK2 : Hid (Kept RT B w w2) := Lib.hid (Kept.of_below hb2 RT B)
  have H2 := Lib.hid (H.out.later hb2)
  have HC2 := Lib.hid (HC.out.later hb2)
  clear HN hb2
  rcases ho with ⟨k, p, o, n, i, gg, rfl, hp, hf⟩ | ⟨hp, rfl⟩
  rotate_left 1
  · obtain ⟨W3, hW3⟩ : ∃ W3, W3 = w2.alloc (.cells #[.int .i64 0, .string ⟨#[]⟩, .int .i64 0, .int .i64 0, .int .i64 0, .string ⟨#[]⟩] 45) := ⟨_, rfl⟩
    have HF : Hid (CallO l B g S a x vi vc vp w (.returned (.bool false)) W3) := Lib.hid ⟨.inr ⟨hp, rfl⟩, by rw [hW3]; exact HK2.out.alloc _⟩
    have HW3 := Lib.hid hW3
    clear hp H2 HC2 hW3
    unfold opV
    go_upto_region 2 with fail
    rw [← HW3.out]
    clear HW3
    go_wp2_with fail
    go_ret
    exact HF.out
  · obtain ⟨oo, hoo⟩ : ∃ oo : OpB, oo = ⟨k, p, o, n, i, gg⟩ := ⟨_, rfl⟩
    obtain ⟨W3, hW3⟩ : ∃ W3, W3 = w2.alloc (.cells #[.int .i64 k, .string p, .int .i64 o, .int .i64 n, .int .i64 i, .string gg] 45) := ⟨_, rfl⟩
    obtain ⟨b5, hb5⟩ : ∃ b5, b5 = w2.heap.size := ⟨_, rfl⟩
    have hb3 : Below w2.heap.size w2 W3 := by rw [hW3]; exact (Below.refl _ _).alloc (Nat.le_refl _) _
    have x3 : W3.heap[b5]? = some (.cells #[.int .i64 k, .string p, .int .i64 o, .int .i64 n, .int .i64 i, .string gg] 45 (0, 0)) := by rw [hW3, hb5]; exact heap_alloc_new w2 _
    have HK3 : Hid (Kept RT B w W3) := Lib.hid (HK2.out.trans (Kept.of_below hb3 RT B))
    have H3 := Lib.hid (H2.out.later hb3)
    have HC3 := Lib.hid (HC2.out.later hb3)
    obtain ⟨vs, ho, hlv, hr, hd⟩ := H3.out.cl
    have hlen : S.cl.length = a.length + 1 := by rw [HCl.out]; simp
    obtain ⟨v, hv⟩ : ∃ v, vs[a.length]? = some v := ⟨_, List.getElem?_eq_getElem (by omega)⟩
    have hvl := hr a.length v x hv (by rw [HCl.out]; simp)
    obtain ⟨A2, c2, rfl, _, hc2, _⟩ := lru.own_facts hvl
    obtain ⟨q, c, rfl, hq1, hq2, hqc⟩ := lru.own_at ho hv
    have y4 := cell_of_blk H3.out.blk 4
    have u0 := cell_of_blk x3 0
    have u1 := cell_of_blk x3 1
    have u2 := cell_of_blk x3 2
    have u3 := cell_of_blk x3 3
    have u4 := cell_of_blk x3 4
    have u5 := cell_of_blk x3 5
    obtain ⟨n1, hn1⟩ : ∃ n1 : Nat, n1 = S.cl.length := ⟨_, rfl⟩
    obtain ⟨k1, hk1⟩ : ∃ k1 : Nat, k1 = a.length := ⟨_, rfl⟩
    rw [← hn1] at ho y4 hn
    rw [← hk1] at hqc
    have j0 : (0 : Int) ≤ (n1 : Int) - 1 := by omega
    have j1 : (n1 : Int) - 1 < (n1 : Int) := by omega
    have j2 : ((n1 : Int) - 1).toNat = k1 := by omega
    have j3 : (1 : Int) ≤ (n1 : Int) := by omega
    have j4 : IntKind.i64.wrap ((n1 : Int) - 1) = (n1 : Int) - 1 := IntWalk.i64_in _ ⟨by omega, by omega⟩
    have HO3 := Lib.hid (And.intro ho (And.intro hlv (And.intro hr (And.intro hd (And.intro hv hvl)))))
    have HP := Lib.hid (And.intro hp (And.intro hf hoo))
    have HL := Lib.hid (And.intro hlen (And.intro hn1 hk1))
    have HQ := Lib.hid (And.intro hq1 hq2)
    have HW3 := Lib.hid hW3
    have HB5 := Lib.hid hb5
    have HX3 := Lib.hid x3
    clear ho hlv hr hd hv hvl hp hf hoo hlen hn1 hk1 hq1 hq2 hW3 hb5 x3 hb3 H2 HC2
    unfold opV
    go_upto_region 3 with fail
    rw [← HW3.out]
    simp only [← HB5.out]
    clear HW3 HB5
    go_quiet (fail)
    obtain ⟨W4, hW4⟩ : ∃ W4, W4 = W3.drewN nq := ⟨_, rfl⟩
    have hb4 : Below W3.heap.size W3 W4 := by rw [hW4]; exact ⟨rfl, rfl, rfl, Nat.le_refl _, fun _ _ => rfl⟩
    rw [← hW4]
    have x4 := (hb4.block _ (lt_of_some HX3.out)).trans HX3.out
    have H4 := Lib.hid (H3.out.later hb4)
    have HK4 : Hid (Kept RT B w W4) := Lib.hid (HK3.out.trans (Kept.of_below hb4 RT B))
    have HBw := Lib.hid (HC3.out.later hb4).le
    have hvl4 := own_later HO3.out.2.2.2.2.2 hb4
    have z0 : W4.cell? ⟨q, k1, none⟩ = some (.slice A2 x.length c2) := (hb4.cell (p := ⟨q, k1, none⟩) HQ.out.2).trans hqc
    have z1 : ∀ o : Obj, (W4.alloc o).cell? ⟨q, k1, none⟩ = some (.slice A2 x.length c2) := fun o => (((Below.refl W4.heap.size W4).alloc (Nat.le_refl _) o).cell (p := ⟨q, k1, none⟩) (Nat.lt_of_lt_of_le HQ.out.2 hb4.size)).trans z0
    have u0 := cell_of_blk x4 0
    have u1 := cell_of_blk x4 1
    have u2 := cell_of_blk x4 2
    have u3 := cell_of_blk x4 3
    have u4 := cell_of_blk x4 4
    have u5 := cell_of_blk x4 5
    have HO4 : Hid (W4.ownsRow B 43 1 (.slice (some ⟨q, 0, none⟩) S.cl.length c) S.cl.length vs ∧ ∀ (i : Nat) (v : Value) (l : List OpB), vs[i]? = some v → S.cl[i]? = some l → W4.ownsRow B 45 6 v l.length (opCells l)) := Lib.hid (by
      have h1 := HO3.out.1
      have h2 := HL.out.2.1
      rw [h2] at h1
      exact ⟨own_later h1 hb4, fun i v l hv hl => own_later (HO3.out.2.2.1 i v l hv hl) hb4⟩)
    obtain ⟨O, hO⟩ : ∃ O : Obj, O = .cells #[.int .i64 k, .string p, .int .i64 o, .int .i64 n, .int .i64 i, .string gg] 45 := ⟨_, rfl⟩
    have HAp : Hid (∀ (g' cap : Nat) (w1 : World), w1.ownsRow B 45 6 (.slice (some ⟨g', 0, none⟩) (x.length + 1) cap) (x.length + 1) (opCells x ++ [.int .i64 k, .string p, .int .i64 o, .int .i64 n, .int .i64 i, .string gg]) → ((W4.alloc O).drew).grownBy w1 (Value.slice A2 x.length c2).ownBlock → ((Value.slice A2 x.length c2).ownBlock = some g' ∨ g' = W4.heap.size + 1) →
        w1.cell? ⟨q, k1, none⟩ = some (.slice A2 x.length c2) ∧ w1.frozen? ⟨q, k1, none⟩ = false ∧ CallO l B g S a x vi (.slice (some ⟨q, 0, none⟩) S.cl.length c) vp w (.returned (.bool true)) (w1.setCell ⟨q, k1, none⟩ (.slice (some ⟨g', 0, none⟩) (x.length + 1) cap))) := Lib.hid fun g' cap w1 h1 h2 h3 => by
      have hba : Below W4.heap.size W4 (W4.alloc O).drew := ((Below.refl _ _).alloc (Nat.le_refl _) _).drew
      have hoA := own_later HO4.out.1 hba
      have hrA : ∀ (i : Nat) (v : Value) (l : List OpB), vs[i]? = some v → S.cl[i]? = some l → ((W4.alloc O).drew).ownsRow B 45 6 v l.length (opCells l) := fun i v l hv hl => own_later (HO4.out.2 i v l hv hl) hba
      have hvA := own_later hvl4 hba
      have hksz : ((W4.alloc O).drew).heap.size = W4.heap.size + 1 := by simp
      have hk1 : Kept (fun t => t = 45) B ((W4.alloc O).drew) w1 := (Kept.refl (fun t => t = 45) B _).grown h2 hvA (Nat.le_refl _) rfl
      have hk01 : Kept (fun t => t = 45) B W4 w1 := (Kept.of_below hba _ B).trans hk1
      obtain ⟨c3, f3, hq3⟩ := own_at_some (b := q) HO4.out.1 rfl
      have hq4 : ∃ cs, w1.heap[q]? = some (.cells cs 43 (0, 0)) ∧ cs[k1]? = some (.slice A2 x.length c2) := by
        have hoB := hk1.own hoA (by decide)
        rcases hoB.2 with ⟨h4, _⟩ | ⟨j, cp, cur, h4, _, h5, h6, _, h7, h8⟩
        · cases h4
        · injection h4 with h4
          injection h4 with h4
          injection h4 with h4
          subst h4
          refine ⟨cur, h5, ?_⟩
          have h9 : vs[k1]? = some (.slice A2 x.length c2) := by rw [HL.out.2.2]; exact HO3.out.2.2.2.2.1
          rw [← h8, List.getElem?_take] at h9
          split at h9
          · simpa using h9
          · cases h9
      obtain ⟨cs, hq4, hq5⟩ := hq4
      have hkS : Kept (fun t => t = 45 ∨ t = 43) B W4 (w1.setCell ⟨q, k1, none⟩ (.slice (some ⟨g', 0, none⟩) (x.length + 1) cap)) :=
        ((Kept.of_below hba (fun t => t = 45 ∨ t = 43) B).grown h2 hvA (Nat.le_refl _) (.inl rfl)).setCell (p := ⟨q, k1, none⟩) HQ.out.1 ⟨_, _, _, hq4, .inr rfl⟩ _
      have hrow := rows_op (o := oo) hoA (HO3.out.2.1) hrA HO3.out.2.2.2.1 HCl.out rfl HO3.out.2.2.2.2.1 (by rw [HP.out.2.2]; exact h1) h2 (fun b hb => by
        have e : g' = b := by simpa [Value.ownBlock] using hb
        rcases h3 with h3 | h3
        · left; rw [h3, e]
        · right; rw [hksz]; omega) (by rw [← HL.out.2.2])
      refine ⟨(cell_of_blk hq4 k1).trans hq5, free_of_blk hq4 k1, .inl ⟨oo, by rw [HP.out.2.2]; exact HP.out.1, by rw [HP.out.2.2]; exact HP.out.2.1, rfl, H4.out.ge, hkS.blk H4.out.blk (by decide), hkS.own H4.out.im (by decide), hrow, hkS.own H4.out.pk (by decide)⟩, HK4.out.trans (rt_of hkS fun t ht => by rcases ht with rfl | rfl; exact .inr (.inr (.inr (.inl rfl))); exact .inr (.inr (.inl rfl)))⟩
    have hmm : x.length + 1 ≤ maxLen := by unfold maxLen; omega
    have hmb : (x.length + 1) * 64 ≤ 140737488355328 := by omega
    have hBw := HBw.out
    have HOO := Lib.hid hO
    clear hW4 hb4 x4 y4 j0 j1 j2 j3 j4 hqc hO
    go_upto_region 4 with fail
    go_region_law
      ((refine step_append_lies _ (by rfl) _ _ _ (by rfl) B 45 i0 _ 6 64 Tryd.underlying43 hi hy0 hy1 hy2 rfl (by omega) _ x.length (opCells x) (by rfl) (own_later hvl4 ((Below.refl _ _).alloc (Nat.le_refl _) _).drew)
          ⟨W4.heap.size, 0, none⟩ 1 1 [.int .i64 k, .string p, .int .i64 o, .int .i64 n, .int .i64 i, .string gg] (by rfl) (by rfl) (World.news_of_block (cs := #[.int .i64 k, .string p, .int .i64 o, .int .i64 n, .int .i64 i, .string gg]) (t := 45) (fr := (0, 0)) (heap_alloc_new W4 _)) (by simp [Value.oneCell'])
          (by omega) hmm hmb (by simp; omega) (W4.heap.size + 1) (by simp) ?_; intro g2 cap w1 hown1 hgrow hat hlt1; rw [← HOO.out] at hgrow; obtain ⟨p0, p1, HF⟩ := HAp.out g2 cap w1 hown1 hgrow hat))
    all_goals
      clear hown1 hgrow hat hlt1 p0 p1 HAp
      go_wp2_with fail
      go_ret
      exact HF
end Go.Proofs.YtfbgnafnpeeonaaDoor.scr
