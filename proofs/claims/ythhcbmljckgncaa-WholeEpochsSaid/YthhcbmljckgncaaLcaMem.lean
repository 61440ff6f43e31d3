/- What was seen of whole directories, in memory: a block with shards of lists and a counter; lists of entries; slices.Clone of one; lcache's New and Made. Condition: what is read lies in memory. -/
import Derived.Test.YthhcbmljckgncaaShlAsk
namespace Go.Proofs.Ythhcbmljckgncaa.lca
set_option maxRecDepth 100000
open Go.RowKit Go.Proofs.Ythhcbmljckgncaa.words Go.Proofs.Ythhcbmljckgncaa.lru Go.Proofs.Ythhcbmljckgncaa.sha Go.Proofs.Ythhcbmljckgncaa.lrl Go.Proofs.Ythhcbmljckgncaa.shl

theorem below_drewN (w : World) (n : Nat) : Below w.heap.size w (w.drewN n) := ⟨rfl, rfl, rfl, Nat.le_refl _, fun _ _ => rfl⟩
/-! Lists -/
def enC (p : ByteArray × Int) : List Value := [.string p.1, .int .i64 p.2]
theorem enC_one (P : List (ByteArray × Int)) : ∀ u ∈ P.flatMap enC, u.oneCell' = true := fun u hu => by
  obtain ⟨p, _, hp⟩ := List.mem_flatMap.1 hu
  simp only [enC, List.mem_cons, List.mem_nil_iff, or_false] at hp
  rcases hp with rfl | rfl <;> rfl
theorem enC_len (P : List (ByteArray × Int)) : (P.flatMap enC).length = P.length * 2 := by
  induction P with
  | nil => rfl
  | cons p L ih => rw [List.flatMap_cons, List.length_append, ih, List.length_cons]; simp [enC]; omega
theorem enC_get : ∀ {P : List (ByteArray × Int)} {i : Nat} {p : ByteArray × Int}, P[i]? = some p → (P.flatMap enC)[i * 2]? = some (.string p.1) ∧ (P.flatMap enC)[i * 2 + 1]? = some (.int .i64 p.2)
  | [], i, p, h => by simp at h
  | x :: P, i, p, h => by
    rw [List.flatMap_cons]
    rcases i with _ | i
    · obtain rfl : x = p := by simpa using h
      exact ⟨rfl, rfl⟩
    · obtain ⟨h1, h2⟩ := enC_get (P := P) (i := i) (by simpa using h)
      rw [List.getElem?_append_right (by simp [enC]; omega), List.getElem?_append_right (by simp [enC]; omega)]
      exact ⟨by rw [← h1]; congr 1; simp [enC]; omega, by rw [← h2]; congr 1; simp [enC]; omega⟩
/-- A list of entries in a row of its own, from block B on. -/
def Enr (w : World) (B : Nat) (v : Value) (l : List (ByteArray × Int)) : Prop := w.ownsRow B 81 2 v l.length (l.flatMap enC)
theorem Enr.nil (w : World) (B : Nat) : Enr w B (.slice none 0 0) [] := World.ownsRow_nil _ _ _ _
theorem Enr.kept {S : TypeId → Prop} {B' : Nat} {w w' : World} {B : Nat} {v : Value} {l : List (ByteArray × Int)} (h : Enr w B v l) (hk : Kept S B' w w') (hS : ¬ S 81) : Enr w' B v l := hk.own h hS
theorem Enr.later {w w' : World} {B : Nat} {v : Value} {l : List (ByteArray × Int)} (h : Enr w B v l) (hb : Below w.heap.size w w') : Enr w' B v l := h.kept (Kept.of_below hb (fun _ => False) 0) (fun hc => hc)
theorem Enr.mono {w : World} {B B' : Nat} {v : Value} {l : List (ByteArray × Int)} (h : Enr w B v l) (hB : B' ≤ B) : Enr w B' v l := own_mono h hB
theorem Enr.lt {w : World} {B : Nat} {v : Value} {l : List (ByteArray × Int)} (h : Enr w B v l) : ∀ b, v.ownBlock = some b → B ≤ b ∧ b < w.heap.size := fun b hb => World.ownsRow.lt h b hb
theorem Enr.at {w : World} {B c : Nat} {A : Option Addr} {l : List (ByteArray × Int)} (h : Enr w B (.slice A l.length c) l) {i : Nat} {p : ByteArray × Int} (hp : l[i]? = some p) :
    ∃ b, A = some ⟨b, 0, none⟩ ∧ b < w.heap.size ∧ w.cell? ⟨b, i * 2, none⟩ = some (.string p.1) ∧ w.cell? ⟨b, i * 2 + 1, none⟩ = some (.int .i64 p.2) := by
  obtain ⟨h1, h2⟩ := enC_get hp
  obtain ⟨g, c', hv, _, hlt, hc⟩ := own_at h h1
  obtain ⟨g', c'', hv', _, _, hc'⟩ := own_at h h2
  injection hv with hv
  injection hv' with hv'
  subst hv
  injection hv' with hv'
  injection hv' with hv'
  subst hv'
  exact ⟨g, rfl, hlt, hc, hc'⟩
theorem infoEn : (Try.prog.info? 81).map (fun i => (i.zero, i.size, i.bytes)) = some (some (.agg #[.string ⟨#[]⟩, .int .i64 0]), 2, 24) := by kernel_rfl
theorem enC_at : ∀ {P : List (ByteArray × Int)} {j : Nat} {u : Value}, (P.flatMap enC)[j]? = some u → ∃ i p, P[i]? = some p ∧ ((j = i * 2 ∧ u = .string p.1) ∨ (j = i * 2 + 1 ∧ u = .int .i64 p.2))
  | [], j, u, h => by simp at h
  | x :: P, j, u, h => by
    rw [List.flatMap_cons] at h
    rcases j with _ | _ | j
    · exact ⟨0, x, rfl, .inl ⟨rfl, by simpa [enC] using h.symm⟩⟩
    · exact ⟨0, x, rfl, .inr ⟨rfl, by simpa [enC] using h.symm⟩⟩
    · rw [List.getElem?_append_right (by simp [enC])] at h
      obtain ⟨i, p, h1, h2⟩ := enC_at (P := P) (j := j) (by simpa [enC] using h)
      exact ⟨i + 1, p, by simpa using h1, h2.imp (fun ⟨a, b⟩ => ⟨by omega, b⟩) (fun ⟨a, b⟩ => ⟨by omega, b⟩)⟩
/-- What a list's copy is. -/
def Enrd (l : List (ByteArray × Int)) (w : World) (e : Ending) (w' : World) : Prop := (∃ A c, e = .returned (.slice A l.length c) ∧ Enr w' w.heap.size (.slice A l.length c) l) ∧ Below w.heap.size w w'
set_option maxHeartbeats 1600000 in
theorem copy_any (lo : Nat) (A : Option Addr) (c : Nat) (P : List (ByteArray × Int)) (w : World) (hp : Enr w lo (.slice A P.length c) P) (hl : P.length ≤ 1000) :
    Calls Try.prog 52 #[.slice A P.length c] w (Enrd P w) := by
  obtain ⟨i0, hi, hz0, hz1, hz2⟩ := info_three infoEn
  rcases A with _ | ad
  · have hP : P = [] := by
      rcases P with _ | ⟨p, P⟩
      · rfl
      · obtain ⟨b, h1, _⟩ := hp.at (i := 0) (p := p) rfl
        cases h1
    subst hP
    have heq0 := fun wx => Lib.run_eql_slice_nil (P := Try.prog) wx 72 81 none 0 c 0 0 Try.underlying72
    clear hp hl hz0 hz1 hz2 hi
    go_enter Try.func52, Try.ntmps52
    go_wp2_with fail
    go_ret
    exact ⟨⟨none, 0, rfl, Enr.nil _ _⟩, Below.refl _ _⟩
  · have heq := fun wx => Lib.run_eql_slice_nil (P := Try.prog) wx 72 81 (some ad) P.length c 0 0 Try.underlying72
    have hnews : Hid (∀ j u, (P.flatMap enC)[j]? = some u → (w.alloc (.cells #[] 81)).cell? (ad.add j) = some u) := Lib.hid fun j u hu => by
      obtain ⟨i, p, hip, hj⟩ := enC_at hu
      obtain ⟨b, hA, hB, hc1, hc2⟩ := hp.at hip
      injection hA with hA
      subst hA
      rw [add_place]
      have hbl := (Below.refl w.heap.size w).alloc (Nat.le_refl _) (.cells #[] 81)
      rcases hj with ⟨rfl, rfl⟩ | ⟨rfl, rfl⟩
      · rw [Nat.zero_add]
        exact (hbl.cell (p := ⟨b, i * 2, none⟩) hB).trans hc1
      · rw [Nat.zero_add]
        exact (hbl.cell (p := ⟨b, i * 2 + 1, none⟩) hB).trans hc2
    have HOne := Lib.hid (enC_one P)
    have HLen := Lib.hid (enC_len P)
    clear hp
    go_enter Try.func52, Try.ntmps52
    go_wp2_with (at_builtin; refine wpList_append_own _ rfl (.tmp 5) (.tmp 6) 72 rfl w.heap.size 81 i0 _ 2 24 Try.underlying72 hi hz0 hz1 hz2 rfl (by omega) (.slice (some ⟨w.heap.size, 0, none⟩) 0 0) 0 [] rfl (World.ownsRow_made w #[] 0 (Nat.le_refl _) (by decide) rfl) ad P.length c (P.flatMap enC) rfl HLen.out hnews.out HOne.out (by simp only [maxLen]; omega) (by omega) (by simp) ?_; intro v4 w4 hown4 hgrow hnil4)
    rw [Nat.zero_add, List.nil_append] at hown4
    obtain ⟨A4, c4, rfl, h1, h2, _⟩ := own_facts hown4
    have HO4 := Lib.hid hown4
    have HB4 := Lib.hid (keep_grown (S := w.heap.size) ((Below.refl w.heap.size w).alloc (Nat.le_refl _) (.cells #[] 81)) (World.ownsRow_made w #[] 0 (Nat.le_refl _) (by decide) rfl : (w.alloc (.cells #[] 81)).ownsRow w.heap.size 81 2 _ 0 []) hgrow (Nat.le_refl _) (Nat.le_refl _))
    clear hown4 hgrow hnil4
    go_wp2_with fail
    go_ret
    exact ⟨⟨A4, c4, rfl, HO4.out⟩, HB4.out⟩

/-! The cache -/
/-- The blocks of caches. -/
def gsOf (C : List Cc) : List Nat := C.map (·.g)
def nsOf (C : List Cc) : List Nat := C.map (·.L.length)
theorem gs_news (gs : List Nat) (r : Nat) : gsOf (news gs r) = gs := by
  unfold gsOf news
  rw [List.map_map]
  exact List.map_id' gs
theorem gs_set {C : List Cc} {i : Nat} {c : Cc} (h : C[i]? = some c) (bo : Option Nat) (L : List (ByteArray × Lst)) : gsOf (C.set i ⟨c.g, bo, c.r, L⟩) = gsOf C := by
  unfold gsOf
  rw [List.map_set]
  apply List.ext_getElem?
  intro j
  rw [List.getElem?_set]
  split
  · rename_i e
    subst e
    split
    · rw [List.getElem?_map, h]; rfl
    · rename_i hlt
      rw [List.getElem?_eq_none (by omega)]
  · rfl
theorem gs_at {C : List Cc} {i : Nat} {c : Cc} (h : C[i]? = some c) : (gsOf C)[i]? = some c.g := by unfold gsOf; rw [List.getElem?_map, h]; rfl
theorem gs_len (C : List Cc) : (gsOf C).length = C.length := by unfold gsOf; rw [List.length_map]
/-- At block q what was seen of whole directories: shards at h, whose caches are C; x were made. -/
structure Lc (w : World) (B q h : Nat) (C : List Cc) (x : Int) : Prop where
  lo : B ≤ q
  blk : w.heap[q]? = some (.cells #[ptrC h, .int .i64 x] 85 (0, 0))
  shd : Shd w B h (gsOf C)
  fam : Fam w B C
/-- The element types of what a call turns. -/
def DS (t : TypeId) : Prop := t = 129 ∨ t = 136 ∨ t = 85
theorem Lc.kept {S : TypeId → Prop} {B' : Nat} {w w' : World} {B q h : Nat} {C : List Cc} {x : Int} (d : Lc w B q h C x) (hk : Kept S B' w w') (h0 : ¬ S 85) (h1 : ¬ S 119) (h2 : ¬ S 120) (h3 : ¬ S 129) (h4 : ¬ S 136) : Lc w' B q h C x :=
  ⟨d.lo, hk.blk d.blk h0, d.shd.kept hk h1 h2, d.fam.kept hk h3 h4⟩
theorem Lc.later {w w' : World} {B q h : Nat} {C : List Cc} {x : Int} (d : Lc w B q h C x) (hb : Below w.heap.size w w') : Lc w' B q h C x :=
  d.kept (Kept.of_below hb (fun _ => False) 0) (fun hc => hc) (fun hc => hc) (fun hc => hc) (fun hc => hc) (fun hc => hc)
theorem keptWider {S S' : TypeId → Prop} {B : Nat} {w w' : World} (h : Kept S B w w') (hs : ∀ t, S t → S' t) : Kept S' B w w' :=
  ⟨h.os, h.tape, h.output, h.size, fun k hk hc => h.block k hk (hc.imp_right fun hc cs t f he hS => hc cs t f he (hs t hS))⟩
theorem LS.ds {t : TypeId} (h : LS t) : DS t := h.imp_right .inl
/-- One of the caches has turned. -/
theorem Lc.left {w w' : World} {B q h i : Nat} {C : List Cc} {c : Cc} {x : Int} {L' : List (ByteArray × Lst)} (d : Lc w B q h C x) (hi : C[i]? = some c) (hl : lrl.Left w B c.g c.r c.bo L' w') (hok : Ok L' c.r) :
    (∃ bo', Lc w' B q h (C.set i ⟨c.g, bo', c.r, L'⟩) x) ∧ Kept LS B w w' := by
  have hk := d.fam.left_kept hi hl
  obtain ⟨bo', hf⟩ := d.fam.left hi hl hok
  refine ⟨⟨bo', d.lo, hk.blk d.blk (by unfold LS; decide), ?_, hf⟩, hk⟩
  rw [gs_set hi]
  exact d.shd.kept hk (by unfold LS; decide) (by unfold LS; decide)
/-- The counter has turned. -/
theorem Lc.count {w : World} {B q h : Nat} {C : List Cc} {x : Int} (d : Lc w B q h C x) (x' : Int) :
    Lc (w.setCell ⟨q, 1, none⟩ (.int .i64 x')) B q h C x' ∧ Kept (fun t => t = 85) B w (w.setCell ⟨q, 1, none⟩ (.int .i64 x')) := by
  have hk : Kept (fun t => t = 85) B w (w.setCell ⟨q, 1, none⟩ (.int .i64 x')) := (Kept.refl (fun t => t = 85) _ _).setCell (p := ⟨q, 1, none⟩) d.lo ⟨_, _, _, d.blk, rfl⟩ _
  refine ⟨⟨d.lo, ?_, d.shd.kept hk (by decide) (by decide), d.fam.kept hk (by decide) (by decide)⟩, hk⟩
  exact heap_setCell_same w q 1 _ _ _ d.blk

def NewL (w : World) (n r : Nat) (e : Ending) (w' : World) : Prop := ∃ (q h : Nat) (gs : List Nat), e = .returned (.pointer (some ⟨q, 0, none⟩)) ∧ gs.length = n ∧ Lc w' w.heap.size q h (news gs r) 0 ∧ Below w.heap.size w w'
set_option maxHeartbeats 1600000 in
theorem lnew_any (n r : Nat) (many room : Int) (w : World) (hn : (n : Int) = min (max many 1) 256) (hr : (r : Int) = max room 1) :
    Calls Try.prog 27 #[.int .i64 many, .int .i64 room] w (NewL w n r) := by
  have HC := Lib.hid (snew_any n r many room w hn hr)
  clear hn hr
  go_enter Try.func27, Try.ntmps27
  go_wp2_with fail
  refine HC.out.mono ?_
  rintro e w1 ⟨rfl, gs, hgl, hs, hf, hb⟩
  obtain ⟨W2, hW2⟩ : ∃ W2, W2 = w1.alloc (.cells #[ptrC w.heap.size, .int .i64 0] 85) := ⟨_, rfl⟩
  have hb2 : Below w1.heap.size w1 W2 := by rw [hW2]; exact (Below.refl _ _).alloc (Nat.le_refl _) _
  have hk2 : W2.heap[w1.heap.size]? = some (.cells #[ptrC w.heap.size, .int .i64 0] 85 (0, 0)) := by rw [hW2]; exact heap_alloc_new w1 _
  have HE : Hid (NewL w n r (.returned (.pointer (some ⟨w1.heap.size, 0, none⟩))) W2) := Lib.hid ⟨_, _, gs, rfl, hgl, ⟨hb.size, hk2, by rw [gs_news]; exact hs.later hb2, hf.later hb2⟩, hb.trans (hb2.mono hb.size)⟩
  rw [hW2] at HE
  unfold ptrC at HE
  clear hgl hs hf hb hb2 hk2 hW2
  go_wp2_with fail
  go_ret
  exact HE.out
theorem made_any (B q h : Nat) (C : List Cc) (x : Int) (w : World) (d : Lc w B q h C x) :
    Calls Try.prog 37 #[.pointer (some ⟨q, 0, none⟩)] w fun e w' => e = .returned (.int .i64 x) ∧ w = w' := by
  have c1 := cell_of_blk d.blk 1
  clear d
  go_enter Try.func37, Try.ntmps37
  go_wp2_with fail
  go_ret
  exact ⟨rfl, rfl⟩
theorem news_at {gs : List Nat} {r i g : Nat} (h : gs[i]? = some g) : (news gs r)[i]? = some ⟨g, none, r, []⟩ := by unfold news; rw [List.getElem?_map, h]; rfl
theorem news_len (gs : List Nat) (r : Nat) : (news gs r).length = gs.length := by unfold news; rw [List.length_map]
theorem fam_held {w : World} {B : Nat} {C : List Cc} (h : Fam w B C) : Held w B (gsOf C) (nsOf C) := by
  refine ⟨by simp [gsOf, nsOf], fun i g hg => ?_⟩
  unfold gsOf at hg
  rw [List.getElem?_map] at hg
  rcases hc : C[i]? with _ | c
  · rw [hc] at hg; cases hg
  · rw [hc] at hg
    injection hg with hg
    subst hg
    exact ⟨c.bo, c.r, c.L, h.lru i c hc, by unfold nsOf; rw [List.getElem?_map, hc]; rfl⟩
theorem lmost_any (B q h : Nat) (C : List Cc) (x : Int) (w : World) (d : Lc w B q h C x) (h2 : C.length ≤ 256) :
    Calls Try.prog 36 #[.pointer (some ⟨h, 0, none⟩)] w fun e w' => e = .returned (.int .i64 (mostF (nsOf C) : Int)) ∧ w = w' :=
  most_any B h (gsOf C) (nsOf C) w d.shd (by rw [gs_len]; exact h2) (fam_held d.fam)
theorem lof_any (B q h : Nat) (C : List Cc) (x : Int) (k : ByteArray) (w : World) (d : Lc w B q h C x) (h1 : 0 < C.length) (h2 : C.length ≤ 256) (hk : k.size ≤ 1000) :
    Calls Try.prog 34 #[.pointer (some ⟨h, 0, none⟩), .string k] w fun e w' => e = .returned (.int .i64 (ofF k C.length : Int)) ∧ ∃ n, w' = w.drewN n := by
  have := of_any B h (gsOf C) k w d.shd (by rw [gs_len]; exact h1) (by rw [gs_len]; exact h2) (by omega)
  rw [gs_len] at this
  exact this
end Go.Proofs.Ythhcbmljckgncaa.lca
