/- What dcache's New, Shard, Counts, Look and Keep answer. Condition: the cache lies in memory. -/
import Derived.Test.YthhcbmljckgncaaDcaMem
namespace Go.Proofs.Ythhcbmljckgncaa.dca
set_option maxRecDepth 100000
open Go.RowKit Go.Proofs.Ythhcbmljckgncaa.words Go.Proofs.Ythhcbmljckgncaa.lru Go.Proofs.Ythhcbmljckgncaa.sha Go.Proofs.Ythhcbmljckgncaa.lrd Go.Proofs.Ythhcbmljckgncaa.shd

theorem below_drewN (w : World) (n : Nat) : Below w.heap.size w (w.drewN n) := ⟨rfl, rfl, rfl, Nat.le_refl _, fun _ _ => rfl⟩
/-- The blocks of caches. -/
def gsOf (C : List Cc) : List Nat := C.map (·.g)
def nsOf (C : List Cc) : List Nat := C.map (·.L.length)
theorem gs_news (gs : List Nat) (r : Nat) : gsOf (news gs r) = gs := by
  unfold gsOf news
  rw [List.map_map]
  exact List.map_id' gs
theorem gs_set {C : List Cc} {i : Nat} {c : Cc} (h : C[i]? = some c) (bo : Option Nat) (L : List (ByteArray × Ent)) : gsOf (C.set i ⟨c.g, bo, c.r, L⟩) = gsOf C := by
  unfold gsOf
  rw [List.map_set]
  apply List.ext_getElem?
  intro j
  rw [List.getElem?_set]
  split
  · rename_i e
    subst e
    split
    · rw [List.getElem?_map, h]; rfl
    · rename_i hlt
      rw [List.getElem?_eq_none (by omega)]
  · rfl
theorem gs_at {C : List Cc} {i : Nat} {c : Cc} (h : C[i]? = some c) : (gsOf C)[i]? = some c.g := by unfold gsOf; rw [List.getElem?_map, h]; rfl
theorem gs_len (C : List Cc) : (gsOf C).length = C.length := by unfold gsOf; rw [List.length_map]
/-- At block q what was seen by names: shards at h, whose caches are C; x hits, y misses. -/
structure Dc (w : World) (B q h : Nat) (C : List Cc) (x y : Int) : Prop where
  lo : B ≤ q
  blk : w.heap[q]? = some (.cells #[ptrC h, .int .i64 x, .int .i64 y] 60 (0, 0))
  shd : Shd w B h (gsOf C)
  fam : Fam w B C
/-- The element types of what a call turns. -/
def DS (t : TypeId) : Prop := t = 125 ∨ t = 131 ∨ t = 60
theorem Dc.kept {S : TypeId → Prop} {B' : Nat} {w w' : World} {B q h : Nat} {C : List Cc} {x y : Int} (d : Dc w B q h C x y) (hk : Kept S B' w w') (h0 : ¬ S 60) (h1 : ¬ S 107) (h2 : ¬ S 108) (h3 : ¬ S 125) (h4 : ¬ S 131) : Dc w' B q h C x y :=
  ⟨d.lo, hk.blk d.blk h0, d.shd.kept hk h1 h2, d.fam.kept hk h3 h4⟩
theorem Dc.later {w w' : World} {B q h : Nat} {C : List Cc} {x y : Int} (d : Dc w B q h C x y) (hb : Below w.heap.size w w') : Dc w' B q h C x y :=
  d.kept (Kept.of_below hb (fun _ => False) 0) (fun hc => hc) (fun hc => hc) (fun hc => hc) (fun hc => hc) (fun hc => hc)
theorem keptWider {S S' : TypeId → Prop} {B : Nat} {w w' : World} (h : Kept S B w w') (hs : ∀ t, S t → S' t) : Kept S' B w w' :=
  ⟨h.os, h.tape, h.output, h.size, fun k hk hc => h.block k hk (hc.imp_right fun hc cs t f he hS => hc cs t f he (hs t hS))⟩
theorem LS.ds {t : TypeId} (h : LS t) : DS t := h.imp_right .inl
/-- One of the caches has turned. -/
theorem Dc.left {w w' : World} {B q h i : Nat} {C : List Cc} {c : Cc} {x y : Int} {L' : List (ByteArray × Ent)} (d : Dc w B q h C x y) (hi : C[i]? = some c) (hl : lrd.Left w B c.g c.r c.bo L' w') (hok : Ok L' c.r) :
    (∃ bo', Dc w' B q h (C.set i ⟨c.g, bo', c.r, L'⟩) x y) ∧ Kept LS B w w' := by
  have hk := d.fam.left_kept hi hl
  obtain ⟨bo', hf⟩ := d.fam.left hi hl hok
  refine ⟨⟨bo', d.lo, hk.blk d.blk (by unfold LS; decide), ?_, hf⟩, hk⟩
  rw [gs_set hi]
  exact d.shd.kept hk (by unfold LS; decide) (by unfold LS; decide)
/-- A counter has turned. -/
theorem Dc.count {w : World} {B q h : Nat} {C : List Cc} {x y : Int} (d : Dc w B q h C x y) (j : Nat) (u : Value) {x' y' : Int} (hj : (#[ptrC h, .int .i64 x, .int .i64 y] : Array Value).setIfInBounds j u = #[ptrC h, .int .i64 x', .int .i64 y']) :
    Dc (w.setCell ⟨q, j, none⟩ u) B q h C x' y' ∧ Kept (fun t => t = 60) B w (w.setCell ⟨q, j, none⟩ u) := by
  have hk : Kept (fun t => t = 60) B w (w.setCell ⟨q, j, none⟩ u) := (Kept.refl (fun t => t = 60) _ _).setCell (p := ⟨q, j, none⟩) d.lo ⟨_, _, _, d.blk, rfl⟩ u
  refine ⟨⟨d.lo, ?_, d.shd.kept hk (by decide) (by decide), d.fam.kept hk (by decide) (by decide)⟩, hk⟩
  rw [← hj]
  exact heap_setCell_same w q j _ _ u d.blk

def NewD (w : World) (n r : Nat) (e : Ending) (w' : World) : Prop := ∃ (q h : Nat) (gs : List Nat), e = .returned (.pointer (some ⟨q, 0, none⟩)) ∧ gs.length = n ∧ Dc w' w.heap.size q h (news gs r) 0 0 ∧ Below w.heap.size w w'
set_option maxHeartbeats 1600000 in
theorem dnew_any (n r : Nat) (many room : Int) (w : World) (hn : (n : Int) = min (max many 1) 256) (hr : (r : Int) = max room 1) :
    Calls Try.prog 9 #[.int .i64 many, .int .i64 room] w (NewD w n r) := by
  have HC := Lib.hid (snew_any n r many room w hn hr)
  clear hn hr
  go_enter Try.func9, Try.ntmps9
  go_wp2_with fail
  refine HC.out.mono ?_
  rintro e w1 ⟨rfl, gs, hgl, hs, hf, hb⟩
  obtain ⟨W2, hW2⟩ : ∃ W2, W2 = w1.alloc (.cells #[ptrC w.heap.size, .int .i64 0, .int .i64 0] 60) := ⟨_, rfl⟩
  have hb2 : Below w1.heap.size w1 W2 := by rw [hW2]; exact (Below.refl _ _).alloc (Nat.le_refl _) _
  have hk2 : W2.heap[w1.heap.size]? = some (.cells #[ptrC w.heap.size, .int .i64 0, .int .i64 0] 60 (0, 0)) := by rw [hW2]; exact heap_alloc_new w1 _
  have HE : Hid (NewD w n r (.returned (.pointer (some ⟨w1.heap.size, 0, none⟩))) W2) := Lib.hid ⟨_, _, gs, rfl, hgl, ⟨hb.size, hk2, by rw [gs_news]; exact hs.later hb2, hf.later hb2⟩, hb.trans (hb2.mono hb.size)⟩
  rw [hW2] at HE
  unfold ptrC at HE
  clear hgl hs hf hb hb2 hk2 hW2
  go_wp2_with fail
  go_ret
  exact HE.out
theorem counts_any (B q h : Nat) (C : List Cc) (x y : Int) (w : World) (d : Dc w B q h C x y) :
    Calls Try.prog 24 #[.pointer (some ⟨q, 0, none⟩)] w fun e w' => e = .returned (.tuple #[.int .i64 x, .int .i64 y]) ∧ Below w.heap.size w w' := by
  have c1 := cell_of_blk d.blk 1
  have c2 := cell_of_blk d.blk 2
  clear d
  go_enter Try.func24, Try.ntmps24
  go_wp2_with fail
  go_quiet (fail)
  go_wp2_with fail
  go_ret2
  exact ⟨rfl, below_drewN _ _⟩
set_option maxHeartbeats 1600000 in
theorem dshard_any (B q h : Nat) (C : List Cc) (x y : Int) (dir s : ByteArray) (w : World) (d : Dc w B q h C x y) (h1 : 0 < C.length) (h2 : C.length ≤ 256) (hd : dir.size ≤ 1000) (hs : s.size ≤ 1000) :
    Calls Try.prog 14 #[.pointer (some ⟨q, 0, none⟩), .string dir, .string s] w fun e w' => e = .returned (.int .i64 (ofF (childB dir s) C.length : Int)) ∧ Below w.heap.size w w' := by
  have c0 := cell_of_blk d.blk 0
  unfold ptrC at c0
  have HCh := Lib.hid (fun w => child_any dir s w (by omega) (by omega))
  obtain ⟨k, hk⟩ : ∃ k, k = childB dir s := ⟨_, rfl⟩
  have hks : k.size ≤ 9223372036854775807 := by have := childB_size dir s; rw [hk]; omega
  rw [← hk] at HCh ⊢
  have HOf : Hid (∀ m, Calls Try.prog 43 #[.pointer (some ⟨h, 0, none⟩), .string k] (w.drewN m) fun e w' => e = .returned (.int .i64 (ofF k C.length : Int)) ∧ ∃ n, w' = (w.drewN m).drewN n) := Lib.hid fun m => by
    have hsh : Shd (w.drewN m) B h (gsOf C) := d.shd
    have := of_any B h (gsOf C) k (w.drewN m) hsh (by rw [gs_len]; exact h1) (by rw [gs_len]; exact h2) hks
    rw [gs_len] at this
    exact this
  clear d hk hks
  go_enter Try.func14, Try.ntmps14
  go_wp2_with fail
  go_quiet ((first
    | (go_at_call 44; exact Calls.quiet_of_same ((HCh.out _).mono fun e w' ⟨h1, h2⟩ => ⟨h1, h2.symm⟩))
    | (go_at_call 43; exact Calls.quiet_of (HOf.out _))))
  go_wp2_with fail
  go_ret
  exact ⟨rfl, below_drewN _ _⟩
end Go.Proofs.Ythhcbmljckgncaa.dca
