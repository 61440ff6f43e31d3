/- What lcache's ask and Take answer, whatever is handed in to make a list. Conditions: the cache lies in memory; what is handed in makes a list of its own, and turns nothing but a map, or nothing. -/
import Derived.Test.YthhcbmljckgncaaLcaSay
import Derived.Shelf.Abstract
import Derived.Defers
import Derived.Recover
namespace Go.Proofs.Ythhcbmljckgncaa.lca
set_option maxRecDepth 100000
open Go.RowKit Go.Proofs.Ythhcbmljckgncaa.words Go.Proofs.Ythhcbmljckgncaa.lru Go.Proofs.Ythhcbmljckgncaa.sha Go.Proofs.Ythhcbmljckgncaa.lrl Go.Proofs.Ythhcbmljckgncaa.shl

/-- Nothing but a map has turned, or nothing. -/
structure Mpd (bM : Option Nat) (w w' : World) : Prop where
  tn : Tn (fun k => some k = bM) w w'
  map : ∀ b, bM = some b → ∀ cs t f, w.heap[b]? ≠ some (.cells cs t f)
  map' : ∀ b, bM = some b → ∀ cs t f, w'.heap[b]? ≠ some (.cells cs t f)
theorem Mpd.of_below {w w' : World} (h : Below w.heap.size w w') : Mpd none w w' := ⟨Tn.of_below h _, fun _ e => (by cases e), fun _ e => (by cases e)⟩
section
variable {bM : Option Nat} {w w' : World}
theorem Mpd.ne (m : Mpd bM w w') {k : Nat} {cs : Array Value} {t : TypeId} {f : Nat × Nat} (h : w.heap[k]? = some (.cells cs t f)) : ¬ some k = bM := fun e => m.map k e.symm _ _ _ h
theorem Mpd.blk (m : Mpd bM w w') {k : Nat} {cs : Array Value} {t : TypeId} {f : Nat × Nat} (h : w.heap[k]? = some (.cells cs t f)) : w'.heap[k]? = some (.cells cs t f) :=
  (m.tn.block k (lt_of_some h) (m.ne h)).trans h
theorem Mpd.own (m : Mpd bM w w') {base : Nat} {e : TypeId} {size n : Nat} {v : Value} {xs : List Value} (ho : w.ownsRow base e size v n xs) : w'.ownsRow base e size v n xs :=
  m.tn.own ho fun k hk he => by
    rcases ho.2 with ⟨rfl, _⟩ | ⟨b, c, cur, rfl, _, hh, _⟩
    · simp [Value.ownBlock] at hk
    · have : b = k := by simpa [Value.ownBlock] using hk
      subst this
      exact m.ne hh he
theorem Mpd.lc (m : Mpd bM w w') {B q h : Nat} {C : List Cc} {x : Int} (d : Lc w B q h C x) : Lc w' B q h C x := by
  refine ⟨d.lo, m.blk d.blk, ?_, ⟨fun i c hc => ?_, d.fam.ok, d.fam.apart⟩⟩
  · obtain ⟨h0, v, hb, ho⟩ := d.shd
    exact ⟨h0, v, m.blk hb, m.own ho⟩
  · have hl := d.fam.lru i c hc
    exact hl.tn m.tn fun k hk e => by
      obtain ⟨_, cs, t, f, h1, _⟩ := hl.types _ hk
      exact m.ne h1 e
end
/-- Nothing has turned but a map, and what a call turns. -/
structure Kpm (B : Nat) (bM : Option Nat) (w w' : World) : Prop where
  os : w'.os = w.os
  tape : w'.tape = w.tape
  output : w'.output = w.output
  size : w.heap.size ≤ w'.heap.size
  block : ∀ k, k < w.heap.size → ¬ some k = bM → (k < B ∨ ∀ cs t f, w.heap[k]? = some (.cells cs t f) → ¬ DS t) → w'.heap[k]? = w.heap[k]?
  map : ∀ b, bM = some b → ∀ cs t f, w.heap[b]? ≠ some (.cells cs t f)
section
variable {B : Nat} {bM : Option Nat} {w w' w1 w2 : World}
theorem Kpm.ne (m : Kpm B bM w w') {k : Nat} {cs : Array Value} {t : TypeId} {f : Nat × Nat} (h : w.heap[k]? = some (.cells cs t f)) : ¬ some k = bM := fun e => m.map k e.symm _ _ _ h
theorem Kpm.blk (m : Kpm B bM w w') {k : Nat} {cs : Array Value} {t : TypeId} {f : Nat × Nat} (h : w.heap[k]? = some (.cells cs t f)) (hS : ¬ DS t) : w'.heap[k]? = some (.cells cs t f) :=
  (m.block k (lt_of_some h) (m.ne h) (.inr fun cs' t' f' he => by rw [h] at he; injection he with he; injection he with _ he _; rw [← he]; exact hS)).trans h
theorem Kpm.own (m : Kpm B bM w w') {base : Nat} {e : TypeId} {size n : Nat} {v : Value} {xs : List Value} (ho : w.ownsRow base e size v n xs) (hS : ¬ DS e) : w'.ownsRow base e size v n xs := by
  refine ⟨ho.1, ?_⟩
  rcases ho.2 with hz | ⟨b, c, cur, hv, hB, hh, h1, h2, h3, h4⟩
  · exact .inl hz
  · exact .inr ⟨b, c, cur, hv, hB, m.blk hh hS, h1, h2, h3, h4⟩
theorem Kpm.below (m : Kpm B bM w w') (hM : ∀ b, bM = some b → B ≤ b) (hB : B ≤ w.heap.size) : Below B w w' :=
  ⟨m.os, m.tape, m.output, m.size, fun k hk => m.block k (Nat.lt_of_lt_of_le hk hB) (fun e => by have := hM k e.symm; omega) (.inl hk)⟩
theorem Kpm.of_kept (h : Kept DS B w w') (hm : ∀ b, bM = some b → ∀ cs t f, w.heap[b]? ≠ some (.cells cs t f)) : Kpm B bM w w' :=
  ⟨h.os, h.tape, h.output, h.size, fun k hk _ hc => h.block k hk hc, hm⟩
theorem Kpm.kept_left (h : Kept DS B w w1) (m : Kpm B bM w1 w') (hm : ∀ b, bM = some b → ∀ cs t f, w.heap[b]? ≠ some (.cells cs t f)) : Kpm B bM w w' :=
  ⟨m.os.trans h.os, m.tape.trans h.tape, m.output.trans h.output, Nat.le_trans h.size m.size, fun k hk hne hc => by
    have e := h.block k hk hc
    exact (m.block k (Nat.lt_of_lt_of_le hk h.size) hne (hc.imp id fun hc cs t f hw => hc cs t f (e.symm.trans hw))).trans e, hm⟩
theorem Kpm.kept_right (m : Kpm B bM w w1) (h : Kept DS B w1 w') : Kpm B bM w w' :=
  ⟨h.os.trans m.os, h.tape.trans m.tape, h.output.trans m.output, Nat.le_trans m.size h.size, fun k hk hne hc => by
    have e := m.block k hk hne hc
    exact (h.block k (Nat.lt_of_lt_of_le hk m.size) (hc.imp id fun hc cs t f hw => hc cs t f (e.symm.trans hw))).trans e, m.map⟩
theorem Kpm.mpd_right {S : Nat → Prop} (h : Kept DS B w w1) (m : Mpd bM w1 w2) (t : Tn S w2 w') (hS : ∀ k, S k → w.heap.size ≤ k) (hm : ∀ b, bM = some b → ∀ cs t f, w.heap[b]? ≠ some (.cells cs t f)) : Kpm B bM w w' :=
  ⟨(t.os.trans m.tn.os).trans h.os, (t.tape.trans m.tn.tape).trans h.tape, (t.output.trans m.tn.output).trans h.output, Nat.le_trans h.size (Nat.le_trans m.tn.size t.size), fun k hk hne hc => by
    have h1 := Nat.lt_of_lt_of_le hk h.size
    exact ((t.block k (Nat.lt_of_lt_of_le h1 m.tn.size) fun hs => by have := hS k hs; omega).trans (m.tn.block k h1 hne)).trans (h.block k hk hc), hm⟩
end
theorem idle2 (a b : Addr) (w : World) : CallsD Try.prog 64 #[.pointer (some a), .pointer (some b)] .returning w fun e u' w' => e = .returned (.tuple #[]) ∧ u' = .returning ∧ w' = w := by
  refine callsD_of_wpS Try.func64 rfl fun c₀ cs hu => ?_
  apply wpS_seq
  apply wpS_region
  simp [wpOpsS, go_sem, recoverD, hu, Try.ntmps64, Exit.thenS]
  refine wpS_cond (t := false) (by simp [Act.eval, Array.replicate]) ?_
  simp only [Bool.false_eq_true, if_false]
  refine wpS_of_wp (wp_skip ?_)
  cases c₀
  simp_all [bodyPostS, results, Try.results64]
/-- A function that makes the list l, turns nothing but a map, or nothing, and ends in a world of which Post holds. -/
def Makes (B : Nat) (bM : Option Nat) (w : World) (F : FuncId) (caps : Array Value) (l : List (ByteArray × Int)) (Post : World → Prop) : Prop :=
  ∀ w1, Kept DS B w w1 → Calls Try.prog F caps w1 fun e w2 => (∃ A c, e = .returned (.slice A l.length c) ∧ Enr w2 w1.heap.size (.slice A l.length c) l) ∧ Mpd bM w1 w2 ∧ Post w2
/-- What a list that was made comes with. -/
def AskOut (B q h : Nat) (C : List Cc) (x : Int) (bM : Option Nat) (l : List (ByteArray × Int)) (Post : World → Prop) (w w' : World) (A : Option Addr) (c : Nat) : Prop :=
  Enr w' w.heap.size (.slice A l.length c) l ∧ Lc w' B q h C (x + 1) ∧ Kpm B bM w w' ∧ ∃ w2, Post w2 ∧ ∀ b, bM = some b → w'.heap[b]? = w2.heap[b]? ∧ ∀ cs t f, w'.heap[b]? ≠ some (.cells cs t f)
set_option maxHeartbeats 3200000 in
theorem ask_any (B q h : Nat) (C : List Cc) (x : Int) (F : FuncId) (caps : Array Value) (bM : Option Nat) (l : List (ByteArray × Int)) (Post : World → Prop) (w : World) (d : Lc w B q h C x) (hx : 0 ≤ x ∧ x ≤ 1000000)
    (hent : Enters Try.prog F) (hM : ∀ b, bM = some b → b < w.heap.size ∧ ∀ cs t f, w.heap[b]? ≠ some (.cells cs t f)) (hmk : Makes B bM w F caps l Post) :
    Calls Try.prog 54 #[.pointer (some ⟨q, 0, none⟩), .func (.func F) #[] caps] w fun e w' => ∃ A c, e = .returned (.tuple #[.slice A l.length c, .bool true]) ∧ AskOut B q h C x bM l Post w w' A c := by
  obtain ⟨W1, hW1⟩ : ∃ W1, W1 = w.alloc (.cells #[.slice none 0 0] 72) := ⟨_, rfl⟩
  obtain ⟨W2, hW2⟩ : ∃ W2, W2 = W1.alloc (.cells #[.bool false] 4) := ⟨_, rfl⟩
  have hb1 : Below w.heap.size w W1 := by rw [hW1]; exact (Below.refl _ _).alloc (Nat.le_refl _) _
  have hb2 : Below W1.heap.size W1 W2 := by rw [hW2]; exact (Below.refl _ _).alloc (Nat.le_refl _) _
  have hz1 : W1.heap.size = w.heap.size + 1 := by rw [hW1]; simp
  have hb12 := hb1.trans (hb2.mono hb1.size)
  have k1 : W1.heap[w.heap.size]? = some (.cells #[.slice none 0 0] 72 (0, 0)) := by rw [hW1]; exact heap_alloc_new w _
  have k2 : W2.heap[w.heap.size + 1]? = some (.cells #[.bool false] 4 (0, 0)) := by rw [hW2, ← hz1]; exact heap_alloc_new W1 _
  have k12 := (hb2.block _ (lt_of_some k1)).trans k1
  have d2 := d.later hb12
  have c1 := cell_of_blk d2.blk 1
  have g1 := free_of_blk d2.blk 1
  have hxw : IntKind.i64.wrap (x + 1) = x + 1 := IntWalk.i64_in _ (by omega)
  obtain ⟨d3, hk3⟩ := d2.count (x + 1)
  obtain ⟨W3, hW3⟩ : ∃ W3, W3 = W2.setCell ⟨q, 1, none⟩ (.int .i64 (x + 1)) := ⟨_, rfl⟩
  rw [← hW3] at d3 hk3
  have hkw : Kept DS B w W3 := (Kept.of_below hb12 DS B).trans (keptWider hk3 fun _ h => .inr (.inr h))
  have HC := Lib.hid (hmk W3 hkw)
  have kk1 := hk3.blk k12 (by decide)
  have kk2 := hk3.blk k2 (by decide)
  have hmf : ∀ (fn : Fn) (first cap : Array Value) (w : World), (Instr.makeFunc fn first cap).run Try.prog w = .ok (.func fn first cap) w := fun _ _ _ _ => rfl
  have hef : ∀ w : World, (binOp .eql 79 (.func (.func F) #[] caps) .nilFunc).run Try.prog w = .ok (.bool false) w := fun _ => by kernel_rfl
  have HKW := Lib.hid hkw
  have HD3 := Lib.hid d3
  have HK1 := Lib.hid kk1
  have HK2 := Lib.hid kk2
  have HW1 := Lib.hid hW1
  have HW2 := Lib.hid hW2
  have HW3 := Lib.hid hW3
  have HZ1 := Lib.hid hz1
  have HM := Lib.hid hM
  have HSZ : Hid (w.heap.size + 2 ≤ W3.heap.size) := Lib.hid (by have := lt_of_some kk2; omega)
  have HF : Hid (∀ (w4 : World) (A : Option Addr) (c : Nat), Enr w4 W3.heap.size (.slice A l.length c) l → Mpd bM W3 w4 → Post w4 → AskOut B q h C x bM l Post w ((w4.setCell ⟨w.heap.size, 0, none⟩ (.slice A l.length c)).setCell ⟨w.heap.size + 1, 0, none⟩ (.bool true)) A c) := Lib.hid fun w4 A c he4 hm4 hp4 => by
    have b1 := hm4.blk kk1
    have b2 := hm4.blk kk2
    have hka : Kept (fun t => t = 72 ∨ t = 4) 0 w4 (w4.setCell ⟨w.heap.size, 0, none⟩ (.slice A l.length c)) := (Kept.refl _ _ _).setCell (p := ⟨w.heap.size, 0, none⟩) (Nat.zero_le _) ⟨_, _, _, b1, .inl rfl⟩ _
    have hb2' : (w4.setCell ⟨w.heap.size, 0, none⟩ (.slice A l.length c)).heap[w.heap.size + 1]? = some (.cells #[.bool false] 4 (0, 0)) := (Below.heap_setCell _ _ _ _ (show w.heap.size + 1 ≠ w.heap.size by omega)).trans b2
    have hkb := hka.setCell (p := ⟨w.heap.size + 1, 0, none⟩) (Nat.zero_le _) ⟨_, _, _, hb2', .inr rfl⟩ (.bool true)
    have ht : Tn (fun k => k = w.heap.size ∨ k = w.heap.size + 1) w4 ((w4.setCell ⟨w.heap.size, 0, none⟩ (.slice A l.length c)).setCell ⟨w.heap.size + 1, 0, none⟩ (.bool true)) := ((Tn.refl _ w4).setCell (p := ⟨w.heap.size, 0, none⟩) (.inr (.inl rfl)) _).setCell (p := ⟨w.heap.size + 1, 0, none⟩) (.inr (.inr rfl)) _
    refine ⟨(he4.mono hkw.size).kept hkb (by decide), (hm4.lc d3).kept hkb (by decide) (by decide) (by decide) (by decide) (by decide), Kpm.mpd_right hkw hm4 ht (fun k hk => by omega) (fun b hb => (hM b hb).2), w4, hp4, fun b hb => ?_⟩
    have hlt := (hM b hb).1
    have e := ht.block b (Nat.lt_of_lt_of_le hlt (Nat.le_trans hkw.size hm4.tn.size)) (by omega)
    exact ⟨e, fun cs t f hc => hm4.map' b hb cs t f (e.symm.trans hc)⟩
  unfold Enters at hent
  rw [hz1] at hb2
  clear hW1 hW2 hW3 hb1 hb2 hb12 k1 k2 k12 d d2 d3 hk3 hkw hmk kk1 kk2 hM hz1
  go_enter_defers Try.func54, Try.ntmps54
  go_upto_region 1 with fail
  rw [← HW1.out, ← HW2.out]
  go_upto_region 5 with fail
  rw [← HW3.out]
  clear c1 g1
  go_wp2_with (go_at_fn F; refine HC.out.mono ?_; rintro e w4 ⟨⟨A, c, rfl, he4⟩, hm4, hp4⟩; have z0 := cell_of_blk (hm4.blk HK1.out) 0; have fz0 := free_of_blk (hm4.blk HK1.out) 0; have z1 := cell_of_blk (hm4.blk HK2.out) 0; have fz1 := free_of_blk (hm4.blk HK2.out) 0; have HE := Lib.hid (HF.out w4 A c he4 hm4 hp4); have HB1' := Lib.hid (hm4.blk HK1.out); have HB2' := Lib.hid (hm4.blk HK2.out); clear he4 hm4 hp4)
  obtain ⟨W9, hW9⟩ : ∃ W9, W9 = (w4.setCell ⟨w.heap.size, 0, none⟩ (.slice A l.length c)).setCell ⟨w.heap.size + 1, 0, none⟩ (.bool true) := ⟨_, rfl⟩
  have y0 : W9.cell? ⟨w.heap.size, 0, none⟩ = some (.slice A l.length c) := by
    rw [hW9]
    exact cell_of_blk ((Below.heap_setCell _ ⟨w.heap.size + 1, 0, none⟩ _ _ (show w.heap.size ≠ w.heap.size + 1 by omega)).trans (heap_setCell_same w4 w.heap.size 0 _ _ (.slice A l.length c) HB1'.out)) 0
  have y1 : W9.cell? ⟨w.heap.size + 1, 0, none⟩ = some (.bool true) := by
    rw [hW9]
    exact cell_of_blk (heap_setCell_same _ (w.heap.size + 1) 0 _ _ (.bool true) ((Below.heap_setCell _ ⟨w.heap.size, 0, none⟩ _ _ (show w.heap.size + 1 ≠ w.heap.size by omega)).trans HB2'.out)) 0
  rw [← hW9] at HE ⊢
  clear hW9
  refine leaves_cons (f := 64) (args := #[.pointer (some ⟨w.heap.size, 0, none⟩), .pointer (some ⟨w.heap.size + 1, 0, none⟩)]) (by simp) (by simp [go_sem]) ?_
  refine (idle2 ⟨w.heap.size, 0, none⟩ ⟨w.heap.size + 1, 0, none⟩ _).mono ?_
  rintro e u' w'' ⟨rfl, rfl, rfl⟩
  simp [Leaves, settle, results, Try.results54, go_sem, y0, y1]
  exact ⟨_, _, ⟨rfl, rfl⟩, HE.out⟩

theorem val_get (L : List (ByteArray × Lst)) (k : ByteArray) : val (getL L k) k = val L k := by
  unfold getL
  rcases h : val L k with _ | v
  · exact h
  · simp [val]
theorem getL_some {L : List (ByteArray × Lst)} {k : ByteArray} {v : Lst} (h : val L k = some v) : getL L k = (k, v) :: rest L k := by
  unfold getL
  rw [h]
theorem gotB_get (L : List (ByteArray × Lst)) (k : ByteArray) : lrl.gotB (getL L k) k = lrl.gotB L k := by unfold lrl.gotB; rw [val_get]
theorem gotI_get (L : List (ByteArray × Lst)) (k : ByteArray) : lrl.gotI (getL L k) k = lrl.gotI L k := by unfold lrl.gotI; rw [val_get]
set_option maxHeartbeats 1600000 in
/-- What is remembered of that epoch is answered, apart; nothing is made. -/
theorem take_hit (B q h i : Nat) (c : Cc) (C : List Cc) (x epoch : Int) (k : ByteArray) (w : World) (d : Lc w B q h C x) (h1 : 0 < C.length) (h2 : C.length ≤ 256) (hki : i = ofF k C.length) (hi : C[i]? = some c) (hlen : c.L.length ≤ 900) (hk : k.size ≤ 1000) (V : Value)
    (lo : Nat) (l : List (ByteArray × Int)) (hl : l.length ≤ 1000) (hno : lrl.gotB c.L k = true ∧ (lrl.gotI c.L k).ep = epoch ∧ (lrl.gotI c.L k).n = l.length ∧ Enr w lo (.slice (lrl.gotI c.L k).a l.length (lrl.gotI c.L k).c) l) :
    Calls Try.prog 32 #[.pointer (some ⟨q, 0, none⟩), .int .i64 epoch, .string k, V] w fun e w' => ∃ (A : Option Addr) (c' : Nat), e = .returned (.slice A l.length c') ∧ Enr w' w.heap.size (.slice A l.length c') l ∧ (∃ bo', Lc w' B q h (C.set i ⟨c.g, bo', c.r, getL c.L k⟩) x) ∧ Kept LS B w w' := by
  have HLK := Lib.hid (look_yes B q h i c C x epoch k w d h1 h2 hki hi hlen hk lo l hl hno)
  clear d h1 h2 hki hi hlen hk hl hno
  go_enter Try.func32, Try.ntmps32
  go_wp2_with fail
  refine HLK.out.mono ?_
  rintro e w1 ⟨A, c', rfl, h4⟩
  have HE := Lib.hid h4
  clear h4
  go_wp2_with fail
  go_ret
  exact ⟨A, c', rfl, HE.out⟩
/-- The caches behind a look, and what is made then. -/
structure Miss (B q h i : Nat) (c : Cc) (C : List Cc) (x epoch : Int) (k : ByteArray) (w : World) (F : FuncId) (caps : Array Value) (bM : Option Nat) (l : List (ByteArray × Int)) (Post : World → Prop) : Prop where
  dc : Lc w B q h C x
  pos : 0 < C.length
  few : C.length ≤ 256
  of : i = ofF k C.length
  at_ : C[i]? = some c
  len : c.L.length ≤ 900
  key : k.size ≤ 1000
  cnt : 0 ≤ x ∧ x ≤ 1000000
  lo : B ≤ w.heap.size
  ent : Enters Try.prog F
  map : ∀ b, bM = some b → b < w.heap.size ∧ ∀ cs t f, w.heap[b]? ≠ some (.cells cs t f)
  mkr : Makes B bM w F caps l Post
  few2 : l.length ≤ 1000
  no : lrl.gotB c.L k = false ∨ (lrl.gotI c.L k).ep ≠ epoch
section
variable {B q h i : Nat} {c : Cc} {C : List Cc} {x epoch : Int} {k : ByteArray} {w w1 w2 w3 w4 : World} {F : FuncId} {caps : Array Value} {bM : Option Nat} {l : List (ByteArray × Int)} {Post : World → Prop} {bo' : Option Nat} {A : Option Addr} {ca : Nat}
theorem Miss.look (m : Miss B q h i c C x epoch k w F caps bM l Post) :
    Calls Try.prog 28 #[.pointer (some ⟨q, 0, none⟩), .int .i64 epoch, .string k] w fun e w' => e = .returned (.tuple #[.slice none 0 0, .bool false]) ∧ (∃ bo', Lc w' B q h (C.set i ⟨c.g, bo', c.r, getL c.L k⟩) x) ∧ Kept LS B w w' :=
  look_no B q h i c C x epoch k w m.dc m.pos m.few m.of m.at_ m.len m.key m.no
theorem Miss.ask (m : Miss B q h i c C x epoch k w F caps bM l Post) (d : Lc w1 B q h (C.set i ⟨c.g, bo', c.r, getL c.L k⟩) x) (hk : Kept LS B w w1) :
    Calls Try.prog 54 #[.pointer (some ⟨q, 0, none⟩), .func (.func F) #[] caps] w1 fun e w' => ∃ A c', e = .returned (.tuple #[.slice A l.length c', .bool true]) ∧ AskOut B q h (C.set i ⟨c.g, bo', c.r, getL c.L k⟩) x bM l Post w1 w' A c' := by
  have hk' : Kept DS B w w1 := keptWider hk fun _ => LS.ds
  refine ask_any B q h _ x F caps bM l Post w1 d m.cnt m.ent (fun b hb => ?_) (fun w2 h2 => m.mkr w2 (hk'.trans h2))
  obtain ⟨h1, h2⟩ := m.map b hb
  refine ⟨Nat.lt_of_lt_of_le h1 hk.size, fun cs t f he => ?_⟩
  rw [hk.block b h1 (.inr fun cs t f he => absurd he (h2 cs t f))] at he
  exact h2 cs t f he
theorem Miss.set (m : Miss B q h i c C x epoch k w F caps bM l Post) (bo' : Option Nat) : (C.set i ⟨c.g, bo', c.r, getL c.L k⟩)[i]? = some ⟨c.g, bo', c.r, getL c.L k⟩ := by
  rw [List.getElem?_set, if_pos rfl, if_pos (List.getElem?_eq_some_iff.1 m.at_).1]
theorem Miss.keepYes (m : Miss B q h i c C x epoch k w F caps bM l Post) (hk : Kept LS B w w1) (o : AskOut B q h (C.set i ⟨c.g, bo', c.r, getL c.L k⟩) x bM l Post w1 w2 A ca) (hno : lrl.gotB c.L k = false ∨ (lrl.gotI c.L k).ep ≤ epoch) :
    Calls Try.prog 31 #[.pointer (some ⟨q, 0, none⟩), .int .i64 epoch, .string k, .slice A l.length ca] w2 fun e w' => e = .returned (.bool true) ∧ ∃ (A2 : Option Addr) (c2 : Nat), Enr w' w2.heap.size (.slice A2 l.length c2) l ∧ (∃ bo2, Lc w' B q h (C.set i ⟨c.g, bo2, c.r, putL c.L c.r k ⟨epoch, A2, l.length, c2⟩⟩) (x + 1)) ∧ Kept LS B w2 w' := by
  obtain ⟨o1, o2, o3, _⟩ := o
  have hl : (C.set i ⟨c.g, bo', c.r, getL c.L k⟩).length = C.length := List.length_set
  refine (keep_yes B q h i ⟨c.g, bo', c.r, getL c.L k⟩ _ (x + 1) epoch k w2 o2 (by rw [hl]; exact m.pos) (by rw [hl]; exact m.few) (by rw [hl]; exact m.of) (m.set bo') (by show (getL c.L k).length ≤ 900; rw [get_len (m.dc.fam.ok i c m.at_)]; exact m.len) m.key (Nat.le_trans m.lo (Nat.le_trans hk.size o3.size)) w1.heap.size A ca l m.few2 o1 (by show lrl.gotB (getL c.L k) k = false ∨ (lrl.gotI (getL c.L k) k).ep ≤ epoch; rw [gotB_get, gotI_get]; exact hno)).mono ?_
  rintro e w' ⟨rfl, A2, c2, h1, ⟨bo2, h2⟩, h3⟩
  refine ⟨rfl, A2, c2, h1, ⟨bo2, ?_⟩, h3⟩
  rw [List.set_set, put_get] at h2
  exact h2
theorem Miss.keepNo (m : Miss B q h i c C x epoch k w F caps bM l Post) (o : AskOut B q h (C.set i ⟨c.g, bo', c.r, getL c.L k⟩) x bM l Post w1 w2 A ca) (hno : lrl.gotB c.L k = true ∧ epoch < (lrl.gotI c.L k).ep) :
    Calls Try.prog 31 #[.pointer (some ⟨q, 0, none⟩), .int .i64 epoch, .string k, .slice A l.length ca] w2 fun e w' => e = .returned (.bool false) ∧ (∃ bo2, Lc w' B q h (C.set i ⟨c.g, bo2, c.r, getL c.L k⟩) (x + 1)) ∧ Kept LS B w2 w' := by
  obtain ⟨o1, o2, o3, _⟩ := o
  have hl : (C.set i ⟨c.g, bo', c.r, getL c.L k⟩).length = C.length := List.length_set
  refine (keep_no B q h i ⟨c.g, bo', c.r, getL c.L k⟩ _ (x + 1) epoch k w2 o2 (by rw [hl]; exact m.pos) (by rw [hl]; exact m.few) (by rw [hl]; exact m.of) (m.set bo') (by show (getL c.L k).length ≤ 900; rw [get_len (m.dc.fam.ok i c m.at_)]; exact m.len) m.key _ (by show lrl.gotB (getL c.L k) k = true ∧ epoch < (lrl.gotI (getL c.L k) k).ep; rw [gotB_get, gotI_get]; exact hno)).mono ?_
  rintro e w' ⟨rfl, ⟨bo2, h2⟩, h3⟩
  refine ⟨rfl, ⟨bo2, ?_⟩, h3⟩
  have hg : getL (getL c.L k) k = getL c.L k := by
    rcases hv : val c.L k with _ | v
    · have : getL c.L k = c.L := by unfold getL; rw [hv]
      rw [this, this]
    · rw [getL_some (L := getL c.L k) ((val_get c.L k).trans hv), rest_get, getL_some hv]
  rw [List.set_set, hg] at h2
  exact h2
/-- What a miss comes to. -/
def TakeOut (B : Nat) (bM : Option Nat) (l : List (ByteArray × Int)) (Post : World → Prop) (w w' : World) (A : Option Addr) (c' : Nat) : Prop :=
  Enr w' w.heap.size (.slice A l.length c') l ∧ Kpm B bM w w' ∧ ∃ w2, Post w2 ∧ ∀ b, bM = some b → w'.heap[b]? = w2.heap[b]? ∧ ∀ cs t f, w'.heap[b]? ≠ some (.cells cs t f)
theorem Miss.fin (m : Miss B q h i c C x epoch k w F caps bM l Post) (hk : Kept LS B w w1) (o : AskOut B q h (C.set i ⟨c.g, bo', c.r, getL c.L k⟩) x bM l Post w1 w2 A ca) (hk3 : Kept LS B w2 w3) (hb : Below w3.heap.size w3 w4) {A4 : Option Addr} {c4 : Nat} (he : Enr w4 w3.heap.size (.slice A4 l.length c4) l) :
    TakeOut B bM l Post w w4 A4 c4 := by
  obtain ⟨_, _, o3, u, o4, o5⟩ := o
  have hk' : Kept DS B w w1 := keptWider hk fun _ => LS.ds
  have hk34 : Kept DS B w2 w4 := (keptWider hk3 fun _ => LS.ds).trans (Kept.of_below hb DS B)
  refine ⟨he.mono (Nat.le_trans hk.size (Nat.le_trans o3.size hk3.size)), (Kpm.kept_left hk' o3 fun b hb => (m.map b hb).2).kept_right hk34, u, o4, fun b hb => ?_⟩
  obtain ⟨h1, h2⟩ := o5 b hb
  have hlt : b < w2.heap.size := Nat.lt_of_lt_of_le (m.map b hb).1 (Nat.le_trans hk.size o3.size)
  have e := hk34.block b hlt (.inr fun cs t f he => absurd he (h2 cs t f))
  exact ⟨e.trans h1, fun cs t f he => h2 cs t f (e.symm.trans he)⟩
end
set_option maxHeartbeats 1600000 in
/-- Nothing of that epoch is remembered, nor of a later one: a list is made, kept and answered, apart. -/
theorem take_new (B q h i : Nat) (c : Cc) (C : List Cc) (x epoch : Int) (k : ByteArray) (w : World) (F : FuncId) (caps : Array Value) (bM : Option Nat) (l : List (ByteArray × Int)) (Post : World → Prop) (m : Miss B q h i c C x epoch k w F caps bM l Post) (hno : lrl.gotB c.L k = false ∨ (lrl.gotI c.L k).ep ≤ epoch) :
    Calls Try.prog 32 #[.pointer (some ⟨q, 0, none⟩), .int .i64 epoch, .string k, .func (.func F) #[] caps] w fun e w' => ∃ (A : Option Addr) (c' : Nat), e = .returned (.slice A l.length c') ∧ TakeOut B bM l Post w w' A c' ∧ ∃ (A2 : Option Addr) (c2 : Nat), Enr w' w.heap.size (.slice A2 l.length c2) l ∧ (∀ b, (Value.slice A2 l.length c2).ownBlock = some b → (Value.slice A l.length c').ownBlock ≠ some b) ∧ ∃ bo', Lc w' B q h (C.set i ⟨c.g, bo', c.r, putL c.L c.r k ⟨epoch, A2, l.length, c2⟩⟩) (x + 1) := by
  have HM := Lib.hid m
  have HNO := Lib.hid hno
  clear m hno
  go_enter Try.func32, Try.ntmps32
  go_wp2_with fail
  refine HM.out.look.mono ?_
  rintro e w1 ⟨rfl, ⟨bo', d1⟩, hk1⟩
  have HA := Lib.hid (HM.out.ask d1 hk1)
  have HK1 := Lib.hid hk1
  clear d1 hk1
  go_wp2_with fail
  refine HA.out.mono ?_
  rintro e w2 ⟨A, ca, rfl, o⟩
  have HKP := Lib.hid (HM.out.keepYes HK1.out o HNO.out)
  have HO := Lib.hid o
  clear o HA
  go_wp2_with fail
  refine HKP.out.mono ?_
  rintro e w3 ⟨rfl, A2, c2, he3, ⟨bo2, d3⟩, hk3⟩
  have HCP := Lib.hid (copy_any w1.heap.size A ca l w3 (HO.out.1.kept hk3 (by unfold LS; decide)) HM.out.few2)
  have HE3 := Lib.hid he3
  have HD3 := Lib.hid d3
  have HK3 := Lib.hid hk3
  clear he3 d3 hk3 HKP
  go_wp2_with fail
  refine HCP.out.mono ?_
  rintro e w4 ⟨⟨A4, c4, rfl, he4⟩, hb4⟩
  have HF := Lib.hid (And.intro (HM.out.fin HK1.out HO.out HK3.out hb4 he4) (And.intro ((HE3.out.later hb4).mono (Nat.le_trans HK1.out.size HO.out.2.2.1.size)) (And.intro (show ∀ b, (Value.slice A2 l.length c2).ownBlock = some b → (Value.slice A4 l.length c4).ownBlock ≠ some b from fun b hb hc => by
    have h1 := (HE3.out.lt b hb).2
    have h2 := (he4.lt b hc).1
    omega) (HD3.out.later hb4))))
  clear he4 hb4 HCP
  go_wp2_with fail
  go_ret
  exact ⟨A4, c4, rfl, HF.out.1, A2, c2, HF.out.2.1, HF.out.2.2.1, bo2, HF.out.2.2.2⟩
set_option maxHeartbeats 1600000 in
/-- Something of a later epoch is remembered: a list is made and answered, and not kept. -/
theorem take_late (B q h i : Nat) (c : Cc) (C : List Cc) (x epoch : Int) (k : ByteArray) (w : World) (F : FuncId) (caps : Array Value) (bM : Option Nat) (l : List (ByteArray × Int)) (Post : World → Prop) (m : Miss B q h i c C x epoch k w F caps bM l Post) (hno : lrl.gotB c.L k = true ∧ epoch < (lrl.gotI c.L k).ep) :
    Calls Try.prog 32 #[.pointer (some ⟨q, 0, none⟩), .int .i64 epoch, .string k, .func (.func F) #[] caps] w fun e w' => ∃ (A : Option Addr) (c' : Nat), e = .returned (.slice A l.length c') ∧ TakeOut B bM l Post w w' A c' ∧ ∃ bo', Lc w' B q h (C.set i ⟨c.g, bo', c.r, getL c.L k⟩) (x + 1) := by
  have HM := Lib.hid m
  have HNO := Lib.hid hno
  clear m hno
  go_enter Try.func32, Try.ntmps32
  go_wp2_with fail
  refine HM.out.look.mono ?_
  rintro e w1 ⟨rfl, ⟨bo', d1⟩, hk1⟩
  have HA := Lib.hid (HM.out.ask d1 hk1)
  have HK1 := Lib.hid hk1
  clear d1 hk1
  go_wp2_with fail
  refine HA.out.mono ?_
  rintro e w2 ⟨A, ca, rfl, o⟩
  have HKP := Lib.hid (HM.out.keepNo o HNO.out)
  have HO := Lib.hid o
  clear o HA
  go_wp2_with fail
  refine HKP.out.mono ?_
  rintro e w3 ⟨rfl, ⟨bo2, d3⟩, hk3⟩
  have HCP := Lib.hid (copy_any w1.heap.size A ca l w3 (HO.out.1.kept hk3 (by unfold LS; decide)) HM.out.few2)
  have HD3 := Lib.hid d3
  have HK3 := Lib.hid hk3
  clear d3 hk3 HKP
  go_wp2_with fail
  refine HCP.out.mono ?_
  rintro e w4 ⟨⟨A4, c4, rfl, he4⟩, hb4⟩
  have HF := Lib.hid (And.intro (HM.out.fin HK1.out HO.out HK3.out hb4 he4) (HD3.out.later hb4))
  clear he4 hb4 HCP
  go_wp2_with fail
  go_ret
  exact ⟨A4, c4, rfl, HF.out.1, bo2, HF.out.2⟩
end Go.Proofs.Ythhcbmljckgncaa.lca
