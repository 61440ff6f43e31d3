/- What the law LcacheDoes keeps: caches of lists beside rows of keys, a map of what each key was, and a list that was answered. No condition but that what is asked lies in memory. -/
import Derived.Test.YthhcbmljckgncaaLcaSpeak
import Derived.Test.YthhcbmljckgncaaDdoMath
import Derived.Test.YthhcbmljckgncaaArgAct16
namespace Go.Proofs.Ythhcbmljckgncaa.ldo
set_option maxRecDepth 100000
open Go.RowKit Go.Proofs.Ythhcbmljckgncaa.words Go.Proofs.Ythhcbmljckgncaa.lru Go.Proofs.Ythhcbmljckgncaa.sha Go.Proofs.Ythhcbmljckgncaa.lrl Go.Proofs.Ythhcbmljckgncaa.shl Go.Proofs.Ythhcbmljckgncaa.lca Go.Proofs.Ythhcbmljckgncaa.mpf
open Go.Proofs.Ythhcbmljckgncaa.ddo (keys len_keys keys_rest gone_keys keys_put keys_get keys_use mem_get mem_put both set_same)
open Go.Proofs.Ythhcbmljckgncaa.dca (dirB dir_any dirB_size)

theorem got_of {L : List (ByteArray × Lst)} {k : ByteArray} {xe : Lst} (h : val L k = some xe) : lrl.gotB L k = true ∧ lrl.gotI L k = xe := by
  unfold lrl.gotB lrl.gotI
  rw [h]
  exact ⟨rfl, rfl⟩
theorem got_none {L : List (ByteArray × Lst)} {k : ByteArray} (h : val L k = none) : lrl.gotB L k = false := by
  unfold lrl.gotB
  rw [h]
  rfl
theorem get_no {L : List (ByteArray × Lst)} {k : ByteArray} (h : val L k = none) : getL L k = L := by
  unfold getL
  rw [h]
/-! Entries -/
structure EntIs (w : World) (a : Act16) (xe : Lst) : Prop where
  ep : xe.ep = a.ep
  n : xe.n = (entL a.mn).length
  row : Enr w 0 (.slice xe.a (entL a.mn).length xe.c) (entL a.mn)
  mn : a.mn ≤ 255
theorem EntIs.kept {S : TypeId → Prop} {B : Nat} {w w' : World} {a : Act16} {xe : Lst} (h : EntIs w a xe) (hk : Kept S B w w') (hS : ¬ S 81) : EntIs w' a xe := ⟨h.ep, h.n, h.row.kept hk hS, h.mn⟩
/-- What each key in the caches was. -/
def Ents (w : World) (n : Nat) (C : List Cc) (M : ByteArray → Option Act16) : Prop :=
  ∀ (i : Nat) (c : Cc) (k : ByteArray) (xe : Lst), C[i]? = some c → (k, xe) ∈ c.L → ofF k n = i ∧ ∃ a, M k = some a ∧ EntIs w a xe
theorem Ents.kept {S : TypeId → Prop} {B : Nat} {w w' : World} {n : Nat} {C : List Cc} {M : ByteArray → Option Act16} (h : Ents w n C M) (hk : Kept S B w w') (hS : ¬ S 81) : Ents w' n C M := fun i c k xe hc hm => by
  obtain ⟨h1, a, h2, h3⟩ := h i c k xe hc hm
  exact ⟨h1, a, h2, h3.kept hk hS⟩
theorem Ents.got {w : World} {n : Nat} {C : List Cc} {M : ByteArray → Option Act16} (h : Ents w n C M) {i : Nat} {c : Cc} (hi : C[i]? = some c) (bo : Option Nat) (k : ByteArray) : Ents w n (C.set i ⟨c.g, bo, c.r, getL c.L k⟩) M := fun j c' k' xe hc hm => by
  rw [List.getElem?_set] at hc
  split at hc
  · rename_i e
    subst e
    split at hc
    · injection hc with hc
      subst hc
      exact h i c k' xe hi (mem_get hm)
    · cases hc
  · exact h j c' k' xe hc hm
def updM (M : ByteArray → Option Act16) (k : ByteArray) (a : Act16) (k' : ByteArray) : Option Act16 := if k' = k then some a else M k'
theorem Ents.put {w : World} {n : Nat} {C : List Cc} {M : ByteArray → Option Act16} (h : Ents w n C M) {i : Nat} {c : Cc} (hi : C[i]? = some c) (bo : Option Nat) {k : ByteArray} {a : Act16} {v : Lst} (hk : ofF k n = i) (hv : EntIs w a v) : Ents w n (C.set i ⟨c.g, bo, c.r, putL c.L c.r k v⟩) (updM M k a) := fun j c' k' xe hc hm => by
  rw [List.getElem?_set] at hc
  unfold updM
  split at hc
  · rename_i e
    subst e
    split at hc
    · injection hc with hc
      subst hc
      rcases mem_put hm with e | ⟨hm, hne⟩
      · injection e with e1 e2
        subst e1 e2
        rw [if_pos rfl]
        exact ⟨hk, a, rfl, hv⟩
      · rw [if_neg hne]
        exact h i c k' xe hi hm
    · cases hc
  · rename_i e
    obtain ⟨h1, h2⟩ := h j c' k' xe hc hm
    have hne : k' ≠ k := fun e' => by rw [e'] at h1; exact e (hk.symm.trans h1)
    rw [if_neg hne]
    exact ⟨h1, h2⟩
/-- A list that was answered lies apart from all that is kept. -/
def Apart (C : List Cc) (v : Value) : Prop := ∀ (i : Nat) (c : Cc) (k : ByteArray) (xe : Lst), C[i]? = some c → (k, xe) ∈ c.L → ∀ b, (Value.slice xe.a xe.n xe.c).ownBlock = some b → v.ownBlock ≠ some b
theorem Apart.got {C : List Cc} {v : Value} (h : Apart C v) {i : Nat} {c : Cc} (hi : C[i]? = some c) (bo : Option Nat) (k : ByteArray) : Apart (C.set i ⟨c.g, bo, c.r, getL c.L k⟩) v := fun j c' k' xe hc hm => by
  rw [List.getElem?_set] at hc
  split at hc
  · rename_i e
    subst e
    split at hc
    · injection hc with hc
      subst hc
      exact h i c k' xe hi (mem_get hm)
    · cases hc
  · exact h j c' k' xe hc hm
theorem Apart.put {C : List Cc} {v : Value} (h : Apart C v) {i : Nat} {c : Cc} (hi : C[i]? = some c) (bo : Option Nat) {k : ByteArray} {u : Lst} (hu : ∀ b, (Value.slice u.a u.n u.c).ownBlock = some b → v.ownBlock ≠ some b) : Apart (C.set i ⟨c.g, bo, c.r, putL c.L c.r k u⟩) v := fun j c' k' xe hc hm => by
  rw [List.getElem?_set] at hc
  split at hc
  · rename_i e
    subst e
    split at hc
    · injection hc with hc
      subst hc
      rcases mem_put hm with e | ⟨hm, _⟩
      · injection e with _ e2
        subst e2
        exact hu
      · exact h i c k' xe hi hm
    · cases hc
  · exact h j c' k' xe hc hm

/-! All that the law keeps -/
/-- A block that stays as it is. -/
structure Hb where
  b : Nat
  cs : Array Value
  t : TypeId
structure Sta (w : World) (n r q h bS bM jm jl : Nat) (C : List Cc) (R : List (List (ByteArray × Int))) (M Me : ByteArray → Option Act16) (x : Int) (K : List Hb) (wr : World) : Prop where
  dc : Lc wr w.heap.size q h C x
  rows : ddo.Rows wr w.heap.size bS R
  map : MapFn wr Try.prog 9 bM jm (fun s => (M s).map actV)
  below : Below w.heap.size w wr
  lo : w.heap.size ≤ bM
  len : C.length = n
  rlen : R.length = n
  room : ∀ (i : Nat) (c : Cc), C[i]? = some c → c.r = r
  lens : ∀ (i : Nat) (c : Cc), C[i]? = some c → c.L.length ≤ jl
  ents : Ents wr n C Me
  held : ∀ z ∈ K, wr.heap[z.b]? = some (.cells z.cs z.t (0, 0)) ∧ ¬ DS z.t ∧ z.t ≠ 38 ∧ z.t ≠ 81
section
variable {w wr w' : World} {n r q h bS bM jm jl : Nat} {C : List Cc} {R : List (List (ByteArray × Int))} {M Me : ByteArray → Option Act16} {x : Int} {K : List Hb}
theorem Sta.later (s : Sta w n r q h bS bM jm jl C R M Me x K wr) (hb : Below wr.heap.size wr w') : Sta w n r q h bS bM jm jl C R M Me x K w' :=
  ⟨s.dc.later hb, s.rows.later hb, s.map.later hb, s.below.trans (hb.mono s.below.size), s.lo, s.len, s.rlen, s.room, s.lens, s.ents.kept (Kept.of_below hb (fun _ => False) 0) (fun hc => hc), fun z hz => by obtain ⟨h1, h2⟩ := s.held z hz; exact ⟨(hb.block _ (lt_of_some h1)).trans h1, h2⟩⟩
theorem lens_set {f : Nat → Prop} {c c' : Cc} {i : Nat} (hl : ∀ (i : Nat) (c : Cc), C[i]? = some c → f c.L.length) (_hi : C[i]? = some c) (hc : f c'.L.length) : ∀ (j : Nat) (d : Cc), (C.set i c')[j]? = some d → f d.L.length := fun j d hd => by
  rw [List.getElem?_set] at hd
  split at hd
  · split at hd
    · injection hd with hd; subst hd; exact hc
    · cases hd
  · exact hl j d hd
theorem room_set {c : Cc} {i : Nat} {bo : Option Nat} {L : List (ByteArray × Lst)} (hl : ∀ (i : Nat) (c : Cc), C[i]? = some c → c.r = r) (hi : C[i]? = some c) : ∀ (j : Nat) (d : Cc), (C.set i ⟨c.g, bo, c.r, L⟩)[j]? = some d → d.r = r := fun j d hd => by
  rw [List.getElem?_set] at hd
  split at hd
  · split at hd
    · injection hd with hd; subst hd; exact hl i c hi
    · cases hd
  · exact hl j d hd
/-- Behind a call that looked a key up. -/
theorem Sta.gets (s : Sta w n r q h bS bM jm jl C R M Me x K wr) {i : Nat} {c : Cc} (hi : C[i]? = some c) {bo : Option Nat} {k : ByteArray} {x' : Int} (hd : Lc w' w.heap.size q h (C.set i ⟨c.g, bo, c.r, getL c.L k⟩) x') (hk : Kept DS w.heap.size wr w') :
    Sta w n r q h bS bM jm jl (C.set i ⟨c.g, bo, c.r, getL c.L k⟩) R M Me x' K w' :=
  ⟨hd, s.rows.kept hk (by unfold DS; decide) (by unfold DS; decide), s.map.kept hk, s.below.trans (hk.below s.below.size), s.lo, by rw [List.length_set]; exact s.len, s.rlen, room_set s.room hi,
    lens_set (f := (· ≤ jl)) s.lens hi (by show (getL c.L k).length ≤ jl; rw [get_len (s.dc.fam.ok i c hi)]; exact s.lens i c hi), (s.ents.kept hk (by unfold DS; decide)).got hi bo k, fun z hz => by obtain ⟨h1, h2, h3⟩ := s.held z hz; exact ⟨hk.blk h1 h2, h2, h3⟩⟩
/-- Behind a call that put a key. -/
theorem Sta.puts (s : Sta w n r q h bS bM jm jl C R M Me x K wr) {i : Nat} {c : Cc} (hi : C[i]? = some c) {bo : Option Nat} {k : ByteArray} {a : Act16} {v : Lst} {x' : Int} (hd : Lc w' w.heap.size q h (C.set i ⟨c.g, bo, c.r, putL c.L c.r k v⟩) x') (hk : Kept DS w.heap.size wr w') (hf : ofF k n = i) (hv : EntIs w' a v) :
    Sta w n r q h bS bM jm (jl + 1) (C.set i ⟨c.g, bo, c.r, putL c.L c.r k v⟩) R M (updM Me k a) x' K w' :=
  ⟨hd, s.rows.kept hk (by unfold DS; decide) (by unfold DS; decide), s.map.kept hk, s.below.trans (hk.below s.below.size), s.lo, by rw [List.length_set]; exact s.len, s.rlen, room_set s.room hi,
    lens_set (f := (· ≤ jl + 1)) (fun i c hc => Nat.le_succ_of_le (s.lens i c hc)) hi (by have h1 := put_le c.L c.r k v; have h2 := s.lens i c hi; show (putL c.L c.r k v).length ≤ jl + 1; omega), (s.ents.kept hk (by unfold DS; decide)).put hi bo hf hv, fun z hz => by obtain ⟨h1, h2, h3⟩ := s.held z hz; exact ⟨hk.blk h1 h2, h2, h3⟩⟩
/-- Behind a store into the rows. -/
theorem Sta.row (s : Sta w n r q h bS bM jm jl C R M Me x K wr) {i : Nat} (hi : i < n) {L' : List (ByteArray × Int)} {v : Value} (hv : lrr.Ref wr w.heap.size v L') :
    Sta w n r q h bS bM jm jl C (R.set i L') M Me x K (wr.setCell ⟨bS, i, none⟩ v) := by
  obtain ⟨h1, hk⟩ := s.rows.put (i := i) (by rw [s.rlen]; exact hi) hv
  exact ⟨s.dc.kept hk (by decide) (by decide) (by decide) (by decide) (by decide), h1, s.map.kept hk, s.below.trans (hk.below s.below.size), s.lo, s.len, by rw [List.length_set]; exact s.rlen, s.room, s.lens, s.ents.kept hk (by decide), fun z hz => by obtain ⟨h1, h2, h3⟩ := s.held z hz; exact ⟨hk.blk h1 h3.1, h2, h3⟩⟩
/-- Behind a store into the map. -/
theorem Sta.noted (s : Sta w n r q h bS bM jm jl C R M Me x K wr) {k : ByteArray} {a : Act16} (hm : MapFn w' Try.prog 9 bM (jm + 1) (putF (fun s => (M s).map actV) k (actV a))) (hg : wr.grownBy w' (some bM)) :
    Sta w n r q h bS bM (jm + 1) jl C R (updM M k a) Me x K w' := by
  have m : lca.Mpd (some bM) wr w' := ⟨⟨hg.os, hg.tape, hg.output, hg.size, fun k hk hne => hg.block k hk hne⟩, fun b e cs t f he => by obtain rfl : bM = b := Option.some.inj e; exact s.map.ne he rfl, fun b e cs t f he => by obtain rfl : bM = b := Option.some.inj e; exact hm.ne he rfl⟩
  refine ⟨m.lc s.dc, ?_, hm.congr fun s' => by unfold putF updM; split <;> rfl, s.below.trans ⟨hg.os, hg.tape, hg.output, hg.size, fun k hk => hg.block k (Nat.lt_of_lt_of_le hk s.below.size) (fun e => by have h1 := Option.some.inj e; have h2 := s.lo; omega)⟩, s.lo, s.len, s.rlen, s.room, s.lens, fun i c k xe hc hm => ?_, fun z hz => by obtain ⟨h1, h2⟩ := s.held z hz; exact ⟨m.blk h1, h2⟩⟩
  · obtain ⟨hB, vs, hv, hs, hat⟩ := s.rows
    refine ⟨hB, vs, m.blk hv, hs, fun i L hL => ?_⟩
    obtain ⟨A, c, e1, e2⟩ := hat i L hL
    exact ⟨A, c, e1, m.own e2⟩
  · obtain ⟨h1, a, h2, h3⟩ := s.ents i c k xe hc hm
    exact ⟨h1, a, h2, h3.ep, h3.n, m.own h3.row, h3.mn⟩
theorem Sta.more {jm' jl' : Nat} (s : Sta w n r q h bS bM jm jl C R M Me x K wr) (h1 : jm ≤ jm') (h2 : jl ≤ jl') : Sta w n r q h bS bM jm' jl' C R M Me x K wr :=
  ⟨s.dc, s.rows, s.map.mono h1, s.below, s.lo, s.len, s.rlen, s.room, fun i c hc => Nat.le_trans (s.lens i c hc) h2, s.ents, s.held⟩
/-- One block more that stays. -/
theorem Sta.hold {b : Nat} {cs : Array Value} {t : TypeId} (s : Sta w n r q h bS bM jm jl C R M Me x K wr) (hb : wr.heap[b]? = some (.cells cs t (0, 0))) (h1 : ¬ DS t) (h2 : t ≠ 38 ∧ t ≠ 81) : Sta w n r q h bS bM jm jl C R M Me x (⟨b, cs, t⟩ :: K) wr :=
  ⟨s.dc, s.rows, s.map, s.below, s.lo, s.len, s.rlen, s.room, s.lens, s.ents, fun z hz => by
    rcases List.mem_cons.1 hz with rfl | hz
    · exact ⟨hb, h1, h2⟩
    · exact s.held z hz⟩
theorem Sta.drop (s : Sta w n r q h bS bM jm jl C R M Me x K wr) : Sta w n r q h bS bM jm jl C R M Me x [] wr :=
  ⟨s.dc, s.rows, s.map, s.below, s.lo, s.len, s.rlen, s.room, s.lens, s.ents, fun z hz => by cases hz⟩
theorem Sta.apart (s : Sta w n r q h bS bM jm jl C R M Me x K wr) {v : Value} {l : List (ByteArray × Int)} (he : Enr w' wr.heap.size v l) : Apart C v := fun i c k xe hc hm b hb hv => by
  obtain ⟨_, a, _, h3⟩ := s.ents i c k xe hc hm
  have h1 := (h3.row.lt b (by rw [h3.n] at hb; exact hb)).2
  have h2 := (he.lt b hv).1
  omega
/-- Behind stores into a list that lies apart. -/
theorem Sta.lost (s : Sta w n r q h bS bM jm jl C R M Me x K wr) {v : Value} (ha : Apart C v) (ht : Tn (fun k => some k = v.ownBlock) wr w') (hk : Kept (fun t => t = 81) w.heap.size wr w') : Sta w n r q h bS bM jm jl C R M Me x K w' :=
  ⟨s.dc.kept hk (by decide) (by decide) (by decide) (by decide) (by decide), s.rows.kept hk (by decide) (by decide), s.map.kept hk, s.below.trans (hk.below s.below.size), s.lo, s.len, s.rlen, s.room, s.lens, fun i c k xe hc hm => by
    obtain ⟨h1, a, h2, h3⟩ := s.ents i c k xe hc hm
    refine ⟨h1, a, h2, h3.ep, h3.n, ht.own h3.row fun b hb hv => ha i c k xe hc hm b (by rw [h3.n]; exact hb) hv.symm, h3.mn⟩, fun z hz => by obtain ⟨h1, h2, h3⟩ := s.held z hz; exact ⟨hk.blk h1 h3.2, h2, h3⟩⟩
end
/-- A list that was answered, beside all that is kept. -/
structure Got (w : World) (n r q h bS bM jm jl : Nat) (C : List Cc) (R : List (List (ByteArray × Int))) (M Me : ByteArray → Option Act16) (x : Int) (K : List Hb) (m : Nat) (v : Value) (wr : World) : Prop where
  sta : Sta w n r q h bS bM jm jl C R M Me x K wr
  row : Enr wr w.heap.size v (entL m)
  apart : Apart C v
section
variable {w wr : World} {n r q h bS bM jm jl : Nat} {C : List Cc} {R : List (List (ByteArray × Int))} {M Me : ByteArray → Option Act16} {x : Int} {K : List Hb} {i : Nat} {c : Cc} {k : ByteArray}
/-- What is asked of a key's place. -/
structure At (n : Nat) (C : List Cc) (i : Nat) (c : Cc) (k : ByteArray) : Prop where
  pos : 0 < n
  few : n ≤ 256
  of : i = ofF k n
  at_ : C[i]? = some c
  key : k.size ≤ 1000
theorem Sta.lookHit (t : Sta w n r q h bS bM jm jl C R M Me x K wr) (a : At n C i c k) (hl : jl ≤ 100) {xe : Lst} (hv : val c.L k = some xe) {o : Act16} (ho : EntIs wr o xe) {ep : Int} (hep : o.ep = ep) :
    Calls Try.prog 28 #[.pointer (some ⟨q, 0, none⟩), .int .i64 ep, .string k] wr fun e w' => ∃ (A : Option Addr) (c' : Nat) (bo' : Option Nat), e = .returned (.tuple #[.slice A (entL o.mn).length c', .bool true]) ∧ Got w n r q h bS bM jm jl (C.set i ⟨c.g, bo', c.r, getL c.L k⟩) R M Me x K o.mn (.slice A (entL o.mn).length c') w' := by
  obtain ⟨g1, g2⟩ := got_of hv
  have hln := t.len
  have hlc := t.lens i c a.at_
  refine (look_yes w.heap.size q h i c C x ep k wr t.dc (by rw [hln]; exact a.pos) (by rw [hln]; exact a.few) (by rw [hln]; exact a.of) a.at_ (by omega) a.key 0 (entL o.mn) (by rw [entL_len]; omega) ⟨g1, by rw [g2, ho.ep]; exact hep, by rw [g2]; exact ho.n, by rw [g2]; exact ho.row⟩).mono ?_
  rintro e w' ⟨A, c', rfl, he, ⟨bo', hd⟩, hk⟩
  exact ⟨A, c', bo', rfl, t.gets a.at_ hd (lca.keptWider hk fun _ => lca.LS.ds), he.mono t.below.size, (t.apart he).got a.at_ bo' k⟩
theorem Sta.lookMiss (t : Sta w n r q h bS bM jm jl C R M Me x K wr) (a : At n C i c k) (hl : jl ≤ 100) (ep : Int) (hno : val c.L k = none ∨ ∃ xe, val c.L k = some xe ∧ xe.ep ≠ ep) :
    Calls Try.prog 28 #[.pointer (some ⟨q, 0, none⟩), .int .i64 ep, .string k] wr fun e w' => ∃ (bo' : Option Nat), e = .returned (.tuple #[.slice none 0 0, .bool false]) ∧ Got w n r q h bS bM jm jl (C.set i ⟨c.g, bo', c.r, getL c.L k⟩) R M Me x K 0 (.slice none 0 0) w' := by
  have hln := t.len
  have hlc := t.lens i c a.at_
  refine (look_no w.heap.size q h i c C x ep k wr t.dc (by rw [hln]; exact a.pos) (by rw [hln]; exact a.few) (by rw [hln]; exact a.of) a.at_ (by omega) a.key ?_).mono ?_
  · rcases hno with hv | ⟨xe, hv, hne⟩
    · exact .inl (got_none hv)
    · exact .inr (by rw [(got_of hv).2]; exact hne)
  · rintro e w' ⟨rfl, ⟨bo', hd⟩, hk⟩
    exact ⟨bo', rfl, t.gets a.at_ hd (lca.keptWider hk fun _ => lca.LS.ds), Enr.nil _ _, fun _ _ _ _ _ _ b _ hb => by cases hb⟩
theorem Got.keepLate {m : Nat} {A : Option Addr} {ca : Nat} (t : Got w n r q h bS bM jm jl C R M Me x K m (.slice A (entL m).length ca) wr) (a : At n C i c k) (hl : jl ≤ 100) (ep : Int) {xe : Lst} (hv : val c.L k = some xe) (hlt : ep < xe.ep) :
    Calls Try.prog 31 #[.pointer (some ⟨q, 0, none⟩), .int .i64 ep, .string k, .slice A (entL m).length ca] wr fun e w' => ∃ (bo' : Option Nat), e = .returned (.bool false) ∧ Got w n r q h bS bM jm jl (C.set i ⟨c.g, bo', c.r, getL c.L k⟩) R M Me x K m (.slice A (entL m).length ca) w' := by
  have hln := t.sta.len
  have hlc := t.sta.lens i c a.at_
  obtain ⟨g1, g2⟩ := got_of hv
  refine (keep_no w.heap.size q h i c C x ep k wr t.sta.dc (by rw [hln]; exact a.pos) (by rw [hln]; exact a.few) (by rw [hln]; exact a.of) a.at_ (by omega) a.key _ ⟨g1, by rw [g2]; exact hlt⟩).mono ?_
  rintro e w' ⟨rfl, ⟨bo', hd⟩, hk⟩
  exact ⟨bo', rfl, t.sta.gets a.at_ hd (lca.keptWider hk fun _ => lca.LS.ds), t.row.kept hk (by unfold LS; decide), t.apart.got a.at_ bo' k⟩
theorem Got.keepYes {o : Act16} {A : Option Addr} {ca : Nat} (t : Got w n r q h bS bM jm jl C R M Me x K o.mn (.slice A (entL o.mn).length ca) wr) (a : At n C i c k) (hl : jl ≤ 100) (ho : o.mn ≤ 255) (hno : val c.L k = none ∨ ∃ xe, val c.L k = some xe ∧ xe.ep ≤ o.ep) :
    Calls Try.prog 31 #[.pointer (some ⟨q, 0, none⟩), .int .i64 o.ep, .string k, .slice A (entL o.mn).length ca] wr fun e w' => ∃ (bo' : Option Nat) (v : Lst), e = .returned (.bool true) ∧ Got w n r q h bS bM jm (jl + 1) (C.set i ⟨c.g, bo', c.r, putL c.L c.r k v⟩) R M (updM Me k o) x K o.mn (.slice A (entL o.mn).length ca) w' := by
  have hln := t.sta.len
  have hlc := t.sta.lens i c a.at_
  refine (keep_yes w.heap.size q h i c C x o.ep k wr t.sta.dc (by rw [hln]; exact a.pos) (by rw [hln]; exact a.few) (by rw [hln]; exact a.of) a.at_ (by omega) a.key t.sta.below.size w.heap.size A ca (entL o.mn) (by rw [entL_len]; omega) t.row ?_).mono ?_
  · rcases hno with hv | ⟨xe, hv, hle⟩
    · exact .inl (got_none hv)
    · exact .inr (by rw [(got_of hv).2]; exact hle)
  · rintro e w' ⟨rfl, A2, c2, he2, ⟨bo', hd⟩, hk⟩
    refine ⟨bo', _, rfl, t.sta.puts a.at_ hd (lca.keptWider hk fun _ => lca.LS.ds) a.of.symm ⟨rfl, rfl, he2.mono (Nat.zero_le _), ho⟩, t.row.kept hk (by unfold LS; decide), t.apart.put a.at_ bo' fun b hb hv => ?_⟩
    have h1 := (he2.lt b hb).1
    have h2 := (t.row.lt b hv).2
    omega
theorem Sta.takeHit (t : Sta w n r q h bS bM jm jl C R M Me x K wr) (a : At n C i c k) (hl : jl ≤ 100) {xe : Lst} (hv : val c.L k = some xe) {o : Act16} (ho : EntIs wr o xe) {ep : Int} (hep : o.ep = ep) (V : Value) :
    Calls Try.prog 32 #[.pointer (some ⟨q, 0, none⟩), .int .i64 ep, .string k, V] wr fun e w' => ∃ (A : Option Addr) (c' : Nat) (bo' : Option Nat), e = .returned (.slice A (entL o.mn).length c') ∧ Got w n r q h bS bM jm jl (C.set i ⟨c.g, bo', c.r, getL c.L k⟩) R M Me x K o.mn (.slice A (entL o.mn).length c') w' := by
  obtain ⟨g1, g2⟩ := got_of hv
  have hln := t.len
  have hlc := t.lens i c a.at_
  refine (take_hit w.heap.size q h i c C x ep k wr t.dc (by rw [hln]; exact a.pos) (by rw [hln]; exact a.few) (by rw [hln]; exact a.of) a.at_ (by omega) a.key V 0 (entL o.mn) (by rw [entL_len]; omega) ⟨g1, by rw [g2, ho.ep]; exact hep, by rw [g2]; exact ho.n, by rw [g2]; exact ho.row⟩).mono ?_
  rintro e w' ⟨A, c', rfl, he, ⟨bo', hd⟩, hk⟩
  exact ⟨A, c', bo', rfl, t.gets a.at_ hd (lca.keptWider hk fun _ => lca.LS.ds), he.mono t.below.size, (t.apart he).got a.at_ bo' k⟩
set_option maxHeartbeats 1600000 in
theorem clos_any (ab : Nat) (o : Act16) (w : World) (ho : o.mn ≤ 255) (h : w.heap[ab]? = some (.cells #[.int .u8 (o.kd : Int), .int .u8 (o.dr : Int), .int .i64 o.ep, .int .u8 (o.mn : Int)] 71 (0, 0))) :
    Calls Try.prog 33 #[.pointer (some ⟨ab, 0, none⟩)] w (Enrd (entL o.mn) w) := by
  have c3 := cell_of_blk h 3
  have HE := Lib.hid (entries_any o.mn w ho)
  clear h
  go_enter Try.func33, Try.ntmps33
  go_wp2_with fail
  refine HE.out.mono ?_
  rintro e w' h
  have HF := Lib.hid h
  obtain ⟨⟨A, c, rfl, _⟩, _⟩ := h
  go_wp2_with fail
  go_ret
  exact HF.out
theorem kpm_kept {B : Nat} {w w' : World} (m : Kpm B none w w') : Kept DS B w w' := ⟨m.os, m.tape, m.output, m.size, fun k hk hc => m.block k hk (by simp) hc⟩
theorem Sta.miss (t : Sta w n r q h bS bM jm jl C R M Me x K wr) (a : At n C i c k) (hl : jl ≤ 100) (hx : 0 ≤ x ∧ x ≤ 1000000) {o : Act16} (ho : o.mn ≤ 255) (ab : Nat) (hab : wr.heap[ab]? = some (.cells #[.int .u8 (o.kd : Int), .int .u8 (o.dr : Int), .int .i64 o.ep, .int .u8 (o.mn : Int)] 71 (0, 0)))
    (hno : val c.L k = none ∨ ∃ xe, val c.L k = some xe ∧ xe.ep ≠ o.ep) : Miss w.heap.size q h i c C x o.ep k wr 33 #[.pointer (some ⟨ab, 0, none⟩)] none (entL o.mn) (fun _ => True) := by
  have hln := t.len
  have hlc := t.lens i c a.at_
  refine ⟨t.dc, by rw [hln]; exact a.pos, by rw [hln]; exact a.few, by rw [hln]; exact a.of, a.at_, by omega, a.key, hx, t.below.size, fun _ _ => by kernel_rfl, fun _ e => (by cases e), fun w1 hk => (clos_any ab o w1 ho (hk.blk hab (by unfold DS; decide))).mono fun e w2 h => ⟨h.1, Mpd.of_below h.2, trivial⟩, by rw [entL_len]; omega, ?_⟩
  rcases hno with hv | ⟨xe, hv, hne⟩
  · exact .inl (got_none hv)
  · exact .inr (by rw [(got_of hv).2]; exact hne)
theorem Sta.takeNew (t : Sta w n r q h bS bM jm jl C R M Me x K wr) (a : At n C i c k) (hl : jl ≤ 100) (hx : 0 ≤ x ∧ x ≤ 1000000) {o : Act16} (ho : o.mn ≤ 255) (ab : Nat) (hab : wr.heap[ab]? = some (.cells #[.int .u8 (o.kd : Int), .int .u8 (o.dr : Int), .int .i64 o.ep, .int .u8 (o.mn : Int)] 71 (0, 0)))
    (hno : val c.L k = none ∨ ∃ xe, val c.L k = some xe ∧ xe.ep < o.ep) :
    Calls Try.prog 32 #[.pointer (some ⟨q, 0, none⟩), .int .i64 o.ep, .string k, .func (.func 33) #[] #[.pointer (some ⟨ab, 0, none⟩)]] wr fun e w' => ∃ (A : Option Addr) (c' : Nat) (bo' : Option Nat) (v : Lst), e = .returned (.slice A (entL o.mn).length c') ∧ Got w n r q h bS bM jm (jl + 1) (C.set i ⟨c.g, bo', c.r, putL c.L c.r k v⟩) R M (updM Me k o) (x + 1) K o.mn (.slice A (entL o.mn).length c') w' := by
  refine (take_new w.heap.size q h i c C x o.ep k wr _ _ none (entL o.mn) (fun _ => True) (t.miss a hl hx ho ab hab (hno.imp_right fun ⟨xe, h1, h2⟩ => ⟨xe, h1, by omega⟩)) ?_).mono ?_
  · rcases hno with hv | ⟨xe, hv, hle⟩
    · exact .inl (got_none hv)
    · exact .inr (by rw [(got_of hv).2]; omega)
  · rintro e w' ⟨A, c', rfl, ⟨he, hk, _⟩, A2, c2, he2, hap, bo', hd⟩
    exact ⟨A, c', bo', _, rfl, t.puts a.at_ hd (kpm_kept hk) a.of.symm ⟨rfl, rfl, he2.mono (Nat.zero_le _), ho⟩, he.mono t.below.size, (t.apart he).put a.at_ bo' hap⟩
theorem Sta.takeLate (t : Sta w n r q h bS bM jm jl C R M Me x K wr) (a : At n C i c k) (hl : jl ≤ 100) (hx : 0 ≤ x ∧ x ≤ 1000000) {o : Act16} (ho : o.mn ≤ 255) (ab : Nat) (hab : wr.heap[ab]? = some (.cells #[.int .u8 (o.kd : Int), .int .u8 (o.dr : Int), .int .i64 o.ep, .int .u8 (o.mn : Int)] 71 (0, 0)))
    {xe : Lst} (hv : val c.L k = some xe) (hlt : o.ep < xe.ep) :
    Calls Try.prog 32 #[.pointer (some ⟨q, 0, none⟩), .int .i64 o.ep, .string k, .func (.func 33) #[] #[.pointer (some ⟨ab, 0, none⟩)]] wr fun e w' => ∃ (A : Option Addr) (c' : Nat) (bo' : Option Nat), e = .returned (.slice A (entL o.mn).length c') ∧ Got w n r q h bS bM jm jl (C.set i ⟨c.g, bo', c.r, getL c.L k⟩) R M Me (x + 1) K o.mn (.slice A (entL o.mn).length c') w' := by
  obtain ⟨g1, g2⟩ := got_of hv
  refine (take_late w.heap.size q h i c C x o.ep k wr _ _ none (entL o.mn) (fun _ => True) (t.miss a hl hx ho ab hab (.inr ⟨xe, hv, by omega⟩)) ⟨g1, by rw [g2]; exact hlt⟩).mono ?_
  rintro e w' ⟨A, c', rfl, ⟨he, hk, _⟩, bo', hd⟩
  exact ⟨A, c', bo', rfl, t.gets a.at_ hd (kpm_kept hk), he.mono t.below.size, (t.apart he).got a.at_ bo' k⟩
end
/-- The rows have the keys of the caches. -/
def Keys (C : List Cc) (R : List (List (ByteArray × Int))) : Prop := ∀ (i : Nat) (c : Cc), C[i]? = some c → ∃ L, R[i]? = some L ∧ keys L = keys c.L
/-- Both turn at one place. -/
theorem Keys.turn {C : List Cc} {R : List (List (ByteArray × Int))} (h : Keys C R) {i : Nat} {c c' : Cc} (hi : C[i]? = some c) {L' : List (ByteArray × Int)} (hk : keys L' = keys c'.L) : Keys (C.set i c') (R.set i L') := fun j d hd => by
  obtain ⟨L0, hL0, _⟩ := h i c hi
  have hlt := (List.getElem?_eq_some_iff.1 hL0).1
  rw [List.getElem?_set] at hd
  rw [List.getElem?_set]
  split at hd
  · rename_i e
    subst e
    split at hd
    · injection hd with hd
      subst hd
      exact ⟨L', by rw [if_pos rfl, if_pos hlt], hk⟩
    · cases hd
  · rename_i e
    rw [if_neg e]
    exact h j d hd
end Go.Proofs.Ythhcbmljckgncaa.ldo
