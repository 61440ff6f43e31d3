/- What the law DcacheDoes keeps: caches of entries beside rows of keys, and a map of what each key was. No program's call, no condition. -/
import Derived.Test.YthhcbmljckgncaaDcaOwn
import Derived.Test.YthhcbmljckgncaaLrvRef
import Derived.Test.YthhcbmljckgncaaMapFn
import Derived.Test.YthhcbmljckgncaaArgAct15
namespace Go.Proofs.Ythhcbmljckgncaa.ddo
set_option maxRecDepth 100000
open Go.RowKit Go.Proofs.Ythhcbmljckgncaa.words Go.Proofs.Ythhcbmljckgncaa.lru Go.Proofs.Ythhcbmljckgncaa.sha Go.Proofs.Ythhcbmljckgncaa.lrd Go.Proofs.Ythhcbmljckgncaa.shd Go.Proofs.Ythhcbmljckgncaa.dca Go.Proofs.Ythhcbmljckgncaa.mpf

section
variable {κ : Type} [DecidableEq κ] {ν μ : Type}
def keys (L : List (κ × ν)) : List κ := L.map (·.1)
omit [DecidableEq κ] in
theorem len_keys (L : List (κ × ν)) : (keys L).length = L.length := List.length_map ..
theorem keys_rest (L : List (κ × ν)) (k : κ) : keys (rest L k) = (keys L).filter (fun x => !decide (x = k)) := by
  unfold keys rest
  rw [List.filter_map]
  rfl
theorem gone_keys {L : List (κ × ν)} {M : List (κ × μ)} (h : keys L = keys M) (r : Nat) (k : κ) : goneB L r k = goneB M r k := by
  unfold goneB
  rw [← len_keys (rest L k), ← len_keys (rest M k), keys_rest, keys_rest, h]
theorem keys_put {L : List (κ × ν)} {M : List (κ × μ)} (h : keys L = keys M) (r : Nat) (k : κ) (v : ν) (u : μ) : keys (putL L r k v) = keys (putL M r k u) := by
  have h1 : keys (rest L k) = keys (rest M k) := by rw [keys_rest, keys_rest, h]
  unfold putL
  rw [gone_keys h r k]
  split
  · unfold keys at h1 ⊢
    rw [List.map_dropLast, List.map_dropLast, List.map_cons, List.map_cons, h1]
  · unfold keys at h1 ⊢
    rw [List.map_cons, List.map_cons, h1]
theorem keys_get {M : List (κ × μ)} {k : κ} {u : μ} (h : val M k = some u) : keys (getL M k) = k :: keys (rest M k) := by
  unfold getL
  rw [h]
  rfl
theorem keys_use {L : List (κ × ν)} {M : List (κ × μ)} (h : keys L = keys M) {k : κ} {u : μ} (hv : val M k = some u) (v : ν) : keys ((k, v) :: rest L k) = keys (getL M k) := by
  rw [keys_get hv]
  show k :: keys (rest L k) = _
  rw [keys_rest, keys_rest, h]
theorem mem_get {L : List (κ × ν)} {k : κ} {p : κ × ν} (h : p ∈ getL L k) : p ∈ L := by
  unfold getL at h
  rcases hv : val L k with _ | v
  · rw [hv] at h; exact h
  · rw [hv] at h
    rcases List.mem_cons.1 h with rfl | h
    · exact val_mem hv
    · exact (mem_rest.1 h).1
theorem mem_put {L : List (κ × ν)} {r : Nat} {k : κ} {v : ν} {p : κ × ν} (h : p ∈ putL L r k v) : p = (k, v) ∨ (p ∈ L ∧ p.1 ≠ k) := by
  have h' : p ∈ (k, v) :: rest L k := by
    unfold putL at h
    split at h
    · exact List.dropLast_subset _ h
    · exact h
  rcases List.mem_cons.1 h' with h | h
  · exact .inl h
  · exact .inr (mem_rest.1 h)
/-- A key is in both, or in neither. -/
theorem both {L : List (κ × ν)} {M : List (κ × μ)} (h : keys L = keys M) (k : κ) : (∃ (i : Nat) (x : ν) (u : μ), L[i]? = some (k, x) ∧ val M k = some u ∧ (k, u) ∈ M) ∨ ((∀ p ∈ L, p.1 ≠ k) ∧ val M k = none) := by
  rcases hv : val M k with _ | u
  · refine .inr ⟨fun p hp he => ?_, rfl⟩
    have h1 : k ∈ keys M := by rw [← h, ← he]; exact List.mem_map_of_mem hp
    obtain ⟨q, hq, hqk⟩ := List.mem_map.1 h1
    unfold val at hv
    rw [Option.map_eq_none_iff, List.find?_eq_none] at hv
    have := hv q hq
    simp at this
    exact this hqk
  · have hm := val_mem hv
    have h1 : k ∈ keys L := by rw [h]; exact List.mem_map_of_mem (f := (·.1)) hm
    obtain ⟨q, hq, hqk⟩ := List.mem_map.1 h1
    obtain ⟨i, hi⟩ := List.mem_iff_getElem?.1 hq
    obtain ⟨k', x⟩ := q
    simp only at hqk
    subst hqk
    exact .inl ⟨i, x, u, hi, rfl, hm⟩
end
theorem got_of {L : List (ByteArray × Ent)} {k : ByteArray} {xe : Ent} (h : val L k = some xe) : lrd.gotB L k = true ∧ lrd.gotI L k = xe := by
  unfold lrd.gotB lrd.gotI
  rw [h]
  exact ⟨rfl, rfl⟩
theorem got_none {L : List (ByteArray × Ent)} {k : ByteArray} (h : val L k = none) : lrd.gotB L k = false := by
  unfold lrd.gotB
  rw [h]
  rfl
theorem get_no {L : List (ByteArray × Ent)} {k : ByteArray} (h : val L k = none) : getL L k = L := by
  unfold getL
  rw [h]

/-! Rows -/
/-- At block bS slices of pairs of the call's own. -/
def Rows (w : World) (B bS : Nat) (R : List (List (ByteArray × Int))) : Prop :=
  B ≤ bS ∧ ∃ vs : Array Value, w.heap[bS]? = some (.cells vs 38 (0, 0)) ∧ vs.size = R.length ∧ ∀ (i : Nat) (L : List (ByteArray × Int)), R[i]? = some L → ∃ (A : Option Addr) (c : Nat), vs[i]? = some (Value.slice A L.length c) ∧ lrr.Ref w B (.slice A L.length c) L
theorem Rows.kept {S : TypeId → Prop} {B' : Nat} {w w' : World} {B bS : Nat} {R : List (List (ByteArray × Int))} (h : Rows w B bS R) (hk : Kept S B' w w') (h1 : ¬ S 38) (h2 : ¬ S 41) : Rows w' B bS R := by
  obtain ⟨hB, vs, hv, hs, hat⟩ := h
  refine ⟨hB, vs, hk.blk hv h1, hs, fun i L hL => ?_⟩
  obtain ⟨A, c, e1, e2⟩ := hat i L hL
  exact ⟨A, c, e1, hk.own e2 h2⟩
theorem Rows.later {w w' : World} {B bS : Nat} {R : List (List (ByteArray × Int))} (h : Rows w B bS R) (hb : Below w.heap.size w w') : Rows w' B bS R := h.kept (Kept.of_below hb (fun _ => False) 0) (fun hc => hc) (fun hc => hc)
theorem Rows.at {w : World} {B bS : Nat} {R : List (List (ByteArray × Int))} (h : Rows w B bS R) {i : Nat} {L : List (ByteArray × Int)} (hi : R[i]? = some L) : ∃ (A : Option Addr) (c : Nat), w.cell? ⟨bS, i, none⟩ = some (Value.slice A L.length c) ∧ lrr.Ref w B (.slice A L.length c) L := by
  obtain ⟨hB, vs, hv, hs, hat⟩ := h
  obtain ⟨A, c, e1, e2⟩ := hat i L hi
  exact ⟨A, c, (cell_of_blk hv i).trans e1, e2⟩
theorem Rows.free {w : World} {B bS : Nat} {R : List (List (ByteArray × Int))} (h : Rows w B bS R) (i : Nat) : w.frozen? ⟨bS, i, none⟩ = false := by
  obtain ⟨hB, vs, hv, hs, hat⟩ := h
  exact free_of_blk hv i
theorem Rows.put {w : World} {B bS : Nat} {R : List (List (ByteArray × Int))} (h : Rows w B bS R) {i : Nat} {L' : List (ByteArray × Int)} (hi : i < R.length) {v : Value} (hv' : lrr.Ref w B v L') :
    Rows (w.setCell ⟨bS, i, none⟩ v) B bS (R.set i L') ∧ Kept (fun t => t = 38) B w (w.setCell ⟨bS, i, none⟩ v) := by
  obtain ⟨hB, vs, hv, hs, hat⟩ := h
  have hk : Kept (fun t => t = 38) B w (w.setCell ⟨bS, i, none⟩ v) := (Kept.refl (fun t => t = 38) _ _).setCell (p := ⟨bS, i, none⟩) hB ⟨_, _, _, hv, rfl⟩ v
  obtain ⟨A, c, rfl, _, _, _⟩ := own_facts hv'
  refine ⟨⟨hB, vs.setIfInBounds i (.slice A L'.length c), heap_setCell_same w bS i _ _ _ hv, by rw [Array.size_setIfInBounds, List.length_set]; exact hs, fun j L hL => ?_⟩, hk⟩
  rw [List.getElem?_set] at hL
  split at hL
  · rename_i e
    subst e
    injection hL with hL
    subst hL
    exact ⟨A, c, by rw [Array.getElem?_setIfInBounds, if_pos rfl, if_pos (by omega)], hk.own hv' (by decide)⟩
  · rename_i e
    obtain ⟨A2, c2, e1, e2⟩ := hat j L hL
    exact ⟨A2, c2, by rw [Array.getElem?_setIfInBounds, if_neg e]; exact e1, hk.own e2 (by decide)⟩

/-! Entries -/
structure EntIs (w : World) (a : Act15) (xe : Ent) : Prop where
  ep : xe.ep = a.ep
  th : xe.th = a.th
  kd : xe.kd = a.mr
  lv : xe.lv = 0
  nd : xe.nd = 0
  dn : xe.dn = 1
  tg : xe.tg = a.nm
  sp : Sp w 0 xe.da xe.dn [(a.mr, 0)]
theorem EntIs.kept {S : TypeId → Prop} {B : Nat} {w w' : World} {a : Act15} {xe : Ent} (h : EntIs w a xe) (hk : Kept S B w w') (hS : ¬ S 44) : EntIs w' a xe :=
  ⟨h.ep, h.th, h.kd, h.lv, h.nd, h.dn, h.tg, h.sp.kept hk hS⟩
/-- What each key in the caches was. -/
def Ents (w : World) (n : Nat) (C : List Cc) (M : ByteArray → Option Act15) : Prop :=
  ∀ (i : Nat) (c : Cc) (k : ByteArray) (xe : Ent), C[i]? = some c → (k, xe) ∈ c.L → ofF k n = i ∧ ∃ a, M k = some a ∧ EntIs w a xe
theorem Ents.kept {S : TypeId → Prop} {B : Nat} {w w' : World} {n : Nat} {C : List Cc} {M : ByteArray → Option Act15} (h : Ents w n C M) (hk : Kept S B w w') (hS : ¬ S 44) : Ents w' n C M := fun i c k xe hc hm => by
  obtain ⟨h1, a, h2, h3⟩ := h i c k xe hc hm
  exact ⟨h1, a, h2, h3.kept hk hS⟩
theorem Ents.got {w : World} {n : Nat} {C : List Cc} {M : ByteArray → Option Act15} (h : Ents w n C M) {i : Nat} {c : Cc} (hi : C[i]? = some c) (bo : Option Nat) (k : ByteArray) : Ents w n (C.set i ⟨c.g, bo, c.r, getL c.L k⟩) M := fun j c' k' xe hc hm => by
  rw [List.getElem?_set] at hc
  split at hc
  · rename_i e
    subst e
    split at hc
    · injection hc with hc
      subst hc
      exact h i c k' xe hi (mem_get hm)
    · cases hc
  · exact h j c' k' xe hc hm
def updM (M : ByteArray → Option Act15) (k : ByteArray) (a : Act15) (k' : ByteArray) : Option Act15 := if k' = k then some a else M k'
theorem Ents.put {w : World} {n : Nat} {C : List Cc} {M : ByteArray → Option Act15} (h : Ents w n C M) {i : Nat} {c : Cc} (hi : C[i]? = some c) (bo : Option Nat) {k : ByteArray} {a : Act15} {v : Ent} (hk : ofF k n = i) (hv : EntIs w a v) : Ents w n (C.set i ⟨c.g, bo, c.r, putL c.L c.r k v⟩) (updM M k a) := fun j c' k' xe hc hm => by
  rw [List.getElem?_set] at hc
  unfold updM
  split at hc
  · rename_i e
    subst e
    split at hc
    · injection hc with hc
      subst hc
      rcases mem_put hm with e | ⟨hm, hne⟩
      · injection e with e1 e2
        subst e1 e2
        rw [if_pos rfl]
        exact ⟨hk, a, rfl, hv⟩
      · rw [if_neg hne]
        exact h i c k' xe hi hm
    · cases hc
  · rename_i e
    obtain ⟨h1, h2⟩ := h j c' k' xe hc hm
    have hne : k' ≠ k := fun e' => by rw [e'] at h1; exact e (hk.symm.trans h1)
    rw [if_neg hne]
    exact ⟨h1, h2⟩

/-- Only a map has turned: what lies in cells stays. -/
structure Mpd (bM : Nat) (w w' : World) : Prop where
  tn : Tn (fun k => k = bM) w w'
  map : ∀ cs t f, w.heap[bM]? ≠ some (.cells cs t f)
theorem Mpd.ne {bM : Nat} {w w' : World} (m : Mpd bM w w') {k : Nat} {cs : Array Value} {t : TypeId} {f : Nat × Nat} (h : w.heap[k]? = some (.cells cs t f)) : k ≠ bM := fun e => by
  subst e
  exact m.map _ _ _ h
theorem Mpd.blk {bM : Nat} {w w' : World} (m : Mpd bM w w') {k : Nat} {cs : Array Value} {t : TypeId} {f : Nat × Nat} (h : w.heap[k]? = some (.cells cs t f)) : w'.heap[k]? = some (.cells cs t f) :=
  (m.tn.block k (lt_of_some h) (m.ne h)).trans h
theorem Mpd.own {bM : Nat} {w w' : World} (m : Mpd bM w w') {base : Nat} {e : TypeId} {size n : Nat} {v : Value} {xs : List Value} (ho : w.ownsRow base e size v n xs) : w'.ownsRow base e size v n xs :=
  m.tn.own ho fun k hk he => by
    subst he
    rcases ho.2 with ⟨rfl, _⟩ | ⟨b, c, cur, rfl, _, hh, _⟩
    · simp [Value.ownBlock] at hk
    · have : b = k := by simpa [Value.ownBlock] using hk
      subst this
      exact m.map _ _ _ hh
theorem Mpd.dc {bM : Nat} {w w' : World} (m : Mpd bM w w') {B q h : Nat} {C : List Cc} {x y : Int} (d : Dc w B q h C x y) : Dc w' B q h C x y := by
  refine ⟨d.lo, m.blk d.blk, ?_, ⟨fun i c hc => ?_, d.fam.ok, d.fam.apart⟩⟩
  · obtain ⟨h0, v, hb, ho⟩ := d.shd
    exact ⟨h0, v, m.blk hb, m.own ho⟩
  · have hl := d.fam.lru i c hc
    exact hl.tn m.tn fun k hk e => by
      subst e
      obtain ⟨_, cs, t, f, h1, _⟩ := hl.types _ hk
      exact m.map _ _ _ h1
theorem Mpd.rows {bM : Nat} {w w' : World} (m : Mpd bM w w') {B bS : Nat} {R : List (List (ByteArray × Int))} (h : Rows w B bS R) : Rows w' B bS R := by
  obtain ⟨hB, vs, hv, hs, hat⟩ := h
  refine ⟨hB, vs, m.blk hv, hs, fun i L hL => ?_⟩
  obtain ⟨A, c, e1, e2⟩ := hat i L hL
  exact ⟨A, c, e1, m.own e2⟩
theorem Mpd.ents {bM : Nat} {w w' : World} (m : Mpd bM w w') {n : Nat} {C : List Cc} {M : ByteArray → Option Act15} (h : Ents w n C M) : Ents w' n C M := fun i c k xe hc hm => by
  obtain ⟨h1, a, h2, h3⟩ := h i c k xe hc hm
  refine ⟨h1, a, h2, h3.ep, h3.th, h3.kd, h3.lv, h3.nd, h3.dn, h3.tg, h3.sp.1, fun i p hp => ?_⟩
  obtain ⟨b, off, cs, g1, g2, g3, g4⟩ := h3.sp.2 i p hp
  exact ⟨b, off, cs, g1, g2, m.blk g3, g4⟩

/-! All that the law keeps -/
/-- A block that stays as it is. -/
structure Hb where
  b : Nat
  cs : Array Value
  t : TypeId
structure Sta (w : World) (n r q h bS bM jm jl : Nat) (C : List Cc) (R : List (List (ByteArray × Int))) (M Me : ByteArray → Option Act15) (x y : Int) (K : List Hb) (wr : World) : Prop where
  dc : Dc wr w.heap.size q h C x y
  rows : Rows wr w.heap.size bS R
  map : MapFn wr Try.prog 9 bM jm (fun s => (M s).map actV)
  below : Below w.heap.size w wr
  lo : w.heap.size ≤ bM
  len : C.length = n
  rlen : R.length = n
  room : ∀ (i : Nat) (c : Cc), C[i]? = some c → c.r = r
  lens : ∀ (i : Nat) (c : Cc), C[i]? = some c → c.L.length ≤ jl
  ents : Ents wr n C Me
  held : ∀ z ∈ K, wr.heap[z.b]? = some (.cells z.cs z.t (0, 0)) ∧ ¬ DS z.t ∧ z.t ≠ 38
section
variable {w wr w' : World} {n r q h bS bM jm jl : Nat} {C : List Cc} {R : List (List (ByteArray × Int))} {M Me : ByteArray → Option Act15} {x y : Int} {K : List Hb}
theorem Sta.later (s : Sta w n r q h bS bM jm jl C R M Me x y K wr) (hb : Below wr.heap.size wr w') : Sta w n r q h bS bM jm jl C R M Me x y K w' :=
  ⟨s.dc.later hb, s.rows.later hb, s.map.later hb, s.below.trans (hb.mono s.below.size), s.lo, s.len, s.rlen, s.room, s.lens, s.ents.kept (Kept.of_below hb (fun _ => False) 0) (fun hc => hc), fun z hz => by obtain ⟨h1, h2⟩ := s.held z hz; exact ⟨(hb.block _ (lt_of_some h1)).trans h1, h2⟩⟩
theorem lens_set {f : Nat → Prop} {c c' : Cc} {i : Nat} (hl : ∀ (i : Nat) (c : Cc), C[i]? = some c → f c.L.length) (_hi : C[i]? = some c) (hc : f c'.L.length) : ∀ (j : Nat) (d : Cc), (C.set i c')[j]? = some d → f d.L.length := fun j d hd => by
  rw [List.getElem?_set] at hd
  split at hd
  · split at hd
    · injection hd with hd; subst hd; exact hc
    · cases hd
  · exact hl j d hd
theorem room_set {c : Cc} {i : Nat} {bo : Option Nat} {L : List (ByteArray × Ent)} (hl : ∀ (i : Nat) (c : Cc), C[i]? = some c → c.r = r) (hi : C[i]? = some c) : ∀ (j : Nat) (d : Cc), (C.set i ⟨c.g, bo, c.r, L⟩)[j]? = some d → d.r = r := fun j d hd => by
  rw [List.getElem?_set] at hd
  split at hd
  · split at hd
    · injection hd with hd; subst hd; exact hl i c hi
    · cases hd
  · exact hl j d hd
/-- Behind a call that looked a key up. -/
theorem Sta.gets (s : Sta w n r q h bS bM jm jl C R M Me x y K wr) {i : Nat} {c : Cc} (hi : C[i]? = some c) {bo : Option Nat} {k : ByteArray} {x' y' : Int} (hd : Dc w' w.heap.size q h (C.set i ⟨c.g, bo, c.r, getL c.L k⟩) x' y') (hk : Kept DS w.heap.size wr w') :
    Sta w n r q h bS bM jm jl (C.set i ⟨c.g, bo, c.r, getL c.L k⟩) R M Me x' y' K w' :=
  ⟨hd, s.rows.kept hk (by unfold DS; decide) (by unfold DS; decide), s.map.kept hk, s.below.trans (hk.below s.below.size), s.lo, by rw [List.length_set]; exact s.len, s.rlen, room_set s.room hi,
    lens_set (f := (· ≤ jl)) s.lens hi (by show (getL c.L k).length ≤ jl; rw [get_len (s.dc.fam.ok i c hi)]; exact s.lens i c hi), (s.ents.kept hk (by unfold DS; decide)).got hi bo k, fun z hz => by obtain ⟨h1, h2, h3⟩ := s.held z hz; exact ⟨hk.blk h1 h2, h2, h3⟩⟩
/-- Behind a call that put a key. -/
theorem Sta.puts (s : Sta w n r q h bS bM jm jl C R M Me x y K wr) {i : Nat} {c : Cc} (hi : C[i]? = some c) {bo : Option Nat} {k : ByteArray} {a : Act15} {v : Ent} {x' y' : Int} (hd : Dc w' w.heap.size q h (C.set i ⟨c.g, bo, c.r, putL c.L c.r k v⟩) x' y') (hk : Kept DS w.heap.size wr w') (hf : ofF k n = i) (hv : EntIs w' a v) :
    Sta w n r q h bS bM jm (jl + 1) (C.set i ⟨c.g, bo, c.r, putL c.L c.r k v⟩) R M (updM Me k a) x' y' K w' :=
  ⟨hd, s.rows.kept hk (by unfold DS; decide) (by unfold DS; decide), s.map.kept hk, s.below.trans (hk.below s.below.size), s.lo, by rw [List.length_set]; exact s.len, s.rlen, room_set s.room hi,
    lens_set (f := (· ≤ jl + 1)) (fun i c hc => Nat.le_succ_of_le (s.lens i c hc)) hi (by have h1 := put_le c.L c.r k v; have h2 := s.lens i c hi; show (putL c.L c.r k v).length ≤ jl + 1; omega), (s.ents.kept hk (by unfold DS; decide)).put hi bo hf hv, fun z hz => by obtain ⟨h1, h2, h3⟩ := s.held z hz; exact ⟨hk.blk h1 h2, h2, h3⟩⟩
/-- Behind a store into the rows. -/
theorem Sta.row (s : Sta w n r q h bS bM jm jl C R M Me x y K wr) {i : Nat} (hi : i < n) {L' : List (ByteArray × Int)} {v : Value} (hv : lrr.Ref wr w.heap.size v L') :
    Sta w n r q h bS bM jm jl C (R.set i L') M Me x y K (wr.setCell ⟨bS, i, none⟩ v) := by
  obtain ⟨h1, hk⟩ := s.rows.put (i := i) (by rw [s.rlen]; exact hi) hv
  exact ⟨s.dc.kept hk (by decide) (by decide) (by decide) (by decide) (by decide), h1, s.map.kept hk, s.below.trans (hk.below s.below.size), s.lo, s.len, by rw [List.length_set]; exact s.rlen, s.room, s.lens, s.ents.kept hk (by decide), fun z hz => by obtain ⟨h1, h2, h3⟩ := s.held z hz; exact ⟨hk.blk h1 h3, h2, h3⟩⟩
/-- Behind a store into the map. -/
theorem Sta.noted (s : Sta w n r q h bS bM jm jl C R M Me x y K wr) {k : ByteArray} {a : Act15} (hm : MapFn w' Try.prog 9 bM (jm + 1) (putF (fun s => (M s).map actV) k (actV a))) (hg : wr.grownBy w' (some bM)) :
    Sta w n r q h bS bM (jm + 1) jl C R (updM M k a) Me x y K w' := by
  have m : Mpd bM wr w' := ⟨⟨hg.os, hg.tape, hg.output, hg.size, fun k hk hne => hg.block k hk (fun e => hne (Option.some.inj e))⟩, fun cs t f he => s.map.ne he rfl⟩
  exact ⟨m.dc s.dc, m.rows s.rows, hm.congr fun s' => by unfold putF updM; split <;> rfl, s.below.trans ⟨hg.os, hg.tape, hg.output, hg.size, fun k hk => hg.block k (Nat.lt_of_lt_of_le hk s.below.size) (fun e => by have h1 := Option.some.inj e; have h2 := s.lo; omega)⟩, s.lo, s.len, s.rlen, s.room, s.lens, m.ents s.ents, fun z hz => by obtain ⟨h1, h2⟩ := s.held z hz; exact ⟨m.blk h1, h2⟩⟩
theorem Sta.more {jm' jl' : Nat} (s : Sta w n r q h bS bM jm jl C R M Me x y K wr) (h1 : jm ≤ jm') (h2 : jl ≤ jl') : Sta w n r q h bS bM jm' jl' C R M Me x y K wr :=
  ⟨s.dc, s.rows, s.map.mono h1, s.below, s.lo, s.len, s.rlen, s.room, fun i c hc => Nat.le_trans (s.lens i c hc) h2, s.ents, s.held⟩
/-- One block more that stays. -/
theorem Sta.hold {b : Nat} {cs : Array Value} {t : TypeId} (s : Sta w n r q h bS bM jm jl C R M Me x y K wr) (hb : wr.heap[b]? = some (.cells cs t (0, 0))) (h1 : ¬ DS t) (h2 : t ≠ 38) : Sta w n r q h bS bM jm jl C R M Me x y (⟨b, cs, t⟩ :: K) wr :=
  ⟨s.dc, s.rows, s.map, s.below, s.lo, s.len, s.rlen, s.room, s.lens, s.ents, fun z hz => by
    rcases List.mem_cons.1 hz with rfl | hz
    · exact ⟨hb, h1, h2⟩
    · exact s.held z hz⟩
theorem Sta.drop (s : Sta w n r q h bS bM jm jl C R M Me x y K wr) : Sta w n r q h bS bM jm jl C R M Me x y [] wr :=
  ⟨s.dc, s.rows, s.map, s.below, s.lo, s.len, s.rlen, s.room, s.lens, s.ents, fun z hz => by cases hz⟩
end
section
variable {w wr : World} {n r q h bS bM jm jl : Nat} {C : List Cc} {R : List (List (ByteArray × Int))} {M Me : ByteArray → Option Act15} {x y : Int} {K : List Hb} {i : Nat} {c : Cc} {dir s k : ByteArray}
/-- What is asked of a key's place. -/
structure At (n : Nat) (C : List Cc) (i : Nat) (c : Cc) (dir s k : ByteArray) : Prop where
  key : k = childB dir s
  pos : 0 < n
  few : n ≤ 256
  of : i = ofF k n
  at_ : C[i]? = some c
  dir : dir.size ≤ 1000
  name : s.size ≤ 1000
theorem Sta.hit (t : Sta w n r q h bS bM jm jl C R M Me x y K wr) (a : At n C i c dir s k) (hl : jl ≤ 100) (hx : 0 ≤ x ∧ x ≤ 1000000) {xe : Ent} (hv : val c.L k = some xe) {o : Act15} (ho : EntIs wr o xe) {ep : Int} (hep : o.ep = ep) :
    Calls Try.prog 20 #[.pointer (some ⟨q, 0, none⟩), .int .i64 ep, .string dir, .string s] wr fun e w' => ∃ (A : Option Addr) (c' : Nat) (bo' : Option Nat), e = .returned (.tuple #[.agg #[.int .i64 o.ep, .bool o.th, .int .i64 o.mr, .int .i64 0, .int .i64 0, .slice A 1 c', .string o.nm], .bool true]) ∧ Sp w' wr.heap.size A 1 [(o.mr, 0)] ∧ Sta w n r q h bS bM jm jl (C.set i ⟨c.g, bo', c.r, getL c.L k⟩) R M Me (x + 1) y K w' := by
  obtain ⟨g1, g2⟩ := got_of hv
  have hln := t.len
  have hlc := t.lens i c a.at_
  refine (look_yes w.heap.size q h i c C x y ep dir s k wr t.dc t.below.size a.key (by rw [hln]; exact a.pos) (by rw [hln]; exact a.few) (by rw [hln]; exact a.of) a.at_ (by omega) a.dir a.name hx 0 [(o.mr, 0)] (by simp) g1 (by rw [g2, ho.ep]; exact hep) (by rw [g2]; exact ho.sp)).mono ?_
  rintro e w' ⟨A, c', rfl, hsp, ⟨bo', hd⟩, hk⟩
  rw [g2] at hsp ⊢
  refine ⟨A, c', bo', ?_, ?_, t.gets a.at_ hd hk⟩
  · rw [ho.ep, ho.th, ho.kd, ho.lv, ho.nd, ho.dn, ho.tg]
  · have := ho.dn; rw [this] at hsp; exact hsp
theorem Sta.miss (t : Sta w n r q h bS bM jm jl C R M Me x y K wr) (a : At n C i c dir s k) (hl : jl ≤ 100) (hy : 0 ≤ y ∧ y ≤ 1000000) (ep : Int) (hno : val c.L k = none ∨ ∃ xe, val c.L k = some xe ∧ xe.ep ≠ ep) :
    Calls Try.prog 20 #[.pointer (some ⟨q, 0, none⟩), .int .i64 ep, .string dir, .string s] wr fun e w' => ∃ (bo' : Option Nat), e = .returned (.tuple #[.agg #[.int .i64 0, .bool false, .int .i64 0, .int .i64 0, .int .i64 0, .slice none 0 0, .string ⟨#[]⟩], .bool false]) ∧ Sta w n r q h bS bM jm jl (C.set i ⟨c.g, bo', c.r, getL c.L k⟩) R M Me x (y + 1) K w' := by
  have hln := t.len
  have hlc := t.lens i c a.at_
  refine (look_no w.heap.size q h i c C x y ep dir s k wr t.dc t.below.size a.key (by rw [hln]; exact a.pos) (by rw [hln]; exact a.few) (by rw [hln]; exact a.of) a.at_ (by omega) a.dir a.name hy ?_).mono ?_
  · rcases hno with hv | ⟨xe, hv, hne⟩
    · exact .inl (got_none hv)
    · exact .inr (by rw [(got_of hv).2]; exact hne)
  · rintro e w' ⟨rfl, ⟨bo', hd⟩, hk⟩
    exact ⟨bo', rfl, t.gets a.at_ hd hk⟩
theorem Sta.late (t : Sta w n r q h bS bM jm jl C R M Me x y K wr) (a : At n C i c dir s k) (hl : jl ≤ 100) (o : Act15) (b : Nat) {xe : Ent} (hv : val c.L k = some xe) (hlt : o.ep < xe.ep) :
    Calls Try.prog 17 #[.pointer (some ⟨q, 0, none⟩), .string dir, .string s, .agg #[.int .i64 o.ep, .bool o.th, .int .i64 o.mr, .int .i64 0, .int .i64 0, .slice (some ⟨b, 0, none⟩) 1 1, .string o.nm]] wr fun e w' => ∃ (bo' : Option Nat), e = .returned (.bool false) ∧ Sta w n r q h bS bM jm jl (C.set i ⟨c.g, bo', c.r, getL c.L k⟩) R M Me x y K w' := by
  have hln := t.len
  have hlc := t.lens i c a.at_
  obtain ⟨g1, g2⟩ := got_of hv
  refine (keep_no w.heap.size q h i c C x y (entE o b) dir s k wr t.dc t.below.size a.key (by rw [hln]; exact a.pos) (by rw [hln]; exact a.few) (by rw [hln]; exact a.of) a.at_ (by omega) a.dir a.name ⟨g1, by rw [g2]; exact hlt⟩).mono ?_
  rintro e w' ⟨rfl, ⟨bo', hd⟩, hk⟩
  exact ⟨bo', rfl, t.gets a.at_ hd hk⟩
theorem Sta.early (t : Sta w n r q h bS bM jm jl C R M Me x y K wr) (a : At n C i c dir s k) (hl : jl ≤ 100) (o : Act15) (b : Nat) (hb : wr.heap[b]? = some (.cells #[.int .i64 o.mr, .int .i64 0] 44 (0, 0))) (hno : val c.L k = none ∨ ∃ xe, val c.L k = some xe ∧ xe.ep ≤ o.ep) :
    Calls Try.prog 17 #[.pointer (some ⟨q, 0, none⟩), .string dir, .string s, .agg #[.int .i64 o.ep, .bool o.th, .int .i64 o.mr, .int .i64 0, .int .i64 0, .slice (some ⟨b, 0, none⟩) 1 1, .string o.nm]] wr fun e w' => ∃ (bo' : Option Nat) (v : Ent), e = .returned (.bool true) ∧ Sta w n r q h bS bM jm (jl + 1) (C.set i ⟨c.g, bo', c.r, putL c.L c.r k v⟩) R M (updM Me k o) x y K w' := by
  have hln := t.len
  have hlc := t.lens i c a.at_
  refine (keep_yes w.heap.size q h i c C x y (entE o b) dir s k wr t.dc t.below.size a.key (by rw [hln]; exact a.pos) (by rw [hln]; exact a.few) (by rw [hln]; exact a.of) a.at_ (by omega) a.dir a.name 0 [(o.mr, 0)] (by simp) (Sp.one hb (Nat.zero_le _)) ?_).mono ?_
  · rcases hno with hv | ⟨xe, hv, hle⟩
    · exact .inl (got_none hv)
    · exact .inr (by rw [(got_of hv).2]; exact hle)
  · rintro e w' ⟨rfl, A, c', hsp, ⟨bo', hd⟩, hk⟩
    exact ⟨bo', _, rfl, t.puts a.at_ hd hk a.of.symm ⟨rfl, rfl, rfl, rfl, rfl, rfl, rfl, hsp.mono (Nat.zero_le _)⟩⟩
end
/-- The rows have the keys of the caches. -/
def Keys (C : List Cc) (R : List (List (ByteArray × Int))) : Prop := ∀ (i : Nat) (c : Cc), C[i]? = some c → ∃ L, R[i]? = some L ∧ keys L = keys c.L
/-- Both turn at one place. -/
theorem Keys.turn {C : List Cc} {R : List (List (ByteArray × Int))} (h : Keys C R) {i : Nat} {c c' : Cc} (hi : C[i]? = some c) {L' : List (ByteArray × Int)} (hk : keys L' = keys c'.L) : Keys (C.set i c') (R.set i L') := fun j d hd => by
  obtain ⟨L0, hL0, _⟩ := h i c hi
  have hlt := (List.getElem?_eq_some_iff.1 hL0).1
  rw [List.getElem?_set] at hd
  rw [List.getElem?_set]
  split at hd
  · rename_i e
    subst e
    split at hd
    · injection hd with hd
      subst hd
      exact ⟨L', by rw [if_pos rfl, if_pos hlt], hk⟩
    · cases hd
  · rename_i e
    rw [if_neg e]
    exact h j d hd
theorem set_same {α : Type} {l : List α} {i : Nat} {a : α} (h : l[i]? = some a) : l.set i a = l := by
  obtain ⟨hi, rfl⟩ := List.getElem?_eq_some_iff.1 h
  exact List.set_getElem_self hi
end Go.Proofs.Ythhcbmljckgncaa.ddo
