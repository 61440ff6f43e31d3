/- What the law WholeEpochs keeps: a cache of names, a cache of lists, a map of the newest epochs. Condition: what is asked lies in memory. -/
import Derived.Test.YthhcbmljckgncaaLdoMath
import Derived.Test.YthhcbmljckgncaaArgItem
namespace Go.Proofs.Ythhcbmljckgncaa.who
set_option maxRecDepth 100000
open Go.RowKit Go.Proofs.Ythhcbmljckgncaa.words Go.Proofs.Ythhcbmljckgncaa.lru Go.Proofs.Ythhcbmljckgncaa.sha Go.Proofs.Ythhcbmljckgncaa.mpf
open Go.Proofs.Ythhcbmljckgncaa.ddo (mem_get mem_put)
open Go.Proofs.Ythhcbmljckgncaa.lrd (Ent)
open Go.Proofs.Ythhcbmljckgncaa.lrl (Lst)
open Go.Proofs.Ythhcbmljckgncaa.dca (Dc childB root)
open Go.Proofs.Ythhcbmljckgncaa.lca (Lc Enr enC)

abbrev Cd := shd.Cc
abbrev Cl := shl.Cc
theorem child_inj {a b : ByteArray} (h : childB root a = childB root b) : a = b := by
  unfold childB at h
  rw [if_pos rfl, if_pos rfl] at h
  have h2 := congrArg (fun x : ByteArray => x.data.toList) h
  simp only [ByteArray.data_append, Array.toList_append] at h2
  exact ByteArray.ext (Array.ext' (List.append_cancel_left h2))
/-- What each key among the names was. -/
def Ents1 (n : Nat) (C : List Cd) (M : ByteArray → Option Nat) : Prop :=
  ∀ (i : Nat) (c : Cd) (k : ByteArray) (xe : Ent), C[i]? = some c → (k, xe) ∈ c.L → ofF k n = i ∧ ∃ nm e, k = childB root nm ∧ M nm = some e ∧ xe.ep = (e : Int) ∧ xe.tg = nm ∧ xe.dn = 0
/-- What each list is. -/
def Ents2 (w : World) (C : List Cl) : Prop :=
  ∀ (i : Nat) (c : Cl) (k : ByteArray) (xe : Lst), C[i]? = some c → (k, xe) ∈ c.L → xe.n = 1 ∧ ∃ nm, Enr w 0 (.slice xe.a 1 xe.c) [(nm, xe.ep)]
theorem Ents2.kept {S : TypeId → Prop} {B : Nat} {w w' : World} {C : List Cl} (h : Ents2 w C) (hk : Kept S B w w') (hS : ¬ S 81) : Ents2 w' C := fun i c k xe hc hm => by
  obtain ⟨h1, nm, h2⟩ := h i c k xe hc hm
  exact ⟨h1, nm, h2.kept hk hS⟩
def updM (M : ByteArray → Option Nat) (k : ByteArray) (a : Nat) (k' : ByteArray) : Option Nat := if k' = k then some a else M k'
theorem set_cases {α : Type} {C : List α} {i j : Nat} {c c' : α} (h : (C.set i c)[j]? = some c') : (j = i ∧ c' = c) ∨ (j ≠ i ∧ C[j]? = some c') := by
  rw [List.getElem?_set] at h
  split at h
  · rename_i e
    split at h
    · injection h with h
      exact .inl ⟨e.symm, h.symm⟩
    · cases h
  · rename_i e
    exact .inr ⟨fun e' => e e'.symm, h⟩
theorem Ents1.got {n : Nat} {C : List Cd} {M : ByteArray → Option Nat} (h : Ents1 n C M) {i : Nat} {c : Cd} (hi : C[i]? = some c) (bo : Option Nat) (k : ByteArray) : Ents1 n (C.set i ⟨c.g, bo, c.r, getL c.L k⟩) M := fun j c' k' xe hc hm => by
  rcases set_cases hc with ⟨rfl, rfl⟩ | ⟨_, hc⟩
  · exact h j c k' xe hi (mem_get hm)
  · exact h j c' k' xe hc hm
theorem Ents1.put {n : Nat} {C : List Cd} {M : ByteArray → Option Nat} (h : Ents1 n C M) {i : Nat} {c : Cd} (hi : C[i]? = some c) (bo : Option Nat) {nm : ByteArray} {e : Nat} {v : Ent} (hk : ofF (childB root nm) n = i) (h1 : v.ep = (e : Int)) (h2 : v.tg = nm) (h3 : v.dn = 0) : Ents1 n (C.set i ⟨c.g, bo, c.r, putL c.L c.r (childB root nm) v⟩) (updM M nm e) := fun j c' k' xe hc hm => by
  have old : ∀ j c', C[j]? = some c' → (k', xe) ∈ c'.L → k' ≠ childB root nm → ofF k' n = j ∧ ∃ nm' e', k' = childB root nm' ∧ updM M nm e nm' = some e' ∧ xe.ep = (e' : Int) ∧ xe.tg = nm' ∧ xe.dn = 0 := fun j c' hc hm hne => by
    obtain ⟨g1, nm', e', g2, g3, g4⟩ := h j c' k' xe hc hm
    refine ⟨g1, nm', e', g2, ?_, g4⟩
    unfold updM
    rw [if_neg fun e => hne (by rw [g2, e])]
    exact g3
  rcases set_cases hc with ⟨rfl, rfl⟩ | ⟨hj, hc⟩
  · rcases mem_put hm with e1 | ⟨hm, hne⟩
    · injection e1 with e1 e2
      subst e1 e2
      exact ⟨hk, nm, e, rfl, by unfold updM; rw [if_pos rfl], h1, h2, h3⟩
    · exact old j c hi hm hne
  · refine old j c' hc hm fun e1 => ?_
    have := (h j c' k' xe hc hm).1
    rw [e1] at this
    exact hj (this.symm.trans hk)
theorem Ents2.got {w : World} {C : List Cl} (h : Ents2 w C) {i : Nat} {c : Cl} (hi : C[i]? = some c) (bo : Option Nat) (k : ByteArray) : Ents2 w (C.set i ⟨c.g, bo, c.r, getL c.L k⟩) := fun j c' k' xe hc hm => by
  rcases set_cases hc with ⟨rfl, rfl⟩ | ⟨_, hc⟩
  · exact h j c k' xe hi (mem_get hm)
  · exact h j c' k' xe hc hm
theorem Ents2.put {w : World} {C : List Cl} (h : Ents2 w C) {i : Nat} {c : Cl} (hi : C[i]? = some c) (bo : Option Nat) {k : ByteArray} {v : Lst} (hv : v.n = 1 ∧ ∃ nm, Enr w 0 (.slice v.a 1 v.c) [(nm, v.ep)]) : Ents2 w (C.set i ⟨c.g, bo, c.r, putL c.L c.r k v⟩) := fun j c' k' xe hc hm => by
  rcases set_cases hc with ⟨rfl, rfl⟩ | ⟨_, hc⟩
  · rcases mem_put hm with e1 | ⟨hm, _⟩
    · injection e1 with e1 e2
      subst e1 e2
      exact hv
    · exact h j c k' xe hi hm
  · exact h j c' k' xe hc hm

/-! All that the law keeps -/
/-- A block that stays as it is. -/
structure Hb where
  b : Nat
  cs : Array Value
  t : TypeId
structure Wh (w : World) (n q1 h1 q2 h2 bM jm jl : Nat) (C1 : List Cd) (x y : Int) (C2 : List Cl) (M Me : ByteArray → Option Nat) (K : List Hb) (wr : World) : Prop where
  dc : Dc wr w.heap.size q1 h1 C1 x y
  lc : Lc wr w.heap.size q2 h2 C2 0
  map : MapFn wr Try.prog 9 bM jm (fun s => (M s).map fun e : Nat => .int .u8 (e : Int))
  below : Below w.heap.size w wr
  lo : w.heap.size ≤ bM
  len1 : C1.length = n
  len2 : C2.length = n
  lens1 : ∀ (i : Nat) (c : Cd), C1[i]? = some c → c.L.length ≤ jl
  lens2 : ∀ (i : Nat) (c : Cl), C2[i]? = some c → c.L.length ≤ jl
  ents1 : Ents1 n C1 Me
  ents2 : Ents2 wr C2
  small : ∀ s e, M s = some e → e < 5
  held : ∀ z ∈ K, wr.heap[z.b]? = some (.cells z.cs z.t (0, 0)) ∧ ¬ dca.DS z.t ∧ ¬ lca.DS z.t
section
variable {w wr w' : World} {n q1 h1 q2 h2 bM jm jl : Nat} {C1 : List Cd} {x y : Int} {C2 : List Cl} {M Me : ByteArray → Option Nat} {K : List Hb}
theorem Wh.later (s : Wh w n q1 h1 q2 h2 bM jm jl C1 x y C2 M Me K wr) (hb : Below wr.heap.size wr w') : Wh w n q1 h1 q2 h2 bM jm jl C1 x y C2 M Me K w' :=
  ⟨s.dc.later hb, s.lc.later hb, s.map.later hb, s.below.trans (hb.mono s.below.size), s.lo, s.len1, s.len2, s.lens1, s.lens2, s.ents1, s.ents2.kept (Kept.of_below hb (fun _ => False) 0) (fun hc => hc), s.small, fun z hz => by obtain ⟨h1, h2⟩ := s.held z hz; exact ⟨(hb.block _ (lt_of_some h1)).trans h1, h2⟩⟩
theorem Wh.more {jm' jl' : Nat} (s : Wh w n q1 h1 q2 h2 bM jm jl C1 x y C2 M Me K wr) (h3 : jm ≤ jm') (h4 : jl ≤ jl') : Wh w n q1 h1 q2 h2 bM jm' jl' C1 x y C2 M Me K wr :=
  ⟨s.dc, s.lc, s.map.mono h3, s.below, s.lo, s.len1, s.len2, fun i c hc => Nat.le_trans (s.lens1 i c hc) h4, fun i c hc => Nat.le_trans (s.lens2 i c hc) h4, s.ents1, s.ents2, s.small, s.held⟩
theorem Wh.hold {b : Nat} {cs : Array Value} {t : TypeId} (s : Wh w n q1 h1 q2 h2 bM jm jl C1 x y C2 M Me K wr) (hb : wr.heap[b]? = some (.cells cs t (0, 0))) (h3 : ¬ dca.DS t) (h4 : ¬ lca.DS t) : Wh w n q1 h1 q2 h2 bM jm jl C1 x y C2 M Me (⟨b, cs, t⟩ :: K) wr :=
  ⟨s.dc, s.lc, s.map, s.below, s.lo, s.len1, s.len2, s.lens1, s.lens2, s.ents1, s.ents2, s.small, fun z hz => by
    rcases List.mem_cons.1 hz with rfl | hz
    · exact ⟨hb, h3, h4⟩
    · exact s.held z hz⟩
theorem Wh.drop (s : Wh w n q1 h1 q2 h2 bM jm jl C1 x y C2 M Me K wr) : Wh w n q1 h1 q2 h2 bM jm jl C1 x y C2 M Me [] wr :=
  ⟨s.dc, s.lc, s.map, s.below, s.lo, s.len1, s.len2, s.lens1, s.lens2, s.ents1, s.ents2, s.small, fun z hz => by cases hz⟩
theorem Wh.less {K' : List Hb} (s : Wh w n q1 h1 q2 h2 bM jm jl C1 x y C2 M Me K wr) (h : ∀ z ∈ K', z ∈ K) : Wh w n q1 h1 q2 h2 bM jm jl C1 x y C2 M Me K' wr :=
  ⟨s.dc, s.lc, s.map, s.below, s.lo, s.len1, s.len2, s.lens1, s.lens2, s.ents1, s.ents2, s.small, fun z hz => s.held z (h z hz)⟩
theorem Wh.noted {nm : ByteArray} {e : Nat} (s : Wh w n q1 h1 q2 h2 bM jm jl C1 x y C2 M (updM M nm e) K wr) (he : e < 5) (hm : MapFn w' Try.prog 9 bM (jm + 1) (putF (fun s => (M s).map fun e : Nat => .int .u8 (e : Int)) nm (.int .u8 (e : Int)))) (hg : wr.grownBy w' (some bM)) :
    Wh w n q1 h1 q2 h2 bM (jm + 1) jl C1 x y C2 (updM M nm e) (updM M nm e) K w' := by
  have ht : Tn (fun k => k = bM) wr w' := ⟨hg.os, hg.tape, hg.output, hg.size, fun k hk hne => hg.block k hk (fun e => hne (Option.some.inj e))⟩
  have m : lca.Mpd (some bM) wr w' := ⟨⟨hg.os, hg.tape, hg.output, hg.size, fun k hk hne => hg.block k hk hne⟩, fun b e cs t f he => by obtain rfl : bM = b := Option.some.inj e; exact s.map.ne he rfl, fun b e cs t f he => by obtain rfl : bM = b := Option.some.inj e; exact hm.ne he rfl⟩
  have m2 : ddo.Mpd bM wr w' := ⟨ht, fun cs t f he => s.map.ne he rfl⟩
  exact ⟨m2.dc s.dc, m.lc s.lc, hm.congr fun s' => by unfold putF updM; split <;> rfl, s.below.trans ⟨hg.os, hg.tape, hg.output, hg.size, fun k hk => hg.block k (Nat.lt_of_lt_of_le hk s.below.size) (fun e => by have h1 := Option.some.inj e; have h2 := s.lo; omega)⟩, s.lo, s.len1, s.len2, s.lens1, s.lens2, s.ents1, fun i c k xe hc hm => by
    obtain ⟨g1, nm', g2⟩ := s.ents2 i c k xe hc hm
    exact ⟨g1, nm', m.own g2⟩, fun s' e' hs' => by
    unfold updM at hs'
    split at hs'
    · injection hs' with hs'; omega
    · exact s.small s' e' hs', fun z hz => by obtain ⟨g1, g2⟩ := s.held z hz; exact ⟨m.blk g1, g2⟩⟩
theorem Wh.gets1 (s : Wh w n q1 h1 q2 h2 bM jm jl C1 x y C2 M Me K wr) {i : Nat} {c : Cd} (hi : C1[i]? = some c) {bo : Option Nat} {k : ByteArray} {x' y' : Int} (hd : Dc w' w.heap.size q1 h1 (C1.set i ⟨c.g, bo, c.r, getL c.L k⟩) x' y') (hk : Kept dca.DS w.heap.size wr w') :
    Wh w n q1 h1 q2 h2 bM jm jl (C1.set i ⟨c.g, bo, c.r, getL c.L k⟩) x' y' C2 M Me K w' :=
  ⟨hd, s.lc.kept hk (by unfold dca.DS; decide) (by unfold dca.DS; decide) (by unfold dca.DS; decide) (by unfold dca.DS; decide) (by unfold dca.DS; decide), s.map.kept hk, s.below.trans (hk.below s.below.size), s.lo, by rw [List.length_set]; exact s.len1, s.len2, fun j d hd => by
    rcases set_cases hd with ⟨rfl, rfl⟩ | ⟨_, hd⟩
    · show (getL c.L k).length ≤ jl; rw [get_len (s.dc.fam.ok j c hi)]; exact s.lens1 j c hi
    · exact s.lens1 j d hd, s.lens2, s.ents1.got hi bo k, s.ents2.kept hk (by unfold dca.DS; decide), s.small, fun z hz => by obtain ⟨g1, g2, g3⟩ := s.held z hz; exact ⟨hk.blk g1 g2, g2, g3⟩⟩
theorem Wh.puts1 (s : Wh w n q1 h1 q2 h2 bM jm jl C1 x y C2 M Me K wr) {i : Nat} {c : Cd} (hi : C1[i]? = some c) {bo : Option Nat} {nm : ByteArray} {e : Nat} {v : Ent} {x' y' : Int} (hd : Dc w' w.heap.size q1 h1 (C1.set i ⟨c.g, bo, c.r, putL c.L c.r (childB root nm) v⟩) x' y') (hk : Kept dca.DS w.heap.size wr w')
    (hf : ofF (childB root nm) n = i) (e1 : v.ep = (e : Int)) (e2 : v.tg = nm) (e3 : v.dn = 0) : Wh w n q1 h1 q2 h2 bM jm (jl + 1) (C1.set i ⟨c.g, bo, c.r, putL c.L c.r (childB root nm) v⟩) x' y' C2 M (updM Me nm e) K w' :=
  ⟨hd, s.lc.kept hk (by unfold dca.DS; decide) (by unfold dca.DS; decide) (by unfold dca.DS; decide) (by unfold dca.DS; decide) (by unfold dca.DS; decide), s.map.kept hk, s.below.trans (hk.below s.below.size), s.lo, by rw [List.length_set]; exact s.len1, s.len2, fun j d hd => by
    rcases set_cases hd with ⟨rfl, rfl⟩ | ⟨_, hd⟩
    · have g1 := put_le c.L c.r (childB root nm) v; have g2 := s.lens1 j c hi; show (putL c.L c.r (childB root nm) v).length ≤ jl + 1; omega
    · exact Nat.le_succ_of_le (s.lens1 j d hd), fun j d hd => Nat.le_succ_of_le (s.lens2 j d hd), s.ents1.put hi bo hf e1 e2 e3, s.ents2.kept hk (by unfold dca.DS; decide), s.small, fun z hz => by obtain ⟨g1, g2, g3⟩ := s.held z hz; exact ⟨hk.blk g1 g2, g2, g3⟩⟩
theorem Wh.gets2 (s : Wh w n q1 h1 q2 h2 bM jm jl C1 x y C2 M Me K wr) {i : Nat} {c : Cl} (hi : C2[i]? = some c) {bo : Option Nat} {k : ByteArray} (hd : Lc w' w.heap.size q2 h2 (C2.set i ⟨c.g, bo, c.r, getL c.L k⟩) 0) (hk : Kept lrl.LS w.heap.size wr w') :
    Wh w n q1 h1 q2 h2 bM jm jl C1 x y (C2.set i ⟨c.g, bo, c.r, getL c.L k⟩) M Me K w' :=
  ⟨s.dc.kept hk (by unfold lrl.LS; decide) (by unfold lrl.LS; decide) (by unfold lrl.LS; decide) (by unfold lrl.LS; decide) (by unfold lrl.LS; decide), hd, s.map.kept hk, s.below.trans (hk.below s.below.size), s.lo, s.len1, by rw [List.length_set]; exact s.len2, s.lens1, fun j d hd => by
    rcases set_cases hd with ⟨rfl, rfl⟩ | ⟨_, hd⟩
    · show (getL c.L k).length ≤ jl; rw [get_len (s.lc.fam.ok j c hi)]; exact s.lens2 j c hi
    · exact s.lens2 j d hd, s.ents1, (s.ents2.kept hk (by unfold lrl.LS; decide)).got hi bo k, s.small, fun z hz => by obtain ⟨g1, g2, g3⟩ := s.held z hz; exact ⟨hk.blk g1 (fun h => g3 (lca.LS.ds h)), g2, g3⟩⟩
theorem Wh.puts2 (s : Wh w n q1 h1 q2 h2 bM jm jl C1 x y C2 M Me K wr) {i : Nat} {c : Cl} (hi : C2[i]? = some c) {bo : Option Nat} {k : ByteArray} {v : Lst} (hd : Lc w' w.heap.size q2 h2 (C2.set i ⟨c.g, bo, c.r, putL c.L c.r k v⟩) 0) (hk : Kept lrl.LS w.heap.size wr w')
    (hv : v.n = 1 ∧ ∃ nm, Enr w' 0 (.slice v.a 1 v.c) [(nm, v.ep)]) : Wh w n q1 h1 q2 h2 bM jm (jl + 1) C1 x y (C2.set i ⟨c.g, bo, c.r, putL c.L c.r k v⟩) M Me K w' :=
  ⟨s.dc.kept hk (by unfold lrl.LS; decide) (by unfold lrl.LS; decide) (by unfold lrl.LS; decide) (by unfold lrl.LS; decide) (by unfold lrl.LS; decide), hd, s.map.kept hk, s.below.trans (hk.below s.below.size), s.lo, s.len1, by rw [List.length_set]; exact s.len2, fun j d hd => Nat.le_succ_of_le (s.lens1 j d hd), fun j d hd => by
    rcases set_cases hd with ⟨rfl, rfl⟩ | ⟨_, hd⟩
    · have g1 := put_le c.L c.r k v; have g2 := s.lens2 j c hi; show (putL c.L c.r k v).length ≤ jl + 1; omega
    · exact Nat.le_succ_of_le (s.lens2 j d hd), s.ents1, (s.ents2.kept hk (by unfold lrl.LS; decide)).put hi bo hv, s.small, fun z hz => by obtain ⟨g1, g2, g3⟩ := s.held z hz; exact ⟨hk.blk g1 (fun h => g3 (lca.LS.ds h)), g2, g3⟩⟩
/-- Where a name's key is, among n shards. -/
theorem Wh.at1 (s : Wh w n q1 h1 q2 h2 bM jm jl C1 x y C2 M Me K wr) (hn : 0 < n) (k : ByteArray) : ∃ c, C1[ofF k n]? = some c := ⟨_, List.getElem?_eq_getElem (by rw [s.len1]; exact ofF_lt k hn)⟩
theorem Wh.at2 (s : Wh w n q1 h1 q2 h2 bM jm jl C1 x y C2 M Me K wr) (hn : 0 < n) (k : ByteArray) : ∃ c, C2[ofF k n]? = some c := ⟨_, List.getElem?_eq_getElem (by rw [s.len2]; exact ofF_lt k hn)⟩
/-- What the names hold of one. -/
def Is1 (n : Nat) (C1 : List Cd) (nm : ByteArray) (o : Option Ent) : Prop := ∃ c, C1[ofF (childB root nm) n]? = some c ∧ val c.L (childB root nm) = o
theorem Wh.is (s : Wh w n q1 h1 q2 h2 bM jm jl C1 x y C2 M Me K wr) (hn : 0 < n) (nm : ByteArray) : ∃ o, Is1 n C1 nm o ∧ (∀ xe, o = some xe → ∃ e, Me nm = some e ∧ xe.ep = (e : Int) ∧ xe.tg = nm ∧ xe.dn = 0) := by
  obtain ⟨c, hc⟩ := s.at1 hn (childB root nm)
  refine ⟨_, ⟨c, hc, rfl⟩, fun xe hx => ?_⟩
  obtain ⟨_, nm', e, g1, g2, g3, g4, g5⟩ := s.ents1 _ c _ xe hc (val_mem hx)
  have := child_inj g1
  subst this
  exact ⟨e, g2, g3, g4, g5⟩
theorem val_getD (L : List (ByteArray × Ent)) (k : ByteArray) : val (getL L k) k = val L k := by
  unfold getL
  rcases h : val L k with _ | v
  · exact h
  · simp [val]
theorem Is1.got {C1 : List Cd} {nm : ByteArray} {o : Option Ent} {c : Cd} (h : Is1 n C1 nm o) (hi : C1[ofF (childB root nm) n]? = some c) (bo : Option Nat) : Is1 n (C1.set (ofF (childB root nm) n) ⟨c.g, bo, c.r, getL c.L (childB root nm)⟩) nm o := by
  obtain ⟨c', h1, h2⟩ := h
  rw [hi] at h1
  injection h1 with h1
  subst h1
  exact ⟨_, by rw [List.getElem?_set, if_pos rfl, if_pos (List.getElem?_eq_some_iff.1 hi).1], (val_getD _ _).trans h2⟩
/-- What is answered to 'Look' of a name: a hit. -/
theorem Wh.hit1 (s : Wh w n q1 h1 q2 h2 bM jm jl C1 x y C2 M Me K wr) (hn : 0 < n ∧ n ≤ 256) (hl : jl ≤ 100) {nm : ByteArray} (hnm : nm.size ≤ 64) (hxy : 0 ≤ x ∧ x ≤ 1000) {xe : Ent} (hi : Is1 n C1 nm (some xe)) (ht : xe.tg = nm ∧ xe.dn = 0) :
    Calls Try.prog 20 #[.pointer (some ⟨q1, 0, none⟩), .int .i64 xe.ep, .string root, .string nm] wr fun e w' => ∃ (A : Option Addr) (c' : Nat) (C1' : List Cd), e = .returned (.tuple #[.agg #[.int .i64 xe.ep, .bool xe.th, .int .i64 xe.kd, .int .i64 xe.lv, .int .i64 xe.nd, .slice A 0 c', .string nm], .bool true]) ∧ Is1 n C1' nm (some xe) ∧ Wh w n q1 h1 q2 h2 bM jm jl C1' (x + 1) y C2 M Me K w' := by
  obtain ⟨c, hc, hv⟩ := hi
  have g1 := ddo.got_of hv
  refine (dca.look_yes w.heap.size q1 h1 _ c C1 x y xe.ep root nm (childB root nm) wr s.dc s.below.size rfl (by rw [s.len1]; exact hn.1) (by rw [s.len1]; exact hn.2) (by rw [s.len1]) hc (by have := s.lens1 _ c hc; omega) (by decide) (by omega) (by omega) 0 [] (by simp) g1.1 (by rw [g1.2]) (by rw [g1.2, ht.2]; exact dca.Sp.nil _ _ _)).mono ?_
  rintro e w' ⟨A, c', rfl, _, ⟨bo', hd⟩, hk⟩
  rw [g1.2, ht.1, ht.2]
  exact ⟨A, c', _, rfl, Is1.got ⟨c, hc, hv⟩ hc bo', s.gets1 hc hd hk⟩
theorem Wh.miss1 (s : Wh w n q1 h1 q2 h2 bM jm jl C1 x y C2 M Me K wr) (hn : 0 < n ∧ n ≤ 256) (hl : jl ≤ 100) {nm : ByteArray} (hnm : nm.size ≤ 64) (hxy : 0 ≤ y ∧ y ≤ 1000) {o : Option Ent} (hi : Is1 n C1 nm o) (ep : Int) (ho : ∀ xe, o = some xe → xe.ep ≠ ep) :
    Calls Try.prog 20 #[.pointer (some ⟨q1, 0, none⟩), .int .i64 ep, .string root, .string nm] wr fun e w' => ∃ (C1' : List Cd), e = .returned (.tuple #[.agg #[.int .i64 0, .bool false, .int .i64 0, .int .i64 0, .int .i64 0, .slice none 0 0, .string ⟨#[]⟩], .bool false]) ∧ Is1 n C1' nm o ∧ Wh w n q1 h1 q2 h2 bM jm jl C1' x (y + 1) C2 M Me K w' := by
  obtain ⟨c, hc, hv⟩ := hi
  refine (dca.look_no w.heap.size q1 h1 _ c C1 x y ep root nm (childB root nm) wr s.dc s.below.size rfl (by rw [s.len1]; exact hn.1) (by rw [s.len1]; exact hn.2) (by rw [s.len1]) hc (by have := s.lens1 _ c hc; omega) (by decide) (by omega) (by omega) ?_).mono ?_
  · rcases o with _ | xe
    · exact .inl (ddo.got_none hv)
    · exact .inr (by rw [(ddo.got_of hv).2]; exact ho xe rfl)
  · rintro e w' ⟨rfl, ⟨bo', hd⟩, hk⟩
    exact ⟨_, rfl, Is1.got ⟨c, hc, hv⟩ hc bo', s.gets1 hc hd hk⟩
theorem Wh.keepYes (s : Wh w n q1 h1 q2 h2 bM jm jl C1 x y C2 M Me K wr) (hn : 0 < n ∧ n ≤ 256) (hl : jl ≤ 100) {nm : ByteArray} (hnm : nm.size ≤ 64) (e : Nat) {o : Option Ent} (hi : Is1 n C1 nm o) (ho : ∀ xe, o = some xe → xe.ep ≤ (e : Int)) :
    Calls Try.prog 17 #[.pointer (some ⟨q1, 0, none⟩), .string root, .string nm, .agg #[.int .i64 (e : Int), .bool false, .int .i64 0, .int .i64 0, .int .i64 0, .slice none 0 0, .string nm]] wr fun e' w' => ∃ (C1' : List Cd), e' = .returned (.bool true) ∧ Wh w n q1 h1 q2 h2 bM jm (jl + 1) C1' x y C2 M (updM Me nm e) K w' := by
  obtain ⟨c, hc, hv⟩ := hi
  refine (dca.keep_yes w.heap.size q1 h1 _ c C1 x y ⟨(e : Int), false, 0, 0, 0, none, 0, 0, nm⟩ root nm (childB root nm) wr s.dc s.below.size rfl (by rw [s.len1]; exact hn.1) (by rw [s.len1]; exact hn.2) (by rw [s.len1]) hc (by have := s.lens1 _ c hc; omega) (by decide) (by omega) 0 [] (by simp) (dca.Sp.nil _ _ _) ?_).mono ?_
  · rcases o with _ | xe
    · exact .inl (ddo.got_none hv)
    · exact .inr (by rw [(ddo.got_of hv).2]; exact ho xe rfl)
  · rintro e' w' ⟨rfl, A, c', _, ⟨bo', hd⟩, hk⟩
    exact ⟨_, rfl, s.puts1 hc hd hk rfl rfl rfl rfl⟩
theorem Wh.keepNo (s : Wh w n q1 h1 q2 h2 bM jm jl C1 x y C2 M Me K wr) (hn : 0 < n ∧ n ≤ 256) (hl : jl ≤ 100) {nm : ByteArray} (hnm : nm.size ≤ 64) (e : Nat) {xe : Ent} (hi : Is1 n C1 nm (some xe)) (ho : (e : Int) < xe.ep) :
    Calls Try.prog 17 #[.pointer (some ⟨q1, 0, none⟩), .string root, .string nm, .agg #[.int .i64 (e : Int), .bool false, .int .i64 0, .int .i64 0, .int .i64 0, .slice none 0 0, .string nm]] wr fun e' w' => ∃ (C1' : List Cd), e' = .returned (.bool false) ∧ Wh w n q1 h1 q2 h2 bM jm jl C1' x y C2 M Me K w' := by
  obtain ⟨c, hc, hv⟩ := hi
  obtain ⟨g1, g2⟩ := ddo.got_of hv
  refine (dca.keep_no w.heap.size q1 h1 _ c C1 x y ⟨(e : Int), false, 0, 0, 0, none, 0, 0, nm⟩ root nm (childB root nm) wr s.dc s.below.size rfl (by rw [s.len1]; exact hn.1) (by rw [s.len1]; exact hn.2) (by rw [s.len1]) hc (by have := s.lens1 _ c hc; omega) (by decide) (by omega) ⟨g1, by rw [g2]; exact ho⟩).mono ?_
  rintro e' w' ⟨rfl, ⟨bo', hd⟩, hk⟩
  exact ⟨_, rfl, s.gets1 hc hd hk⟩
/-- What is answered to 'Look' of a list: its one entry bears the epoch, or nothing. -/
theorem Wh.look2 (s : Wh w n q1 h1 q2 h2 bM jm jl C1 x y C2 M Me K wr) (hn : 0 < n ∧ n ≤ 256) (hl : jl ≤ 100) (k : ByteArray) (hk : k.size ≤ 100) (ep : Int) :
    Calls Try.prog 28 #[.pointer (some ⟨q2, 0, none⟩), .int .i64 ep, .string k] wr fun e w' => ∃ (C2' : List Cl), Wh w n q1 h1 q2 h2 bM jm jl C1 x y C2' M Me K w' ∧ (e = .returned (.tuple #[.slice none 0 0, .bool false]) ∨ ∃ (b c' : Nat), e = .returned (.tuple #[.slice (some ⟨b, 0, none⟩) 1 c', .bool true]) ∧ w'.cell? ⟨b, 1, none⟩ = some (.int .i64 ep)) := by
  obtain ⟨c, hc⟩ := s.at2 hn.1 k
  have hll := s.lens2 _ c hc
  by_cases hh : ∃ xe, val c.L k = some xe ∧ xe.ep = ep
  · obtain ⟨xe, hv, he⟩ := hh
    obtain ⟨e1, nm, e2⟩ := s.ents2 _ c k xe hc (val_mem hv)
    obtain ⟨g1, g2⟩ := ldo.got_of hv
    refine (lca.look_yes w.heap.size q2 h2 _ c C2 0 ep k wr s.lc (by rw [s.len2]; exact hn.1) (by rw [s.len2]; exact hn.2) (by rw [s.len2]) hc (by omega) (by omega) 0 [(nm, xe.ep)] (by simp) ⟨g1, by rw [g2]; exact he, by rw [g2]; exact e1, by rw [g2]; exact e2⟩).mono ?_
    rintro e w' ⟨A, c', rfl, he', ⟨bo', hd⟩, hk'⟩
    obtain ⟨b, hA, _, _, hb1⟩ := Enr.at he' (i := 0) (p := (nm, xe.ep)) rfl
    subst hA
    exact ⟨_, s.gets2 hc hd hk', .inr ⟨b, c', rfl, by rw [← he]; exact hb1⟩⟩
  · refine (lca.look_no w.heap.size q2 h2 _ c C2 0 ep k wr s.lc (by rw [s.len2]; exact hn.1) (by rw [s.len2]; exact hn.2) (by rw [s.len2]) hc (by omega) (by omega) ?_).mono ?_
    · rcases hv : val c.L k with _ | xe
      · exact .inl (ldo.got_none hv)
      · exact .inr (by rw [(ldo.got_of hv).2]; exact fun e => hh ⟨xe, hv, e⟩)
    · rintro e w' ⟨rfl, ⟨bo', hd⟩, hk'⟩
      exact ⟨_, s.gets2 hc hd hk', .inl rfl⟩
theorem Wh.keep2 (s : Wh w n q1 h1 q2 h2 bM jm jl C1 x y C2 M Me K wr) (hn : 0 < n ∧ n ≤ 256) (hl : jl ≤ 100) (k : ByteArray) (hk : k.size ≤ 100) (ep : Int) (nm : ByteArray) (b : Nat) (he : Enr wr 0 (.slice (some ⟨b, 0, none⟩) 1 1) [(nm, ep)]) :
    Calls Try.prog 31 #[.pointer (some ⟨q2, 0, none⟩), .int .i64 ep, .string k, .slice (some ⟨b, 0, none⟩) 1 1] wr fun e w' => ∃ (C2' : List Cl) (g : Bool), e = .returned (.bool g) ∧ Wh w n q1 h1 q2 h2 bM jm (jl + 1) C1 x y C2' M Me K w' := by
  obtain ⟨c, hc⟩ := s.at2 hn.1 k
  have hll := s.lens2 _ c hc
  by_cases hh : ∃ xe, val c.L k = some xe ∧ ep < xe.ep
  · obtain ⟨xe, hv, hlt⟩ := hh
    obtain ⟨g1, g2⟩ := ldo.got_of hv
    refine (lca.keep_no w.heap.size q2 h2 _ c C2 0 ep k wr s.lc (by rw [s.len2]; exact hn.1) (by rw [s.len2]; exact hn.2) (by rw [s.len2]) hc (by omega) (by omega) _ ⟨g1, by rw [g2]; exact hlt⟩).mono ?_
    rintro e w' ⟨rfl, ⟨bo', hd⟩, hk'⟩
    exact ⟨_, false, rfl, (s.gets2 hc hd hk').more (Nat.le_refl _) (Nat.le_succ _)⟩
  · refine (lca.keep_yes w.heap.size q2 h2 _ c C2 0 ep k wr s.lc (by rw [s.len2]; exact hn.1) (by rw [s.len2]; exact hn.2) (by rw [s.len2]) hc (by omega) (by omega) s.below.size 0 (some ⟨b, 0, none⟩) 1 [(nm, ep)] (by simp) he ?_).mono ?_
    · rcases hv : val c.L k with _ | xe
      · exact .inl (ldo.got_none hv)
      · exact .inr (by rw [(ldo.got_of hv).2]; exact Int.not_lt.1 fun e => hh ⟨xe, hv, e⟩)
    · rintro e w' ⟨rfl, A, c', he', ⟨bo', hd⟩, hk'⟩
      exact ⟨_, true, rfl, s.puts2 hc hd hk' ⟨rfl, nm, he'.mono (Nat.zero_le _)⟩⟩
end
end Go.Proofs.Ythhcbmljckgncaa.who
