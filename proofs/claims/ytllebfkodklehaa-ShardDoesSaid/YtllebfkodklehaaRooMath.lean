/- One cache, wide shards and narrow shards of the same keys: what each has. No program's call, no condition. -/
import Derived.Test.YtllebfkodklehaaShaSpeak
namespace Go.Proofs.Ytllebfkodklehaa.roo
set_option maxRecDepth 100000
open Go.RowKit Go.Proofs.Ytllebfkodklehaa.words Go.Proofs.Ytllebfkodklehaa.lru Go.Proofs.Ytllebfkodklehaa.lrs Go.Proofs.Ytllebfkodklehaa.sha

abbrev Pr := ByteArray × Int
theorem val_of {L : List Pr} {k : ByteArray} {x : Int} (nd : (L.map (·.1)).Nodup) (h : (k, x) ∈ L) : val L k = some x := by
  obtain ⟨i, hi⟩ := List.mem_iff_getElem?.1 h
  exact val_at hi nd
/-- The pairs whose keys are in the shard i of n. -/
def part (n i : Nat) (L : List Pr) : List Pr := L.filter fun p => decide (ofF p.1 n = i)
theorem mem_part {n i : Nat} {L : List Pr} {p : Pr} : p ∈ part n i L ↔ p ∈ L ∧ ofF p.1 n = i := by simp [part]
theorem part_nd {n i : Nat} {L : List Pr} (nd : (L.map (·.1)).Nodup) : ((part n i L).map (·.1)).Nodup := List.Sublist.nodup (List.Sublist.map _ List.filter_sublist) nd
theorem part_rest (n i : Nat) (L : List Pr) (k : ByteArray) : part n i (rest L k) = rest (part n i L) k := by
  unfold part rest
  rw [List.filter_filter, List.filter_filter]
  congr 1
  funext p
  exact Bool.and_comm _ _
theorem part_far {n i : Nat} {L : List Pr} {k : ByteArray} (h : ofF k n ≠ i) : part n i (rest L k) = part n i L := by
  rw [part_rest]
  exact rest_none fun p hp he => h (by rw [← he]; exact (mem_part.1 hp).2)
theorem part_use_at (n : Nat) (L : List Pr) (k : ByteArray) (v : Int) : part n (ofF k n) ((k, v) :: rest L k) = (k, v) :: rest (part n (ofF k n) L) k := by
  rw [← part_rest]
  unfold part
  rw [List.filter_cons_of_pos (by simp)]
theorem part_use_far {n i : Nat} {L : List Pr} {k : ByteArray} (v : Int) (h : ofF k n ≠ i) : part n i ((k, v) :: rest L k) = part n i L := by
  have e := part_far (L := L) h
  unfold part at e ⊢
  rw [List.filter_cons_of_neg (by simpa using h)]
  exact e
theorem part_le (n i : Nat) (L : List Pr) : (part n i L).length ≤ L.length := List.length_filter_le _ _
/-- What is put where there is room. -/
theorem put_room {L : List Pr} {r : Nat} (k : ByteArray) (v : Int) (h : L.length < r) : putL L r k v = (k, v) :: rest L k ∧ goneB L r k = false := by
  have hg : goneB L r k = false := by have := rest_le L k; simp [goneB]; omega
  refine ⟨?_, hg⟩
  unfold putL
  rw [hg, if_neg (by simp)]
theorem get_is {L : List Pr} {k : ByteArray} {x : Int} (nd : (L.map (·.1)).Nodup) (h : (k, x) ∈ L) : getL L k = (k, x) :: rest L k := by
  unfold getL
  rw [val_of nd h]
theorem mem_use {L : List Pr} {k : ByteArray} {x : Int} (nd : (L.map (·.1)).Nodup) (h : (k, x) ∈ L) (p : Pr) : p ∈ (k, x) :: rest L k ↔ p ∈ L := by
  rw [List.mem_cons, mem_rest]
  constructor
  · rintro (rfl | ⟨hp, _⟩)
    · exact h
    · exact hp
  · intro hp
    by_cases e : p.1 = k
    · left
      obtain ⟨a, b⟩ := p
      have e' : a = k := e
      subst e'
      have := (val_of nd hp).symm.trans (val_of nd h)
      injection this with this
      rw [this]
    · exact .inr ⟨hp, e⟩
theorem mem_get {L : List Pr} {k : ByteArray} (nd : (L.map (·.1)).Nodup) (p : Pr) : p ∈ getL L k ↔ p ∈ L := by
  rcases hv : val L k with _ | x
  · unfold getL; rw [hv]
  · rw [get_is nd (val_mem hv)]
    exact mem_use nd (val_mem hv) p
theorem mem_put {L : List Pr} {r : Nat} {k : ByteArray} {v : Int} {p : Pr} (h : p ∈ putL L r k v) : p = (k, v) ∨ (p ∈ L ∧ p.1 ≠ k) := by
  have h2 : p ∈ (k, v) :: rest L k := by
    unfold putL at h
    split at h
    · exact (List.dropLast_sublist _).subset h
    · exact h
  rw [List.mem_cons, mem_rest] at h2
  exact h2
/-- All parts together. -/
def sumTo (m : Nat) (f : Nat → Nat) : Nat := match m with
  | 0 => 0
  | m + 1 => sumTo m f + f m
theorem sumTo_add (m : Nat) (f g : Nat → Nat) : sumTo m (fun i => f i + g i) = sumTo m f + sumTo m g := by
  induction m with
  | zero => rfl
  | succ m ih => simp only [sumTo, ih]; omega
theorem sumTo_zero (m : Nat) : sumTo m (fun _ => 0) = 0 := by
  induction m with
  | zero => rfl
  | succ m ih => simp only [sumTo, ih]
theorem sumTo_one (m j : Nat) : sumTo m (fun i => if j = i then 1 else 0) = if j < m then 1 else 0 := by
  induction m with
  | zero => simp [sumTo]
  | succ m ih =>
    simp only [sumTo, ih]
    by_cases h1 : j < m
    · rw [if_pos h1, if_neg (by omega), if_pos (by omega)]
    · by_cases h2 : j = m
      · rw [if_neg h1, if_pos h2, if_pos (by omega)]
      · rw [if_neg h1, if_neg h2, if_neg (by omega)]
theorem parts_all {n : Nat} (hn : 0 < n) (L : List Pr) : sumTo n (fun i => (part n i L).length) = L.length := by
  induction L with
  | nil => exact sumTo_zero n
  | cons p L ih =>
    have h : ∀ i, (part n i (p :: L)).length = (part n i L).length + (if ofF p.1 n = i then 1 else 0) := fun i => by
      unfold part
      rw [List.filter_cons]
      split <;> rename_i h
      · rw [if_pos (by simpa using h), List.length_cons]
      · rw [if_neg (by simpa using h), Nat.add_zero]
    have e : (fun i => (part n i (p :: L)).length) = fun i => (part n i L).length + (if ofF p.1 n = i then 1 else 0) := funext h
    rw [e, sumTo_add, ih, sumTo_one, if_pos (ofF_lt _ hn), List.length_cons]

/-- What the caches have: one, n wide shards, n narrow shards. -/
structure Rel (n r g0 : Nat) (gsW gsN : List Nat) (C : List Cc) (L : List Pr) : Prop where
  gs : gsOf C = g0 :: (gsW ++ gsN)
  lw : gsW.length = n
  ln : gsN.length = n
  one : ∀ c, C[0]? = some c → c.r = 300 ∧ c.L = L
  wide : ∀ i, i < n → ∀ c, C[1 + i]? = some c → c.r = 300 ∧ c.L = part n i L
  narrow : ∀ i, i < n → ∀ c, C[1 + n + i]? = some c → c.r = r ∧ ∀ p ∈ c.L, p ∈ L ∧ ofF p.1 n = i
theorem Rel.len {n r g0 : Nat} {gsW gsN : List Nat} {C : List Cc} {L : List Pr} (h : Rel n r g0 gsW gsN C L) : C.length = 1 + n + n := by
  have := congrArg List.length h.gs
  rw [gsOf, List.length_map, List.length_cons, List.length_append, h.lw, h.ln] at this
  omega
theorem gs_at {C : List Cc} {i : Nat} {c : Cc} (h : C[i]? = some c) : (gsOf C)[i]? = some c.g := by unfold gsOf; rw [List.getElem?_map, h]; rfl
theorem Rel.at0 {n r g0 : Nat} {gsW gsN : List Nat} {C : List Cc} {L : List Pr} (h : Rel n r g0 gsW gsN C L) : ∃ bo, C[0]? = some ⟨g0, bo, 300, L⟩ := by
  have hl := h.len
  obtain ⟨c, hc⟩ : ∃ c, C[0]? = some c := ⟨_, List.getElem?_eq_getElem (by omega)⟩
  obtain ⟨h1, h2⟩ := h.one c hc
  have hg := gs_at hc
  rw [h.gs, List.getElem?_cons_zero] at hg
  injection hg with hg
  obtain ⟨a, b, d, e⟩ := c
  cases h1; cases h2; cases hg
  exact ⟨b, hc⟩
theorem Rel.atW {n r g0 : Nat} {gsW gsN : List Nat} {C : List Cc} {L : List Pr} (h : Rel n r g0 gsW gsN C L) {i : Nat} (hi : i < n) : ∃ g bo, C[1 + i]? = some ⟨g, bo, 300, part n i L⟩ ∧ gsW[i]? = some g := by
  have hl := h.len
  obtain ⟨c, hc⟩ : ∃ c, C[1 + i]? = some c := ⟨_, List.getElem?_eq_getElem (by omega)⟩
  obtain ⟨h1, h2⟩ := h.wide i hi c hc
  have hg := gs_at hc
  rw [h.gs, Nat.add_comm, List.getElem?_cons_succ, List.getElem?_append_left (by rw [h.lw]; exact hi)] at hg
  obtain ⟨a, b, d, e⟩ := c
  cases h1; cases h2
  exact ⟨a, b, hc, hg⟩
theorem Rel.atN {n r g0 : Nat} {gsW gsN : List Nat} {C : List Cc} {L : List Pr} (h : Rel n r g0 gsW gsN C L) {i : Nat} (hi : i < n) : ∃ g bo N, C[1 + n + i]? = some ⟨g, bo, r, N⟩ ∧ gsN[i]? = some g ∧ ∀ p ∈ N, p ∈ L ∧ ofF p.1 n = i := by
  have hl := h.len
  obtain ⟨c, hc⟩ : ∃ c, C[1 + n + i]? = some c := ⟨_, List.getElem?_eq_getElem (by omega)⟩
  obtain ⟨h1, h2⟩ := h.narrow i hi c hc
  have hg := gs_at hc
  rw [h.gs, show 1 + n + i = n + i + 1 by omega, List.getElem?_cons_succ, List.getElem?_append_right (by rw [h.lw]; omega), h.lw, show n + i - n = i by omega] at hg
  obtain ⟨a, b, d, e⟩ := c
  cases h1
  exact ⟨a, b, e, hc, hg, h2⟩
theorem set_self {C : List Cc} {i : Nat} {c : Cc} (h : C[i]? = some c) (x : Cc) : (C.set i x)[i]? = some x := by
  rw [List.getElem?_set, if_pos rfl, if_pos (List.getElem?_eq_some_iff.1 h).1]
theorem set_far {C : List Cc} {i j : Nat} (h : i ≠ j) (x : Cc) : (C.set i x)[j]? = C[j]? := by rw [List.getElem?_set, if_neg h]
/-- The three of a key have turned. -/
theorem Rel.turn {n r g0 : Nat} {gsW gsN : List Nat} {C : List Cc} {L L' : List Pr} (h : Rel n r g0 gsW gsN C L) {i gw gn : Nat} {bo bw bn bo' bw' bn' : Option Nat} {N N' : List Pr} (hi : i < n)
    (h0 : C[0]? = some ⟨g0, bo, 300, L⟩) (hw : C[1 + i]? = some ⟨gw, bw, 300, part n i L⟩) (hn : C[1 + n + i]? = some ⟨gn, bn, r, N⟩)
    (hfar : ∀ j, j ≠ i → part n j L' = part n j L) (hmem : ∀ p, p ∈ L → ofF p.1 n ≠ i → p ∈ L') (hN : ∀ p ∈ N', p ∈ L' ∧ ofF p.1 n = i) :
    Rel n r g0 gsW gsN (((C.set 0 ⟨g0, bo', 300, L'⟩).set (1 + i) ⟨gw, bw', 300, part n i L'⟩).set (1 + n + i) ⟨gn, bn', r, N'⟩) L' := by
  have hw2 : (C.set 0 ⟨g0, bo', 300, L'⟩)[1 + i]? = some ⟨gw, bw, 300, part n i L⟩ := by rw [set_far (by omega)]; exact hw
  have hn2 : ((C.set 0 ⟨g0, bo', 300, L'⟩).set (1 + i) ⟨gw, bw', 300, part n i L'⟩)[1 + n + i]? = some ⟨gn, bn, r, N⟩ := by rw [set_far (by omega), set_far (by omega)]; exact hn
  refine ⟨?_, h.lw, h.ln, fun c hc => ?_, fun j hj c hc => ?_, fun j hj c hc => ?_⟩
  · rw [gs_set hn2, gs_set hw2, gs_set h0]
    exact h.gs
  · rw [set_far (by omega), set_far (by omega), set_self h0] at hc
    injection hc with hc
    subst hc
    exact ⟨rfl, rfl⟩
  · by_cases e : j = i
    · subst e
      rw [set_far (by omega), set_self hw2] at hc
      injection hc with hc
      subst hc
      exact ⟨rfl, rfl⟩
    · rw [set_far (by omega), set_far (by omega), set_far (by omega)] at hc
      rw [hfar j e]
      exact h.wide j hj c hc
  · by_cases e : j = i
    · subst e
      rw [set_self hn2] at hc
      injection hc with hc
      subst hc
      exact ⟨rfl, hN⟩
    · rw [set_far (by omega), set_far (by omega), set_far (by omega)] at hc
      obtain ⟨h1, h2⟩ := h.narrow j hj c hc
      exact ⟨h1, fun p hp => ⟨hmem p (h2 p hp).1 (by rw [(h2 p hp).2]; exact e), (h2 p hp).2⟩⟩
theorem Rel.start {n r g0 : Nat} {gsW gsN : List Nat} (hw : gsW.length = n) (hn : gsN.length = n) : Rel n r g0 gsW gsN ([⟨g0, none, 300, []⟩] ++ news gsW 300 ++ news gsN r) [] := by
  have hnw := news_len gsW 300
  have hnn := news_len gsN r
  refine ⟨?_, hw, hn, fun c hc => ?_, fun i hi c hc => ?_, fun i hi c hc => ?_⟩
  · have h1 := gs_news gsW 300
    have h2 := gs_news gsN r
    unfold gsOf at h1 h2 ⊢
    rw [List.map_append, List.map_append, h1, h2]
    rfl
  · have : c = ⟨g0, none, 300, []⟩ := by simpa using hc.symm
    subst this
    exact ⟨rfl, rfl⟩
  · obtain ⟨g, hg⟩ : ∃ g, gsW[i]? = some g := ⟨_, List.getElem?_eq_getElem (by omega)⟩
    rw [List.getElem?_append_left (by rw [List.length_append, hnw]; simp; omega), List.getElem?_append_right (by simp), show 1 + i - ([⟨g0, none, 300, []⟩] : List Cc).length = i by simp, news_at hg] at hc
    injection hc with hc
    subst hc
    exact ⟨rfl, rfl⟩
  · obtain ⟨g, hg⟩ : ∃ g, gsN[i]? = some g := ⟨_, List.getElem?_eq_getElem (by omega)⟩
    rw [List.getElem?_append_right (by rw [List.length_append, hnw]; simp; omega), List.length_append, hnw, show 1 + n + i - (([⟨g0, none, 300, []⟩] : List Cc).length + gsW.length) = i by simp; omega, news_at hg] at hc
    injection hc with hc
    subst hc
    exact ⟨rfl, fun p hp => by cases hp⟩
/-- A key is put in all three. -/
theorem Rel.put {n r g0 : Nat} {gsW gsN : List Nat} {C : List Cc} {L : List Pr} (h : Rel n r g0 gsW gsN C L) {k : ByteArray} {v : Int} {gw gn : Nat} {bo bw bn bo' bw' bn' : Option Nat} {N : List Pr} (hi : ofF k n < n) (hl : L.length < 300)
    (h0 : C[0]? = some ⟨g0, bo, 300, L⟩) (hw : C[1 + ofF k n]? = some ⟨gw, bw, 300, part n (ofF k n) L⟩) (hn : C[1 + n + ofF k n]? = some ⟨gn, bn, r, N⟩) (hN : ∀ p ∈ N, p ∈ L ∧ ofF p.1 n = ofF k n) :
    Rel n r g0 gsW gsN (((C.set 0 ⟨g0, bo', 300, putL L 300 k v⟩).set (1 + ofF k n) ⟨gw, bw', 300, putL (part n (ofF k n) L) 300 k v⟩).set (1 + n + ofF k n) ⟨gn, bn', r, putL N r k v⟩) (putL L 300 k v) := by
  have e1 := (put_room k v hl).1
  have e2 := (put_room (L := part n (ofF k n) L) (r := 300) k v (Nat.lt_of_le_of_lt (part_le _ _ _) hl)).1
  rw [e1, e2, ← part_use_at n L k v]
  refine h.turn hi h0 hw hn (fun j hj => part_use_far v (fun e => hj e.symm)) (fun p hp hpi => ?_) (fun p hp => ?_)
  · rw [List.mem_cons, mem_rest]
    exact .inr ⟨hp, fun e => hpi (by rw [e])⟩
  · rcases mem_put hp with rfl | ⟨hp, hpk⟩
    · exact ⟨List.mem_cons_self .., rfl⟩
    · exact ⟨by rw [List.mem_cons, mem_rest]; exact .inr ⟨(hN p hp).1, hpk⟩, (hN p hp).2⟩
/-- A key that is there is got from all three. -/
theorem Rel.get {n r g0 : Nat} {gsW gsN : List Nat} {C : List Cc} {L : List Pr} (h : Rel n r g0 gsW gsN C L) {k : ByteArray} {x : Int} {gw gn : Nat} {bo bw bn bo' bw' bn' : Option Nat} {N : List Pr} (hi : ofF k n < n) (nd : (L.map (·.1)).Nodup) (hx : (k, x) ∈ L)
    (h0 : C[0]? = some ⟨g0, bo, 300, L⟩) (hw : C[1 + ofF k n]? = some ⟨gw, bw, 300, part n (ofF k n) L⟩) (hn : C[1 + n + ofF k n]? = some ⟨gn, bn, r, N⟩) (hN : ∀ p ∈ N, p ∈ L ∧ ofF p.1 n = ofF k n) (ndN : (N.map (·.1)).Nodup) :
    Rel n r g0 gsW gsN (((C.set 0 ⟨g0, bo', 300, getL L k⟩).set (1 + ofF k n) ⟨gw, bw', 300, getL (part n (ofF k n) L) k⟩).set (1 + n + ofF k n) ⟨gn, bn', r, getL N k⟩) (getL L k) := by
  have e1 := get_is nd hx
  have e2 := get_is (part_nd (n := n) (i := ofF k n) nd) (mem_part.2 ⟨hx, rfl⟩)
  rw [e1, e2, ← part_use_at n L k x]
  refine h.turn hi h0 hw hn (fun j hj => part_use_far x (fun e => hj e.symm)) (fun p hp _ => (mem_use nd hx p).2 hp) (fun p hp => ?_)
  have hp' := (mem_get ndN p).1 hp
  exact ⟨(mem_use nd hx p).2 (hN p hp').1, (hN p hp').2⟩
theorem Fam.drop {w : World} {B : Nat} {C : List Cc} (h : Fam w B C) (m : Nat) : Fam w B (C.drop m) :=
  ⟨fun i c hc => h.lru (m + i) c (by rwa [List.getElem?_drop] at hc), fun i c hc => h.ok (m + i) c (by rwa [List.getElem?_drop] at hc), fun i j a b ha hb hij => h.apart (m + i) (m + j) a b (by rwa [List.getElem?_drop] at ha) (by rwa [List.getElem?_drop] at hb) (by omega)⟩
theorem Rel.gsN {n r g0 : Nat} {gsW gsN : List Nat} {C : List Cc} {L : List Pr} (h : Rel n r g0 gsW gsN C L) : gsOf (C.drop (1 + n)) = gsN := by
  have h1 : gsOf (C.drop (1 + n)) = (gsOf C).drop (1 + n) := by unfold gsOf; rw [List.map_drop]
  rw [h1, h.gs, Nat.add_comm, List.drop_succ_cons, ← h.lw, List.drop_left]
theorem most_le (l : List Nat) (r : Nat) (h : ∀ x ∈ l, x ≤ r) : mostF l ≤ r := by
  have hg : ∀ (l : List Nat) (a : Nat), a ≤ r → (∀ x ∈ l, x ≤ r) → l.foldl max a ≤ r := fun l => by
    induction l with
    | nil => exact fun a ha _ => ha
    | cons y l ih => exact fun a ha hx => ih (max a y) (Nat.max_le.2 ⟨ha, hx y (List.mem_cons_self ..)⟩) fun x hx' => hx x (List.mem_cons_of_mem _ hx')
  exact hg l 0 (Nat.zero_le _) h
theorem Rel.most {w : World} {B n r g0 : Nat} {gsW gsN : List Nat} {C : List Cc} {L : List Pr} (h : Rel n r g0 gsW gsN C L) (hf : Fam w B C) : mostF (nsOf (C.drop (1 + n))) ≤ r := by
  refine most_le _ _ fun x hx => ?_
  unfold nsOf at hx
  obtain ⟨c, hc, rfl⟩ := List.mem_map.1 hx
  obtain ⟨i, hi⟩ := List.mem_iff_getElem?.1 hc
  have hi' : C[1 + n + i]? = some c := by rwa [List.getElem?_drop] at hi
  have hlt : i < n := by have := (List.getElem?_eq_some_iff.1 hi').1; have := h.len; omega
  have hr := (h.narrow i hlt c hi').1
  rw [← hr]
  exact (hf.ok _ c hi').len
end Go.Proofs.Ytllebfkodklehaa.roo
