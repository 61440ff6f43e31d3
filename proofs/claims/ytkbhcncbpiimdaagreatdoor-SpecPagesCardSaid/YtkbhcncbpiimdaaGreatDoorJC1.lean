/- A cache as a list of keys with their values, that which was used last first: what is got, what is put, and what goes. No program, no condition. Blocks that may turn ('Tn'), and a copy of elements of several cells within a row. No program, no condition. A map whose keys are ints, said as a row of pairs ('MapL'; 'MapO': one that may be nil). No program's call, no condition. A block whose cells are all written, one behind the other ('setsV'). No program, no condition. A table of cursors in memory: a block of three cells and a map; New, Len, Room, Get of it. Condition: the table lies in memory. A table's Open, Move, Close. Condition: the table lies in memory. -/
import Derived.Test.YtkbhcncbpiimdaaGreatDoorJA
import Derived.Laws.CopyOwn
import Derived.Deep.RegionLaw
import Derived.Maps.OwnSet
import Derived.Defers
import Derived.Deep.LoopGhost
import Derived.Lib.Hide
import Derived.Lib.MinMax
import Derived.StillTailTactics
import Derived.IntWalk
import Derived.Deep.Cut
import Derived.KernelRfl
import Derived.WalkSpells
import Derived.WalkLawsBesides
import Derived.Outline
import Derived.LoopTactic
import Derived.BigRegion
import Derived.ChangeAlike
import Derived.BigQuiet
import Derived.Deep.QuietTactic
import Derived.Maps.RangeWalk
import Derived.Carry
import Derived.Test.YtkbhcncbpiimdaaGreatDoorChecked
namespace Go.Proofs.YtkbhcncbpiimdaaGreatDoor.lru
set_option maxRecDepth 100000

section
variable {κ ν : Type}
end
section
variable {κ ν : Type} [DecidableEq κ]
def rest (L : List (κ × ν)) (k : κ) : List (κ × ν) := L.filter fun p => !decide (p.1 = k)
def val (L : List (κ × ν)) (k : κ) : Option ν := (L.find? fun p => decide (p.1 = k)).map (·.2)
theorem there (L : List (κ × ν)) (k : κ) : (∃ (i : Nat) (x : ν), L[i]? = some (k, x)) ∨ ∀ p ∈ L, p.1 ≠ k := by
  by_cases h : ∃ p, p ∈ L ∧ p.1 = k
  · obtain ⟨⟨a, x⟩, hp, rfl⟩ := h
    obtain ⟨i, hi⟩ := List.mem_iff_getElem?.1 hp
    exact .inl ⟨i, x, hi⟩
  · exact .inr fun p hp he => h ⟨p, hp, he⟩
end
end Go.Proofs.YtkbhcncbpiimdaaGreatDoor.lru

namespace Go.Proofs.YtkbhcncbpiimdaaGreatDoor.lru
set_option maxRecDepth 100000
open Go.RowKit Go.Proofs.YtkbhcncbpiimdaaGreatDoor.words

structure Tn (S : Nat → Prop) (w w' : World) : Prop where
  os : w'.os = w.os
  tape : w'.tape = w.tape
  output : w'.output = w.output
  size : w.heap.size ≤ w'.heap.size
  block : ∀ k, k < w.heap.size → ¬ S k → w'.heap[k]? = w.heap[k]?
section
variable {S : Nat → Prop} {a w w' : World}
theorem Tn.refl (S : Nat → Prop) (w : World) : Tn S w w := ⟨rfl, rfl, rfl, Nat.le_refl _, fun _ _ _ => rfl⟩
theorem Tn.drew (h : Tn S a w) : Tn S a w.drew := ⟨h.os, h.tape, h.output, h.size, h.block⟩
theorem Tn.drewN (h : Tn S a w) (n : Nat) : Tn S a (w.drewN n) := ⟨h.os, h.tape, h.output, h.size, h.block⟩
theorem Tn.trans (h : Tn S a w) (h' : Tn S w w') : Tn S a w' :=
  ⟨h'.os.trans h.os, h'.tape.trans h.tape, h'.output.trans h.output, Nat.le_trans h.size h'.size, fun k hk hS => (h'.block k (Nat.lt_of_lt_of_le hk h.size) hS).trans (h.block k hk hS)⟩
theorem Tn.then {S' : Nat → Prop} (h : Tn S a w) (h' : Tn S' w w') (hS : ∀ k, k < a.heap.size → S' k → S k) : Tn S a w' :=
  ⟨h'.os.trans h.os, h'.tape.trans h.tape, h'.output.trans h.output, Nat.le_trans h.size h'.size, fun k hk hn => (h'.block k (Nat.lt_of_lt_of_le hk h.size) (fun hc => hn (hS k hk hc))).trans (h.block k hk hn)⟩
theorem Tn.mono {S' : Nat → Prop} (h : Tn S w w') (hS : ∀ k, S k → S' k) : Tn S' w w' :=
  ⟨h.os, h.tape, h.output, h.size, fun k hk hn => h.block k hk fun hc => hn (hS k hc)⟩
theorem Tn.alloc (h : Tn S a w) (o : Obj) : Tn S a (w.alloc o) :=
  ⟨h.os, h.tape, h.output, Nat.le_trans h.size (by simp), fun k hk hn => (Below.heap_alloc w o k (Nat.lt_of_lt_of_le hk h.size)).trans (h.block k hk hn)⟩
theorem Tn.setCell (h : Tn S a w) {p : Addr} (hp : a.heap.size ≤ p.block ∨ S p.block) (u : Value) : Tn S a (w.setCell p u) :=
  ⟨h.os, h.tape, h.output, by simpa [World.setCell] using h.size, fun k hk hn => (Below.heap_setCell w p u k (fun e => by subst e; rcases hp with hp | hp; omega; exact hn hp)).trans (h.block k hk hn)⟩
theorem Tn.grown {row : Option Nat} (h : Tn S a w) (hg : w.grownBy w' row) (hr : ∀ k, row = some k → a.heap.size ≤ k ∨ S k) : Tn S a w' :=
  ⟨hg.os.trans h.os, hg.tape.trans h.tape, hg.output.trans h.output, Nat.le_trans h.size hg.size, fun k hk hn =>
    (hg.block k (Nat.lt_of_lt_of_le hk h.size) (fun e => by rcases hr k e.symm with hp | hp; omega; exact hn hp)).trans (h.block k hk hn)⟩
theorem Tn.of_below (h : Below a.heap.size a w) (S : Nat → Prop) : Tn S a w := ⟨h.os, h.tape, h.output, h.size, fun k hk _ => h.block k hk⟩
theorem Tn.below {B : Nat} (h : Tn S a w) (hS : ∀ k, S k → B ≤ k) (hB : B ≤ a.heap.size) : Below B a w :=
  ⟨h.os, h.tape, h.output, h.size, fun k hk => h.block k (Nat.lt_of_lt_of_le hk hB) fun hc => by have := hS k hc; omega⟩
theorem Tn.kept {T : TypeId → Prop} {B : Nat} (h : Tn S a w) (hS : ∀ k, S k → B ≤ k ∧ ∃ cs t f, a.heap[k]? = some (.cells cs t f) ∧ T t) : Kept T B a w :=
  ⟨h.os, h.tape, h.output, h.size, fun k hk hc => h.block k hk fun hs => by
    obtain ⟨h1, cs, t, f, h2, h3⟩ := hS k hs
    rcases hc with hc | hc
    · omega
    · exact hc cs t f h2 h3⟩
theorem Tn.own {base : Nat} {e : TypeId} {size n : Nat} {v : Value} {xs : List Value} (h : Tn S a w) (hown : a.ownsRow base e size v n xs) (hn : ∀ k, v.ownBlock = some k → ¬ S k) : w.ownsRow base e size v n xs := by
  refine ⟨hown.1, ?_⟩
  rcases hown.2 with h0 | ⟨g, cap, cur, rfl, hb, hh, hr⟩
  · exact .inl h0
  · exact .inr ⟨g, cap, cur, rfl, hb, (h.block g (lt_of_some hh) (hn g rfl)).trans hh, hr⟩
end

section
variable {P : Program} (w : World)
end
/-! Rows of the call's own -/
theorem own_facts {w : World} {B : Nat} {E : TypeId} {size n : Nat} {v : Value} {xs : List Value} (h : w.ownsRow B E size v n xs) : ∃ A c, v = .slice A n c ∧ n ≤ c ∧ c ≤ maxLen ∧ (A = none → n = 0 ∧ c = 0) := by
  rcases h.2 with ⟨rfl, rfl⟩ | ⟨g, cap, cur, rfl, _, _, hle, hm, _⟩
  · exact ⟨none, 0, rfl, Nat.le_refl _, Nat.zero_le _, fun _ => ⟨rfl, rfl⟩⟩
  · exact ⟨_, cap, rfl, hle, hm, fun h => by cases h⟩
theorem own_cut {w : World} {base : Nat} {e : TypeId} {size n g cap : Nat} {xs : List Value} (h : w.ownsRow base e size (.slice (some ⟨g, 0, none⟩) n cap) n xs) (m : Nat) (hm : m ≤ n) :
    w.ownsRow base e size (.slice (some ⟨g, 0, none⟩) m cap) m (xs.take (m * size)) := by
  rcases h.2 with ⟨h0, _⟩ | ⟨g', cap', cur, hv, hb, hh, h1, h2, h3, h4⟩
  · injection h0 with h0
    cases h0
  · injection hv with e1 _ e3
    injection e1 with e1
    injection e1 with e1
    subst e1 e3
    have hle : m * size ≤ n * size := Nat.mul_le_mul_right _ hm
    refine ⟨by rw [List.length_take, h.1]; omega, .inr ⟨g, cap, cur, rfl, hb, hh, by omega, h2, h3, ?_⟩⟩
    rw [← h4, List.take_take]
    congr 1
    omega
theorem keep_grown {S : Nat} {a w w' : World} {v : Value} {base n sz : Nat} {e : TypeId} {xs : List Value} (h : Below S a w) (ho : w.ownsRow base e sz v n xs) (hg : w.grownBy w' v.ownBlock) (hB : S ≤ base) (hs : S ≤ a.heap.size) : Below S a w' :=
  h.trans ⟨hg.os, hg.tape, hg.output, hg.size, fun k hk => hg.block k (Nat.lt_of_lt_of_le (Nat.lt_of_lt_of_le hk hs) h.size) (fun e => by have := (ho.lt k e.symm).1; omega)⟩
theorem ownL {w w' : World} {B size n : Nat} {E : TypeId} {v : Value} {xs : List Value} (h : w.ownsRow B E size v n xs) (hb : Below w.heap.size w w') : w'.ownsRow B E size v n xs := by
  refine ⟨h.1, ?_⟩
  rcases h.2 with h0 | ⟨g, cap, cur, h1, h2, h3, h4⟩
  · exact .inl h0
  · exact .inr ⟨g, cap, cur, h1, h2, (hb.block g (lt_of_some h3)).trans h3, h4⟩
theorem add_place (b off j : Nat) : (⟨b, off, none⟩ : Addr).add j = ⟨b, off + j, none⟩ := by unfold Addr.add; split <;> simp_all
theorem new_cell (w : World) (cs : Array Value) (E : TypeId) (i : Nat) : (w.alloc (.cells cs E)).cell? ((⟨w.heap.size, 0, none⟩ : Addr).add i) = cs[i]? := by
  rw [add_place, Nat.zero_add]
  exact cell_of_blk (heap_alloc_new w _) i
theorem info_three {P : Program} {t : TypeId} {z : Option Value} {n b : Nat} (h : (P.info? t).map (fun i => (i.zero, i.size, i.bytes)) = some (z, n, b)) : ∃ i, P.info? t = some i ∧ i.zero = z ∧ i.size = n ∧ i.bytes = b := by
  rcases hi : P.info? t with _ | i
  · rw [hi] at h; cases h
  · rw [hi] at h
    injection h with h
    injection h with h1 h2
    injection h2 with h2 h3
    exact ⟨i, rfl, h1, h2, h3⟩
end Go.Proofs.YtkbhcncbpiimdaaGreatDoor.lru

namespace Go.Proofs.YtkbhcncbpiimdaaGreatDoor.mpi
set_option maxRecDepth 100000
open Go.RowKit Go.Maps Go.Proofs.YtkbhcncbpiimdaaGreatDoor.words Go.Proofs.YtkbhcncbpiimdaaGreatDoor.lru

abbrev Pr := Int × Value
def heldR (v : Value) : Option (DataW Value × List MemPlace) := some (.held v, [])
def orElse (o : Option Value) (z : DataW Value) : DataW Value := match o with
  | some v => .held v
  | none => z
def keyI (x : Int) : Lit := .int .i64 x
theorem keyI_ne {x y : Int} (h : x ≠ y) : keyI x ≠ keyI y := fun he => h (by injection he)
theorem keyI_is (x : Int) : WideAt.IsKeyLit (keyI x) := trivial
def Fits (x : Int) : Prop := (Lit.int .i64 x).wf = true
theorem fits_of {x : Int} (h1 : -9223372036854775808 ≤ x) (h2 : x ≤ 9223372036854775807) : Fits x := by
  unfold Fits
  simp [Lit.wf, IntKind.min, IntKind.max, IntKind.signed, IntKind.bits]
  omega

/-! Rows of pairs -/
def valP : List Pr → Int → Option Value
  | [], _ => none
  | (y, v) :: L, x => if x = y then some v else valP L x
def setL (L : List Pr) (x : Int) (v : Value) : List Pr := L.map fun p => if p.1 = x then (x, v) else p
def delL (L : List Pr) (x : Int) : List Pr := L.filter fun p => !(p.1 == x)
theorem valP_none {x : Int} : ∀ {L : List Pr}, valP L x = none ↔ ∀ p ∈ L, p.1 ≠ x
  | [] => by simp [valP]
  | (y, v) :: L => by
    unfold valP
    by_cases h : x = y
    · subst h; simp
    · rw [if_neg h, valP_none (L := L)]
      constructor
      · intro hL p hp
        rcases List.mem_cons.1 hp with rfl | hp
        · exact fun e => h e.symm
        · exact hL p hp
      · exact fun hL p hp => hL p (List.mem_cons_of_mem _ hp)
theorem valP_snoc (x : Int) (v : Value) (y : Int) : ∀ (L : List Pr), valP L x = none → valP (L ++ [(x, v)]) y = if y = x then some v else valP L y
  | [], _ => by simp [valP]
  | (z, u) :: L, h => by
    have hz : x ≠ z := fun e => by unfold valP at h; rw [if_pos e] at h; cases h
    have hL : valP L x = none := by unfold valP at h; rwa [if_neg hz] at h
    rw [List.cons_append]
    unfold valP
    rw [valP_snoc x v y L hL]
    by_cases e : y = z
    · subst e; rw [if_pos rfl, if_pos rfl, if_neg (fun e => hz e.symm)]
    · rw [if_neg e, if_neg e]
theorem valP_set (x : Int) (v : Value) (y : Int) : ∀ (L : List Pr), (valP L x).isSome = true → valP (setL L x v) y = if y = x then some v else valP L y
  | [], h => by simp [valP] at h
  | (z, u) :: L, h => by
    unfold setL
    rw [List.map_cons]
    by_cases hz : z = x
    · subst hz
      simp only [if_true, valP]
      by_cases e : y = z
      · rw [if_pos e, if_pos e]
      · rw [if_neg e, if_neg e, if_neg e]
        clear h
        induction L with
        | nil => rfl
        | cons p L ih =>
          obtain ⟨q, t⟩ := p
          rw [List.map_cons]
          by_cases hq : q = z
          · subst hq
            simp only [if_true, valP]
            rw [if_neg e, if_neg e, ih]
          · simp only [if_neg hq, valP]
            rw [ih]
    · have hL : (valP L x).isSome = true := by
        unfold valP at h
        rwa [if_neg (fun e => hz e.symm)] at h
      have ih := valP_set x v y L hL
      unfold setL at ih
      simp only [if_neg hz, valP, ih]
      by_cases e : y = z
      · subst e; rw [if_pos rfl, if_pos rfl, if_neg hz]
      · rw [if_neg e, if_neg e]
theorem valP_del (x y : Int) : ∀ (L : List Pr), valP (delL L x) y = if y = x then none else valP L y
  | [] => by simp [delL, valP]
  | (z, u) :: L => by
    have ih := valP_del x y L
    unfold delL at ih ⊢
    by_cases hz : z = x
    · subst hz
      rw [List.filter_cons_of_neg (by simp), ih]
      by_cases e : y = z
      · rw [if_pos e, if_pos e]
      · simp only [valP, if_neg e]
    · rw [List.filter_cons_of_pos (by simp [hz])]
      unfold valP
      rw [ih]
      by_cases e : y = z
      · subst e; rw [if_pos rfl, if_pos rfl, if_neg hz]
      · rw [if_neg e, if_neg e]
theorem set_len (L : List Pr) (x : Int) (v : Value) : (setL L x v).length = L.length := List.length_map ..
theorem set_keys (L : List Pr) (x : Int) (v : Value) : (setL L x v).map (·.1) = L.map (·.1) := by
  unfold setL
  rw [List.map_map]
  apply List.map_congr_left
  intro p _
  simp only [Function.comp]
  split
  · rename_i h; exact h.symm
  · rfl
theorem del_nodup {L : List Pr} (x : Int) (h : (L.map (·.1)).Nodup) : ((delL L x).map (·.1)).Nodup := by
  unfold delL
  exact (List.filter_sublist.map _).nodup h
theorem del_same {L : List Pr} {x : Int} (h : valP L x = none) : delL L x = L := by
  unfold delL
  rw [List.filter_eq_self]
  intro p hp
  simpa using valP_none.1 h p hp
theorem del_len {L : List Pr} {x : Int} (nd : (L.map (·.1)).Nodup) : (delL L x).length + (if (valP L x).isSome then 1 else 0) = L.length := by
  induction L with
  | nil => simp [delL, valP]
  | cons p L ih =>
    obtain ⟨z, u⟩ := p
    rw [List.map_cons, List.nodup_cons] at nd
    have ih := ih nd.2
    by_cases hz : x = z
    · subst hz
      have hn : valP L x = none := valP_none.2 fun p hp e => nd.1 (by rw [← e]; exact List.mem_map.2 ⟨_, hp, rfl⟩)
      have hd := del_same hn
      unfold delL at hd ⊢
      rw [List.filter_cons_of_neg (by simp), hd]
      simp [valP]
    · unfold delL at ih ⊢
      rw [List.filter_cons_of_pos (by simp; exact fun e => hz e.symm)]
      unfold valP
      rw [if_neg hz, List.length_cons, List.length_cons]
      omega
theorem snoc_nodup {L : List Pr} {x : Int} {v : Value} (nd : (L.map (·.1)).Nodup) (h : valP L x = none) : ((L ++ [(x, v)]).map (·.1)).Nodup := by
  rw [List.map_append, List.nodup_append]
  refine ⟨nd, by simp, fun a ha b hb => ?_⟩
  obtain ⟨p, hp, rfl⟩ := List.mem_map.1 ha
  have : b = x := by simpa using hb
  subst this
  exact valP_none.1 h p hp

/-! Maps in memory -/
def MapL (w : World) (P : Program) (k : TypeId) (b : Nat) (L : List Pr) : Prop :=
  ∃ D, w.ownsMap P k heldR b L.length D ∧ (∀ x z, D.atKey (keyI x) z = orElse (valP L x) z) ∧ Maps.size D = L.length ∧ (L.map (·.1)).Nodup
section
variable {P : Program} {k : TypeId} {w w' : World} {b : Nat} {L : List Pr}
theorem owns_less {n : Nat} {D : DataW Value} (h : w.ownsMap P k heldR b n D) {m : Nat} (hm : Maps.size D ≤ m) : w.ownsMap P k heldR b m D := by
  obtain ⟨es, clock, h1, h2, h3, rfl⟩ := h
  exact ⟨es, clock, h1, h2, by simpa [Maps.size, length_sorted] using hm, rfl⟩
theorem MapL.made (w : World) (P : Program) (k : TypeId) : MapL (w.alloc (.map #[] 0)) P k w.heap.size [] :=
  ⟨_, World.ownsMap_made w P k heldR, fun _ _ => rfl, rfl, List.nodup_nil⟩
theorem MapL.nd (h : MapL w P k b L) : (L.map (·.1)).Nodup := by
  obtain ⟨D, _, _, _, h⟩ := h
  exact h
theorem MapL.of_block (h : MapL w P k b L) (hb : w'.heap[b]? = w.heap[b]?) : MapL w' P k b L := by
  obtain ⟨D, ⟨es, clock, h1, h2⟩, hf⟩ := h
  exact ⟨D, ⟨es, clock, hb.trans h1, h2⟩, hf⟩
theorem MapL.lt (h : MapL w P k b L) : b < w.heap.size := by
  obtain ⟨D, ho, _⟩ := h
  exact ho.lt
theorem MapL.not (h : MapL w P k b L) (cs : Array Value) (t : TypeId) (q : Nat × Nat) : w.heap[b]? ≠ some (.cells cs t q) := fun hg => by
  obtain ⟨D, ⟨es, clock, h1, _⟩, _⟩ := h
  rw [h1] at hg
  cases hg
theorem MapL.look_ok {t e : TypeId} (h : MapL w P k b L) (hk : P.underlying k = some (.int .i64)) (ht : P.underlying t = some (.map k e)) {z : Value} (hz : (zeroValue e).run P w = .ok z w) {x : Int} (hx : Fits x) :
    (Instr.lookup t (.map (some b)) (.int .i64 x) true).run P w = .ok (.tuple #[(valP L x).getD z, .bool (valP L x).isSome]) w := by
  obtain ⟨D, ho, hf, _⟩ := h
  obtain ⟨v, ps, hr, hv⟩ := ho.look_ok (int_keyed hk) ht hz (zd := .held z) (zp := []) rfl (key := .int .i64 x) (kl := keyI x) (keyOf_int_mk hk hx)
  have h1 : DataW.held v = D.atKey (keyI x) (.held z) := congrArg Prod.fst (Option.some.inj hv)
  have hh : Maps.has D (keyI x) = (valP L x).isSome := by
    have h1 := hf x
    rcases hfs : valP L x with _ | u
    · exact has_false_of_atKey fun z => by rw [h1 z, hfs]; rfl
    · exact has_true_of_atKey (y := .held u) fun z => by rw [h1 z, hfs]; rfl
  rw [hr, hh]
  rw [hf] at h1
  rcases hL : valP L x with _ | u
  · rw [hL] at h1; rw [DataW.held.inj h1]; rfl
  · rw [hL] at h1; rw [DataW.held.inj h1]; rfl
theorem MapL.len {t e : TypeId} (h : MapL w P k b L) (ht : P.underlying t = some (.map k e)) (ty : TypeId) : (Builtin.len_ #[t] ty #[.map (some b)]).run P w = .ok (.int .i64 (L.length : Int)) w := by
  obtain ⟨D, ho, _, hs, _⟩ := h
  rw [ho.len ht ty, hs]
theorem MapL.has {D : DataW Value} (hf : ∀ x z, D.atKey (keyI x) z = orElse (valP L x) z) (x : Int) : Maps.has D (keyI x) = (valP L x).isSome := by
  have h1 := hf x
  rcases hfs : valP L x with _ | u
  · exact has_false_of_atKey fun z => by rw [h1 z, hfs]; rfl
  · exact has_true_of_atKey (y := .held u) fun z => by rw [h1 z, hfs]; rfl
theorem tn_turned (h : w.mapTurned w' b) : Tn (fun j => j = b) w w' := by
  have hg := h.grown
  exact ⟨hg.os, hg.tape, hg.output, hg.size, fun j hj hn => hg.block j hj fun e => hn (by injection e)⟩
theorem MapL.drop {t e : TypeId} (h : MapL w P k b L) (hk : P.underlying k = some (.int .i64)) (ht : P.underlying t = some (.map k e)) {x : Int} (hx : Fits x) (ty : TypeId) :
    ∃ w', (Builtin.delete_ #[t, k] ty #[.map (some b), .int .i64 x]).run P w = .ok (.tuple #[]) w' ∧ MapL w' P k b (delL L x) ∧ Tn (fun j => j = b) w w' := by
  obtain ⟨D, ho, hf, hs, nd⟩ := h
  obtain ⟨w', hr, h1, h2⟩ := ho.drop (int_keyed hk) ht (key := .int .i64 x) (kl := keyI x) (keyOf_int_mk hk hx) ty
  have hz : Maps.size (D.del (keyI x)) = (delL L x).length := by
    have e1 := Maps.size_del (k := keyI x) (ho.tidy (int_keyed hk))
    rw [MapL.has hf x, hs] at e1
    have e2 := del_len (x := x) nd
    omega
  refine ⟨w', hr, ⟨_, owns_less h1 (Nat.le_of_eq hz), fun y z => ?_, hz, del_nodup x nd⟩, tn_turned h2⟩
  rw [valP_del]
  by_cases e : y = x
  · subst e
    rw [atKey_del_same, if_pos rfl]
    rfl
  · rw [atKey_del_other (keyI_ne e), if_neg e, hf]
theorem MapL.put_fn {D : DataW Value} (hD : IsMap D) (hf : ∀ x z, D.atKey (keyI x) z = orElse (valP L x) z) (x : Int) (v : Value) (y : Int) (z : DataW Value) : (D.put (keyI x) (.held v)).atKey (keyI y) z = orElse (if y = x then some v else valP L y) z := by
  by_cases h : y = x
  · subst h
    rw [if_pos rfl, atKey_put_same hD (keyI_is y)]
    rfl
  · rw [if_neg h, atKey_put_other (keyI_ne h), hf]
theorem MapL.store_new {t e : TypeId} (h : MapL w P k b L) (hk : P.underlying k = some (.int .i64)) (ht : P.underlying t = some (.map k e)) {x : Int} (hx : Fits x) (v : Value) (hn : L.length < maxLen) (hno : valP L x = none) :
    ∃ w', (Instr.mapUpdate t (.map (some b)) (.int .i64 x) v).run P w = .ok () w' ∧ MapL w' P k b (L ++ [(x, v)]) ∧ Tn (fun j => j = b) w w' := by
  obtain ⟨D, ho, hf, hs, nd⟩ := h
  obtain ⟨w', hr, h1, h2⟩ := ho.store (int_keyed hk) ht hn (key := .int .i64 x) (val := v) (kl := keyI x) (d := .held v) (ps := []) (keyOf_int_mk hk hx) rfl
  have hz : Maps.size (D.put (keyI x) (.held v)) = (L ++ [(x, v)]).length := by
    rw [Maps.size_put (ho.tidy (int_keyed hk)), MapL.has hf x, hno, hs, List.length_append]
    rfl
  refine ⟨w', hr, ⟨_, owns_less h1 (Nat.le_of_eq hz), fun y z => ?_, hz, snoc_nodup nd hno⟩, tn_turned h2⟩
  rw [MapL.put_fn ho.isMap hf, valP_snoc x v y L hno]
theorem MapL.store_old {t e : TypeId} (h : MapL w P k b L) (hk : P.underlying k = some (.int .i64)) (ht : P.underlying t = some (.map k e)) {x : Int} (hx : Fits x) (v : Value) (hn : L.length < maxLen) (hy : (valP L x).isSome = true) :
    ∃ w', (Instr.mapUpdate t (.map (some b)) (.int .i64 x) v).run P w = .ok () w' ∧ MapL w' P k b (setL L x v) ∧ Tn (fun j => j = b) w w' := by
  obtain ⟨D, ho, hf, hs, nd⟩ := h
  obtain ⟨w', hr, h1, h2⟩ := ho.store (int_keyed hk) ht hn (key := .int .i64 x) (val := v) (kl := keyI x) (d := .held v) (ps := []) (keyOf_int_mk hk hx) rfl
  have hz : Maps.size (D.put (keyI x) (.held v)) = (setL L x v).length := by
    rw [Maps.size_put (ho.tidy (int_keyed hk)), MapL.has hf x, hy, hs, set_len]
    rfl
  refine ⟨w', hr, ⟨_, owns_less h1 (Nat.le_of_eq hz), fun y z => ?_, hz, ?_⟩, tn_turned h2⟩
  · rw [MapL.put_fn ho.isMap hf, valP_set x v y L hy]
  · rw [set_keys]; exact nd
end

def At (v : Value) (j : Nat) : Prop := v = .map (some j)
section
variable {P : Program} {k : TypeId} {w w' : World} {B : Nat} {v : Value} {L : List Pr}
end
section
variable {P : Program} {w : World} {ops : Array Oper} {rest : List Oper} {o : Oper} {a : Act} {Q : Exit → Act → World → Prop}
theorem wpList_new (hg : o.guard = none) (m x u : Operand) (t : TypeId) (hop : o.op = Op.mapUpdate t m x u) (k e : TypeId) (hk : P.underlying k = some (.int .i64)) (ht : P.underlying t = some (.map k e)) (b : Nat) (L : List Pr)
    (hm : a.eval m = .map (some b)) (h : MapL w P k b L) (hn : L.length < maxLen) (key : Int) (v : Value) (hx : a.eval x = .int .i64 key) (hu : a.eval u = v) (hf : Fits key) (hno : valP L key = none)
    (hK : ∀ w', MapL w' P k b (L ++ [(key, v)]) → Tn (fun j => j = b) w w' → wpList P ops Q rest (a.put o.dst undef) w') :
    wpList P ops Q (o :: rest) a w := by
  refine wpList_plain hg fun K' hK' => ?_
  obtain ⟨w', hrun, r1, r2⟩ := h.store_new hk ht hf v hn hno
  unfold Oper.wp
  simp [execOp, hop, hm, hx, hu, hrun, Result.andThen]
  exact hK' _ _ (hK w' r1 r2)
theorem wpList_old (hg : o.guard = none) (m x u : Operand) (t : TypeId) (hop : o.op = Op.mapUpdate t m x u) (k e : TypeId) (hk : P.underlying k = some (.int .i64)) (ht : P.underlying t = some (.map k e)) (b : Nat) (L : List Pr)
    (hm : a.eval m = .map (some b)) (h : MapL w P k b L) (hn : L.length < maxLen) (key : Int) (v : Value) (hx : a.eval x = .int .i64 key) (hu : a.eval u = v) (hf : Fits key) (hy : (valP L key).isSome = true)
    (hK : ∀ w', MapL w' P k b (setL L key v) → Tn (fun j => j = b) w w' → wpList P ops Q rest (a.put o.dst undef) w') :
    wpList P ops Q (o :: rest) a w := by
  refine wpList_plain hg fun K' hK' => ?_
  obtain ⟨w', hrun, r1, r2⟩ := h.store_old hk ht hf v hn hy
  unfold Oper.wp
  simp [execOp, hop, hm, hx, hu, hrun, Result.andThen]
  exact hK' _ _ (hK w' r1 r2)
end
end Go.Proofs.YtkbhcncbpiimdaaGreatDoor.mpi

namespace Go.Proofs.YtkbhcncbpiimdaaGreatDoor.lru
set_option maxRecDepth 100000
open Go.RowKit Go.Proofs.YtkbhcncbpiimdaaGreatDoor.words

def setsV (w : World) (b : Nat) : Nat → List Value → World
  | _, [] => w
  | o, v :: vs => setsV (w.setCell ⟨b, o, none⟩ v) b (o + 1) vs
theorem setsV_tn (b : Nat) {S : Nat → Prop} {a : World} (hb : a.heap.size ≤ b ∨ S b) : ∀ (vs : List Value) (o : Nat) (w : World), Tn S a w → Tn S a (setsV w b o vs)
  | [], _, _, h => h
  | v :: vs, o, _, h => setsV_tn b hb vs (o + 1) _ (h.setCell (p := ⟨b, o, none⟩) hb v)
theorem setsV_blk {t : TypeId} (b : Nat) : ∀ (vs : List Value) (o : Nat) (w : World) (cur : List Value), w.heap[b]? = some (.cells cur.toArray t (0, 0)) → o + vs.length ≤ cur.length →
    (setsV w b o vs).heap[b]? = some (.cells (cur.take o ++ vs ++ cur.drop (o + vs.length)).toArray t (0, 0))
  | [], o, w, cur, h, _ => by simpa [setsV] using h
  | v :: vs, o, w, cur, h, hl => by
    have hs : (w.setCell ⟨b, o, none⟩ v).heap[b]? = some (.cells (cur.set o v).toArray t (0, 0)) := by
      have := heap_setCell_same w b o cur.toArray t v h
      rw [this]
      simp
    have := setsV_blk b vs (o + 1) _ _ hs (by rw [List.length_set]; simp at hl; omega)
    unfold setsV
    rw [this]
    congr 3
    have ho : o < cur.length := by simp at hl; omega
    apply List.ext_getElem?
    intro j
    rw [List.drop_set_of_lt (by omega), List.take_set, List.length_cons]
    have e1 : (cur.take (o + 1)).set o v = cur.take o ++ [v] := by
      rw [List.take_succ_eq_append_getElem ho, List.set_append_right _ _ (by simp [Nat.min_eq_left (Nat.le_of_lt ho)])]
      simp [Nat.min_eq_left (Nat.le_of_lt ho)]
    rw [e1, show o + 1 + vs.length = o + (vs.length + 1) by omega]
    simp
theorem setsV_all {t : TypeId} {b : Nat} {vs : List Value} {w : World} {cur : Array Value} (h : w.heap[b]? = some (.cells cur t (0, 0))) (hl : vs.length = cur.size) : (setsV w b 0 vs).heap[b]? = some (.cells vs.toArray t (0, 0)) := by
  have := setsV_blk (t := t) b vs 0 w cur.toList (by simpa using h) (by simp; omega)
  rw [this]
  congr 2
  simp [hl]
end Go.Proofs.YtkbhcncbpiimdaaGreatDoor.lru

namespace Go.Proofs.YtkbhcncbpiimdaaGreatDoor.cur
set_option maxRecDepth 100000
open Go.RowKit Go.Proofs.YtkbhcncbpiimdaaGreatDoor.words Go.Proofs.YtkbhcncbpiimdaaGreatDoor.lru Go.Proofs.YtkbhcncbpiimdaaGreatDoor.mpi

structure Cu where
  ep : Int
  dr : ByteArray
  at_ : Int
def c0 : Cu := ⟨0, ⟨#[]⟩, 0⟩
def curV (c : Cu) : Value := .agg #[.int .i64 c.ep, .string c.dr, .int .i64 c.at_]
abbrev Cs := List (Int × Cu)
def cR (L : Cs) : List Pr := L.map fun p => (p.1, curV p.2)
def valC : Cs → Int → Option Cu
  | [], _ => none
  | (y, c) :: L, x => if x = y then some c else valC L x
theorem cR_len (L : Cs) : (cR L).length = L.length := List.length_map ..
theorem cR_val (x : Int) : ∀ L : Cs, valP (cR L) x = (valC L x).map curV
  | [] => rfl
  | (y, c) :: L => by
    have ih := cR_val x L
    unfold cR at ih ⊢
    rw [List.map_cons]
    unfold valP valC
    rw [ih]
    split <;> rfl
theorem cR_keys (L : Cs) : (cR L).map (·.1) = L.map (·.1) := by unfold cR; rw [List.map_map]; rfl
theorem cR_snoc (L : Cs) (x : Int) (c : Cu) : cR (L ++ [(x, c)]) = cR L ++ [(x, curV c)] := by unfold cR; rw [List.map_append]; rfl
def setC (L : Cs) (x : Int) (c : Cu) : Cs := L.map fun p => if p.1 = x then (x, c) else p
theorem cR_set (L : Cs) (x : Int) (c : Cu) : cR (setC L x c) = setL (cR L) x (curV c) := by
  unfold cR setC setL
  rw [List.map_map, List.map_map]
  apply List.map_congr_left
  intro p _
  simp only [Function.comp]
  split <;> rfl
def Tb (w : World) (B t m : Nat) (r n : Int) (L : Cs) : Prop :=
  B ≤ t ∧ B ≤ m ∧ w.heap[t]? = some (.cells #[.int .i64 r, .int .i64 n, .map (some m)] 136 (0, 0)) ∧ MapL w Tryz.prog 3 m (cR L)
def Bk (t m : Nat) (j : Nat) : Prop := j = t ∨ j = m
section
variable {S : Nat → Prop} {w w' : World} {B t m : Nat} {r n : Int} {L : Cs}
theorem Tb.tn (h : Tb w B t m r n L) (ht : Tn S w w') (hS : ∀ j, Bk t m j → ¬ S j) : Tb w' B t m r n L := by
  obtain ⟨h1, h2, h3, h4⟩ := h
  exact ⟨h1, h2, (ht.block t (lt_of_some h3) (hS t (.inl rfl))).trans h3, h4.of_block (ht.block m h4.lt (hS m (.inr rfl)))⟩
theorem Tb.quiet (h : Tb w B t m r n L) (ht : Tn (fun _ => False) w w') : Tb w' B t m r n L := h.tn ht fun _ _ hc => hc
theorem Tb.later (h : Tb w B t m r n L) (hb : Below w.heap.size w w') : Tb w' B t m r n L := h.quiet (Tn.of_below hb _)
theorem Tb.ne (h : Tb w B t m r n L) : t ≠ m := fun e => by
  subst e
  exact h.2.2.2.not _ _ _ h.2.2.1
theorem Tb.lt (h : Tb w B t m r n L) (j : Nat) (hj : Bk t m j) : B ≤ j ∧ j < w.heap.size := by
  rcases hj with rfl | rfl
  · exact ⟨h.1, lt_of_some h.2.2.1⟩
  · exact ⟨h.2.1, h.2.2.2.lt⟩
theorem Tb.nd (h : Tb w B t m r n L) : (L.map (·.1)).Nodup := by
  have := h.2.2.2.nd
  rwa [cR_keys] at this
theorem Tb.type (h : Tb w B t m r n L) {j : Nat} (hj : Bk t m j) {cs : Array Value} {ty : TypeId} {f : Nat × Nat} (hc : w.heap[j]? = some (.cells cs ty f)) : ty = 136 := by
  rcases hj with rfl | rfl
  · rw [h.2.2.1] at hc
    injection hc with hc
    injection hc with _ hc
    exact hc.symm
  · exact absurd hc (h.2.2.2.not _ _ _)
end
structure Kept (w : World) (B t m : Nat) (r n : Int) (L : Cs) (w' : World) : Prop where
  tb : Tb w' B t m r n L
  tn : Tn (Bk t m) w w'
theorem Kept.below {w w' : World} {B t m : Nat} {r n n0 : Int} {L L0 : Cs} (h : Kept w B t m r n L w') (h0 : Tb w B t m r n0 L0) (hB : B ≤ w.heap.size) : Below B w w' := h.tn.below (fun k hk => (h0.lt k hk).1) hB

theorem zeroCur (w : World) : (zeroValue 91).run Tryz.prog w = .ok (curV c0) w := by kernel_rfl
def MadeC (w : World) (r : Int) (e : Ending) (w' : World) : Prop := ∃ t m, e = .returned (.pointer (some ⟨t, 0, none⟩)) ∧ Tb w' w.heap.size t m r 0 [] ∧ Below w.heap.size w w'
theorem new_any (room r : Int) (w : World) (hr : r = min (max room 1) 1024) :
    Calls Tryz.prog 57 #[.int .i64 room] w (MadeC w r) := by
  obtain ⟨m1, hm1⟩ : ∃ m1, max room 1 = m1 := ⟨_, rfl⟩
  rw [hm1] at hr
  have hm2 : min m1 1024 = r := hr.symm
  have hmm := @run_makeMap Tryz.prog
  obtain ⟨W1, hW1⟩ : ∃ W1, W1 = w.alloc (.map #[] 0) := ⟨_, rfl⟩
  obtain ⟨W2, hW2⟩ : ∃ W2, W2 = W1.alloc (.cells #[.int .i64 r, .int .i64 0, .map (some w.heap.size)] 136) := ⟨_, rfl⟩
  have hb1 : Below w.heap.size w W1 := by rw [hW1]; exact (Below.refl _ _).alloc (Nat.le_refl _) _
  have hz : W1.heap.size = w.heap.size + 1 := by rw [hW1]; simp
  have hb2 : Below W1.heap.size W1 W2 := by rw [hW2]; exact (Below.refl _ _).alloc (Nat.le_refl _) _
  have hm : MapL W1 Tryz.prog 3 w.heap.size (cR []) := by rw [hW1]; exact MapL.made w Tryz.prog 3
  have HE : Hid (MadeC w r (.returned (.pointer (some ⟨w.heap.size + 1, 0, none⟩))) W2) := Lib.hid ⟨_, w.heap.size, rfl, ⟨Nat.le_succ _, Nat.le_refl _, by rw [← hz, hW2]; exact heap_alloc_new W1 _, hm.of_block (hb2.block _ hm.lt)⟩, hb1.trans (hb2.mono hb1.size)⟩
  clear hr hb1 hz hb2 hm
  go_enter Tryz.func57, Tryz.ntmps57
  go_wp2
  rw [← hW1, ← hW2]
  clear hW1 hW2
  go_ret
  exact HE.out
section
variable (B t m : Nat) (r n : Int) (L : Cs) (x : Int) (w : World)
theorem clen_any (h : Tb w B t m r n L) :
    Calls Tryz.prog 31 #[.pointer (some ⟨t, 0, none⟩)] w fun e w' => e = .returned (.int .i64 (L.length : Int)) ∧ w = w' := by
  have d2 := cell_of_blk h.2.2.1 2
  have hl := fun ty => h.2.2.2.len Tryz.underlying134 ty
  rw [cR_len] at hl
  clear h
  go_enter Tryz.func31, Tryz.ntmps31
  go_wp2
  go_ret
  exact ⟨rfl, rfl⟩
def gotC (L : Cs) (x : Int) : Cu := (valC L x).getD c0
def gotE (L : Cs) (x : Int) : Int := if (valC L x).isSome then 0 else 9
def GotC (w : World) (c : Cu) (k : Int) (e : Ending) (w' : World) : Prop := e = .returned (.tuple #[.agg #[.int .i64 c.ep, .string c.dr, .int .i64 c.at_], .int .i64 k]) ∧ Below w.heap.size w w'
theorem get_ends {w w1 w9 : World} {q : Nat} {c : Cu} {cs : Array Value} (hb : Below w.heap.size w w1) (hq : w.heap.size ≤ q) (hz : w1.heap[q]? = some (.cells cs 91 (0, 0))) (hc : cs.size = 3)
    (h9 : w9 = ((w1.setCell ⟨q, 0, none⟩ (.int .i64 c.ep)).setCell ⟨q, 1, none⟩ (.string c.dr)).setCell ⟨q, 2, none⟩ (.int .i64 c.at_)) : w9.heap[q]? = some (.cells #[.int .i64 c.ep, .string c.dr, .int .i64 c.at_] 91 (0, 0)) ∧ Below w.heap.size w w9 := by
  have e : w9 = setsV w1 q 0 [.int .i64 c.ep, .string c.dr, .int .i64 c.at_] := h9
  constructor
  · rw [e]
    exact setsV_all hz hc.symm
  · rw [e]
    exact ((Tn.of_below hb (fun k => k = q)).trans (setsV_tn (S := fun k => k = q) _ (.inr rfl) _ _ _ (Tn.refl _ _))).below (fun k hk => by omega) (Nat.le_refl _)
set_option maxHeartbeats 800000 in
theorem get_any (h : Tb w B t m r n L) (hx : Fits x) :
    Calls Tryz.prog 72 #[.pointer (some ⟨t, 0, none⟩), .int .i64 x] w (GotC w (gotC L x) (gotE L x)) := by
  obtain ⟨W1, hW1⟩ : ∃ W1, W1 = w.alloc (.cells #[.int .i64 0, .string ⟨#[]⟩, .int .i64 0] 91) := ⟨_, rfl⟩
  have hb1 : Below w.heap.size w W1 := by rw [hW1]; exact (Below.refl _ _).alloc (Nat.le_refl _) _
  have hk1 : W1.heap[w.heap.size]? = some (.cells #[.int .i64 0, .string ⟨#[]⟩, .int .i64 0] 91 (0, 0)) := by rw [hW1]; exact heap_alloc_new w _
  have hT1 := h.later hb1
  have d2 := cell_of_blk hT1.2.2.1 2
  obtain ⟨c, hc⟩ : ∃ c, c = gotC L x := ⟨_, rfl⟩
  obtain ⟨k, hk⟩ : ∃ k, k = gotE L x := ⟨_, rfl⟩
  rw [← hc, ← hk]
  obtain ⟨ep, dr, at_⟩ := c
  obtain ⟨W2, hW2⟩ : ∃ W2, W2 = W1.alloc (.cells #[.int .i64 ep, .string dr, .int .i64 at_] 91) := ⟨_, rfl⟩
  have hb2 : Below W1.heap.size W1 W2 := by rw [hW2]; exact (Below.refl _ _).alloc (Nat.le_refl _) _
  have hk2 : W2.heap[W1.heap.size]? = some (.cells #[.int .i64 ep, .string dr, .int .i64 at_] 91 (0, 0)) := by rw [hW2]; exact heap_alloc_new W1 _
  have hk12 := (hb2.block _ (lt_of_some hk1)).trans hk1
  have s0 := cell_of_blk hk2 0
  have s1 := cell_of_blk hk2 1
  have s2 := cell_of_blk hk2 2
  have z0 := cell_of_blk hk12 0
  have z1 := cell_of_blk hk12 1
  have z2 := cell_of_blk hk12 2
  have fz0 := free_of_blk hk12 0
  have fz1 := free_of_blk hk12 1
  have fz2 := free_of_blk hk12 2
  have hlk := hT1.2.2.2.look_ok Tryz.underlying3 Tryz.underlying134 (zeroCur W1) hx
  rw [cR_val] at hlk
  obtain ⟨W9, hW9⟩ : ∃ W9, W9 = ((W2.setCell ⟨w.heap.size, 0, none⟩ (.int .i64 ep)).setCell ⟨w.heap.size, 1, none⟩ (.string dr)).setCell ⟨w.heap.size, 2, none⟩ (.int .i64 at_) := ⟨_, rfl⟩
  obtain ⟨k1, k2⟩ := get_ends (c := ⟨ep, dr, at_⟩) (hb1.trans (hb2.mono hb1.size)) (Nat.le_refl _) hk12 rfl hW9
  have y0 := cell_of_blk k1 0
  have y1 := cell_of_blk k1 1
  have y2 := cell_of_blk k1 2
  have HE : Hid (GotC w ⟨ep, dr, at_⟩ k (.returned (.tuple #[.agg #[.int .i64 ep, .string dr, .int .i64 at_], .int .i64 k])) W9) := Lib.hid ⟨rfl, k2⟩
  have HW1 := Lib.hid hW1
  have HW2 := Lib.hid hW2
  obtain ⟨q, hq⟩ : ∃ q, q = W1.heap.size := ⟨_, rfl⟩
  rw [← hq] at s0 s1 s2
  have HQ : Hid (W1.heap.size = q) := Lib.hid hq.symm
  have HQ2 : Hid (w.heap.size + 1 = q) := Lib.hid (by rw [hq, hW1]; simp)
  rcases hv : valC L x with _ | c
  · have ek : k = 9 := by rw [hk]; unfold gotE; rw [hv]; rfl
    have ec : (⟨ep, dr, at_⟩ : Cu) = c0 := by rw [hc]; unfold gotC; rw [hv]; rfl
    rw [hv] at hlk
    injection ec with e1 e2 e3
    subst e1 e2 e3 ek
    replace hlk : (Instr.lookup 134 (.map (some m)) (.int .i64 x) true).run Tryz.prog W1 = .ok (.tuple #[.agg #[.int .i64 0, .string ⟨#[]⟩, .int .i64 0], .bool false]) W1 := hlk
    clear h hb1 hk1 hT1 hb2 hk2 hk12 hx hc hk hv k1 k2 hW1 hW2 hq
    go_enter Tryz.func72, Tryz.ntmps72
    go_upto_region 1 with fail
    rw [← HW1.out]
    go_upto_region 2 with fail
    rw [← HW2.out]
    clear d2 hlk
    go_wp2
    rw [← hW9]
    exact bodyPost_ret (v := .tuple #[.agg #[.int .i64 0, .string ⟨#[]⟩, .int .i64 0], .int .i64 9]) (by simp [results, Tryz.results72, go_sem, y0, y1, y2]) rfl HE.out
  · have ek : k = 0 := by rw [hk]; unfold gotE; rw [hv]; rfl
    have ec : (⟨ep, dr, at_⟩ : Cu) = c := by rw [hc]; unfold gotC; rw [hv]; rfl
    rw [hv] at hlk
    subst ec ek
    replace hlk : (Instr.lookup 134 (.map (some m)) (.int .i64 x) true).run Tryz.prog W1 = .ok (.tuple #[.agg #[.int .i64 ep, .string dr, .int .i64 at_], .bool true]) W1 := hlk
    clear h hb1 hk1 hT1 hb2 hk2 hk12 hx hc hk hv k1 k2 hW1 hW2 hq
    go_enter Tryz.func72, Tryz.ntmps72
    go_upto_region 1 with fail
    rw [← HW1.out]
    go_upto_region 2 with fail
    rw [← HW2.out]
    try rw [HQ.out]
    try rw [HQ2.out]
    clear d2 hlk
    go_wp2
    rw [← hW9]
    exact bodyPost_ret (v := .tuple #[.agg #[.int .i64 ep, .string dr, .int .i64 at_], .int .i64 0]) (by simp [results, Tryz.results72, go_sem, y0, y1, y2]) rfl HE.out
end
end Go.Proofs.YtkbhcncbpiimdaaGreatDoor.cur

namespace Go.Proofs.YtkbhcncbpiimdaaGreatDoor.cur
set_option maxRecDepth 100000
open Go.RowKit Go.Proofs.YtkbhcncbpiimdaaGreatDoor.words Go.Proofs.YtkbhcncbpiimdaaGreatDoor.lru Go.Proofs.YtkbhcncbpiimdaaGreatDoor.mpi

section
variable {w w' : World} {B t m : Nat} {r n n' : Int} {L L' : Cs}
theorem Tb.stored (h : Tb w B t m r n L) (hm : MapL w' Tryz.prog 3 m (cR L')) (ht : Tn (fun j => j = m) w w') : Tb w' B t m r n L' :=
  ⟨h.1, h.2.1, (ht.block t (lt_of_some h.2.2.1) h.ne).trans h.2.2.1, hm⟩
theorem Tb.opened (h : Tb w B t m r n L) (hw : w' = w.setCell ⟨t, 1, none⟩ (.int .i64 n')) : Tb w' B t m r n' L ∧ Tn (fun j => j = t) w w' := by
  have ht : Tn (fun j => j = t) w w' := by rw [hw]; exact (Tn.refl (fun j => j = t) w).setCell (p := ⟨t, 1, none⟩) (.inr rfl) _
  refine ⟨⟨h.1, h.2.1, ?_, h.2.2.2.of_block (ht.block m h.2.2.2.lt (fun e => h.ne e.symm))⟩, ht⟩
  rw [hw]
  exact heap_setCell_same w t 1 _ _ _ h.2.2.1
theorem below_drewN (w : World) (n : Nat) : Below w.heap.size w (w.drewN n) := ⟨rfl, rfl, rfl, Nat.le_refl _, fun _ _ => rfl⟩
end
section
variable (B t m : Nat) (r n : Int) (L : Cs) (x : Int) (w : World)
def OpenIn (w : World) (B t m : Nat) (r n ep : Int) (dr : ByteArray) (L : Cs) (e : Ending) (w' : World) : Prop := e = .returned (.tuple #[.int .i64 (n + 1), .int .i64 0]) ∧ Kept w B t m r (n + 1) (L ++ [(n + 1, ⟨ep, dr, 0⟩)]) w'
set_option maxHeartbeats 800000 in
theorem open_yes (ep : Int) (dr : ByteArray) (h : Tb w B t m r n L) (hr : (L.length : Int) < r) (hl9 : L.length ≤ 2000) (hn0 : 0 ≤ n) (hn : n ≤ 1000000) (hno : valC L (n + 1) = none) :
    Calls Tryz.prog 71 #[.pointer (some ⟨t, 0, none⟩), .int .i64 ep, .string dr] w (OpenIn w B t m r n ep dr L) := by
  have d0 := cell_of_blk h.2.2.1 0
  have d2 := cell_of_blk h.2.2.1 2
  have hl : ∀ ty k, (Builtin.len_ #[134] ty #[.map (some m)]).run Tryz.prog (w.drewN k) = .ok (.int .i64 (L.length : Int)) (w.drewN k) := fun ty k => by
    have := (h.2.2.2.of_block (w' := w.drewN k) rfl).len Tryz.underlying134 ty
    rwa [cR_len] at this
  have hl0 : ∀ ty, (Builtin.len_ #[134] ty #[.map (some m)]).run Tryz.prog w = .ok (.int .i64 (L.length : Int)) w := fun ty => by
    have := h.2.2.2.len Tryz.underlying134 ty
    rwa [cR_len] at this
  have hd : decide (r ≤ (L.length : Int)) = false := by simp; omega
  obtain ⟨n1, hn1⟩ : ∃ n1, n1 = n + 1 := ⟨_, rfl⟩
  have hwr : IntKind.i64.wrap (n + 1) = n1 := by rw [hn1]; exact IntWalk.i64_in _ (by omega)
  have hx : Fits n1 := fits_of (by omega) (by omega)
  rw [← hn1] at hno
  have H := Lib.hid h
  have HX := Lib.hid hx
  have HNO : Hid (valP (cR L) n1 = none) := Lib.hid (by rw [cR_val, hno]; rfl)
  have HLL : Hid ((cR L).length < maxLen) := Lib.hid (by rw [cR_len]; simp only [maxLen]; omega)
  have HN1 := Lib.hid hn1
  clear h hr hn hno hn1 hx
  go_enter Tryz.func71, Tryz.ntmps71
  go_upto_region 1 with fail
  go_quiet (fail)
  obtain ⟨w1, hw1⟩ : ∃ w1, w1 = w.drewN nq := ⟨_, rfl⟩
  rw [← hw1]
  have ht1 : Tn (fun _ => False) w w1 := by rw [hw1]; exact (Tn.refl _ _).drewN nq
  have h1 := H.out.quiet ht1
  have e1 := cell_of_blk h1.2.2.1 1
  have f1 := free_of_blk h1.2.2.1 1
  obtain ⟨w2, hw2⟩ : ∃ w2, w2 = w1.setCell ⟨t, 1, none⟩ (.int .i64 n1) := ⟨_, rfl⟩
  obtain ⟨k1, k2⟩ := h1.opened hw2
  have HT2 := Lib.hid k1
  have HTN2 : Hid (Tn (Bk t m) w w2) := Lib.hid ((ht1.mono fun _ h => h.elim).trans (k2.mono fun j hj => .inl hj))
  have a1 := cell_of_blk k1.2.2.1 1
  have a2 := cell_of_blk k1.2.2.1 2
  have HW2 := Lib.hid hw2
  clear ht1 h1 k1 k2 hw1 hw2 hl hl0 d0 d2
  go_upto_region 4 with fail
  rw [← HW2.out]
  clear e1 f1
  go_still_tail 11, (by kernel_rfl)
  change wpList _ _ _ _ _ w2.drew
  generalize hw3 : w2.drew = w3
  have ht3 : Tn (fun _ => False) w2 w3 := by rw [← hw3]; exact (Tn.refl _ _).drew
  have HT3 := Lib.hid (HT2.out.quiet ht3)
  have HTN3 : Hid (Tn (Bk t m) w w3) := Lib.hid (HTN2.out.trans (ht3.mono fun _ h => h.elim))
  clear ht3 hw3 a1 a2
  go_wp2_with (at_mapUpdate; refine wpList_new rfl _ _ _ 134 rfl 3 91 Tryz.underlying3 Tryz.underlying134 m (cR L) rfl HT3.out.2.2.2 HLL.out n1 (curV ⟨ep, dr, 0⟩) rfl rfl HX.out HNO.out ?_; intro w4 hm4 ht4; have hT4 := HT3.out.stored (L' := L ++ [(n1, ⟨ep, dr, 0⟩)]) (by rw [cR_snoc]; exact hm4) ht4; have b1 := cell_of_blk hT4.2.2.1 1; have HE : Hid (OpenIn w B t m r n ep dr L (.returned (.tuple #[.int .i64 n1, .int .i64 0])) w4) := Lib.hid ⟨by rw [HN1.out], by rw [← HN1.out]; exact ⟨hT4, HTN3.out.trans (ht4.mono fun j hj => .inr hj)⟩⟩; clear hT4 hm4 ht4)
  go_ret2
  exact HE.out

def KeptIn (w : World) (B t m : Nat) (r n : Int) (L : Cs) (e : Ending) (w' : World) : Prop := e = .returned (.int .i64 0) ∧ Kept w B t m r n L w'
set_option maxHeartbeats 800000 in
theorem move_yes (nn a' : Int) (c : Cu) (h : Tb w B t m r n L) (hx : Fits x) (hyes : valC L x = some c) (ha : IntKind.i64.wrap (c.at_ + nn) = a') (hl9 : L.length ≤ 2000) :
    Calls Tryz.prog 144 #[.pointer (some ⟨t, 0, none⟩), .int .i64 x, .int .i64 nn] w (KeptIn w B t m r n (setC L x ⟨c.ep, c.dr, a'⟩)) := by
  have hg := get_any B t m r n L x w h hx
  have ek : gotE L x = 0 := by unfold gotE; rw [hyes]; rfl
  have ec : gotC L x = c := by unfold gotC; rw [hyes]; rfl
  rw [ek, ec] at hg
  have HG := Lib.hid hg
  have H := Lib.hid h
  have HX := Lib.hid hx
  have HY : Hid ((valP (cR L) x).isSome = true) := Lib.hid (by rw [cR_val, hyes]; rfl)
  have HLL : Hid ((cR L).length < maxLen) := Lib.hid (by rw [cR_len]; simp only [maxLen]; omega)
  clear h hg hyes ek ec hx hl9
  go_enter Tryz.func144, Tryz.ntmps144
  go_wp2_with fail
  refine HG.out.mono ?_
  rintro e w1 ⟨rfl, hb1⟩
  obtain ⟨W2, hW2⟩ : ∃ W2, W2 = w1.alloc (.cells #[.int .i64 c.ep, .string c.dr, .int .i64 c.at_] 91) := ⟨_, rfl⟩
  have hb2 : Below w.heap.size w W2 := by rw [hW2]; exact hb1.trans ((Below.refl _ _).alloc hb1.size _)
  have hk2 : W2.heap[w1.heap.size]? = some (.cells #[.int .i64 c.ep, .string c.dr, .int .i64 c.at_] 91 (0, 0)) := by rw [hW2]; exact heap_alloc_new w1 _
  have u2 := cell_of_blk hk2 2
  have fu2 := free_of_blk hk2 2
  have hT2 := H.out.later hb2
  obtain ⟨W3, hW3⟩ : ∃ W3, W3 = W2.setCell ⟨w1.heap.size, 2, none⟩ (.int .i64 a') := ⟨_, rfl⟩
  have hk3 : W3.heap[w1.heap.size]? = some (.cells #[.int .i64 c.ep, .string c.dr, .int .i64 a'] 91 (0, 0)) := by rw [hW3]; exact heap_setCell_same W2 _ 2 _ _ _ hk2
  have ht3 : Tn (fun j => j = w1.heap.size) W2 W3 := by rw [hW3]; exact (Tn.refl (fun j => j = w1.heap.size) W2).setCell (p := ⟨w1.heap.size, 2, none⟩) (.inr rfl) _
  have hb3 : Below w.heap.size w W3 := ((Tn.of_below hb2 (fun j => j = w1.heap.size)).trans ht3).below (fun k hk => by have := hb1.size; omega) (Nat.le_refl _)
  have hT3 := H.out.later hb3
  have v0 := cell_of_blk hk3 0
  have v1 := cell_of_blk hk3 1
  have v2 := cell_of_blk hk3 2
  have d2 := cell_of_blk hT3.2.2.1 2
  have HT3 := Lib.hid hT3
  have HB3 := Lib.hid hb3
  have HW2 := Lib.hid hW2
  have HW3 := Lib.hid hW3
  clear hb1 hb2 hT2 hW2 hk2 hT3 hb3 hk3 ht3 hW3
  go_upto_region 2 with fail
  rw [← HW2.out]
  go_upto_region 5 with fail
  rw [← HW3.out]
  clear u2 fu2
  go_still_tail 6, (by kernel_rfl)
  change wpList _ _ _ _ _ W3.drew
  generalize hw4 : W3.drew = w4
  have ht4 : Tn (fun _ => False) W3 w4 := by rw [← hw4]; exact (Tn.refl _ _).drew
  have HT4 := Lib.hid (HT3.out.quiet ht4)
  have HTN4 : Hid (Tn (Bk t m) w w4) := Lib.hid ((Tn.of_below HB3.out _).trans (ht4.mono fun _ h => h.elim))
  clear ht4 hw4 v0 v1 v2 d2
  go_wp2_with (at_mapUpdate; refine wpList_old rfl _ _ _ 134 rfl 3 91 Tryz.underlying3 Tryz.underlying134 m (cR L) rfl HT4.out.2.2.2 HLL.out x (curV ⟨c.ep, c.dr, a'⟩) rfl rfl HX.out HY.out ?_; intro w5 hm5 ht5; have HE : Hid (KeptIn w B t m r n (setC L x ⟨c.ep, c.dr, a'⟩) (.returned (.int .i64 0)) w5) := Lib.hid ⟨rfl, HT4.out.stored (by rw [cR_set]; exact hm5) ht5, HTN4.out.trans (ht5.mono fun j hj => .inr hj)⟩; clear hm5 ht5)
  go_ret
  exact HE.out
end
end Go.Proofs.YtkbhcncbpiimdaaGreatDoor.cur
