/- A map whose keys are ints, said as a row of pairs ('MapL'; 'MapO': one that may be nil). No program's call, no condition. -/
import Derived.Test.YtkigkdiphhecaaaGreatLruRow
import Derived.Maps.OwnSet
namespace Go.Proofs.YtkigkdiphhecaaaGreat.mpi
set_option maxRecDepth 100000
open Go.RowKit Go.Maps Go.Proofs.YtkigkdiphhecaaaGreat.words Go.Proofs.YtkigkdiphhecaaaGreat.lru

abbrev Pr := Int × Value
def heldR (v : Value) : Option (DataW Value × List MemPlace) := some (.held v, [])
def orElse (o : Option Value) (z : DataW Value) : DataW Value := match o with
  | some v => .held v
  | none => z
def keyI (x : Int) : Lit := .int .i64 x
theorem keyI_ne {x y : Int} (h : x ≠ y) : keyI x ≠ keyI y := fun he => h (by injection he)
theorem keyI_is (x : Int) : WideAt.IsKeyLit (keyI x) := trivial
def Fits (x : Int) : Prop := (Lit.int .i64 x).wf = true
theorem fits_of {x : Int} (h1 : -9223372036854775808 ≤ x) (h2 : x ≤ 9223372036854775807) : Fits x := by
  unfold Fits
  simp [Lit.wf, IntKind.min, IntKind.max, IntKind.signed, IntKind.bits]
  omega

/-! Rows of pairs -/
def valP : List Pr → Int → Option Value
  | [], _ => none
  | (y, v) :: L, x => if x = y then some v else valP L x
def setL (L : List Pr) (x : Int) (v : Value) : List Pr := L.map fun p => if p.1 = x then (x, v) else p
def delL (L : List Pr) (x : Int) : List Pr := L.filter fun p => !(p.1 == x)
theorem valP_none {x : Int} : ∀ {L : List Pr}, valP L x = none ↔ ∀ p ∈ L, p.1 ≠ x
  | [] => by simp [valP]
  | (y, v) :: L => by
    unfold valP
    by_cases h : x = y
    · subst h; simp
    · rw [if_neg h, valP_none (L := L)]
      constructor
      · intro hL p hp
        rcases List.mem_cons.1 hp with rfl | hp
        · exact fun e => h e.symm
        · exact hL p hp
      · exact fun hL p hp => hL p (List.mem_cons_of_mem _ hp)
theorem valP_mem {x : Int} {v : Value} : ∀ {L : List Pr}, valP L x = some v → (x, v) ∈ L
  | [], h => by simp [valP] at h
  | (y, u) :: L, h => by
    unfold valP at h
    by_cases e : x = y
    · subst e
      rw [if_pos rfl] at h
      injection h with h
      subst h
      exact List.mem_cons_self ..
    · rw [if_neg e] at h
      exact List.mem_cons_of_mem _ (valP_mem h)
theorem valP_of_mem {x : Int} {v : Value} : ∀ {L : List Pr}, (L.map (·.1)).Nodup → (x, v) ∈ L → valP L x = some v
  | [], _, h => by simp at h
  | (y, u) :: L, nd, h => by
    rw [List.map_cons, List.nodup_cons] at nd
    unfold valP
    rcases List.mem_cons.1 h with e | h
    · injection e with e1 e2
      subst e1 e2
      rw [if_pos rfl]
    · have : x ≠ y := fun e => nd.1 (by rw [← e]; exact List.mem_map.2 ⟨_, h, rfl⟩)
      rw [if_neg this]
      exact valP_of_mem nd.2 h
theorem valP_snoc (x : Int) (v : Value) (y : Int) : ∀ (L : List Pr), valP L x = none → valP (L ++ [(x, v)]) y = if y = x then some v else valP L y
  | [], _ => by simp [valP]
  | (z, u) :: L, h => by
    have hz : x ≠ z := fun e => by unfold valP at h; rw [if_pos e] at h; cases h
    have hL : valP L x = none := by unfold valP at h; rwa [if_neg hz] at h
    rw [List.cons_append]
    unfold valP
    rw [valP_snoc x v y L hL]
    by_cases e : y = z
    · subst e; rw [if_pos rfl, if_pos rfl, if_neg (fun e => hz e.symm)]
    · rw [if_neg e, if_neg e]
theorem valP_set (x : Int) (v : Value) (y : Int) : ∀ (L : List Pr), (valP L x).isSome = true → valP (setL L x v) y = if y = x then some v else valP L y
  | [], h => by simp [valP] at h
  | (z, u) :: L, h => by
    unfold setL
    rw [List.map_cons]
    by_cases hz : z = x
    · subst hz
      simp only [if_true, valP]
      by_cases e : y = z
      · rw [if_pos e, if_pos e]
      · rw [if_neg e, if_neg e, if_neg e]
        clear h
        induction L with
        | nil => rfl
        | cons p L ih =>
          obtain ⟨q, t⟩ := p
          rw [List.map_cons]
          by_cases hq : q = z
          · subst hq
            simp only [if_true, valP]
            rw [if_neg e, if_neg e, ih]
          · simp only [if_neg hq, valP]
            rw [ih]
    · have hL : (valP L x).isSome = true := by
        unfold valP at h
        rwa [if_neg (fun e => hz e.symm)] at h
      have ih := valP_set x v y L hL
      unfold setL at ih
      simp only [if_neg hz, valP, ih]
      by_cases e : y = z
      · subst e; rw [if_pos rfl, if_pos rfl, if_neg hz]
      · rw [if_neg e, if_neg e]
theorem valP_del (x y : Int) : ∀ (L : List Pr), valP (delL L x) y = if y = x then none else valP L y
  | [] => by simp [delL, valP]
  | (z, u) :: L => by
    have ih := valP_del x y L
    unfold delL at ih ⊢
    by_cases hz : z = x
    · subst hz
      rw [List.filter_cons_of_neg (by simp), ih]
      by_cases e : y = z
      · rw [if_pos e, if_pos e]
      · simp only [valP, if_neg e]
    · rw [List.filter_cons_of_pos (by simp [hz])]
      unfold valP
      rw [ih]
      by_cases e : y = z
      · subst e; rw [if_pos rfl, if_pos rfl, if_neg hz]
      · rw [if_neg e, if_neg e]
theorem set_len (L : List Pr) (x : Int) (v : Value) : (setL L x v).length = L.length := List.length_map ..
theorem set_keys (L : List Pr) (x : Int) (v : Value) : (setL L x v).map (·.1) = L.map (·.1) := by
  unfold setL
  rw [List.map_map]
  apply List.map_congr_left
  intro p _
  simp only [Function.comp]
  split
  · rename_i h; exact h.symm
  · rfl
theorem del_nodup {L : List Pr} (x : Int) (h : (L.map (·.1)).Nodup) : ((delL L x).map (·.1)).Nodup := by
  unfold delL
  exact (List.filter_sublist.map _).nodup h
theorem del_same {L : List Pr} {x : Int} (h : valP L x = none) : delL L x = L := by
  unfold delL
  rw [List.filter_eq_self]
  intro p hp
  simpa using valP_none.1 h p hp
theorem del_len {L : List Pr} {x : Int} (nd : (L.map (·.1)).Nodup) : (delL L x).length + (if (valP L x).isSome then 1 else 0) = L.length := by
  induction L with
  | nil => simp [delL, valP]
  | cons p L ih =>
    obtain ⟨z, u⟩ := p
    rw [List.map_cons, List.nodup_cons] at nd
    have ih := ih nd.2
    by_cases hz : x = z
    · subst hz
      have hn : valP L x = none := valP_none.2 fun p hp e => nd.1 (by rw [← e]; exact List.mem_map.2 ⟨_, hp, rfl⟩)
      have hd := del_same hn
      unfold delL at hd ⊢
      rw [List.filter_cons_of_neg (by simp), hd]
      simp [valP]
    · unfold delL at ih ⊢
      rw [List.filter_cons_of_pos (by simp; exact fun e => hz e.symm)]
      unfold valP
      rw [if_neg hz, List.length_cons, List.length_cons]
      omega
theorem snoc_nodup {L : List Pr} {x : Int} {v : Value} (nd : (L.map (·.1)).Nodup) (h : valP L x = none) : ((L ++ [(x, v)]).map (·.1)).Nodup := by
  rw [List.map_append, List.nodup_append]
  refine ⟨nd, by simp, fun a ha b hb => ?_⟩
  obtain ⟨p, hp, rfl⟩ := List.mem_map.1 ha
  have : b = x := by simpa using hb
  subst this
  exact valP_none.1 h p hp

/-! Maps in memory -/
/-- Block b is a map that holds the pairs L. -/
def MapL (w : World) (P : Program) (k : TypeId) (b : Nat) (L : List Pr) : Prop :=
  ∃ D, w.ownsMap P k heldR b L.length D ∧ (∀ x z, D.atKey (keyI x) z = orElse (valP L x) z) ∧ Maps.size D = L.length ∧ (L.map (·.1)).Nodup
section
variable {P : Program} {k : TypeId} {w w' : World} {b : Nat} {L : List Pr}
theorem owns_less {n : Nat} {D : DataW Value} (h : w.ownsMap P k heldR b n D) {m : Nat} (hm : Maps.size D ≤ m) : w.ownsMap P k heldR b m D := by
  obtain ⟨es, clock, h1, h2, h3, rfl⟩ := h
  exact ⟨es, clock, h1, h2, by simpa [Maps.size, length_sorted] using hm, rfl⟩
theorem MapL.made (w : World) (P : Program) (k : TypeId) : MapL (w.alloc (.map #[] 0)) P k w.heap.size [] :=
  ⟨_, World.ownsMap_made w P k heldR, fun _ _ => rfl, rfl, List.nodup_nil⟩
theorem MapL.nd (h : MapL w P k b L) : (L.map (·.1)).Nodup := by
  obtain ⟨D, _, _, _, h⟩ := h
  exact h
theorem MapL.of_block (h : MapL w P k b L) (hb : w'.heap[b]? = w.heap[b]?) : MapL w' P k b L := by
  obtain ⟨D, ⟨es, clock, h1, h2⟩, hf⟩ := h
  exact ⟨D, ⟨es, clock, hb.trans h1, h2⟩, hf⟩
theorem MapL.lt (h : MapL w P k b L) : b < w.heap.size := by
  obtain ⟨D, ho, _⟩ := h
  exact ho.lt
theorem MapL.not (h : MapL w P k b L) (cs : Array Value) (t : TypeId) (q : Nat × Nat) : w.heap[b]? ≠ some (.cells cs t q) := fun hg => by
  obtain ⟨D, ⟨es, clock, h1, _⟩, _⟩ := h
  rw [h1] at hg
  cases hg
theorem MapL.look {t e : TypeId} (h : MapL w P k b L) (hk : P.underlying k = some (.int .i64)) (ht : P.underlying t = some (.map k e)) {z : Value} (hz : (zeroValue e).run P w = .ok z w) {x : Int} (hx : Fits x) :
    (Instr.lookup t (.map (some b)) (.int .i64 x) false).run P w = .ok ((valP L x).getD z) w := by
  obtain ⟨D, ho, hf, _⟩ := h
  obtain ⟨v, ps, hr, hv⟩ := ho.lookup (int_keyed hk) ht hz (zd := .held z) (zp := []) rfl (key := .int .i64 x) (kl := keyI x) (keyOf_int_mk hk hx)
  rw [hr]
  have h1 : DataW.held v = D.atKey (keyI x) (.held z) := congrArg Prod.fst (Option.some.inj hv)
  rw [hf] at h1
  rcases hL : valP L x with _ | u
  · rw [hL] at h1; rw [DataW.held.inj h1]; rfl
  · rw [hL] at h1; rw [DataW.held.inj h1]; rfl
theorem MapL.look_ok {t e : TypeId} (h : MapL w P k b L) (hk : P.underlying k = some (.int .i64)) (ht : P.underlying t = some (.map k e)) {z : Value} (hz : (zeroValue e).run P w = .ok z w) {x : Int} (hx : Fits x) :
    (Instr.lookup t (.map (some b)) (.int .i64 x) true).run P w = .ok (.tuple #[(valP L x).getD z, .bool (valP L x).isSome]) w := by
  obtain ⟨D, ho, hf, _⟩ := h
  obtain ⟨v, ps, hr, hv⟩ := ho.look_ok (int_keyed hk) ht hz (zd := .held z) (zp := []) rfl (key := .int .i64 x) (kl := keyI x) (keyOf_int_mk hk hx)
  have h1 : DataW.held v = D.atKey (keyI x) (.held z) := congrArg Prod.fst (Option.some.inj hv)
  have hh : Maps.has D (keyI x) = (valP L x).isSome := by
    have h1 := hf x
    rcases hfs : valP L x with _ | u
    · exact has_false_of_atKey fun z => by rw [h1 z, hfs]; rfl
    · exact has_true_of_atKey (y := .held u) fun z => by rw [h1 z, hfs]; rfl
  rw [hr, hh]
  rw [hf] at h1
  rcases hL : valP L x with _ | u
  · rw [hL] at h1; rw [DataW.held.inj h1]; rfl
  · rw [hL] at h1; rw [DataW.held.inj h1]; rfl
theorem MapL.len {t e : TypeId} (h : MapL w P k b L) (ht : P.underlying t = some (.map k e)) (ty : TypeId) : (Builtin.len_ #[t] ty #[.map (some b)]).run P w = .ok (.int .i64 (L.length : Int)) w := by
  obtain ⟨D, ho, _, hs, _⟩ := h
  rw [ho.len ht ty, hs]
theorem MapL.has {D : DataW Value} (hf : ∀ x z, D.atKey (keyI x) z = orElse (valP L x) z) (x : Int) : Maps.has D (keyI x) = (valP L x).isSome := by
  have h1 := hf x
  rcases hfs : valP L x with _ | u
  · exact has_false_of_atKey fun z => by rw [h1 z, hfs]; rfl
  · exact has_true_of_atKey (y := .held u) fun z => by rw [h1 z, hfs]; rfl
theorem tn_turned (h : w.mapTurned w' b) : Tn (fun j => j = b) w w' := by
  have hg := h.grown
  exact ⟨hg.os, hg.tape, hg.output, hg.size, fun j hj hn => hg.block j hj fun e => hn (by injection e)⟩
theorem MapL.drop {t e : TypeId} (h : MapL w P k b L) (hk : P.underlying k = some (.int .i64)) (ht : P.underlying t = some (.map k e)) {x : Int} (hx : Fits x) (ty : TypeId) :
    ∃ w', (Builtin.delete_ #[t, k] ty #[.map (some b), .int .i64 x]).run P w = .ok (.tuple #[]) w' ∧ MapL w' P k b (delL L x) ∧ Tn (fun j => j = b) w w' := by
  obtain ⟨D, ho, hf, hs, nd⟩ := h
  obtain ⟨w', hr, h1, h2⟩ := ho.drop (int_keyed hk) ht (key := .int .i64 x) (kl := keyI x) (keyOf_int_mk hk hx) ty
  have hz : Maps.size (D.del (keyI x)) = (delL L x).length := by
    have e1 := Maps.size_del (k := keyI x) (ho.tidy (int_keyed hk))
    rw [MapL.has hf x, hs] at e1
    have e2 := del_len (x := x) nd
    omega
  refine ⟨w', hr, ⟨_, owns_less h1 (Nat.le_of_eq hz), fun y z => ?_, hz, del_nodup x nd⟩, tn_turned h2⟩
  rw [valP_del]
  by_cases e : y = x
  · subst e
    rw [atKey_del_same, if_pos rfl]
    rfl
  · rw [atKey_del_other (keyI_ne e), if_neg e, hf]
theorem MapL.put_fn {D : DataW Value} (hD : IsMap D) (hf : ∀ x z, D.atKey (keyI x) z = orElse (valP L x) z) (x : Int) (v : Value) (y : Int) (z : DataW Value) : (D.put (keyI x) (.held v)).atKey (keyI y) z = orElse (if y = x then some v else valP L y) z := by
  by_cases h : y = x
  · subst h
    rw [if_pos rfl, atKey_put_same hD (keyI_is y)]
    rfl
  · rw [if_neg h, atKey_put_other (keyI_ne h), hf]
theorem MapL.store_new {t e : TypeId} (h : MapL w P k b L) (hk : P.underlying k = some (.int .i64)) (ht : P.underlying t = some (.map k e)) {x : Int} (hx : Fits x) (v : Value) (hn : L.length < maxLen) (hno : valP L x = none) :
    ∃ w', (Instr.mapUpdate t (.map (some b)) (.int .i64 x) v).run P w = .ok () w' ∧ MapL w' P k b (L ++ [(x, v)]) ∧ Tn (fun j => j = b) w w' := by
  obtain ⟨D, ho, hf, hs, nd⟩ := h
  obtain ⟨w', hr, h1, h2⟩ := ho.store (int_keyed hk) ht hn (key := .int .i64 x) (val := v) (kl := keyI x) (d := .held v) (ps := []) (keyOf_int_mk hk hx) rfl
  have hz : Maps.size (D.put (keyI x) (.held v)) = (L ++ [(x, v)]).length := by
    rw [Maps.size_put (ho.tidy (int_keyed hk)), MapL.has hf x, hno, hs, List.length_append]
    rfl
  refine ⟨w', hr, ⟨_, owns_less h1 (Nat.le_of_eq hz), fun y z => ?_, hz, snoc_nodup nd hno⟩, tn_turned h2⟩
  rw [MapL.put_fn ho.isMap hf, valP_snoc x v y L hno]
theorem MapL.store_old {t e : TypeId} (h : MapL w P k b L) (hk : P.underlying k = some (.int .i64)) (ht : P.underlying t = some (.map k e)) {x : Int} (hx : Fits x) (v : Value) (hn : L.length < maxLen) (hy : (valP L x).isSome = true) :
    ∃ w', (Instr.mapUpdate t (.map (some b)) (.int .i64 x) v).run P w = .ok () w' ∧ MapL w' P k b (setL L x v) ∧ Tn (fun j => j = b) w w' := by
  obtain ⟨D, ho, hf, hs, nd⟩ := h
  obtain ⟨w', hr, h1, h2⟩ := ho.store (int_keyed hk) ht hn (key := .int .i64 x) (val := v) (kl := keyI x) (d := .held v) (ps := []) (keyOf_int_mk hk hx) rfl
  have hz : Maps.size (D.put (keyI x) (.held v)) = (setL L x v).length := by
    rw [Maps.size_put (ho.tidy (int_keyed hk)), MapL.has hf x, hy, hs, set_len]
    rfl
  refine ⟨w', hr, ⟨_, owns_less h1 (Nat.le_of_eq hz), fun y z => ?_, hz, ?_⟩, tn_turned h2⟩
  · rw [MapL.put_fn ho.isMap hf, valP_set x v y L hy]
  · rw [set_keys]; exact nd
end

/-- A map that may be nil: at which block it is, if it is one. -/
def MapO (w : World) (P : Program) (k : TypeId) (B : Nat) (v : Value) (L : List Pr) : Prop := (v = .map none ∧ L = []) ∨ ∃ b, v = .map (some b) ∧ B ≤ b ∧ MapL w P k b L
/-- Its block. -/
def At (v : Value) (j : Nat) : Prop := v = .map (some j)
section
variable {P : Program} {k : TypeId} {w w' : World} {B : Nat} {v : Value} {L : List Pr}
theorem MapO.nd (h : MapO w P k B v L) : (L.map (·.1)).Nodup := by
  rcases h with ⟨_, rfl⟩ | ⟨b, _, _, h⟩
  · exact List.nodup_nil
  · exact h.nd
theorem MapO.tn {S : Nat → Prop} (h : MapO w P k B v L) (ht : Tn S w w') (hS : ∀ j, At v j → ¬ S j) : MapO w' P k B v L := by
  rcases h with h | ⟨b, rfl, hB, h⟩
  · exact .inl h
  · exact .inr ⟨b, rfl, hB, h.of_block (ht.block b h.lt (hS b rfl))⟩
theorem MapO.lt (h : MapO w P k B v L) (j : Nat) (hj : At v j) : B ≤ j ∧ j < w.heap.size ∧ ∀ cs t q, w.heap[j]? ≠ some (.cells cs t q) := by
  rcases h with ⟨rfl, _⟩ | ⟨b, rfl, hB, h⟩
  · cases hj
  · unfold At at hj
    injection hj with hj
    injection hj with hj
    subst hj
    exact ⟨hB, h.lt, h.not⟩
theorem MapO.look {t e : TypeId} (h : MapO w P k B v L) (hk : P.underlying k = some (.int .i64)) (ht : P.underlying t = some (.map k e)) {z : Value} (hz : (zeroValue e).run P w = .ok z w) {x : Int} (hx : Fits x) :
    (Instr.lookup t v (.int .i64 x) false).run P w = .ok ((valP L x).getD z) w := by
  rcases h with ⟨rfl, rfl⟩ | ⟨b, rfl, _, h⟩
  · exact Maps.look_nil false (int_keyed hk) ht hz (keyOf_int_mk hk hx)
  · exact h.look hk ht hz hx
theorem MapO.look_ok {t e : TypeId} (h : MapO w P k B v L) (hk : P.underlying k = some (.int .i64)) (ht : P.underlying t = some (.map k e)) {z : Value} (hz : (zeroValue e).run P w = .ok z w) {x : Int} (hx : Fits x) :
    (Instr.lookup t v (.int .i64 x) true).run P w = .ok (.tuple #[(valP L x).getD z, .bool (valP L x).isSome]) w := by
  rcases h with ⟨rfl, rfl⟩ | ⟨b, rfl, _, h⟩
  · exact Maps.look_nil true (int_keyed hk) ht hz (keyOf_int_mk hk hx)
  · exact h.look_ok hk ht hz hx
theorem MapO.len {t e : TypeId} (h : MapO w P k B v L) (ht : P.underlying t = some (.map k e)) (ty : TypeId) : (Builtin.len_ #[t] ty #[v]).run P w = .ok (.int .i64 (L.length : Int)) w := by
  rcases h with ⟨rfl, rfl⟩ | ⟨b, rfl, _, h⟩
  · exact Maps.len_nil ht ty
  · exact h.len ht ty
theorem MapO.drop {t e : TypeId} (h : MapO w P k B v L) (hk : P.underlying k = some (.int .i64)) (ht : P.underlying t = some (.map k e)) {x : Int} (hx : Fits x) (ty : TypeId) :
    ∃ w', (Builtin.delete_ #[t, k] ty #[v, .int .i64 x]).run P w = .ok (.tuple #[]) w' ∧ MapO w' P k B v (delL L x) ∧ Tn (At v) w w' := by
  rcases h with ⟨rfl, rfl⟩ | ⟨b, rfl, hB, h⟩
  · exact ⟨w, Maps.drop_nil (int_keyed hk) ht (keyOf_int_mk hk hx) ty, .inl ⟨rfl, rfl⟩, Tn.refl _ _⟩
  · obtain ⟨w', h1, h2, h3⟩ := h.drop hk ht hx ty
    exact ⟨w', h1, .inr ⟨b, rfl, hB, h2⟩, h3.mono fun j hj => by unfold At; rw [hj]⟩
end
section
variable {P : Program} {w : World} {ops : Array Oper} {rest : List Oper} {o : Oper} {a : Act} {Q : Exit → Act → World → Prop}
/-- 'delete(m, k)' at the operation. -/
theorem wpList_drop (hg : o.guard = none) (m x : Operand) (t k : TypeId) (hop : o.op = Op.call { callee := Callee.builtin Builtin.delete, args := #[m, x], argTypes := #[t, k] })
    (e : TypeId) (hk : P.underlying k = some (.int .i64)) (ht : P.underlying t = some (.map k e)) (B : Nat) (v : Value) (L : List Pr) (hm : a.eval m = v) (h : MapO w P k B v L) (key : Int) (hx : a.eval x = .int .i64 key) (hf : Fits key)
    (hK : ∀ w', MapO w' P k B v (delL L key) → Tn (At v) w w' → wpList P ops Q rest (a.put o.dst (.tuple #[])) w') :
    wpList P ops Q (o :: rest) a w := by
  refine wpList_plain hg fun K' hK' => ?_
  obtain ⟨w', hrun, r1, r2⟩ := h.drop hk ht hf o.type
  unfold Oper.wp
  simp [execOp, hop, resolve, invoke, builtin, hm, hx, hrun, Result.andThen]
  exact hK' _ _ (hK w' r1 r2)
/-- 'm[k] = v' at the operation, where k is not there yet. -/
theorem wpList_new (hg : o.guard = none) (m x u : Operand) (t : TypeId) (hop : o.op = Op.mapUpdate t m x u) (k e : TypeId) (hk : P.underlying k = some (.int .i64)) (ht : P.underlying t = some (.map k e)) (b : Nat) (L : List Pr)
    (hm : a.eval m = .map (some b)) (h : MapL w P k b L) (hn : L.length < maxLen) (key : Int) (v : Value) (hx : a.eval x = .int .i64 key) (hu : a.eval u = v) (hf : Fits key) (hno : valP L key = none)
    (hK : ∀ w', MapL w' P k b (L ++ [(key, v)]) → Tn (fun j => j = b) w w' → wpList P ops Q rest (a.put o.dst undef) w') :
    wpList P ops Q (o :: rest) a w := by
  refine wpList_plain hg fun K' hK' => ?_
  obtain ⟨w', hrun, r1, r2⟩ := h.store_new hk ht hf v hn hno
  unfold Oper.wp
  simp [execOp, hop, hm, hx, hu, hrun, Result.andThen]
  exact hK' _ _ (hK w' r1 r2)
/-- 'm[k] = v' at the operation, where k is there. -/
theorem wpList_old (hg : o.guard = none) (m x u : Operand) (t : TypeId) (hop : o.op = Op.mapUpdate t m x u) (k e : TypeId) (hk : P.underlying k = some (.int .i64)) (ht : P.underlying t = some (.map k e)) (b : Nat) (L : List Pr)
    (hm : a.eval m = .map (some b)) (h : MapL w P k b L) (hn : L.length < maxLen) (key : Int) (v : Value) (hx : a.eval x = .int .i64 key) (hu : a.eval u = v) (hf : Fits key) (hy : (valP L key).isSome = true)
    (hK : ∀ w', MapL w' P k b (setL L key v) → Tn (fun j => j = b) w w' → wpList P ops Q rest (a.put o.dst undef) w') :
    wpList P ops Q (o :: rest) a w := by
  refine wpList_plain hg fun K' hK' => ?_
  obtain ⟨w', hrun, r1, r2⟩ := h.store_old hk ht hf v hn hy
  unfold Oper.wp
  simp [execOp, hop, hm, hx, hu, hrun, Result.andThen]
  exact hK' _ _ (hK w' r1 r2)
end
end Go.Proofs.YtkigkdiphhecaaaGreat.mpi
