/- A map of the call's own whose keys are texts, said as a function, with how many entries it has ('MapN'). No program's call, no condition. -/
import Derived.Test.YthhcbmljckgncaaMapFn
namespace Go.Proofs.Ythhcbmljckgncaa.mpf
set_option maxRecDepth 100000
open Go.RowKit Go.Maps Go.WideElems Go.WideMaps Go.Proofs.Ythhcbmljckgncaa.words

/-- Block b is a map of m entries that holds f. -/
def MapN (w : World) (P : Program) (k : TypeId) (b m : Nat) (f : ByteArray → Option Value) : Prop :=
  ∃ D, w.ownsMap P k heldR b m D ∧ (∀ s z, D.atKey (keyL s) z = orElse (f s) z) ∧ Maps.size D = m
section
variable {P : Program} {k : TypeId} {w w' : World} {b m : Nat} {f : ByteArray → Option Value}
theorem MapN.fn (h : MapN w P k b m f) : MapFn w P k b m f := by
  obtain ⟨D, h1, h2, _⟩ := h
  exact ⟨D, h1, h2⟩
theorem MapN.made (w : World) (P : Program) (k : TypeId) : MapN (w.alloc (.map #[] 0)) P k w.heap.size 0 (fun _ => none) :=
  ⟨_, World.ownsMap_made w P k heldR, fun _ _ => rfl, by rfl⟩
theorem MapN.of_block (h : MapN w P k b m f) (hb : w'.heap[b]? = w.heap[b]?) : MapN w' P k b m f := by
  obtain ⟨D, ⟨es, clock, h1, h2⟩, hf⟩ := h
  exact ⟨D, ⟨es, clock, hb.trans h1, h2⟩, hf⟩
theorem MapN.lt (h : MapN w P k b m f) : b < w.heap.size := h.fn.lt
theorem MapN.later (h : MapN w P k b m f) (hb : Below w.heap.size w w') : MapN w' P k b m f := h.of_block (hb.block b h.lt)
theorem MapN.no (h : MapN w P k b m f) : ∀ cs t q, w.heap[b]? ≠ some (.cells cs t q) := fun _ _ _ hg => h.fn.ne hg rfl
theorem MapN.kept {S : TypeId → Prop} {B : Nat} (h : MapN w P k b m f) (hk : Kept S B w w') : MapN w' P k b m f :=
  h.of_block (hk.block b h.lt (.inr fun cs t q he => absurd he (h.no cs t q)))
theorem MapN.congr {f' : ByteArray → Option Value} (h : MapN w P k b m f) (he : ∀ s, f' s = f s) : MapN w P k b m f' := by
  obtain ⟨D, ho, hf, hs⟩ := h
  exact ⟨D, ho, fun s z => by rw [he s]; exact hf s z, hs⟩
theorem MapN.len {t e : TypeId} (h : MapN w P k b m f) (ht : P.underlying t = some (.map k e)) (ty : TypeId) : (Builtin.len_ #[t] ty #[.map (some b)]).run P w = .ok (.int .i64 m) w := by
  obtain ⟨D, ho, _, hs⟩ := h
  rw [ho.len ht ty, hs]
end
section
variable {P : Program} (w : World) {ops : Array Oper} {rest : List Oper} {o : Oper} {a : Act} {Q : Exit → Act → World → Prop}
/-- 'm[k] = v' at the operation, where k is not there yet. -/
theorem wpList_putN (hg : o.guard = none) (mo x v : Operand) (t : TypeId) (hop : o.op = Op.mapUpdate t mo x v) (k e : TypeId) (hk : P.underlying k = some .string) (ht : P.underlying t = some (.map k e)) (b m : Nat) (f : ByteArray → Option Value)
    (hm : a.eval mo = .map (some b)) (hown : MapN w P k b m f) (hn : m < maxLen) (s : ByteArray) (val : Value) (hx : a.eval x = .string s) (hv : a.eval v = val) (hs : s.size ≤ maxLen) (hno : f s = none)
    (hK : ∀ w', MapN w' P k b (m + 1) (putF f s val) → w.grownBy w' (some b) → wpList P ops Q rest (a.put o.dst undef) w') :
    wpList P ops Q (o :: rest) a w := by
  obtain ⟨D, ho, hf, hz⟩ := hown
  refine wpList_mapUpdate_own w hg mo x v t hop k e (string_keyed hk) ht heldR b m D hm ho hn (.string s) val (keyL s) hx hv (keyOf_string_mk hk hs) (.held val) [] rfl fun w' h1 h2 => hK w' ⟨_, h1, put_fn ho.isMap hf s val, ?_⟩ h2
  have hh : Maps.has D (keyL s) = false := has_false_of_atKey fun z => by rw [hf s z, hno]; rfl
  rw [Maps.size_put (ho.tidy (string_keyed hk)), hh, hz]
  rfl
end
end Go.Proofs.Ythhcbmljckgncaa.mpf
