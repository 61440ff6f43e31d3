/- A map of the call's own whose keys are texts, said as a function: what it holds at each key, whatever its elements are ('MapFn'). No program's call, no condition. -/
import Derived.Test.YthhcbmljckgncaaWords
import Derived.Maps.OwnSet
import Derived.StringKeys
namespace Go.Proofs.Ythhcbmljckgncaa.mpf
set_option maxRecDepth 100000
open Go.RowKit Go.Maps Go.WideElems Go.WideMaps Go.Proofs.Ythhcbmljckgncaa.words

/-- How an element is read: as itself. -/
def heldR (v : Value) : Option (DataW Value × List MemPlace) := some (.held v, [])
/-- What a datum holds at a key, given what is there. -/
def orElse (o : Option Value) (z : DataW Value) : DataW Value := match o with
  | some v => .held v
  | none => z
def keyL (s : ByteArray) : Lit := .string s.data.toList
theorem keyL_ne {s s' : ByteArray} (h : s ≠ s') : keyL s ≠ keyL s' := fun he => by
  unfold keyL at he
  injection he with he
  exact h (ByteArray.ext (Array.ext' he))
theorem keyL_is (s : ByteArray) : WideAt.IsKeyLit (keyL s) := by simp [keyL, WideAt.IsKeyLit]
/-- Block b is a map of at most n entries that holds f. -/
def MapFn (w : World) (P : Program) (k : TypeId) (b n : Nat) (f : ByteArray → Option Value) : Prop :=
  ∃ D, w.ownsMap P k heldR b n D ∧ ∀ s z, D.atKey (keyL s) z = orElse (f s) z
section
variable {P : Program} {k : TypeId} {w w' : World} {b n : Nat} {f : ByteArray → Option Value}
theorem MapFn.made (w : World) (P : Program) (k : TypeId) : MapFn (w.alloc (.map #[] 0)) P k w.heap.size 0 (fun _ => none) :=
  ⟨_, World.ownsMap_made w P k heldR, fun _ _ => rfl⟩
theorem MapFn.of_block (h : MapFn w P k b n f) (hb : w'.heap[b]? = w.heap[b]?) : MapFn w' P k b n f := by
  obtain ⟨D, ⟨es, clock, h1, h2⟩, hf⟩ := h
  exact ⟨D, ⟨es, clock, hb.trans h1, h2⟩, hf⟩
theorem MapFn.lt (h : MapFn w P k b n f) : b < w.heap.size := by
  obtain ⟨D, ho, _⟩ := h
  exact ho.lt
theorem MapFn.later (h : MapFn w P k b n f) (hb : Below w.heap.size w w') : MapFn w' P k b n f := h.of_block (hb.block b h.lt)
theorem MapFn.under {B : Nat} (h : MapFn w P k b n f) (hb : Below B w w') (hB : b < B) : MapFn w' P k b n f := h.of_block (hb.block b hB)
theorem MapFn.kept {S : TypeId → Prop} {B : Nat} (h : MapFn w P k b n f) (hk : Kept S B w w') : MapFn w' P k b n f :=
  h.of_block (hk.block b h.lt (.inr fun cs t q he => by
    obtain ⟨D, ⟨es, clock, h1, _⟩, _⟩ := h
    rw [h1] at he
    injection he with he
    cases he))
theorem MapFn.mono {n' : Nat} (h : MapFn w P k b n f) (hn : n ≤ n') : MapFn w P k b n' f := by
  obtain ⟨D, ho, hf⟩ := h
  exact ⟨D, ho.mono hn, hf⟩
theorem MapFn.congr {f' : ByteArray → Option Value} (h : MapFn w P k b n f) (he : ∀ s, f' s = f s) : MapFn w P k b n f' := by
  obtain ⟨D, ho, hf⟩ := h
  exact ⟨D, ho, fun s z => by rw [he s]; exact hf s z⟩
/-- It is no row of cells. -/
theorem MapFn.ne (h : MapFn w P k b n f) {g : Nat} {cs : Array Value} {t : TypeId} {q : Nat × Nat} (hg : w.heap[g]? = some (.cells cs t q)) : b ≠ g := fun e => by
  subst e
  obtain ⟨D, ⟨es, clock, h1, _⟩, _⟩ := h
  rw [h1] at hg
  injection hg with hg
  cases hg
/-- What is there behind a store. -/
def putF (f : ByteArray → Option Value) (s : ByteArray) (v : Value) (s' : ByteArray) : Option Value := if s' = s then some v else f s'
theorem put_fn {D : DataW Value} (hD : IsMap D) (hf : ∀ s z, D.atKey (keyL s) z = orElse (f s) z) (s : ByteArray) (v : Value) : ∀ s' z, (D.put (keyL s) (.held v)).atKey (keyL s') z = orElse (putF f s v s') z := fun s' z => by
  unfold putF
  by_cases h : s' = s
  · subst h
    rw [if_pos rfl, atKey_put_same hD (keyL_is s')]
    rfl
  · rw [if_neg h, atKey_put_other (keyL_ne h), hf]
theorem held_is {d : DataW Value} {o : Option Value} {v z : Value} {ps : List MemPlace} (h : d = orElse o (.held z)) (hv : heldR v = some (d, ps)) : v = o.getD z := by
  have h1 : DataW.held v = d := congrArg Prod.fst (Option.some.inj hv)
  rw [h] at h1
  rcases o with _ | u
  · exact DataW.held.inj h1
  · exact DataW.held.inj h1
theorem MapFn.look {t e : TypeId} (h : MapFn w P k b n f) (hk : P.underlying k = some .string) (ht : P.underlying t = some (.map k e)) {z : Value} (hz : (zeroValue e).run P w = .ok z w) {s : ByteArray} (hs : s.size ≤ maxLen) :
    (Instr.lookup t (.map (some b)) (.string s) false).run P w = .ok ((f s).getD z) w := by
  obtain ⟨D, ho, hf⟩ := h
  obtain ⟨v, ps, hr, hv⟩ := ho.lookup (string_keyed hk) ht hz (zd := .held z) (zp := []) rfl (key := .string s) (kl := keyL s) (keyOf_string_mk hk hs)
  rw [hr, held_is (hf s _) hv]
theorem MapFn.look_ok {t e : TypeId} (h : MapFn w P k b n f) (hk : P.underlying k = some .string) (ht : P.underlying t = some (.map k e)) {z : Value} (hz : (zeroValue e).run P w = .ok z w) {s : ByteArray} (hs : s.size ≤ maxLen) :
    (Instr.lookup t (.map (some b)) (.string s) true).run P w = .ok (.tuple #[(f s).getD z, .bool (f s).isSome]) w := by
  obtain ⟨D, ho, hf⟩ := h
  obtain ⟨v, ps, hr, hv⟩ := ho.look_ok (string_keyed hk) ht hz (zd := .held z) (zp := []) rfl (key := .string s) (kl := keyL s) (keyOf_string_mk hk hs)
  have hh : Maps.has D (keyL s) = (f s).isSome := by
    have h1 := hf s
    rcases hfs : f s with _ | u
    · exact has_false_of_atKey fun z => by rw [h1 z, hfs]; rfl
    · exact has_true_of_atKey (y := .held u) fun z => by rw [h1 z, hfs]; rfl
  rw [hr, hh, held_is (hf s _) hv]
theorem MapFn.len {t e : TypeId} (h : MapFn w P k b n f) (ht : P.underlying t = some (.map k e)) (ty : TypeId) : ∃ m : Nat, m ≤ n ∧ (Builtin.len_ #[t] ty #[.map (some b)]).run P w = .ok (.int .i64 m) w := by
  obtain ⟨D, ho, hf⟩ := h
  exact ⟨_, ho.size_le, ho.len ht ty⟩
end
section
variable {P : Program} (w : World) {ops : Array Oper} {rest : List Oper} {o : Oper} {a : Act} {Q : Exit → Act → World → Prop}
/-- 'm[k] = v' at the operation. -/
theorem wpList_put (hg : o.guard = none) (m x v : Operand) (t : TypeId) (hop : o.op = Op.mapUpdate t m x v) (k e : TypeId) (hk : P.underlying k = some .string) (ht : P.underlying t = some (.map k e)) (b n : Nat) (f : ByteArray → Option Value)
    (hm : a.eval m = .map (some b)) (hown : MapFn w P k b n f) (hn : n < maxLen) (s : ByteArray) (val : Value) (hx : a.eval x = .string s) (hv : a.eval v = val) (hs : s.size ≤ maxLen)
    (hK : ∀ w', MapFn w' P k b (n + 1) (putF f s val) → w.grownBy w' (some b) → wpList P ops Q rest (a.put o.dst undef) w') :
    wpList P ops Q (o :: rest) a w := by
  obtain ⟨D, ho, hf⟩ := hown
  refine wpList_mapUpdate_own w hg m x v t hop k e (string_keyed hk) ht heldR b n D hm ho hn (.string s) val (keyL s) hx hv (keyOf_string_mk hk hs) (.held val) [] rfl fun w' h1 h2 => hK w' ⟨_, h1, put_fn ho.isMap hf s val⟩ h2
/-- 'm[k]' at the operation. -/
theorem wpList_look (hg : o.guard = none) (m x : Operand) (t : TypeId) (hop : o.op = Op.lookup t m x false) (k e : TypeId) (hk : P.underlying k = some .string) (ht : P.underlying t = some (.map k e)) {z : Value} (hz : (zeroValue e).run P w = .ok z w) (b n : Nat) (f : ByteArray → Option Value)
    (hm : a.eval m = .map (some b)) (hown : MapFn w P k b n f) (s : ByteArray) (hx : a.eval x = .string s) (hs : s.size ≤ maxLen) {v : Value} (hv : (f s).getD z = v)
    (hK : wpList P ops Q rest (a.put o.dst v) w) : wpList P ops Q (o :: rest) a w := by
  refine wpList_plain hg fun K' hK' => ?_
  have hrun := hown.look hk ht hz hs
  rw [hv] at hrun
  unfold Oper.wp
  simp [execOp, hop, hm, hx, hrun, Result.andThen]
  exact hK' _ _ hK
/-- 'v, ok := m[k]' at the operation. -/
theorem wpList_look_ok (hg : o.guard = none) (m x : Operand) (t : TypeId) (hop : o.op = Op.lookup t m x true) (k e : TypeId) (hk : P.underlying k = some .string) (ht : P.underlying t = some (.map k e)) {z : Value} (hz : (zeroValue e).run P w = .ok z w) (b n : Nat) (f : ByteArray → Option Value)
    (hm : a.eval m = .map (some b)) (hown : MapFn w P k b n f) (s : ByteArray) (hx : a.eval x = .string s) (hs : s.size ≤ maxLen) {v : Value} {is : Bool} (hv : (f s).getD z = v) (his : (f s).isSome = is)
    (hK : wpList P ops Q rest (a.put o.dst (.tuple #[v, .bool is])) w) : wpList P ops Q (o :: rest) a w := by
  refine wpList_plain hg fun K' hK' => ?_
  have hrun := hown.look_ok hk ht hz hs
  rw [hv, his] at hrun
  unfold Oper.wp
  simp [execOp, hop, hm, hx, hrun, Result.andThen]
  exact hK' _ _ hK
end
end Go.Proofs.Ythhcbmljckgncaa.mpf
