/- What the listed variables hold (Env), kept by whatever a call leaves as it was; bytes of texts. Condition: none. -/
import Derived.Test.YtfbgnafnpeeonaaDoorCalMath
import Derived.Test.YtfbgnafnpeeonaaDoorWords
import Derived.Test.YtfbgnafnpeeonaaDoorChecked
import Derived.Lib.LaidTab
import Derived.Lib.Hide
import Derived.IntWalk
import Derived.Deep.LoopGhost
import Derived.StillTailTactics
import Derived.Deep.Cut
import Derived.KernelRfl
import Derived.WalkSpells
import Derived.WalkLawsBesides
import Derived.LoopTactic
import Derived.BigRegion
import Derived.BigQuiet
import Derived.Deep.QuietTactic
import Derived.Laws.BitsAllLaws
namespace Go.Proofs.YtfbgnafnpeeonaaDoor.cal
set_option maxRecDepth 100000
open Go.RowKit Go.Proofs.YtfbgnafnpeeonaaDoor.words

/-- What the listed variables hold. -/
structure Env (m : Int) (w : World) : Prop where
  tab : Lib.TabIs Tryd.prog w "internal/strconv.uint64pow10" .u64 Lib.pow10Tab
  syn : ∃ tp p, w.var? Tryd.prog "strconv.ErrSyntax" = some #[.iface tp p]
  rng : ∃ tp p, w.var? Tryd.prog "strconv.ErrRange" = some #[.iface tp p]
  max : w.cell? ⟨1, 0, none⟩ = some (.int .i64 m)
  wds : ∀ (i : Nat) x, wds[i]? = some x → w.cell? ⟨0, i, none⟩ = some (.string ⟨x.toArray⟩)
theorem below_cell {w w' : World} {a : Addr} {v : Value} (h : w.cell? a = some v) (hb : Below w.heap.size w w') : w'.cell? a = some v := by
  have hlt : a.block < w.heap.size := by
    unfold World.cell? at h
    rcases Nat.lt_or_ge a.block w.heap.size with hl | hl
    · exact hl
    · rw [Array.getElem?_eq_none hl] at h; simp at h
  exact (World.cell?_of_block (hb.block _ hlt)).trans h
theorem var_later {w w' : World} {P : Program} {n : String} {cs : Array Value} (h : w.var? P n = some cs) (hb : Below w.heap.size w w') : w'.var? P n = some cs := by
  unfold World.var? at h ⊢
  cases hg : P.globalNamed n with
  | none => rw [hg] at h; cases h
  | some g =>
    rw [hg] at h
    simp only [Option.bind_some] at h ⊢
    have hlt : g < w.heap.size := by
      rcases Nat.lt_or_ge g w.heap.size with hl | hl
      · exact hl
      · rw [Array.getElem?_eq_none hl] at h; simp at h
    rw [hb.block g hlt]
    exact h
theorem Env.later {m : Int} {w w' : World} (h : Env m w) (hb : Below w.heap.size w w') : Env m w' :=
  ⟨var_later h.tab hb, h.syn.imp fun _ ⟨p, hp⟩ => ⟨p, var_later hp hb⟩, h.rng.imp fun _ ⟨p, hp⟩ => ⟨p, var_later hp hb⟩, below_cell h.max hb, fun i x hx => below_cell (h.wds i x hx) hb⟩
theorem Env.drew {m : Int} {w : World} (h : Env m w) (n : Nat) : Env m (w.drewN n) := h.later ⟨rfl, rfl, rfl, Nat.le_refl _, fun _ _ => rfl⟩
theorem size_list (s : ByteArray) : s.data.toList.length = s.size := by rw [Array.length_toList]; rfl
theorem take_snoc (s : ByteArray) (k : Nat) (h : k < s.size) : s.data.toList.take (k + 1) = s.data.toList.take k ++ [s[k]] := by
  rw [List.take_succ_eq_append_getElem (by simpa using h)]; rfl
theorem to_list (s : ByteArray) : s.toList = s.data.toList := ByteArray.toList_eq s
theorem data_inj {a b : ByteArray} (h : a.data.toList = b.data.toList) : a = b := by
  obtain ⟨x⟩ := a
  obtain ⟨y⟩ := b
  have : x = y := by simpa using h
  rw [this]
theorem data_mk (l : List UInt8) : (⟨l.toArray⟩ : ByteArray).data.toList = l := by simp
theorem app_data (a b : ByteArray) : (a ++ b).data.toList = a.data.toList ++ b.data.toList := by simp
end Go.Proofs.YtfbgnafnpeeonaaDoor.cal
