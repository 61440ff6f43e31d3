/- What a row's condition gives: the listed variables hold what their text lays (Env). No condition. -/
import Derived.Test.YtfbgnafnpeeonaaDoorCalEnv
import Derived.Test.YtfbgnafnpeeonaaDoorRows
import Derived.Stop.LaidErr
import Derived.MakeChecks
import Derived.Shelf.Vars
import Derived.LaidMore
import Derived.Lay
namespace Go.Proofs.YtfbgnafnpeeonaaDoor.cal
set_option maxRecDepth 100000
open Go.RowKit Go.ChangeShapes Go.Proofs.YtfbgnafnpeeonaaDoor.words

/-- An array of texts that reads as the listed texts holds them, cell for cell. -/
theorem cells_of_strs {H : Type} {enc : TypeId × Value → H} {P : Program} {w : World} {base : Nat} {sp : Nat → Bool} {held : Bool} {fuel : Nat} {t e : TypeId} {n : Nat} {cs : List Value} {zs : List (List UInt8)} {p : List MemPlace}
    (ht : P.underlying t = some (.array n e)) (he : P.underlying e = some .string) (hce : P.cellsOf e = 1) (hct : P.cellsOf t = n)
    (h : DataW.trod enc P w base sp held fuel t cs = some ((.agg (zs.map fun z => .lit (.string z))), p)) : ∀ (i : Nat) z, zs[i]? = some z → cs[i]? = some (.string ⟨z.toArray⟩) := by
  cases fuel with
  | zero => simp [DataW.trod] at h
  | succ fuel =>
    simp only [DataW.trod, ht, hce, hct, Nat.mul_one] at h
    split at h
    · rename_i hl
      obtain ⟨xs, hm, hx⟩ := Option.map_eq_some_iff.1 h
      have hxs : xs.map (·.1) = zs.map fun z => (DataW.lit (.string z) : DataW H) := by
        have := congrArg Prod.fst hx
        simpa using this
      have hxl : xs.length = n := by simpa using Lib.mapM_length hm
      have hzl : zs.length = n := by
        have := congrArg List.length hxs
        simp at this
        omega
      intro i z hz
      have hi : i < n := by rw [← hzl]; exact (List.getElem?_eq_some_iff.1 hz).1
      obtain ⟨b, hb, hf⟩ := Lib.mapM_at hm i i (by simp [hi])
      obtain ⟨s, hc, hbe, _⟩ := DataW.trod_string he hf
      have h1 : cs[i]? = some (.string s) := by
        have := congrArg (·[0]?) hc
        simpa [List.getElem?_take, List.getElem?_drop] using this
      have h2 : (xs.map (·.1))[i]? = some (DataW.lit (.string s.data.toList) : DataW H) := by simp [hb, hbe]
      rw [hxs] at h2
      simp only [List.getElem?_map, Option.map_eq_some_iff, DataW.lit.injEq, Lit.string.injEq] at h2
      obtain ⟨z', hz', rfl⟩ := h2
      rw [hz] at hz'
      injection hz' with hz'
      rw [h1, hz']
    · cases h
theorem gTab : Tryd.prog.globalNamed "internal/strconv.uint64pow10" = some 4 := by kernel_rfl
theorem gSyn : Tryd.prog.globalNamed "strconv.ErrSyntax" = some 7 := by kernel_rfl
theorem gRng : Tryd.prog.globalNamed "strconv.ErrRange" = some 8 := by kernel_rfl
theorem gWds : Tryd.prog.globalNamed "socage/call.words" = some 0 := by kernel_rfl
theorem tTab : (Tryd.prog.globals[4]?).map (·.type) = some 121 := by kernel_rfl
theorem tSyn : (Tryd.prog.globals[7]?).map (·.type) = some 65 := by kernel_rfl
theorem tRng : (Tryd.prog.globals[8]?).map (·.type) = some 65 := by kernel_rfl
theorem tWds : (Tryd.prog.globals[0]?).map (·.type) = some 77 := by kernel_rfl
theorem star : "*" ++ "errors.errorString" = "*errors.errorString" := by decide
theorem rowErr (u : TypeId) (h : Tryd.prog.typeName? 3 u = some "*errors.errorString") : u = 141 :=
  typeName_ptr_named (nm := "errors.errorString") (by rw [star]; kernel_rfl) (by kernel_rfl) (by decide) u (by rw [star]; exact h)
theorem cE : Tryd.prog.cellsOf 143 = 1 := by kernel_rfl
theorem cS : Tryd.prog.cellsOf 9 = 1 := by kernel_rfl
theorem cU : Tryd.prog.cellsOf 101 = 1 := by kernel_rfl
theorem cT : Tryd.prog.cellsOf 121 = 20 := by kernel_rfl
theorem cW : Tryd.prog.cellsOf 77 = 10 := by kernel_rfl
theorem tab_eq : (Rows.laid_internal_strconv_uint64pow10 : DataW Unit) = Lib.tabData .u64 Lib.pow10Tab := by kernel_rfl
theorem wds_eq : (Rows.laid_socage_call_words : DataW Unit) = .agg (wds.map fun z => .lit (.string z)) := by kernel_rfl
theorem env_of {w : World} (hsh : w.ShapedOpen Tryd.prog) (h : laidMetH Tryd.prog [("math/bits.deBruijn32tab", Rows.laid_math_bits_deBruijn32tab), ("math/bits.deBruijn64tab", Rows.laid_math_bits_deBruijn64tab), ("internal/strconv.uint64pow10", Rows.laid_internal_strconv_uint64pow10), ("unicode/utf8.acceptRanges", Rows.laid_unicode_utf8_acceptRanges), ("strconv.ErrRange", Rows.laid_strconv_ErrRange), ("strconv.ErrSyntax", Rows.laid_strconv_ErrSyntax), ("socage/call.words", Rows.laid_socage_call_words), ("unicode/utf8.first", Rows.laid_unicode_utf8_first)] w) : ∃ m, Env m w := by
  rw [MakeChecks.laidMetH_plain _ _ _ (by kernel_rfl)] at h
  obtain ⟨m, hm⟩ := Go.Proofs.cell_of_shapedOpen_int (zero := #[.int .i64 0]) (t := 3) hsh (of_decide_eq_true (by kernel_rfl)) (by kernel_rfl) rfl (by kernel_rfl) (by kernel_rfl) Tryd.underlying3 (g := 1)
  have h2 := h.tail.tail
  have h3 := h2.tail.tail
  have h4 := h3.tail
  have h5 := h4.tail
  refine ⟨m, ?_, ?_, ?_, hm, ?_⟩
  · rw [tab_eq] at h2
    exact Lib.tabIs_of_head gTab tTab Tryd.underlying121 Tryd.underlying101 cU cT h2
  · obtain ⟨a, s, hv, _⟩ := laid_sentinel h4 gSyn tSyn Tryd.underlying65 rowErr Tryd.underlying141 Tryd.underlying143 rfl rfl Tryd.underlying9 cE cS
    exact ⟨_, _, hv⟩
  · obtain ⟨a, s, hv, _⟩ := laid_sentinel h3 gRng tRng Tryd.underlying65 rowErr Tryd.underlying141 Tryd.underlying143 rfl rfl Tryd.underlying9 cE cS
    exact ⟨_, _, hv⟩
  · rw [wds_eq] at h5
    obtain ⟨ps, ⟨g', t', cs, fuel, p, q, hg', ht', hvar, hd, _, _⟩, _⟩ := h5
    obtain rfl := Option.some.inj (gWds.symm.trans hg')
    obtain rfl := Option.some.inj (tWds.symm.trans ht')
    intro i x hx
    have := World.var?_cell gWds hvar i
    rw [this]
    have hc := cells_of_strs Tryd.underlying77 Tryd.underlying9 cS cW hd i x hx
    simpa using hc
end Go.Proofs.YtfbgnafnpeeonaaDoor.cal
