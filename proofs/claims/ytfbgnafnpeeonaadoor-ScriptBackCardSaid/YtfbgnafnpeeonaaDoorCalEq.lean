/- Two that are asked for, held against each other. No condition. -/
import Derived.Test.YtfbgnafnpeeonaaDoorCalTold
namespace Go.Proofs.YtfbgnafnpeeonaaDoor.cal
set_option maxRecDepth 100000
open Go.RowKit Go.Proofs.YtfbgnafnpeeonaaDoor.words

def opI (k : Int) (p : ByteArray) (o n i : Int) (g : ByteArray) (k' : Int) (p' : ByteArray) (o' n' i' : Int) (g' : ByteArray) : Bool := decide (opM k p o n i g = opM k' p' o' n' i' g')
theorem op_eql (k : Int) (p : ByteArray) (o n i : Int) (g : ByteArray) (k' : Int) (p' : ByteArray) (o' n' i' : Int) (g' : ByteArray) (w : World) :
    (binOp .eql 45 (.agg #[.int .i64 k, .string p, .int .i64 o, .int .i64 n, .int .i64 i, .string g]) (.agg #[.int .i64 k', .string p', .int .i64 o', .int .i64 n', .int .i64 i', .string g'])).run Tryd.prog w = .ok (.bool (opI k p o n i g k' p' o' n' i' g')) w := by
  have e : opI k p o n i g k' p' o' n' i' g' = (k == k' && (p.toList == p'.toList && (o == o' && (n == n' && (i == i' && g.toList == g'.toList))))) := by
    unfold opI opM
    rw [Bool.eq_iff_iff]
    simp [to_list]
  rw [e]
  go_simp
  by_cases h1 : k = k' <;> by_cases h2 : p.toList = p'.toList <;> by_cases h3 : o = o' <;> by_cases h4 : n = n' <;> by_cases h5 : i = i' <;> by_cases h6 : g.toList = g'.toList <;> simp [h1, h2, h3, h4, h5, h6]
theorem contains10 (p : ByteArray) (w : World) : Calls Tryd.prog 79 #[.string p, .string ⟨#[10]⟩] w fun e w' => e = .returned (.bool (decide (10 ∈ p.data.toList))) ∧ w' = w := by
  refine (Tryd.strings_Contains_one p 10 w).mono fun e w' ⟨h1, h2⟩ => ⟨?_, h2⟩
  rw [h1]
  congr 2
  rw [Bool.eq_iff_iff]
  simp only [decide_eq_true_eq]
  constructor
  · intro h
    have := Lib.indexByte_some (l := p.data.toList) (c := 10) (o := (Lib.indexByte p.data.toList 10).toNat) (by omega)
    exact List.mem_of_getElem? this.1
  · intro h
    rcases Lib.indexByte_ge p.data.toList 10 with hg
    by_cases hn : Lib.indexByte p.data.toList 10 = -1
    · obtain ⟨i, hi⟩ := List.getElem?_of_mem h
      exact absurd hi (Lib.indexByte_none hn i)
    · have := Lib.indexByte_ge p.data.toList 10
      omega
end Go.Proofs.YtfbgnafnpeeonaaDoor.cal
