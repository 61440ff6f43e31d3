/-
  NARROWER THAN 'FOR EVERY INPUT', by the rows' own cells (each row's printed sentence says how): UnionLists: loops, laid · UnionParts: loops, laid · WholePaths: loops, laid · SpecDoes: loops, laid · SpecPages: loops, laid · SpecParts: loops, laid.
  DERIVED. THE GIVEN ROWS OF THIS SEAT. 6 by the template 'for every input the law returns true; each argument reads behind the call as it read before'; 0 by the template 'total and deterministic' (their statements: YtkbhcncbpiimdaaGreatDoorTotals.lean).
  GIVEN WITH THE SEED: the statements are not yours to turn. If you find one false, say at which input.
  Laid BY PROGRAM, IN A SANDBOX (cutbox-rows.mjs): the forced cells as the released guide's own fill.sh prints them over the translation 1bc2e7bcf2971d83… (all of the seat's roots in one cut). By AI agents, Wed Nov 11 2026. No macro, syntax, notation, axiom, sorry.
-/
import Derived.Test.YtkbhcncbpiimdaaGreatDoorChecked
import GoSem.PinnedTables
import GoSem.Claim
import GoSem.ClaimJoined
import GoSem.ClaimMapViews
import Derived.JoinedTies
import Derived.KernelRfl
namespace Go.Proofs.YtkbhcncbpiimdaaGreatDoor
/- THE CELL 'sum', in the pinned program and in every row, IS THE sha256 OF THE DUMP (.gsa) THAT YtkbhcncbpiimdaaGreatDoorProg.lean LOADS. Nothing in Lean hashes anything: it is a label: what it is worth is what the hold of that sum in a sandbox is worth. -/
noncomputable def Tryz.pinned : Pinned := { name := "ytkbhcncbpiimdaagreatdoor", sum := "1bc2e7bcf2971d839cb9f61e90515118518d9e42e38f8e8164cd1a26778f4307", checked := Tryz.checked }
namespace Rows
def none {H : Type} : Left H := { results := [], args := [] }

/- WHAT THE LISTED PACKAGE-LEVEL VARIABLES READ AS WHEN THE CALL BEGINS. Each datum BY PROGRAM (the guide's laid-datum.mjs) off the statement by which the dump's own 'gosem.cut.vars' lays the variable. In a bare row this is a premise. The card (YtkbhcncbpiimdaaGreatDoorCards.lean) ties it to the program's text. -/
def laid_unicode_utf8_acceptRanges {H : Type} : DataW H := .agg [.agg [.lit (.int .u8 128), .lit (.int .u8 191)], .agg [.lit (.int .u8 160), .lit (.int .u8 191)], .agg [.lit (.int .u8 128), .lit (.int .u8 159)], .agg [.lit (.int .u8 144), .lit (.int .u8 191)], .agg [.lit (.int .u8 128), .lit (.int .u8 143)], .agg [.lit (.int .u8 0), .lit (.int .u8 0)], .agg [.lit (.int .u8 0), .lit (.int .u8 0)], .agg [.lit (.int .u8 0), .lit (.int .u8 0)], .agg [.lit (.int .u8 0), .lit (.int .u8 0)], .agg [.lit (.int .u8 0), .lit (.int .u8 0)], .agg [.lit (.int .u8 0), .lit (.int .u8 0)], .agg [.lit (.int .u8 0), .lit (.int .u8 0)], .agg [.lit (.int .u8 0), .lit (.int .u8 0)], .agg [.lit (.int .u8 0), .lit (.int .u8 0)], .agg [.lit (.int .u8 0), .lit (.int .u8 0)], .agg [.lit (.int .u8 0), .lit (.int .u8 0)]]
/-- One of Go's own tables, pinned by name: the form's constant. -/
def laid_unicode_utf8_first : DataW Unit := Go.Pinned.utf8First

/-- 'socagelaw12.UnionLists': WHATEVER THE INPUT: true; the input reads as it did. -/
def unionListsSpec : ChangeSpec := { name := "unionLists", fn := fun _ => fun
  | [d1, d2] => { results := [.lit (.bool true)], args := [d1, d2] }
  | _ => none }
def unionListsRow : OpenClaim := { program := "ytkbhcncbpiimdaagreatdoor", sum := "1bc2e7bcf2971d839cb9f61e90515118518d9e42e38f8e8164cd1a26778f4307", func := "socage/socagelaw12.UnionLists", spec := "unionLists", inPlace := ["internal/bytealg.IndexByteString", "internal/bytealg.CountString", "internal/bytealg.IndexString", "internal/abi.NoEscape", "internal/bytealg.MakeNoZero", "internal/bytealg.abigen_runtime_cmpstring"], unfollowed := true, recurses := true, named := ["unicode/utf8.first", "unicode/utf8.acceptRanges", "internal/bytealg.MaxLen"], loops := true, apart := false, laid := [("unicode/utf8.acceptRanges", laid_unicode_utf8_acceptRanges), ("unicode/utf8.first", laid_unicode_utf8_first)] }
def UnionListsSaid : Prop := unionListsRow.holds Tryz.pinned (OpenSpec.ofChange unionListsSpec)

/-- ITS FALSE NEIGHBOUR: 'it returns false'. Refute it at one input. -/
def unionListsWrong : ChangeSpec := { name := "unionLists", fn := fun _ => fun
  | [d1, d2] => { results := [.lit (.bool false)], args := [d1, d2] }
  | _ => none }
def UnionListsWrongFalsely : Prop := unionListsRow.holds Tryz.pinned (OpenSpec.ofChange unionListsWrong)

/-- 'socagelaw12.UnionParts': WHATEVER THE INPUT: true; the input reads as it did. -/
def unionPartsSpec : ChangeSpec := { name := "unionParts", fn := fun _ => fun
  | [d1, d2] => { results := [.lit (.bool true)], args := [d1, d2] }
  | _ => none }
def unionPartsRow : OpenClaim := { program := "ytkbhcncbpiimdaagreatdoor", sum := "1bc2e7bcf2971d839cb9f61e90515118518d9e42e38f8e8164cd1a26778f4307", func := "socage/socagelaw12.UnionParts", spec := "unionParts", inPlace := ["internal/bytealg.IndexByteString", "internal/bytealg.CountString", "internal/bytealg.IndexString", "internal/abi.NoEscape", "internal/bytealg.MakeNoZero"], unfollowed := true, recurses := true, named := ["unicode/utf8.first", "unicode/utf8.acceptRanges", "internal/bytealg.MaxLen"], loops := true, apart := false, laid := [("unicode/utf8.acceptRanges", laid_unicode_utf8_acceptRanges), ("unicode/utf8.first", laid_unicode_utf8_first)] }
def UnionPartsSaid : Prop := unionPartsRow.holds Tryz.pinned (OpenSpec.ofChange unionPartsSpec)

/-- ITS FALSE NEIGHBOUR: 'it returns false'. Refute it at one input. -/
def unionPartsWrong : ChangeSpec := { name := "unionParts", fn := fun _ => fun
  | [d1, d2] => { results := [.lit (.bool false)], args := [d1, d2] }
  | _ => none }
def UnionPartsWrongFalsely : Prop := unionPartsRow.holds Tryz.pinned (OpenSpec.ofChange unionPartsWrong)

/-- 'socagetop.WholePaths': WHATEVER THE INPUT: true; the input reads as it did. -/
def wholePathsSpec : ChangeSpec := { name := "wholePaths", fn := fun _ => fun
  | [d1, d2, d3] => { results := [.lit (.bool true)], args := [d1, d2, d3] }
  | _ => none }
def wholePathsRow : OpenClaim := { program := "ytkbhcncbpiimdaagreatdoor", sum := "1bc2e7bcf2971d839cb9f61e90515118518d9e42e38f8e8164cd1a26778f4307", func := "socage/socagetop.WholePaths", spec := "wholePaths", inPlace := ["internal/bytealg.IndexByteString", "internal/bytealg.CountString", "internal/bytealg.IndexString", "internal/abi.NoEscape", "internal/bytealg.MakeNoZero", "internal/bytealg.abigen_runtime_cmpstring"], unfollowed := true, recurses := true, named := ["unicode/utf8.first", "unicode/utf8.acceptRanges", "internal/bytealg.MaxLen"], loops := true, apart := false, laid := [("unicode/utf8.acceptRanges", laid_unicode_utf8_acceptRanges), ("unicode/utf8.first", laid_unicode_utf8_first)] }
def WholePathsSaid : Prop := wholePathsRow.holds Tryz.pinned (OpenSpec.ofChange wholePathsSpec)

/-- ITS FALSE NEIGHBOUR: 'it returns false'. Refute it at one input. -/
def wholePathsWrong : ChangeSpec := { name := "wholePaths", fn := fun _ => fun
  | [d1, d2, d3] => { results := [.lit (.bool false)], args := [d1, d2, d3] }
  | _ => none }
def WholePathsWrongFalsely : Prop := wholePathsRow.holds Tryz.pinned (OpenSpec.ofChange wholePathsWrong)

/-- 'socagelaw20.SpecDoes': WHATEVER THE INPUT: true; the input reads as it did. -/
def specDoesSpec : ChangeSpec := { name := "specDoes", fn := fun _ => fun
  | [d1, d2, d3] => { results := [.lit (.bool true)], args := [d1, d2, d3] }
  | _ => none }
def specDoesRow : OpenClaim := { program := "ytkbhcncbpiimdaagreatdoor", sum := "1bc2e7bcf2971d839cb9f61e90515118518d9e42e38f8e8164cd1a26778f4307", func := "socage/socagelaw20.SpecDoes", spec := "specDoes", inPlace := ["internal/bytealg.IndexByteString", "internal/bytealg.CountString", "internal/bytealg.IndexString", "internal/abi.NoEscape", "internal/bytealg.MakeNoZero", "internal/bytealg.abigen_runtime_cmpstring"], unfollowed := true, recurses := true, named := ["unicode/utf8.first", "unicode/utf8.acceptRanges", "internal/bytealg.MaxLen"], loops := true, apart := false, laid := [("unicode/utf8.acceptRanges", laid_unicode_utf8_acceptRanges), ("unicode/utf8.first", laid_unicode_utf8_first)] }
def SpecDoesSaid : Prop := specDoesRow.holds Tryz.pinned (OpenSpec.ofChange specDoesSpec)

/-- ITS FALSE NEIGHBOUR: 'it returns false'. Refute it at one input. -/
def specDoesWrong : ChangeSpec := { name := "specDoes", fn := fun _ => fun
  | [d1, d2, d3] => { results := [.lit (.bool false)], args := [d1, d2, d3] }
  | _ => none }
def SpecDoesWrongFalsely : Prop := specDoesRow.holds Tryz.pinned (OpenSpec.ofChange specDoesWrong)

/-- 'socagelaw20.SpecPages': WHATEVER THE INPUT: true; the input reads as it did. -/
def specPagesSpec : ChangeSpec := { name := "specPages", fn := fun _ => fun
  | [d1, d2, d3] => { results := [.lit (.bool true)], args := [d1, d2, d3] }
  | _ => none }
def specPagesRow : OpenClaim := { program := "ytkbhcncbpiimdaagreatdoor", sum := "1bc2e7bcf2971d839cb9f61e90515118518d9e42e38f8e8164cd1a26778f4307", func := "socage/socagelaw20.SpecPages", spec := "specPages", inPlace := ["internal/bytealg.IndexByteString", "internal/bytealg.CountString", "internal/bytealg.IndexString", "internal/abi.NoEscape", "internal/bytealg.MakeNoZero", "internal/bytealg.abigen_runtime_cmpstring"], unfollowed := true, recurses := true, named := ["unicode/utf8.first", "unicode/utf8.acceptRanges", "internal/bytealg.MaxLen"], loops := true, apart := false, laid := [("unicode/utf8.acceptRanges", laid_unicode_utf8_acceptRanges), ("unicode/utf8.first", laid_unicode_utf8_first)] }
def SpecPagesSaid : Prop := specPagesRow.holds Tryz.pinned (OpenSpec.ofChange specPagesSpec)

/-- ITS FALSE NEIGHBOUR: 'it returns false'. Refute it at one input. -/
def specPagesWrong : ChangeSpec := { name := "specPages", fn := fun _ => fun
  | [d1, d2, d3] => { results := [.lit (.bool false)], args := [d1, d2, d3] }
  | _ => none }
def SpecPagesWrongFalsely : Prop := specPagesRow.holds Tryz.pinned (OpenSpec.ofChange specPagesWrong)

/-- 'socagelaw20.SpecParts': WHATEVER THE INPUT: true; the input reads as it did. -/
def specPartsSpec : ChangeSpec := { name := "specParts", fn := fun _ => fun
  | [d1, d2] => { results := [.lit (.bool true)], args := [d1, d2] }
  | _ => none }
def specPartsRow : OpenClaim := { program := "ytkbhcncbpiimdaagreatdoor", sum := "1bc2e7bcf2971d839cb9f61e90515118518d9e42e38f8e8164cd1a26778f4307", func := "socage/socagelaw20.SpecParts", spec := "specParts", inPlace := ["internal/bytealg.IndexByteString", "internal/bytealg.CountString", "internal/bytealg.IndexString", "internal/abi.NoEscape", "internal/bytealg.MakeNoZero", "internal/bytealg.abigen_runtime_cmpstring"], unfollowed := true, recurses := true, named := ["unicode/utf8.first", "unicode/utf8.acceptRanges", "internal/bytealg.MaxLen"], loops := true, apart := false, laid := [("unicode/utf8.acceptRanges", laid_unicode_utf8_acceptRanges), ("unicode/utf8.first", laid_unicode_utf8_first)] }
def SpecPartsSaid : Prop := specPartsRow.holds Tryz.pinned (OpenSpec.ofChange specPartsSpec)

/-- ITS FALSE NEIGHBOUR: 'it returns false'. Refute it at one input. -/
def specPartsWrong : ChangeSpec := { name := "specParts", fn := fun _ => fun
  | [d1, d2] => { results := [.lit (.bool false)], args := [d1, d2] }
  | _ => none }
def SpecPartsWrongFalsely : Prop := specPartsRow.holds Tryz.pinned (OpenSpec.ofChange specPartsWrong)

/- THE SECOND FORM. 'bulk': how many values and letters a reading holds, each counted each time it is reached (what is shared counts as often as it is met; a slice's spare places count too). A statement '..UptoSaid' is the law's where the arguments, and the package variables that the reading takes, are together of bulk at most 1048576: NARROWER than '..Said'. Prove '..Said' where nothing that the law and all that it calls make is longer than what came in: it says more and counts as full. Else prove '..UptoSaid'. A law counts once. -/
mutual
def uptoBulk {H : Type} : DataW H → Nat
  | .lit (.string bytes) => bytes.length + 1
  | .lit _ => 1
  | .nil => 1
  | .ptr d => uptoBulk d + 1
  | .slice elems spare => uptoBulkAll elems + uptoBulkAll spare + 1
  | .agg parts => uptoBulkAll parts + 1
  | .iface _ d => uptoBulk d + 1
  | .map entries => uptoBulkEntries entries + 1
  | .held _ => 1
def uptoBulkAll {H : Type} : List (DataW H) → Nat
  | [] => 0
  | d :: r => uptoBulk d + uptoBulkAll r
def uptoBulkEntries {H : Type} : List (Lit × DataW H) → Nat
  | [] => 0
  | x :: r => uptoBulkEntry x + uptoBulkEntries r
def uptoBulkEntry {H : Type} : Lit × DataW H → Nat
  | (.string bytes, d) => bytes.length + uptoBulk d + 1
  | (_, d) => uptoBulk d + 1
 end
def uptoSmall : (H : Type) → List (DataW H) → Bool := fun _ ds => decide (uptoBulkAll ds ≤ 1048576)
def OpenSpec.upto (s : _root_.Go.ChangeSpec) : _root_.Go.OpenSpec := { _root_.Go.OpenSpec.ofChange s with cond := some uptoSmall }

/-- 'socagelaw12.UnionLists', WHERE WHAT IT READS IS OF BULK AT MOST 1048576: true; the input reads as it did. -/
def unionListsUptoRow : OpenClaim := { program := "ytkbhcncbpiimdaagreatdoor", sum := "1bc2e7bcf2971d839cb9f61e90515118518d9e42e38f8e8164cd1a26778f4307", func := "socage/socagelaw12.UnionLists", spec := "unionLists", inPlace := ["internal/bytealg.IndexByteString", "internal/bytealg.CountString", "internal/bytealg.IndexString", "internal/abi.NoEscape", "internal/bytealg.MakeNoZero", "internal/bytealg.abigen_runtime_cmpstring"], unfollowed := true, recurses := true, named := ["unicode/utf8.first", "unicode/utf8.acceptRanges", "internal/bytealg.MaxLen"], loops := true, apart := false, laid := [("unicode/utf8.acceptRanges", laid_unicode_utf8_acceptRanges), ("unicode/utf8.first", laid_unicode_utf8_first)], narrowed := true }
def UnionListsUptoSaid : Prop := unionListsUptoRow.holds Tryz.pinned (OpenSpec.upto unionListsSpec)

/-- 'socagelaw12.UnionParts', WHERE WHAT IT READS IS OF BULK AT MOST 1048576: true; the input reads as it did. -/
def unionPartsUptoRow : OpenClaim := { program := "ytkbhcncbpiimdaagreatdoor", sum := "1bc2e7bcf2971d839cb9f61e90515118518d9e42e38f8e8164cd1a26778f4307", func := "socage/socagelaw12.UnionParts", spec := "unionParts", inPlace := ["internal/bytealg.IndexByteString", "internal/bytealg.CountString", "internal/bytealg.IndexString", "internal/abi.NoEscape", "internal/bytealg.MakeNoZero"], unfollowed := true, recurses := true, named := ["unicode/utf8.first", "unicode/utf8.acceptRanges", "internal/bytealg.MaxLen"], loops := true, apart := false, laid := [("unicode/utf8.acceptRanges", laid_unicode_utf8_acceptRanges), ("unicode/utf8.first", laid_unicode_utf8_first)], narrowed := true }
def UnionPartsUptoSaid : Prop := unionPartsUptoRow.holds Tryz.pinned (OpenSpec.upto unionPartsSpec)

/-- 'socagetop.WholePaths', WHERE WHAT IT READS IS OF BULK AT MOST 1048576: true; the input reads as it did. -/
def wholePathsUptoRow : OpenClaim := { program := "ytkbhcncbpiimdaagreatdoor", sum := "1bc2e7bcf2971d839cb9f61e90515118518d9e42e38f8e8164cd1a26778f4307", func := "socage/socagetop.WholePaths", spec := "wholePaths", inPlace := ["internal/bytealg.IndexByteString", "internal/bytealg.CountString", "internal/bytealg.IndexString", "internal/abi.NoEscape", "internal/bytealg.MakeNoZero", "internal/bytealg.abigen_runtime_cmpstring"], unfollowed := true, recurses := true, named := ["unicode/utf8.first", "unicode/utf8.acceptRanges", "internal/bytealg.MaxLen"], loops := true, apart := false, laid := [("unicode/utf8.acceptRanges", laid_unicode_utf8_acceptRanges), ("unicode/utf8.first", laid_unicode_utf8_first)], narrowed := true }
def WholePathsUptoSaid : Prop := wholePathsUptoRow.holds Tryz.pinned (OpenSpec.upto wholePathsSpec)

/-- 'socagelaw20.SpecDoes', WHERE WHAT IT READS IS OF BULK AT MOST 1048576: true; the input reads as it did. -/
def specDoesUptoRow : OpenClaim := { program := "ytkbhcncbpiimdaagreatdoor", sum := "1bc2e7bcf2971d839cb9f61e90515118518d9e42e38f8e8164cd1a26778f4307", func := "socage/socagelaw20.SpecDoes", spec := "specDoes", inPlace := ["internal/bytealg.IndexByteString", "internal/bytealg.CountString", "internal/bytealg.IndexString", "internal/abi.NoEscape", "internal/bytealg.MakeNoZero", "internal/bytealg.abigen_runtime_cmpstring"], unfollowed := true, recurses := true, named := ["unicode/utf8.first", "unicode/utf8.acceptRanges", "internal/bytealg.MaxLen"], loops := true, apart := false, laid := [("unicode/utf8.acceptRanges", laid_unicode_utf8_acceptRanges), ("unicode/utf8.first", laid_unicode_utf8_first)], narrowed := true }
def SpecDoesUptoSaid : Prop := specDoesUptoRow.holds Tryz.pinned (OpenSpec.upto specDoesSpec)

/-- 'socagelaw20.SpecPages', WHERE WHAT IT READS IS OF BULK AT MOST 1048576: true; the input reads as it did. -/
def specPagesUptoRow : OpenClaim := { program := "ytkbhcncbpiimdaagreatdoor", sum := "1bc2e7bcf2971d839cb9f61e90515118518d9e42e38f8e8164cd1a26778f4307", func := "socage/socagelaw20.SpecPages", spec := "specPages", inPlace := ["internal/bytealg.IndexByteString", "internal/bytealg.CountString", "internal/bytealg.IndexString", "internal/abi.NoEscape", "internal/bytealg.MakeNoZero", "internal/bytealg.abigen_runtime_cmpstring"], unfollowed := true, recurses := true, named := ["unicode/utf8.first", "unicode/utf8.acceptRanges", "internal/bytealg.MaxLen"], loops := true, apart := false, laid := [("unicode/utf8.acceptRanges", laid_unicode_utf8_acceptRanges), ("unicode/utf8.first", laid_unicode_utf8_first)], narrowed := true }
def SpecPagesUptoSaid : Prop := specPagesUptoRow.holds Tryz.pinned (OpenSpec.upto specPagesSpec)

/-- 'socagelaw20.SpecParts', WHERE WHAT IT READS IS OF BULK AT MOST 1048576: true; the input reads as it did. -/
def specPartsUptoRow : OpenClaim := { program := "ytkbhcncbpiimdaagreatdoor", sum := "1bc2e7bcf2971d839cb9f61e90515118518d9e42e38f8e8164cd1a26778f4307", func := "socage/socagelaw20.SpecParts", spec := "specParts", inPlace := ["internal/bytealg.IndexByteString", "internal/bytealg.CountString", "internal/bytealg.IndexString", "internal/abi.NoEscape", "internal/bytealg.MakeNoZero", "internal/bytealg.abigen_runtime_cmpstring"], unfollowed := true, recurses := true, named := ["unicode/utf8.first", "unicode/utf8.acceptRanges", "internal/bytealg.MaxLen"], loops := true, apart := false, laid := [("unicode/utf8.acceptRanges", laid_unicode_utf8_acceptRanges), ("unicode/utf8.first", laid_unicode_utf8_first)], narrowed := true }
def SpecPartsUptoSaid : Prop := specPartsUptoRow.holds Tryz.pinned (OpenSpec.upto specPartsSpec)

end Rows
end Go.Proofs.YtkbhcncbpiimdaaGreatDoor
