/-
  NARROWER THAN 'FOR EVERY INPUT', by the rows' own cells (each row's printed sentence says how): SeenAll: loops, laid · SeenOne: loops, laid · WholeUpper: loops, laid · ImageDecodes: laid · BranchReads: loops, laid · WholeImages: loops, laid · MergePages: laid · MergeOdd: laid.
  DERIVED. THE GIVEN ROWS OF THIS SEAT. 8 by the template 'for every input the law returns true; each argument reads behind the call as it read before'; 0 by the template 'total and deterministic' (their statements: YtmmpceodhadipaaDoorTotals.lean).
  GIVEN WITH THE SEED: the statements are not yours to turn. If you find one false, say at which input.
  Laid BY PROGRAM, IN A SANDBOX (cutbox-rows.mjs): the forced cells as the released guide's own fill.sh prints them over the translation 2b16b9b9a432580f… (all of the seat's roots in one cut). By AI agents, Wed Nov 11 2026. No macro, syntax, notation, axiom, sorry.
-/
import Derived.Test.YtmmpceodhadipaaDoorChecked
import GoSem.PinnedTables
import GoSem.Claim
import GoSem.ClaimJoined
import GoSem.ClaimMapViews
import Derived.JoinedTies
import Derived.KernelRfl
namespace Go.Proofs.YtmmpceodhadipaaDoor
/- THE CELL 'sum', in the pinned program and in every row, IS THE sha256 OF THE DUMP (.gsa) THAT YtmmpceodhadipaaDoorProg.lean LOADS. Nothing in Lean hashes anything: it is a label: what it is worth is what the hold of that sum in a sandbox is worth. -/
noncomputable def Tryd.pinned : Pinned := { name := "ytmmpceodhadipaadoor", sum := "2b16b9b9a432580f717c4d026e85dcdf0f263d7ff120c9f66238991b55fa1f4f", checked := Tryd.checked }
namespace Rows
def none {H : Type} : Left H := { results := [], args := [] }

/- WHAT THE LISTED PACKAGE-LEVEL VARIABLES READ AS WHEN THE CALL BEGINS. Each datum BY PROGRAM (the guide's laid-datum.mjs) off the statement by which the dump's own 'gosem.cut.vars' lays the variable. In a bare row this is a premise. The card (YtmmpceodhadipaaDoorCards.lean) ties it to the program's text. -/
def laid_unicode_utf8_acceptRanges {H : Type} : DataW H := .agg [.agg [.lit (.int .u8 128), .lit (.int .u8 191)], .agg [.lit (.int .u8 160), .lit (.int .u8 191)], .agg [.lit (.int .u8 128), .lit (.int .u8 159)], .agg [.lit (.int .u8 144), .lit (.int .u8 191)], .agg [.lit (.int .u8 128), .lit (.int .u8 143)], .agg [.lit (.int .u8 0), .lit (.int .u8 0)], .agg [.lit (.int .u8 0), .lit (.int .u8 0)], .agg [.lit (.int .u8 0), .lit (.int .u8 0)], .agg [.lit (.int .u8 0), .lit (.int .u8 0)], .agg [.lit (.int .u8 0), .lit (.int .u8 0)], .agg [.lit (.int .u8 0), .lit (.int .u8 0)], .agg [.lit (.int .u8 0), .lit (.int .u8 0)], .agg [.lit (.int .u8 0), .lit (.int .u8 0)], .agg [.lit (.int .u8 0), .lit (.int .u8 0)], .agg [.lit (.int .u8 0), .lit (.int .u8 0)], .agg [.lit (.int .u8 0), .lit (.int .u8 0)]]
/-- One of Go's own tables, pinned by name: the form's constant. -/
def laid_unicode_utf8_first : DataW Unit := Go.Pinned.utf8First

/-- 'socagelaw08.SeenAll': WHATEVER THE INPUT: true; the input reads as it did. -/
def seenAllSpec : ChangeSpec := { name := "seenAll", fn := fun _ => fun
  | [d1, d2] => { results := [.lit (.bool true)], args := [d1, d2] }
  | _ => none }
def seenAllRow : OpenClaim := { program := "ytmmpceodhadipaadoor", sum := "2b16b9b9a432580f717c4d026e85dcdf0f263d7ff120c9f66238991b55fa1f4f", func := "socage/socagelaw08.SeenAll", spec := "seenAll", inPlace := ["internal/bytealg.IndexByteString", "internal/bytealg.CountString", "internal/bytealg.IndexString"], unfollowed := true, recurses := true, named := ["unicode/utf8.first", "unicode/utf8.acceptRanges", "internal/bytealg.MaxLen"], loops := true, apart := false, laid := [("unicode/utf8.acceptRanges", laid_unicode_utf8_acceptRanges), ("unicode/utf8.first", laid_unicode_utf8_first)] }
def SeenAllSaid : Prop := seenAllRow.holds Tryd.pinned (OpenSpec.ofChange seenAllSpec)

/-- ITS FALSE NEIGHBOUR: 'it returns false'. Refute it at one input. -/
def seenAllWrong : ChangeSpec := { name := "seenAll", fn := fun _ => fun
  | [d1, d2] => { results := [.lit (.bool false)], args := [d1, d2] }
  | _ => none }
def SeenAllWrongFalsely : Prop := seenAllRow.holds Tryd.pinned (OpenSpec.ofChange seenAllWrong)

/-- 'socagelaw08.SeenOne': WHATEVER THE INPUT: true; the input reads as it did. -/
def seenOneSpec : ChangeSpec := { name := "seenOne", fn := fun _ => fun
  | [d1, d2, d3] => { results := [.lit (.bool true)], args := [d1, d2, d3] }
  | _ => none }
def seenOneRow : OpenClaim := { program := "ytmmpceodhadipaadoor", sum := "2b16b9b9a432580f717c4d026e85dcdf0f263d7ff120c9f66238991b55fa1f4f", func := "socage/socagelaw08.SeenOne", spec := "seenOne", inPlace := ["internal/bytealg.IndexByteString", "internal/bytealg.CountString", "internal/bytealg.IndexString"], unfollowed := true, recurses := true, named := ["unicode/utf8.first", "unicode/utf8.acceptRanges", "internal/bytealg.MaxLen"], loops := true, apart := false, laid := [("unicode/utf8.acceptRanges", laid_unicode_utf8_acceptRanges), ("unicode/utf8.first", laid_unicode_utf8_first)] }
def SeenOneSaid : Prop := seenOneRow.holds Tryd.pinned (OpenSpec.ofChange seenOneSpec)

/-- ITS FALSE NEIGHBOUR: 'it returns false'. Refute it at one input. -/
def seenOneWrong : ChangeSpec := { name := "seenOne", fn := fun _ => fun
  | [d1, d2, d3] => { results := [.lit (.bool false)], args := [d1, d2, d3] }
  | _ => none }
def SeenOneWrongFalsely : Prop := seenOneRow.holds Tryd.pinned (OpenSpec.ofChange seenOneWrong)

/-- 'socagetop.WholeUpper': WHATEVER THE INPUT: true; the input reads as it did. -/
def wholeUpperSpec : ChangeSpec := { name := "wholeUpper", fn := fun _ => fun
  | [d1, d2] => { results := [.lit (.bool true)], args := [d1, d2] }
  | _ => none }
def wholeUpperRow : OpenClaim := { program := "ytmmpceodhadipaadoor", sum := "2b16b9b9a432580f717c4d026e85dcdf0f263d7ff120c9f66238991b55fa1f4f", func := "socage/socagetop.WholeUpper", spec := "wholeUpper", inPlace := ["internal/bytealg.IndexByteString", "internal/bytealg.CountString", "internal/bytealg.IndexString"], unfollowed := true, recurses := true, named := ["unicode/utf8.first", "unicode/utf8.acceptRanges", "internal/bytealg.MaxLen"], loops := true, apart := false, laid := [("unicode/utf8.acceptRanges", laid_unicode_utf8_acceptRanges), ("unicode/utf8.first", laid_unicode_utf8_first)] }
def WholeUpperSaid : Prop := wholeUpperRow.holds Tryd.pinned (OpenSpec.ofChange wholeUpperSpec)

/-- ITS FALSE NEIGHBOUR: 'it returns false'. Refute it at one input. -/
def wholeUpperWrong : ChangeSpec := { name := "wholeUpper", fn := fun _ => fun
  | [d1, d2] => { results := [.lit (.bool false)], args := [d1, d2] }
  | _ => none }
def WholeUpperWrongFalsely : Prop := wholeUpperRow.holds Tryd.pinned (OpenSpec.ofChange wholeUpperWrong)

/-- 'socagelaw05.ImageDecodes': WHATEVER THE INPUT: true; the input reads as it did. -/
def imageDecodesSpec : ChangeSpec := { name := "imageDecodes", fn := fun _ => fun
  | [d] => { results := [.lit (.bool true)], args := [d] }
  | _ => none }
def imageDecodesRow : OpenClaim := { program := "ytmmpceodhadipaadoor", sum := "2b16b9b9a432580f717c4d026e85dcdf0f263d7ff120c9f66238991b55fa1f4f", func := "socage/socagelaw05.ImageDecodes", spec := "imageDecodes", inPlace := ["internal/bytealg.IndexByteString", "internal/bytealg.CountString", "internal/bytealg.IndexString"], unfollowed := true, recurses := true, named := ["unicode/utf8.first", "unicode/utf8.acceptRanges", "internal/bytealg.MaxLen"], apart := false, laid := [("unicode/utf8.acceptRanges", laid_unicode_utf8_acceptRanges), ("unicode/utf8.first", laid_unicode_utf8_first)] }
def ImageDecodesSaid : Prop := imageDecodesRow.holds Tryd.pinned (OpenSpec.ofChange imageDecodesSpec)

/-- ITS FALSE NEIGHBOUR: 'it returns false'. Refute it at one input. -/
def imageDecodesWrong : ChangeSpec := { name := "imageDecodes", fn := fun _ => fun
  | [d] => { results := [.lit (.bool false)], args := [d] }
  | _ => none }
def ImageDecodesWrongFalsely : Prop := imageDecodesRow.holds Tryd.pinned (OpenSpec.ofChange imageDecodesWrong)

/-- 'socagelaw06.BranchReads': WHATEVER THE INPUT: true; the input reads as it did. -/
def branchReadsSpec : ChangeSpec := { name := "branchReads", fn := fun _ => fun
  | [d1, d2, d3] => { results := [.lit (.bool true)], args := [d1, d2, d3] }
  | _ => none }
def branchReadsRow : OpenClaim := { program := "ytmmpceodhadipaadoor", sum := "2b16b9b9a432580f717c4d026e85dcdf0f263d7ff120c9f66238991b55fa1f4f", func := "socage/socagelaw06.BranchReads", spec := "branchReads", inPlace := ["internal/bytealg.IndexByteString", "internal/bytealg.CountString", "internal/bytealg.IndexString"], unfollowed := true, recurses := true, named := ["unicode/utf8.first", "unicode/utf8.acceptRanges", "internal/bytealg.MaxLen"], loops := true, apart := false, laid := [("unicode/utf8.acceptRanges", laid_unicode_utf8_acceptRanges), ("unicode/utf8.first", laid_unicode_utf8_first)] }
def BranchReadsSaid : Prop := branchReadsRow.holds Tryd.pinned (OpenSpec.ofChange branchReadsSpec)

/-- ITS FALSE NEIGHBOUR: 'it returns false'. Refute it at one input. -/
def branchReadsWrong : ChangeSpec := { name := "branchReads", fn := fun _ => fun
  | [d1, d2, d3] => { results := [.lit (.bool false)], args := [d1, d2, d3] }
  | _ => none }
def BranchReadsWrongFalsely : Prop := branchReadsRow.holds Tryd.pinned (OpenSpec.ofChange branchReadsWrong)

/-- 'socagetop.WholeImages': WHATEVER THE INPUT: true; the input reads as it did. -/
def wholeImagesSpec : ChangeSpec := { name := "wholeImages", fn := fun _ => fun
  | [d] => { results := [.lit (.bool true)], args := [d] }
  | _ => none }
def wholeImagesRow : OpenClaim := { program := "ytmmpceodhadipaadoor", sum := "2b16b9b9a432580f717c4d026e85dcdf0f263d7ff120c9f66238991b55fa1f4f", func := "socage/socagetop.WholeImages", spec := "wholeImages", inPlace := ["internal/bytealg.IndexByteString", "internal/bytealg.CountString", "internal/bytealg.IndexString"], unfollowed := true, recurses := true, named := ["unicode/utf8.first", "unicode/utf8.acceptRanges", "internal/bytealg.MaxLen"], loops := true, apart := false, laid := [("unicode/utf8.acceptRanges", laid_unicode_utf8_acceptRanges), ("unicode/utf8.first", laid_unicode_utf8_first)] }
def WholeImagesSaid : Prop := wholeImagesRow.holds Tryd.pinned (OpenSpec.ofChange wholeImagesSpec)

/-- ITS FALSE NEIGHBOUR: 'it returns false'. Refute it at one input. -/
def wholeImagesWrong : ChangeSpec := { name := "wholeImages", fn := fun _ => fun
  | [d] => { results := [.lit (.bool false)], args := [d] }
  | _ => none }
def WholeImagesWrongFalsely : Prop := wholeImagesRow.holds Tryd.pinned (OpenSpec.ofChange wholeImagesWrong)

/-- 'socagelaw10.MergePages': WHATEVER THE INPUT: true; the input reads as it did. -/
def mergePagesSpec : ChangeSpec := { name := "mergePages", fn := fun _ => fun
  | [d1, d2] => { results := [.lit (.bool true)], args := [d1, d2] }
  | _ => none }
def mergePagesRow : OpenClaim := { program := "ytmmpceodhadipaadoor", sum := "2b16b9b9a432580f717c4d026e85dcdf0f263d7ff120c9f66238991b55fa1f4f", func := "socage/socagelaw10.MergePages", spec := "mergePages", inPlace := ["internal/bytealg.IndexByteString", "internal/bytealg.CountString", "internal/bytealg.IndexString", "internal/bytealg.abigen_runtime_cmpstring"], unfollowed := true, recurses := true, named := ["unicode/utf8.first", "unicode/utf8.acceptRanges", "internal/bytealg.MaxLen"], apart := false, laid := [("unicode/utf8.acceptRanges", laid_unicode_utf8_acceptRanges), ("unicode/utf8.first", laid_unicode_utf8_first)] }
def MergePagesSaid : Prop := mergePagesRow.holds Tryd.pinned (OpenSpec.ofChange mergePagesSpec)

/-- ITS FALSE NEIGHBOUR: 'it returns false'. Refute it at one input. -/
def mergePagesWrong : ChangeSpec := { name := "mergePages", fn := fun _ => fun
  | [d1, d2] => { results := [.lit (.bool false)], args := [d1, d2] }
  | _ => none }
def MergePagesWrongFalsely : Prop := mergePagesRow.holds Tryd.pinned (OpenSpec.ofChange mergePagesWrong)

/-- 'socagelaw10.MergeOdd': WHATEVER THE INPUT: true; the input reads as it did. -/
def mergeOddSpec : ChangeSpec := { name := "mergeOdd", fn := fun _ => fun
  | [d1, d2, d3] => { results := [.lit (.bool true)], args := [d1, d2, d3] }
  | _ => none }
def mergeOddRow : OpenClaim := { program := "ytmmpceodhadipaadoor", sum := "2b16b9b9a432580f717c4d026e85dcdf0f263d7ff120c9f66238991b55fa1f4f", func := "socage/socagelaw10.MergeOdd", spec := "mergeOdd", inPlace := ["internal/bytealg.IndexByteString", "internal/bytealg.CountString", "internal/bytealg.IndexString", "internal/bytealg.abigen_runtime_cmpstring"], unfollowed := true, recurses := true, named := ["unicode/utf8.first", "unicode/utf8.acceptRanges", "internal/bytealg.MaxLen"], apart := false, laid := [("unicode/utf8.acceptRanges", laid_unicode_utf8_acceptRanges), ("unicode/utf8.first", laid_unicode_utf8_first)] }
def MergeOddSaid : Prop := mergeOddRow.holds Tryd.pinned (OpenSpec.ofChange mergeOddSpec)

/-- ITS FALSE NEIGHBOUR: 'it returns false'. Refute it at one input. -/
def mergeOddWrong : ChangeSpec := { name := "mergeOdd", fn := fun _ => fun
  | [d1, d2, d3] => { results := [.lit (.bool false)], args := [d1, d2, d3] }
  | _ => none }
def MergeOddWrongFalsely : Prop := mergeOddRow.holds Tryd.pinned (OpenSpec.ofChange mergeOddWrong)

/- THE SECOND FORM. 'bulk': how many values and letters a reading holds, each counted each time it is reached (what is shared counts as often as it is met; a slice's spare places count too). A statement '..UptoSaid' is the law's where the arguments, and the package variables that the reading takes, are together of bulk at most 1048576: NARROWER than '..Said'. Prove '..Said' where nothing that the law and all that it calls make is longer than what came in: it says more and counts as full. Else prove '..UptoSaid'. A law counts once. -/
mutual
def uptoBulk {H : Type} : DataW H → Nat
  | .lit (.string bytes) => bytes.length + 1
  | .lit _ => 1
  | .nil => 1
  | .ptr d => uptoBulk d + 1
  | .slice elems spare => uptoBulkAll elems + uptoBulkAll spare + 1
  | .agg parts => uptoBulkAll parts + 1
  | .iface _ d => uptoBulk d + 1
  | .map entries => uptoBulkEntries entries + 1
  | .held _ => 1
def uptoBulkAll {H : Type} : List (DataW H) → Nat
  | [] => 0
  | d :: r => uptoBulk d + uptoBulkAll r
def uptoBulkEntries {H : Type} : List (Lit × DataW H) → Nat
  | [] => 0
  | x :: r => uptoBulkEntry x + uptoBulkEntries r
def uptoBulkEntry {H : Type} : Lit × DataW H → Nat
  | (.string bytes, d) => bytes.length + uptoBulk d + 1
  | (_, d) => uptoBulk d + 1
 end
def uptoSmall : (H : Type) → List (DataW H) → Bool := fun _ ds => decide (uptoBulkAll ds ≤ 1048576)
def OpenSpec.upto (s : _root_.Go.ChangeSpec) : _root_.Go.OpenSpec := { _root_.Go.OpenSpec.ofChange s with cond := some uptoSmall }

/-- 'socagelaw08.SeenAll', WHERE WHAT IT READS IS OF BULK AT MOST 1048576: true; the input reads as it did. -/
def seenAllUptoRow : OpenClaim := { program := "ytmmpceodhadipaadoor", sum := "2b16b9b9a432580f717c4d026e85dcdf0f263d7ff120c9f66238991b55fa1f4f", func := "socage/socagelaw08.SeenAll", spec := "seenAll", inPlace := ["internal/bytealg.IndexByteString", "internal/bytealg.CountString", "internal/bytealg.IndexString"], unfollowed := true, recurses := true, named := ["unicode/utf8.first", "unicode/utf8.acceptRanges", "internal/bytealg.MaxLen"], loops := true, apart := false, laid := [("unicode/utf8.acceptRanges", laid_unicode_utf8_acceptRanges), ("unicode/utf8.first", laid_unicode_utf8_first)], narrowed := true }
def SeenAllUptoSaid : Prop := seenAllUptoRow.holds Tryd.pinned (OpenSpec.upto seenAllSpec)

/-- 'socagelaw08.SeenOne', WHERE WHAT IT READS IS OF BULK AT MOST 1048576: true; the input reads as it did. -/
def seenOneUptoRow : OpenClaim := { program := "ytmmpceodhadipaadoor", sum := "2b16b9b9a432580f717c4d026e85dcdf0f263d7ff120c9f66238991b55fa1f4f", func := "socage/socagelaw08.SeenOne", spec := "seenOne", inPlace := ["internal/bytealg.IndexByteString", "internal/bytealg.CountString", "internal/bytealg.IndexString"], unfollowed := true, recurses := true, named := ["unicode/utf8.first", "unicode/utf8.acceptRanges", "internal/bytealg.MaxLen"], loops := true, apart := false, laid := [("unicode/utf8.acceptRanges", laid_unicode_utf8_acceptRanges), ("unicode/utf8.first", laid_unicode_utf8_first)], narrowed := true }
def SeenOneUptoSaid : Prop := seenOneUptoRow.holds Tryd.pinned (OpenSpec.upto seenOneSpec)

/-- 'socagetop.WholeUpper', WHERE WHAT IT READS IS OF BULK AT MOST 1048576: true; the input reads as it did. -/
def wholeUpperUptoRow : OpenClaim := { program := "ytmmpceodhadipaadoor", sum := "2b16b9b9a432580f717c4d026e85dcdf0f263d7ff120c9f66238991b55fa1f4f", func := "socage/socagetop.WholeUpper", spec := "wholeUpper", inPlace := ["internal/bytealg.IndexByteString", "internal/bytealg.CountString", "internal/bytealg.IndexString"], unfollowed := true, recurses := true, named := ["unicode/utf8.first", "unicode/utf8.acceptRanges", "internal/bytealg.MaxLen"], loops := true, apart := false, laid := [("unicode/utf8.acceptRanges", laid_unicode_utf8_acceptRanges), ("unicode/utf8.first", laid_unicode_utf8_first)], narrowed := true }
def WholeUpperUptoSaid : Prop := wholeUpperUptoRow.holds Tryd.pinned (OpenSpec.upto wholeUpperSpec)

/-- 'socagelaw05.ImageDecodes', WHERE WHAT IT READS IS OF BULK AT MOST 1048576: true; the input reads as it did. -/
def imageDecodesUptoRow : OpenClaim := { program := "ytmmpceodhadipaadoor", sum := "2b16b9b9a432580f717c4d026e85dcdf0f263d7ff120c9f66238991b55fa1f4f", func := "socage/socagelaw05.ImageDecodes", spec := "imageDecodes", inPlace := ["internal/bytealg.IndexByteString", "internal/bytealg.CountString", "internal/bytealg.IndexString"], unfollowed := true, recurses := true, named := ["unicode/utf8.first", "unicode/utf8.acceptRanges", "internal/bytealg.MaxLen"], apart := false, laid := [("unicode/utf8.acceptRanges", laid_unicode_utf8_acceptRanges), ("unicode/utf8.first", laid_unicode_utf8_first)], narrowed := true }
def ImageDecodesUptoSaid : Prop := imageDecodesUptoRow.holds Tryd.pinned (OpenSpec.upto imageDecodesSpec)

/-- 'socagelaw06.BranchReads', WHERE WHAT IT READS IS OF BULK AT MOST 1048576: true; the input reads as it did. -/
def branchReadsUptoRow : OpenClaim := { program := "ytmmpceodhadipaadoor", sum := "2b16b9b9a432580f717c4d026e85dcdf0f263d7ff120c9f66238991b55fa1f4f", func := "socage/socagelaw06.BranchReads", spec := "branchReads", inPlace := ["internal/bytealg.IndexByteString", "internal/bytealg.CountString", "internal/bytealg.IndexString"], unfollowed := true, recurses := true, named := ["unicode/utf8.first", "unicode/utf8.acceptRanges", "internal/bytealg.MaxLen"], loops := true, apart := false, laid := [("unicode/utf8.acceptRanges", laid_unicode_utf8_acceptRanges), ("unicode/utf8.first", laid_unicode_utf8_first)], narrowed := true }
def BranchReadsUptoSaid : Prop := branchReadsUptoRow.holds Tryd.pinned (OpenSpec.upto branchReadsSpec)

/-- 'socagetop.WholeImages', WHERE WHAT IT READS IS OF BULK AT MOST 1048576: true; the input reads as it did. -/
def wholeImagesUptoRow : OpenClaim := { program := "ytmmpceodhadipaadoor", sum := "2b16b9b9a432580f717c4d026e85dcdf0f263d7ff120c9f66238991b55fa1f4f", func := "socage/socagetop.WholeImages", spec := "wholeImages", inPlace := ["internal/bytealg.IndexByteString", "internal/bytealg.CountString", "internal/bytealg.IndexString"], unfollowed := true, recurses := true, named := ["unicode/utf8.first", "unicode/utf8.acceptRanges", "internal/bytealg.MaxLen"], loops := true, apart := false, laid := [("unicode/utf8.acceptRanges", laid_unicode_utf8_acceptRanges), ("unicode/utf8.first", laid_unicode_utf8_first)], narrowed := true }
def WholeImagesUptoSaid : Prop := wholeImagesUptoRow.holds Tryd.pinned (OpenSpec.upto wholeImagesSpec)

/-- 'socagelaw10.MergePages', WHERE WHAT IT READS IS OF BULK AT MOST 1048576: true; the input reads as it did. -/
def mergePagesUptoRow : OpenClaim := { program := "ytmmpceodhadipaadoor", sum := "2b16b9b9a432580f717c4d026e85dcdf0f263d7ff120c9f66238991b55fa1f4f", func := "socage/socagelaw10.MergePages", spec := "mergePages", inPlace := ["internal/bytealg.IndexByteString", "internal/bytealg.CountString", "internal/bytealg.IndexString", "internal/bytealg.abigen_runtime_cmpstring"], unfollowed := true, recurses := true, named := ["unicode/utf8.first", "unicode/utf8.acceptRanges", "internal/bytealg.MaxLen"], apart := false, laid := [("unicode/utf8.acceptRanges", laid_unicode_utf8_acceptRanges), ("unicode/utf8.first", laid_unicode_utf8_first)], narrowed := true }
def MergePagesUptoSaid : Prop := mergePagesUptoRow.holds Tryd.pinned (OpenSpec.upto mergePagesSpec)

/-- 'socagelaw10.MergeOdd', WHERE WHAT IT READS IS OF BULK AT MOST 1048576: true; the input reads as it did. -/
def mergeOddUptoRow : OpenClaim := { program := "ytmmpceodhadipaadoor", sum := "2b16b9b9a432580f717c4d026e85dcdf0f263d7ff120c9f66238991b55fa1f4f", func := "socage/socagelaw10.MergeOdd", spec := "mergeOdd", inPlace := ["internal/bytealg.IndexByteString", "internal/bytealg.CountString", "internal/bytealg.IndexString", "internal/bytealg.abigen_runtime_cmpstring"], unfollowed := true, recurses := true, named := ["unicode/utf8.first", "unicode/utf8.acceptRanges", "internal/bytealg.MaxLen"], apart := false, laid := [("unicode/utf8.acceptRanges", laid_unicode_utf8_acceptRanges), ("unicode/utf8.first", laid_unicode_utf8_first)], narrowed := true }
def MergeOddUptoSaid : Prop := mergeOddUptoRow.holds Tryd.pinned (OpenSpec.upto mergeOddSpec)

end Rows
end Go.Proofs.YtmmpceodhadipaaDoor
