/-
  No cell of these rows narrows 'for every input' (looked for: loops, veiled, ifaces, maps, wideKeys, modest, calm, conditions, laid).
  DERIVED. THE GIVEN ROWS OF THIS SEAT. 5 by the template 'for every input the law returns true; each argument reads behind the call as it read before'; 0 by the template 'total and deterministic' (their statements: YthhcbmljckgncaaTotals.lean).
  GIVEN WITH THE SEED: the statements are not yours to turn. If you find one false, say at which input.
  Laid BY PROGRAM, IN A SANDBOX (cutbox-rows.mjs): the forced cells as the released guide's own fill.sh prints them over the translation 6f317e5fc09bbb47… (all of the seat's roots in one cut). By AI agents, Wed Nov 11 2026. No macro, syntax, notation, axiom, sorry.
-/
import Derived.Test.YthhcbmljckgncaaChecked
import GoSem.Claim
import GoSem.ClaimJoined
import GoSem.ClaimMapViews
import Derived.JoinedTies
import Derived.KernelRfl
namespace Go.Proofs.Ythhcbmljckgncaa
/- THE CELL 'sum', in the pinned program and in every row, IS THE sha256 OF THE DUMP (.gsa) THAT YthhcbmljckgncaaProg.lean LOADS. Nothing in Lean hashes anything: it is a label: what it is worth is what the hold of that sum in a sandbox is worth. -/
noncomputable def Try.pinned : Pinned := { name := "ythhcbmljckgncaa", sum := "6f317e5fc09bbb47a2b36533ad743c2a3a2311c2c4eda632ce2447e3e180dfea", checked := Try.checked }
namespace Rows
def none {H : Type} : Left H := { results := [], args := [] }

/-- 'socagelaw15.DcacheDoes': WHATEVER THE INPUT: true; the input reads as it did. -/
def dcacheDoesSpec : ChangeSpec := { name := "dcacheDoes", fn := fun _ => fun
  | [d1, d2] => { results := [.lit (.bool true)], args := [d1, d2] }
  | _ => none }
def dcacheDoesRow : OpenClaim := { program := "ythhcbmljckgncaa", sum := "6f317e5fc09bbb47a2b36533ad743c2a3a2311c2c4eda632ce2447e3e180dfea", func := "socage/socagelaw15.DcacheDoes", spec := "dcacheDoes", unfollowed := true, recurses := true, apart := false }
def DcacheDoesSaid : Prop := dcacheDoesRow.holds Try.pinned (OpenSpec.ofChange dcacheDoesSpec)

/-- ITS FALSE NEIGHBOUR: 'it returns false'. Refute it at one input. -/
def dcacheDoesWrong : ChangeSpec := { name := "dcacheDoes", fn := fun _ => fun
  | [d1, d2] => { results := [.lit (.bool false)], args := [d1, d2] }
  | _ => none }
def DcacheDoesWrongFalsely : Prop := dcacheDoesRow.holds Try.pinned (OpenSpec.ofChange dcacheDoesWrong)

/-- 'socagelaw15.DcacheOwn': WHATEVER THE INPUT: true; the input reads as it did. -/
def dcacheOwnSpec : ChangeSpec := { name := "dcacheOwn", fn := fun _ => fun
  | [d] => { results := [.lit (.bool true)], args := [d] }
  | _ => none }
def dcacheOwnRow : OpenClaim := { program := "ythhcbmljckgncaa", sum := "6f317e5fc09bbb47a2b36533ad743c2a3a2311c2c4eda632ce2447e3e180dfea", func := "socage/socagelaw15.DcacheOwn", spec := "dcacheOwn", unfollowed := true, recurses := true, apart := false }
def DcacheOwnSaid : Prop := dcacheOwnRow.holds Try.pinned (OpenSpec.ofChange dcacheOwnSpec)

/-- ITS FALSE NEIGHBOUR: 'it returns false'. Refute it at one input. -/
def dcacheOwnWrong : ChangeSpec := { name := "dcacheOwn", fn := fun _ => fun
  | [d] => { results := [.lit (.bool false)], args := [d] }
  | _ => none }
def DcacheOwnWrongFalsely : Prop := dcacheOwnRow.holds Try.pinned (OpenSpec.ofChange dcacheOwnWrong)

/-- 'socagelaw16.LcacheDoes': WHATEVER THE INPUT: true; the input reads as it did. -/
def lcacheDoesSpec : ChangeSpec := { name := "lcacheDoes", fn := fun _ => fun
  | [d1, d2] => { results := [.lit (.bool true)], args := [d1, d2] }
  | _ => none }
def lcacheDoesRow : OpenClaim := { program := "ythhcbmljckgncaa", sum := "6f317e5fc09bbb47a2b36533ad743c2a3a2311c2c4eda632ce2447e3e180dfea", func := "socage/socagelaw16.LcacheDoes", spec := "lcacheDoes", unfollowed := true, recurses := true, apart := false }
def LcacheDoesSaid : Prop := lcacheDoesRow.holds Try.pinned (OpenSpec.ofChange lcacheDoesSpec)

/-- ITS FALSE NEIGHBOUR: 'it returns false'. Refute it at one input. -/
def lcacheDoesWrong : ChangeSpec := { name := "lcacheDoes", fn := fun _ => fun
  | [d1, d2] => { results := [.lit (.bool false)], args := [d1, d2] }
  | _ => none }
def LcacheDoesWrongFalsely : Prop := lcacheDoesRow.holds Try.pinned (OpenSpec.ofChange lcacheDoesWrong)

/-- 'socagelaw16.LcacheOnce': WHATEVER THE INPUT: true; the input reads as it did. -/
def lcacheOnceSpec : ChangeSpec := { name := "lcacheOnce", fn := fun _ => fun
  | [d1, d2] => { results := [.lit (.bool true)], args := [d1, d2] }
  | _ => none }
def lcacheOnceRow : OpenClaim := { program := "ythhcbmljckgncaa", sum := "6f317e5fc09bbb47a2b36533ad743c2a3a2311c2c4eda632ce2447e3e180dfea", func := "socage/socagelaw16.LcacheOnce", spec := "lcacheOnce", unfollowed := true, recurses := true, apart := false }
def LcacheOnceSaid : Prop := lcacheOnceRow.holds Try.pinned (OpenSpec.ofChange lcacheOnceSpec)

/-- ITS FALSE NEIGHBOUR: 'it returns false'. Refute it at one input. -/
def lcacheOnceWrong : ChangeSpec := { name := "lcacheOnce", fn := fun _ => fun
  | [d1, d2] => { results := [.lit (.bool false)], args := [d1, d2] }
  | _ => none }
def LcacheOnceWrongFalsely : Prop := lcacheOnceRow.holds Try.pinned (OpenSpec.ofChange lcacheOnceWrong)

/-- 'socagetop.WholeEpochs': WHATEVER THE INPUT: true; the input reads as it did. -/
def wholeEpochsSpec : ChangeSpec := { name := "wholeEpochs", fn := fun _ => fun
  | [d1, d2, d3] => { results := [.lit (.bool true)], args := [d1, d2, d3] }
  | _ => none }
def wholeEpochsRow : OpenClaim := { program := "ythhcbmljckgncaa", sum := "6f317e5fc09bbb47a2b36533ad743c2a3a2311c2c4eda632ce2447e3e180dfea", func := "socage/socagetop.WholeEpochs", spec := "wholeEpochs", unfollowed := true, recurses := true, apart := false }
def WholeEpochsSaid : Prop := wholeEpochsRow.holds Try.pinned (OpenSpec.ofChange wholeEpochsSpec)

/-- ITS FALSE NEIGHBOUR: 'it returns false'. Refute it at one input. -/
def wholeEpochsWrong : ChangeSpec := { name := "wholeEpochs", fn := fun _ => fun
  | [d1, d2, d3] => { results := [.lit (.bool false)], args := [d1, d2, d3] }
  | _ => none }
def WholeEpochsWrongFalsely : Prop := wholeEpochsRow.holds Try.pinned (OpenSpec.ofChange wholeEpochsWrong)

/- THE SECOND FORM. 'bulk': how many values and letters a reading holds, each counted each time it is reached (what is shared counts as often as it is met; a slice's spare places count too). A statement '..UptoSaid' is the law's where the arguments, and the package variables that the reading takes, are together of bulk at most 1048576: NARROWER than '..Said'. Prove '..Said' where nothing that the law and all that it calls make is longer than what came in: it says more and counts as full. Else prove '..UptoSaid'. A law counts once. -/
mutual
def uptoBulk {H : Type} : DataW H → Nat
  | .lit (.string bytes) => bytes.length + 1
  | .lit _ => 1
  | .nil => 1
  | .ptr d => uptoBulk d + 1
  | .slice elems spare => uptoBulkAll elems + uptoBulkAll spare + 1
  | .agg parts => uptoBulkAll parts + 1
  | .iface _ d => uptoBulk d + 1
  | .map entries => uptoBulkEntries entries + 1
  | .held _ => 1
def uptoBulkAll {H : Type} : List (DataW H) → Nat
  | [] => 0
  | d :: r => uptoBulk d + uptoBulkAll r
def uptoBulkEntries {H : Type} : List (Lit × DataW H) → Nat
  | [] => 0
  | x :: r => uptoBulkEntry x + uptoBulkEntries r
def uptoBulkEntry {H : Type} : Lit × DataW H → Nat
  | (.string bytes, d) => bytes.length + uptoBulk d + 1
  | (_, d) => uptoBulk d + 1
 end
def uptoSmall : (H : Type) → List (DataW H) → Bool := fun _ ds => decide (uptoBulkAll ds ≤ 1048576)
def OpenSpec.upto (s : _root_.Go.ChangeSpec) : _root_.Go.OpenSpec := { _root_.Go.OpenSpec.ofChange s with cond := some uptoSmall }

/-- 'socagelaw15.DcacheDoes', WHERE WHAT IT READS IS OF BULK AT MOST 1048576: true; the input reads as it did. -/
def dcacheDoesUptoRow : OpenClaim := { program := "ythhcbmljckgncaa", sum := "6f317e5fc09bbb47a2b36533ad743c2a3a2311c2c4eda632ce2447e3e180dfea", func := "socage/socagelaw15.DcacheDoes", spec := "dcacheDoes", unfollowed := true, recurses := true, apart := false, narrowed := true }
def DcacheDoesUptoSaid : Prop := dcacheDoesUptoRow.holds Try.pinned (OpenSpec.upto dcacheDoesSpec)

/-- 'socagelaw15.DcacheOwn', WHERE WHAT IT READS IS OF BULK AT MOST 1048576: true; the input reads as it did. -/
def dcacheOwnUptoRow : OpenClaim := { program := "ythhcbmljckgncaa", sum := "6f317e5fc09bbb47a2b36533ad743c2a3a2311c2c4eda632ce2447e3e180dfea", func := "socage/socagelaw15.DcacheOwn", spec := "dcacheOwn", unfollowed := true, recurses := true, apart := false, narrowed := true }
def DcacheOwnUptoSaid : Prop := dcacheOwnUptoRow.holds Try.pinned (OpenSpec.upto dcacheOwnSpec)

/-- 'socagelaw16.LcacheDoes', WHERE WHAT IT READS IS OF BULK AT MOST 1048576: true; the input reads as it did. -/
def lcacheDoesUptoRow : OpenClaim := { program := "ythhcbmljckgncaa", sum := "6f317e5fc09bbb47a2b36533ad743c2a3a2311c2c4eda632ce2447e3e180dfea", func := "socage/socagelaw16.LcacheDoes", spec := "lcacheDoes", unfollowed := true, recurses := true, apart := false, narrowed := true }
def LcacheDoesUptoSaid : Prop := lcacheDoesUptoRow.holds Try.pinned (OpenSpec.upto lcacheDoesSpec)

/-- 'socagelaw16.LcacheOnce', WHERE WHAT IT READS IS OF BULK AT MOST 1048576: true; the input reads as it did. -/
def lcacheOnceUptoRow : OpenClaim := { program := "ythhcbmljckgncaa", sum := "6f317e5fc09bbb47a2b36533ad743c2a3a2311c2c4eda632ce2447e3e180dfea", func := "socage/socagelaw16.LcacheOnce", spec := "lcacheOnce", unfollowed := true, recurses := true, apart := false, narrowed := true }
def LcacheOnceUptoSaid : Prop := lcacheOnceUptoRow.holds Try.pinned (OpenSpec.upto lcacheOnceSpec)

/-- 'socagetop.WholeEpochs', WHERE WHAT IT READS IS OF BULK AT MOST 1048576: true; the input reads as it did. -/
def wholeEpochsUptoRow : OpenClaim := { program := "ythhcbmljckgncaa", sum := "6f317e5fc09bbb47a2b36533ad743c2a3a2311c2c4eda632ce2447e3e180dfea", func := "socage/socagetop.WholeEpochs", spec := "wholeEpochs", unfollowed := true, recurses := true, apart := false, narrowed := true }
def WholeEpochsUptoSaid : Prop := wholeEpochsUptoRow.holds Try.pinned (OpenSpec.upto wholeEpochsSpec)

end Rows
end Go.Proofs.Ythhcbmljckgncaa
