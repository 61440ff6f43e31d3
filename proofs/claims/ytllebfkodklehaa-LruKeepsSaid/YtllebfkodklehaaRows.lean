/-
  No cell of these rows narrows 'for every input' (looked for: loops, veiled, ifaces, maps, wideKeys, modest, calm, conditions, laid).
  DERIVED. THE GIVEN ROWS OF THIS SEAT. 5 by the template 'for every input the law returns true; each argument reads behind the call as it read before'; 0 by the template 'total and deterministic' (their statements: YtllebfkodklehaaTotals.lean).
  GIVEN WITH THE SEED: the statements are not yours to turn. If you find one false, say at which input.
  Laid BY PROGRAM, IN A SANDBOX (cutbox-rows.mjs): the forced cells as the released guide's own fill.sh prints them over the translation 33125f831cce82f2… (all of the seat's roots in one cut). By AI agents, Wed Nov 11 2026. No macro, syntax, notation, axiom, sorry.
-/
import Derived.Test.YtllebfkodklehaaChecked
import GoSem.Claim
import GoSem.ClaimJoined
import GoSem.ClaimMapViews
import Derived.JoinedTies
import Derived.KernelRfl
namespace Go.Proofs.Ytllebfkodklehaa
/- THE CELL 'sum', in the pinned program and in every row, IS THE sha256 OF THE DUMP (.gsa) THAT YtllebfkodklehaaProg.lean LOADS. Nothing in Lean hashes anything: it is a label: what it is worth is what the hold of that sum in a sandbox is worth. -/
noncomputable def Try.pinned : Pinned := { name := "ytllebfkodklehaa", sum := "33125f831cce82f27aecadfb963c6aeab2c0efe5995d68c68f74b3a03c8eb2d8", checked := Try.checked }
namespace Rows
def none {H : Type} : Left H := { results := [], args := [] }

/-- 'socagelaw13.LruDoes': WHATEVER THE INPUT: true; the input reads as it did. -/
def lruDoesSpec : ChangeSpec := { name := "lruDoes", fn := fun _ => fun
  | [d1, d2] => { results := [.lit (.bool true)], args := [d1, d2] }
  | _ => none }
def lruDoesRow : OpenClaim := { program := "ytllebfkodklehaa", sum := "33125f831cce82f27aecadfb963c6aeab2c0efe5995d68c68f74b3a03c8eb2d8", func := "socage/socagelaw13.LruDoes", spec := "lruDoes", unfollowed := true, recurses := true, apart := false }
def LruDoesSaid : Prop := lruDoesRow.holds Try.pinned (OpenSpec.ofChange lruDoesSpec)

/-- ITS FALSE NEIGHBOUR: 'it returns false'. Refute it at one input. -/
def lruDoesWrong : ChangeSpec := { name := "lruDoes", fn := fun _ => fun
  | [d1, d2] => { results := [.lit (.bool false)], args := [d1, d2] }
  | _ => none }
def LruDoesWrongFalsely : Prop := lruDoesRow.holds Try.pinned (OpenSpec.ofChange lruDoesWrong)

/-- 'socagelaw13.LruKeeps': WHATEVER THE INPUT: true; the input reads as it did. -/
def lruKeepsSpec : ChangeSpec := { name := "lruKeeps", fn := fun _ => fun
  | [d1, d2] => { results := [.lit (.bool true)], args := [d1, d2] }
  | _ => none }
def lruKeepsRow : OpenClaim := { program := "ytllebfkodklehaa", sum := "33125f831cce82f27aecadfb963c6aeab2c0efe5995d68c68f74b3a03c8eb2d8", func := "socage/socagelaw13.LruKeeps", spec := "lruKeeps", unfollowed := true, recurses := true, apart := false }
def LruKeepsSaid : Prop := lruKeepsRow.holds Try.pinned (OpenSpec.ofChange lruKeepsSpec)

/-- ITS FALSE NEIGHBOUR: 'it returns false'. Refute it at one input. -/
def lruKeepsWrong : ChangeSpec := { name := "lruKeeps", fn := fun _ => fun
  | [d1, d2] => { results := [.lit (.bool false)], args := [d1, d2] }
  | _ => none }
def LruKeepsWrongFalsely : Prop := lruKeepsRow.holds Try.pinned (OpenSpec.ofChange lruKeepsWrong)

/-- 'socagelaw14.ShardSums': WHATEVER THE INPUT: true; the input reads as it did. -/
def shardSumsSpec : ChangeSpec := { name := "shardSums", fn := fun _ => fun
  | [d1, d2] => { results := [.lit (.bool true)], args := [d1, d2] }
  | _ => none }
def shardSumsRow : OpenClaim := { program := "ytllebfkodklehaa", sum := "33125f831cce82f27aecadfb963c6aeab2c0efe5995d68c68f74b3a03c8eb2d8", func := "socage/socagelaw14.ShardSums", spec := "shardSums", unfollowed := true, recurses := true, apart := false }
def ShardSumsSaid : Prop := shardSumsRow.holds Try.pinned (OpenSpec.ofChange shardSumsSpec)

/-- ITS FALSE NEIGHBOUR: 'it returns false'. Refute it at one input. -/
def shardSumsWrong : ChangeSpec := { name := "shardSums", fn := fun _ => fun
  | [d1, d2] => { results := [.lit (.bool false)], args := [d1, d2] }
  | _ => none }
def ShardSumsWrongFalsely : Prop := shardSumsRow.holds Try.pinned (OpenSpec.ofChange shardSumsWrong)

/-- 'socagelaw14.ShardDoes': WHATEVER THE INPUT: true; the input reads as it did. -/
def shardDoesSpec : ChangeSpec := { name := "shardDoes", fn := fun _ => fun
  | [d1, d2] => { results := [.lit (.bool true)], args := [d1, d2] }
  | _ => none }
def shardDoesRow : OpenClaim := { program := "ytllebfkodklehaa", sum := "33125f831cce82f27aecadfb963c6aeab2c0efe5995d68c68f74b3a03c8eb2d8", func := "socage/socagelaw14.ShardDoes", spec := "shardDoes", unfollowed := true, recurses := true, apart := false }
def ShardDoesSaid : Prop := shardDoesRow.holds Try.pinned (OpenSpec.ofChange shardDoesSpec)

/-- ITS FALSE NEIGHBOUR: 'it returns false'. Refute it at one input. -/
def shardDoesWrong : ChangeSpec := { name := "shardDoes", fn := fun _ => fun
  | [d1, d2] => { results := [.lit (.bool false)], args := [d1, d2] }
  | _ => none }
def ShardDoesWrongFalsely : Prop := shardDoesRow.holds Try.pinned (OpenSpec.ofChange shardDoesWrong)

/-- 'socagetop.WholeRoom': WHATEVER THE INPUT: true; the input reads as it did. -/
def wholeRoomSpec : ChangeSpec := { name := "wholeRoom", fn := fun _ => fun
  | [d1, d2, d3] => { results := [.lit (.bool true)], args := [d1, d2, d3] }
  | _ => none }
def wholeRoomRow : OpenClaim := { program := "ytllebfkodklehaa", sum := "33125f831cce82f27aecadfb963c6aeab2c0efe5995d68c68f74b3a03c8eb2d8", func := "socage/socagetop.WholeRoom", spec := "wholeRoom", unfollowed := true, recurses := true, apart := false }
def WholeRoomSaid : Prop := wholeRoomRow.holds Try.pinned (OpenSpec.ofChange wholeRoomSpec)

/-- ITS FALSE NEIGHBOUR: 'it returns false'. Refute it at one input. -/
def wholeRoomWrong : ChangeSpec := { name := "wholeRoom", fn := fun _ => fun
  | [d1, d2, d3] => { results := [.lit (.bool false)], args := [d1, d2, d3] }
  | _ => none }
def WholeRoomWrongFalsely : Prop := wholeRoomRow.holds Try.pinned (OpenSpec.ofChange wholeRoomWrong)

/- THE SECOND FORM. 'bulk': how many values and letters a reading holds, each counted each time it is reached (what is shared counts as often as it is met; a slice's spare places count too). A statement '..UptoSaid' is the law's where the arguments, and the package variables that the reading takes, are together of bulk at most 1048576: NARROWER than '..Said'. Prove '..Said' where nothing that the law and all that it calls make is longer than what came in: it says more and counts as full. Else prove '..UptoSaid'. A law counts once. -/
mutual
def uptoBulk {H : Type} : DataW H → Nat
  | .lit (.string bytes) => bytes.length + 1
  | .lit _ => 1
  | .nil => 1
  | .ptr d => uptoBulk d + 1
  | .slice elems spare => uptoBulkAll elems + uptoBulkAll spare + 1
  | .agg parts => uptoBulkAll parts + 1
  | .iface _ d => uptoBulk d + 1
  | .map entries => uptoBulkEntries entries + 1
  | .held _ => 1
def uptoBulkAll {H : Type} : List (DataW H) → Nat
  | [] => 0
  | d :: r => uptoBulk d + uptoBulkAll r
def uptoBulkEntries {H : Type} : List (Lit × DataW H) → Nat
  | [] => 0
  | x :: r => uptoBulkEntry x + uptoBulkEntries r
def uptoBulkEntry {H : Type} : Lit × DataW H → Nat
  | (.string bytes, d) => bytes.length + uptoBulk d + 1
  | (_, d) => uptoBulk d + 1
 end
def uptoSmall : (H : Type) → List (DataW H) → Bool := fun _ ds => decide (uptoBulkAll ds ≤ 1048576)
def OpenSpec.upto (s : _root_.Go.ChangeSpec) : _root_.Go.OpenSpec := { _root_.Go.OpenSpec.ofChange s with cond := some uptoSmall }

/-- 'socagelaw13.LruDoes', WHERE WHAT IT READS IS OF BULK AT MOST 1048576: true; the input reads as it did. -/
def lruDoesUptoRow : OpenClaim := { program := "ytllebfkodklehaa", sum := "33125f831cce82f27aecadfb963c6aeab2c0efe5995d68c68f74b3a03c8eb2d8", func := "socage/socagelaw13.LruDoes", spec := "lruDoes", unfollowed := true, recurses := true, apart := false, narrowed := true }
def LruDoesUptoSaid : Prop := lruDoesUptoRow.holds Try.pinned (OpenSpec.upto lruDoesSpec)

/-- 'socagelaw13.LruKeeps', WHERE WHAT IT READS IS OF BULK AT MOST 1048576: true; the input reads as it did. -/
def lruKeepsUptoRow : OpenClaim := { program := "ytllebfkodklehaa", sum := "33125f831cce82f27aecadfb963c6aeab2c0efe5995d68c68f74b3a03c8eb2d8", func := "socage/socagelaw13.LruKeeps", spec := "lruKeeps", unfollowed := true, recurses := true, apart := false, narrowed := true }
def LruKeepsUptoSaid : Prop := lruKeepsUptoRow.holds Try.pinned (OpenSpec.upto lruKeepsSpec)

/-- 'socagelaw14.ShardSums', WHERE WHAT IT READS IS OF BULK AT MOST 1048576: true; the input reads as it did. -/
def shardSumsUptoRow : OpenClaim := { program := "ytllebfkodklehaa", sum := "33125f831cce82f27aecadfb963c6aeab2c0efe5995d68c68f74b3a03c8eb2d8", func := "socage/socagelaw14.ShardSums", spec := "shardSums", unfollowed := true, recurses := true, apart := false, narrowed := true }
def ShardSumsUptoSaid : Prop := shardSumsUptoRow.holds Try.pinned (OpenSpec.upto shardSumsSpec)

/-- 'socagelaw14.ShardDoes', WHERE WHAT IT READS IS OF BULK AT MOST 1048576: true; the input reads as it did. -/
def shardDoesUptoRow : OpenClaim := { program := "ytllebfkodklehaa", sum := "33125f831cce82f27aecadfb963c6aeab2c0efe5995d68c68f74b3a03c8eb2d8", func := "socage/socagelaw14.ShardDoes", spec := "shardDoes", unfollowed := true, recurses := true, apart := false, narrowed := true }
def ShardDoesUptoSaid : Prop := shardDoesUptoRow.holds Try.pinned (OpenSpec.upto shardDoesSpec)

/-- 'socagetop.WholeRoom', WHERE WHAT IT READS IS OF BULK AT MOST 1048576: true; the input reads as it did. -/
def wholeRoomUptoRow : OpenClaim := { program := "ytllebfkodklehaa", sum := "33125f831cce82f27aecadfb963c6aeab2c0efe5995d68c68f74b3a03c8eb2d8", func := "socage/socagetop.WholeRoom", spec := "wholeRoom", unfollowed := true, recurses := true, apart := false, narrowed := true }
def WholeRoomUptoSaid : Prop := wholeRoomUptoRow.holds Try.pinned (OpenSpec.upto wholeRoomSpec)

end Rows
end Go.Proofs.Ytllebfkodklehaa
