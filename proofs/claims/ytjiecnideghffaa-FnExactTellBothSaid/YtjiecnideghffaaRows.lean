/-
  No cell of these rows narrows 'for every input' (looked for: loops, veiled, ifaces, maps, wideKeys, modest, calm, conditions, laid).
  DERIVED. THE GIVEN ROWS OF THIS SEAT. 11 by the template 'for every input the law returns true; each argument reads behind the call as it read before'; 0 by the template 'total and deterministic' (their statements: YtjiecnideghffaaTotals.lean).
  GIVEN WITH THE SEED: the statements are not yours to turn. If you find one false, say at which input.
  Laid BY PROGRAM, IN A SANDBOX (cutbox-rows.mjs): the forced cells as the released guide's own fill.sh prints them over the translation 362fcf408f2662b1… (all of the seat's roots in one cut). By AI agents, Wed Nov 11 2026. No macro, syntax, notation, axiom, sorry.
-/
import Derived.Test.YtjiecnideghffaaChecked
import GoSem.Claim
import GoSem.ClaimJoined
import GoSem.ClaimMapViews
import Derived.JoinedTies
import Derived.KernelRfl
namespace Go.Proofs.Ytjiecnideghffaa
/- THE CELL 'sum', in the pinned program and in every row, IS THE sha256 OF THE DUMP (.gsa) THAT YtjiecnideghffaaProg.lean LOADS. Nothing in Lean hashes anything: it is a label: what it is worth is what the hold of that sum in a sandbox is worth. -/
noncomputable def Try.pinned : Pinned := { name := "ytjiecnideghffaa", sum := "362fcf408f2662b163f1a686d6fdd222cca9ad493e9d26d93b4f93535a6c2ea9", checked := Try.checked }
namespace Rows
def none {H : Type} : Left H := { results := [], args := [] }

/-- 'laws.FnExactWriteDevice': WHATEVER THE INPUT: true; the input reads as it did. -/
def fnExactWriteDeviceSpec : ChangeSpec := { name := "fnExactWriteDevice", fn := fun _ => fun
  | [d1, d2] => { results := [.lit (.bool true)], args := [d1, d2] }
  | _ => none }
def fnExactWriteDeviceRow : OpenClaim := { program := "ytjiecnideghffaa", sum := "362fcf408f2662b163f1a686d6fdd222cca9ad493e9d26d93b4f93535a6c2ea9", func := "loop.example/streamlayers/laws.FnExactWriteDevice", spec := "fnExactWriteDevice", unfollowed := true, recurses := true, apart := false }
def FnExactWriteDeviceSaid : Prop := fnExactWriteDeviceRow.holds Try.pinned (OpenSpec.ofChange fnExactWriteDeviceSpec)

/-- ITS FALSE NEIGHBOUR: 'it returns false'. Refute it at one input. -/
def fnExactWriteDeviceWrong : ChangeSpec := { name := "fnExactWriteDevice", fn := fun _ => fun
  | [d1, d2] => { results := [.lit (.bool false)], args := [d1, d2] }
  | _ => none }
def FnExactWriteDeviceWrongFalsely : Prop := fnExactWriteDeviceRow.holds Try.pinned (OpenSpec.ofChange fnExactWriteDeviceWrong)

/-- 'laws.FnExactSeekReader': WHATEVER THE INPUT: true; the input reads as it did. -/
def fnExactSeekReaderSpec : ChangeSpec := { name := "fnExactSeekReader", fn := fun _ => fun
  | [d1, d2, d3] => { results := [.lit (.bool true)], args := [d1, d2, d3] }
  | _ => none }
def fnExactSeekReaderRow : OpenClaim := { program := "ytjiecnideghffaa", sum := "362fcf408f2662b163f1a686d6fdd222cca9ad493e9d26d93b4f93535a6c2ea9", func := "loop.example/streamlayers/laws.FnExactSeekReader", spec := "fnExactSeekReader", apart := false }
def FnExactSeekReaderSaid : Prop := fnExactSeekReaderRow.holds Try.pinned (OpenSpec.ofChange fnExactSeekReaderSpec)

/-- ITS FALSE NEIGHBOUR: 'it returns false'. Refute it at one input. -/
def fnExactSeekReaderWrong : ChangeSpec := { name := "fnExactSeekReader", fn := fun _ => fun
  | [d1, d2, d3] => { results := [.lit (.bool false)], args := [d1, d2, d3] }
  | _ => none }
def FnExactSeekReaderWrongFalsely : Prop := fnExactSeekReaderRow.holds Try.pinned (OpenSpec.ofChange fnExactSeekReaderWrong)

/-- 'laws.FnExactSeenData': WHATEVER THE INPUT: true; the input reads as it did. -/
def fnExactSeenDataSpec : ChangeSpec := { name := "fnExactSeenData", fn := fun _ => fun
  | [d] => { results := [.lit (.bool true)], args := [d] }
  | _ => none }
def fnExactSeenDataRow : OpenClaim := { program := "ytjiecnideghffaa", sum := "362fcf408f2662b163f1a686d6fdd222cca9ad493e9d26d93b4f93535a6c2ea9", func := "loop.example/streamlayers/laws.FnExactSeenData", spec := "fnExactSeenData", apart := false }
def FnExactSeenDataSaid : Prop := fnExactSeenDataRow.holds Try.pinned (OpenSpec.ofChange fnExactSeenDataSpec)

/-- ITS FALSE NEIGHBOUR: 'it returns false'. Refute it at one input. -/
def fnExactSeenDataWrong : ChangeSpec := { name := "fnExactSeenData", fn := fun _ => fun
  | [d] => { results := [.lit (.bool false)], args := [d] }
  | _ => none }
def FnExactSeenDataWrongFalsely : Prop := fnExactSeenDataRow.holds Try.pinned (OpenSpec.ofChange fnExactSeenDataWrong)

/-- 'laws.FnExactValidBoth': WHATEVER THE INPUT: true; the input reads as it did. -/
def fnExactValidBothSpec : ChangeSpec := { name := "fnExactValidBoth", fn := fun _ => fun
  | [d] => { results := [.lit (.bool true)], args := [d] }
  | _ => none }
def fnExactValidBothRow : OpenClaim := { program := "ytjiecnideghffaa", sum := "362fcf408f2662b163f1a686d6fdd222cca9ad493e9d26d93b4f93535a6c2ea9", func := "loop.example/streamlayers/laws.FnExactValidBoth", spec := "fnExactValidBoth", apart := false }
def FnExactValidBothSaid : Prop := fnExactValidBothRow.holds Try.pinned (OpenSpec.ofChange fnExactValidBothSpec)

/-- ITS FALSE NEIGHBOUR: 'it returns false'. Refute it at one input. -/
def fnExactValidBothWrong : ChangeSpec := { name := "fnExactValidBoth", fn := fun _ => fun
  | [d] => { results := [.lit (.bool false)], args := [d] }
  | _ => none }
def FnExactValidBothWrongFalsely : Prop := fnExactValidBothRow.holds Try.pinned (OpenSpec.ofChange fnExactValidBothWrong)

/-- 'laws.FnExactNewBoth': WHATEVER THE INPUT: true; the input reads as it did. -/
def fnExactNewBothSpec : ChangeSpec := { name := "fnExactNewBoth", fn := fun _ => fun
  | [d1, d2] => { results := [.lit (.bool true)], args := [d1, d2] }
  | _ => none }
def fnExactNewBothRow : OpenClaim := { program := "ytjiecnideghffaa", sum := "362fcf408f2662b163f1a686d6fdd222cca9ad493e9d26d93b4f93535a6c2ea9", func := "loop.example/streamlayers/laws.FnExactNewBoth", spec := "fnExactNewBoth", apart := false }
def FnExactNewBothSaid : Prop := fnExactNewBothRow.holds Try.pinned (OpenSpec.ofChange fnExactNewBothSpec)

/-- ITS FALSE NEIGHBOUR: 'it returns false'. Refute it at one input. -/
def fnExactNewBothWrong : ChangeSpec := { name := "fnExactNewBoth", fn := fun _ => fun
  | [d1, d2] => { results := [.lit (.bool false)], args := [d1, d2] }
  | _ => none }
def FnExactNewBothWrongFalsely : Prop := fnExactNewBothRow.holds Try.pinned (OpenSpec.ofChange fnExactNewBothWrong)

/-- 'laws.FnExactTellBoth': WHATEVER THE INPUT: true; the input reads as it did. -/
def fnExactTellBothSpec : ChangeSpec := { name := "fnExactTellBoth", fn := fun _ => fun
  | [d] => { results := [.lit (.bool true)], args := [d] }
  | _ => none }
def fnExactTellBothRow : OpenClaim := { program := "ytjiecnideghffaa", sum := "362fcf408f2662b163f1a686d6fdd222cca9ad493e9d26d93b4f93535a6c2ea9", func := "loop.example/streamlayers/laws.FnExactTellBoth", spec := "fnExactTellBoth", apart := false }
def FnExactTellBothSaid : Prop := fnExactTellBothRow.holds Try.pinned (OpenSpec.ofChange fnExactTellBothSpec)

/-- ITS FALSE NEIGHBOUR: 'it returns false'. Refute it at one input. -/
def fnExactTellBothWrong : ChangeSpec := { name := "fnExactTellBoth", fn := fun _ => fun
  | [d] => { results := [.lit (.bool false)], args := [d] }
  | _ => none }
def FnExactTellBothWrongFalsely : Prop := fnExactTellBothRow.holds Try.pinned (OpenSpec.ofChange fnExactTellBothWrong)

/-- 'laws.FnExactPlainOf': WHATEVER THE INPUT: true; the input reads as it did. -/
def fnExactPlainOfSpec : ChangeSpec := { name := "fnExactPlainOf", fn := fun _ => fun
  | [d] => { results := [.lit (.bool true)], args := [d] }
  | _ => none }
def fnExactPlainOfRow : OpenClaim := { program := "ytjiecnideghffaa", sum := "362fcf408f2662b163f1a686d6fdd222cca9ad493e9d26d93b4f93535a6c2ea9", func := "loop.example/streamlayers/laws.FnExactPlainOf", spec := "fnExactPlainOf", apart := false }
def FnExactPlainOfSaid : Prop := fnExactPlainOfRow.holds Try.pinned (OpenSpec.ofChange fnExactPlainOfSpec)

/-- ITS FALSE NEIGHBOUR: 'it returns false'. Refute it at one input. -/
def fnExactPlainOfWrong : ChangeSpec := { name := "fnExactPlainOf", fn := fun _ => fun
  | [d] => { results := [.lit (.bool false)], args := [d] }
  | _ => none }
def FnExactPlainOfWrongFalsely : Prop := fnExactPlainOfRow.holds Try.pinned (OpenSpec.ofChange fnExactPlainOfWrong)

/-- 'laws.FnExactPlainRead': WHATEVER THE INPUT: true; the input reads as it did. -/
def fnExactPlainReadSpec : ChangeSpec := { name := "fnExactPlainRead", fn := fun _ => fun
  | [d1, d2] => { results := [.lit (.bool true)], args := [d1, d2] }
  | _ => none }
def fnExactPlainReadRow : OpenClaim := { program := "ytjiecnideghffaa", sum := "362fcf408f2662b163f1a686d6fdd222cca9ad493e9d26d93b4f93535a6c2ea9", func := "loop.example/streamlayers/laws.FnExactPlainRead", spec := "fnExactPlainRead", apart := false }
def FnExactPlainReadSaid : Prop := fnExactPlainReadRow.holds Try.pinned (OpenSpec.ofChange fnExactPlainReadSpec)

/-- ITS FALSE NEIGHBOUR: 'it returns false'. Refute it at one input. -/
def fnExactPlainReadWrong : ChangeSpec := { name := "fnExactPlainRead", fn := fun _ => fun
  | [d1, d2] => { results := [.lit (.bool false)], args := [d1, d2] }
  | _ => none }
def FnExactPlainReadWrongFalsely : Prop := fnExactPlainReadRow.holds Try.pinned (OpenSpec.ofChange fnExactPlainReadWrong)

/-- 'laws.FnExactPlainWrite': WHATEVER THE INPUT: true; the input reads as it did. -/
def fnExactPlainWriteSpec : ChangeSpec := { name := "fnExactPlainWrite", fn := fun _ => fun
  | [d1, d2] => { results := [.lit (.bool true)], args := [d1, d2] }
  | _ => none }
def fnExactPlainWriteRow : OpenClaim := { program := "ytjiecnideghffaa", sum := "362fcf408f2662b163f1a686d6fdd222cca9ad493e9d26d93b4f93535a6c2ea9", func := "loop.example/streamlayers/laws.FnExactPlainWrite", spec := "fnExactPlainWrite", apart := false }
def FnExactPlainWriteSaid : Prop := fnExactPlainWriteRow.holds Try.pinned (OpenSpec.ofChange fnExactPlainWriteSpec)

/-- ITS FALSE NEIGHBOUR: 'it returns false'. Refute it at one input. -/
def fnExactPlainWriteWrong : ChangeSpec := { name := "fnExactPlainWrite", fn := fun _ => fun
  | [d1, d2] => { results := [.lit (.bool false)], args := [d1, d2] }
  | _ => none }
def FnExactPlainWriteWrongFalsely : Prop := fnExactPlainWriteRow.holds Try.pinned (OpenSpec.ofChange fnExactPlainWriteWrong)

/-- 'laws.FnExactPlainSeek': WHATEVER THE INPUT: true; the input reads as it did. -/
def fnExactPlainSeekSpec : ChangeSpec := { name := "fnExactPlainSeek", fn := fun _ => fun
  | [d1, d2, d3] => { results := [.lit (.bool true)], args := [d1, d2, d3] }
  | _ => none }
def fnExactPlainSeekRow : OpenClaim := { program := "ytjiecnideghffaa", sum := "362fcf408f2662b163f1a686d6fdd222cca9ad493e9d26d93b4f93535a6c2ea9", func := "loop.example/streamlayers/laws.FnExactPlainSeek", spec := "fnExactPlainSeek", apart := false }
def FnExactPlainSeekSaid : Prop := fnExactPlainSeekRow.holds Try.pinned (OpenSpec.ofChange fnExactPlainSeekSpec)

/-- ITS FALSE NEIGHBOUR: 'it returns false'. Refute it at one input. -/
def fnExactPlainSeekWrong : ChangeSpec := { name := "fnExactPlainSeek", fn := fun _ => fun
  | [d1, d2, d3] => { results := [.lit (.bool false)], args := [d1, d2, d3] }
  | _ => none }
def FnExactPlainSeekWrongFalsely : Prop := fnExactPlainSeekRow.holds Try.pinned (OpenSpec.ofChange fnExactPlainSeekWrong)

/-- 'laws.FnExactReadLines': WHATEVER THE INPUT: true; the input reads as it did. -/
def fnExactReadLinesSpec : ChangeSpec := { name := "fnExactReadLines", fn := fun _ => fun
  | [d1, d2] => { results := [.lit (.bool true)], args := [d1, d2] }
  | _ => none }
def fnExactReadLinesRow : OpenClaim := { program := "ytjiecnideghffaa", sum := "362fcf408f2662b163f1a686d6fdd222cca9ad493e9d26d93b4f93535a6c2ea9", func := "loop.example/streamlayers/laws.FnExactReadLines", spec := "fnExactReadLines", apart := false }
def FnExactReadLinesSaid : Prop := fnExactReadLinesRow.holds Try.pinned (OpenSpec.ofChange fnExactReadLinesSpec)

/-- ITS FALSE NEIGHBOUR: 'it returns false'. Refute it at one input. -/
def fnExactReadLinesWrong : ChangeSpec := { name := "fnExactReadLines", fn := fun _ => fun
  | [d1, d2] => { results := [.lit (.bool false)], args := [d1, d2] }
  | _ => none }
def FnExactReadLinesWrongFalsely : Prop := fnExactReadLinesRow.holds Try.pinned (OpenSpec.ofChange fnExactReadLinesWrong)

/- THE SECOND FORM. 'bulk': how many values and letters a reading holds, each counted each time it is reached (what is shared counts as often as it is met; a slice's spare places count too). A statement '..UptoSaid' is the law's where the arguments, and the package variables that the reading takes, are together of bulk at most 1048576: NARROWER than '..Said'. Prove '..Said' where nothing that the law and all that it calls make is longer than what came in: it says more and counts as full. Else prove '..UptoSaid'. A law counts once. -/
mutual
def uptoBulk {H : Type} : DataW H → Nat
  | .lit (.string bytes) => bytes.length + 1
  | .lit _ => 1
  | .nil => 1
  | .ptr d => uptoBulk d + 1
  | .slice elems spare => uptoBulkAll elems + uptoBulkAll spare + 1
  | .agg parts => uptoBulkAll parts + 1
  | .iface _ d => uptoBulk d + 1
  | .map entries => uptoBulkEntries entries + 1
  | .held _ => 1
def uptoBulkAll {H : Type} : List (DataW H) → Nat
  | [] => 0
  | d :: r => uptoBulk d + uptoBulkAll r
def uptoBulkEntries {H : Type} : List (Lit × DataW H) → Nat
  | [] => 0
  | x :: r => uptoBulkEntry x + uptoBulkEntries r
def uptoBulkEntry {H : Type} : Lit × DataW H → Nat
  | (.string bytes, d) => bytes.length + uptoBulk d + 1
  | (_, d) => uptoBulk d + 1
 end
def uptoSmall : (H : Type) → List (DataW H) → Bool := fun _ ds => decide (uptoBulkAll ds ≤ 1048576)
def OpenSpec.upto (s : _root_.Go.ChangeSpec) : _root_.Go.OpenSpec := { _root_.Go.OpenSpec.ofChange s with cond := some uptoSmall }

/-- 'laws.FnExactWriteDevice', WHERE WHAT IT READS IS OF BULK AT MOST 1048576: true; the input reads as it did. -/
def fnExactWriteDeviceUptoRow : OpenClaim := { program := "ytjiecnideghffaa", sum := "362fcf408f2662b163f1a686d6fdd222cca9ad493e9d26d93b4f93535a6c2ea9", func := "loop.example/streamlayers/laws.FnExactWriteDevice", spec := "fnExactWriteDevice", unfollowed := true, recurses := true, apart := false, narrowed := true }
def FnExactWriteDeviceUptoSaid : Prop := fnExactWriteDeviceUptoRow.holds Try.pinned (OpenSpec.upto fnExactWriteDeviceSpec)

/-- 'laws.FnExactSeekReader', WHERE WHAT IT READS IS OF BULK AT MOST 1048576: true; the input reads as it did. -/
def fnExactSeekReaderUptoRow : OpenClaim := { program := "ytjiecnideghffaa", sum := "362fcf408f2662b163f1a686d6fdd222cca9ad493e9d26d93b4f93535a6c2ea9", func := "loop.example/streamlayers/laws.FnExactSeekReader", spec := "fnExactSeekReader", apart := false, narrowed := true }
def FnExactSeekReaderUptoSaid : Prop := fnExactSeekReaderUptoRow.holds Try.pinned (OpenSpec.upto fnExactSeekReaderSpec)

/-- 'laws.FnExactSeenData', WHERE WHAT IT READS IS OF BULK AT MOST 1048576: true; the input reads as it did. -/
def fnExactSeenDataUptoRow : OpenClaim := { program := "ytjiecnideghffaa", sum := "362fcf408f2662b163f1a686d6fdd222cca9ad493e9d26d93b4f93535a6c2ea9", func := "loop.example/streamlayers/laws.FnExactSeenData", spec := "fnExactSeenData", apart := false, narrowed := true }
def FnExactSeenDataUptoSaid : Prop := fnExactSeenDataUptoRow.holds Try.pinned (OpenSpec.upto fnExactSeenDataSpec)

/-- 'laws.FnExactValidBoth', WHERE WHAT IT READS IS OF BULK AT MOST 1048576: true; the input reads as it did. -/
def fnExactValidBothUptoRow : OpenClaim := { program := "ytjiecnideghffaa", sum := "362fcf408f2662b163f1a686d6fdd222cca9ad493e9d26d93b4f93535a6c2ea9", func := "loop.example/streamlayers/laws.FnExactValidBoth", spec := "fnExactValidBoth", apart := false, narrowed := true }
def FnExactValidBothUptoSaid : Prop := fnExactValidBothUptoRow.holds Try.pinned (OpenSpec.upto fnExactValidBothSpec)

/-- 'laws.FnExactNewBoth', WHERE WHAT IT READS IS OF BULK AT MOST 1048576: true; the input reads as it did. -/
def fnExactNewBothUptoRow : OpenClaim := { program := "ytjiecnideghffaa", sum := "362fcf408f2662b163f1a686d6fdd222cca9ad493e9d26d93b4f93535a6c2ea9", func := "loop.example/streamlayers/laws.FnExactNewBoth", spec := "fnExactNewBoth", apart := false, narrowed := true }
def FnExactNewBothUptoSaid : Prop := fnExactNewBothUptoRow.holds Try.pinned (OpenSpec.upto fnExactNewBothSpec)

/-- 'laws.FnExactTellBoth', WHERE WHAT IT READS IS OF BULK AT MOST 1048576: true; the input reads as it did. -/
def fnExactTellBothUptoRow : OpenClaim := { program := "ytjiecnideghffaa", sum := "362fcf408f2662b163f1a686d6fdd222cca9ad493e9d26d93b4f93535a6c2ea9", func := "loop.example/streamlayers/laws.FnExactTellBoth", spec := "fnExactTellBoth", apart := false, narrowed := true }
def FnExactTellBothUptoSaid : Prop := fnExactTellBothUptoRow.holds Try.pinned (OpenSpec.upto fnExactTellBothSpec)

/-- 'laws.FnExactPlainOf', WHERE WHAT IT READS IS OF BULK AT MOST 1048576: true; the input reads as it did. -/
def fnExactPlainOfUptoRow : OpenClaim := { program := "ytjiecnideghffaa", sum := "362fcf408f2662b163f1a686d6fdd222cca9ad493e9d26d93b4f93535a6c2ea9", func := "loop.example/streamlayers/laws.FnExactPlainOf", spec := "fnExactPlainOf", apart := false, narrowed := true }
def FnExactPlainOfUptoSaid : Prop := fnExactPlainOfUptoRow.holds Try.pinned (OpenSpec.upto fnExactPlainOfSpec)

/-- 'laws.FnExactPlainRead', WHERE WHAT IT READS IS OF BULK AT MOST 1048576: true; the input reads as it did. -/
def fnExactPlainReadUptoRow : OpenClaim := { program := "ytjiecnideghffaa", sum := "362fcf408f2662b163f1a686d6fdd222cca9ad493e9d26d93b4f93535a6c2ea9", func := "loop.example/streamlayers/laws.FnExactPlainRead", spec := "fnExactPlainRead", apart := false, narrowed := true }
def FnExactPlainReadUptoSaid : Prop := fnExactPlainReadUptoRow.holds Try.pinned (OpenSpec.upto fnExactPlainReadSpec)

/-- 'laws.FnExactPlainWrite', WHERE WHAT IT READS IS OF BULK AT MOST 1048576: true; the input reads as it did. -/
def fnExactPlainWriteUptoRow : OpenClaim := { program := "ytjiecnideghffaa", sum := "362fcf408f2662b163f1a686d6fdd222cca9ad493e9d26d93b4f93535a6c2ea9", func := "loop.example/streamlayers/laws.FnExactPlainWrite", spec := "fnExactPlainWrite", apart := false, narrowed := true }
def FnExactPlainWriteUptoSaid : Prop := fnExactPlainWriteUptoRow.holds Try.pinned (OpenSpec.upto fnExactPlainWriteSpec)

/-- 'laws.FnExactPlainSeek', WHERE WHAT IT READS IS OF BULK AT MOST 1048576: true; the input reads as it did. -/
def fnExactPlainSeekUptoRow : OpenClaim := { program := "ytjiecnideghffaa", sum := "362fcf408f2662b163f1a686d6fdd222cca9ad493e9d26d93b4f93535a6c2ea9", func := "loop.example/streamlayers/laws.FnExactPlainSeek", spec := "fnExactPlainSeek", apart := false, narrowed := true }
def FnExactPlainSeekUptoSaid : Prop := fnExactPlainSeekUptoRow.holds Try.pinned (OpenSpec.upto fnExactPlainSeekSpec)

/-- 'laws.FnExactReadLines', WHERE WHAT IT READS IS OF BULK AT MOST 1048576: true; the input reads as it did. -/
def fnExactReadLinesUptoRow : OpenClaim := { program := "ytjiecnideghffaa", sum := "362fcf408f2662b163f1a686d6fdd222cca9ad493e9d26d93b4f93535a6c2ea9", func := "loop.example/streamlayers/laws.FnExactReadLines", spec := "fnExactReadLines", apart := false, narrowed := true }
def FnExactReadLinesUptoSaid : Prop := fnExactReadLinesUptoRow.holds Try.pinned (OpenSpec.upto fnExactReadLinesSpec)

end Rows
end Go.Proofs.Ytjiecnideghffaa
