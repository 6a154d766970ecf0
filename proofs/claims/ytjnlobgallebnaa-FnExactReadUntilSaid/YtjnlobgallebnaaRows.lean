/-
  No cell of these rows narrows 'for every input' (looked for: loops, veiled, ifaces, maps, wideKeys, modest, calm, conditions, laid).
  DERIVED. THE GIVEN ROWS OF THIS SEAT. 12 by the template 'for every input the law returns true; each argument reads behind the call as it read before'; 0 by the template 'total and deterministic' (their statements: YtjnlobgallebnaaTotals.lean).
  GIVEN WITH THE SEED: the statements are not yours to turn. If you find one false, say at which input.
  Laid BY PROGRAM, IN A SANDBOX (cutbox-rows.mjs): the forced cells as the released guide's own fill.sh prints them over the translation d3de66266a0dfa63… (all of the seat's roots in one cut). By AI agents, Wed Nov 11 2026. No macro, syntax, notation, axiom, sorry.
-/
import Derived.Test.YtjnlobgallebnaaChecked
import GoSem.Claim
import GoSem.ClaimJoined
import GoSem.ClaimMapViews
import Derived.JoinedTies
import Derived.KernelRfl
namespace Go.Proofs.Ytjnlobgallebnaa
/- THE CELL 'sum', in the pinned program and in every row, IS THE sha256 OF THE DUMP (.gsa) THAT YtjnlobgallebnaaProg.lean LOADS. Nothing in Lean hashes anything: it is a label: what it is worth is what the hold of that sum in a sandbox is worth. -/
noncomputable def Try.pinned : Pinned := { name := "ytjnlobgallebnaa", sum := "d3de66266a0dfa63661e742747e64ce93d80ca17fc04bf0d764f8030fdcb3f39", checked := Try.checked }
namespace Rows
def none {H : Type} : Left H := { results := [], args := [] }

/-- 'laws.FnExactReadSome': WHATEVER THE INPUT: true; the input reads as it did. -/
def fnExactReadSomeSpec : ChangeSpec := { name := "fnExactReadSome", fn := fun _ => fun
  | [d1, d2] => { results := [.lit (.bool true)], args := [d1, d2] }
  | _ => none }
def fnExactReadSomeRow : OpenClaim := { program := "ytjnlobgallebnaa", sum := "d3de66266a0dfa63661e742747e64ce93d80ca17fc04bf0d764f8030fdcb3f39", func := "loop.example/streamlayers/laws.FnExactReadSome", spec := "fnExactReadSome", apart := false }
def FnExactReadSomeSaid : Prop := fnExactReadSomeRow.holds Try.pinned (OpenSpec.ofChange fnExactReadSomeSpec)

/-- ITS FALSE NEIGHBOUR: 'it returns false'. Refute it at one input. -/
def fnExactReadSomeWrong : ChangeSpec := { name := "fnExactReadSome", fn := fun _ => fun
  | [d1, d2] => { results := [.lit (.bool false)], args := [d1, d2] }
  | _ => none }
def FnExactReadSomeWrongFalsely : Prop := fnExactReadSomeRow.holds Try.pinned (OpenSpec.ofChange fnExactReadSomeWrong)

/-- 'laws.FnExactPeekReader': WHATEVER THE INPUT: true; the input reads as it did. -/
def fnExactPeekReaderSpec : ChangeSpec := { name := "fnExactPeekReader", fn := fun _ => fun
  | [d1, d2] => { results := [.lit (.bool true)], args := [d1, d2] }
  | _ => none }
def fnExactPeekReaderRow : OpenClaim := { program := "ytjnlobgallebnaa", sum := "d3de66266a0dfa63661e742747e64ce93d80ca17fc04bf0d764f8030fdcb3f39", func := "loop.example/streamlayers/laws.FnExactPeekReader", spec := "fnExactPeekReader", apart := false }
def FnExactPeekReaderSaid : Prop := fnExactPeekReaderRow.holds Try.pinned (OpenSpec.ofChange fnExactPeekReaderSpec)

/-- ITS FALSE NEIGHBOUR: 'it returns false'. Refute it at one input. -/
def fnExactPeekReaderWrong : ChangeSpec := { name := "fnExactPeekReader", fn := fun _ => fun
  | [d1, d2] => { results := [.lit (.bool false)], args := [d1, d2] }
  | _ => none }
def FnExactPeekReaderWrongFalsely : Prop := fnExactPeekReaderRow.holds Try.pinned (OpenSpec.ofChange fnExactPeekReaderWrong)

/-- 'laws.FnExactSeekReader': WHATEVER THE INPUT: true; the input reads as it did. -/
def fnExactSeekReaderSpec : ChangeSpec := { name := "fnExactSeekReader", fn := fun _ => fun
  | [d1, d2, d3] => { results := [.lit (.bool true)], args := [d1, d2, d3] }
  | _ => none }
def fnExactSeekReaderRow : OpenClaim := { program := "ytjnlobgallebnaa", sum := "d3de66266a0dfa63661e742747e64ce93d80ca17fc04bf0d764f8030fdcb3f39", func := "loop.example/streamlayers/laws.FnExactSeekReader", spec := "fnExactSeekReader", apart := false }
def FnExactSeekReaderSaid : Prop := fnExactSeekReaderRow.holds Try.pinned (OpenSpec.ofChange fnExactSeekReaderSpec)

/-- ITS FALSE NEIGHBOUR: 'it returns false'. Refute it at one input. -/
def fnExactSeekReaderWrong : ChangeSpec := { name := "fnExactSeekReader", fn := fun _ => fun
  | [d1, d2, d3] => { results := [.lit (.bool false)], args := [d1, d2, d3] }
  | _ => none }
def FnExactSeekReaderWrongFalsely : Prop := fnExactSeekReaderRow.holds Try.pinned (OpenSpec.ofChange fnExactSeekReaderWrong)

/-- 'laws.FnExactReadFull': WHATEVER THE INPUT: true; the input reads as it did. -/
def fnExactReadFullSpec : ChangeSpec := { name := "fnExactReadFull", fn := fun _ => fun
  | [d1, d2] => { results := [.lit (.bool true)], args := [d1, d2] }
  | _ => none }
def fnExactReadFullRow : OpenClaim := { program := "ytjnlobgallebnaa", sum := "d3de66266a0dfa63661e742747e64ce93d80ca17fc04bf0d764f8030fdcb3f39", func := "loop.example/streamlayers/laws.FnExactReadFull", spec := "fnExactReadFull", apart := false }
def FnExactReadFullSaid : Prop := fnExactReadFullRow.holds Try.pinned (OpenSpec.ofChange fnExactReadFullSpec)

/-- ITS FALSE NEIGHBOUR: 'it returns false'. Refute it at one input. -/
def fnExactReadFullWrong : ChangeSpec := { name := "fnExactReadFull", fn := fun _ => fun
  | [d1, d2] => { results := [.lit (.bool false)], args := [d1, d2] }
  | _ => none }
def FnExactReadFullWrongFalsely : Prop := fnExactReadFullRow.holds Try.pinned (OpenSpec.ofChange fnExactReadFullWrong)

/-- 'laws.FnExactReadRest': WHATEVER THE INPUT: true; the input reads as it did. -/
def fnExactReadRestSpec : ChangeSpec := { name := "fnExactReadRest", fn := fun _ => fun
  | [d] => { results := [.lit (.bool true)], args := [d] }
  | _ => none }
def fnExactReadRestRow : OpenClaim := { program := "ytjnlobgallebnaa", sum := "d3de66266a0dfa63661e742747e64ce93d80ca17fc04bf0d764f8030fdcb3f39", func := "loop.example/streamlayers/laws.FnExactReadRest", spec := "fnExactReadRest", apart := false }
def FnExactReadRestSaid : Prop := fnExactReadRestRow.holds Try.pinned (OpenSpec.ofChange fnExactReadRestSpec)

/-- ITS FALSE NEIGHBOUR: 'it returns false'. Refute it at one input. -/
def fnExactReadRestWrong : ChangeSpec := { name := "fnExactReadRest", fn := fun _ => fun
  | [d] => { results := [.lit (.bool false)], args := [d] }
  | _ => none }
def FnExactReadRestWrongFalsely : Prop := fnExactReadRestRow.holds Try.pinned (OpenSpec.ofChange fnExactReadRestWrong)

/-- 'laws.FnExactReadUntil': WHATEVER THE INPUT: true; the input reads as it did. -/
def fnExactReadUntilSpec : ChangeSpec := { name := "fnExactReadUntil", fn := fun _ => fun
  | [d1, d2, d3] => { results := [.lit (.bool true)], args := [d1, d2, d3] }
  | _ => none }
def fnExactReadUntilRow : OpenClaim := { program := "ytjnlobgallebnaa", sum := "d3de66266a0dfa63661e742747e64ce93d80ca17fc04bf0d764f8030fdcb3f39", func := "loop.example/streamlayers/laws.FnExactReadUntil", spec := "fnExactReadUntil", apart := false }
def FnExactReadUntilSaid : Prop := fnExactReadUntilRow.holds Try.pinned (OpenSpec.ofChange fnExactReadUntilSpec)

/-- ITS FALSE NEIGHBOUR: 'it returns false'. Refute it at one input. -/
def fnExactReadUntilWrong : ChangeSpec := { name := "fnExactReadUntil", fn := fun _ => fun
  | [d1, d2, d3] => { results := [.lit (.bool false)], args := [d1, d2, d3] }
  | _ => none }
def FnExactReadUntilWrongFalsely : Prop := fnExactReadUntilRow.holds Try.pinned (OpenSpec.ofChange fnExactReadUntilWrong)

/-- 'laws.FnExactReadLines': WHATEVER THE INPUT: true; the input reads as it did. -/
def fnExactReadLinesSpec : ChangeSpec := { name := "fnExactReadLines", fn := fun _ => fun
  | [d1, d2] => { results := [.lit (.bool true)], args := [d1, d2] }
  | _ => none }
def fnExactReadLinesRow : OpenClaim := { program := "ytjnlobgallebnaa", sum := "d3de66266a0dfa63661e742747e64ce93d80ca17fc04bf0d764f8030fdcb3f39", func := "loop.example/streamlayers/laws.FnExactReadLines", spec := "fnExactReadLines", apart := false }
def FnExactReadLinesSaid : Prop := fnExactReadLinesRow.holds Try.pinned (OpenSpec.ofChange fnExactReadLinesSpec)

/-- ITS FALSE NEIGHBOUR: 'it returns false'. Refute it at one input. -/
def fnExactReadLinesWrong : ChangeSpec := { name := "fnExactReadLines", fn := fun _ => fun
  | [d1, d2] => { results := [.lit (.bool false)], args := [d1, d2] }
  | _ => none }
def FnExactReadLinesWrongFalsely : Prop := fnExactReadLinesRow.holds Try.pinned (OpenSpec.ofChange fnExactReadLinesWrong)

/-- 'laws.FnExactValidWriter': WHATEVER THE INPUT: true; the input reads as it did. -/
def fnExactValidWriterSpec : ChangeSpec := { name := "fnExactValidWriter", fn := fun _ => fun
  | [d] => { results := [.lit (.bool true)], args := [d] }
  | _ => none }
def fnExactValidWriterRow : OpenClaim := { program := "ytjnlobgallebnaa", sum := "d3de66266a0dfa63661e742747e64ce93d80ca17fc04bf0d764f8030fdcb3f39", func := "loop.example/streamlayers/laws.FnExactValidWriter", spec := "fnExactValidWriter", apart := false }
def FnExactValidWriterSaid : Prop := fnExactValidWriterRow.holds Try.pinned (OpenSpec.ofChange fnExactValidWriterSpec)

/-- ITS FALSE NEIGHBOUR: 'it returns false'. Refute it at one input. -/
def fnExactValidWriterWrong : ChangeSpec := { name := "fnExactValidWriter", fn := fun _ => fun
  | [d] => { results := [.lit (.bool false)], args := [d] }
  | _ => none }
def FnExactValidWriterWrongFalsely : Prop := fnExactValidWriterRow.holds Try.pinned (OpenSpec.ofChange fnExactValidWriterWrong)

/-- 'laws.FnExactNewWriter': WHATEVER THE INPUT: true; the input reads as it did. -/
def fnExactNewWriterSpec : ChangeSpec := { name := "fnExactNewWriter", fn := fun _ => fun
  | [d1, d2] => { results := [.lit (.bool true)], args := [d1, d2] }
  | _ => none }
def fnExactNewWriterRow : OpenClaim := { program := "ytjnlobgallebnaa", sum := "d3de66266a0dfa63661e742747e64ce93d80ca17fc04bf0d764f8030fdcb3f39", func := "loop.example/streamlayers/laws.FnExactNewWriter", spec := "fnExactNewWriter", apart := false }
def FnExactNewWriterSaid : Prop := fnExactNewWriterRow.holds Try.pinned (OpenSpec.ofChange fnExactNewWriterSpec)

/-- ITS FALSE NEIGHBOUR: 'it returns false'. Refute it at one input. -/
def fnExactNewWriterWrong : ChangeSpec := { name := "fnExactNewWriter", fn := fun _ => fun
  | [d1, d2] => { results := [.lit (.bool false)], args := [d1, d2] }
  | _ => none }
def FnExactNewWriterWrongFalsely : Prop := fnExactNewWriterRow.holds Try.pinned (OpenSpec.ofChange fnExactNewWriterWrong)

/-- 'laws.FnExactTellWriter': WHATEVER THE INPUT: true; the input reads as it did. -/
def fnExactTellWriterSpec : ChangeSpec := { name := "fnExactTellWriter", fn := fun _ => fun
  | [d] => { results := [.lit (.bool true)], args := [d] }
  | _ => none }
def fnExactTellWriterRow : OpenClaim := { program := "ytjnlobgallebnaa", sum := "d3de66266a0dfa63661e742747e64ce93d80ca17fc04bf0d764f8030fdcb3f39", func := "loop.example/streamlayers/laws.FnExactTellWriter", spec := "fnExactTellWriter", apart := false }
def FnExactTellWriterSaid : Prop := fnExactTellWriterRow.holds Try.pinned (OpenSpec.ofChange fnExactTellWriterSpec)

/-- ITS FALSE NEIGHBOUR: 'it returns false'. Refute it at one input. -/
def fnExactTellWriterWrong : ChangeSpec := { name := "fnExactTellWriter", fn := fun _ => fun
  | [d] => { results := [.lit (.bool false)], args := [d] }
  | _ => none }
def FnExactTellWriterWrongFalsely : Prop := fnExactTellWriterRow.holds Try.pinned (OpenSpec.ofChange fnExactTellWriterWrong)

/-- 'laws.FnExactRoomOf': WHATEVER THE INPUT: true; the input reads as it did. -/
def fnExactRoomOfSpec : ChangeSpec := { name := "fnExactRoomOf", fn := fun _ => fun
  | [d] => { results := [.lit (.bool true)], args := [d] }
  | _ => none }
def fnExactRoomOfRow : OpenClaim := { program := "ytjnlobgallebnaa", sum := "d3de66266a0dfa63661e742747e64ce93d80ca17fc04bf0d764f8030fdcb3f39", func := "loop.example/streamlayers/laws.FnExactRoomOf", spec := "fnExactRoomOf", apart := false }
def FnExactRoomOfSaid : Prop := fnExactRoomOfRow.holds Try.pinned (OpenSpec.ofChange fnExactRoomOfSpec)

/-- ITS FALSE NEIGHBOUR: 'it returns false'. Refute it at one input. -/
def fnExactRoomOfWrong : ChangeSpec := { name := "fnExactRoomOf", fn := fun _ => fun
  | [d] => { results := [.lit (.bool false)], args := [d] }
  | _ => none }
def FnExactRoomOfWrongFalsely : Prop := fnExactRoomOfRow.holds Try.pinned (OpenSpec.ofChange fnExactRoomOfWrong)

/-- 'laws.FnExactSeenData': WHATEVER THE INPUT: true; the input reads as it did. -/
def fnExactSeenDataSpec : ChangeSpec := { name := "fnExactSeenData", fn := fun _ => fun
  | [d] => { results := [.lit (.bool true)], args := [d] }
  | _ => none }
def fnExactSeenDataRow : OpenClaim := { program := "ytjnlobgallebnaa", sum := "d3de66266a0dfa63661e742747e64ce93d80ca17fc04bf0d764f8030fdcb3f39", func := "loop.example/streamlayers/laws.FnExactSeenData", spec := "fnExactSeenData", apart := false }
def FnExactSeenDataSaid : Prop := fnExactSeenDataRow.holds Try.pinned (OpenSpec.ofChange fnExactSeenDataSpec)

/-- ITS FALSE NEIGHBOUR: 'it returns false'. Refute it at one input. -/
def fnExactSeenDataWrong : ChangeSpec := { name := "fnExactSeenData", fn := fun _ => fun
  | [d] => { results := [.lit (.bool false)], args := [d] }
  | _ => none }
def FnExactSeenDataWrongFalsely : Prop := fnExactSeenDataRow.holds Try.pinned (OpenSpec.ofChange fnExactSeenDataWrong)

/- THE SECOND FORM. 'bulk': how many values and letters a reading holds, each counted each time it is reached (what is shared counts as often as it is met; a slice's spare places count too). A statement '..UptoSaid' is the law's where the arguments, and the package variables that the reading takes, are together of bulk at most 1048576: NARROWER than '..Said'. Prove '..Said' where nothing that the law and all that it calls make is longer than what came in: it says more and counts as full. Else prove '..UptoSaid'. A law counts once. -/
mutual
def uptoBulk {H : Type} : DataW H → Nat
  | .lit (.string bytes) => bytes.length + 1
  | .lit _ => 1
  | .nil => 1
  | .ptr d => uptoBulk d + 1
  | .slice elems spare => uptoBulkAll elems + uptoBulkAll spare + 1
  | .agg parts => uptoBulkAll parts + 1
  | .iface _ d => uptoBulk d + 1
  | .map entries => uptoBulkEntries entries + 1
  | .held _ => 1
def uptoBulkAll {H : Type} : List (DataW H) → Nat
  | [] => 0
  | d :: r => uptoBulk d + uptoBulkAll r
def uptoBulkEntries {H : Type} : List (Lit × DataW H) → Nat
  | [] => 0
  | x :: r => uptoBulkEntry x + uptoBulkEntries r
def uptoBulkEntry {H : Type} : Lit × DataW H → Nat
  | (.string bytes, d) => bytes.length + uptoBulk d + 1
  | (_, d) => uptoBulk d + 1
 end
def uptoSmall : (H : Type) → List (DataW H) → Bool := fun _ ds => decide (uptoBulkAll ds ≤ 1048576)
def OpenSpec.upto (s : _root_.Go.ChangeSpec) : _root_.Go.OpenSpec := { _root_.Go.OpenSpec.ofChange s with cond := some uptoSmall }

/-- 'laws.FnExactReadSome', WHERE WHAT IT READS IS OF BULK AT MOST 1048576: true; the input reads as it did. -/
def fnExactReadSomeUptoRow : OpenClaim := { program := "ytjnlobgallebnaa", sum := "d3de66266a0dfa63661e742747e64ce93d80ca17fc04bf0d764f8030fdcb3f39", func := "loop.example/streamlayers/laws.FnExactReadSome", spec := "fnExactReadSome", apart := false, narrowed := true }
def FnExactReadSomeUptoSaid : Prop := fnExactReadSomeUptoRow.holds Try.pinned (OpenSpec.upto fnExactReadSomeSpec)

/-- 'laws.FnExactPeekReader', WHERE WHAT IT READS IS OF BULK AT MOST 1048576: true; the input reads as it did. -/
def fnExactPeekReaderUptoRow : OpenClaim := { program := "ytjnlobgallebnaa", sum := "d3de66266a0dfa63661e742747e64ce93d80ca17fc04bf0d764f8030fdcb3f39", func := "loop.example/streamlayers/laws.FnExactPeekReader", spec := "fnExactPeekReader", apart := false, narrowed := true }
def FnExactPeekReaderUptoSaid : Prop := fnExactPeekReaderUptoRow.holds Try.pinned (OpenSpec.upto fnExactPeekReaderSpec)

/-- 'laws.FnExactSeekReader', WHERE WHAT IT READS IS OF BULK AT MOST 1048576: true; the input reads as it did. -/
def fnExactSeekReaderUptoRow : OpenClaim := { program := "ytjnlobgallebnaa", sum := "d3de66266a0dfa63661e742747e64ce93d80ca17fc04bf0d764f8030fdcb3f39", func := "loop.example/streamlayers/laws.FnExactSeekReader", spec := "fnExactSeekReader", apart := false, narrowed := true }
def FnExactSeekReaderUptoSaid : Prop := fnExactSeekReaderUptoRow.holds Try.pinned (OpenSpec.upto fnExactSeekReaderSpec)

/-- 'laws.FnExactReadFull', WHERE WHAT IT READS IS OF BULK AT MOST 1048576: true; the input reads as it did. -/
def fnExactReadFullUptoRow : OpenClaim := { program := "ytjnlobgallebnaa", sum := "d3de66266a0dfa63661e742747e64ce93d80ca17fc04bf0d764f8030fdcb3f39", func := "loop.example/streamlayers/laws.FnExactReadFull", spec := "fnExactReadFull", apart := false, narrowed := true }
def FnExactReadFullUptoSaid : Prop := fnExactReadFullUptoRow.holds Try.pinned (OpenSpec.upto fnExactReadFullSpec)

/-- 'laws.FnExactReadRest', WHERE WHAT IT READS IS OF BULK AT MOST 1048576: true; the input reads as it did. -/
def fnExactReadRestUptoRow : OpenClaim := { program := "ytjnlobgallebnaa", sum := "d3de66266a0dfa63661e742747e64ce93d80ca17fc04bf0d764f8030fdcb3f39", func := "loop.example/streamlayers/laws.FnExactReadRest", spec := "fnExactReadRest", apart := false, narrowed := true }
def FnExactReadRestUptoSaid : Prop := fnExactReadRestUptoRow.holds Try.pinned (OpenSpec.upto fnExactReadRestSpec)

/-- 'laws.FnExactReadUntil', WHERE WHAT IT READS IS OF BULK AT MOST 1048576: true; the input reads as it did. -/
def fnExactReadUntilUptoRow : OpenClaim := { program := "ytjnlobgallebnaa", sum := "d3de66266a0dfa63661e742747e64ce93d80ca17fc04bf0d764f8030fdcb3f39", func := "loop.example/streamlayers/laws.FnExactReadUntil", spec := "fnExactReadUntil", apart := false, narrowed := true }
def FnExactReadUntilUptoSaid : Prop := fnExactReadUntilUptoRow.holds Try.pinned (OpenSpec.upto fnExactReadUntilSpec)

/-- 'laws.FnExactReadLines', WHERE WHAT IT READS IS OF BULK AT MOST 1048576: true; the input reads as it did. -/
def fnExactReadLinesUptoRow : OpenClaim := { program := "ytjnlobgallebnaa", sum := "d3de66266a0dfa63661e742747e64ce93d80ca17fc04bf0d764f8030fdcb3f39", func := "loop.example/streamlayers/laws.FnExactReadLines", spec := "fnExactReadLines", apart := false, narrowed := true }
def FnExactReadLinesUptoSaid : Prop := fnExactReadLinesUptoRow.holds Try.pinned (OpenSpec.upto fnExactReadLinesSpec)

/-- 'laws.FnExactValidWriter', WHERE WHAT IT READS IS OF BULK AT MOST 1048576: true; the input reads as it did. -/
def fnExactValidWriterUptoRow : OpenClaim := { program := "ytjnlobgallebnaa", sum := "d3de66266a0dfa63661e742747e64ce93d80ca17fc04bf0d764f8030fdcb3f39", func := "loop.example/streamlayers/laws.FnExactValidWriter", spec := "fnExactValidWriter", apart := false, narrowed := true }
def FnExactValidWriterUptoSaid : Prop := fnExactValidWriterUptoRow.holds Try.pinned (OpenSpec.upto fnExactValidWriterSpec)

/-- 'laws.FnExactNewWriter', WHERE WHAT IT READS IS OF BULK AT MOST 1048576: true; the input reads as it did. -/
def fnExactNewWriterUptoRow : OpenClaim := { program := "ytjnlobgallebnaa", sum := "d3de66266a0dfa63661e742747e64ce93d80ca17fc04bf0d764f8030fdcb3f39", func := "loop.example/streamlayers/laws.FnExactNewWriter", spec := "fnExactNewWriter", apart := false, narrowed := true }
def FnExactNewWriterUptoSaid : Prop := fnExactNewWriterUptoRow.holds Try.pinned (OpenSpec.upto fnExactNewWriterSpec)

/-- 'laws.FnExactTellWriter', WHERE WHAT IT READS IS OF BULK AT MOST 1048576: true; the input reads as it did. -/
def fnExactTellWriterUptoRow : OpenClaim := { program := "ytjnlobgallebnaa", sum := "d3de66266a0dfa63661e742747e64ce93d80ca17fc04bf0d764f8030fdcb3f39", func := "loop.example/streamlayers/laws.FnExactTellWriter", spec := "fnExactTellWriter", apart := false, narrowed := true }
def FnExactTellWriterUptoSaid : Prop := fnExactTellWriterUptoRow.holds Try.pinned (OpenSpec.upto fnExactTellWriterSpec)

/-- 'laws.FnExactRoomOf', WHERE WHAT IT READS IS OF BULK AT MOST 1048576: true; the input reads as it did. -/
def fnExactRoomOfUptoRow : OpenClaim := { program := "ytjnlobgallebnaa", sum := "d3de66266a0dfa63661e742747e64ce93d80ca17fc04bf0d764f8030fdcb3f39", func := "loop.example/streamlayers/laws.FnExactRoomOf", spec := "fnExactRoomOf", apart := false, narrowed := true }
def FnExactRoomOfUptoSaid : Prop := fnExactRoomOfUptoRow.holds Try.pinned (OpenSpec.upto fnExactRoomOfSpec)

/-- 'laws.FnExactSeenData', WHERE WHAT IT READS IS OF BULK AT MOST 1048576: true; the input reads as it did. -/
def fnExactSeenDataUptoRow : OpenClaim := { program := "ytjnlobgallebnaa", sum := "d3de66266a0dfa63661e742747e64ce93d80ca17fc04bf0d764f8030fdcb3f39", func := "loop.example/streamlayers/laws.FnExactSeenData", spec := "fnExactSeenData", apart := false, narrowed := true }
def FnExactSeenDataUptoSaid : Prop := fnExactSeenDataUptoRow.holds Try.pinned (OpenSpec.upto fnExactSeenDataSpec)

end Rows
end Go.Proofs.Ytjnlobgallebnaa
