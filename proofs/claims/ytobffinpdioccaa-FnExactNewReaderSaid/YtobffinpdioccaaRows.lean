/-
  No cell of these rows narrows 'for every input' (looked for: loops, veiled, ifaces, maps, wideKeys, modest, calm, conditions, laid).
  DERIVED. THE GIVEN ROWS OF THIS SEAT. 11 by the template 'for every input the law returns true; each argument reads behind the call as it read before'; 0 by the template 'total and deterministic' (their statements: YtobffinpdioccaaTotals.lean).
  GIVEN WITH THE SEED: the statements are not yours to turn. If you find one false, say at which input.
  Laid BY PROGRAM, IN A SANDBOX (cutbox-rows.mjs): the forced cells as the released guide's own fill.sh prints them over the translation cfd4c26c4729dcf8… (all of the seat's roots in one cut). By AI agents, Wed Nov 11 2026. No macro, syntax, notation, axiom, sorry.
-/
import Derived.Test.YtobffinpdioccaaChecked
import GoSem.Claim
import GoSem.ClaimJoined
import GoSem.ClaimMapViews
import Derived.JoinedTies
import Derived.KernelRfl
namespace Go.Proofs.Ytobffinpdioccaa
/- THE CELL 'sum', in the pinned program and in every row, IS THE sha256 OF THE DUMP (.gsa) THAT YtobffinpdioccaaProg.lean LOADS. Nothing in Lean hashes anything: it is a label: what it is worth is what the hold of that sum in a sandbox is worth. -/
noncomputable def Try.pinned : Pinned := { name := "ytobffinpdioccaa", sum := "cfd4c26c4729dcf81b7a2b1d3fd06c1742139bc2d48408b5feef32ad62469199", checked := Try.checked }
namespace Rows
def none {H : Type} : Left H := { results := [], args := [] }

/-- 'laws.FnExactWriteDevice': WHATEVER THE INPUT: true; the input reads as it did. -/
def fnExactWriteDeviceSpec : ChangeSpec := { name := "fnExactWriteDevice", fn := fun _ => fun
  | [d1, d2] => { results := [.lit (.bool true)], args := [d1, d2] }
  | _ => none }
def fnExactWriteDeviceRow : OpenClaim := { program := "ytobffinpdioccaa", sum := "cfd4c26c4729dcf81b7a2b1d3fd06c1742139bc2d48408b5feef32ad62469199", func := "loop.example/streamlayers/laws.FnExactWriteDevice", spec := "fnExactWriteDevice", unfollowed := true, recurses := true, apart := false }
def FnExactWriteDeviceSaid : Prop := fnExactWriteDeviceRow.holds Try.pinned (OpenSpec.ofChange fnExactWriteDeviceSpec)

/-- ITS FALSE NEIGHBOUR: 'it returns false'. Refute it at one input. -/
def fnExactWriteDeviceWrong : ChangeSpec := { name := "fnExactWriteDevice", fn := fun _ => fun
  | [d1, d2] => { results := [.lit (.bool false)], args := [d1, d2] }
  | _ => none }
def FnExactWriteDeviceWrongFalsely : Prop := fnExactWriteDeviceRow.holds Try.pinned (OpenSpec.ofChange fnExactWriteDeviceWrong)

/-- 'laws.FnExactValidReader': WHATEVER THE INPUT: true; the input reads as it did. -/
def fnExactValidReaderSpec : ChangeSpec := { name := "fnExactValidReader", fn := fun _ => fun
  | [d] => { results := [.lit (.bool true)], args := [d] }
  | _ => none }
def fnExactValidReaderRow : OpenClaim := { program := "ytobffinpdioccaa", sum := "cfd4c26c4729dcf81b7a2b1d3fd06c1742139bc2d48408b5feef32ad62469199", func := "loop.example/streamlayers/laws.FnExactValidReader", spec := "fnExactValidReader", apart := false }
def FnExactValidReaderSaid : Prop := fnExactValidReaderRow.holds Try.pinned (OpenSpec.ofChange fnExactValidReaderSpec)

/-- ITS FALSE NEIGHBOUR: 'it returns false'. Refute it at one input. -/
def fnExactValidReaderWrong : ChangeSpec := { name := "fnExactValidReader", fn := fun _ => fun
  | [d] => { results := [.lit (.bool false)], args := [d] }
  | _ => none }
def FnExactValidReaderWrongFalsely : Prop := fnExactValidReaderRow.holds Try.pinned (OpenSpec.ofChange fnExactValidReaderWrong)

/-- 'laws.FnExactNewReader': WHATEVER THE INPUT: true; the input reads as it did. -/
def fnExactNewReaderSpec : ChangeSpec := { name := "fnExactNewReader", fn := fun _ => fun
  | [d1, d2] => { results := [.lit (.bool true)], args := [d1, d2] }
  | _ => none }
def fnExactNewReaderRow : OpenClaim := { program := "ytobffinpdioccaa", sum := "cfd4c26c4729dcf81b7a2b1d3fd06c1742139bc2d48408b5feef32ad62469199", func := "loop.example/streamlayers/laws.FnExactNewReader", spec := "fnExactNewReader", apart := false }
def FnExactNewReaderSaid : Prop := fnExactNewReaderRow.holds Try.pinned (OpenSpec.ofChange fnExactNewReaderSpec)

/-- ITS FALSE NEIGHBOUR: 'it returns false'. Refute it at one input. -/
def fnExactNewReaderWrong : ChangeSpec := { name := "fnExactNewReader", fn := fun _ => fun
  | [d1, d2] => { results := [.lit (.bool false)], args := [d1, d2] }
  | _ => none }
def FnExactNewReaderWrongFalsely : Prop := fnExactNewReaderRow.holds Try.pinned (OpenSpec.ofChange fnExactNewReaderWrong)

/-- 'laws.FnExactReadSome': WHATEVER THE INPUT: true; the input reads as it did. -/
def fnExactReadSomeSpec : ChangeSpec := { name := "fnExactReadSome", fn := fun _ => fun
  | [d1, d2] => { results := [.lit (.bool true)], args := [d1, d2] }
  | _ => none }
def fnExactReadSomeRow : OpenClaim := { program := "ytobffinpdioccaa", sum := "cfd4c26c4729dcf81b7a2b1d3fd06c1742139bc2d48408b5feef32ad62469199", func := "loop.example/streamlayers/laws.FnExactReadSome", spec := "fnExactReadSome", apart := false }
def FnExactReadSomeSaid : Prop := fnExactReadSomeRow.holds Try.pinned (OpenSpec.ofChange fnExactReadSomeSpec)

/-- ITS FALSE NEIGHBOUR: 'it returns false'. Refute it at one input. -/
def fnExactReadSomeWrong : ChangeSpec := { name := "fnExactReadSome", fn := fun _ => fun
  | [d1, d2] => { results := [.lit (.bool false)], args := [d1, d2] }
  | _ => none }
def FnExactReadSomeWrongFalsely : Prop := fnExactReadSomeRow.holds Try.pinned (OpenSpec.ofChange fnExactReadSomeWrong)

/-- 'laws.FnExactReadFull': WHATEVER THE INPUT: true; the input reads as it did. -/
def fnExactReadFullSpec : ChangeSpec := { name := "fnExactReadFull", fn := fun _ => fun
  | [d1, d2] => { results := [.lit (.bool true)], args := [d1, d2] }
  | _ => none }
def fnExactReadFullRow : OpenClaim := { program := "ytobffinpdioccaa", sum := "cfd4c26c4729dcf81b7a2b1d3fd06c1742139bc2d48408b5feef32ad62469199", func := "loop.example/streamlayers/laws.FnExactReadFull", spec := "fnExactReadFull", apart := false }
def FnExactReadFullSaid : Prop := fnExactReadFullRow.holds Try.pinned (OpenSpec.ofChange fnExactReadFullSpec)

/-- ITS FALSE NEIGHBOUR: 'it returns false'. Refute it at one input. -/
def fnExactReadFullWrong : ChangeSpec := { name := "fnExactReadFull", fn := fun _ => fun
  | [d1, d2] => { results := [.lit (.bool false)], args := [d1, d2] }
  | _ => none }
def FnExactReadFullWrongFalsely : Prop := fnExactReadFullRow.holds Try.pinned (OpenSpec.ofChange fnExactReadFullWrong)

/-- 'laws.FnExactReadRest': WHATEVER THE INPUT: true; the input reads as it did. -/
def fnExactReadRestSpec : ChangeSpec := { name := "fnExactReadRest", fn := fun _ => fun
  | [d] => { results := [.lit (.bool true)], args := [d] }
  | _ => none }
def fnExactReadRestRow : OpenClaim := { program := "ytobffinpdioccaa", sum := "cfd4c26c4729dcf81b7a2b1d3fd06c1742139bc2d48408b5feef32ad62469199", func := "loop.example/streamlayers/laws.FnExactReadRest", spec := "fnExactReadRest", apart := false }
def FnExactReadRestSaid : Prop := fnExactReadRestRow.holds Try.pinned (OpenSpec.ofChange fnExactReadRestSpec)

/-- ITS FALSE NEIGHBOUR: 'it returns false'. Refute it at one input. -/
def fnExactReadRestWrong : ChangeSpec := { name := "fnExactReadRest", fn := fun _ => fun
  | [d] => { results := [.lit (.bool false)], args := [d] }
  | _ => none }
def FnExactReadRestWrongFalsely : Prop := fnExactReadRestRow.holds Try.pinned (OpenSpec.ofChange fnExactReadRestWrong)

/-- 'laws.FnExactPeekReader': WHATEVER THE INPUT: true; the input reads as it did. -/
def fnExactPeekReaderSpec : ChangeSpec := { name := "fnExactPeekReader", fn := fun _ => fun
  | [d1, d2] => { results := [.lit (.bool true)], args := [d1, d2] }
  | _ => none }
def fnExactPeekReaderRow : OpenClaim := { program := "ytobffinpdioccaa", sum := "cfd4c26c4729dcf81b7a2b1d3fd06c1742139bc2d48408b5feef32ad62469199", func := "loop.example/streamlayers/laws.FnExactPeekReader", spec := "fnExactPeekReader", apart := false }
def FnExactPeekReaderSaid : Prop := fnExactPeekReaderRow.holds Try.pinned (OpenSpec.ofChange fnExactPeekReaderSpec)

/-- ITS FALSE NEIGHBOUR: 'it returns false'. Refute it at one input. -/
def fnExactPeekReaderWrong : ChangeSpec := { name := "fnExactPeekReader", fn := fun _ => fun
  | [d1, d2] => { results := [.lit (.bool false)], args := [d1, d2] }
  | _ => none }
def FnExactPeekReaderWrongFalsely : Prop := fnExactPeekReaderRow.holds Try.pinned (OpenSpec.ofChange fnExactPeekReaderWrong)

/-- 'laws.FnExactReadUntil': WHATEVER THE INPUT: true; the input reads as it did. -/
def fnExactReadUntilSpec : ChangeSpec := { name := "fnExactReadUntil", fn := fun _ => fun
  | [d1, d2, d3] => { results := [.lit (.bool true)], args := [d1, d2, d3] }
  | _ => none }
def fnExactReadUntilRow : OpenClaim := { program := "ytobffinpdioccaa", sum := "cfd4c26c4729dcf81b7a2b1d3fd06c1742139bc2d48408b5feef32ad62469199", func := "loop.example/streamlayers/laws.FnExactReadUntil", spec := "fnExactReadUntil", apart := false }
def FnExactReadUntilSaid : Prop := fnExactReadUntilRow.holds Try.pinned (OpenSpec.ofChange fnExactReadUntilSpec)

/-- ITS FALSE NEIGHBOUR: 'it returns false'. Refute it at one input. -/
def fnExactReadUntilWrong : ChangeSpec := { name := "fnExactReadUntil", fn := fun _ => fun
  | [d1, d2, d3] => { results := [.lit (.bool false)], args := [d1, d2, d3] }
  | _ => none }
def FnExactReadUntilWrongFalsely : Prop := fnExactReadUntilRow.holds Try.pinned (OpenSpec.ofChange fnExactReadUntilWrong)

/-- 'laws.FnExactTellReader': WHATEVER THE INPUT: true; the input reads as it did. -/
def fnExactTellReaderSpec : ChangeSpec := { name := "fnExactTellReader", fn := fun _ => fun
  | [d] => { results := [.lit (.bool true)], args := [d] }
  | _ => none }
def fnExactTellReaderRow : OpenClaim := { program := "ytobffinpdioccaa", sum := "cfd4c26c4729dcf81b7a2b1d3fd06c1742139bc2d48408b5feef32ad62469199", func := "loop.example/streamlayers/laws.FnExactTellReader", spec := "fnExactTellReader", apart := false }
def FnExactTellReaderSaid : Prop := fnExactTellReaderRow.holds Try.pinned (OpenSpec.ofChange fnExactTellReaderSpec)

/-- ITS FALSE NEIGHBOUR: 'it returns false'. Refute it at one input. -/
def fnExactTellReaderWrong : ChangeSpec := { name := "fnExactTellReader", fn := fun _ => fun
  | [d] => { results := [.lit (.bool false)], args := [d] }
  | _ => none }
def FnExactTellReaderWrongFalsely : Prop := fnExactTellReaderRow.holds Try.pinned (OpenSpec.ofChange fnExactTellReaderWrong)

/-- 'laws.FnExactSeekReader': WHATEVER THE INPUT: true; the input reads as it did. -/
def fnExactSeekReaderSpec : ChangeSpec := { name := "fnExactSeekReader", fn := fun _ => fun
  | [d1, d2, d3] => { results := [.lit (.bool true)], args := [d1, d2, d3] }
  | _ => none }
def fnExactSeekReaderRow : OpenClaim := { program := "ytobffinpdioccaa", sum := "cfd4c26c4729dcf81b7a2b1d3fd06c1742139bc2d48408b5feef32ad62469199", func := "loop.example/streamlayers/laws.FnExactSeekReader", spec := "fnExactSeekReader", apart := false }
def FnExactSeekReaderSaid : Prop := fnExactSeekReaderRow.holds Try.pinned (OpenSpec.ofChange fnExactSeekReaderSpec)

/-- ITS FALSE NEIGHBOUR: 'it returns false'. Refute it at one input. -/
def fnExactSeekReaderWrong : ChangeSpec := { name := "fnExactSeekReader", fn := fun _ => fun
  | [d1, d2, d3] => { results := [.lit (.bool false)], args := [d1, d2, d3] }
  | _ => none }
def FnExactSeekReaderWrongFalsely : Prop := fnExactSeekReaderRow.holds Try.pinned (OpenSpec.ofChange fnExactSeekReaderWrong)

/-- 'laws.FnExactReadLines': WHATEVER THE INPUT: true; the input reads as it did. -/
def fnExactReadLinesSpec : ChangeSpec := { name := "fnExactReadLines", fn := fun _ => fun
  | [d1, d2] => { results := [.lit (.bool true)], args := [d1, d2] }
  | _ => none }
def fnExactReadLinesRow : OpenClaim := { program := "ytobffinpdioccaa", sum := "cfd4c26c4729dcf81b7a2b1d3fd06c1742139bc2d48408b5feef32ad62469199", func := "loop.example/streamlayers/laws.FnExactReadLines", spec := "fnExactReadLines", apart := false }
def FnExactReadLinesSaid : Prop := fnExactReadLinesRow.holds Try.pinned (OpenSpec.ofChange fnExactReadLinesSpec)

/-- ITS FALSE NEIGHBOUR: 'it returns false'. Refute it at one input. -/
def fnExactReadLinesWrong : ChangeSpec := { name := "fnExactReadLines", fn := fun _ => fun
  | [d1, d2] => { results := [.lit (.bool false)], args := [d1, d2] }
  | _ => none }
def FnExactReadLinesWrongFalsely : Prop := fnExactReadLinesRow.holds Try.pinned (OpenSpec.ofChange fnExactReadLinesWrong)

/- THE SECOND FORM. 'bulk': how many values and letters a reading holds, each counted each time it is reached (what is shared counts as often as it is met; a slice's spare places count too). A statement '..UptoSaid' is the law's where the arguments, and the package variables that the reading takes, are together of bulk at most 1048576: NARROWER than '..Said'. Prove '..Said' where nothing that the law and all that it calls make is longer than what came in: it says more and counts as full. Else prove '..UptoSaid'. A law counts once. -/
mutual
def uptoBulk {H : Type} : DataW H → Nat
  | .lit (.string bytes) => bytes.length + 1
  | .lit _ => 1
  | .nil => 1
  | .ptr d => uptoBulk d + 1
  | .slice elems spare => uptoBulkAll elems + uptoBulkAll spare + 1
  | .agg parts => uptoBulkAll parts + 1
  | .iface _ d => uptoBulk d + 1
  | .map entries => uptoBulkEntries entries + 1
  | .held _ => 1
def uptoBulkAll {H : Type} : List (DataW H) → Nat
  | [] => 0
  | d :: r => uptoBulk d + uptoBulkAll r
def uptoBulkEntries {H : Type} : List (Lit × DataW H) → Nat
  | [] => 0
  | x :: r => uptoBulkEntry x + uptoBulkEntries r
def uptoBulkEntry {H : Type} : Lit × DataW H → Nat
  | (.string bytes, d) => bytes.length + uptoBulk d + 1
  | (_, d) => uptoBulk d + 1
 end
def uptoSmall : (H : Type) → List (DataW H) → Bool := fun _ ds => decide (uptoBulkAll ds ≤ 1048576)
def OpenSpec.upto (s : _root_.Go.ChangeSpec) : _root_.Go.OpenSpec := { _root_.Go.OpenSpec.ofChange s with cond := some uptoSmall }

/-- 'laws.FnExactWriteDevice', WHERE WHAT IT READS IS OF BULK AT MOST 1048576: true; the input reads as it did. -/
def fnExactWriteDeviceUptoRow : OpenClaim := { program := "ytobffinpdioccaa", sum := "cfd4c26c4729dcf81b7a2b1d3fd06c1742139bc2d48408b5feef32ad62469199", func := "loop.example/streamlayers/laws.FnExactWriteDevice", spec := "fnExactWriteDevice", unfollowed := true, recurses := true, apart := false, narrowed := true }
def FnExactWriteDeviceUptoSaid : Prop := fnExactWriteDeviceUptoRow.holds Try.pinned (OpenSpec.upto fnExactWriteDeviceSpec)

/-- 'laws.FnExactValidReader', WHERE WHAT IT READS IS OF BULK AT MOST 1048576: true; the input reads as it did. -/
def fnExactValidReaderUptoRow : OpenClaim := { program := "ytobffinpdioccaa", sum := "cfd4c26c4729dcf81b7a2b1d3fd06c1742139bc2d48408b5feef32ad62469199", func := "loop.example/streamlayers/laws.FnExactValidReader", spec := "fnExactValidReader", apart := false, narrowed := true }
def FnExactValidReaderUptoSaid : Prop := fnExactValidReaderUptoRow.holds Try.pinned (OpenSpec.upto fnExactValidReaderSpec)

/-- 'laws.FnExactNewReader', WHERE WHAT IT READS IS OF BULK AT MOST 1048576: true; the input reads as it did. -/
def fnExactNewReaderUptoRow : OpenClaim := { program := "ytobffinpdioccaa", sum := "cfd4c26c4729dcf81b7a2b1d3fd06c1742139bc2d48408b5feef32ad62469199", func := "loop.example/streamlayers/laws.FnExactNewReader", spec := "fnExactNewReader", apart := false, narrowed := true }
def FnExactNewReaderUptoSaid : Prop := fnExactNewReaderUptoRow.holds Try.pinned (OpenSpec.upto fnExactNewReaderSpec)

/-- 'laws.FnExactReadSome', WHERE WHAT IT READS IS OF BULK AT MOST 1048576: true; the input reads as it did. -/
def fnExactReadSomeUptoRow : OpenClaim := { program := "ytobffinpdioccaa", sum := "cfd4c26c4729dcf81b7a2b1d3fd06c1742139bc2d48408b5feef32ad62469199", func := "loop.example/streamlayers/laws.FnExactReadSome", spec := "fnExactReadSome", apart := false, narrowed := true }
def FnExactReadSomeUptoSaid : Prop := fnExactReadSomeUptoRow.holds Try.pinned (OpenSpec.upto fnExactReadSomeSpec)

/-- 'laws.FnExactReadFull', WHERE WHAT IT READS IS OF BULK AT MOST 1048576: true; the input reads as it did. -/
def fnExactReadFullUptoRow : OpenClaim := { program := "ytobffinpdioccaa", sum := "cfd4c26c4729dcf81b7a2b1d3fd06c1742139bc2d48408b5feef32ad62469199", func := "loop.example/streamlayers/laws.FnExactReadFull", spec := "fnExactReadFull", apart := false, narrowed := true }
def FnExactReadFullUptoSaid : Prop := fnExactReadFullUptoRow.holds Try.pinned (OpenSpec.upto fnExactReadFullSpec)

/-- 'laws.FnExactReadRest', WHERE WHAT IT READS IS OF BULK AT MOST 1048576: true; the input reads as it did. -/
def fnExactReadRestUptoRow : OpenClaim := { program := "ytobffinpdioccaa", sum := "cfd4c26c4729dcf81b7a2b1d3fd06c1742139bc2d48408b5feef32ad62469199", func := "loop.example/streamlayers/laws.FnExactReadRest", spec := "fnExactReadRest", apart := false, narrowed := true }
def FnExactReadRestUptoSaid : Prop := fnExactReadRestUptoRow.holds Try.pinned (OpenSpec.upto fnExactReadRestSpec)

/-- 'laws.FnExactPeekReader', WHERE WHAT IT READS IS OF BULK AT MOST 1048576: true; the input reads as it did. -/
def fnExactPeekReaderUptoRow : OpenClaim := { program := "ytobffinpdioccaa", sum := "cfd4c26c4729dcf81b7a2b1d3fd06c1742139bc2d48408b5feef32ad62469199", func := "loop.example/streamlayers/laws.FnExactPeekReader", spec := "fnExactPeekReader", apart := false, narrowed := true }
def FnExactPeekReaderUptoSaid : Prop := fnExactPeekReaderUptoRow.holds Try.pinned (OpenSpec.upto fnExactPeekReaderSpec)

/-- 'laws.FnExactReadUntil', WHERE WHAT IT READS IS OF BULK AT MOST 1048576: true; the input reads as it did. -/
def fnExactReadUntilUptoRow : OpenClaim := { program := "ytobffinpdioccaa", sum := "cfd4c26c4729dcf81b7a2b1d3fd06c1742139bc2d48408b5feef32ad62469199", func := "loop.example/streamlayers/laws.FnExactReadUntil", spec := "fnExactReadUntil", apart := false, narrowed := true }
def FnExactReadUntilUptoSaid : Prop := fnExactReadUntilUptoRow.holds Try.pinned (OpenSpec.upto fnExactReadUntilSpec)

/-- 'laws.FnExactTellReader', WHERE WHAT IT READS IS OF BULK AT MOST 1048576: true; the input reads as it did. -/
def fnExactTellReaderUptoRow : OpenClaim := { program := "ytobffinpdioccaa", sum := "cfd4c26c4729dcf81b7a2b1d3fd06c1742139bc2d48408b5feef32ad62469199", func := "loop.example/streamlayers/laws.FnExactTellReader", spec := "fnExactTellReader", apart := false, narrowed := true }
def FnExactTellReaderUptoSaid : Prop := fnExactTellReaderUptoRow.holds Try.pinned (OpenSpec.upto fnExactTellReaderSpec)

/-- 'laws.FnExactSeekReader', WHERE WHAT IT READS IS OF BULK AT MOST 1048576: true; the input reads as it did. -/
def fnExactSeekReaderUptoRow : OpenClaim := { program := "ytobffinpdioccaa", sum := "cfd4c26c4729dcf81b7a2b1d3fd06c1742139bc2d48408b5feef32ad62469199", func := "loop.example/streamlayers/laws.FnExactSeekReader", spec := "fnExactSeekReader", apart := false, narrowed := true }
def FnExactSeekReaderUptoSaid : Prop := fnExactSeekReaderUptoRow.holds Try.pinned (OpenSpec.upto fnExactSeekReaderSpec)

/-- 'laws.FnExactReadLines', WHERE WHAT IT READS IS OF BULK AT MOST 1048576: true; the input reads as it did. -/
def fnExactReadLinesUptoRow : OpenClaim := { program := "ytobffinpdioccaa", sum := "cfd4c26c4729dcf81b7a2b1d3fd06c1742139bc2d48408b5feef32ad62469199", func := "loop.example/streamlayers/laws.FnExactReadLines", spec := "fnExactReadLines", apart := false, narrowed := true }
def FnExactReadLinesUptoSaid : Prop := fnExactReadLinesUptoRow.holds Try.pinned (OpenSpec.upto fnExactReadLinesSpec)

end Rows
end Go.Proofs.Ytobffinpdioccaa
