/-
  No cell of these rows narrows 'for every input' (looked for: loops, veiled, ifaces, maps, wideKeys, modest, calm, conditions, laid).
  DERIVED. THE GIVEN ROWS OF THIS SEAT. 8 by the template 'for every input the law returns true; each argument reads behind the call as it read before'; 0 by the template 'total and deterministic' (their statements: YtlekbmlacinkdaaTotals.lean).
  GIVEN WITH THE SEED: the statements are not yours to turn. If you find one false, say at which input.
  Laid BY PROGRAM, IN A SANDBOX (cutbox-rows.mjs): the forced cells as the released guide's own fill.sh prints them over the translation ae2b2dea27d1d2af… (all of the seat's roots in one cut). By AI agents, Wed Nov 11 2026. No macro, syntax, notation, axiom, sorry.
-/
import Derived.Test.YtlekbmlacinkdaaChecked
import GoSem.Claim
import GoSem.ClaimJoined
import GoSem.ClaimMapViews
import Derived.JoinedTies
import Derived.KernelRfl
namespace Go.Proofs.Ytlekbmlacinkdaa
/- THE CELL 'sum', in the pinned program and in every row, IS THE sha256 OF THE DUMP (.gsa) THAT YtlekbmlacinkdaaProg.lean LOADS. Nothing in Lean hashes anything: it is a label: what it is worth is what the hold of that sum in a sandbox is worth. -/
noncomputable def Try.pinned : Pinned := { name := "ytlekbmlacinkdaa", sum := "ae2b2dea27d1d2afa8cc92e03a535184ab7a51ee48db4ed1027e973925a35793", checked := Try.checked }
namespace Rows
def none {H : Type} : Left H := { results := [], args := [] }

/-- 'laws.FnNewlineIn': WHATEVER THE INPUT: true; the input reads as it did. -/
def fnNewlineInSpec : ChangeSpec := { name := "fnNewlineIn", fn := fun _ => fun
  | [d] => { results := [.lit (.bool true)], args := [d] }
  | _ => none }
def fnNewlineInRow : OpenClaim := { program := "ytlekbmlacinkdaa", sum := "ae2b2dea27d1d2afa8cc92e03a535184ab7a51ee48db4ed1027e973925a35793", func := "loop.example/streamlayers/laws.FnNewlineIn", spec := "fnNewlineIn", apart := false }
def FnNewlineInSaid : Prop := fnNewlineInRow.holds Try.pinned (OpenSpec.ofChange fnNewlineInSpec)

/-- ITS FALSE NEIGHBOUR: 'it returns false'. Refute it at one input. -/
def fnNewlineInWrong : ChangeSpec := { name := "fnNewlineIn", fn := fun _ => fun
  | [d] => { results := [.lit (.bool false)], args := [d] }
  | _ => none }
def FnNewlineInWrongFalsely : Prop := fnNewlineInRow.holds Try.pinned (OpenSpec.ofChange fnNewlineInWrong)

/-- 'laws.FnNewlineInLines': WHATEVER THE INPUT: true; the input reads as it did. -/
def fnNewlineInLinesSpec : ChangeSpec := { name := "fnNewlineInLines", fn := fun _ => fun
  | [d] => { results := [.lit (.bool true)], args := [d] }
  | _ => none }
def fnNewlineInLinesRow : OpenClaim := { program := "ytlekbmlacinkdaa", sum := "ae2b2dea27d1d2afa8cc92e03a535184ab7a51ee48db4ed1027e973925a35793", func := "loop.example/streamlayers/laws.FnNewlineInLines", spec := "fnNewlineInLines", apart := false }
def FnNewlineInLinesSaid : Prop := fnNewlineInLinesRow.holds Try.pinned (OpenSpec.ofChange fnNewlineInLinesSpec)

/-- ITS FALSE NEIGHBOUR: 'it returns false'. Refute it at one input. -/
def fnNewlineInLinesWrong : ChangeSpec := { name := "fnNewlineInLines", fn := fun _ => fun
  | [d] => { results := [.lit (.bool false)], args := [d] }
  | _ => none }
def FnNewlineInLinesWrongFalsely : Prop := fnNewlineInLinesRow.holds Try.pinned (OpenSpec.ofChange fnNewlineInLinesWrong)

/-- 'laws.FnNewlineOut': WHATEVER THE INPUT: true; the input reads as it did. -/
def fnNewlineOutSpec : ChangeSpec := { name := "fnNewlineOut", fn := fun _ => fun
  | [d] => { results := [.lit (.bool true)], args := [d] }
  | _ => none }
def fnNewlineOutRow : OpenClaim := { program := "ytlekbmlacinkdaa", sum := "ae2b2dea27d1d2afa8cc92e03a535184ab7a51ee48db4ed1027e973925a35793", func := "loop.example/streamlayers/laws.FnNewlineOut", spec := "fnNewlineOut", apart := false }
def FnNewlineOutSaid : Prop := fnNewlineOutRow.holds Try.pinned (OpenSpec.ofChange fnNewlineOutSpec)

/-- ITS FALSE NEIGHBOUR: 'it returns false'. Refute it at one input. -/
def fnNewlineOutWrong : ChangeSpec := { name := "fnNewlineOut", fn := fun _ => fun
  | [d] => { results := [.lit (.bool false)], args := [d] }
  | _ => none }
def FnNewlineOutWrongFalsely : Prop := fnNewlineOutRow.holds Try.pinned (OpenSpec.ofChange fnNewlineOutWrong)

/-- 'laws.FnSplitLines': WHATEVER THE INPUT: true; the input reads as it did. -/
def fnSplitLinesSpec : ChangeSpec := { name := "fnSplitLines", fn := fun _ => fun
  | [d] => { results := [.lit (.bool true)], args := [d] }
  | _ => none }
def fnSplitLinesRow : OpenClaim := { program := "ytlekbmlacinkdaa", sum := "ae2b2dea27d1d2afa8cc92e03a535184ab7a51ee48db4ed1027e973925a35793", func := "loop.example/streamlayers/laws.FnSplitLines", spec := "fnSplitLines", apart := false }
def FnSplitLinesSaid : Prop := fnSplitLinesRow.holds Try.pinned (OpenSpec.ofChange fnSplitLinesSpec)

/-- ITS FALSE NEIGHBOUR: 'it returns false'. Refute it at one input. -/
def fnSplitLinesWrong : ChangeSpec := { name := "fnSplitLines", fn := fun _ => fun
  | [d] => { results := [.lit (.bool false)], args := [d] }
  | _ => none }
def FnSplitLinesWrongFalsely : Prop := fnSplitLinesRow.holds Try.pinned (OpenSpec.ofChange fnSplitLinesWrong)

/-- 'laws.FnCountEnds': WHATEVER THE INPUT: true; the input reads as it did. -/
def fnCountEndsSpec : ChangeSpec := { name := "fnCountEnds", fn := fun _ => fun
  | [d] => { results := [.lit (.bool true)], args := [d] }
  | _ => none }
def fnCountEndsRow : OpenClaim := { program := "ytlekbmlacinkdaa", sum := "ae2b2dea27d1d2afa8cc92e03a535184ab7a51ee48db4ed1027e973925a35793", func := "loop.example/streamlayers/laws.FnCountEnds", spec := "fnCountEnds", apart := false }
def FnCountEndsSaid : Prop := fnCountEndsRow.holds Try.pinned (OpenSpec.ofChange fnCountEndsSpec)

/-- ITS FALSE NEIGHBOUR: 'it returns false'. Refute it at one input. -/
def fnCountEndsWrong : ChangeSpec := { name := "fnCountEnds", fn := fun _ => fun
  | [d] => { results := [.lit (.bool false)], args := [d] }
  | _ => none }
def FnCountEndsWrongFalsely : Prop := fnCountEndsRow.holds Try.pinned (OpenSpec.ofChange fnCountEndsWrong)

/-- 'laws.FnNlNumber': WHATEVER THE INPUT: true; the input reads as it did. -/
def fnNlNumberSpec : ChangeSpec := { name := "fnNlNumber", fn := fun _ => fun
  | [d] => { results := [.lit (.bool true)], args := [d] }
  | _ => none }
def fnNlNumberRow : OpenClaim := { program := "ytlekbmlacinkdaa", sum := "ae2b2dea27d1d2afa8cc92e03a535184ab7a51ee48db4ed1027e973925a35793", func := "loop.example/streamlayers/laws.FnNlNumber", spec := "fnNlNumber", apart := false }
def FnNlNumberSaid : Prop := fnNlNumberRow.holds Try.pinned (OpenSpec.ofChange fnNlNumberSpec)

/-- ITS FALSE NEIGHBOUR: 'it returns false'. Refute it at one input. -/
def fnNlNumberWrong : ChangeSpec := { name := "fnNlNumber", fn := fun _ => fun
  | [d] => { results := [.lit (.bool false)], args := [d] }
  | _ => none }
def FnNlNumberWrongFalsely : Prop := fnNlNumberRow.holds Try.pinned (OpenSpec.ofChange fnNlNumberWrong)

/-- 'laws.FnNlState': WHATEVER THE INPUT: true; the input reads as it did. -/
def fnNlStateSpec : ChangeSpec := { name := "fnNlState", fn := fun _ => fun
  | [d] => { results := [.lit (.bool true)], args := [d] }
  | _ => none }
def fnNlStateRow : OpenClaim := { program := "ytlekbmlacinkdaa", sum := "ae2b2dea27d1d2afa8cc92e03a535184ab7a51ee48db4ed1027e973925a35793", func := "loop.example/streamlayers/laws.FnNlState", spec := "fnNlState", apart := false }
def FnNlStateSaid : Prop := fnNlStateRow.holds Try.pinned (OpenSpec.ofChange fnNlStateSpec)

/-- ITS FALSE NEIGHBOUR: 'it returns false'. Refute it at one input. -/
def fnNlStateWrong : ChangeSpec := { name := "fnNlState", fn := fun _ => fun
  | [d] => { results := [.lit (.bool false)], args := [d] }
  | _ => none }
def FnNlStateWrongFalsely : Prop := fnNlStateRow.holds Try.pinned (OpenSpec.ofChange fnNlStateWrong)

/-- 'laws.FnEndsIn': WHATEVER THE INPUT: true; the input reads as it did. -/
def fnEndsInSpec : ChangeSpec := { name := "fnEndsIn", fn := fun _ => fun
  | [d] => { results := [.lit (.bool true)], args := [d] }
  | _ => none }
def fnEndsInRow : OpenClaim := { program := "ytlekbmlacinkdaa", sum := "ae2b2dea27d1d2afa8cc92e03a535184ab7a51ee48db4ed1027e973925a35793", func := "loop.example/streamlayers/laws.FnEndsIn", spec := "fnEndsIn", apart := false }
def FnEndsInSaid : Prop := fnEndsInRow.holds Try.pinned (OpenSpec.ofChange fnEndsInSpec)

/-- ITS FALSE NEIGHBOUR: 'it returns false'. Refute it at one input. -/
def fnEndsInWrong : ChangeSpec := { name := "fnEndsIn", fn := fun _ => fun
  | [d] => { results := [.lit (.bool false)], args := [d] }
  | _ => none }
def FnEndsInWrongFalsely : Prop := fnEndsInRow.holds Try.pinned (OpenSpec.ofChange fnEndsInWrong)

/- THE SECOND FORM. 'bulk': how many values and letters a reading holds, each counted each time it is reached (what is shared counts as often as it is met; a slice's spare places count too). A statement '..UptoSaid' is the law's where the arguments, and the package variables that the reading takes, are together of bulk at most 1048576: NARROWER than '..Said'. Prove '..Said' where nothing that the law and all that it calls make is longer than what came in: it says more and counts as full. Else prove '..UptoSaid'. A law counts once. -/
mutual
def uptoBulk {H : Type} : DataW H → Nat
  | .lit (.string bytes) => bytes.length + 1
  | .lit _ => 1
  | .nil => 1
  | .ptr d => uptoBulk d + 1
  | .slice elems spare => uptoBulkAll elems + uptoBulkAll spare + 1
  | .agg parts => uptoBulkAll parts + 1
  | .iface _ d => uptoBulk d + 1
  | .map entries => uptoBulkEntries entries + 1
  | .held _ => 1
def uptoBulkAll {H : Type} : List (DataW H) → Nat
  | [] => 0
  | d :: r => uptoBulk d + uptoBulkAll r
def uptoBulkEntries {H : Type} : List (Lit × DataW H) → Nat
  | [] => 0
  | x :: r => uptoBulkEntry x + uptoBulkEntries r
def uptoBulkEntry {H : Type} : Lit × DataW H → Nat
  | (.string bytes, d) => bytes.length + uptoBulk d + 1
  | (_, d) => uptoBulk d + 1
 end
def uptoSmall : (H : Type) → List (DataW H) → Bool := fun _ ds => decide (uptoBulkAll ds ≤ 1048576)
def OpenSpec.upto (s : _root_.Go.ChangeSpec) : _root_.Go.OpenSpec := { _root_.Go.OpenSpec.ofChange s with cond := some uptoSmall }

/-- 'laws.FnNewlineIn', WHERE WHAT IT READS IS OF BULK AT MOST 1048576: true; the input reads as it did. -/
def fnNewlineInUptoRow : OpenClaim := { program := "ytlekbmlacinkdaa", sum := "ae2b2dea27d1d2afa8cc92e03a535184ab7a51ee48db4ed1027e973925a35793", func := "loop.example/streamlayers/laws.FnNewlineIn", spec := "fnNewlineIn", apart := false, narrowed := true }
def FnNewlineInUptoSaid : Prop := fnNewlineInUptoRow.holds Try.pinned (OpenSpec.upto fnNewlineInSpec)

/-- 'laws.FnNewlineInLines', WHERE WHAT IT READS IS OF BULK AT MOST 1048576: true; the input reads as it did. -/
def fnNewlineInLinesUptoRow : OpenClaim := { program := "ytlekbmlacinkdaa", sum := "ae2b2dea27d1d2afa8cc92e03a535184ab7a51ee48db4ed1027e973925a35793", func := "loop.example/streamlayers/laws.FnNewlineInLines", spec := "fnNewlineInLines", apart := false, narrowed := true }
def FnNewlineInLinesUptoSaid : Prop := fnNewlineInLinesUptoRow.holds Try.pinned (OpenSpec.upto fnNewlineInLinesSpec)

/-- 'laws.FnNewlineOut', WHERE WHAT IT READS IS OF BULK AT MOST 1048576: true; the input reads as it did. -/
def fnNewlineOutUptoRow : OpenClaim := { program := "ytlekbmlacinkdaa", sum := "ae2b2dea27d1d2afa8cc92e03a535184ab7a51ee48db4ed1027e973925a35793", func := "loop.example/streamlayers/laws.FnNewlineOut", spec := "fnNewlineOut", apart := false, narrowed := true }
def FnNewlineOutUptoSaid : Prop := fnNewlineOutUptoRow.holds Try.pinned (OpenSpec.upto fnNewlineOutSpec)

/-- 'laws.FnSplitLines', WHERE WHAT IT READS IS OF BULK AT MOST 1048576: true; the input reads as it did. -/
def fnSplitLinesUptoRow : OpenClaim := { program := "ytlekbmlacinkdaa", sum := "ae2b2dea27d1d2afa8cc92e03a535184ab7a51ee48db4ed1027e973925a35793", func := "loop.example/streamlayers/laws.FnSplitLines", spec := "fnSplitLines", apart := false, narrowed := true }
def FnSplitLinesUptoSaid : Prop := fnSplitLinesUptoRow.holds Try.pinned (OpenSpec.upto fnSplitLinesSpec)

/-- 'laws.FnCountEnds', WHERE WHAT IT READS IS OF BULK AT MOST 1048576: true; the input reads as it did. -/
def fnCountEndsUptoRow : OpenClaim := { program := "ytlekbmlacinkdaa", sum := "ae2b2dea27d1d2afa8cc92e03a535184ab7a51ee48db4ed1027e973925a35793", func := "loop.example/streamlayers/laws.FnCountEnds", spec := "fnCountEnds", apart := false, narrowed := true }
def FnCountEndsUptoSaid : Prop := fnCountEndsUptoRow.holds Try.pinned (OpenSpec.upto fnCountEndsSpec)

/-- 'laws.FnNlNumber', WHERE WHAT IT READS IS OF BULK AT MOST 1048576: true; the input reads as it did. -/
def fnNlNumberUptoRow : OpenClaim := { program := "ytlekbmlacinkdaa", sum := "ae2b2dea27d1d2afa8cc92e03a535184ab7a51ee48db4ed1027e973925a35793", func := "loop.example/streamlayers/laws.FnNlNumber", spec := "fnNlNumber", apart := false, narrowed := true }
def FnNlNumberUptoSaid : Prop := fnNlNumberUptoRow.holds Try.pinned (OpenSpec.upto fnNlNumberSpec)

/-- 'laws.FnNlState', WHERE WHAT IT READS IS OF BULK AT MOST 1048576: true; the input reads as it did. -/
def fnNlStateUptoRow : OpenClaim := { program := "ytlekbmlacinkdaa", sum := "ae2b2dea27d1d2afa8cc92e03a535184ab7a51ee48db4ed1027e973925a35793", func := "loop.example/streamlayers/laws.FnNlState", spec := "fnNlState", apart := false, narrowed := true }
def FnNlStateUptoSaid : Prop := fnNlStateUptoRow.holds Try.pinned (OpenSpec.upto fnNlStateSpec)

/-- 'laws.FnEndsIn', WHERE WHAT IT READS IS OF BULK AT MOST 1048576: true; the input reads as it did. -/
def fnEndsInUptoRow : OpenClaim := { program := "ytlekbmlacinkdaa", sum := "ae2b2dea27d1d2afa8cc92e03a535184ab7a51ee48db4ed1027e973925a35793", func := "loop.example/streamlayers/laws.FnEndsIn", spec := "fnEndsIn", apart := false, narrowed := true }
def FnEndsInUptoSaid : Prop := fnEndsInUptoRow.holds Try.pinned (OpenSpec.upto fnEndsInSpec)

end Rows
end Go.Proofs.Ytlekbmlacinkdaa
