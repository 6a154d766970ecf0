/-
  No cell of these rows narrows 'for every input' (looked for: loops, veiled, ifaces, maps, wideKeys, modest, calm, conditions, laid).
  DERIVED. THE GIVEN ROWS OF THIS SEAT. 5 by the template 'for every input the law returns true; each argument reads behind the call as it read before'; 0 by the template 'total and deterministic' (their statements: YtdiebkaedjlckaaTotals.lean).
  GIVEN WITH THE SEED: the statements are not yours to turn. If you find one false, say at which input.
  Laid BY PROGRAM, IN A SANDBOX (cutbox-rows.mjs): the forced cells as the released guide's own fill.sh prints them over the translation 081ccb27f448e6f0… (all of the seat's roots in one cut). By AI agents, Wed Nov 11 2026. No macro, syntax, notation, axiom, sorry.
-/
import Derived.Test.YtdiebkaedjlckaaChecked
import GoSem.Claim
import GoSem.ClaimJoined
import GoSem.ClaimMapViews
import Derived.JoinedTies
import Derived.KernelRfl
namespace Go.Proofs.Ytdiebkaedjlckaa
/- THE CELL 'sum', in the pinned program and in every row, IS THE sha256 OF THE DUMP (.gsa) THAT YtdiebkaedjlckaaProg.lean LOADS. Nothing in Lean hashes anything: it is a label: what it is worth is what the hold of that sum in a sandbox is worth. -/
noncomputable def Try.pinned : Pinned := { name := "ytdiebkaedjlckaa", sum := "081ccb27f448e6f03da8c0e40fa7ff724282b3b737fc2e51393e0624c16151a5", checked := Try.checked }
namespace Rows
def none {H : Type} : Left H := { results := [], args := [] }

/-- 'laws.FnNewBoth': WHATEVER THE INPUT: true; the input reads as it did. -/
def fnNewBothSpec : ChangeSpec := { name := "fnNewBoth", fn := fun _ => fun
  | [d] => { results := [.lit (.bool true)], args := [d] }
  | _ => none }
def fnNewBothRow : OpenClaim := { program := "ytdiebkaedjlckaa", sum := "081ccb27f448e6f03da8c0e40fa7ff724282b3b737fc2e51393e0624c16151a5", func := "loop.example/streamlayers/laws.FnNewBoth", spec := "fnNewBoth", apart := false }
def FnNewBothSaid : Prop := fnNewBothRow.holds Try.pinned (OpenSpec.ofChange fnNewBothSpec)

/-- ITS FALSE NEIGHBOUR: 'it returns false'. Refute it at one input. -/
def fnNewBothWrong : ChangeSpec := { name := "fnNewBoth", fn := fun _ => fun
  | [d] => { results := [.lit (.bool false)], args := [d] }
  | _ => none }
def FnNewBothWrongFalsely : Prop := fnNewBothRow.holds Try.pinned (OpenSpec.ofChange fnNewBothWrong)

/-- 'laws.FnPlainRead': WHATEVER THE INPUT: true; the input reads as it did. -/
def fnPlainReadSpec : ChangeSpec := { name := "fnPlainRead", fn := fun _ => fun
  | [d] => { results := [.lit (.bool true)], args := [d] }
  | _ => none }
def fnPlainReadRow : OpenClaim := { program := "ytdiebkaedjlckaa", sum := "081ccb27f448e6f03da8c0e40fa7ff724282b3b737fc2e51393e0624c16151a5", func := "loop.example/streamlayers/laws.FnPlainRead", spec := "fnPlainRead", apart := false }
def FnPlainReadSaid : Prop := fnPlainReadRow.holds Try.pinned (OpenSpec.ofChange fnPlainReadSpec)

/-- ITS FALSE NEIGHBOUR: 'it returns false'. Refute it at one input. -/
def fnPlainReadWrong : ChangeSpec := { name := "fnPlainRead", fn := fun _ => fun
  | [d] => { results := [.lit (.bool false)], args := [d] }
  | _ => none }
def FnPlainReadWrongFalsely : Prop := fnPlainReadRow.holds Try.pinned (OpenSpec.ofChange fnPlainReadWrong)

/-- 'laws.FnPlainWrite': WHATEVER THE INPUT: true; the input reads as it did. -/
def fnPlainWriteSpec : ChangeSpec := { name := "fnPlainWrite", fn := fun _ => fun
  | [d] => { results := [.lit (.bool true)], args := [d] }
  | _ => none }
def fnPlainWriteRow : OpenClaim := { program := "ytdiebkaedjlckaa", sum := "081ccb27f448e6f03da8c0e40fa7ff724282b3b737fc2e51393e0624c16151a5", func := "loop.example/streamlayers/laws.FnPlainWrite", spec := "fnPlainWrite", apart := false }
def FnPlainWriteSaid : Prop := fnPlainWriteRow.holds Try.pinned (OpenSpec.ofChange fnPlainWriteSpec)

/-- ITS FALSE NEIGHBOUR: 'it returns false'. Refute it at one input. -/
def fnPlainWriteWrong : ChangeSpec := { name := "fnPlainWrite", fn := fun _ => fun
  | [d] => { results := [.lit (.bool false)], args := [d] }
  | _ => none }
def FnPlainWriteWrongFalsely : Prop := fnPlainWriteRow.holds Try.pinned (OpenSpec.ofChange fnPlainWriteWrong)

/-- 'laws.FnPlainSeek': WHATEVER THE INPUT: true; the input reads as it did. -/
def fnPlainSeekSpec : ChangeSpec := { name := "fnPlainSeek", fn := fun _ => fun
  | [d] => { results := [.lit (.bool true)], args := [d] }
  | _ => none }
def fnPlainSeekRow : OpenClaim := { program := "ytdiebkaedjlckaa", sum := "081ccb27f448e6f03da8c0e40fa7ff724282b3b737fc2e51393e0624c16151a5", func := "loop.example/streamlayers/laws.FnPlainSeek", spec := "fnPlainSeek", apart := false }
def FnPlainSeekSaid : Prop := fnPlainSeekRow.holds Try.pinned (OpenSpec.ofChange fnPlainSeekSpec)

/-- ITS FALSE NEIGHBOUR: 'it returns false'. Refute it at one input. -/
def fnPlainSeekWrong : ChangeSpec := { name := "fnPlainSeek", fn := fun _ => fun
  | [d] => { results := [.lit (.bool false)], args := [d] }
  | _ => none }
def FnPlainSeekWrongFalsely : Prop := fnPlainSeekRow.holds Try.pinned (OpenSpec.ofChange fnPlainSeekWrong)

/-- 'laws.FnExactValidAct': WHATEVER THE INPUT: true; the input reads as it did. -/
def fnExactValidActSpec : ChangeSpec := { name := "fnExactValidAct", fn := fun _ => fun
  | [d] => { results := [.lit (.bool true)], args := [d] }
  | _ => none }
def fnExactValidActRow : OpenClaim := { program := "ytdiebkaedjlckaa", sum := "081ccb27f448e6f03da8c0e40fa7ff724282b3b737fc2e51393e0624c16151a5", func := "loop.example/streamlayers/laws.FnExactValidAct", spec := "fnExactValidAct", apart := false }
def FnExactValidActSaid : Prop := fnExactValidActRow.holds Try.pinned (OpenSpec.ofChange fnExactValidActSpec)

/-- ITS FALSE NEIGHBOUR: 'it returns false'. Refute it at one input. -/
def fnExactValidActWrong : ChangeSpec := { name := "fnExactValidAct", fn := fun _ => fun
  | [d] => { results := [.lit (.bool false)], args := [d] }
  | _ => none }
def FnExactValidActWrongFalsely : Prop := fnExactValidActRow.holds Try.pinned (OpenSpec.ofChange fnExactValidActWrong)

/- THE SECOND FORM. 'bulk': how many values and letters a reading holds, each counted each time it is reached (what is shared counts as often as it is met; a slice's spare places count too). A statement '..UptoSaid' is the law's where the arguments, and the package variables that the reading takes, are together of bulk at most 1048576: NARROWER than '..Said'. Prove '..Said' where nothing that the law and all that it calls make is longer than what came in: it says more and counts as full. Else prove '..UptoSaid'. A law counts once. -/
mutual
def uptoBulk {H : Type} : DataW H → Nat
  | .lit (.string bytes) => bytes.length + 1
  | .lit _ => 1
  | .nil => 1
  | .ptr d => uptoBulk d + 1
  | .slice elems spare => uptoBulkAll elems + uptoBulkAll spare + 1
  | .agg parts => uptoBulkAll parts + 1
  | .iface _ d => uptoBulk d + 1
  | .map entries => uptoBulkEntries entries + 1
  | .held _ => 1
def uptoBulkAll {H : Type} : List (DataW H) → Nat
  | [] => 0
  | d :: r => uptoBulk d + uptoBulkAll r
def uptoBulkEntries {H : Type} : List (Lit × DataW H) → Nat
  | [] => 0
  | x :: r => uptoBulkEntry x + uptoBulkEntries r
def uptoBulkEntry {H : Type} : Lit × DataW H → Nat
  | (.string bytes, d) => bytes.length + uptoBulk d + 1
  | (_, d) => uptoBulk d + 1
 end
def uptoSmall : (H : Type) → List (DataW H) → Bool := fun _ ds => decide (uptoBulkAll ds ≤ 1048576)
def OpenSpec.upto (s : _root_.Go.ChangeSpec) : _root_.Go.OpenSpec := { _root_.Go.OpenSpec.ofChange s with cond := some uptoSmall }

/-- 'laws.FnNewBoth', WHERE WHAT IT READS IS OF BULK AT MOST 1048576: true; the input reads as it did. -/
def fnNewBothUptoRow : OpenClaim := { program := "ytdiebkaedjlckaa", sum := "081ccb27f448e6f03da8c0e40fa7ff724282b3b737fc2e51393e0624c16151a5", func := "loop.example/streamlayers/laws.FnNewBoth", spec := "fnNewBoth", apart := false, narrowed := true }
def FnNewBothUptoSaid : Prop := fnNewBothUptoRow.holds Try.pinned (OpenSpec.upto fnNewBothSpec)

/-- 'laws.FnPlainRead', WHERE WHAT IT READS IS OF BULK AT MOST 1048576: true; the input reads as it did. -/
def fnPlainReadUptoRow : OpenClaim := { program := "ytdiebkaedjlckaa", sum := "081ccb27f448e6f03da8c0e40fa7ff724282b3b737fc2e51393e0624c16151a5", func := "loop.example/streamlayers/laws.FnPlainRead", spec := "fnPlainRead", apart := false, narrowed := true }
def FnPlainReadUptoSaid : Prop := fnPlainReadUptoRow.holds Try.pinned (OpenSpec.upto fnPlainReadSpec)

/-- 'laws.FnPlainWrite', WHERE WHAT IT READS IS OF BULK AT MOST 1048576: true; the input reads as it did. -/
def fnPlainWriteUptoRow : OpenClaim := { program := "ytdiebkaedjlckaa", sum := "081ccb27f448e6f03da8c0e40fa7ff724282b3b737fc2e51393e0624c16151a5", func := "loop.example/streamlayers/laws.FnPlainWrite", spec := "fnPlainWrite", apart := false, narrowed := true }
def FnPlainWriteUptoSaid : Prop := fnPlainWriteUptoRow.holds Try.pinned (OpenSpec.upto fnPlainWriteSpec)

/-- 'laws.FnPlainSeek', WHERE WHAT IT READS IS OF BULK AT MOST 1048576: true; the input reads as it did. -/
def fnPlainSeekUptoRow : OpenClaim := { program := "ytdiebkaedjlckaa", sum := "081ccb27f448e6f03da8c0e40fa7ff724282b3b737fc2e51393e0624c16151a5", func := "loop.example/streamlayers/laws.FnPlainSeek", spec := "fnPlainSeek", apart := false, narrowed := true }
def FnPlainSeekUptoSaid : Prop := fnPlainSeekUptoRow.holds Try.pinned (OpenSpec.upto fnPlainSeekSpec)

/-- 'laws.FnExactValidAct', WHERE WHAT IT READS IS OF BULK AT MOST 1048576: true; the input reads as it did. -/
def fnExactValidActUptoRow : OpenClaim := { program := "ytdiebkaedjlckaa", sum := "081ccb27f448e6f03da8c0e40fa7ff724282b3b737fc2e51393e0624c16151a5", func := "loop.example/streamlayers/laws.FnExactValidAct", spec := "fnExactValidAct", apart := false, narrowed := true }
def FnExactValidActUptoSaid : Prop := fnExactValidActUptoRow.holds Try.pinned (OpenSpec.upto fnExactValidActSpec)

end Rows
end Go.Proofs.Ytdiebkaedjlckaa
