/-
  No cell of these rows narrows 'for every input' (looked for: loops, veiled, ifaces, maps, wideKeys, modest, calm, conditions, laid).
  DERIVED. THE GIVEN ROWS OF THIS SEAT. 12 by the template 'for every input the law returns true; each argument reads behind the call as it read before'; 0 by the template 'total and deterministic' (their statements: YtjilbjkmnmbfeaaTotals.lean).
  GIVEN WITH THE SEED: the statements are not yours to turn. If you find one false, say at which input.
  Laid BY PROGRAM, IN A SANDBOX (cutbox-rows.mjs): the forced cells as the released guide's own fill.sh prints them over the translation dd855aee0eda73c8… (all of the seat's roots in one cut). By AI agents, Wed Nov 11 2026. No macro, syntax, notation, axiom, sorry.
-/
import Derived.Test.YtjilbjkmnmbfeaaChecked
import GoSem.Claim
import GoSem.ClaimJoined
import GoSem.ClaimMapViews
import Derived.JoinedTies
import Derived.KernelRfl
namespace Go.Proofs.Ytjilbjkmnmbfeaa
/- THE CELL 'sum', in the pinned program and in every row, IS THE sha256 OF THE DUMP (.gsa) THAT YtjilbjkmnmbfeaaProg.lean LOADS. Nothing in Lean hashes anything: it is a label: what it is worth is what the hold of that sum in a sandbox is worth. -/
noncomputable def Try.pinned : Pinned := { name := "ytjilbjkmnmbfeaa", sum := "dd855aee0eda73c8117d250f615e800b7b34e424413a946e10e53543e2bb1b77", checked := Try.checked }
namespace Rows
def none {H : Type} : Left H := { results := [], args := [] }

/-- 'laws.FnExactValidDevice': WHATEVER THE INPUT: true; the input reads as it did. -/
def fnExactValidDeviceSpec : ChangeSpec := { name := "fnExactValidDevice", fn := fun _ => fun
  | [d] => { results := [.lit (.bool true)], args := [d] }
  | _ => none }
def fnExactValidDeviceRow : OpenClaim := { program := "ytjilbjkmnmbfeaa", sum := "dd855aee0eda73c8117d250f615e800b7b34e424413a946e10e53543e2bb1b77", func := "loop.example/streamlayers/laws.FnExactValidDevice", spec := "fnExactValidDevice", apart := false }
def FnExactValidDeviceSaid : Prop := fnExactValidDeviceRow.holds Try.pinned (OpenSpec.ofChange fnExactValidDeviceSpec)

/-- ITS FALSE NEIGHBOUR: 'it returns false'. Refute it at one input. -/
def fnExactValidDeviceWrong : ChangeSpec := { name := "fnExactValidDevice", fn := fun _ => fun
  | [d] => { results := [.lit (.bool false)], args := [d] }
  | _ => none }
def FnExactValidDeviceWrongFalsely : Prop := fnExactValidDeviceRow.holds Try.pinned (OpenSpec.ofChange fnExactValidDeviceWrong)

/-- 'laws.FnExactNewDevice': WHATEVER THE INPUT: true; the input reads as it did. -/
def fnExactNewDeviceSpec : ChangeSpec := { name := "fnExactNewDevice", fn := fun _ => fun
  | [d1, d2] => { results := [.lit (.bool true)], args := [d1, d2] }
  | _ => none }
def fnExactNewDeviceRow : OpenClaim := { program := "ytjilbjkmnmbfeaa", sum := "dd855aee0eda73c8117d250f615e800b7b34e424413a946e10e53543e2bb1b77", func := "loop.example/streamlayers/laws.FnExactNewDevice", spec := "fnExactNewDevice", apart := false }
def FnExactNewDeviceSaid : Prop := fnExactNewDeviceRow.holds Try.pinned (OpenSpec.ofChange fnExactNewDeviceSpec)

/-- ITS FALSE NEIGHBOUR: 'it returns false'. Refute it at one input. -/
def fnExactNewDeviceWrong : ChangeSpec := { name := "fnExactNewDevice", fn := fun _ => fun
  | [d1, d2] => { results := [.lit (.bool false)], args := [d1, d2] }
  | _ => none }
def FnExactNewDeviceWrongFalsely : Prop := fnExactNewDeviceRow.holds Try.pinned (OpenSpec.ofChange fnExactNewDeviceWrong)

/-- 'laws.FnExactReadDevice': WHATEVER THE INPUT: true; the input reads as it did. -/
def fnExactReadDeviceSpec : ChangeSpec := { name := "fnExactReadDevice", fn := fun _ => fun
  | [d1, d2] => { results := [.lit (.bool true)], args := [d1, d2] }
  | _ => none }
def fnExactReadDeviceRow : OpenClaim := { program := "ytjilbjkmnmbfeaa", sum := "dd855aee0eda73c8117d250f615e800b7b34e424413a946e10e53543e2bb1b77", func := "loop.example/streamlayers/laws.FnExactReadDevice", spec := "fnExactReadDevice", unfollowed := true, recurses := true, apart := false }
def FnExactReadDeviceSaid : Prop := fnExactReadDeviceRow.holds Try.pinned (OpenSpec.ofChange fnExactReadDeviceSpec)

/-- ITS FALSE NEIGHBOUR: 'it returns false'. Refute it at one input. -/
def fnExactReadDeviceWrong : ChangeSpec := { name := "fnExactReadDevice", fn := fun _ => fun
  | [d1, d2] => { results := [.lit (.bool false)], args := [d1, d2] }
  | _ => none }
def FnExactReadDeviceWrongFalsely : Prop := fnExactReadDeviceRow.holds Try.pinned (OpenSpec.ofChange fnExactReadDeviceWrong)

/-- 'laws.FnExactWriteDevice': WHATEVER THE INPUT: true; the input reads as it did. -/
def fnExactWriteDeviceSpec : ChangeSpec := { name := "fnExactWriteDevice", fn := fun _ => fun
  | [d1, d2] => { results := [.lit (.bool true)], args := [d1, d2] }
  | _ => none }
def fnExactWriteDeviceRow : OpenClaim := { program := "ytjilbjkmnmbfeaa", sum := "dd855aee0eda73c8117d250f615e800b7b34e424413a946e10e53543e2bb1b77", func := "loop.example/streamlayers/laws.FnExactWriteDevice", spec := "fnExactWriteDevice", unfollowed := true, recurses := true, apart := false }
def FnExactWriteDeviceSaid : Prop := fnExactWriteDeviceRow.holds Try.pinned (OpenSpec.ofChange fnExactWriteDeviceSpec)

/-- ITS FALSE NEIGHBOUR: 'it returns false'. Refute it at one input. -/
def fnExactWriteDeviceWrong : ChangeSpec := { name := "fnExactWriteDevice", fn := fun _ => fun
  | [d1, d2] => { results := [.lit (.bool false)], args := [d1, d2] }
  | _ => none }
def FnExactWriteDeviceWrongFalsely : Prop := fnExactWriteDeviceRow.holds Try.pinned (OpenSpec.ofChange fnExactWriteDeviceWrong)

/-- 'laws.FnExactSeekDevice': WHATEVER THE INPUT: true; the input reads as it did. -/
def fnExactSeekDeviceSpec : ChangeSpec := { name := "fnExactSeekDevice", fn := fun _ => fun
  | [d1, d2, d3] => { results := [.lit (.bool true)], args := [d1, d2, d3] }
  | _ => none }
def fnExactSeekDeviceRow : OpenClaim := { program := "ytjilbjkmnmbfeaa", sum := "dd855aee0eda73c8117d250f615e800b7b34e424413a946e10e53543e2bb1b77", func := "loop.example/streamlayers/laws.FnExactSeekDevice", spec := "fnExactSeekDevice", apart := false }
def FnExactSeekDeviceSaid : Prop := fnExactSeekDeviceRow.holds Try.pinned (OpenSpec.ofChange fnExactSeekDeviceSpec)

/-- ITS FALSE NEIGHBOUR: 'it returns false'. Refute it at one input. -/
def fnExactSeekDeviceWrong : ChangeSpec := { name := "fnExactSeekDevice", fn := fun _ => fun
  | [d1, d2, d3] => { results := [.lit (.bool false)], args := [d1, d2, d3] }
  | _ => none }
def FnExactSeekDeviceWrongFalsely : Prop := fnExactSeekDeviceRow.holds Try.pinned (OpenSpec.ofChange fnExactSeekDeviceWrong)

/-- 'laws.FnExactCutDevice': WHATEVER THE INPUT: true; the input reads as it did. -/
def fnExactCutDeviceSpec : ChangeSpec := { name := "fnExactCutDevice", fn := fun _ => fun
  | [d1, d2] => { results := [.lit (.bool true)], args := [d1, d2] }
  | _ => none }
def fnExactCutDeviceRow : OpenClaim := { program := "ytjilbjkmnmbfeaa", sum := "dd855aee0eda73c8117d250f615e800b7b34e424413a946e10e53543e2bb1b77", func := "loop.example/streamlayers/laws.FnExactCutDevice", spec := "fnExactCutDevice", apart := false }
def FnExactCutDeviceSaid : Prop := fnExactCutDeviceRow.holds Try.pinned (OpenSpec.ofChange fnExactCutDeviceSpec)

/-- ITS FALSE NEIGHBOUR: 'it returns false'. Refute it at one input. -/
def fnExactCutDeviceWrong : ChangeSpec := { name := "fnExactCutDevice", fn := fun _ => fun
  | [d1, d2] => { results := [.lit (.bool false)], args := [d1, d2] }
  | _ => none }
def FnExactCutDeviceWrongFalsely : Prop := fnExactCutDeviceRow.holds Try.pinned (OpenSpec.ofChange fnExactCutDeviceWrong)

/-- 'laws.FnExactRestOf': WHATEVER THE INPUT: true; the input reads as it did. -/
def fnExactRestOfSpec : ChangeSpec := { name := "fnExactRestOf", fn := fun _ => fun
  | [d] => { results := [.lit (.bool true)], args := [d] }
  | _ => none }
def fnExactRestOfRow : OpenClaim := { program := "ytjilbjkmnmbfeaa", sum := "dd855aee0eda73c8117d250f615e800b7b34e424413a946e10e53543e2bb1b77", func := "loop.example/streamlayers/laws.FnExactRestOf", spec := "fnExactRestOf", apart := false }
def FnExactRestOfSaid : Prop := fnExactRestOfRow.holds Try.pinned (OpenSpec.ofChange fnExactRestOfSpec)

/-- ITS FALSE NEIGHBOUR: 'it returns false'. Refute it at one input. -/
def fnExactRestOfWrong : ChangeSpec := { name := "fnExactRestOf", fn := fun _ => fun
  | [d] => { results := [.lit (.bool false)], args := [d] }
  | _ => none }
def FnExactRestOfWrongFalsely : Prop := fnExactRestOfRow.holds Try.pinned (OpenSpec.ofChange fnExactRestOfWrong)

/-- 'laws.FnExactIsSmooth': WHATEVER THE INPUT: true; the input reads as it did. -/
def fnExactIsSmoothSpec : ChangeSpec := { name := "fnExactIsSmooth", fn := fun _ => fun
  | [d] => { results := [.lit (.bool true)], args := [d] }
  | _ => none }
def fnExactIsSmoothRow : OpenClaim := { program := "ytjilbjkmnmbfeaa", sum := "dd855aee0eda73c8117d250f615e800b7b34e424413a946e10e53543e2bb1b77", func := "loop.example/streamlayers/laws.FnExactIsSmooth", spec := "fnExactIsSmooth", apart := false }
def FnExactIsSmoothSaid : Prop := fnExactIsSmoothRow.holds Try.pinned (OpenSpec.ofChange fnExactIsSmoothSpec)

/-- ITS FALSE NEIGHBOUR: 'it returns false'. Refute it at one input. -/
def fnExactIsSmoothWrong : ChangeSpec := { name := "fnExactIsSmooth", fn := fun _ => fun
  | [d] => { results := [.lit (.bool false)], args := [d] }
  | _ => none }
def FnExactIsSmoothWrongFalsely : Prop := fnExactIsSmoothRow.holds Try.pinned (OpenSpec.ofChange fnExactIsSmoothWrong)

/-- 'laws.FnExactCallsToEnd': WHATEVER THE INPUT: true; the input reads as it did. -/
def fnExactCallsToEndSpec : ChangeSpec := { name := "fnExactCallsToEnd", fn := fun _ => fun
  | [d1, d2] => { results := [.lit (.bool true)], args := [d1, d2] }
  | _ => none }
def fnExactCallsToEndRow : OpenClaim := { program := "ytjilbjkmnmbfeaa", sum := "dd855aee0eda73c8117d250f615e800b7b34e424413a946e10e53543e2bb1b77", func := "loop.example/streamlayers/laws.FnExactCallsToEnd", spec := "fnExactCallsToEnd", unfollowed := true, recurses := true, apart := false }
def FnExactCallsToEndSaid : Prop := fnExactCallsToEndRow.holds Try.pinned (OpenSpec.ofChange fnExactCallsToEndSpec)

/-- ITS FALSE NEIGHBOUR: 'it returns false'. Refute it at one input. -/
def fnExactCallsToEndWrong : ChangeSpec := { name := "fnExactCallsToEnd", fn := fun _ => fun
  | [d1, d2] => { results := [.lit (.bool false)], args := [d1, d2] }
  | _ => none }
def FnExactCallsToEndWrongFalsely : Prop := fnExactCallsToEndRow.holds Try.pinned (OpenSpec.ofChange fnExactCallsToEndWrong)

/-- 'laws.FnExactValidReader': WHATEVER THE INPUT: true; the input reads as it did. -/
def fnExactValidReaderSpec : ChangeSpec := { name := "fnExactValidReader", fn := fun _ => fun
  | [d] => { results := [.lit (.bool true)], args := [d] }
  | _ => none }
def fnExactValidReaderRow : OpenClaim := { program := "ytjilbjkmnmbfeaa", sum := "dd855aee0eda73c8117d250f615e800b7b34e424413a946e10e53543e2bb1b77", func := "loop.example/streamlayers/laws.FnExactValidReader", spec := "fnExactValidReader", apart := false }
def FnExactValidReaderSaid : Prop := fnExactValidReaderRow.holds Try.pinned (OpenSpec.ofChange fnExactValidReaderSpec)

/-- ITS FALSE NEIGHBOUR: 'it returns false'. Refute it at one input. -/
def fnExactValidReaderWrong : ChangeSpec := { name := "fnExactValidReader", fn := fun _ => fun
  | [d] => { results := [.lit (.bool false)], args := [d] }
  | _ => none }
def FnExactValidReaderWrongFalsely : Prop := fnExactValidReaderRow.holds Try.pinned (OpenSpec.ofChange fnExactValidReaderWrong)

/-- 'laws.FnExactNewReader': WHATEVER THE INPUT: true; the input reads as it did. -/
def fnExactNewReaderSpec : ChangeSpec := { name := "fnExactNewReader", fn := fun _ => fun
  | [d1, d2] => { results := [.lit (.bool true)], args := [d1, d2] }
  | _ => none }
def fnExactNewReaderRow : OpenClaim := { program := "ytjilbjkmnmbfeaa", sum := "dd855aee0eda73c8117d250f615e800b7b34e424413a946e10e53543e2bb1b77", func := "loop.example/streamlayers/laws.FnExactNewReader", spec := "fnExactNewReader", apart := false }
def FnExactNewReaderSaid : Prop := fnExactNewReaderRow.holds Try.pinned (OpenSpec.ofChange fnExactNewReaderSpec)

/-- ITS FALSE NEIGHBOUR: 'it returns false'. Refute it at one input. -/
def fnExactNewReaderWrong : ChangeSpec := { name := "fnExactNewReader", fn := fun _ => fun
  | [d1, d2] => { results := [.lit (.bool false)], args := [d1, d2] }
  | _ => none }
def FnExactNewReaderWrongFalsely : Prop := fnExactNewReaderRow.holds Try.pinned (OpenSpec.ofChange fnExactNewReaderWrong)

/-- 'laws.FnExactTellReader': WHATEVER THE INPUT: true; the input reads as it did. -/
def fnExactTellReaderSpec : ChangeSpec := { name := "fnExactTellReader", fn := fun _ => fun
  | [d] => { results := [.lit (.bool true)], args := [d] }
  | _ => none }
def fnExactTellReaderRow : OpenClaim := { program := "ytjilbjkmnmbfeaa", sum := "dd855aee0eda73c8117d250f615e800b7b34e424413a946e10e53543e2bb1b77", func := "loop.example/streamlayers/laws.FnExactTellReader", spec := "fnExactTellReader", apart := false }
def FnExactTellReaderSaid : Prop := fnExactTellReaderRow.holds Try.pinned (OpenSpec.ofChange fnExactTellReaderSpec)

/-- ITS FALSE NEIGHBOUR: 'it returns false'. Refute it at one input. -/
def fnExactTellReaderWrong : ChangeSpec := { name := "fnExactTellReader", fn := fun _ => fun
  | [d] => { results := [.lit (.bool false)], args := [d] }
  | _ => none }
def FnExactTellReaderWrongFalsely : Prop := fnExactTellReaderRow.holds Try.pinned (OpenSpec.ofChange fnExactTellReaderWrong)

/- THE SECOND FORM. 'bulk': how many values and letters a reading holds, each counted each time it is reached (what is shared counts as often as it is met; a slice's spare places count too). A statement '..UptoSaid' is the law's where the arguments, and the package variables that the reading takes, are together of bulk at most 1048576: NARROWER than '..Said'. Prove '..Said' where nothing that the law and all that it calls make is longer than what came in: it says more and counts as full. Else prove '..UptoSaid'. A law counts once. -/
mutual
def uptoBulk {H : Type} : DataW H → Nat
  | .lit (.string bytes) => bytes.length + 1
  | .lit _ => 1
  | .nil => 1
  | .ptr d => uptoBulk d + 1
  | .slice elems spare => uptoBulkAll elems + uptoBulkAll spare + 1
  | .agg parts => uptoBulkAll parts + 1
  | .iface _ d => uptoBulk d + 1
  | .map entries => uptoBulkEntries entries + 1
  | .held _ => 1
def uptoBulkAll {H : Type} : List (DataW H) → Nat
  | [] => 0
  | d :: r => uptoBulk d + uptoBulkAll r
def uptoBulkEntries {H : Type} : List (Lit × DataW H) → Nat
  | [] => 0
  | x :: r => uptoBulkEntry x + uptoBulkEntries r
def uptoBulkEntry {H : Type} : Lit × DataW H → Nat
  | (.string bytes, d) => bytes.length + uptoBulk d + 1
  | (_, d) => uptoBulk d + 1
 end
def uptoSmall : (H : Type) → List (DataW H) → Bool := fun _ ds => decide (uptoBulkAll ds ≤ 1048576)
def OpenSpec.upto (s : _root_.Go.ChangeSpec) : _root_.Go.OpenSpec := { _root_.Go.OpenSpec.ofChange s with cond := some uptoSmall }

/-- 'laws.FnExactValidDevice', WHERE WHAT IT READS IS OF BULK AT MOST 1048576: true; the input reads as it did. -/
def fnExactValidDeviceUptoRow : OpenClaim := { program := "ytjilbjkmnmbfeaa", sum := "dd855aee0eda73c8117d250f615e800b7b34e424413a946e10e53543e2bb1b77", func := "loop.example/streamlayers/laws.FnExactValidDevice", spec := "fnExactValidDevice", apart := false, narrowed := true }
def FnExactValidDeviceUptoSaid : Prop := fnExactValidDeviceUptoRow.holds Try.pinned (OpenSpec.upto fnExactValidDeviceSpec)

/-- 'laws.FnExactNewDevice', WHERE WHAT IT READS IS OF BULK AT MOST 1048576: true; the input reads as it did. -/
def fnExactNewDeviceUptoRow : OpenClaim := { program := "ytjilbjkmnmbfeaa", sum := "dd855aee0eda73c8117d250f615e800b7b34e424413a946e10e53543e2bb1b77", func := "loop.example/streamlayers/laws.FnExactNewDevice", spec := "fnExactNewDevice", apart := false, narrowed := true }
def FnExactNewDeviceUptoSaid : Prop := fnExactNewDeviceUptoRow.holds Try.pinned (OpenSpec.upto fnExactNewDeviceSpec)

/-- 'laws.FnExactReadDevice', WHERE WHAT IT READS IS OF BULK AT MOST 1048576: true; the input reads as it did. -/
def fnExactReadDeviceUptoRow : OpenClaim := { program := "ytjilbjkmnmbfeaa", sum := "dd855aee0eda73c8117d250f615e800b7b34e424413a946e10e53543e2bb1b77", func := "loop.example/streamlayers/laws.FnExactReadDevice", spec := "fnExactReadDevice", unfollowed := true, recurses := true, apart := false, narrowed := true }
def FnExactReadDeviceUptoSaid : Prop := fnExactReadDeviceUptoRow.holds Try.pinned (OpenSpec.upto fnExactReadDeviceSpec)

/-- 'laws.FnExactWriteDevice', WHERE WHAT IT READS IS OF BULK AT MOST 1048576: true; the input reads as it did. -/
def fnExactWriteDeviceUptoRow : OpenClaim := { program := "ytjilbjkmnmbfeaa", sum := "dd855aee0eda73c8117d250f615e800b7b34e424413a946e10e53543e2bb1b77", func := "loop.example/streamlayers/laws.FnExactWriteDevice", spec := "fnExactWriteDevice", unfollowed := true, recurses := true, apart := false, narrowed := true }
def FnExactWriteDeviceUptoSaid : Prop := fnExactWriteDeviceUptoRow.holds Try.pinned (OpenSpec.upto fnExactWriteDeviceSpec)

/-- 'laws.FnExactSeekDevice', WHERE WHAT IT READS IS OF BULK AT MOST 1048576: true; the input reads as it did. -/
def fnExactSeekDeviceUptoRow : OpenClaim := { program := "ytjilbjkmnmbfeaa", sum := "dd855aee0eda73c8117d250f615e800b7b34e424413a946e10e53543e2bb1b77", func := "loop.example/streamlayers/laws.FnExactSeekDevice", spec := "fnExactSeekDevice", apart := false, narrowed := true }
def FnExactSeekDeviceUptoSaid : Prop := fnExactSeekDeviceUptoRow.holds Try.pinned (OpenSpec.upto fnExactSeekDeviceSpec)

/-- 'laws.FnExactCutDevice', WHERE WHAT IT READS IS OF BULK AT MOST 1048576: true; the input reads as it did. -/
def fnExactCutDeviceUptoRow : OpenClaim := { program := "ytjilbjkmnmbfeaa", sum := "dd855aee0eda73c8117d250f615e800b7b34e424413a946e10e53543e2bb1b77", func := "loop.example/streamlayers/laws.FnExactCutDevice", spec := "fnExactCutDevice", apart := false, narrowed := true }
def FnExactCutDeviceUptoSaid : Prop := fnExactCutDeviceUptoRow.holds Try.pinned (OpenSpec.upto fnExactCutDeviceSpec)

/-- 'laws.FnExactRestOf', WHERE WHAT IT READS IS OF BULK AT MOST 1048576: true; the input reads as it did. -/
def fnExactRestOfUptoRow : OpenClaim := { program := "ytjilbjkmnmbfeaa", sum := "dd855aee0eda73c8117d250f615e800b7b34e424413a946e10e53543e2bb1b77", func := "loop.example/streamlayers/laws.FnExactRestOf", spec := "fnExactRestOf", apart := false, narrowed := true }
def FnExactRestOfUptoSaid : Prop := fnExactRestOfUptoRow.holds Try.pinned (OpenSpec.upto fnExactRestOfSpec)

/-- 'laws.FnExactIsSmooth', WHERE WHAT IT READS IS OF BULK AT MOST 1048576: true; the input reads as it did. -/
def fnExactIsSmoothUptoRow : OpenClaim := { program := "ytjilbjkmnmbfeaa", sum := "dd855aee0eda73c8117d250f615e800b7b34e424413a946e10e53543e2bb1b77", func := "loop.example/streamlayers/laws.FnExactIsSmooth", spec := "fnExactIsSmooth", apart := false, narrowed := true }
def FnExactIsSmoothUptoSaid : Prop := fnExactIsSmoothUptoRow.holds Try.pinned (OpenSpec.upto fnExactIsSmoothSpec)

/-- 'laws.FnExactCallsToEnd', WHERE WHAT IT READS IS OF BULK AT MOST 1048576: true; the input reads as it did. -/
def fnExactCallsToEndUptoRow : OpenClaim := { program := "ytjilbjkmnmbfeaa", sum := "dd855aee0eda73c8117d250f615e800b7b34e424413a946e10e53543e2bb1b77", func := "loop.example/streamlayers/laws.FnExactCallsToEnd", spec := "fnExactCallsToEnd", unfollowed := true, recurses := true, apart := false, narrowed := true }
def FnExactCallsToEndUptoSaid : Prop := fnExactCallsToEndUptoRow.holds Try.pinned (OpenSpec.upto fnExactCallsToEndSpec)

/-- 'laws.FnExactValidReader', WHERE WHAT IT READS IS OF BULK AT MOST 1048576: true; the input reads as it did. -/
def fnExactValidReaderUptoRow : OpenClaim := { program := "ytjilbjkmnmbfeaa", sum := "dd855aee0eda73c8117d250f615e800b7b34e424413a946e10e53543e2bb1b77", func := "loop.example/streamlayers/laws.FnExactValidReader", spec := "fnExactValidReader", apart := false, narrowed := true }
def FnExactValidReaderUptoSaid : Prop := fnExactValidReaderUptoRow.holds Try.pinned (OpenSpec.upto fnExactValidReaderSpec)

/-- 'laws.FnExactNewReader', WHERE WHAT IT READS IS OF BULK AT MOST 1048576: true; the input reads as it did. -/
def fnExactNewReaderUptoRow : OpenClaim := { program := "ytjilbjkmnmbfeaa", sum := "dd855aee0eda73c8117d250f615e800b7b34e424413a946e10e53543e2bb1b77", func := "loop.example/streamlayers/laws.FnExactNewReader", spec := "fnExactNewReader", apart := false, narrowed := true }
def FnExactNewReaderUptoSaid : Prop := fnExactNewReaderUptoRow.holds Try.pinned (OpenSpec.upto fnExactNewReaderSpec)

/-- 'laws.FnExactTellReader', WHERE WHAT IT READS IS OF BULK AT MOST 1048576: true; the input reads as it did. -/
def fnExactTellReaderUptoRow : OpenClaim := { program := "ytjilbjkmnmbfeaa", sum := "dd855aee0eda73c8117d250f615e800b7b34e424413a946e10e53543e2bb1b77", func := "loop.example/streamlayers/laws.FnExactTellReader", spec := "fnExactTellReader", apart := false, narrowed := true }
def FnExactTellReaderUptoSaid : Prop := fnExactTellReaderUptoRow.holds Try.pinned (OpenSpec.upto fnExactTellReaderSpec)

end Rows
end Go.Proofs.Ytjilbjkmnmbfeaa
