/-
  No cell of these rows narrows 'for every input' (looked for: loops, veiled, ifaces, maps, wideKeys, modest, calm, conditions, laid).
  DERIVED. THE GIVEN ROWS OF THIS SEAT. 11 by the template 'for every input the law returns true; each argument reads behind the call as it read before'; 0 by the template 'total and deterministic' (their statements: YtcbnkajbplhikaaTotals.lean).
  GIVEN WITH THE SEED: the statements are not yours to turn. If you find one false, say at which input.
  Laid BY PROGRAM, IN A SANDBOX (cutbox-rows.mjs): the forced cells as the released guide's own fill.sh prints them over the translation d6f5c0a51e6e58d2… (all of the seat's roots in one cut). By AI agents, Wed Nov 11 2026. No macro, syntax, notation, axiom, sorry.
-/
import Derived.Test.YtcbnkajbplhikaaChecked
import GoSem.Claim
import GoSem.ClaimJoined
import GoSem.ClaimMapViews
import Derived.JoinedTies
import Derived.KernelRfl
namespace Go.Proofs.Ytcbnkajbplhikaa
/- THE CELL 'sum', in the pinned program and in every row, IS THE sha256 OF THE DUMP (.gsa) THAT YtcbnkajbplhikaaProg.lean LOADS. Nothing in Lean hashes anything: it is a label: what it is worth is what the hold of that sum in a sandbox is worth. -/
noncomputable def Try.pinned : Pinned := { name := "ytcbnkajbplhikaa", sum := "d6f5c0a51e6e58d2ce5120e95ebf76b891dcdd46db89891035ccad211568fdca", checked := Try.checked }
namespace Rows
def none {H : Type} : Left H := { results := [], args := [] }

/-- 'laws.FnValidDevice': WHATEVER THE INPUT: true; the input reads as it did. -/
def fnValidDeviceSpec : ChangeSpec := { name := "fnValidDevice", fn := fun _ => fun
  | [d] => { results := [.lit (.bool true)], args := [d] }
  | _ => none }
def fnValidDeviceRow : OpenClaim := { program := "ytcbnkajbplhikaa", sum := "d6f5c0a51e6e58d2ce5120e95ebf76b891dcdd46db89891035ccad211568fdca", func := "loop.example/streamlayers/laws.FnValidDevice", spec := "fnValidDevice", apart := false }
def FnValidDeviceSaid : Prop := fnValidDeviceRow.holds Try.pinned (OpenSpec.ofChange fnValidDeviceSpec)

/-- ITS FALSE NEIGHBOUR: 'it returns false'. Refute it at one input. -/
def fnValidDeviceWrong : ChangeSpec := { name := "fnValidDevice", fn := fun _ => fun
  | [d] => { results := [.lit (.bool false)], args := [d] }
  | _ => none }
def FnValidDeviceWrongFalsely : Prop := fnValidDeviceRow.holds Try.pinned (OpenSpec.ofChange fnValidDeviceWrong)

/-- 'laws.FnNewDevice': WHATEVER THE INPUT: true; the input reads as it did. -/
def fnNewDeviceSpec : ChangeSpec := { name := "fnNewDevice", fn := fun _ => fun
  | [d] => { results := [.lit (.bool true)], args := [d] }
  | _ => none }
def fnNewDeviceRow : OpenClaim := { program := "ytcbnkajbplhikaa", sum := "d6f5c0a51e6e58d2ce5120e95ebf76b891dcdd46db89891035ccad211568fdca", func := "loop.example/streamlayers/laws.FnNewDevice", spec := "fnNewDevice", apart := false }
def FnNewDeviceSaid : Prop := fnNewDeviceRow.holds Try.pinned (OpenSpec.ofChange fnNewDeviceSpec)

/-- ITS FALSE NEIGHBOUR: 'it returns false'. Refute it at one input. -/
def fnNewDeviceWrong : ChangeSpec := { name := "fnNewDevice", fn := fun _ => fun
  | [d] => { results := [.lit (.bool false)], args := [d] }
  | _ => none }
def FnNewDeviceWrongFalsely : Prop := fnNewDeviceRow.holds Try.pinned (OpenSpec.ofChange fnNewDeviceWrong)

/-- 'laws.FnReadDevice': WHATEVER THE INPUT: true; the input reads as it did. -/
def fnReadDeviceSpec : ChangeSpec := { name := "fnReadDevice", fn := fun _ => fun
  | [d] => { results := [.lit (.bool true)], args := [d] }
  | _ => none }
def fnReadDeviceRow : OpenClaim := { program := "ytcbnkajbplhikaa", sum := "d6f5c0a51e6e58d2ce5120e95ebf76b891dcdd46db89891035ccad211568fdca", func := "loop.example/streamlayers/laws.FnReadDevice", spec := "fnReadDevice", unfollowed := true, recurses := true, apart := false }
def FnReadDeviceSaid : Prop := fnReadDeviceRow.holds Try.pinned (OpenSpec.ofChange fnReadDeviceSpec)

/-- ITS FALSE NEIGHBOUR: 'it returns false'. Refute it at one input. -/
def fnReadDeviceWrong : ChangeSpec := { name := "fnReadDevice", fn := fun _ => fun
  | [d] => { results := [.lit (.bool false)], args := [d] }
  | _ => none }
def FnReadDeviceWrongFalsely : Prop := fnReadDeviceRow.holds Try.pinned (OpenSpec.ofChange fnReadDeviceWrong)

/-- 'laws.FnReadDeviceEnds': WHATEVER THE INPUT: true; the input reads as it did. -/
def fnReadDeviceEndsSpec : ChangeSpec := { name := "fnReadDeviceEnds", fn := fun _ => fun
  | [d] => { results := [.lit (.bool true)], args := [d] }
  | _ => none }
def fnReadDeviceEndsRow : OpenClaim := { program := "ytcbnkajbplhikaa", sum := "d6f5c0a51e6e58d2ce5120e95ebf76b891dcdd46db89891035ccad211568fdca", func := "loop.example/streamlayers/laws.FnReadDeviceEnds", spec := "fnReadDeviceEnds", unfollowed := true, recurses := true, apart := false }
def FnReadDeviceEndsSaid : Prop := fnReadDeviceEndsRow.holds Try.pinned (OpenSpec.ofChange fnReadDeviceEndsSpec)

/-- ITS FALSE NEIGHBOUR: 'it returns false'. Refute it at one input. -/
def fnReadDeviceEndsWrong : ChangeSpec := { name := "fnReadDeviceEnds", fn := fun _ => fun
  | [d] => { results := [.lit (.bool false)], args := [d] }
  | _ => none }
def FnReadDeviceEndsWrongFalsely : Prop := fnReadDeviceEndsRow.holds Try.pinned (OpenSpec.ofChange fnReadDeviceEndsWrong)

/-- 'laws.FnWriteDevice': WHATEVER THE INPUT: true; the input reads as it did. -/
def fnWriteDeviceSpec : ChangeSpec := { name := "fnWriteDevice", fn := fun _ => fun
  | [d] => { results := [.lit (.bool true)], args := [d] }
  | _ => none }
def fnWriteDeviceRow : OpenClaim := { program := "ytcbnkajbplhikaa", sum := "d6f5c0a51e6e58d2ce5120e95ebf76b891dcdd46db89891035ccad211568fdca", func := "loop.example/streamlayers/laws.FnWriteDevice", spec := "fnWriteDevice", unfollowed := true, recurses := true, apart := false }
def FnWriteDeviceSaid : Prop := fnWriteDeviceRow.holds Try.pinned (OpenSpec.ofChange fnWriteDeviceSpec)

/-- ITS FALSE NEIGHBOUR: 'it returns false'. Refute it at one input. -/
def fnWriteDeviceWrong : ChangeSpec := { name := "fnWriteDevice", fn := fun _ => fun
  | [d] => { results := [.lit (.bool false)], args := [d] }
  | _ => none }
def FnWriteDeviceWrongFalsely : Prop := fnWriteDeviceRow.holds Try.pinned (OpenSpec.ofChange fnWriteDeviceWrong)

/-- 'laws.FnWriteDeviceEnds': WHATEVER THE INPUT: true; the input reads as it did. -/
def fnWriteDeviceEndsSpec : ChangeSpec := { name := "fnWriteDeviceEnds", fn := fun _ => fun
  | [d] => { results := [.lit (.bool true)], args := [d] }
  | _ => none }
def fnWriteDeviceEndsRow : OpenClaim := { program := "ytcbnkajbplhikaa", sum := "d6f5c0a51e6e58d2ce5120e95ebf76b891dcdd46db89891035ccad211568fdca", func := "loop.example/streamlayers/laws.FnWriteDeviceEnds", spec := "fnWriteDeviceEnds", unfollowed := true, recurses := true, apart := false }
def FnWriteDeviceEndsSaid : Prop := fnWriteDeviceEndsRow.holds Try.pinned (OpenSpec.ofChange fnWriteDeviceEndsSpec)

/-- ITS FALSE NEIGHBOUR: 'it returns false'. Refute it at one input. -/
def fnWriteDeviceEndsWrong : ChangeSpec := { name := "fnWriteDeviceEnds", fn := fun _ => fun
  | [d] => { results := [.lit (.bool false)], args := [d] }
  | _ => none }
def FnWriteDeviceEndsWrongFalsely : Prop := fnWriteDeviceEndsRow.holds Try.pinned (OpenSpec.ofChange fnWriteDeviceEndsWrong)

/-- 'laws.FnSeekDevice': WHATEVER THE INPUT: true; the input reads as it did. -/
def fnSeekDeviceSpec : ChangeSpec := { name := "fnSeekDevice", fn := fun _ => fun
  | [d] => { results := [.lit (.bool true)], args := [d] }
  | _ => none }
def fnSeekDeviceRow : OpenClaim := { program := "ytcbnkajbplhikaa", sum := "d6f5c0a51e6e58d2ce5120e95ebf76b891dcdd46db89891035ccad211568fdca", func := "loop.example/streamlayers/laws.FnSeekDevice", spec := "fnSeekDevice", apart := false }
def FnSeekDeviceSaid : Prop := fnSeekDeviceRow.holds Try.pinned (OpenSpec.ofChange fnSeekDeviceSpec)

/-- ITS FALSE NEIGHBOUR: 'it returns false'. Refute it at one input. -/
def fnSeekDeviceWrong : ChangeSpec := { name := "fnSeekDevice", fn := fun _ => fun
  | [d] => { results := [.lit (.bool false)], args := [d] }
  | _ => none }
def FnSeekDeviceWrongFalsely : Prop := fnSeekDeviceRow.holds Try.pinned (OpenSpec.ofChange fnSeekDeviceWrong)

/-- 'laws.FnCutDevice': WHATEVER THE INPUT: true; the input reads as it did. -/
def fnCutDeviceSpec : ChangeSpec := { name := "fnCutDevice", fn := fun _ => fun
  | [d] => { results := [.lit (.bool true)], args := [d] }
  | _ => none }
def fnCutDeviceRow : OpenClaim := { program := "ytcbnkajbplhikaa", sum := "d6f5c0a51e6e58d2ce5120e95ebf76b891dcdd46db89891035ccad211568fdca", func := "loop.example/streamlayers/laws.FnCutDevice", spec := "fnCutDevice", apart := false }
def FnCutDeviceSaid : Prop := fnCutDeviceRow.holds Try.pinned (OpenSpec.ofChange fnCutDeviceSpec)

/-- ITS FALSE NEIGHBOUR: 'it returns false'. Refute it at one input. -/
def fnCutDeviceWrong : ChangeSpec := { name := "fnCutDevice", fn := fun _ => fun
  | [d] => { results := [.lit (.bool false)], args := [d] }
  | _ => none }
def FnCutDeviceWrongFalsely : Prop := fnCutDeviceRow.holds Try.pinned (OpenSpec.ofChange fnCutDeviceWrong)

/-- 'laws.FnRestOf': WHATEVER THE INPUT: true; the input reads as it did. -/
def fnRestOfSpec : ChangeSpec := { name := "fnRestOf", fn := fun _ => fun
  | [d] => { results := [.lit (.bool true)], args := [d] }
  | _ => none }
def fnRestOfRow : OpenClaim := { program := "ytcbnkajbplhikaa", sum := "d6f5c0a51e6e58d2ce5120e95ebf76b891dcdd46db89891035ccad211568fdca", func := "loop.example/streamlayers/laws.FnRestOf", spec := "fnRestOf", apart := false }
def FnRestOfSaid : Prop := fnRestOfRow.holds Try.pinned (OpenSpec.ofChange fnRestOfSpec)

/-- ITS FALSE NEIGHBOUR: 'it returns false'. Refute it at one input. -/
def fnRestOfWrong : ChangeSpec := { name := "fnRestOf", fn := fun _ => fun
  | [d] => { results := [.lit (.bool false)], args := [d] }
  | _ => none }
def FnRestOfWrongFalsely : Prop := fnRestOfRow.holds Try.pinned (OpenSpec.ofChange fnRestOfWrong)

/-- 'laws.FnIsSmooth': WHATEVER THE INPUT: true; the input reads as it did. -/
def fnIsSmoothSpec : ChangeSpec := { name := "fnIsSmooth", fn := fun _ => fun
  | [d] => { results := [.lit (.bool true)], args := [d] }
  | _ => none }
def fnIsSmoothRow : OpenClaim := { program := "ytcbnkajbplhikaa", sum := "d6f5c0a51e6e58d2ce5120e95ebf76b891dcdd46db89891035ccad211568fdca", func := "loop.example/streamlayers/laws.FnIsSmooth", spec := "fnIsSmooth", unfollowed := true, recurses := true, apart := false }
def FnIsSmoothSaid : Prop := fnIsSmoothRow.holds Try.pinned (OpenSpec.ofChange fnIsSmoothSpec)

/-- ITS FALSE NEIGHBOUR: 'it returns false'. Refute it at one input. -/
def fnIsSmoothWrong : ChangeSpec := { name := "fnIsSmooth", fn := fun _ => fun
  | [d] => { results := [.lit (.bool false)], args := [d] }
  | _ => none }
def FnIsSmoothWrongFalsely : Prop := fnIsSmoothRow.holds Try.pinned (OpenSpec.ofChange fnIsSmoothWrong)

/-- 'laws.FnCallsToEnd': WHATEVER THE INPUT: true; the input reads as it did. -/
def fnCallsToEndSpec : ChangeSpec := { name := "fnCallsToEnd", fn := fun _ => fun
  | [d] => { results := [.lit (.bool true)], args := [d] }
  | _ => none }
def fnCallsToEndRow : OpenClaim := { program := "ytcbnkajbplhikaa", sum := "d6f5c0a51e6e58d2ce5120e95ebf76b891dcdd46db89891035ccad211568fdca", func := "loop.example/streamlayers/laws.FnCallsToEnd", spec := "fnCallsToEnd", unfollowed := true, recurses := true, apart := false }
def FnCallsToEndSaid : Prop := fnCallsToEndRow.holds Try.pinned (OpenSpec.ofChange fnCallsToEndSpec)

/-- ITS FALSE NEIGHBOUR: 'it returns false'. Refute it at one input. -/
def fnCallsToEndWrong : ChangeSpec := { name := "fnCallsToEnd", fn := fun _ => fun
  | [d] => { results := [.lit (.bool false)], args := [d] }
  | _ => none }
def FnCallsToEndWrongFalsely : Prop := fnCallsToEndRow.holds Try.pinned (OpenSpec.ofChange fnCallsToEndWrong)

/- THE SECOND FORM. 'bulk': how many values and letters a reading holds, each counted each time it is reached (what is shared counts as often as it is met; a slice's spare places count too). A statement '..UptoSaid' is the law's where the arguments, and the package variables that the reading takes, are together of bulk at most 1048576: NARROWER than '..Said'. Prove '..Said' where nothing that the law and all that it calls make is longer than what came in: it says more and counts as full. Else prove '..UptoSaid'. A law counts once. -/
mutual
def uptoBulk {H : Type} : DataW H → Nat
  | .lit (.string bytes) => bytes.length + 1
  | .lit _ => 1
  | .nil => 1
  | .ptr d => uptoBulk d + 1
  | .slice elems spare => uptoBulkAll elems + uptoBulkAll spare + 1
  | .agg parts => uptoBulkAll parts + 1
  | .iface _ d => uptoBulk d + 1
  | .map entries => uptoBulkEntries entries + 1
  | .held _ => 1
def uptoBulkAll {H : Type} : List (DataW H) → Nat
  | [] => 0
  | d :: r => uptoBulk d + uptoBulkAll r
def uptoBulkEntries {H : Type} : List (Lit × DataW H) → Nat
  | [] => 0
  | x :: r => uptoBulkEntry x + uptoBulkEntries r
def uptoBulkEntry {H : Type} : Lit × DataW H → Nat
  | (.string bytes, d) => bytes.length + uptoBulk d + 1
  | (_, d) => uptoBulk d + 1
 end
def uptoSmall : (H : Type) → List (DataW H) → Bool := fun _ ds => decide (uptoBulkAll ds ≤ 1048576)
def OpenSpec.upto (s : _root_.Go.ChangeSpec) : _root_.Go.OpenSpec := { _root_.Go.OpenSpec.ofChange s with cond := some uptoSmall }

/-- 'laws.FnValidDevice', WHERE WHAT IT READS IS OF BULK AT MOST 1048576: true; the input reads as it did. -/
def fnValidDeviceUptoRow : OpenClaim := { program := "ytcbnkajbplhikaa", sum := "d6f5c0a51e6e58d2ce5120e95ebf76b891dcdd46db89891035ccad211568fdca", func := "loop.example/streamlayers/laws.FnValidDevice", spec := "fnValidDevice", apart := false, narrowed := true }
def FnValidDeviceUptoSaid : Prop := fnValidDeviceUptoRow.holds Try.pinned (OpenSpec.upto fnValidDeviceSpec)

/-- 'laws.FnNewDevice', WHERE WHAT IT READS IS OF BULK AT MOST 1048576: true; the input reads as it did. -/
def fnNewDeviceUptoRow : OpenClaim := { program := "ytcbnkajbplhikaa", sum := "d6f5c0a51e6e58d2ce5120e95ebf76b891dcdd46db89891035ccad211568fdca", func := "loop.example/streamlayers/laws.FnNewDevice", spec := "fnNewDevice", apart := false, narrowed := true }
def FnNewDeviceUptoSaid : Prop := fnNewDeviceUptoRow.holds Try.pinned (OpenSpec.upto fnNewDeviceSpec)

/-- 'laws.FnReadDevice', WHERE WHAT IT READS IS OF BULK AT MOST 1048576: true; the input reads as it did. -/
def fnReadDeviceUptoRow : OpenClaim := { program := "ytcbnkajbplhikaa", sum := "d6f5c0a51e6e58d2ce5120e95ebf76b891dcdd46db89891035ccad211568fdca", func := "loop.example/streamlayers/laws.FnReadDevice", spec := "fnReadDevice", unfollowed := true, recurses := true, apart := false, narrowed := true }
def FnReadDeviceUptoSaid : Prop := fnReadDeviceUptoRow.holds Try.pinned (OpenSpec.upto fnReadDeviceSpec)

/-- 'laws.FnReadDeviceEnds', WHERE WHAT IT READS IS OF BULK AT MOST 1048576: true; the input reads as it did. -/
def fnReadDeviceEndsUptoRow : OpenClaim := { program := "ytcbnkajbplhikaa", sum := "d6f5c0a51e6e58d2ce5120e95ebf76b891dcdd46db89891035ccad211568fdca", func := "loop.example/streamlayers/laws.FnReadDeviceEnds", spec := "fnReadDeviceEnds", unfollowed := true, recurses := true, apart := false, narrowed := true }
def FnReadDeviceEndsUptoSaid : Prop := fnReadDeviceEndsUptoRow.holds Try.pinned (OpenSpec.upto fnReadDeviceEndsSpec)

/-- 'laws.FnWriteDevice', WHERE WHAT IT READS IS OF BULK AT MOST 1048576: true; the input reads as it did. -/
def fnWriteDeviceUptoRow : OpenClaim := { program := "ytcbnkajbplhikaa", sum := "d6f5c0a51e6e58d2ce5120e95ebf76b891dcdd46db89891035ccad211568fdca", func := "loop.example/streamlayers/laws.FnWriteDevice", spec := "fnWriteDevice", unfollowed := true, recurses := true, apart := false, narrowed := true }
def FnWriteDeviceUptoSaid : Prop := fnWriteDeviceUptoRow.holds Try.pinned (OpenSpec.upto fnWriteDeviceSpec)

/-- 'laws.FnWriteDeviceEnds', WHERE WHAT IT READS IS OF BULK AT MOST 1048576: true; the input reads as it did. -/
def fnWriteDeviceEndsUptoRow : OpenClaim := { program := "ytcbnkajbplhikaa", sum := "d6f5c0a51e6e58d2ce5120e95ebf76b891dcdd46db89891035ccad211568fdca", func := "loop.example/streamlayers/laws.FnWriteDeviceEnds", spec := "fnWriteDeviceEnds", unfollowed := true, recurses := true, apart := false, narrowed := true }
def FnWriteDeviceEndsUptoSaid : Prop := fnWriteDeviceEndsUptoRow.holds Try.pinned (OpenSpec.upto fnWriteDeviceEndsSpec)

/-- 'laws.FnSeekDevice', WHERE WHAT IT READS IS OF BULK AT MOST 1048576: true; the input reads as it did. -/
def fnSeekDeviceUptoRow : OpenClaim := { program := "ytcbnkajbplhikaa", sum := "d6f5c0a51e6e58d2ce5120e95ebf76b891dcdd46db89891035ccad211568fdca", func := "loop.example/streamlayers/laws.FnSeekDevice", spec := "fnSeekDevice", apart := false, narrowed := true }
def FnSeekDeviceUptoSaid : Prop := fnSeekDeviceUptoRow.holds Try.pinned (OpenSpec.upto fnSeekDeviceSpec)

/-- 'laws.FnCutDevice', WHERE WHAT IT READS IS OF BULK AT MOST 1048576: true; the input reads as it did. -/
def fnCutDeviceUptoRow : OpenClaim := { program := "ytcbnkajbplhikaa", sum := "d6f5c0a51e6e58d2ce5120e95ebf76b891dcdd46db89891035ccad211568fdca", func := "loop.example/streamlayers/laws.FnCutDevice", spec := "fnCutDevice", apart := false, narrowed := true }
def FnCutDeviceUptoSaid : Prop := fnCutDeviceUptoRow.holds Try.pinned (OpenSpec.upto fnCutDeviceSpec)

/-- 'laws.FnRestOf', WHERE WHAT IT READS IS OF BULK AT MOST 1048576: true; the input reads as it did. -/
def fnRestOfUptoRow : OpenClaim := { program := "ytcbnkajbplhikaa", sum := "d6f5c0a51e6e58d2ce5120e95ebf76b891dcdd46db89891035ccad211568fdca", func := "loop.example/streamlayers/laws.FnRestOf", spec := "fnRestOf", apart := false, narrowed := true }
def FnRestOfUptoSaid : Prop := fnRestOfUptoRow.holds Try.pinned (OpenSpec.upto fnRestOfSpec)

/-- 'laws.FnIsSmooth', WHERE WHAT IT READS IS OF BULK AT MOST 1048576: true; the input reads as it did. -/
def fnIsSmoothUptoRow : OpenClaim := { program := "ytcbnkajbplhikaa", sum := "d6f5c0a51e6e58d2ce5120e95ebf76b891dcdd46db89891035ccad211568fdca", func := "loop.example/streamlayers/laws.FnIsSmooth", spec := "fnIsSmooth", unfollowed := true, recurses := true, apart := false, narrowed := true }
def FnIsSmoothUptoSaid : Prop := fnIsSmoothUptoRow.holds Try.pinned (OpenSpec.upto fnIsSmoothSpec)

/-- 'laws.FnCallsToEnd', WHERE WHAT IT READS IS OF BULK AT MOST 1048576: true; the input reads as it did. -/
def fnCallsToEndUptoRow : OpenClaim := { program := "ytcbnkajbplhikaa", sum := "d6f5c0a51e6e58d2ce5120e95ebf76b891dcdd46db89891035ccad211568fdca", func := "loop.example/streamlayers/laws.FnCallsToEnd", spec := "fnCallsToEnd", unfollowed := true, recurses := true, apart := false, narrowed := true }
def FnCallsToEndUptoSaid : Prop := fnCallsToEndUptoRow.holds Try.pinned (OpenSpec.upto fnCallsToEndSpec)

end Rows
end Go.Proofs.Ytcbnkajbplhikaa
