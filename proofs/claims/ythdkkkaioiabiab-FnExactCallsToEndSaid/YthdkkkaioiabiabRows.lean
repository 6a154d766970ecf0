/-
  No cell of these rows narrows 'for every input' (looked for: loops, veiled, ifaces, maps, wideKeys, modest, calm, conditions, laid).
  DERIVED. THE GIVEN ROWS OF THIS SEAT. 8 by the template 'for every input the law returns true; each argument reads behind the call as it read before'; 0 by the template 'total and deterministic' (their statements: YthdkkkaioiabiabTotals.lean).
  GIVEN WITH THE SEED: the statements are not yours to turn. If you find one false, say at which input.
  Laid BY PROGRAM, IN A SANDBOX (cutbox-rows.mjs): the forced cells as the released guide's own fill.sh prints them over the translation c1ddae7fb125fdce… (all of the seat's roots in one cut). By AI agents, Wed Nov 11 2026. No macro, syntax, notation, axiom, sorry.
-/
import Derived.Test.YthdkkkaioiabiabChecked
import GoSem.Claim
import GoSem.ClaimJoined
import GoSem.ClaimMapViews
import Derived.JoinedTies
import Derived.KernelRfl
namespace Go.Proofs.Ythdkkkaioiabiab
/- THE CELL 'sum', in the pinned program and in every row, IS THE sha256 OF THE DUMP (.gsa) THAT YthdkkkaioiabiabProg.lean LOADS. Nothing in Lean hashes anything: it is a label: what it is worth is what the hold of that sum in a sandbox is worth. -/
noncomputable def Try.pinned : Pinned := { name := "ythdkkkaioiabiab", sum := "c1ddae7fb125fdce9913fee9a2f00ec54d84d29ac6808104a91c1fb81ea47f8e", checked := Try.checked }
namespace Rows
def none {H : Type} : Left H := { results := [], args := [] }

/-- 'laws.FnExactNewDevice': WHATEVER THE INPUT: true; the input reads as it did. -/
def fnExactNewDeviceSpec : ChangeSpec := { name := "fnExactNewDevice", fn := fun _ => fun
  | [d1, d2] => { results := [.lit (.bool true)], args := [d1, d2] }
  | _ => none }
def fnExactNewDeviceRow : OpenClaim := { program := "ythdkkkaioiabiab", sum := "c1ddae7fb125fdce9913fee9a2f00ec54d84d29ac6808104a91c1fb81ea47f8e", func := "loop.example/streamlayers/laws.FnExactNewDevice", spec := "fnExactNewDevice", apart := false }
def FnExactNewDeviceSaid : Prop := fnExactNewDeviceRow.holds Try.pinned (OpenSpec.ofChange fnExactNewDeviceSpec)

/-- ITS FALSE NEIGHBOUR: 'it returns false'. Refute it at one input. -/
def fnExactNewDeviceWrong : ChangeSpec := { name := "fnExactNewDevice", fn := fun _ => fun
  | [d1, d2] => { results := [.lit (.bool false)], args := [d1, d2] }
  | _ => none }
def FnExactNewDeviceWrongFalsely : Prop := fnExactNewDeviceRow.holds Try.pinned (OpenSpec.ofChange fnExactNewDeviceWrong)

/-- 'laws.FnExactReadDevice': WHATEVER THE INPUT: true; the input reads as it did. -/
def fnExactReadDeviceSpec : ChangeSpec := { name := "fnExactReadDevice", fn := fun _ => fun
  | [d1, d2] => { results := [.lit (.bool true)], args := [d1, d2] }
  | _ => none }
def fnExactReadDeviceRow : OpenClaim := { program := "ythdkkkaioiabiab", sum := "c1ddae7fb125fdce9913fee9a2f00ec54d84d29ac6808104a91c1fb81ea47f8e", func := "loop.example/streamlayers/laws.FnExactReadDevice", spec := "fnExactReadDevice", unfollowed := true, recurses := true, apart := false }
def FnExactReadDeviceSaid : Prop := fnExactReadDeviceRow.holds Try.pinned (OpenSpec.ofChange fnExactReadDeviceSpec)

/-- ITS FALSE NEIGHBOUR: 'it returns false'. Refute it at one input. -/
def fnExactReadDeviceWrong : ChangeSpec := { name := "fnExactReadDevice", fn := fun _ => fun
  | [d1, d2] => { results := [.lit (.bool false)], args := [d1, d2] }
  | _ => none }
def FnExactReadDeviceWrongFalsely : Prop := fnExactReadDeviceRow.holds Try.pinned (OpenSpec.ofChange fnExactReadDeviceWrong)

/-- 'laws.FnExactWriteDevice': WHATEVER THE INPUT: true; the input reads as it did. -/
def fnExactWriteDeviceSpec : ChangeSpec := { name := "fnExactWriteDevice", fn := fun _ => fun
  | [d1, d2] => { results := [.lit (.bool true)], args := [d1, d2] }
  | _ => none }
def fnExactWriteDeviceRow : OpenClaim := { program := "ythdkkkaioiabiab", sum := "c1ddae7fb125fdce9913fee9a2f00ec54d84d29ac6808104a91c1fb81ea47f8e", func := "loop.example/streamlayers/laws.FnExactWriteDevice", spec := "fnExactWriteDevice", unfollowed := true, recurses := true, apart := false }
def FnExactWriteDeviceSaid : Prop := fnExactWriteDeviceRow.holds Try.pinned (OpenSpec.ofChange fnExactWriteDeviceSpec)

/-- ITS FALSE NEIGHBOUR: 'it returns false'. Refute it at one input. -/
def fnExactWriteDeviceWrong : ChangeSpec := { name := "fnExactWriteDevice", fn := fun _ => fun
  | [d1, d2] => { results := [.lit (.bool false)], args := [d1, d2] }
  | _ => none }
def FnExactWriteDeviceWrongFalsely : Prop := fnExactWriteDeviceRow.holds Try.pinned (OpenSpec.ofChange fnExactWriteDeviceWrong)

/-- 'laws.FnExactSeekDevice': WHATEVER THE INPUT: true; the input reads as it did. -/
def fnExactSeekDeviceSpec : ChangeSpec := { name := "fnExactSeekDevice", fn := fun _ => fun
  | [d1, d2, d3] => { results := [.lit (.bool true)], args := [d1, d2, d3] }
  | _ => none }
def fnExactSeekDeviceRow : OpenClaim := { program := "ythdkkkaioiabiab", sum := "c1ddae7fb125fdce9913fee9a2f00ec54d84d29ac6808104a91c1fb81ea47f8e", func := "loop.example/streamlayers/laws.FnExactSeekDevice", spec := "fnExactSeekDevice", apart := false }
def FnExactSeekDeviceSaid : Prop := fnExactSeekDeviceRow.holds Try.pinned (OpenSpec.ofChange fnExactSeekDeviceSpec)

/-- ITS FALSE NEIGHBOUR: 'it returns false'. Refute it at one input. -/
def fnExactSeekDeviceWrong : ChangeSpec := { name := "fnExactSeekDevice", fn := fun _ => fun
  | [d1, d2, d3] => { results := [.lit (.bool false)], args := [d1, d2, d3] }
  | _ => none }
def FnExactSeekDeviceWrongFalsely : Prop := fnExactSeekDeviceRow.holds Try.pinned (OpenSpec.ofChange fnExactSeekDeviceWrong)

/-- 'laws.FnExactCutDevice': WHATEVER THE INPUT: true; the input reads as it did. -/
def fnExactCutDeviceSpec : ChangeSpec := { name := "fnExactCutDevice", fn := fun _ => fun
  | [d1, d2] => { results := [.lit (.bool true)], args := [d1, d2] }
  | _ => none }
def fnExactCutDeviceRow : OpenClaim := { program := "ythdkkkaioiabiab", sum := "c1ddae7fb125fdce9913fee9a2f00ec54d84d29ac6808104a91c1fb81ea47f8e", func := "loop.example/streamlayers/laws.FnExactCutDevice", spec := "fnExactCutDevice", apart := false }
def FnExactCutDeviceSaid : Prop := fnExactCutDeviceRow.holds Try.pinned (OpenSpec.ofChange fnExactCutDeviceSpec)

/-- ITS FALSE NEIGHBOUR: 'it returns false'. Refute it at one input. -/
def fnExactCutDeviceWrong : ChangeSpec := { name := "fnExactCutDevice", fn := fun _ => fun
  | [d1, d2] => { results := [.lit (.bool false)], args := [d1, d2] }
  | _ => none }
def FnExactCutDeviceWrongFalsely : Prop := fnExactCutDeviceRow.holds Try.pinned (OpenSpec.ofChange fnExactCutDeviceWrong)

/-- 'laws.FnExactRestOf': WHATEVER THE INPUT: true; the input reads as it did. -/
def fnExactRestOfSpec : ChangeSpec := { name := "fnExactRestOf", fn := fun _ => fun
  | [d] => { results := [.lit (.bool true)], args := [d] }
  | _ => none }
def fnExactRestOfRow : OpenClaim := { program := "ythdkkkaioiabiab", sum := "c1ddae7fb125fdce9913fee9a2f00ec54d84d29ac6808104a91c1fb81ea47f8e", func := "loop.example/streamlayers/laws.FnExactRestOf", spec := "fnExactRestOf", apart := false }
def FnExactRestOfSaid : Prop := fnExactRestOfRow.holds Try.pinned (OpenSpec.ofChange fnExactRestOfSpec)

/-- ITS FALSE NEIGHBOUR: 'it returns false'. Refute it at one input. -/
def fnExactRestOfWrong : ChangeSpec := { name := "fnExactRestOf", fn := fun _ => fun
  | [d] => { results := [.lit (.bool false)], args := [d] }
  | _ => none }
def FnExactRestOfWrongFalsely : Prop := fnExactRestOfRow.holds Try.pinned (OpenSpec.ofChange fnExactRestOfWrong)

/-- 'laws.FnExactIsSmooth': WHATEVER THE INPUT: true; the input reads as it did. -/
def fnExactIsSmoothSpec : ChangeSpec := { name := "fnExactIsSmooth", fn := fun _ => fun
  | [d] => { results := [.lit (.bool true)], args := [d] }
  | _ => none }
def fnExactIsSmoothRow : OpenClaim := { program := "ythdkkkaioiabiab", sum := "c1ddae7fb125fdce9913fee9a2f00ec54d84d29ac6808104a91c1fb81ea47f8e", func := "loop.example/streamlayers/laws.FnExactIsSmooth", spec := "fnExactIsSmooth", apart := false }
def FnExactIsSmoothSaid : Prop := fnExactIsSmoothRow.holds Try.pinned (OpenSpec.ofChange fnExactIsSmoothSpec)

/-- ITS FALSE NEIGHBOUR: 'it returns false'. Refute it at one input. -/
def fnExactIsSmoothWrong : ChangeSpec := { name := "fnExactIsSmooth", fn := fun _ => fun
  | [d] => { results := [.lit (.bool false)], args := [d] }
  | _ => none }
def FnExactIsSmoothWrongFalsely : Prop := fnExactIsSmoothRow.holds Try.pinned (OpenSpec.ofChange fnExactIsSmoothWrong)

/-- 'laws.FnExactCallsToEnd': WHATEVER THE INPUT: true; the input reads as it did. -/
def fnExactCallsToEndSpec : ChangeSpec := { name := "fnExactCallsToEnd", fn := fun _ => fun
  | [d1, d2] => { results := [.lit (.bool true)], args := [d1, d2] }
  | _ => none }
def fnExactCallsToEndRow : OpenClaim := { program := "ythdkkkaioiabiab", sum := "c1ddae7fb125fdce9913fee9a2f00ec54d84d29ac6808104a91c1fb81ea47f8e", func := "loop.example/streamlayers/laws.FnExactCallsToEnd", spec := "fnExactCallsToEnd", unfollowed := true, recurses := true, apart := false }
def FnExactCallsToEndSaid : Prop := fnExactCallsToEndRow.holds Try.pinned (OpenSpec.ofChange fnExactCallsToEndSpec)

/-- ITS FALSE NEIGHBOUR: 'it returns false'. Refute it at one input. -/
def fnExactCallsToEndWrong : ChangeSpec := { name := "fnExactCallsToEnd", fn := fun _ => fun
  | [d1, d2] => { results := [.lit (.bool false)], args := [d1, d2] }
  | _ => none }
def FnExactCallsToEndWrongFalsely : Prop := fnExactCallsToEndRow.holds Try.pinned (OpenSpec.ofChange fnExactCallsToEndWrong)

/- THE SECOND FORM. 'bulk': how many values and letters a reading holds, each counted each time it is reached (what is shared counts as often as it is met; a slice's spare places count too). A statement '..UptoSaid' is the law's where the arguments, and the package variables that the reading takes, are together of bulk at most 1048576: NARROWER than '..Said'. Prove '..Said' where nothing that the law and all that it calls make is longer than what came in: it says more and counts as full. Else prove '..UptoSaid'. A law counts once. -/
mutual
def uptoBulk {H : Type} : DataW H → Nat
  | .lit (.string bytes) => bytes.length + 1
  | .lit _ => 1
  | .nil => 1
  | .ptr d => uptoBulk d + 1
  | .slice elems spare => uptoBulkAll elems + uptoBulkAll spare + 1
  | .agg parts => uptoBulkAll parts + 1
  | .iface _ d => uptoBulk d + 1
  | .map entries => uptoBulkEntries entries + 1
  | .held _ => 1
def uptoBulkAll {H : Type} : List (DataW H) → Nat
  | [] => 0
  | d :: r => uptoBulk d + uptoBulkAll r
def uptoBulkEntries {H : Type} : List (Lit × DataW H) → Nat
  | [] => 0
  | x :: r => uptoBulkEntry x + uptoBulkEntries r
def uptoBulkEntry {H : Type} : Lit × DataW H → Nat
  | (.string bytes, d) => bytes.length + uptoBulk d + 1
  | (_, d) => uptoBulk d + 1
 end
def uptoSmall : (H : Type) → List (DataW H) → Bool := fun _ ds => decide (uptoBulkAll ds ≤ 1048576)
def OpenSpec.upto (s : _root_.Go.ChangeSpec) : _root_.Go.OpenSpec := { _root_.Go.OpenSpec.ofChange s with cond := some uptoSmall }

/-- 'laws.FnExactNewDevice', WHERE WHAT IT READS IS OF BULK AT MOST 1048576: true; the input reads as it did. -/
def fnExactNewDeviceUptoRow : OpenClaim := { program := "ythdkkkaioiabiab", sum := "c1ddae7fb125fdce9913fee9a2f00ec54d84d29ac6808104a91c1fb81ea47f8e", func := "loop.example/streamlayers/laws.FnExactNewDevice", spec := "fnExactNewDevice", apart := false, narrowed := true }
def FnExactNewDeviceUptoSaid : Prop := fnExactNewDeviceUptoRow.holds Try.pinned (OpenSpec.upto fnExactNewDeviceSpec)

/-- 'laws.FnExactReadDevice', WHERE WHAT IT READS IS OF BULK AT MOST 1048576: true; the input reads as it did. -/
def fnExactReadDeviceUptoRow : OpenClaim := { program := "ythdkkkaioiabiab", sum := "c1ddae7fb125fdce9913fee9a2f00ec54d84d29ac6808104a91c1fb81ea47f8e", func := "loop.example/streamlayers/laws.FnExactReadDevice", spec := "fnExactReadDevice", unfollowed := true, recurses := true, apart := false, narrowed := true }
def FnExactReadDeviceUptoSaid : Prop := fnExactReadDeviceUptoRow.holds Try.pinned (OpenSpec.upto fnExactReadDeviceSpec)

/-- 'laws.FnExactWriteDevice', WHERE WHAT IT READS IS OF BULK AT MOST 1048576: true; the input reads as it did. -/
def fnExactWriteDeviceUptoRow : OpenClaim := { program := "ythdkkkaioiabiab", sum := "c1ddae7fb125fdce9913fee9a2f00ec54d84d29ac6808104a91c1fb81ea47f8e", func := "loop.example/streamlayers/laws.FnExactWriteDevice", spec := "fnExactWriteDevice", unfollowed := true, recurses := true, apart := false, narrowed := true }
def FnExactWriteDeviceUptoSaid : Prop := fnExactWriteDeviceUptoRow.holds Try.pinned (OpenSpec.upto fnExactWriteDeviceSpec)

/-- 'laws.FnExactSeekDevice', WHERE WHAT IT READS IS OF BULK AT MOST 1048576: true; the input reads as it did. -/
def fnExactSeekDeviceUptoRow : OpenClaim := { program := "ythdkkkaioiabiab", sum := "c1ddae7fb125fdce9913fee9a2f00ec54d84d29ac6808104a91c1fb81ea47f8e", func := "loop.example/streamlayers/laws.FnExactSeekDevice", spec := "fnExactSeekDevice", apart := false, narrowed := true }
def FnExactSeekDeviceUptoSaid : Prop := fnExactSeekDeviceUptoRow.holds Try.pinned (OpenSpec.upto fnExactSeekDeviceSpec)

/-- 'laws.FnExactCutDevice', WHERE WHAT IT READS IS OF BULK AT MOST 1048576: true; the input reads as it did. -/
def fnExactCutDeviceUptoRow : OpenClaim := { program := "ythdkkkaioiabiab", sum := "c1ddae7fb125fdce9913fee9a2f00ec54d84d29ac6808104a91c1fb81ea47f8e", func := "loop.example/streamlayers/laws.FnExactCutDevice", spec := "fnExactCutDevice", apart := false, narrowed := true }
def FnExactCutDeviceUptoSaid : Prop := fnExactCutDeviceUptoRow.holds Try.pinned (OpenSpec.upto fnExactCutDeviceSpec)

/-- 'laws.FnExactRestOf', WHERE WHAT IT READS IS OF BULK AT MOST 1048576: true; the input reads as it did. -/
def fnExactRestOfUptoRow : OpenClaim := { program := "ythdkkkaioiabiab", sum := "c1ddae7fb125fdce9913fee9a2f00ec54d84d29ac6808104a91c1fb81ea47f8e", func := "loop.example/streamlayers/laws.FnExactRestOf", spec := "fnExactRestOf", apart := false, narrowed := true }
def FnExactRestOfUptoSaid : Prop := fnExactRestOfUptoRow.holds Try.pinned (OpenSpec.upto fnExactRestOfSpec)

/-- 'laws.FnExactIsSmooth', WHERE WHAT IT READS IS OF BULK AT MOST 1048576: true; the input reads as it did. -/
def fnExactIsSmoothUptoRow : OpenClaim := { program := "ythdkkkaioiabiab", sum := "c1ddae7fb125fdce9913fee9a2f00ec54d84d29ac6808104a91c1fb81ea47f8e", func := "loop.example/streamlayers/laws.FnExactIsSmooth", spec := "fnExactIsSmooth", apart := false, narrowed := true }
def FnExactIsSmoothUptoSaid : Prop := fnExactIsSmoothUptoRow.holds Try.pinned (OpenSpec.upto fnExactIsSmoothSpec)

/-- 'laws.FnExactCallsToEnd', WHERE WHAT IT READS IS OF BULK AT MOST 1048576: true; the input reads as it did. -/
def fnExactCallsToEndUptoRow : OpenClaim := { program := "ythdkkkaioiabiab", sum := "c1ddae7fb125fdce9913fee9a2f00ec54d84d29ac6808104a91c1fb81ea47f8e", func := "loop.example/streamlayers/laws.FnExactCallsToEnd", spec := "fnExactCallsToEnd", unfollowed := true, recurses := true, apart := false, narrowed := true }
def FnExactCallsToEndUptoSaid : Prop := fnExactCallsToEndUptoRow.holds Try.pinned (OpenSpec.upto fnExactCallsToEndSpec)

end Rows
end Go.Proofs.Ythdkkkaioiabiab
