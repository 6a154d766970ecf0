/-
  No cell of these rows narrows 'for every input' (looked for: loops, veiled, ifaces, maps, wideKeys, modest, calm, conditions, laid).
  DERIVED. THE GIVEN ROWS OF THIS SEAT. 6 by the template 'for every input the law returns true; each argument reads behind the call as it read before'; 0 by the template 'total and deterministic' (their statements: YtlincjmiimmmeaaTotals.lean).
  GIVEN WITH THE SEED: the statements are not yours to turn. If you find one false, say at which input.
  Laid BY PROGRAM, IN A SANDBOX (cutbox-rows.mjs): the forced cells as the released guide's own fill.sh prints them over the translation 4d1676f5be50415f… (all of the seat's roots in one cut). By AI agents, Wed Nov 11 2026. No macro, syntax, notation, axiom, sorry.
-/
import Derived.Test.YtlincjmiimmmeaaChecked
import GoSem.Claim
import GoSem.ClaimJoined
import GoSem.ClaimMapViews
import Derived.JoinedTies
import Derived.KernelRfl
namespace Go.Proofs.Ytlincjmiimmmeaa
/- THE CELL 'sum', in the pinned program and in every row, IS THE sha256 OF THE DUMP (.gsa) THAT YtlincjmiimmmeaaProg.lean LOADS. Nothing in Lean hashes anything: it is a label: what it is worth is what the hold of that sum in a sandbox is worth. -/
noncomputable def Try.pinned : Pinned := { name := "ytlincjmiimmmeaa", sum := "4d1676f5be50415fc78224e5e352a16dde1156915ce9c5addb73e4e782eba066", checked := Try.checked }
namespace Rows
def none {H : Type} : Left H := { results := [], args := [] }

/-- 'laws.FnValidDevice': WHATEVER THE INPUT: true; the input reads as it did. -/
def fnValidDeviceSpec : ChangeSpec := { name := "fnValidDevice", fn := fun _ => fun
  | [d] => { results := [.lit (.bool true)], args := [d] }
  | _ => none }
def fnValidDeviceRow : OpenClaim := { program := "ytlincjmiimmmeaa", sum := "4d1676f5be50415fc78224e5e352a16dde1156915ce9c5addb73e4e782eba066", func := "loop.example/streamlayers/laws.FnValidDevice", spec := "fnValidDevice", apart := false }
def FnValidDeviceSaid : Prop := fnValidDeviceRow.holds Try.pinned (OpenSpec.ofChange fnValidDeviceSpec)

/-- ITS FALSE NEIGHBOUR: 'it returns false'. Refute it at one input. -/
def fnValidDeviceWrong : ChangeSpec := { name := "fnValidDevice", fn := fun _ => fun
  | [d] => { results := [.lit (.bool false)], args := [d] }
  | _ => none }
def FnValidDeviceWrongFalsely : Prop := fnValidDeviceRow.holds Try.pinned (OpenSpec.ofChange fnValidDeviceWrong)

/-- 'laws.FnReadDevice': WHATEVER THE INPUT: true; the input reads as it did. -/
def fnReadDeviceSpec : ChangeSpec := { name := "fnReadDevice", fn := fun _ => fun
  | [d] => { results := [.lit (.bool true)], args := [d] }
  | _ => none }
def fnReadDeviceRow : OpenClaim := { program := "ytlincjmiimmmeaa", sum := "4d1676f5be50415fc78224e5e352a16dde1156915ce9c5addb73e4e782eba066", func := "loop.example/streamlayers/laws.FnReadDevice", spec := "fnReadDevice", unfollowed := true, recurses := true, apart := false }
def FnReadDeviceSaid : Prop := fnReadDeviceRow.holds Try.pinned (OpenSpec.ofChange fnReadDeviceSpec)

/-- ITS FALSE NEIGHBOUR: 'it returns false'. Refute it at one input. -/
def fnReadDeviceWrong : ChangeSpec := { name := "fnReadDevice", fn := fun _ => fun
  | [d] => { results := [.lit (.bool false)], args := [d] }
  | _ => none }
def FnReadDeviceWrongFalsely : Prop := fnReadDeviceRow.holds Try.pinned (OpenSpec.ofChange fnReadDeviceWrong)

/-- 'laws.FnWriteDevice': WHATEVER THE INPUT: true; the input reads as it did. -/
def fnWriteDeviceSpec : ChangeSpec := { name := "fnWriteDevice", fn := fun _ => fun
  | [d] => { results := [.lit (.bool true)], args := [d] }
  | _ => none }
def fnWriteDeviceRow : OpenClaim := { program := "ytlincjmiimmmeaa", sum := "4d1676f5be50415fc78224e5e352a16dde1156915ce9c5addb73e4e782eba066", func := "loop.example/streamlayers/laws.FnWriteDevice", spec := "fnWriteDevice", unfollowed := true, recurses := true, apart := false }
def FnWriteDeviceSaid : Prop := fnWriteDeviceRow.holds Try.pinned (OpenSpec.ofChange fnWriteDeviceSpec)

/-- ITS FALSE NEIGHBOUR: 'it returns false'. Refute it at one input. -/
def fnWriteDeviceWrong : ChangeSpec := { name := "fnWriteDevice", fn := fun _ => fun
  | [d] => { results := [.lit (.bool false)], args := [d] }
  | _ => none }
def FnWriteDeviceWrongFalsely : Prop := fnWriteDeviceRow.holds Try.pinned (OpenSpec.ofChange fnWriteDeviceWrong)

/-- 'laws.FnRestOf': WHATEVER THE INPUT: true; the input reads as it did. -/
def fnRestOfSpec : ChangeSpec := { name := "fnRestOf", fn := fun _ => fun
  | [d] => { results := [.lit (.bool true)], args := [d] }
  | _ => none }
def fnRestOfRow : OpenClaim := { program := "ytlincjmiimmmeaa", sum := "4d1676f5be50415fc78224e5e352a16dde1156915ce9c5addb73e4e782eba066", func := "loop.example/streamlayers/laws.FnRestOf", spec := "fnRestOf", apart := false }
def FnRestOfSaid : Prop := fnRestOfRow.holds Try.pinned (OpenSpec.ofChange fnRestOfSpec)

/-- ITS FALSE NEIGHBOUR: 'it returns false'. Refute it at one input. -/
def fnRestOfWrong : ChangeSpec := { name := "fnRestOf", fn := fun _ => fun
  | [d] => { results := [.lit (.bool false)], args := [d] }
  | _ => none }
def FnRestOfWrongFalsely : Prop := fnRestOfRow.holds Try.pinned (OpenSpec.ofChange fnRestOfWrong)

/-- 'laws.FnIsSmooth': WHATEVER THE INPUT: true; the input reads as it did. -/
def fnIsSmoothSpec : ChangeSpec := { name := "fnIsSmooth", fn := fun _ => fun
  | [d] => { results := [.lit (.bool true)], args := [d] }
  | _ => none }
def fnIsSmoothRow : OpenClaim := { program := "ytlincjmiimmmeaa", sum := "4d1676f5be50415fc78224e5e352a16dde1156915ce9c5addb73e4e782eba066", func := "loop.example/streamlayers/laws.FnIsSmooth", spec := "fnIsSmooth", unfollowed := true, recurses := true, apart := false }
def FnIsSmoothSaid : Prop := fnIsSmoothRow.holds Try.pinned (OpenSpec.ofChange fnIsSmoothSpec)

/-- ITS FALSE NEIGHBOUR: 'it returns false'. Refute it at one input. -/
def fnIsSmoothWrong : ChangeSpec := { name := "fnIsSmooth", fn := fun _ => fun
  | [d] => { results := [.lit (.bool false)], args := [d] }
  | _ => none }
def FnIsSmoothWrongFalsely : Prop := fnIsSmoothRow.holds Try.pinned (OpenSpec.ofChange fnIsSmoothWrong)

/-- 'laws.FnSeekDevice': WHATEVER THE INPUT: true; the input reads as it did. -/
def fnSeekDeviceSpec : ChangeSpec := { name := "fnSeekDevice", fn := fun _ => fun
  | [d] => { results := [.lit (.bool true)], args := [d] }
  | _ => none }
def fnSeekDeviceRow : OpenClaim := { program := "ytlincjmiimmmeaa", sum := "4d1676f5be50415fc78224e5e352a16dde1156915ce9c5addb73e4e782eba066", func := "loop.example/streamlayers/laws.FnSeekDevice", spec := "fnSeekDevice", apart := false }
def FnSeekDeviceSaid : Prop := fnSeekDeviceRow.holds Try.pinned (OpenSpec.ofChange fnSeekDeviceSpec)

/-- ITS FALSE NEIGHBOUR: 'it returns false'. Refute it at one input. -/
def fnSeekDeviceWrong : ChangeSpec := { name := "fnSeekDevice", fn := fun _ => fun
  | [d] => { results := [.lit (.bool false)], args := [d] }
  | _ => none }
def FnSeekDeviceWrongFalsely : Prop := fnSeekDeviceRow.holds Try.pinned (OpenSpec.ofChange fnSeekDeviceWrong)

/- THE SECOND FORM. 'bulk': how many values and letters a reading holds, each counted each time it is reached (what is shared counts as often as it is met; a slice's spare places count too). A statement '..UptoSaid' is the law's where the arguments, and the package variables that the reading takes, are together of bulk at most 1048576: NARROWER than '..Said'. Prove '..Said' where nothing that the law and all that it calls make is longer than what came in: it says more and counts as full. Else prove '..UptoSaid'. A law counts once. -/
mutual
def uptoBulk {H : Type} : DataW H → Nat
  | .lit (.string bytes) => bytes.length + 1
  | .lit _ => 1
  | .nil => 1
  | .ptr d => uptoBulk d + 1
  | .slice elems spare => uptoBulkAll elems + uptoBulkAll spare + 1
  | .agg parts => uptoBulkAll parts + 1
  | .iface _ d => uptoBulk d + 1
  | .map entries => uptoBulkEntries entries + 1
  | .held _ => 1
def uptoBulkAll {H : Type} : List (DataW H) → Nat
  | [] => 0
  | d :: r => uptoBulk d + uptoBulkAll r
def uptoBulkEntries {H : Type} : List (Lit × DataW H) → Nat
  | [] => 0
  | x :: r => uptoBulkEntry x + uptoBulkEntries r
def uptoBulkEntry {H : Type} : Lit × DataW H → Nat
  | (.string bytes, d) => bytes.length + uptoBulk d + 1
  | (_, d) => uptoBulk d + 1
 end
def uptoSmall : (H : Type) → List (DataW H) → Bool := fun _ ds => decide (uptoBulkAll ds ≤ 1048576)
def OpenSpec.upto (s : _root_.Go.ChangeSpec) : _root_.Go.OpenSpec := { _root_.Go.OpenSpec.ofChange s with cond := some uptoSmall }

/-- 'laws.FnValidDevice', WHERE WHAT IT READS IS OF BULK AT MOST 1048576: true; the input reads as it did. -/
def fnValidDeviceUptoRow : OpenClaim := { program := "ytlincjmiimmmeaa", sum := "4d1676f5be50415fc78224e5e352a16dde1156915ce9c5addb73e4e782eba066", func := "loop.example/streamlayers/laws.FnValidDevice", spec := "fnValidDevice", apart := false, narrowed := true }
def FnValidDeviceUptoSaid : Prop := fnValidDeviceUptoRow.holds Try.pinned (OpenSpec.upto fnValidDeviceSpec)

/-- 'laws.FnReadDevice', WHERE WHAT IT READS IS OF BULK AT MOST 1048576: true; the input reads as it did. -/
def fnReadDeviceUptoRow : OpenClaim := { program := "ytlincjmiimmmeaa", sum := "4d1676f5be50415fc78224e5e352a16dde1156915ce9c5addb73e4e782eba066", func := "loop.example/streamlayers/laws.FnReadDevice", spec := "fnReadDevice", unfollowed := true, recurses := true, apart := false, narrowed := true }
def FnReadDeviceUptoSaid : Prop := fnReadDeviceUptoRow.holds Try.pinned (OpenSpec.upto fnReadDeviceSpec)

/-- 'laws.FnWriteDevice', WHERE WHAT IT READS IS OF BULK AT MOST 1048576: true; the input reads as it did. -/
def fnWriteDeviceUptoRow : OpenClaim := { program := "ytlincjmiimmmeaa", sum := "4d1676f5be50415fc78224e5e352a16dde1156915ce9c5addb73e4e782eba066", func := "loop.example/streamlayers/laws.FnWriteDevice", spec := "fnWriteDevice", unfollowed := true, recurses := true, apart := false, narrowed := true }
def FnWriteDeviceUptoSaid : Prop := fnWriteDeviceUptoRow.holds Try.pinned (OpenSpec.upto fnWriteDeviceSpec)

/-- 'laws.FnRestOf', WHERE WHAT IT READS IS OF BULK AT MOST 1048576: true; the input reads as it did. -/
def fnRestOfUptoRow : OpenClaim := { program := "ytlincjmiimmmeaa", sum := "4d1676f5be50415fc78224e5e352a16dde1156915ce9c5addb73e4e782eba066", func := "loop.example/streamlayers/laws.FnRestOf", spec := "fnRestOf", apart := false, narrowed := true }
def FnRestOfUptoSaid : Prop := fnRestOfUptoRow.holds Try.pinned (OpenSpec.upto fnRestOfSpec)

/-- 'laws.FnIsSmooth', WHERE WHAT IT READS IS OF BULK AT MOST 1048576: true; the input reads as it did. -/
def fnIsSmoothUptoRow : OpenClaim := { program := "ytlincjmiimmmeaa", sum := "4d1676f5be50415fc78224e5e352a16dde1156915ce9c5addb73e4e782eba066", func := "loop.example/streamlayers/laws.FnIsSmooth", spec := "fnIsSmooth", unfollowed := true, recurses := true, apart := false, narrowed := true }
def FnIsSmoothUptoSaid : Prop := fnIsSmoothUptoRow.holds Try.pinned (OpenSpec.upto fnIsSmoothSpec)

/-- 'laws.FnSeekDevice', WHERE WHAT IT READS IS OF BULK AT MOST 1048576: true; the input reads as it did. -/
def fnSeekDeviceUptoRow : OpenClaim := { program := "ytlincjmiimmmeaa", sum := "4d1676f5be50415fc78224e5e352a16dde1156915ce9c5addb73e4e782eba066", func := "loop.example/streamlayers/laws.FnSeekDevice", spec := "fnSeekDevice", apart := false, narrowed := true }
def FnSeekDeviceUptoSaid : Prop := fnSeekDeviceUptoRow.holds Try.pinned (OpenSpec.upto fnSeekDeviceSpec)

end Rows
end Go.Proofs.Ytlincjmiimmmeaa
