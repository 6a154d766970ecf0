/-
  No cell of these rows narrows 'for every input' (looked for: loops, veiled, ifaces, maps, wideKeys, modest, calm, conditions, laid).
  DERIVED. THE GIVEN ROWS OF THIS SEAT. 6 by the template 'for every input the law returns true; each argument reads behind the call as it read before'; 0 by the template 'total and deterministic' (their statements: YtbphijnhcpcclaaTotals.lean).
  GIVEN WITH THE SEED: the statements are not yours to turn. If you find one false, say at which input.
  Laid BY PROGRAM, IN A SANDBOX (cutbox-rows.mjs): the forced cells as the released guide's own fill.sh prints them over the translation 12d716aa886a2305… (all of the seat's roots in one cut). By AI agents, Wed Nov 11 2026. No macro, syntax, notation, axiom, sorry.
-/
import Derived.Test.YtbphijnhcpcclaaChecked
import GoSem.Claim
import GoSem.ClaimJoined
import GoSem.ClaimMapViews
import Derived.JoinedTies
import Derived.KernelRfl
namespace Go.Proofs.Ytbphijnhcpcclaa
/- THE CELL 'sum', in the pinned program and in every row, IS THE sha256 OF THE DUMP (.gsa) THAT YtbphijnhcpcclaaProg.lean LOADS. Nothing in Lean hashes anything: it is a label: what it is worth is what the hold of that sum in a sandbox is worth. -/
noncomputable def Try.pinned : Pinned := { name := "ytbphijnhcpcclaa", sum := "12d716aa886a2305a17795abd11b3d1c1b49822722432082845ab5d280c663af", checked := Try.checked }
namespace Rows
def none {H : Type} : Left H := { results := [], args := [] }

/-- 'laws.FnNewDevice': WHATEVER THE INPUT: true; the input reads as it did. -/
def fnNewDeviceSpec : ChangeSpec := { name := "fnNewDevice", fn := fun _ => fun
  | [d] => { results := [.lit (.bool true)], args := [d] }
  | _ => none }
def fnNewDeviceRow : OpenClaim := { program := "ytbphijnhcpcclaa", sum := "12d716aa886a2305a17795abd11b3d1c1b49822722432082845ab5d280c663af", func := "loop.example/streamlayers/laws.FnNewDevice", spec := "fnNewDevice", apart := false }
def FnNewDeviceSaid : Prop := fnNewDeviceRow.holds Try.pinned (OpenSpec.ofChange fnNewDeviceSpec)

/-- ITS FALSE NEIGHBOUR: 'it returns false'. Refute it at one input. -/
def fnNewDeviceWrong : ChangeSpec := { name := "fnNewDevice", fn := fun _ => fun
  | [d] => { results := [.lit (.bool false)], args := [d] }
  | _ => none }
def FnNewDeviceWrongFalsely : Prop := fnNewDeviceRow.holds Try.pinned (OpenSpec.ofChange fnNewDeviceWrong)

/-- 'laws.FnReadDeviceEnds': WHATEVER THE INPUT: true; the input reads as it did. -/
def fnReadDeviceEndsSpec : ChangeSpec := { name := "fnReadDeviceEnds", fn := fun _ => fun
  | [d] => { results := [.lit (.bool true)], args := [d] }
  | _ => none }
def fnReadDeviceEndsRow : OpenClaim := { program := "ytbphijnhcpcclaa", sum := "12d716aa886a2305a17795abd11b3d1c1b49822722432082845ab5d280c663af", func := "loop.example/streamlayers/laws.FnReadDeviceEnds", spec := "fnReadDeviceEnds", unfollowed := true, recurses := true, apart := false }
def FnReadDeviceEndsSaid : Prop := fnReadDeviceEndsRow.holds Try.pinned (OpenSpec.ofChange fnReadDeviceEndsSpec)

/-- ITS FALSE NEIGHBOUR: 'it returns false'. Refute it at one input. -/
def fnReadDeviceEndsWrong : ChangeSpec := { name := "fnReadDeviceEnds", fn := fun _ => fun
  | [d] => { results := [.lit (.bool false)], args := [d] }
  | _ => none }
def FnReadDeviceEndsWrongFalsely : Prop := fnReadDeviceEndsRow.holds Try.pinned (OpenSpec.ofChange fnReadDeviceEndsWrong)

/-- 'laws.FnSeekDevice': WHATEVER THE INPUT: true; the input reads as it did. -/
def fnSeekDeviceSpec : ChangeSpec := { name := "fnSeekDevice", fn := fun _ => fun
  | [d] => { results := [.lit (.bool true)], args := [d] }
  | _ => none }
def fnSeekDeviceRow : OpenClaim := { program := "ytbphijnhcpcclaa", sum := "12d716aa886a2305a17795abd11b3d1c1b49822722432082845ab5d280c663af", func := "loop.example/streamlayers/laws.FnSeekDevice", spec := "fnSeekDevice", apart := false }
def FnSeekDeviceSaid : Prop := fnSeekDeviceRow.holds Try.pinned (OpenSpec.ofChange fnSeekDeviceSpec)

/-- ITS FALSE NEIGHBOUR: 'it returns false'. Refute it at one input. -/
def fnSeekDeviceWrong : ChangeSpec := { name := "fnSeekDevice", fn := fun _ => fun
  | [d] => { results := [.lit (.bool false)], args := [d] }
  | _ => none }
def FnSeekDeviceWrongFalsely : Prop := fnSeekDeviceRow.holds Try.pinned (OpenSpec.ofChange fnSeekDeviceWrong)

/-- 'laws.FnCutDevice': WHATEVER THE INPUT: true; the input reads as it did. -/
def fnCutDeviceSpec : ChangeSpec := { name := "fnCutDevice", fn := fun _ => fun
  | [d] => { results := [.lit (.bool true)], args := [d] }
  | _ => none }
def fnCutDeviceRow : OpenClaim := { program := "ytbphijnhcpcclaa", sum := "12d716aa886a2305a17795abd11b3d1c1b49822722432082845ab5d280c663af", func := "loop.example/streamlayers/laws.FnCutDevice", spec := "fnCutDevice", apart := false }
def FnCutDeviceSaid : Prop := fnCutDeviceRow.holds Try.pinned (OpenSpec.ofChange fnCutDeviceSpec)

/-- ITS FALSE NEIGHBOUR: 'it returns false'. Refute it at one input. -/
def fnCutDeviceWrong : ChangeSpec := { name := "fnCutDevice", fn := fun _ => fun
  | [d] => { results := [.lit (.bool false)], args := [d] }
  | _ => none }
def FnCutDeviceWrongFalsely : Prop := fnCutDeviceRow.holds Try.pinned (OpenSpec.ofChange fnCutDeviceWrong)

/-- 'laws.FnCallsToEnd': WHATEVER THE INPUT: true; the input reads as it did. -/
def fnCallsToEndSpec : ChangeSpec := { name := "fnCallsToEnd", fn := fun _ => fun
  | [d] => { results := [.lit (.bool true)], args := [d] }
  | _ => none }
def fnCallsToEndRow : OpenClaim := { program := "ytbphijnhcpcclaa", sum := "12d716aa886a2305a17795abd11b3d1c1b49822722432082845ab5d280c663af", func := "loop.example/streamlayers/laws.FnCallsToEnd", spec := "fnCallsToEnd", unfollowed := true, recurses := true, apart := false }
def FnCallsToEndSaid : Prop := fnCallsToEndRow.holds Try.pinned (OpenSpec.ofChange fnCallsToEndSpec)

/-- ITS FALSE NEIGHBOUR: 'it returns false'. Refute it at one input. -/
def fnCallsToEndWrong : ChangeSpec := { name := "fnCallsToEnd", fn := fun _ => fun
  | [d] => { results := [.lit (.bool false)], args := [d] }
  | _ => none }
def FnCallsToEndWrongFalsely : Prop := fnCallsToEndRow.holds Try.pinned (OpenSpec.ofChange fnCallsToEndWrong)

/-- 'laws.FnNewWriter': WHATEVER THE INPUT: true; the input reads as it did. -/
def fnNewWriterSpec : ChangeSpec := { name := "fnNewWriter", fn := fun _ => fun
  | [d] => { results := [.lit (.bool true)], args := [d] }
  | _ => none }
def fnNewWriterRow : OpenClaim := { program := "ytbphijnhcpcclaa", sum := "12d716aa886a2305a17795abd11b3d1c1b49822722432082845ab5d280c663af", func := "loop.example/streamlayers/laws.FnNewWriter", spec := "fnNewWriter", apart := false }
def FnNewWriterSaid : Prop := fnNewWriterRow.holds Try.pinned (OpenSpec.ofChange fnNewWriterSpec)

/-- ITS FALSE NEIGHBOUR: 'it returns false'. Refute it at one input. -/
def fnNewWriterWrong : ChangeSpec := { name := "fnNewWriter", fn := fun _ => fun
  | [d] => { results := [.lit (.bool false)], args := [d] }
  | _ => none }
def FnNewWriterWrongFalsely : Prop := fnNewWriterRow.holds Try.pinned (OpenSpec.ofChange fnNewWriterWrong)

/- THE SECOND FORM. 'bulk': how many values and letters a reading holds, each counted each time it is reached (what is shared counts as often as it is met; a slice's spare places count too). A statement '..UptoSaid' is the law's where the arguments, and the package variables that the reading takes, are together of bulk at most 1048576: NARROWER than '..Said'. Prove '..Said' where nothing that the law and all that it calls make is longer than what came in: it says more and counts as full. Else prove '..UptoSaid'. A law counts once. -/
mutual
def uptoBulk {H : Type} : DataW H → Nat
  | .lit (.string bytes) => bytes.length + 1
  | .lit _ => 1
  | .nil => 1
  | .ptr d => uptoBulk d + 1
  | .slice elems spare => uptoBulkAll elems + uptoBulkAll spare + 1
  | .agg parts => uptoBulkAll parts + 1
  | .iface _ d => uptoBulk d + 1
  | .map entries => uptoBulkEntries entries + 1
  | .held _ => 1
def uptoBulkAll {H : Type} : List (DataW H) → Nat
  | [] => 0
  | d :: r => uptoBulk d + uptoBulkAll r
def uptoBulkEntries {H : Type} : List (Lit × DataW H) → Nat
  | [] => 0
  | x :: r => uptoBulkEntry x + uptoBulkEntries r
def uptoBulkEntry {H : Type} : Lit × DataW H → Nat
  | (.string bytes, d) => bytes.length + uptoBulk d + 1
  | (_, d) => uptoBulk d + 1
 end
def uptoSmall : (H : Type) → List (DataW H) → Bool := fun _ ds => decide (uptoBulkAll ds ≤ 1048576)
def OpenSpec.upto (s : _root_.Go.ChangeSpec) : _root_.Go.OpenSpec := { _root_.Go.OpenSpec.ofChange s with cond := some uptoSmall }

/-- 'laws.FnNewDevice', WHERE WHAT IT READS IS OF BULK AT MOST 1048576: true; the input reads as it did. -/
def fnNewDeviceUptoRow : OpenClaim := { program := "ytbphijnhcpcclaa", sum := "12d716aa886a2305a17795abd11b3d1c1b49822722432082845ab5d280c663af", func := "loop.example/streamlayers/laws.FnNewDevice", spec := "fnNewDevice", apart := false, narrowed := true }
def FnNewDeviceUptoSaid : Prop := fnNewDeviceUptoRow.holds Try.pinned (OpenSpec.upto fnNewDeviceSpec)

/-- 'laws.FnReadDeviceEnds', WHERE WHAT IT READS IS OF BULK AT MOST 1048576: true; the input reads as it did. -/
def fnReadDeviceEndsUptoRow : OpenClaim := { program := "ytbphijnhcpcclaa", sum := "12d716aa886a2305a17795abd11b3d1c1b49822722432082845ab5d280c663af", func := "loop.example/streamlayers/laws.FnReadDeviceEnds", spec := "fnReadDeviceEnds", unfollowed := true, recurses := true, apart := false, narrowed := true }
def FnReadDeviceEndsUptoSaid : Prop := fnReadDeviceEndsUptoRow.holds Try.pinned (OpenSpec.upto fnReadDeviceEndsSpec)

/-- 'laws.FnSeekDevice', WHERE WHAT IT READS IS OF BULK AT MOST 1048576: true; the input reads as it did. -/
def fnSeekDeviceUptoRow : OpenClaim := { program := "ytbphijnhcpcclaa", sum := "12d716aa886a2305a17795abd11b3d1c1b49822722432082845ab5d280c663af", func := "loop.example/streamlayers/laws.FnSeekDevice", spec := "fnSeekDevice", apart := false, narrowed := true }
def FnSeekDeviceUptoSaid : Prop := fnSeekDeviceUptoRow.holds Try.pinned (OpenSpec.upto fnSeekDeviceSpec)

/-- 'laws.FnCutDevice', WHERE WHAT IT READS IS OF BULK AT MOST 1048576: true; the input reads as it did. -/
def fnCutDeviceUptoRow : OpenClaim := { program := "ytbphijnhcpcclaa", sum := "12d716aa886a2305a17795abd11b3d1c1b49822722432082845ab5d280c663af", func := "loop.example/streamlayers/laws.FnCutDevice", spec := "fnCutDevice", apart := false, narrowed := true }
def FnCutDeviceUptoSaid : Prop := fnCutDeviceUptoRow.holds Try.pinned (OpenSpec.upto fnCutDeviceSpec)

/-- 'laws.FnCallsToEnd', WHERE WHAT IT READS IS OF BULK AT MOST 1048576: true; the input reads as it did. -/
def fnCallsToEndUptoRow : OpenClaim := { program := "ytbphijnhcpcclaa", sum := "12d716aa886a2305a17795abd11b3d1c1b49822722432082845ab5d280c663af", func := "loop.example/streamlayers/laws.FnCallsToEnd", spec := "fnCallsToEnd", unfollowed := true, recurses := true, apart := false, narrowed := true }
def FnCallsToEndUptoSaid : Prop := fnCallsToEndUptoRow.holds Try.pinned (OpenSpec.upto fnCallsToEndSpec)

/-- 'laws.FnNewWriter', WHERE WHAT IT READS IS OF BULK AT MOST 1048576: true; the input reads as it did. -/
def fnNewWriterUptoRow : OpenClaim := { program := "ytbphijnhcpcclaa", sum := "12d716aa886a2305a17795abd11b3d1c1b49822722432082845ab5d280c663af", func := "loop.example/streamlayers/laws.FnNewWriter", spec := "fnNewWriter", apart := false, narrowed := true }
def FnNewWriterUptoSaid : Prop := fnNewWriterUptoRow.holds Try.pinned (OpenSpec.upto fnNewWriterSpec)

end Rows
end Go.Proofs.Ytbphijnhcpcclaa
