/-
  NARROWER THAN 'FOR EVERY INPUT', by the rows' own cells (each row's printed sentence says how): FnExactWriteBytes: ifaces, laid · FnExactWriteLines: ifaces, laid · FnExactReadBoth: ifaces, laid · FnExactWriteBoth: ifaces, laid · FnExactSeekBoth: ifaces, laid · FnWriteBytes: ifaces, laid · FnWriteBytesTwice: ifaces, laid · FnWriteLines: ifaces, laid · FnRoomOf: ifaces, laid.
  DERIVED. THE GIVEN ROWS OF THIS SEAT. 9 by the template 'for every input the law returns true; each argument reads behind the call as it read before'; 0 by the template 'total and deterministic' (their statements: YtdiebkaedjlckaaDoorTotals.lean).
  GIVEN WITH THE SEED: the statements are not yours to turn. If you find one false, say at which input.
  Laid BY PROGRAM, IN A SANDBOX (cutbox-rows.mjs): the forced cells as the released guide's own fill.sh prints them over the translation 9f33efeff0a36b5a… (all of the seat's roots in one cut). By AI agents, Wed Nov 11 2026. No macro, syntax, notation, axiom, sorry.
-/
import Derived.Test.YtdiebkaedjlckaaDoorChecked
import GoSem.Claim
import GoSem.ClaimJoined
import GoSem.ClaimMapViews
import Derived.JoinedTies
import Derived.KernelRfl
namespace Go.Proofs.YtdiebkaedjlckaaDoor
/- THE CELL 'sum', in the pinned program and in every row, IS THE sha256 OF THE DUMP (.gsa) THAT YtdiebkaedjlckaaDoorProg.lean LOADS. Nothing in Lean hashes anything: it is a label: what it is worth is what the hold of that sum in a sandbox is worth. -/
noncomputable def Tryd.pinned : Pinned := { name := "ytdiebkaedjlckaadoor", sum := "9f33efeff0a36b5a361f9a4c6e238debc1783e2bfde3b048712ace0f223d31e9", checked := Tryd.checked }
namespace Rows
def none {H : Type} : Left H := { results := [], args := [] }

/- WHAT THE LISTED PACKAGE-LEVEL VARIABLES READ AS WHEN THE CALL BEGINS. Each datum BY PROGRAM (the guide's laid-datum.mjs) off the statement by which the dump's own 'gosem.cut.vars' lays the variable. In a bare row this is a premise. The card (YtdiebkaedjlckaaDoorCards.lean) ties it to the program's text. -/
def laid_loop_example_streamlayers_impl_errNone {H : Type} : DataW H := .iface "*errors.errorString" (.ptr (.agg [.lit (.string [110, 111, 116, 104, 105, 110, 103, 32, 99, 97, 110, 32, 98, 101, 32, 119, 114, 105, 116, 116, 101, 110, 32, 110, 111, 119])]))
def laid_loop_example_streamlayers_impl_errFault {H : Type} : DataW H := .iface "*errors.errorString" (.ptr (.agg [.lit (.string [116, 104, 101, 32, 100, 101, 118, 105, 99, 101, 32, 104, 97, 115, 32, 97, 32, 102, 97, 117, 108, 116])]))
def laid_loop_example_streamlayers_impl_errFull {H : Type} : DataW H := .iface "*errors.errorString" (.ptr (.agg [.lit (.string [116, 104, 101, 32, 100, 101, 118, 105, 99, 101, 32, 104, 97, 115, 32, 110, 111, 32, 114, 111, 111, 109])]))
def laid_loop_example_streamlayers_impl_errPlace {H : Type} : DataW H := .iface "*errors.errorString" (.ptr (.agg [.lit (.string [116, 104, 101, 114, 101, 32, 105, 115, 32, 110, 111, 32, 115, 117, 99, 104, 32, 112, 108, 97, 99, 101])]))

/-- 'laws.FnExactWriteBytes': WHATEVER THE INPUT: true; the input reads as it did. -/
def fnExactWriteBytesSpec : ChangeSpec := { name := "fnExactWriteBytes", vars := ["loop.example/streamlayers/impl.errNone", "loop.example/streamlayers/impl.errFault", "loop.example/streamlayers/impl.errFull"], fn := fun _ => fun
  | [d1, d2, g1, g2, g3] => { results := [.lit (.bool true)], args := [d1, d2], vars := [g1, g2, g3] }
  | _ => none }
def fnExactWriteBytesRow : OpenClaim := { program := "ytdiebkaedjlckaadoor", sum := "9f33efeff0a36b5a361f9a4c6e238debc1783e2bfde3b048712ace0f223d31e9", func := "loop.example/streamlayers/laws.FnExactWriteBytes", spec := "fnExactWriteBytes", inPlace := ["internal/reflectlite.TypeOf"], unfollowed := true, recurses := true, named := ["loop.example/streamlayers/impl.errNone", "loop.example/streamlayers/impl.errFault", "loop.example/streamlayers/impl.errFull"], ifaces := true, apart := false, laid := [("loop.example/streamlayers/impl.errNone", laid_loop_example_streamlayers_impl_errNone), ("loop.example/streamlayers/impl.errFault", laid_loop_example_streamlayers_impl_errFault), ("loop.example/streamlayers/impl.errFull", laid_loop_example_streamlayers_impl_errFull)] }
def FnExactWriteBytesSaid : Prop := fnExactWriteBytesRow.holds Tryd.pinned (OpenSpec.ofChange fnExactWriteBytesSpec)

/-- ITS FALSE NEIGHBOUR: 'it returns false'. Refute it at one input. -/
def fnExactWriteBytesWrong : ChangeSpec := { name := "fnExactWriteBytes", vars := ["loop.example/streamlayers/impl.errNone", "loop.example/streamlayers/impl.errFault", "loop.example/streamlayers/impl.errFull"], fn := fun _ => fun
  | [d1, d2, g1, g2, g3] => { results := [.lit (.bool false)], args := [d1, d2], vars := [g1, g2, g3] }
  | _ => none }
def FnExactWriteBytesWrongFalsely : Prop := fnExactWriteBytesRow.holds Tryd.pinned (OpenSpec.ofChange fnExactWriteBytesWrong)

/-- 'laws.FnExactWriteLines': WHATEVER THE INPUT: true; the input reads as it did. -/
def fnExactWriteLinesSpec : ChangeSpec := { name := "fnExactWriteLines", vars := ["loop.example/streamlayers/impl.errNone", "loop.example/streamlayers/impl.errFault", "loop.example/streamlayers/impl.errFull"], fn := fun _ => fun
  | [d1, d2, g1, g2, g3] => { results := [.lit (.bool true)], args := [d1, d2], vars := [g1, g2, g3] }
  | _ => none }
def fnExactWriteLinesRow : OpenClaim := { program := "ytdiebkaedjlckaadoor", sum := "9f33efeff0a36b5a361f9a4c6e238debc1783e2bfde3b048712ace0f223d31e9", func := "loop.example/streamlayers/laws.FnExactWriteLines", spec := "fnExactWriteLines", inPlace := ["internal/reflectlite.TypeOf"], unfollowed := true, recurses := true, named := ["loop.example/streamlayers/impl.errNone", "loop.example/streamlayers/impl.errFault", "loop.example/streamlayers/impl.errFull"], ifaces := true, apart := false, laid := [("loop.example/streamlayers/impl.errNone", laid_loop_example_streamlayers_impl_errNone), ("loop.example/streamlayers/impl.errFault", laid_loop_example_streamlayers_impl_errFault), ("loop.example/streamlayers/impl.errFull", laid_loop_example_streamlayers_impl_errFull)] }
def FnExactWriteLinesSaid : Prop := fnExactWriteLinesRow.holds Tryd.pinned (OpenSpec.ofChange fnExactWriteLinesSpec)

/-- ITS FALSE NEIGHBOUR: 'it returns false'. Refute it at one input. -/
def fnExactWriteLinesWrong : ChangeSpec := { name := "fnExactWriteLines", vars := ["loop.example/streamlayers/impl.errNone", "loop.example/streamlayers/impl.errFault", "loop.example/streamlayers/impl.errFull"], fn := fun _ => fun
  | [d1, d2, g1, g2, g3] => { results := [.lit (.bool false)], args := [d1, d2], vars := [g1, g2, g3] }
  | _ => none }
def FnExactWriteLinesWrongFalsely : Prop := fnExactWriteLinesRow.holds Tryd.pinned (OpenSpec.ofChange fnExactWriteLinesWrong)

/-- 'laws.FnExactReadBoth': WHATEVER THE INPUT: true; the input reads as it did. -/
def fnExactReadBothSpec : ChangeSpec := { name := "fnExactReadBoth", vars := ["loop.example/streamlayers/impl.errNone", "loop.example/streamlayers/impl.errFault", "loop.example/streamlayers/impl.errFull"], fn := fun _ => fun
  | [d1, d2, g1, g2, g3] => { results := [.lit (.bool true)], args := [d1, d2], vars := [g1, g2, g3] }
  | _ => none }
def fnExactReadBothRow : OpenClaim := { program := "ytdiebkaedjlckaadoor", sum := "9f33efeff0a36b5a361f9a4c6e238debc1783e2bfde3b048712ace0f223d31e9", func := "loop.example/streamlayers/laws.FnExactReadBoth", spec := "fnExactReadBoth", inPlace := ["internal/reflectlite.TypeOf"], unfollowed := true, recurses := true, named := ["loop.example/streamlayers/impl.errNone", "loop.example/streamlayers/impl.errFault", "loop.example/streamlayers/impl.errFull"], ifaces := true, apart := false, laid := [("loop.example/streamlayers/impl.errNone", laid_loop_example_streamlayers_impl_errNone), ("loop.example/streamlayers/impl.errFault", laid_loop_example_streamlayers_impl_errFault), ("loop.example/streamlayers/impl.errFull", laid_loop_example_streamlayers_impl_errFull)] }
def FnExactReadBothSaid : Prop := fnExactReadBothRow.holds Tryd.pinned (OpenSpec.ofChange fnExactReadBothSpec)

/-- ITS FALSE NEIGHBOUR: 'it returns false'. Refute it at one input. -/
def fnExactReadBothWrong : ChangeSpec := { name := "fnExactReadBoth", vars := ["loop.example/streamlayers/impl.errNone", "loop.example/streamlayers/impl.errFault", "loop.example/streamlayers/impl.errFull"], fn := fun _ => fun
  | [d1, d2, g1, g2, g3] => { results := [.lit (.bool false)], args := [d1, d2], vars := [g1, g2, g3] }
  | _ => none }
def FnExactReadBothWrongFalsely : Prop := fnExactReadBothRow.holds Tryd.pinned (OpenSpec.ofChange fnExactReadBothWrong)

/-- 'laws.FnExactWriteBoth': WHATEVER THE INPUT: true; the input reads as it did. -/
def fnExactWriteBothSpec : ChangeSpec := { name := "fnExactWriteBoth", vars := ["loop.example/streamlayers/impl.errNone", "loop.example/streamlayers/impl.errFault", "loop.example/streamlayers/impl.errFull"], fn := fun _ => fun
  | [d1, d2, g1, g2, g3] => { results := [.lit (.bool true)], args := [d1, d2], vars := [g1, g2, g3] }
  | _ => none }
def fnExactWriteBothRow : OpenClaim := { program := "ytdiebkaedjlckaadoor", sum := "9f33efeff0a36b5a361f9a4c6e238debc1783e2bfde3b048712ace0f223d31e9", func := "loop.example/streamlayers/laws.FnExactWriteBoth", spec := "fnExactWriteBoth", inPlace := ["internal/reflectlite.TypeOf"], unfollowed := true, recurses := true, named := ["loop.example/streamlayers/impl.errNone", "loop.example/streamlayers/impl.errFault", "loop.example/streamlayers/impl.errFull"], ifaces := true, apart := false, laid := [("loop.example/streamlayers/impl.errNone", laid_loop_example_streamlayers_impl_errNone), ("loop.example/streamlayers/impl.errFault", laid_loop_example_streamlayers_impl_errFault), ("loop.example/streamlayers/impl.errFull", laid_loop_example_streamlayers_impl_errFull)] }
def FnExactWriteBothSaid : Prop := fnExactWriteBothRow.holds Tryd.pinned (OpenSpec.ofChange fnExactWriteBothSpec)

/-- ITS FALSE NEIGHBOUR: 'it returns false'. Refute it at one input. -/
def fnExactWriteBothWrong : ChangeSpec := { name := "fnExactWriteBoth", vars := ["loop.example/streamlayers/impl.errNone", "loop.example/streamlayers/impl.errFault", "loop.example/streamlayers/impl.errFull"], fn := fun _ => fun
  | [d1, d2, g1, g2, g3] => { results := [.lit (.bool false)], args := [d1, d2], vars := [g1, g2, g3] }
  | _ => none }
def FnExactWriteBothWrongFalsely : Prop := fnExactWriteBothRow.holds Tryd.pinned (OpenSpec.ofChange fnExactWriteBothWrong)

/-- 'laws.FnExactSeekBoth': WHATEVER THE INPUT: true; the input reads as it did. -/
def fnExactSeekBothSpec : ChangeSpec := { name := "fnExactSeekBoth", vars := ["loop.example/streamlayers/impl.errNone", "loop.example/streamlayers/impl.errFault", "loop.example/streamlayers/impl.errFull", "loop.example/streamlayers/impl.errPlace"], fn := fun _ => fun
  | [d1, d2, d3, g1, g2, g3, g4] => { results := [.lit (.bool true)], args := [d1, d2, d3], vars := [g1, g2, g3, g4] }
  | _ => none }
def fnExactSeekBothRow : OpenClaim := { program := "ytdiebkaedjlckaadoor", sum := "9f33efeff0a36b5a361f9a4c6e238debc1783e2bfde3b048712ace0f223d31e9", func := "loop.example/streamlayers/laws.FnExactSeekBoth", spec := "fnExactSeekBoth", inPlace := ["internal/reflectlite.TypeOf"], unfollowed := true, recurses := true, named := ["loop.example/streamlayers/impl.errNone", "loop.example/streamlayers/impl.errFault", "loop.example/streamlayers/impl.errFull", "loop.example/streamlayers/impl.errPlace"], ifaces := true, apart := false, laid := [("loop.example/streamlayers/impl.errNone", laid_loop_example_streamlayers_impl_errNone), ("loop.example/streamlayers/impl.errFault", laid_loop_example_streamlayers_impl_errFault), ("loop.example/streamlayers/impl.errFull", laid_loop_example_streamlayers_impl_errFull), ("loop.example/streamlayers/impl.errPlace", laid_loop_example_streamlayers_impl_errPlace)] }
def FnExactSeekBothSaid : Prop := fnExactSeekBothRow.holds Tryd.pinned (OpenSpec.ofChange fnExactSeekBothSpec)

/-- ITS FALSE NEIGHBOUR: 'it returns false'. Refute it at one input. -/
def fnExactSeekBothWrong : ChangeSpec := { name := "fnExactSeekBoth", vars := ["loop.example/streamlayers/impl.errNone", "loop.example/streamlayers/impl.errFault", "loop.example/streamlayers/impl.errFull", "loop.example/streamlayers/impl.errPlace"], fn := fun _ => fun
  | [d1, d2, d3, g1, g2, g3, g4] => { results := [.lit (.bool false)], args := [d1, d2, d3], vars := [g1, g2, g3, g4] }
  | _ => none }
def FnExactSeekBothWrongFalsely : Prop := fnExactSeekBothRow.holds Tryd.pinned (OpenSpec.ofChange fnExactSeekBothWrong)

/-- 'laws.FnWriteBytes': WHATEVER THE INPUT: true; the input reads as it did. -/
def fnWriteBytesSpec : ChangeSpec := { name := "fnWriteBytes", vars := ["loop.example/streamlayers/impl.errNone", "loop.example/streamlayers/impl.errFault", "loop.example/streamlayers/impl.errFull"], fn := fun _ => fun
  | [d, g1, g2, g3] => { results := [.lit (.bool true)], args := [d], vars := [g1, g2, g3] }
  | _ => none }
def fnWriteBytesRow : OpenClaim := { program := "ytdiebkaedjlckaadoor", sum := "9f33efeff0a36b5a361f9a4c6e238debc1783e2bfde3b048712ace0f223d31e9", func := "loop.example/streamlayers/laws.FnWriteBytes", spec := "fnWriteBytes", inPlace := ["internal/reflectlite.TypeOf"], unfollowed := true, recurses := true, named := ["loop.example/streamlayers/impl.errNone", "loop.example/streamlayers/impl.errFault", "loop.example/streamlayers/impl.errFull"], ifaces := true, apart := false, laid := [("loop.example/streamlayers/impl.errNone", laid_loop_example_streamlayers_impl_errNone), ("loop.example/streamlayers/impl.errFault", laid_loop_example_streamlayers_impl_errFault), ("loop.example/streamlayers/impl.errFull", laid_loop_example_streamlayers_impl_errFull)] }
def FnWriteBytesSaid : Prop := fnWriteBytesRow.holds Tryd.pinned (OpenSpec.ofChange fnWriteBytesSpec)

/-- ITS FALSE NEIGHBOUR: 'it returns false'. Refute it at one input. -/
def fnWriteBytesWrong : ChangeSpec := { name := "fnWriteBytes", vars := ["loop.example/streamlayers/impl.errNone", "loop.example/streamlayers/impl.errFault", "loop.example/streamlayers/impl.errFull"], fn := fun _ => fun
  | [d, g1, g2, g3] => { results := [.lit (.bool false)], args := [d], vars := [g1, g2, g3] }
  | _ => none }
def FnWriteBytesWrongFalsely : Prop := fnWriteBytesRow.holds Tryd.pinned (OpenSpec.ofChange fnWriteBytesWrong)

/-- 'laws.FnWriteBytesTwice': WHATEVER THE INPUT: true; the input reads as it did. -/
def fnWriteBytesTwiceSpec : ChangeSpec := { name := "fnWriteBytesTwice", vars := ["loop.example/streamlayers/impl.errNone", "loop.example/streamlayers/impl.errFault", "loop.example/streamlayers/impl.errFull"], fn := fun _ => fun
  | [d, g1, g2, g3] => { results := [.lit (.bool true)], args := [d], vars := [g1, g2, g3] }
  | _ => none }
def fnWriteBytesTwiceRow : OpenClaim := { program := "ytdiebkaedjlckaadoor", sum := "9f33efeff0a36b5a361f9a4c6e238debc1783e2bfde3b048712ace0f223d31e9", func := "loop.example/streamlayers/laws.FnWriteBytesTwice", spec := "fnWriteBytesTwice", inPlace := ["internal/reflectlite.TypeOf"], unfollowed := true, recurses := true, named := ["loop.example/streamlayers/impl.errNone", "loop.example/streamlayers/impl.errFault", "loop.example/streamlayers/impl.errFull"], ifaces := true, apart := false, laid := [("loop.example/streamlayers/impl.errNone", laid_loop_example_streamlayers_impl_errNone), ("loop.example/streamlayers/impl.errFault", laid_loop_example_streamlayers_impl_errFault), ("loop.example/streamlayers/impl.errFull", laid_loop_example_streamlayers_impl_errFull)] }
def FnWriteBytesTwiceSaid : Prop := fnWriteBytesTwiceRow.holds Tryd.pinned (OpenSpec.ofChange fnWriteBytesTwiceSpec)

/-- ITS FALSE NEIGHBOUR: 'it returns false'. Refute it at one input. -/
def fnWriteBytesTwiceWrong : ChangeSpec := { name := "fnWriteBytesTwice", vars := ["loop.example/streamlayers/impl.errNone", "loop.example/streamlayers/impl.errFault", "loop.example/streamlayers/impl.errFull"], fn := fun _ => fun
  | [d, g1, g2, g3] => { results := [.lit (.bool false)], args := [d], vars := [g1, g2, g3] }
  | _ => none }
def FnWriteBytesTwiceWrongFalsely : Prop := fnWriteBytesTwiceRow.holds Tryd.pinned (OpenSpec.ofChange fnWriteBytesTwiceWrong)

/-- 'laws.FnWriteLines': WHATEVER THE INPUT: true; the input reads as it did. -/
def fnWriteLinesSpec : ChangeSpec := { name := "fnWriteLines", vars := ["loop.example/streamlayers/impl.errNone", "loop.example/streamlayers/impl.errFault", "loop.example/streamlayers/impl.errFull"], fn := fun _ => fun
  | [d, g1, g2, g3] => { results := [.lit (.bool true)], args := [d], vars := [g1, g2, g3] }
  | _ => none }
def fnWriteLinesRow : OpenClaim := { program := "ytdiebkaedjlckaadoor", sum := "9f33efeff0a36b5a361f9a4c6e238debc1783e2bfde3b048712ace0f223d31e9", func := "loop.example/streamlayers/laws.FnWriteLines", spec := "fnWriteLines", inPlace := ["internal/reflectlite.TypeOf"], unfollowed := true, recurses := true, named := ["loop.example/streamlayers/impl.errNone", "loop.example/streamlayers/impl.errFault", "loop.example/streamlayers/impl.errFull"], ifaces := true, apart := false, laid := [("loop.example/streamlayers/impl.errNone", laid_loop_example_streamlayers_impl_errNone), ("loop.example/streamlayers/impl.errFault", laid_loop_example_streamlayers_impl_errFault), ("loop.example/streamlayers/impl.errFull", laid_loop_example_streamlayers_impl_errFull)] }
def FnWriteLinesSaid : Prop := fnWriteLinesRow.holds Tryd.pinned (OpenSpec.ofChange fnWriteLinesSpec)

/-- ITS FALSE NEIGHBOUR: 'it returns false'. Refute it at one input. -/
def fnWriteLinesWrong : ChangeSpec := { name := "fnWriteLines", vars := ["loop.example/streamlayers/impl.errNone", "loop.example/streamlayers/impl.errFault", "loop.example/streamlayers/impl.errFull"], fn := fun _ => fun
  | [d, g1, g2, g3] => { results := [.lit (.bool false)], args := [d], vars := [g1, g2, g3] }
  | _ => none }
def FnWriteLinesWrongFalsely : Prop := fnWriteLinesRow.holds Tryd.pinned (OpenSpec.ofChange fnWriteLinesWrong)

/-- 'laws.FnRoomOf': WHATEVER THE INPUT: true; the input reads as it did. -/
def fnRoomOfSpec : ChangeSpec := { name := "fnRoomOf", vars := ["loop.example/streamlayers/impl.errNone", "loop.example/streamlayers/impl.errFault", "loop.example/streamlayers/impl.errFull"], fn := fun _ => fun
  | [d, g1, g2, g3] => { results := [.lit (.bool true)], args := [d], vars := [g1, g2, g3] }
  | _ => none }
def fnRoomOfRow : OpenClaim := { program := "ytdiebkaedjlckaadoor", sum := "9f33efeff0a36b5a361f9a4c6e238debc1783e2bfde3b048712ace0f223d31e9", func := "loop.example/streamlayers/laws.FnRoomOf", spec := "fnRoomOf", inPlace := ["internal/reflectlite.TypeOf"], unfollowed := true, recurses := true, named := ["loop.example/streamlayers/impl.errNone", "loop.example/streamlayers/impl.errFault", "loop.example/streamlayers/impl.errFull"], ifaces := true, apart := false, laid := [("loop.example/streamlayers/impl.errNone", laid_loop_example_streamlayers_impl_errNone), ("loop.example/streamlayers/impl.errFault", laid_loop_example_streamlayers_impl_errFault), ("loop.example/streamlayers/impl.errFull", laid_loop_example_streamlayers_impl_errFull)] }
def FnRoomOfSaid : Prop := fnRoomOfRow.holds Tryd.pinned (OpenSpec.ofChange fnRoomOfSpec)

/-- ITS FALSE NEIGHBOUR: 'it returns false'. Refute it at one input. -/
def fnRoomOfWrong : ChangeSpec := { name := "fnRoomOf", vars := ["loop.example/streamlayers/impl.errNone", "loop.example/streamlayers/impl.errFault", "loop.example/streamlayers/impl.errFull"], fn := fun _ => fun
  | [d, g1, g2, g3] => { results := [.lit (.bool false)], args := [d], vars := [g1, g2, g3] }
  | _ => none }
def FnRoomOfWrongFalsely : Prop := fnRoomOfRow.holds Tryd.pinned (OpenSpec.ofChange fnRoomOfWrong)

/- THE SECOND FORM. 'bulk': how many values and letters a reading holds, each counted each time it is reached (what is shared counts as often as it is met; a slice's spare places count too). A statement '..UptoSaid' is the law's where the arguments, and the package variables that the reading takes, are together of bulk at most 1048576: NARROWER than '..Said'. Prove '..Said' where nothing that the law and all that it calls make is longer than what came in: it says more and counts as full. Else prove '..UptoSaid'. A law counts once. -/
mutual
def uptoBulk {H : Type} : DataW H → Nat
  | .lit (.string bytes) => bytes.length + 1
  | .lit _ => 1
  | .nil => 1
  | .ptr d => uptoBulk d + 1
  | .slice elems spare => uptoBulkAll elems + uptoBulkAll spare + 1
  | .agg parts => uptoBulkAll parts + 1
  | .iface _ d => uptoBulk d + 1
  | .map entries => uptoBulkEntries entries + 1
  | .held _ => 1
def uptoBulkAll {H : Type} : List (DataW H) → Nat
  | [] => 0
  | d :: r => uptoBulk d + uptoBulkAll r
def uptoBulkEntries {H : Type} : List (Lit × DataW H) → Nat
  | [] => 0
  | x :: r => uptoBulkEntry x + uptoBulkEntries r
def uptoBulkEntry {H : Type} : Lit × DataW H → Nat
  | (.string bytes, d) => bytes.length + uptoBulk d + 1
  | (_, d) => uptoBulk d + 1
 end
def uptoSmall : (H : Type) → List (DataW H) → Bool := fun _ ds => decide (uptoBulkAll ds ≤ 1048576)
def OpenSpec.upto (s : _root_.Go.ChangeSpec) : _root_.Go.OpenSpec := { _root_.Go.OpenSpec.ofChange s with cond := some uptoSmall }

/-- 'laws.FnExactWriteBytes', WHERE WHAT IT READS IS OF BULK AT MOST 1048576: true; the input reads as it did. -/
def fnExactWriteBytesUptoRow : OpenClaim := { program := "ytdiebkaedjlckaadoor", sum := "9f33efeff0a36b5a361f9a4c6e238debc1783e2bfde3b048712ace0f223d31e9", func := "loop.example/streamlayers/laws.FnExactWriteBytes", spec := "fnExactWriteBytes", inPlace := ["internal/reflectlite.TypeOf"], unfollowed := true, recurses := true, named := ["loop.example/streamlayers/impl.errNone", "loop.example/streamlayers/impl.errFault", "loop.example/streamlayers/impl.errFull"], ifaces := true, apart := false, laid := [("loop.example/streamlayers/impl.errNone", laid_loop_example_streamlayers_impl_errNone), ("loop.example/streamlayers/impl.errFault", laid_loop_example_streamlayers_impl_errFault), ("loop.example/streamlayers/impl.errFull", laid_loop_example_streamlayers_impl_errFull)], narrowed := true }
def FnExactWriteBytesUptoSaid : Prop := fnExactWriteBytesUptoRow.holds Tryd.pinned (OpenSpec.upto fnExactWriteBytesSpec)

/-- 'laws.FnExactWriteLines', WHERE WHAT IT READS IS OF BULK AT MOST 1048576: true; the input reads as it did. -/
def fnExactWriteLinesUptoRow : OpenClaim := { program := "ytdiebkaedjlckaadoor", sum := "9f33efeff0a36b5a361f9a4c6e238debc1783e2bfde3b048712ace0f223d31e9", func := "loop.example/streamlayers/laws.FnExactWriteLines", spec := "fnExactWriteLines", inPlace := ["internal/reflectlite.TypeOf"], unfollowed := true, recurses := true, named := ["loop.example/streamlayers/impl.errNone", "loop.example/streamlayers/impl.errFault", "loop.example/streamlayers/impl.errFull"], ifaces := true, apart := false, laid := [("loop.example/streamlayers/impl.errNone", laid_loop_example_streamlayers_impl_errNone), ("loop.example/streamlayers/impl.errFault", laid_loop_example_streamlayers_impl_errFault), ("loop.example/streamlayers/impl.errFull", laid_loop_example_streamlayers_impl_errFull)], narrowed := true }
def FnExactWriteLinesUptoSaid : Prop := fnExactWriteLinesUptoRow.holds Tryd.pinned (OpenSpec.upto fnExactWriteLinesSpec)

/-- 'laws.FnExactReadBoth', WHERE WHAT IT READS IS OF BULK AT MOST 1048576: true; the input reads as it did. -/
def fnExactReadBothUptoRow : OpenClaim := { program := "ytdiebkaedjlckaadoor", sum := "9f33efeff0a36b5a361f9a4c6e238debc1783e2bfde3b048712ace0f223d31e9", func := "loop.example/streamlayers/laws.FnExactReadBoth", spec := "fnExactReadBoth", inPlace := ["internal/reflectlite.TypeOf"], unfollowed := true, recurses := true, named := ["loop.example/streamlayers/impl.errNone", "loop.example/streamlayers/impl.errFault", "loop.example/streamlayers/impl.errFull"], ifaces := true, apart := false, laid := [("loop.example/streamlayers/impl.errNone", laid_loop_example_streamlayers_impl_errNone), ("loop.example/streamlayers/impl.errFault", laid_loop_example_streamlayers_impl_errFault), ("loop.example/streamlayers/impl.errFull", laid_loop_example_streamlayers_impl_errFull)], narrowed := true }
def FnExactReadBothUptoSaid : Prop := fnExactReadBothUptoRow.holds Tryd.pinned (OpenSpec.upto fnExactReadBothSpec)

/-- 'laws.FnExactWriteBoth', WHERE WHAT IT READS IS OF BULK AT MOST 1048576: true; the input reads as it did. -/
def fnExactWriteBothUptoRow : OpenClaim := { program := "ytdiebkaedjlckaadoor", sum := "9f33efeff0a36b5a361f9a4c6e238debc1783e2bfde3b048712ace0f223d31e9", func := "loop.example/streamlayers/laws.FnExactWriteBoth", spec := "fnExactWriteBoth", inPlace := ["internal/reflectlite.TypeOf"], unfollowed := true, recurses := true, named := ["loop.example/streamlayers/impl.errNone", "loop.example/streamlayers/impl.errFault", "loop.example/streamlayers/impl.errFull"], ifaces := true, apart := false, laid := [("loop.example/streamlayers/impl.errNone", laid_loop_example_streamlayers_impl_errNone), ("loop.example/streamlayers/impl.errFault", laid_loop_example_streamlayers_impl_errFault), ("loop.example/streamlayers/impl.errFull", laid_loop_example_streamlayers_impl_errFull)], narrowed := true }
def FnExactWriteBothUptoSaid : Prop := fnExactWriteBothUptoRow.holds Tryd.pinned (OpenSpec.upto fnExactWriteBothSpec)

/-- 'laws.FnExactSeekBoth', WHERE WHAT IT READS IS OF BULK AT MOST 1048576: true; the input reads as it did. -/
def fnExactSeekBothUptoRow : OpenClaim := { program := "ytdiebkaedjlckaadoor", sum := "9f33efeff0a36b5a361f9a4c6e238debc1783e2bfde3b048712ace0f223d31e9", func := "loop.example/streamlayers/laws.FnExactSeekBoth", spec := "fnExactSeekBoth", inPlace := ["internal/reflectlite.TypeOf"], unfollowed := true, recurses := true, named := ["loop.example/streamlayers/impl.errNone", "loop.example/streamlayers/impl.errFault", "loop.example/streamlayers/impl.errFull", "loop.example/streamlayers/impl.errPlace"], ifaces := true, apart := false, laid := [("loop.example/streamlayers/impl.errNone", laid_loop_example_streamlayers_impl_errNone), ("loop.example/streamlayers/impl.errFault", laid_loop_example_streamlayers_impl_errFault), ("loop.example/streamlayers/impl.errFull", laid_loop_example_streamlayers_impl_errFull), ("loop.example/streamlayers/impl.errPlace", laid_loop_example_streamlayers_impl_errPlace)], narrowed := true }
def FnExactSeekBothUptoSaid : Prop := fnExactSeekBothUptoRow.holds Tryd.pinned (OpenSpec.upto fnExactSeekBothSpec)

/-- 'laws.FnWriteBytes', WHERE WHAT IT READS IS OF BULK AT MOST 1048576: true; the input reads as it did. -/
def fnWriteBytesUptoRow : OpenClaim := { program := "ytdiebkaedjlckaadoor", sum := "9f33efeff0a36b5a361f9a4c6e238debc1783e2bfde3b048712ace0f223d31e9", func := "loop.example/streamlayers/laws.FnWriteBytes", spec := "fnWriteBytes", inPlace := ["internal/reflectlite.TypeOf"], unfollowed := true, recurses := true, named := ["loop.example/streamlayers/impl.errNone", "loop.example/streamlayers/impl.errFault", "loop.example/streamlayers/impl.errFull"], ifaces := true, apart := false, laid := [("loop.example/streamlayers/impl.errNone", laid_loop_example_streamlayers_impl_errNone), ("loop.example/streamlayers/impl.errFault", laid_loop_example_streamlayers_impl_errFault), ("loop.example/streamlayers/impl.errFull", laid_loop_example_streamlayers_impl_errFull)], narrowed := true }
def FnWriteBytesUptoSaid : Prop := fnWriteBytesUptoRow.holds Tryd.pinned (OpenSpec.upto fnWriteBytesSpec)

/-- 'laws.FnWriteBytesTwice', WHERE WHAT IT READS IS OF BULK AT MOST 1048576: true; the input reads as it did. -/
def fnWriteBytesTwiceUptoRow : OpenClaim := { program := "ytdiebkaedjlckaadoor", sum := "9f33efeff0a36b5a361f9a4c6e238debc1783e2bfde3b048712ace0f223d31e9", func := "loop.example/streamlayers/laws.FnWriteBytesTwice", spec := "fnWriteBytesTwice", inPlace := ["internal/reflectlite.TypeOf"], unfollowed := true, recurses := true, named := ["loop.example/streamlayers/impl.errNone", "loop.example/streamlayers/impl.errFault", "loop.example/streamlayers/impl.errFull"], ifaces := true, apart := false, laid := [("loop.example/streamlayers/impl.errNone", laid_loop_example_streamlayers_impl_errNone), ("loop.example/streamlayers/impl.errFault", laid_loop_example_streamlayers_impl_errFault), ("loop.example/streamlayers/impl.errFull", laid_loop_example_streamlayers_impl_errFull)], narrowed := true }
def FnWriteBytesTwiceUptoSaid : Prop := fnWriteBytesTwiceUptoRow.holds Tryd.pinned (OpenSpec.upto fnWriteBytesTwiceSpec)

/-- 'laws.FnWriteLines', WHERE WHAT IT READS IS OF BULK AT MOST 1048576: true; the input reads as it did. -/
def fnWriteLinesUptoRow : OpenClaim := { program := "ytdiebkaedjlckaadoor", sum := "9f33efeff0a36b5a361f9a4c6e238debc1783e2bfde3b048712ace0f223d31e9", func := "loop.example/streamlayers/laws.FnWriteLines", spec := "fnWriteLines", inPlace := ["internal/reflectlite.TypeOf"], unfollowed := true, recurses := true, named := ["loop.example/streamlayers/impl.errNone", "loop.example/streamlayers/impl.errFault", "loop.example/streamlayers/impl.errFull"], ifaces := true, apart := false, laid := [("loop.example/streamlayers/impl.errNone", laid_loop_example_streamlayers_impl_errNone), ("loop.example/streamlayers/impl.errFault", laid_loop_example_streamlayers_impl_errFault), ("loop.example/streamlayers/impl.errFull", laid_loop_example_streamlayers_impl_errFull)], narrowed := true }
def FnWriteLinesUptoSaid : Prop := fnWriteLinesUptoRow.holds Tryd.pinned (OpenSpec.upto fnWriteLinesSpec)

/-- 'laws.FnRoomOf', WHERE WHAT IT READS IS OF BULK AT MOST 1048576: true; the input reads as it did. -/
def fnRoomOfUptoRow : OpenClaim := { program := "ytdiebkaedjlckaadoor", sum := "9f33efeff0a36b5a361f9a4c6e238debc1783e2bfde3b048712ace0f223d31e9", func := "loop.example/streamlayers/laws.FnRoomOf", spec := "fnRoomOf", inPlace := ["internal/reflectlite.TypeOf"], unfollowed := true, recurses := true, named := ["loop.example/streamlayers/impl.errNone", "loop.example/streamlayers/impl.errFault", "loop.example/streamlayers/impl.errFull"], ifaces := true, apart := false, laid := [("loop.example/streamlayers/impl.errNone", laid_loop_example_streamlayers_impl_errNone), ("loop.example/streamlayers/impl.errFault", laid_loop_example_streamlayers_impl_errFault), ("loop.example/streamlayers/impl.errFull", laid_loop_example_streamlayers_impl_errFull)], narrowed := true }
def FnRoomOfUptoSaid : Prop := fnRoomOfUptoRow.holds Tryd.pinned (OpenSpec.upto fnRoomOfSpec)

end Rows
end Go.Proofs.YtdiebkaedjlckaaDoor
