/-
  NARROWER THAN 'FOR EVERY INPUT', by the rows' own cells (each row's printed sentence says how): FnExactFlushWriter: ifaces, laid · FnExactWriteBytes: ifaces, laid · FnExactSeekWriter: ifaces, laid · FnExactCutWriter: ifaces, laid · FnExactWriteLines: ifaces, laid · FnExactFlushBoth: ifaces, laid · FnExactReadBoth: ifaces, laid · FnExactWriteBoth: ifaces, laid · FnExactSeekBoth: ifaces, laid · FnExactCutBoth: ifaces, laid.
  DERIVED. THE GIVEN ROWS OF THIS SEAT. 10 by the template 'for every input the law returns true; each argument reads behind the call as it read before'; 0 by the template 'total and deterministic' (their statements: YtphkkalkajleiaaDoorTotals.lean).
  GIVEN WITH THE SEED: the statements are not yours to turn. If you find one false, say at which input.
  Laid BY PROGRAM, IN A SANDBOX (cutbox-rows.mjs): the forced cells as the released guide's own fill.sh prints them over the translation ac017e2125d58333… (all of the seat's roots in one cut). By AI agents, Wed Nov 11 2026. No macro, syntax, notation, axiom, sorry.
-/
import Derived.Test.YtphkkalkajleiaaDoorChecked
import GoSem.Claim
import GoSem.ClaimJoined
import GoSem.ClaimMapViews
import Derived.JoinedTies
import Derived.KernelRfl
namespace Go.Proofs.YtphkkalkajleiaaDoor
/- THE CELL 'sum', in the pinned program and in every row, IS THE sha256 OF THE DUMP (.gsa) THAT YtphkkalkajleiaaDoorProg.lean LOADS. Nothing in Lean hashes anything: it is a label: what it is worth is what the hold of that sum in a sandbox is worth. -/
noncomputable def Tryd.pinned : Pinned := { name := "ytphkkalkajleiaadoor", sum := "ac017e2125d5833354ca95e4f1b2df7573735439d54e00651113b3ab3ec4e6ce", checked := Tryd.checked }
namespace Rows
def none {H : Type} : Left H := { results := [], args := [] }

/- WHAT THE LISTED PACKAGE-LEVEL VARIABLES READ AS WHEN THE CALL BEGINS. Each datum BY PROGRAM (the guide's laid-datum.mjs) off the statement by which the dump's own 'gosem.cut.vars' lays the variable. In a bare row this is a premise. The card (YtphkkalkajleiaaDoorCards.lean) ties it to the program's text. -/
def laid_loop_example_streamlayers_impl_errNone {H : Type} : DataW H := .iface "*errors.errorString" (.ptr (.agg [.lit (.string [110, 111, 116, 104, 105, 110, 103, 32, 99, 97, 110, 32, 98, 101, 32, 119, 114, 105, 116, 116, 101, 110, 32, 110, 111, 119])]))
def laid_loop_example_streamlayers_impl_errFault {H : Type} : DataW H := .iface "*errors.errorString" (.ptr (.agg [.lit (.string [116, 104, 101, 32, 100, 101, 118, 105, 99, 101, 32, 104, 97, 115, 32, 97, 32, 102, 97, 117, 108, 116])]))
def laid_loop_example_streamlayers_impl_errFull {H : Type} : DataW H := .iface "*errors.errorString" (.ptr (.agg [.lit (.string [116, 104, 101, 32, 100, 101, 118, 105, 99, 101, 32, 104, 97, 115, 32, 110, 111, 32, 114, 111, 111, 109])]))
def laid_loop_example_streamlayers_impl_errPlace {H : Type} : DataW H := .iface "*errors.errorString" (.ptr (.agg [.lit (.string [116, 104, 101, 114, 101, 32, 105, 115, 32, 110, 111, 32, 115, 117, 99, 104, 32, 112, 108, 97, 99, 101])]))

/-- 'laws.FnExactFlushWriter': WHATEVER THE INPUT: true; the input reads as it did. -/
def fnExactFlushWriterSpec : ChangeSpec := { name := "fnExactFlushWriter", vars := ["loop.example/streamlayers/impl.errNone", "loop.example/streamlayers/impl.errFault", "loop.example/streamlayers/impl.errFull"], fn := fun _ => fun
  | [d, g1, g2, g3] => { results := [.lit (.bool true)], args := [d], vars := [g1, g2, g3] }
  | _ => none }
def fnExactFlushWriterRow : OpenClaim := { program := "ytphkkalkajleiaadoor", sum := "ac017e2125d5833354ca95e4f1b2df7573735439d54e00651113b3ab3ec4e6ce", func := "loop.example/streamlayers/laws.FnExactFlushWriter", spec := "fnExactFlushWriter", inPlace := ["internal/reflectlite.TypeOf"], unfollowed := true, recurses := true, named := ["loop.example/streamlayers/impl.errNone", "loop.example/streamlayers/impl.errFault", "loop.example/streamlayers/impl.errFull"], ifaces := true, apart := false, laid := [("loop.example/streamlayers/impl.errNone", laid_loop_example_streamlayers_impl_errNone), ("loop.example/streamlayers/impl.errFault", laid_loop_example_streamlayers_impl_errFault), ("loop.example/streamlayers/impl.errFull", laid_loop_example_streamlayers_impl_errFull)] }
def FnExactFlushWriterSaid : Prop := fnExactFlushWriterRow.holds Tryd.pinned (OpenSpec.ofChange fnExactFlushWriterSpec)

/-- ITS FALSE NEIGHBOUR: 'it returns false'. Refute it at one input. -/
def fnExactFlushWriterWrong : ChangeSpec := { name := "fnExactFlushWriter", vars := ["loop.example/streamlayers/impl.errNone", "loop.example/streamlayers/impl.errFault", "loop.example/streamlayers/impl.errFull"], fn := fun _ => fun
  | [d, g1, g2, g3] => { results := [.lit (.bool false)], args := [d], vars := [g1, g2, g3] }
  | _ => none }
def FnExactFlushWriterWrongFalsely : Prop := fnExactFlushWriterRow.holds Tryd.pinned (OpenSpec.ofChange fnExactFlushWriterWrong)

/-- 'laws.FnExactWriteBytes': WHATEVER THE INPUT: true; the input reads as it did. -/
def fnExactWriteBytesSpec : ChangeSpec := { name := "fnExactWriteBytes", vars := ["loop.example/streamlayers/impl.errNone", "loop.example/streamlayers/impl.errFault", "loop.example/streamlayers/impl.errFull"], fn := fun _ => fun
  | [d1, d2, g1, g2, g3] => { results := [.lit (.bool true)], args := [d1, d2], vars := [g1, g2, g3] }
  | _ => none }
def fnExactWriteBytesRow : OpenClaim := { program := "ytphkkalkajleiaadoor", sum := "ac017e2125d5833354ca95e4f1b2df7573735439d54e00651113b3ab3ec4e6ce", func := "loop.example/streamlayers/laws.FnExactWriteBytes", spec := "fnExactWriteBytes", inPlace := ["internal/reflectlite.TypeOf"], unfollowed := true, recurses := true, named := ["loop.example/streamlayers/impl.errNone", "loop.example/streamlayers/impl.errFault", "loop.example/streamlayers/impl.errFull"], ifaces := true, apart := false, laid := [("loop.example/streamlayers/impl.errNone", laid_loop_example_streamlayers_impl_errNone), ("loop.example/streamlayers/impl.errFault", laid_loop_example_streamlayers_impl_errFault), ("loop.example/streamlayers/impl.errFull", laid_loop_example_streamlayers_impl_errFull)] }
def FnExactWriteBytesSaid : Prop := fnExactWriteBytesRow.holds Tryd.pinned (OpenSpec.ofChange fnExactWriteBytesSpec)

/-- ITS FALSE NEIGHBOUR: 'it returns false'. Refute it at one input. -/
def fnExactWriteBytesWrong : ChangeSpec := { name := "fnExactWriteBytes", vars := ["loop.example/streamlayers/impl.errNone", "loop.example/streamlayers/impl.errFault", "loop.example/streamlayers/impl.errFull"], fn := fun _ => fun
  | [d1, d2, g1, g2, g3] => { results := [.lit (.bool false)], args := [d1, d2], vars := [g1, g2, g3] }
  | _ => none }
def FnExactWriteBytesWrongFalsely : Prop := fnExactWriteBytesRow.holds Tryd.pinned (OpenSpec.ofChange fnExactWriteBytesWrong)

/-- 'laws.FnExactSeekWriter': WHATEVER THE INPUT: true; the input reads as it did. -/
def fnExactSeekWriterSpec : ChangeSpec := { name := "fnExactSeekWriter", vars := ["loop.example/streamlayers/impl.errPlace", "loop.example/streamlayers/impl.errNone", "loop.example/streamlayers/impl.errFault", "loop.example/streamlayers/impl.errFull"], fn := fun _ => fun
  | [d1, d2, d3, g1, g2, g3, g4] => { results := [.lit (.bool true)], args := [d1, d2, d3], vars := [g1, g2, g3, g4] }
  | _ => none }
def fnExactSeekWriterRow : OpenClaim := { program := "ytphkkalkajleiaadoor", sum := "ac017e2125d5833354ca95e4f1b2df7573735439d54e00651113b3ab3ec4e6ce", func := "loop.example/streamlayers/laws.FnExactSeekWriter", spec := "fnExactSeekWriter", inPlace := ["internal/reflectlite.TypeOf"], unfollowed := true, recurses := true, named := ["loop.example/streamlayers/impl.errPlace", "loop.example/streamlayers/impl.errNone", "loop.example/streamlayers/impl.errFault", "loop.example/streamlayers/impl.errFull"], ifaces := true, apart := false, laid := [("loop.example/streamlayers/impl.errNone", laid_loop_example_streamlayers_impl_errNone), ("loop.example/streamlayers/impl.errFault", laid_loop_example_streamlayers_impl_errFault), ("loop.example/streamlayers/impl.errFull", laid_loop_example_streamlayers_impl_errFull), ("loop.example/streamlayers/impl.errPlace", laid_loop_example_streamlayers_impl_errPlace)] }
def FnExactSeekWriterSaid : Prop := fnExactSeekWriterRow.holds Tryd.pinned (OpenSpec.ofChange fnExactSeekWriterSpec)

/-- ITS FALSE NEIGHBOUR: 'it returns false'. Refute it at one input. -/
def fnExactSeekWriterWrong : ChangeSpec := { name := "fnExactSeekWriter", vars := ["loop.example/streamlayers/impl.errPlace", "loop.example/streamlayers/impl.errNone", "loop.example/streamlayers/impl.errFault", "loop.example/streamlayers/impl.errFull"], fn := fun _ => fun
  | [d1, d2, d3, g1, g2, g3, g4] => { results := [.lit (.bool false)], args := [d1, d2, d3], vars := [g1, g2, g3, g4] }
  | _ => none }
def FnExactSeekWriterWrongFalsely : Prop := fnExactSeekWriterRow.holds Tryd.pinned (OpenSpec.ofChange fnExactSeekWriterWrong)

/-- 'laws.FnExactCutWriter': WHATEVER THE INPUT: true; the input reads as it did. -/
def fnExactCutWriterSpec : ChangeSpec := { name := "fnExactCutWriter", vars := ["loop.example/streamlayers/impl.errNone", "loop.example/streamlayers/impl.errFault", "loop.example/streamlayers/impl.errFull"], fn := fun _ => fun
  | [d1, d2, g1, g2, g3] => { results := [.lit (.bool true)], args := [d1, d2], vars := [g1, g2, g3] }
  | _ => none }
def fnExactCutWriterRow : OpenClaim := { program := "ytphkkalkajleiaadoor", sum := "ac017e2125d5833354ca95e4f1b2df7573735439d54e00651113b3ab3ec4e6ce", func := "loop.example/streamlayers/laws.FnExactCutWriter", spec := "fnExactCutWriter", inPlace := ["internal/reflectlite.TypeOf"], unfollowed := true, recurses := true, named := ["loop.example/streamlayers/impl.errNone", "loop.example/streamlayers/impl.errFault", "loop.example/streamlayers/impl.errFull"], ifaces := true, apart := false, laid := [("loop.example/streamlayers/impl.errNone", laid_loop_example_streamlayers_impl_errNone), ("loop.example/streamlayers/impl.errFault", laid_loop_example_streamlayers_impl_errFault), ("loop.example/streamlayers/impl.errFull", laid_loop_example_streamlayers_impl_errFull)] }
def FnExactCutWriterSaid : Prop := fnExactCutWriterRow.holds Tryd.pinned (OpenSpec.ofChange fnExactCutWriterSpec)

/-- ITS FALSE NEIGHBOUR: 'it returns false'. Refute it at one input. -/
def fnExactCutWriterWrong : ChangeSpec := { name := "fnExactCutWriter", vars := ["loop.example/streamlayers/impl.errNone", "loop.example/streamlayers/impl.errFault", "loop.example/streamlayers/impl.errFull"], fn := fun _ => fun
  | [d1, d2, g1, g2, g3] => { results := [.lit (.bool false)], args := [d1, d2], vars := [g1, g2, g3] }
  | _ => none }
def FnExactCutWriterWrongFalsely : Prop := fnExactCutWriterRow.holds Tryd.pinned (OpenSpec.ofChange fnExactCutWriterWrong)

/-- 'laws.FnExactWriteLines': WHATEVER THE INPUT: true; the input reads as it did. -/
def fnExactWriteLinesSpec : ChangeSpec := { name := "fnExactWriteLines", vars := ["loop.example/streamlayers/impl.errNone", "loop.example/streamlayers/impl.errFault", "loop.example/streamlayers/impl.errFull"], fn := fun _ => fun
  | [d1, d2, g1, g2, g3] => { results := [.lit (.bool true)], args := [d1, d2], vars := [g1, g2, g3] }
  | _ => none }
def fnExactWriteLinesRow : OpenClaim := { program := "ytphkkalkajleiaadoor", sum := "ac017e2125d5833354ca95e4f1b2df7573735439d54e00651113b3ab3ec4e6ce", func := "loop.example/streamlayers/laws.FnExactWriteLines", spec := "fnExactWriteLines", inPlace := ["internal/reflectlite.TypeOf"], unfollowed := true, recurses := true, named := ["loop.example/streamlayers/impl.errNone", "loop.example/streamlayers/impl.errFault", "loop.example/streamlayers/impl.errFull"], ifaces := true, apart := false, laid := [("loop.example/streamlayers/impl.errNone", laid_loop_example_streamlayers_impl_errNone), ("loop.example/streamlayers/impl.errFault", laid_loop_example_streamlayers_impl_errFault), ("loop.example/streamlayers/impl.errFull", laid_loop_example_streamlayers_impl_errFull)] }
def FnExactWriteLinesSaid : Prop := fnExactWriteLinesRow.holds Tryd.pinned (OpenSpec.ofChange fnExactWriteLinesSpec)

/-- ITS FALSE NEIGHBOUR: 'it returns false'. Refute it at one input. -/
def fnExactWriteLinesWrong : ChangeSpec := { name := "fnExactWriteLines", vars := ["loop.example/streamlayers/impl.errNone", "loop.example/streamlayers/impl.errFault", "loop.example/streamlayers/impl.errFull"], fn := fun _ => fun
  | [d1, d2, g1, g2, g3] => { results := [.lit (.bool false)], args := [d1, d2], vars := [g1, g2, g3] }
  | _ => none }
def FnExactWriteLinesWrongFalsely : Prop := fnExactWriteLinesRow.holds Tryd.pinned (OpenSpec.ofChange fnExactWriteLinesWrong)

/-- 'laws.FnExactFlushBoth': WHATEVER THE INPUT: true; the input reads as it did. -/
def fnExactFlushBothSpec : ChangeSpec := { name := "fnExactFlushBoth", vars := ["loop.example/streamlayers/impl.errNone", "loop.example/streamlayers/impl.errFault", "loop.example/streamlayers/impl.errFull"], fn := fun _ => fun
  | [d, g1, g2, g3] => { results := [.lit (.bool true)], args := [d], vars := [g1, g2, g3] }
  | _ => none }
def fnExactFlushBothRow : OpenClaim := { program := "ytphkkalkajleiaadoor", sum := "ac017e2125d5833354ca95e4f1b2df7573735439d54e00651113b3ab3ec4e6ce", func := "loop.example/streamlayers/laws.FnExactFlushBoth", spec := "fnExactFlushBoth", inPlace := ["internal/reflectlite.TypeOf"], unfollowed := true, recurses := true, named := ["loop.example/streamlayers/impl.errNone", "loop.example/streamlayers/impl.errFault", "loop.example/streamlayers/impl.errFull"], ifaces := true, apart := false, laid := [("loop.example/streamlayers/impl.errNone", laid_loop_example_streamlayers_impl_errNone), ("loop.example/streamlayers/impl.errFault", laid_loop_example_streamlayers_impl_errFault), ("loop.example/streamlayers/impl.errFull", laid_loop_example_streamlayers_impl_errFull)] }
def FnExactFlushBothSaid : Prop := fnExactFlushBothRow.holds Tryd.pinned (OpenSpec.ofChange fnExactFlushBothSpec)

/-- ITS FALSE NEIGHBOUR: 'it returns false'. Refute it at one input. -/
def fnExactFlushBothWrong : ChangeSpec := { name := "fnExactFlushBoth", vars := ["loop.example/streamlayers/impl.errNone", "loop.example/streamlayers/impl.errFault", "loop.example/streamlayers/impl.errFull"], fn := fun _ => fun
  | [d, g1, g2, g3] => { results := [.lit (.bool false)], args := [d], vars := [g1, g2, g3] }
  | _ => none }
def FnExactFlushBothWrongFalsely : Prop := fnExactFlushBothRow.holds Tryd.pinned (OpenSpec.ofChange fnExactFlushBothWrong)

/-- 'laws.FnExactReadBoth': WHATEVER THE INPUT: true; the input reads as it did. -/
def fnExactReadBothSpec : ChangeSpec := { name := "fnExactReadBoth", vars := ["loop.example/streamlayers/impl.errNone", "loop.example/streamlayers/impl.errFault", "loop.example/streamlayers/impl.errFull"], fn := fun _ => fun
  | [d1, d2, g1, g2, g3] => { results := [.lit (.bool true)], args := [d1, d2], vars := [g1, g2, g3] }
  | _ => none }
def fnExactReadBothRow : OpenClaim := { program := "ytphkkalkajleiaadoor", sum := "ac017e2125d5833354ca95e4f1b2df7573735439d54e00651113b3ab3ec4e6ce", func := "loop.example/streamlayers/laws.FnExactReadBoth", spec := "fnExactReadBoth", inPlace := ["internal/reflectlite.TypeOf"], unfollowed := true, recurses := true, named := ["loop.example/streamlayers/impl.errNone", "loop.example/streamlayers/impl.errFault", "loop.example/streamlayers/impl.errFull"], ifaces := true, apart := false, laid := [("loop.example/streamlayers/impl.errNone", laid_loop_example_streamlayers_impl_errNone), ("loop.example/streamlayers/impl.errFault", laid_loop_example_streamlayers_impl_errFault), ("loop.example/streamlayers/impl.errFull", laid_loop_example_streamlayers_impl_errFull)] }
def FnExactReadBothSaid : Prop := fnExactReadBothRow.holds Tryd.pinned (OpenSpec.ofChange fnExactReadBothSpec)

/-- ITS FALSE NEIGHBOUR: 'it returns false'. Refute it at one input. -/
def fnExactReadBothWrong : ChangeSpec := { name := "fnExactReadBoth", vars := ["loop.example/streamlayers/impl.errNone", "loop.example/streamlayers/impl.errFault", "loop.example/streamlayers/impl.errFull"], fn := fun _ => fun
  | [d1, d2, g1, g2, g3] => { results := [.lit (.bool false)], args := [d1, d2], vars := [g1, g2, g3] }
  | _ => none }
def FnExactReadBothWrongFalsely : Prop := fnExactReadBothRow.holds Tryd.pinned (OpenSpec.ofChange fnExactReadBothWrong)

/-- 'laws.FnExactWriteBoth': WHATEVER THE INPUT: true; the input reads as it did. -/
def fnExactWriteBothSpec : ChangeSpec := { name := "fnExactWriteBoth", vars := ["loop.example/streamlayers/impl.errNone", "loop.example/streamlayers/impl.errFault", "loop.example/streamlayers/impl.errFull"], fn := fun _ => fun
  | [d1, d2, g1, g2, g3] => { results := [.lit (.bool true)], args := [d1, d2], vars := [g1, g2, g3] }
  | _ => none }
def fnExactWriteBothRow : OpenClaim := { program := "ytphkkalkajleiaadoor", sum := "ac017e2125d5833354ca95e4f1b2df7573735439d54e00651113b3ab3ec4e6ce", func := "loop.example/streamlayers/laws.FnExactWriteBoth", spec := "fnExactWriteBoth", inPlace := ["internal/reflectlite.TypeOf"], unfollowed := true, recurses := true, named := ["loop.example/streamlayers/impl.errNone", "loop.example/streamlayers/impl.errFault", "loop.example/streamlayers/impl.errFull"], ifaces := true, apart := false, laid := [("loop.example/streamlayers/impl.errNone", laid_loop_example_streamlayers_impl_errNone), ("loop.example/streamlayers/impl.errFault", laid_loop_example_streamlayers_impl_errFault), ("loop.example/streamlayers/impl.errFull", laid_loop_example_streamlayers_impl_errFull)] }
def FnExactWriteBothSaid : Prop := fnExactWriteBothRow.holds Tryd.pinned (OpenSpec.ofChange fnExactWriteBothSpec)

/-- ITS FALSE NEIGHBOUR: 'it returns false'. Refute it at one input. -/
def fnExactWriteBothWrong : ChangeSpec := { name := "fnExactWriteBoth", vars := ["loop.example/streamlayers/impl.errNone", "loop.example/streamlayers/impl.errFault", "loop.example/streamlayers/impl.errFull"], fn := fun _ => fun
  | [d1, d2, g1, g2, g3] => { results := [.lit (.bool false)], args := [d1, d2], vars := [g1, g2, g3] }
  | _ => none }
def FnExactWriteBothWrongFalsely : Prop := fnExactWriteBothRow.holds Tryd.pinned (OpenSpec.ofChange fnExactWriteBothWrong)

/-- 'laws.FnExactSeekBoth': WHATEVER THE INPUT: true; the input reads as it did. -/
def fnExactSeekBothSpec : ChangeSpec := { name := "fnExactSeekBoth", vars := ["loop.example/streamlayers/impl.errNone", "loop.example/streamlayers/impl.errFault", "loop.example/streamlayers/impl.errFull", "loop.example/streamlayers/impl.errPlace"], fn := fun _ => fun
  | [d1, d2, d3, g1, g2, g3, g4] => { results := [.lit (.bool true)], args := [d1, d2, d3], vars := [g1, g2, g3, g4] }
  | _ => none }
def fnExactSeekBothRow : OpenClaim := { program := "ytphkkalkajleiaadoor", sum := "ac017e2125d5833354ca95e4f1b2df7573735439d54e00651113b3ab3ec4e6ce", func := "loop.example/streamlayers/laws.FnExactSeekBoth", spec := "fnExactSeekBoth", inPlace := ["internal/reflectlite.TypeOf"], unfollowed := true, recurses := true, named := ["loop.example/streamlayers/impl.errNone", "loop.example/streamlayers/impl.errFault", "loop.example/streamlayers/impl.errFull", "loop.example/streamlayers/impl.errPlace"], ifaces := true, apart := false, laid := [("loop.example/streamlayers/impl.errNone", laid_loop_example_streamlayers_impl_errNone), ("loop.example/streamlayers/impl.errFault", laid_loop_example_streamlayers_impl_errFault), ("loop.example/streamlayers/impl.errFull", laid_loop_example_streamlayers_impl_errFull), ("loop.example/streamlayers/impl.errPlace", laid_loop_example_streamlayers_impl_errPlace)] }
def FnExactSeekBothSaid : Prop := fnExactSeekBothRow.holds Tryd.pinned (OpenSpec.ofChange fnExactSeekBothSpec)

/-- ITS FALSE NEIGHBOUR: 'it returns false'. Refute it at one input. -/
def fnExactSeekBothWrong : ChangeSpec := { name := "fnExactSeekBoth", vars := ["loop.example/streamlayers/impl.errNone", "loop.example/streamlayers/impl.errFault", "loop.example/streamlayers/impl.errFull", "loop.example/streamlayers/impl.errPlace"], fn := fun _ => fun
  | [d1, d2, d3, g1, g2, g3, g4] => { results := [.lit (.bool false)], args := [d1, d2, d3], vars := [g1, g2, g3, g4] }
  | _ => none }
def FnExactSeekBothWrongFalsely : Prop := fnExactSeekBothRow.holds Tryd.pinned (OpenSpec.ofChange fnExactSeekBothWrong)

/-- 'laws.FnExactCutBoth': WHATEVER THE INPUT: true; the input reads as it did. -/
def fnExactCutBothSpec : ChangeSpec := { name := "fnExactCutBoth", vars := ["loop.example/streamlayers/impl.errNone", "loop.example/streamlayers/impl.errFault", "loop.example/streamlayers/impl.errFull"], fn := fun _ => fun
  | [d1, d2, g1, g2, g3] => { results := [.lit (.bool true)], args := [d1, d2], vars := [g1, g2, g3] }
  | _ => none }
def fnExactCutBothRow : OpenClaim := { program := "ytphkkalkajleiaadoor", sum := "ac017e2125d5833354ca95e4f1b2df7573735439d54e00651113b3ab3ec4e6ce", func := "loop.example/streamlayers/laws.FnExactCutBoth", spec := "fnExactCutBoth", inPlace := ["internal/reflectlite.TypeOf"], unfollowed := true, recurses := true, named := ["loop.example/streamlayers/impl.errNone", "loop.example/streamlayers/impl.errFault", "loop.example/streamlayers/impl.errFull"], ifaces := true, apart := false, laid := [("loop.example/streamlayers/impl.errNone", laid_loop_example_streamlayers_impl_errNone), ("loop.example/streamlayers/impl.errFault", laid_loop_example_streamlayers_impl_errFault), ("loop.example/streamlayers/impl.errFull", laid_loop_example_streamlayers_impl_errFull)] }
def FnExactCutBothSaid : Prop := fnExactCutBothRow.holds Tryd.pinned (OpenSpec.ofChange fnExactCutBothSpec)

/-- ITS FALSE NEIGHBOUR: 'it returns false'. Refute it at one input. -/
def fnExactCutBothWrong : ChangeSpec := { name := "fnExactCutBoth", vars := ["loop.example/streamlayers/impl.errNone", "loop.example/streamlayers/impl.errFault", "loop.example/streamlayers/impl.errFull"], fn := fun _ => fun
  | [d1, d2, g1, g2, g3] => { results := [.lit (.bool false)], args := [d1, d2], vars := [g1, g2, g3] }
  | _ => none }
def FnExactCutBothWrongFalsely : Prop := fnExactCutBothRow.holds Tryd.pinned (OpenSpec.ofChange fnExactCutBothWrong)

/- THE SECOND FORM. 'bulk': how many values and letters a reading holds, each counted each time it is reached (what is shared counts as often as it is met; a slice's spare places count too). A statement '..UptoSaid' is the law's where the arguments, and the package variables that the reading takes, are together of bulk at most 1048576: NARROWER than '..Said'. Prove '..Said' where nothing that the law and all that it calls make is longer than what came in: it says more and counts as full. Else prove '..UptoSaid'. A law counts once. -/
mutual
def uptoBulk {H : Type} : DataW H → Nat
  | .lit (.string bytes) => bytes.length + 1
  | .lit _ => 1
  | .nil => 1
  | .ptr d => uptoBulk d + 1
  | .slice elems spare => uptoBulkAll elems + uptoBulkAll spare + 1
  | .agg parts => uptoBulkAll parts + 1
  | .iface _ d => uptoBulk d + 1
  | .map entries => uptoBulkEntries entries + 1
  | .held _ => 1
def uptoBulkAll {H : Type} : List (DataW H) → Nat
  | [] => 0
  | d :: r => uptoBulk d + uptoBulkAll r
def uptoBulkEntries {H : Type} : List (Lit × DataW H) → Nat
  | [] => 0
  | x :: r => uptoBulkEntry x + uptoBulkEntries r
def uptoBulkEntry {H : Type} : Lit × DataW H → Nat
  | (.string bytes, d) => bytes.length + uptoBulk d + 1
  | (_, d) => uptoBulk d + 1
 end
def uptoSmall : (H : Type) → List (DataW H) → Bool := fun _ ds => decide (uptoBulkAll ds ≤ 1048576)
def OpenSpec.upto (s : _root_.Go.ChangeSpec) : _root_.Go.OpenSpec := { _root_.Go.OpenSpec.ofChange s with cond := some uptoSmall }

/-- 'laws.FnExactFlushWriter', WHERE WHAT IT READS IS OF BULK AT MOST 1048576: true; the input reads as it did. -/
def fnExactFlushWriterUptoRow : OpenClaim := { program := "ytphkkalkajleiaadoor", sum := "ac017e2125d5833354ca95e4f1b2df7573735439d54e00651113b3ab3ec4e6ce", func := "loop.example/streamlayers/laws.FnExactFlushWriter", spec := "fnExactFlushWriter", inPlace := ["internal/reflectlite.TypeOf"], unfollowed := true, recurses := true, named := ["loop.example/streamlayers/impl.errNone", "loop.example/streamlayers/impl.errFault", "loop.example/streamlayers/impl.errFull"], ifaces := true, apart := false, laid := [("loop.example/streamlayers/impl.errNone", laid_loop_example_streamlayers_impl_errNone), ("loop.example/streamlayers/impl.errFault", laid_loop_example_streamlayers_impl_errFault), ("loop.example/streamlayers/impl.errFull", laid_loop_example_streamlayers_impl_errFull)], narrowed := true }
def FnExactFlushWriterUptoSaid : Prop := fnExactFlushWriterUptoRow.holds Tryd.pinned (OpenSpec.upto fnExactFlushWriterSpec)

/-- 'laws.FnExactWriteBytes', WHERE WHAT IT READS IS OF BULK AT MOST 1048576: true; the input reads as it did. -/
def fnExactWriteBytesUptoRow : OpenClaim := { program := "ytphkkalkajleiaadoor", sum := "ac017e2125d5833354ca95e4f1b2df7573735439d54e00651113b3ab3ec4e6ce", func := "loop.example/streamlayers/laws.FnExactWriteBytes", spec := "fnExactWriteBytes", inPlace := ["internal/reflectlite.TypeOf"], unfollowed := true, recurses := true, named := ["loop.example/streamlayers/impl.errNone", "loop.example/streamlayers/impl.errFault", "loop.example/streamlayers/impl.errFull"], ifaces := true, apart := false, laid := [("loop.example/streamlayers/impl.errNone", laid_loop_example_streamlayers_impl_errNone), ("loop.example/streamlayers/impl.errFault", laid_loop_example_streamlayers_impl_errFault), ("loop.example/streamlayers/impl.errFull", laid_loop_example_streamlayers_impl_errFull)], narrowed := true }
def FnExactWriteBytesUptoSaid : Prop := fnExactWriteBytesUptoRow.holds Tryd.pinned (OpenSpec.upto fnExactWriteBytesSpec)

/-- 'laws.FnExactSeekWriter', WHERE WHAT IT READS IS OF BULK AT MOST 1048576: true; the input reads as it did. -/
def fnExactSeekWriterUptoRow : OpenClaim := { program := "ytphkkalkajleiaadoor", sum := "ac017e2125d5833354ca95e4f1b2df7573735439d54e00651113b3ab3ec4e6ce", func := "loop.example/streamlayers/laws.FnExactSeekWriter", spec := "fnExactSeekWriter", inPlace := ["internal/reflectlite.TypeOf"], unfollowed := true, recurses := true, named := ["loop.example/streamlayers/impl.errPlace", "loop.example/streamlayers/impl.errNone", "loop.example/streamlayers/impl.errFault", "loop.example/streamlayers/impl.errFull"], ifaces := true, apart := false, laid := [("loop.example/streamlayers/impl.errNone", laid_loop_example_streamlayers_impl_errNone), ("loop.example/streamlayers/impl.errFault", laid_loop_example_streamlayers_impl_errFault), ("loop.example/streamlayers/impl.errFull", laid_loop_example_streamlayers_impl_errFull), ("loop.example/streamlayers/impl.errPlace", laid_loop_example_streamlayers_impl_errPlace)], narrowed := true }
def FnExactSeekWriterUptoSaid : Prop := fnExactSeekWriterUptoRow.holds Tryd.pinned (OpenSpec.upto fnExactSeekWriterSpec)

/-- 'laws.FnExactCutWriter', WHERE WHAT IT READS IS OF BULK AT MOST 1048576: true; the input reads as it did. -/
def fnExactCutWriterUptoRow : OpenClaim := { program := "ytphkkalkajleiaadoor", sum := "ac017e2125d5833354ca95e4f1b2df7573735439d54e00651113b3ab3ec4e6ce", func := "loop.example/streamlayers/laws.FnExactCutWriter", spec := "fnExactCutWriter", inPlace := ["internal/reflectlite.TypeOf"], unfollowed := true, recurses := true, named := ["loop.example/streamlayers/impl.errNone", "loop.example/streamlayers/impl.errFault", "loop.example/streamlayers/impl.errFull"], ifaces := true, apart := false, laid := [("loop.example/streamlayers/impl.errNone", laid_loop_example_streamlayers_impl_errNone), ("loop.example/streamlayers/impl.errFault", laid_loop_example_streamlayers_impl_errFault), ("loop.example/streamlayers/impl.errFull", laid_loop_example_streamlayers_impl_errFull)], narrowed := true }
def FnExactCutWriterUptoSaid : Prop := fnExactCutWriterUptoRow.holds Tryd.pinned (OpenSpec.upto fnExactCutWriterSpec)

/-- 'laws.FnExactWriteLines', WHERE WHAT IT READS IS OF BULK AT MOST 1048576: true; the input reads as it did. -/
def fnExactWriteLinesUptoRow : OpenClaim := { program := "ytphkkalkajleiaadoor", sum := "ac017e2125d5833354ca95e4f1b2df7573735439d54e00651113b3ab3ec4e6ce", func := "loop.example/streamlayers/laws.FnExactWriteLines", spec := "fnExactWriteLines", inPlace := ["internal/reflectlite.TypeOf"], unfollowed := true, recurses := true, named := ["loop.example/streamlayers/impl.errNone", "loop.example/streamlayers/impl.errFault", "loop.example/streamlayers/impl.errFull"], ifaces := true, apart := false, laid := [("loop.example/streamlayers/impl.errNone", laid_loop_example_streamlayers_impl_errNone), ("loop.example/streamlayers/impl.errFault", laid_loop_example_streamlayers_impl_errFault), ("loop.example/streamlayers/impl.errFull", laid_loop_example_streamlayers_impl_errFull)], narrowed := true }
def FnExactWriteLinesUptoSaid : Prop := fnExactWriteLinesUptoRow.holds Tryd.pinned (OpenSpec.upto fnExactWriteLinesSpec)

/-- 'laws.FnExactFlushBoth', WHERE WHAT IT READS IS OF BULK AT MOST 1048576: true; the input reads as it did. -/
def fnExactFlushBothUptoRow : OpenClaim := { program := "ytphkkalkajleiaadoor", sum := "ac017e2125d5833354ca95e4f1b2df7573735439d54e00651113b3ab3ec4e6ce", func := "loop.example/streamlayers/laws.FnExactFlushBoth", spec := "fnExactFlushBoth", inPlace := ["internal/reflectlite.TypeOf"], unfollowed := true, recurses := true, named := ["loop.example/streamlayers/impl.errNone", "loop.example/streamlayers/impl.errFault", "loop.example/streamlayers/impl.errFull"], ifaces := true, apart := false, laid := [("loop.example/streamlayers/impl.errNone", laid_loop_example_streamlayers_impl_errNone), ("loop.example/streamlayers/impl.errFault", laid_loop_example_streamlayers_impl_errFault), ("loop.example/streamlayers/impl.errFull", laid_loop_example_streamlayers_impl_errFull)], narrowed := true }
def FnExactFlushBothUptoSaid : Prop := fnExactFlushBothUptoRow.holds Tryd.pinned (OpenSpec.upto fnExactFlushBothSpec)

/-- 'laws.FnExactReadBoth', WHERE WHAT IT READS IS OF BULK AT MOST 1048576: true; the input reads as it did. -/
def fnExactReadBothUptoRow : OpenClaim := { program := "ytphkkalkajleiaadoor", sum := "ac017e2125d5833354ca95e4f1b2df7573735439d54e00651113b3ab3ec4e6ce", func := "loop.example/streamlayers/laws.FnExactReadBoth", spec := "fnExactReadBoth", inPlace := ["internal/reflectlite.TypeOf"], unfollowed := true, recurses := true, named := ["loop.example/streamlayers/impl.errNone", "loop.example/streamlayers/impl.errFault", "loop.example/streamlayers/impl.errFull"], ifaces := true, apart := false, laid := [("loop.example/streamlayers/impl.errNone", laid_loop_example_streamlayers_impl_errNone), ("loop.example/streamlayers/impl.errFault", laid_loop_example_streamlayers_impl_errFault), ("loop.example/streamlayers/impl.errFull", laid_loop_example_streamlayers_impl_errFull)], narrowed := true }
def FnExactReadBothUptoSaid : Prop := fnExactReadBothUptoRow.holds Tryd.pinned (OpenSpec.upto fnExactReadBothSpec)

/-- 'laws.FnExactWriteBoth', WHERE WHAT IT READS IS OF BULK AT MOST 1048576: true; the input reads as it did. -/
def fnExactWriteBothUptoRow : OpenClaim := { program := "ytphkkalkajleiaadoor", sum := "ac017e2125d5833354ca95e4f1b2df7573735439d54e00651113b3ab3ec4e6ce", func := "loop.example/streamlayers/laws.FnExactWriteBoth", spec := "fnExactWriteBoth", inPlace := ["internal/reflectlite.TypeOf"], unfollowed := true, recurses := true, named := ["loop.example/streamlayers/impl.errNone", "loop.example/streamlayers/impl.errFault", "loop.example/streamlayers/impl.errFull"], ifaces := true, apart := false, laid := [("loop.example/streamlayers/impl.errNone", laid_loop_example_streamlayers_impl_errNone), ("loop.example/streamlayers/impl.errFault", laid_loop_example_streamlayers_impl_errFault), ("loop.example/streamlayers/impl.errFull", laid_loop_example_streamlayers_impl_errFull)], narrowed := true }
def FnExactWriteBothUptoSaid : Prop := fnExactWriteBothUptoRow.holds Tryd.pinned (OpenSpec.upto fnExactWriteBothSpec)

/-- 'laws.FnExactSeekBoth', WHERE WHAT IT READS IS OF BULK AT MOST 1048576: true; the input reads as it did. -/
def fnExactSeekBothUptoRow : OpenClaim := { program := "ytphkkalkajleiaadoor", sum := "ac017e2125d5833354ca95e4f1b2df7573735439d54e00651113b3ab3ec4e6ce", func := "loop.example/streamlayers/laws.FnExactSeekBoth", spec := "fnExactSeekBoth", inPlace := ["internal/reflectlite.TypeOf"], unfollowed := true, recurses := true, named := ["loop.example/streamlayers/impl.errNone", "loop.example/streamlayers/impl.errFault", "loop.example/streamlayers/impl.errFull", "loop.example/streamlayers/impl.errPlace"], ifaces := true, apart := false, laid := [("loop.example/streamlayers/impl.errNone", laid_loop_example_streamlayers_impl_errNone), ("loop.example/streamlayers/impl.errFault", laid_loop_example_streamlayers_impl_errFault), ("loop.example/streamlayers/impl.errFull", laid_loop_example_streamlayers_impl_errFull), ("loop.example/streamlayers/impl.errPlace", laid_loop_example_streamlayers_impl_errPlace)], narrowed := true }
def FnExactSeekBothUptoSaid : Prop := fnExactSeekBothUptoRow.holds Tryd.pinned (OpenSpec.upto fnExactSeekBothSpec)

/-- 'laws.FnExactCutBoth', WHERE WHAT IT READS IS OF BULK AT MOST 1048576: true; the input reads as it did. -/
def fnExactCutBothUptoRow : OpenClaim := { program := "ytphkkalkajleiaadoor", sum := "ac017e2125d5833354ca95e4f1b2df7573735439d54e00651113b3ab3ec4e6ce", func := "loop.example/streamlayers/laws.FnExactCutBoth", spec := "fnExactCutBoth", inPlace := ["internal/reflectlite.TypeOf"], unfollowed := true, recurses := true, named := ["loop.example/streamlayers/impl.errNone", "loop.example/streamlayers/impl.errFault", "loop.example/streamlayers/impl.errFull"], ifaces := true, apart := false, laid := [("loop.example/streamlayers/impl.errNone", laid_loop_example_streamlayers_impl_errNone), ("loop.example/streamlayers/impl.errFault", laid_loop_example_streamlayers_impl_errFault), ("loop.example/streamlayers/impl.errFull", laid_loop_example_streamlayers_impl_errFull)], narrowed := true }
def FnExactCutBothUptoSaid : Prop := fnExactCutBothUptoRow.holds Tryd.pinned (OpenSpec.upto fnExactCutBothSpec)

end Rows
end Go.Proofs.YtphkkalkajleiaaDoor
