/-
  NARROWER THAN 'FOR EVERY INPUT', by the rows' own cells (each row's printed sentence says how): FnValidPoints: laid · FnEncodePoints: laid · FnDecodeSome: laid · FnDecodeSomeLead: laid · FnDecodeBytes: laid · FnDecodeBytesModes: laid · FnBadAt: laid · FnCountPoints: laid · FnSyncAt: laid · FnPlacesOf: laid · FnCleanPoints: laid.
  DERIVED. THE GIVEN ROWS OF THIS SEAT. 11 by the template 'for every input the law returns true; each argument reads behind the call as it read before'; 0 by the template 'total and deterministic' (their statements: YtkgjcoakeliocaaDoorTotals.lean).
  GIVEN WITH THE SEED: the statements are not yours to turn. If you find one false, say at which input.
  Laid BY PROGRAM, IN A SANDBOX (cutbox-rows.mjs): the forced cells as the released guide's own fill.sh prints them over the translation 60a33e34d1ff7ba9… (all of the seat's roots in one cut). By AI agents, Wed Nov 11 2026. No macro, syntax, notation, axiom, sorry.
-/
import Derived.Test.YtkgjcoakeliocaaDoorChecked
import GoSem.Claim
import GoSem.ClaimJoined
import GoSem.ClaimMapViews
import Derived.JoinedTies
import Derived.KernelRfl
namespace Go.Proofs.YtkgjcoakeliocaaDoor
/- THE CELL 'sum', in the pinned program and in every row, IS THE sha256 OF THE DUMP (.gsa) THAT YtkgjcoakeliocaaDoorProg.lean LOADS. Nothing in Lean hashes anything: it is a label: what it is worth is what the hold of that sum in a sandbox is worth. -/
noncomputable def Tryd.pinned : Pinned := { name := "ytkgjcoakeliocaadoor", sum := "60a33e34d1ff7ba91c338535740c19cd70f7bcbf104ca4d4a4262c4139c04886", checked := Tryd.checked }
namespace Rows
def none {H : Type} : Left H := { results := [], args := [] }

/- WHAT THE LISTED PACKAGE-LEVEL VARIABLES READ AS WHEN THE CALL BEGINS. Each datum BY PROGRAM (the guide's laid-datum.mjs) off the statement by which the dump's own 'gosem.cut.vars' lays the variable. In a bare row this is a premise. The card (YtkgjcoakeliocaaDoorCards.lean) ties it to the program's text. -/
def laid_loop_example_streamlayers_impl_borders {H : Type} : DataW H := .agg [.agg [.lit (.int .i64 0), .lit (.int .i64 1)], .agg [.lit (.int .i64 128), .lit (.int .i64 3)], .agg [.lit (.int .i64 192), .lit (.int .i64 0)], .agg [.lit (.int .i64 194), .lit (.int .i64 2)], .agg [.lit (.int .i64 224), .lit (.int .i64 0)]]

/-- 'laws.FnValidPoints': WHATEVER THE INPUT: true; the input reads as it did. -/
def fnValidPointsSpec : ChangeSpec := { name := "fnValidPoints", vars := ["loop.example/streamlayers/impl.borders"], fn := fun _ => fun
  | [d, g1] => { results := [.lit (.bool true)], args := [d], vars := [g1] }
  | _ => none }
def fnValidPointsRow : OpenClaim := { program := "ytkgjcoakeliocaadoor", sum := "60a33e34d1ff7ba91c338535740c19cd70f7bcbf104ca4d4a4262c4139c04886", func := "loop.example/streamlayers/laws.FnValidPoints", spec := "fnValidPoints", named := ["loop.example/streamlayers/impl.borders"], apart := false, laid := [("loop.example/streamlayers/impl.borders", laid_loop_example_streamlayers_impl_borders)] }
def FnValidPointsSaid : Prop := fnValidPointsRow.holds Tryd.pinned (OpenSpec.ofChange fnValidPointsSpec)

/-- ITS FALSE NEIGHBOUR: 'it returns false'. Refute it at one input. -/
def fnValidPointsWrong : ChangeSpec := { name := "fnValidPoints", vars := ["loop.example/streamlayers/impl.borders"], fn := fun _ => fun
  | [d, g1] => { results := [.lit (.bool false)], args := [d], vars := [g1] }
  | _ => none }
def FnValidPointsWrongFalsely : Prop := fnValidPointsRow.holds Tryd.pinned (OpenSpec.ofChange fnValidPointsWrong)

/-- 'laws.FnEncodePoints': WHATEVER THE INPUT: true; the input reads as it did. -/
def fnEncodePointsSpec : ChangeSpec := { name := "fnEncodePoints", vars := ["loop.example/streamlayers/impl.borders"], fn := fun _ => fun
  | [d, g1] => { results := [.lit (.bool true)], args := [d], vars := [g1] }
  | _ => none }
def fnEncodePointsRow : OpenClaim := { program := "ytkgjcoakeliocaadoor", sum := "60a33e34d1ff7ba91c338535740c19cd70f7bcbf104ca4d4a4262c4139c04886", func := "loop.example/streamlayers/laws.FnEncodePoints", spec := "fnEncodePoints", unfollowed := true, recurses := true, named := ["loop.example/streamlayers/impl.borders"], apart := false, laid := [("loop.example/streamlayers/impl.borders", laid_loop_example_streamlayers_impl_borders)] }
def FnEncodePointsSaid : Prop := fnEncodePointsRow.holds Tryd.pinned (OpenSpec.ofChange fnEncodePointsSpec)

/-- ITS FALSE NEIGHBOUR: 'it returns false'. Refute it at one input. -/
def fnEncodePointsWrong : ChangeSpec := { name := "fnEncodePoints", vars := ["loop.example/streamlayers/impl.borders"], fn := fun _ => fun
  | [d, g1] => { results := [.lit (.bool false)], args := [d], vars := [g1] }
  | _ => none }
def FnEncodePointsWrongFalsely : Prop := fnEncodePointsRow.holds Tryd.pinned (OpenSpec.ofChange fnEncodePointsWrong)

/-- 'laws.FnDecodeSome': WHATEVER THE INPUT: true; the input reads as it did. -/
def fnDecodeSomeSpec : ChangeSpec := { name := "fnDecodeSome", vars := ["loop.example/streamlayers/impl.borders"], fn := fun _ => fun
  | [d, g1] => { results := [.lit (.bool true)], args := [d], vars := [g1] }
  | _ => none }
def fnDecodeSomeRow : OpenClaim := { program := "ytkgjcoakeliocaadoor", sum := "60a33e34d1ff7ba91c338535740c19cd70f7bcbf104ca4d4a4262c4139c04886", func := "loop.example/streamlayers/laws.FnDecodeSome", spec := "fnDecodeSome", unfollowed := true, recurses := true, named := ["loop.example/streamlayers/impl.borders"], apart := false, laid := [("loop.example/streamlayers/impl.borders", laid_loop_example_streamlayers_impl_borders)] }
def FnDecodeSomeSaid : Prop := fnDecodeSomeRow.holds Tryd.pinned (OpenSpec.ofChange fnDecodeSomeSpec)

/-- ITS FALSE NEIGHBOUR: 'it returns false'. Refute it at one input. -/
def fnDecodeSomeWrong : ChangeSpec := { name := "fnDecodeSome", vars := ["loop.example/streamlayers/impl.borders"], fn := fun _ => fun
  | [d, g1] => { results := [.lit (.bool false)], args := [d], vars := [g1] }
  | _ => none }
def FnDecodeSomeWrongFalsely : Prop := fnDecodeSomeRow.holds Tryd.pinned (OpenSpec.ofChange fnDecodeSomeWrong)

/-- 'laws.FnDecodeSomeLead': WHATEVER THE INPUT: true; the input reads as it did. -/
def fnDecodeSomeLeadSpec : ChangeSpec := { name := "fnDecodeSomeLead", vars := ["loop.example/streamlayers/impl.borders"], fn := fun _ => fun
  | [d, g1] => { results := [.lit (.bool true)], args := [d], vars := [g1] }
  | _ => none }
def fnDecodeSomeLeadRow : OpenClaim := { program := "ytkgjcoakeliocaadoor", sum := "60a33e34d1ff7ba91c338535740c19cd70f7bcbf104ca4d4a4262c4139c04886", func := "loop.example/streamlayers/laws.FnDecodeSomeLead", spec := "fnDecodeSomeLead", unfollowed := true, recurses := true, named := ["loop.example/streamlayers/impl.borders"], apart := false, laid := [("loop.example/streamlayers/impl.borders", laid_loop_example_streamlayers_impl_borders)] }
def FnDecodeSomeLeadSaid : Prop := fnDecodeSomeLeadRow.holds Tryd.pinned (OpenSpec.ofChange fnDecodeSomeLeadSpec)

/-- ITS FALSE NEIGHBOUR: 'it returns false'. Refute it at one input. -/
def fnDecodeSomeLeadWrong : ChangeSpec := { name := "fnDecodeSomeLead", vars := ["loop.example/streamlayers/impl.borders"], fn := fun _ => fun
  | [d, g1] => { results := [.lit (.bool false)], args := [d], vars := [g1] }
  | _ => none }
def FnDecodeSomeLeadWrongFalsely : Prop := fnDecodeSomeLeadRow.holds Tryd.pinned (OpenSpec.ofChange fnDecodeSomeLeadWrong)

/-- 'laws.FnDecodeBytes': WHATEVER THE INPUT: true; the input reads as it did. -/
def fnDecodeBytesSpec : ChangeSpec := { name := "fnDecodeBytes", vars := ["loop.example/streamlayers/impl.borders"], fn := fun _ => fun
  | [d, g1] => { results := [.lit (.bool true)], args := [d], vars := [g1] }
  | _ => none }
def fnDecodeBytesRow : OpenClaim := { program := "ytkgjcoakeliocaadoor", sum := "60a33e34d1ff7ba91c338535740c19cd70f7bcbf104ca4d4a4262c4139c04886", func := "loop.example/streamlayers/laws.FnDecodeBytes", spec := "fnDecodeBytes", unfollowed := true, recurses := true, named := ["loop.example/streamlayers/impl.borders"], apart := false, laid := [("loop.example/streamlayers/impl.borders", laid_loop_example_streamlayers_impl_borders)] }
def FnDecodeBytesSaid : Prop := fnDecodeBytesRow.holds Tryd.pinned (OpenSpec.ofChange fnDecodeBytesSpec)

/-- ITS FALSE NEIGHBOUR: 'it returns false'. Refute it at one input. -/
def fnDecodeBytesWrong : ChangeSpec := { name := "fnDecodeBytes", vars := ["loop.example/streamlayers/impl.borders"], fn := fun _ => fun
  | [d, g1] => { results := [.lit (.bool false)], args := [d], vars := [g1] }
  | _ => none }
def FnDecodeBytesWrongFalsely : Prop := fnDecodeBytesRow.holds Tryd.pinned (OpenSpec.ofChange fnDecodeBytesWrong)

/-- 'laws.FnDecodeBytesModes': WHATEVER THE INPUT: true; the input reads as it did. -/
def fnDecodeBytesModesSpec : ChangeSpec := { name := "fnDecodeBytesModes", vars := ["loop.example/streamlayers/impl.borders"], fn := fun _ => fun
  | [d, g1] => { results := [.lit (.bool true)], args := [d], vars := [g1] }
  | _ => none }
def fnDecodeBytesModesRow : OpenClaim := { program := "ytkgjcoakeliocaadoor", sum := "60a33e34d1ff7ba91c338535740c19cd70f7bcbf104ca4d4a4262c4139c04886", func := "loop.example/streamlayers/laws.FnDecodeBytesModes", spec := "fnDecodeBytesModes", unfollowed := true, recurses := true, named := ["loop.example/streamlayers/impl.borders"], apart := false, laid := [("loop.example/streamlayers/impl.borders", laid_loop_example_streamlayers_impl_borders)] }
def FnDecodeBytesModesSaid : Prop := fnDecodeBytesModesRow.holds Tryd.pinned (OpenSpec.ofChange fnDecodeBytesModesSpec)

/-- ITS FALSE NEIGHBOUR: 'it returns false'. Refute it at one input. -/
def fnDecodeBytesModesWrong : ChangeSpec := { name := "fnDecodeBytesModes", vars := ["loop.example/streamlayers/impl.borders"], fn := fun _ => fun
  | [d, g1] => { results := [.lit (.bool false)], args := [d], vars := [g1] }
  | _ => none }
def FnDecodeBytesModesWrongFalsely : Prop := fnDecodeBytesModesRow.holds Tryd.pinned (OpenSpec.ofChange fnDecodeBytesModesWrong)

/-- 'laws.FnBadAt': WHATEVER THE INPUT: true; the input reads as it did. -/
def fnBadAtSpec : ChangeSpec := { name := "fnBadAt", vars := ["loop.example/streamlayers/impl.borders"], fn := fun _ => fun
  | [d, g1] => { results := [.lit (.bool true)], args := [d], vars := [g1] }
  | _ => none }
def fnBadAtRow : OpenClaim := { program := "ytkgjcoakeliocaadoor", sum := "60a33e34d1ff7ba91c338535740c19cd70f7bcbf104ca4d4a4262c4139c04886", func := "loop.example/streamlayers/laws.FnBadAt", spec := "fnBadAt", unfollowed := true, recurses := true, named := ["loop.example/streamlayers/impl.borders"], apart := false, laid := [("loop.example/streamlayers/impl.borders", laid_loop_example_streamlayers_impl_borders)] }
def FnBadAtSaid : Prop := fnBadAtRow.holds Tryd.pinned (OpenSpec.ofChange fnBadAtSpec)

/-- ITS FALSE NEIGHBOUR: 'it returns false'. Refute it at one input. -/
def fnBadAtWrong : ChangeSpec := { name := "fnBadAt", vars := ["loop.example/streamlayers/impl.borders"], fn := fun _ => fun
  | [d, g1] => { results := [.lit (.bool false)], args := [d], vars := [g1] }
  | _ => none }
def FnBadAtWrongFalsely : Prop := fnBadAtRow.holds Tryd.pinned (OpenSpec.ofChange fnBadAtWrong)

/-- 'laws.FnCountPoints': WHATEVER THE INPUT: true; the input reads as it did. -/
def fnCountPointsSpec : ChangeSpec := { name := "fnCountPoints", vars := ["loop.example/streamlayers/impl.borders"], fn := fun _ => fun
  | [d, g1] => { results := [.lit (.bool true)], args := [d], vars := [g1] }
  | _ => none }
def fnCountPointsRow : OpenClaim := { program := "ytkgjcoakeliocaadoor", sum := "60a33e34d1ff7ba91c338535740c19cd70f7bcbf104ca4d4a4262c4139c04886", func := "loop.example/streamlayers/laws.FnCountPoints", spec := "fnCountPoints", unfollowed := true, recurses := true, named := ["loop.example/streamlayers/impl.borders"], apart := false, laid := [("loop.example/streamlayers/impl.borders", laid_loop_example_streamlayers_impl_borders)] }
def FnCountPointsSaid : Prop := fnCountPointsRow.holds Tryd.pinned (OpenSpec.ofChange fnCountPointsSpec)

/-- ITS FALSE NEIGHBOUR: 'it returns false'. Refute it at one input. -/
def fnCountPointsWrong : ChangeSpec := { name := "fnCountPoints", vars := ["loop.example/streamlayers/impl.borders"], fn := fun _ => fun
  | [d, g1] => { results := [.lit (.bool false)], args := [d], vars := [g1] }
  | _ => none }
def FnCountPointsWrongFalsely : Prop := fnCountPointsRow.holds Tryd.pinned (OpenSpec.ofChange fnCountPointsWrong)

/-- 'laws.FnSyncAt': WHATEVER THE INPUT: true; the input reads as it did. -/
def fnSyncAtSpec : ChangeSpec := { name := "fnSyncAt", vars := ["loop.example/streamlayers/impl.borders"], fn := fun _ => fun
  | [d, g1] => { results := [.lit (.bool true)], args := [d], vars := [g1] }
  | _ => none }
def fnSyncAtRow : OpenClaim := { program := "ytkgjcoakeliocaadoor", sum := "60a33e34d1ff7ba91c338535740c19cd70f7bcbf104ca4d4a4262c4139c04886", func := "loop.example/streamlayers/laws.FnSyncAt", spec := "fnSyncAt", unfollowed := true, recurses := true, named := ["loop.example/streamlayers/impl.borders"], apart := false, laid := [("loop.example/streamlayers/impl.borders", laid_loop_example_streamlayers_impl_borders)] }
def FnSyncAtSaid : Prop := fnSyncAtRow.holds Tryd.pinned (OpenSpec.ofChange fnSyncAtSpec)

/-- ITS FALSE NEIGHBOUR: 'it returns false'. Refute it at one input. -/
def fnSyncAtWrong : ChangeSpec := { name := "fnSyncAt", vars := ["loop.example/streamlayers/impl.borders"], fn := fun _ => fun
  | [d, g1] => { results := [.lit (.bool false)], args := [d], vars := [g1] }
  | _ => none }
def FnSyncAtWrongFalsely : Prop := fnSyncAtRow.holds Tryd.pinned (OpenSpec.ofChange fnSyncAtWrong)

/-- 'laws.FnPlacesOf': WHATEVER THE INPUT: true; the input reads as it did. -/
def fnPlacesOfSpec : ChangeSpec := { name := "fnPlacesOf", vars := ["loop.example/streamlayers/impl.borders"], fn := fun _ => fun
  | [d, g1] => { results := [.lit (.bool true)], args := [d], vars := [g1] }
  | _ => none }
def fnPlacesOfRow : OpenClaim := { program := "ytkgjcoakeliocaadoor", sum := "60a33e34d1ff7ba91c338535740c19cd70f7bcbf104ca4d4a4262c4139c04886", func := "loop.example/streamlayers/laws.FnPlacesOf", spec := "fnPlacesOf", unfollowed := true, recurses := true, named := ["loop.example/streamlayers/impl.borders"], apart := false, laid := [("loop.example/streamlayers/impl.borders", laid_loop_example_streamlayers_impl_borders)] }
def FnPlacesOfSaid : Prop := fnPlacesOfRow.holds Tryd.pinned (OpenSpec.ofChange fnPlacesOfSpec)

/-- ITS FALSE NEIGHBOUR: 'it returns false'. Refute it at one input. -/
def fnPlacesOfWrong : ChangeSpec := { name := "fnPlacesOf", vars := ["loop.example/streamlayers/impl.borders"], fn := fun _ => fun
  | [d, g1] => { results := [.lit (.bool false)], args := [d], vars := [g1] }
  | _ => none }
def FnPlacesOfWrongFalsely : Prop := fnPlacesOfRow.holds Tryd.pinned (OpenSpec.ofChange fnPlacesOfWrong)

/-- 'laws.FnCleanPoints': WHATEVER THE INPUT: true; the input reads as it did. -/
def fnCleanPointsSpec : ChangeSpec := { name := "fnCleanPoints", vars := ["loop.example/streamlayers/impl.borders"], fn := fun _ => fun
  | [d, g1] => { results := [.lit (.bool true)], args := [d], vars := [g1] }
  | _ => none }
def fnCleanPointsRow : OpenClaim := { program := "ytkgjcoakeliocaadoor", sum := "60a33e34d1ff7ba91c338535740c19cd70f7bcbf104ca4d4a4262c4139c04886", func := "loop.example/streamlayers/laws.FnCleanPoints", spec := "fnCleanPoints", unfollowed := true, recurses := true, named := ["loop.example/streamlayers/impl.borders"], apart := false, laid := [("loop.example/streamlayers/impl.borders", laid_loop_example_streamlayers_impl_borders)] }
def FnCleanPointsSaid : Prop := fnCleanPointsRow.holds Tryd.pinned (OpenSpec.ofChange fnCleanPointsSpec)

/-- ITS FALSE NEIGHBOUR: 'it returns false'. Refute it at one input. -/
def fnCleanPointsWrong : ChangeSpec := { name := "fnCleanPoints", vars := ["loop.example/streamlayers/impl.borders"], fn := fun _ => fun
  | [d, g1] => { results := [.lit (.bool false)], args := [d], vars := [g1] }
  | _ => none }
def FnCleanPointsWrongFalsely : Prop := fnCleanPointsRow.holds Tryd.pinned (OpenSpec.ofChange fnCleanPointsWrong)

/- THE SECOND FORM. 'bulk': how many values and letters a reading holds, each counted each time it is reached (what is shared counts as often as it is met; a slice's spare places count too). A statement '..UptoSaid' is the law's where the arguments, and the package variables that the reading takes, are together of bulk at most 1048576: NARROWER than '..Said'. Prove '..Said' where nothing that the law and all that it calls make is longer than what came in: it says more and counts as full. Else prove '..UptoSaid'. A law counts once. -/
mutual
def uptoBulk {H : Type} : DataW H → Nat
  | .lit (.string bytes) => bytes.length + 1
  | .lit _ => 1
  | .nil => 1
  | .ptr d => uptoBulk d + 1
  | .slice elems spare => uptoBulkAll elems + uptoBulkAll spare + 1
  | .agg parts => uptoBulkAll parts + 1
  | .iface _ d => uptoBulk d + 1
  | .map entries => uptoBulkEntries entries + 1
  | .held _ => 1
def uptoBulkAll {H : Type} : List (DataW H) → Nat
  | [] => 0
  | d :: r => uptoBulk d + uptoBulkAll r
def uptoBulkEntries {H : Type} : List (Lit × DataW H) → Nat
  | [] => 0
  | x :: r => uptoBulkEntry x + uptoBulkEntries r
def uptoBulkEntry {H : Type} : Lit × DataW H → Nat
  | (.string bytes, d) => bytes.length + uptoBulk d + 1
  | (_, d) => uptoBulk d + 1
 end
def uptoSmall : (H : Type) → List (DataW H) → Bool := fun _ ds => decide (uptoBulkAll ds ≤ 1048576)
def OpenSpec.upto (s : _root_.Go.ChangeSpec) : _root_.Go.OpenSpec := { _root_.Go.OpenSpec.ofChange s with cond := some uptoSmall }

/-- 'laws.FnValidPoints', WHERE WHAT IT READS IS OF BULK AT MOST 1048576: true; the input reads as it did. -/
def fnValidPointsUptoRow : OpenClaim := { program := "ytkgjcoakeliocaadoor", sum := "60a33e34d1ff7ba91c338535740c19cd70f7bcbf104ca4d4a4262c4139c04886", func := "loop.example/streamlayers/laws.FnValidPoints", spec := "fnValidPoints", named := ["loop.example/streamlayers/impl.borders"], apart := false, laid := [("loop.example/streamlayers/impl.borders", laid_loop_example_streamlayers_impl_borders)], narrowed := true }
def FnValidPointsUptoSaid : Prop := fnValidPointsUptoRow.holds Tryd.pinned (OpenSpec.upto fnValidPointsSpec)

/-- 'laws.FnEncodePoints', WHERE WHAT IT READS IS OF BULK AT MOST 1048576: true; the input reads as it did. -/
def fnEncodePointsUptoRow : OpenClaim := { program := "ytkgjcoakeliocaadoor", sum := "60a33e34d1ff7ba91c338535740c19cd70f7bcbf104ca4d4a4262c4139c04886", func := "loop.example/streamlayers/laws.FnEncodePoints", spec := "fnEncodePoints", unfollowed := true, recurses := true, named := ["loop.example/streamlayers/impl.borders"], apart := false, laid := [("loop.example/streamlayers/impl.borders", laid_loop_example_streamlayers_impl_borders)], narrowed := true }
def FnEncodePointsUptoSaid : Prop := fnEncodePointsUptoRow.holds Tryd.pinned (OpenSpec.upto fnEncodePointsSpec)

/-- 'laws.FnDecodeSome', WHERE WHAT IT READS IS OF BULK AT MOST 1048576: true; the input reads as it did. -/
def fnDecodeSomeUptoRow : OpenClaim := { program := "ytkgjcoakeliocaadoor", sum := "60a33e34d1ff7ba91c338535740c19cd70f7bcbf104ca4d4a4262c4139c04886", func := "loop.example/streamlayers/laws.FnDecodeSome", spec := "fnDecodeSome", unfollowed := true, recurses := true, named := ["loop.example/streamlayers/impl.borders"], apart := false, laid := [("loop.example/streamlayers/impl.borders", laid_loop_example_streamlayers_impl_borders)], narrowed := true }
def FnDecodeSomeUptoSaid : Prop := fnDecodeSomeUptoRow.holds Tryd.pinned (OpenSpec.upto fnDecodeSomeSpec)

/-- 'laws.FnDecodeSomeLead', WHERE WHAT IT READS IS OF BULK AT MOST 1048576: true; the input reads as it did. -/
def fnDecodeSomeLeadUptoRow : OpenClaim := { program := "ytkgjcoakeliocaadoor", sum := "60a33e34d1ff7ba91c338535740c19cd70f7bcbf104ca4d4a4262c4139c04886", func := "loop.example/streamlayers/laws.FnDecodeSomeLead", spec := "fnDecodeSomeLead", unfollowed := true, recurses := true, named := ["loop.example/streamlayers/impl.borders"], apart := false, laid := [("loop.example/streamlayers/impl.borders", laid_loop_example_streamlayers_impl_borders)], narrowed := true }
def FnDecodeSomeLeadUptoSaid : Prop := fnDecodeSomeLeadUptoRow.holds Tryd.pinned (OpenSpec.upto fnDecodeSomeLeadSpec)

/-- 'laws.FnDecodeBytes', WHERE WHAT IT READS IS OF BULK AT MOST 1048576: true; the input reads as it did. -/
def fnDecodeBytesUptoRow : OpenClaim := { program := "ytkgjcoakeliocaadoor", sum := "60a33e34d1ff7ba91c338535740c19cd70f7bcbf104ca4d4a4262c4139c04886", func := "loop.example/streamlayers/laws.FnDecodeBytes", spec := "fnDecodeBytes", unfollowed := true, recurses := true, named := ["loop.example/streamlayers/impl.borders"], apart := false, laid := [("loop.example/streamlayers/impl.borders", laid_loop_example_streamlayers_impl_borders)], narrowed := true }
def FnDecodeBytesUptoSaid : Prop := fnDecodeBytesUptoRow.holds Tryd.pinned (OpenSpec.upto fnDecodeBytesSpec)

/-- 'laws.FnDecodeBytesModes', WHERE WHAT IT READS IS OF BULK AT MOST 1048576: true; the input reads as it did. -/
def fnDecodeBytesModesUptoRow : OpenClaim := { program := "ytkgjcoakeliocaadoor", sum := "60a33e34d1ff7ba91c338535740c19cd70f7bcbf104ca4d4a4262c4139c04886", func := "loop.example/streamlayers/laws.FnDecodeBytesModes", spec := "fnDecodeBytesModes", unfollowed := true, recurses := true, named := ["loop.example/streamlayers/impl.borders"], apart := false, laid := [("loop.example/streamlayers/impl.borders", laid_loop_example_streamlayers_impl_borders)], narrowed := true }
def FnDecodeBytesModesUptoSaid : Prop := fnDecodeBytesModesUptoRow.holds Tryd.pinned (OpenSpec.upto fnDecodeBytesModesSpec)

/-- 'laws.FnBadAt', WHERE WHAT IT READS IS OF BULK AT MOST 1048576: true; the input reads as it did. -/
def fnBadAtUptoRow : OpenClaim := { program := "ytkgjcoakeliocaadoor", sum := "60a33e34d1ff7ba91c338535740c19cd70f7bcbf104ca4d4a4262c4139c04886", func := "loop.example/streamlayers/laws.FnBadAt", spec := "fnBadAt", unfollowed := true, recurses := true, named := ["loop.example/streamlayers/impl.borders"], apart := false, laid := [("loop.example/streamlayers/impl.borders", laid_loop_example_streamlayers_impl_borders)], narrowed := true }
def FnBadAtUptoSaid : Prop := fnBadAtUptoRow.holds Tryd.pinned (OpenSpec.upto fnBadAtSpec)

/-- 'laws.FnCountPoints', WHERE WHAT IT READS IS OF BULK AT MOST 1048576: true; the input reads as it did. -/
def fnCountPointsUptoRow : OpenClaim := { program := "ytkgjcoakeliocaadoor", sum := "60a33e34d1ff7ba91c338535740c19cd70f7bcbf104ca4d4a4262c4139c04886", func := "loop.example/streamlayers/laws.FnCountPoints", spec := "fnCountPoints", unfollowed := true, recurses := true, named := ["loop.example/streamlayers/impl.borders"], apart := false, laid := [("loop.example/streamlayers/impl.borders", laid_loop_example_streamlayers_impl_borders)], narrowed := true }
def FnCountPointsUptoSaid : Prop := fnCountPointsUptoRow.holds Tryd.pinned (OpenSpec.upto fnCountPointsSpec)

/-- 'laws.FnSyncAt', WHERE WHAT IT READS IS OF BULK AT MOST 1048576: true; the input reads as it did. -/
def fnSyncAtUptoRow : OpenClaim := { program := "ytkgjcoakeliocaadoor", sum := "60a33e34d1ff7ba91c338535740c19cd70f7bcbf104ca4d4a4262c4139c04886", func := "loop.example/streamlayers/laws.FnSyncAt", spec := "fnSyncAt", unfollowed := true, recurses := true, named := ["loop.example/streamlayers/impl.borders"], apart := false, laid := [("loop.example/streamlayers/impl.borders", laid_loop_example_streamlayers_impl_borders)], narrowed := true }
def FnSyncAtUptoSaid : Prop := fnSyncAtUptoRow.holds Tryd.pinned (OpenSpec.upto fnSyncAtSpec)

/-- 'laws.FnPlacesOf', WHERE WHAT IT READS IS OF BULK AT MOST 1048576: true; the input reads as it did. -/
def fnPlacesOfUptoRow : OpenClaim := { program := "ytkgjcoakeliocaadoor", sum := "60a33e34d1ff7ba91c338535740c19cd70f7bcbf104ca4d4a4262c4139c04886", func := "loop.example/streamlayers/laws.FnPlacesOf", spec := "fnPlacesOf", unfollowed := true, recurses := true, named := ["loop.example/streamlayers/impl.borders"], apart := false, laid := [("loop.example/streamlayers/impl.borders", laid_loop_example_streamlayers_impl_borders)], narrowed := true }
def FnPlacesOfUptoSaid : Prop := fnPlacesOfUptoRow.holds Tryd.pinned (OpenSpec.upto fnPlacesOfSpec)

/-- 'laws.FnCleanPoints', WHERE WHAT IT READS IS OF BULK AT MOST 1048576: true; the input reads as it did. -/
def fnCleanPointsUptoRow : OpenClaim := { program := "ytkgjcoakeliocaadoor", sum := "60a33e34d1ff7ba91c338535740c19cd70f7bcbf104ca4d4a4262c4139c04886", func := "loop.example/streamlayers/laws.FnCleanPoints", spec := "fnCleanPoints", unfollowed := true, recurses := true, named := ["loop.example/streamlayers/impl.borders"], apart := false, laid := [("loop.example/streamlayers/impl.borders", laid_loop_example_streamlayers_impl_borders)], narrowed := true }
def FnCleanPointsUptoSaid : Prop := fnCleanPointsUptoRow.holds Tryd.pinned (OpenSpec.upto fnCleanPointsSpec)

end Rows
end Go.Proofs.YtkgjcoakeliocaaDoor
