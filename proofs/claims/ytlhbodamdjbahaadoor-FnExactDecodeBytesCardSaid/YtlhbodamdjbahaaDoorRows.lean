/-
  NARROWER THAN 'FOR EVERY INPUT', by the rows' own cells (each row's printed sentence says how): FnExactEncodePoints: laid · FnExactDecodeSome: laid · FnExactDecodeBytes: laid · FnExactBadAt: laid · FnExactCountPoints: laid · FnExactSyncAt: laid · FnExactPlacesOf: laid.
  DERIVED. THE GIVEN ROWS OF THIS SEAT. 7 by the template 'for every input the law returns true; each argument reads behind the call as it read before'; 0 by the template 'total and deterministic' (their statements: YtlhbodamdjbahaaDoorTotals.lean).
  GIVEN WITH THE SEED: the statements are not yours to turn. If you find one false, say at which input.
  Laid BY PROGRAM, IN A SANDBOX (cutbox-rows.mjs): the forced cells as the released guide's own fill.sh prints them over the translation fecb7ae51550dbc7… (all of the seat's roots in one cut). By AI agents, Wed Nov 11 2026. No macro, syntax, notation, axiom, sorry.
-/
import Derived.Test.YtlhbodamdjbahaaDoorChecked
import GoSem.Claim
import GoSem.ClaimJoined
import GoSem.ClaimMapViews
import Derived.JoinedTies
import Derived.KernelRfl
namespace Go.Proofs.YtlhbodamdjbahaaDoor
/- THE CELL 'sum', in the pinned program and in every row, IS THE sha256 OF THE DUMP (.gsa) THAT YtlhbodamdjbahaaDoorProg.lean LOADS. Nothing in Lean hashes anything: it is a label: what it is worth is what the hold of that sum in a sandbox is worth. -/
noncomputable def Tryd.pinned : Pinned := { name := "ytlhbodamdjbahaadoor", sum := "fecb7ae51550dbc700de45a5d5f262dd18d15eb9a3caa896fa66c7665f522365", checked := Tryd.checked }
namespace Rows
def none {H : Type} : Left H := { results := [], args := [] }

/- WHAT THE LISTED PACKAGE-LEVEL VARIABLES READ AS WHEN THE CALL BEGINS. Each datum BY PROGRAM (the guide's laid-datum.mjs) off the statement by which the dump's own 'gosem.cut.vars' lays the variable. In a bare row this is a premise. The card (YtlhbodamdjbahaaDoorCards.lean) ties it to the program's text. -/
def laid_loop_example_streamlayers_impl_borders {H : Type} : DataW H := .agg [.agg [.lit (.int .i64 0), .lit (.int .i64 1)], .agg [.lit (.int .i64 128), .lit (.int .i64 3)], .agg [.lit (.int .i64 192), .lit (.int .i64 0)], .agg [.lit (.int .i64 194), .lit (.int .i64 2)], .agg [.lit (.int .i64 224), .lit (.int .i64 0)]]

/-- 'laws.FnExactEncodePoints': WHATEVER THE INPUT: true; the input reads as it did. -/
def fnExactEncodePointsSpec : ChangeSpec := { name := "fnExactEncodePoints", vars := ["loop.example/streamlayers/impl.borders"], fn := fun _ => fun
  | [d, g1] => { results := [.lit (.bool true)], args := [d], vars := [g1] }
  | _ => none }
def fnExactEncodePointsRow : OpenClaim := { program := "ytlhbodamdjbahaadoor", sum := "fecb7ae51550dbc700de45a5d5f262dd18d15eb9a3caa896fa66c7665f522365", func := "loop.example/streamlayers/laws.FnExactEncodePoints", spec := "fnExactEncodePoints", named := ["loop.example/streamlayers/impl.borders"], apart := false, laid := [("loop.example/streamlayers/impl.borders", laid_loop_example_streamlayers_impl_borders)] }
def FnExactEncodePointsSaid : Prop := fnExactEncodePointsRow.holds Tryd.pinned (OpenSpec.ofChange fnExactEncodePointsSpec)

/-- ITS FALSE NEIGHBOUR: 'it returns false'. Refute it at one input. -/
def fnExactEncodePointsWrong : ChangeSpec := { name := "fnExactEncodePoints", vars := ["loop.example/streamlayers/impl.borders"], fn := fun _ => fun
  | [d, g1] => { results := [.lit (.bool false)], args := [d], vars := [g1] }
  | _ => none }
def FnExactEncodePointsWrongFalsely : Prop := fnExactEncodePointsRow.holds Tryd.pinned (OpenSpec.ofChange fnExactEncodePointsWrong)

/-- 'laws.FnExactDecodeSome': WHATEVER THE INPUT: true; the input reads as it did. -/
def fnExactDecodeSomeSpec : ChangeSpec := { name := "fnExactDecodeSome", vars := ["loop.example/streamlayers/impl.borders"], fn := fun _ => fun
  | [d1, d2, d3, d4, g1] => { results := [.lit (.bool true)], args := [d1, d2, d3, d4], vars := [g1] }
  | _ => none }
def fnExactDecodeSomeRow : OpenClaim := { program := "ytlhbodamdjbahaadoor", sum := "fecb7ae51550dbc700de45a5d5f262dd18d15eb9a3caa896fa66c7665f522365", func := "loop.example/streamlayers/laws.FnExactDecodeSome", spec := "fnExactDecodeSome", unfollowed := true, recurses := true, named := ["loop.example/streamlayers/impl.borders"], apart := false, laid := [("loop.example/streamlayers/impl.borders", laid_loop_example_streamlayers_impl_borders)] }
def FnExactDecodeSomeSaid : Prop := fnExactDecodeSomeRow.holds Tryd.pinned (OpenSpec.ofChange fnExactDecodeSomeSpec)

/-- ITS FALSE NEIGHBOUR: 'it returns false'. Refute it at one input. -/
def fnExactDecodeSomeWrong : ChangeSpec := { name := "fnExactDecodeSome", vars := ["loop.example/streamlayers/impl.borders"], fn := fun _ => fun
  | [d1, d2, d3, d4, g1] => { results := [.lit (.bool false)], args := [d1, d2, d3, d4], vars := [g1] }
  | _ => none }
def FnExactDecodeSomeWrongFalsely : Prop := fnExactDecodeSomeRow.holds Tryd.pinned (OpenSpec.ofChange fnExactDecodeSomeWrong)

/-- 'laws.FnExactDecodeBytes': WHATEVER THE INPUT: true; the input reads as it did. -/
def fnExactDecodeBytesSpec : ChangeSpec := { name := "fnExactDecodeBytes", vars := ["loop.example/streamlayers/impl.borders"], fn := fun _ => fun
  | [d1, d2, g1] => { results := [.lit (.bool true)], args := [d1, d2], vars := [g1] }
  | _ => none }
def fnExactDecodeBytesRow : OpenClaim := { program := "ytlhbodamdjbahaadoor", sum := "fecb7ae51550dbc700de45a5d5f262dd18d15eb9a3caa896fa66c7665f522365", func := "loop.example/streamlayers/laws.FnExactDecodeBytes", spec := "fnExactDecodeBytes", unfollowed := true, recurses := true, named := ["loop.example/streamlayers/impl.borders"], apart := false, laid := [("loop.example/streamlayers/impl.borders", laid_loop_example_streamlayers_impl_borders)] }
def FnExactDecodeBytesSaid : Prop := fnExactDecodeBytesRow.holds Tryd.pinned (OpenSpec.ofChange fnExactDecodeBytesSpec)

/-- ITS FALSE NEIGHBOUR: 'it returns false'. Refute it at one input. -/
def fnExactDecodeBytesWrong : ChangeSpec := { name := "fnExactDecodeBytes", vars := ["loop.example/streamlayers/impl.borders"], fn := fun _ => fun
  | [d1, d2, g1] => { results := [.lit (.bool false)], args := [d1, d2], vars := [g1] }
  | _ => none }
def FnExactDecodeBytesWrongFalsely : Prop := fnExactDecodeBytesRow.holds Tryd.pinned (OpenSpec.ofChange fnExactDecodeBytesWrong)

/-- 'laws.FnExactBadAt': WHATEVER THE INPUT: true; the input reads as it did. -/
def fnExactBadAtSpec : ChangeSpec := { name := "fnExactBadAt", vars := ["loop.example/streamlayers/impl.borders"], fn := fun _ => fun
  | [d, g1] => { results := [.lit (.bool true)], args := [d], vars := [g1] }
  | _ => none }
def fnExactBadAtRow : OpenClaim := { program := "ytlhbodamdjbahaadoor", sum := "fecb7ae51550dbc700de45a5d5f262dd18d15eb9a3caa896fa66c7665f522365", func := "loop.example/streamlayers/laws.FnExactBadAt", spec := "fnExactBadAt", unfollowed := true, recurses := true, named := ["loop.example/streamlayers/impl.borders"], apart := false, laid := [("loop.example/streamlayers/impl.borders", laid_loop_example_streamlayers_impl_borders)] }
def FnExactBadAtSaid : Prop := fnExactBadAtRow.holds Tryd.pinned (OpenSpec.ofChange fnExactBadAtSpec)

/-- ITS FALSE NEIGHBOUR: 'it returns false'. Refute it at one input. -/
def fnExactBadAtWrong : ChangeSpec := { name := "fnExactBadAt", vars := ["loop.example/streamlayers/impl.borders"], fn := fun _ => fun
  | [d, g1] => { results := [.lit (.bool false)], args := [d], vars := [g1] }
  | _ => none }
def FnExactBadAtWrongFalsely : Prop := fnExactBadAtRow.holds Tryd.pinned (OpenSpec.ofChange fnExactBadAtWrong)

/-- 'laws.FnExactCountPoints': WHATEVER THE INPUT: true; the input reads as it did. -/
def fnExactCountPointsSpec : ChangeSpec := { name := "fnExactCountPoints", vars := ["loop.example/streamlayers/impl.borders"], fn := fun _ => fun
  | [d, g1] => { results := [.lit (.bool true)], args := [d], vars := [g1] }
  | _ => none }
def fnExactCountPointsRow : OpenClaim := { program := "ytlhbodamdjbahaadoor", sum := "fecb7ae51550dbc700de45a5d5f262dd18d15eb9a3caa896fa66c7665f522365", func := "loop.example/streamlayers/laws.FnExactCountPoints", spec := "fnExactCountPoints", unfollowed := true, recurses := true, named := ["loop.example/streamlayers/impl.borders"], apart := false, laid := [("loop.example/streamlayers/impl.borders", laid_loop_example_streamlayers_impl_borders)] }
def FnExactCountPointsSaid : Prop := fnExactCountPointsRow.holds Tryd.pinned (OpenSpec.ofChange fnExactCountPointsSpec)

/-- ITS FALSE NEIGHBOUR: 'it returns false'. Refute it at one input. -/
def fnExactCountPointsWrong : ChangeSpec := { name := "fnExactCountPoints", vars := ["loop.example/streamlayers/impl.borders"], fn := fun _ => fun
  | [d, g1] => { results := [.lit (.bool false)], args := [d], vars := [g1] }
  | _ => none }
def FnExactCountPointsWrongFalsely : Prop := fnExactCountPointsRow.holds Tryd.pinned (OpenSpec.ofChange fnExactCountPointsWrong)

/-- 'laws.FnExactSyncAt': WHATEVER THE INPUT: true; the input reads as it did. -/
def fnExactSyncAtSpec : ChangeSpec := { name := "fnExactSyncAt", vars := ["loop.example/streamlayers/impl.borders"], fn := fun _ => fun
  | [d1, d2, g1] => { results := [.lit (.bool true)], args := [d1, d2], vars := [g1] }
  | _ => none }
def fnExactSyncAtRow : OpenClaim := { program := "ytlhbodamdjbahaadoor", sum := "fecb7ae51550dbc700de45a5d5f262dd18d15eb9a3caa896fa66c7665f522365", func := "loop.example/streamlayers/laws.FnExactSyncAt", spec := "fnExactSyncAt", named := ["loop.example/streamlayers/impl.borders"], apart := false, laid := [("loop.example/streamlayers/impl.borders", laid_loop_example_streamlayers_impl_borders)] }
def FnExactSyncAtSaid : Prop := fnExactSyncAtRow.holds Tryd.pinned (OpenSpec.ofChange fnExactSyncAtSpec)

/-- ITS FALSE NEIGHBOUR: 'it returns false'. Refute it at one input. -/
def fnExactSyncAtWrong : ChangeSpec := { name := "fnExactSyncAt", vars := ["loop.example/streamlayers/impl.borders"], fn := fun _ => fun
  | [d1, d2, g1] => { results := [.lit (.bool false)], args := [d1, d2], vars := [g1] }
  | _ => none }
def FnExactSyncAtWrongFalsely : Prop := fnExactSyncAtRow.holds Tryd.pinned (OpenSpec.ofChange fnExactSyncAtWrong)

/-- 'laws.FnExactPlacesOf': WHATEVER THE INPUT: true; the input reads as it did. -/
def fnExactPlacesOfSpec : ChangeSpec := { name := "fnExactPlacesOf", vars := ["loop.example/streamlayers/impl.borders"], fn := fun _ => fun
  | [d, g1] => { results := [.lit (.bool true)], args := [d], vars := [g1] }
  | _ => none }
def fnExactPlacesOfRow : OpenClaim := { program := "ytlhbodamdjbahaadoor", sum := "fecb7ae51550dbc700de45a5d5f262dd18d15eb9a3caa896fa66c7665f522365", func := "loop.example/streamlayers/laws.FnExactPlacesOf", spec := "fnExactPlacesOf", unfollowed := true, recurses := true, named := ["loop.example/streamlayers/impl.borders"], apart := false, laid := [("loop.example/streamlayers/impl.borders", laid_loop_example_streamlayers_impl_borders)] }
def FnExactPlacesOfSaid : Prop := fnExactPlacesOfRow.holds Tryd.pinned (OpenSpec.ofChange fnExactPlacesOfSpec)

/-- ITS FALSE NEIGHBOUR: 'it returns false'. Refute it at one input. -/
def fnExactPlacesOfWrong : ChangeSpec := { name := "fnExactPlacesOf", vars := ["loop.example/streamlayers/impl.borders"], fn := fun _ => fun
  | [d, g1] => { results := [.lit (.bool false)], args := [d], vars := [g1] }
  | _ => none }
def FnExactPlacesOfWrongFalsely : Prop := fnExactPlacesOfRow.holds Tryd.pinned (OpenSpec.ofChange fnExactPlacesOfWrong)

/- THE SECOND FORM. 'bulk': how many values and letters a reading holds, each counted each time it is reached (what is shared counts as often as it is met; a slice's spare places count too). A statement '..UptoSaid' is the law's where the arguments, and the package variables that the reading takes, are together of bulk at most 1048576: NARROWER than '..Said'. Prove '..Said' where nothing that the law and all that it calls make is longer than what came in: it says more and counts as full. Else prove '..UptoSaid'. A law counts once. -/
mutual
def uptoBulk {H : Type} : DataW H → Nat
  | .lit (.string bytes) => bytes.length + 1
  | .lit _ => 1
  | .nil => 1
  | .ptr d => uptoBulk d + 1
  | .slice elems spare => uptoBulkAll elems + uptoBulkAll spare + 1
  | .agg parts => uptoBulkAll parts + 1
  | .iface _ d => uptoBulk d + 1
  | .map entries => uptoBulkEntries entries + 1
  | .held _ => 1
def uptoBulkAll {H : Type} : List (DataW H) → Nat
  | [] => 0
  | d :: r => uptoBulk d + uptoBulkAll r
def uptoBulkEntries {H : Type} : List (Lit × DataW H) → Nat
  | [] => 0
  | x :: r => uptoBulkEntry x + uptoBulkEntries r
def uptoBulkEntry {H : Type} : Lit × DataW H → Nat
  | (.string bytes, d) => bytes.length + uptoBulk d + 1
  | (_, d) => uptoBulk d + 1
 end
def uptoSmall : (H : Type) → List (DataW H) → Bool := fun _ ds => decide (uptoBulkAll ds ≤ 1048576)
def OpenSpec.upto (s : _root_.Go.ChangeSpec) : _root_.Go.OpenSpec := { _root_.Go.OpenSpec.ofChange s with cond := some uptoSmall }

/-- 'laws.FnExactEncodePoints', WHERE WHAT IT READS IS OF BULK AT MOST 1048576: true; the input reads as it did. -/
def fnExactEncodePointsUptoRow : OpenClaim := { program := "ytlhbodamdjbahaadoor", sum := "fecb7ae51550dbc700de45a5d5f262dd18d15eb9a3caa896fa66c7665f522365", func := "loop.example/streamlayers/laws.FnExactEncodePoints", spec := "fnExactEncodePoints", named := ["loop.example/streamlayers/impl.borders"], apart := false, laid := [("loop.example/streamlayers/impl.borders", laid_loop_example_streamlayers_impl_borders)], narrowed := true }
def FnExactEncodePointsUptoSaid : Prop := fnExactEncodePointsUptoRow.holds Tryd.pinned (OpenSpec.upto fnExactEncodePointsSpec)

/-- 'laws.FnExactDecodeSome', WHERE WHAT IT READS IS OF BULK AT MOST 1048576: true; the input reads as it did. -/
def fnExactDecodeSomeUptoRow : OpenClaim := { program := "ytlhbodamdjbahaadoor", sum := "fecb7ae51550dbc700de45a5d5f262dd18d15eb9a3caa896fa66c7665f522365", func := "loop.example/streamlayers/laws.FnExactDecodeSome", spec := "fnExactDecodeSome", unfollowed := true, recurses := true, named := ["loop.example/streamlayers/impl.borders"], apart := false, laid := [("loop.example/streamlayers/impl.borders", laid_loop_example_streamlayers_impl_borders)], narrowed := true }
def FnExactDecodeSomeUptoSaid : Prop := fnExactDecodeSomeUptoRow.holds Tryd.pinned (OpenSpec.upto fnExactDecodeSomeSpec)

/-- 'laws.FnExactDecodeBytes', WHERE WHAT IT READS IS OF BULK AT MOST 1048576: true; the input reads as it did. -/
def fnExactDecodeBytesUptoRow : OpenClaim := { program := "ytlhbodamdjbahaadoor", sum := "fecb7ae51550dbc700de45a5d5f262dd18d15eb9a3caa896fa66c7665f522365", func := "loop.example/streamlayers/laws.FnExactDecodeBytes", spec := "fnExactDecodeBytes", unfollowed := true, recurses := true, named := ["loop.example/streamlayers/impl.borders"], apart := false, laid := [("loop.example/streamlayers/impl.borders", laid_loop_example_streamlayers_impl_borders)], narrowed := true }
def FnExactDecodeBytesUptoSaid : Prop := fnExactDecodeBytesUptoRow.holds Tryd.pinned (OpenSpec.upto fnExactDecodeBytesSpec)

/-- 'laws.FnExactBadAt', WHERE WHAT IT READS IS OF BULK AT MOST 1048576: true; the input reads as it did. -/
def fnExactBadAtUptoRow : OpenClaim := { program := "ytlhbodamdjbahaadoor", sum := "fecb7ae51550dbc700de45a5d5f262dd18d15eb9a3caa896fa66c7665f522365", func := "loop.example/streamlayers/laws.FnExactBadAt", spec := "fnExactBadAt", unfollowed := true, recurses := true, named := ["loop.example/streamlayers/impl.borders"], apart := false, laid := [("loop.example/streamlayers/impl.borders", laid_loop_example_streamlayers_impl_borders)], narrowed := true }
def FnExactBadAtUptoSaid : Prop := fnExactBadAtUptoRow.holds Tryd.pinned (OpenSpec.upto fnExactBadAtSpec)

/-- 'laws.FnExactCountPoints', WHERE WHAT IT READS IS OF BULK AT MOST 1048576: true; the input reads as it did. -/
def fnExactCountPointsUptoRow : OpenClaim := { program := "ytlhbodamdjbahaadoor", sum := "fecb7ae51550dbc700de45a5d5f262dd18d15eb9a3caa896fa66c7665f522365", func := "loop.example/streamlayers/laws.FnExactCountPoints", spec := "fnExactCountPoints", unfollowed := true, recurses := true, named := ["loop.example/streamlayers/impl.borders"], apart := false, laid := [("loop.example/streamlayers/impl.borders", laid_loop_example_streamlayers_impl_borders)], narrowed := true }
def FnExactCountPointsUptoSaid : Prop := fnExactCountPointsUptoRow.holds Tryd.pinned (OpenSpec.upto fnExactCountPointsSpec)

/-- 'laws.FnExactSyncAt', WHERE WHAT IT READS IS OF BULK AT MOST 1048576: true; the input reads as it did. -/
def fnExactSyncAtUptoRow : OpenClaim := { program := "ytlhbodamdjbahaadoor", sum := "fecb7ae51550dbc700de45a5d5f262dd18d15eb9a3caa896fa66c7665f522365", func := "loop.example/streamlayers/laws.FnExactSyncAt", spec := "fnExactSyncAt", named := ["loop.example/streamlayers/impl.borders"], apart := false, laid := [("loop.example/streamlayers/impl.borders", laid_loop_example_streamlayers_impl_borders)], narrowed := true }
def FnExactSyncAtUptoSaid : Prop := fnExactSyncAtUptoRow.holds Tryd.pinned (OpenSpec.upto fnExactSyncAtSpec)

/-- 'laws.FnExactPlacesOf', WHERE WHAT IT READS IS OF BULK AT MOST 1048576: true; the input reads as it did. -/
def fnExactPlacesOfUptoRow : OpenClaim := { program := "ytlhbodamdjbahaadoor", sum := "fecb7ae51550dbc700de45a5d5f262dd18d15eb9a3caa896fa66c7665f522365", func := "loop.example/streamlayers/laws.FnExactPlacesOf", spec := "fnExactPlacesOf", unfollowed := true, recurses := true, named := ["loop.example/streamlayers/impl.borders"], apart := false, laid := [("loop.example/streamlayers/impl.borders", laid_loop_example_streamlayers_impl_borders)], narrowed := true }
def FnExactPlacesOfUptoSaid : Prop := fnExactPlacesOfUptoRow.holds Tryd.pinned (OpenSpec.upto fnExactPlacesOfSpec)

end Rows
end Go.Proofs.YtlhbodamdjbahaaDoor
