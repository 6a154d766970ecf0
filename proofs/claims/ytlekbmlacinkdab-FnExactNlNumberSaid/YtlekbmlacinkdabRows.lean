/-
  No cell of these rows narrows 'for every input' (looked for: loops, veiled, ifaces, maps, wideKeys, modest, calm, conditions, laid).
  DERIVED. THE GIVEN ROWS OF THIS SEAT. 7 by the template 'for every input the law returns true; each argument reads behind the call as it read before'; 0 by the template 'total and deterministic' (their statements: YtlekbmlacinkdabTotals.lean).
  GIVEN WITH THE SEED: the statements are not yours to turn. If you find one false, say at which input.
  Laid BY PROGRAM, IN A SANDBOX (cutbox-rows.mjs): the forced cells as the released guide's own fill.sh prints them over the translation 8fecda1f7508df93… (all of the seat's roots in one cut). By AI agents, Wed Nov 11 2026. No macro, syntax, notation, axiom, sorry.
-/
import Derived.Test.YtlekbmlacinkdabChecked
import GoSem.Claim
import GoSem.ClaimJoined
import GoSem.ClaimMapViews
import Derived.JoinedTies
import Derived.KernelRfl
namespace Go.Proofs.Ytlekbmlacinkdab
/- THE CELL 'sum', in the pinned program and in every row, IS THE sha256 OF THE DUMP (.gsa) THAT YtlekbmlacinkdabProg.lean LOADS. Nothing in Lean hashes anything: it is a label: what it is worth is what the hold of that sum in a sandbox is worth. -/
noncomputable def Try.pinned : Pinned := { name := "ytlekbmlacinkdab", sum := "8fecda1f7508df938b516644f1280b27104b9ee79af1840693f9281083b372f0", checked := Try.checked }
namespace Rows
def none {H : Type} : Left H := { results := [], args := [] }

/-- 'laws.FnExactNewlineIn': WHATEVER THE INPUT: true; the input reads as it did. -/
def fnExactNewlineInSpec : ChangeSpec := { name := "fnExactNewlineIn", fn := fun _ => fun
  | [d1, d2, d3] => { results := [.lit (.bool true)], args := [d1, d2, d3] }
  | _ => none }
def fnExactNewlineInRow : OpenClaim := { program := "ytlekbmlacinkdab", sum := "8fecda1f7508df938b516644f1280b27104b9ee79af1840693f9281083b372f0", func := "loop.example/streamlayers/laws.FnExactNewlineIn", spec := "fnExactNewlineIn", apart := false }
def FnExactNewlineInSaid : Prop := fnExactNewlineInRow.holds Try.pinned (OpenSpec.ofChange fnExactNewlineInSpec)

/-- ITS FALSE NEIGHBOUR: 'it returns false'. Refute it at one input. -/
def fnExactNewlineInWrong : ChangeSpec := { name := "fnExactNewlineIn", fn := fun _ => fun
  | [d1, d2, d3] => { results := [.lit (.bool false)], args := [d1, d2, d3] }
  | _ => none }
def FnExactNewlineInWrongFalsely : Prop := fnExactNewlineInRow.holds Try.pinned (OpenSpec.ofChange fnExactNewlineInWrong)

/-- 'laws.FnExactNewlineOut': WHATEVER THE INPUT: true; the input reads as it did. -/
def fnExactNewlineOutSpec : ChangeSpec := { name := "fnExactNewlineOut", fn := fun _ => fun
  | [d1, d2] => { results := [.lit (.bool true)], args := [d1, d2] }
  | _ => none }
def fnExactNewlineOutRow : OpenClaim := { program := "ytlekbmlacinkdab", sum := "8fecda1f7508df938b516644f1280b27104b9ee79af1840693f9281083b372f0", func := "loop.example/streamlayers/laws.FnExactNewlineOut", spec := "fnExactNewlineOut", apart := false }
def FnExactNewlineOutSaid : Prop := fnExactNewlineOutRow.holds Try.pinned (OpenSpec.ofChange fnExactNewlineOutSpec)

/-- ITS FALSE NEIGHBOUR: 'it returns false'. Refute it at one input. -/
def fnExactNewlineOutWrong : ChangeSpec := { name := "fnExactNewlineOut", fn := fun _ => fun
  | [d1, d2] => { results := [.lit (.bool false)], args := [d1, d2] }
  | _ => none }
def FnExactNewlineOutWrongFalsely : Prop := fnExactNewlineOutRow.holds Try.pinned (OpenSpec.ofChange fnExactNewlineOutWrong)

/-- 'laws.FnExactSplitLines': WHATEVER THE INPUT: true; the input reads as it did. -/
def fnExactSplitLinesSpec : ChangeSpec := { name := "fnExactSplitLines", fn := fun _ => fun
  | [d1, d2] => { results := [.lit (.bool true)], args := [d1, d2] }
  | _ => none }
def fnExactSplitLinesRow : OpenClaim := { program := "ytlekbmlacinkdab", sum := "8fecda1f7508df938b516644f1280b27104b9ee79af1840693f9281083b372f0", func := "loop.example/streamlayers/laws.FnExactSplitLines", spec := "fnExactSplitLines", apart := false }
def FnExactSplitLinesSaid : Prop := fnExactSplitLinesRow.holds Try.pinned (OpenSpec.ofChange fnExactSplitLinesSpec)

/-- ITS FALSE NEIGHBOUR: 'it returns false'. Refute it at one input. -/
def fnExactSplitLinesWrong : ChangeSpec := { name := "fnExactSplitLines", fn := fun _ => fun
  | [d1, d2] => { results := [.lit (.bool false)], args := [d1, d2] }
  | _ => none }
def FnExactSplitLinesWrongFalsely : Prop := fnExactSplitLinesRow.holds Try.pinned (OpenSpec.ofChange fnExactSplitLinesWrong)

/-- 'laws.FnExactCountEnds': WHATEVER THE INPUT: true; the input reads as it did. -/
def fnExactCountEndsSpec : ChangeSpec := { name := "fnExactCountEnds", fn := fun _ => fun
  | [d] => { results := [.lit (.bool true)], args := [d] }
  | _ => none }
def fnExactCountEndsRow : OpenClaim := { program := "ytlekbmlacinkdab", sum := "8fecda1f7508df938b516644f1280b27104b9ee79af1840693f9281083b372f0", func := "loop.example/streamlayers/laws.FnExactCountEnds", spec := "fnExactCountEnds", apart := false }
def FnExactCountEndsSaid : Prop := fnExactCountEndsRow.holds Try.pinned (OpenSpec.ofChange fnExactCountEndsSpec)

/-- ITS FALSE NEIGHBOUR: 'it returns false'. Refute it at one input. -/
def fnExactCountEndsWrong : ChangeSpec := { name := "fnExactCountEnds", fn := fun _ => fun
  | [d] => { results := [.lit (.bool false)], args := [d] }
  | _ => none }
def FnExactCountEndsWrongFalsely : Prop := fnExactCountEndsRow.holds Try.pinned (OpenSpec.ofChange fnExactCountEndsWrong)

/-- 'laws.FnExactNlNumber': WHATEVER THE INPUT: true; the input reads as it did. -/
def fnExactNlNumberSpec : ChangeSpec := { name := "fnExactNlNumber", fn := fun _ => fun
  | [d] => { results := [.lit (.bool true)], args := [d] }
  | _ => none }
def fnExactNlNumberRow : OpenClaim := { program := "ytlekbmlacinkdab", sum := "8fecda1f7508df938b516644f1280b27104b9ee79af1840693f9281083b372f0", func := "loop.example/streamlayers/laws.FnExactNlNumber", spec := "fnExactNlNumber", apart := false }
def FnExactNlNumberSaid : Prop := fnExactNlNumberRow.holds Try.pinned (OpenSpec.ofChange fnExactNlNumberSpec)

/-- ITS FALSE NEIGHBOUR: 'it returns false'. Refute it at one input. -/
def fnExactNlNumberWrong : ChangeSpec := { name := "fnExactNlNumber", fn := fun _ => fun
  | [d] => { results := [.lit (.bool false)], args := [d] }
  | _ => none }
def FnExactNlNumberWrongFalsely : Prop := fnExactNlNumberRow.holds Try.pinned (OpenSpec.ofChange fnExactNlNumberWrong)

/-- 'laws.FnExactNlState': WHATEVER THE INPUT: true; the input reads as it did. -/
def fnExactNlStateSpec : ChangeSpec := { name := "fnExactNlState", fn := fun _ => fun
  | [d] => { results := [.lit (.bool true)], args := [d] }
  | _ => none }
def fnExactNlStateRow : OpenClaim := { program := "ytlekbmlacinkdab", sum := "8fecda1f7508df938b516644f1280b27104b9ee79af1840693f9281083b372f0", func := "loop.example/streamlayers/laws.FnExactNlState", spec := "fnExactNlState", apart := false }
def FnExactNlStateSaid : Prop := fnExactNlStateRow.holds Try.pinned (OpenSpec.ofChange fnExactNlStateSpec)

/-- ITS FALSE NEIGHBOUR: 'it returns false'. Refute it at one input. -/
def fnExactNlStateWrong : ChangeSpec := { name := "fnExactNlState", fn := fun _ => fun
  | [d] => { results := [.lit (.bool false)], args := [d] }
  | _ => none }
def FnExactNlStateWrongFalsely : Prop := fnExactNlStateRow.holds Try.pinned (OpenSpec.ofChange fnExactNlStateWrong)

/-- 'laws.FnExactEndsIn': WHATEVER THE INPUT: true; the input reads as it did. -/
def fnExactEndsInSpec : ChangeSpec := { name := "fnExactEndsIn", fn := fun _ => fun
  | [d] => { results := [.lit (.bool true)], args := [d] }
  | _ => none }
def fnExactEndsInRow : OpenClaim := { program := "ytlekbmlacinkdab", sum := "8fecda1f7508df938b516644f1280b27104b9ee79af1840693f9281083b372f0", func := "loop.example/streamlayers/laws.FnExactEndsIn", spec := "fnExactEndsIn", apart := false }
def FnExactEndsInSaid : Prop := fnExactEndsInRow.holds Try.pinned (OpenSpec.ofChange fnExactEndsInSpec)

/-- ITS FALSE NEIGHBOUR: 'it returns false'. Refute it at one input. -/
def fnExactEndsInWrong : ChangeSpec := { name := "fnExactEndsIn", fn := fun _ => fun
  | [d] => { results := [.lit (.bool false)], args := [d] }
  | _ => none }
def FnExactEndsInWrongFalsely : Prop := fnExactEndsInRow.holds Try.pinned (OpenSpec.ofChange fnExactEndsInWrong)

/- THE SECOND FORM. 'bulk': how many values and letters a reading holds, each counted each time it is reached (what is shared counts as often as it is met; a slice's spare places count too). A statement '..UptoSaid' is the law's where the arguments, and the package variables that the reading takes, are together of bulk at most 1048576: NARROWER than '..Said'. Prove '..Said' where nothing that the law and all that it calls make is longer than what came in: it says more and counts as full. Else prove '..UptoSaid'. A law counts once. -/
mutual
def uptoBulk {H : Type} : DataW H → Nat
  | .lit (.string bytes) => bytes.length + 1
  | .lit _ => 1
  | .nil => 1
  | .ptr d => uptoBulk d + 1
  | .slice elems spare => uptoBulkAll elems + uptoBulkAll spare + 1
  | .agg parts => uptoBulkAll parts + 1
  | .iface _ d => uptoBulk d + 1
  | .map entries => uptoBulkEntries entries + 1
  | .held _ => 1
def uptoBulkAll {H : Type} : List (DataW H) → Nat
  | [] => 0
  | d :: r => uptoBulk d + uptoBulkAll r
def uptoBulkEntries {H : Type} : List (Lit × DataW H) → Nat
  | [] => 0
  | x :: r => uptoBulkEntry x + uptoBulkEntries r
def uptoBulkEntry {H : Type} : Lit × DataW H → Nat
  | (.string bytes, d) => bytes.length + uptoBulk d + 1
  | (_, d) => uptoBulk d + 1
 end
def uptoSmall : (H : Type) → List (DataW H) → Bool := fun _ ds => decide (uptoBulkAll ds ≤ 1048576)
def OpenSpec.upto (s : _root_.Go.ChangeSpec) : _root_.Go.OpenSpec := { _root_.Go.OpenSpec.ofChange s with cond := some uptoSmall }

/-- 'laws.FnExactNewlineIn', WHERE WHAT IT READS IS OF BULK AT MOST 1048576: true; the input reads as it did. -/
def fnExactNewlineInUptoRow : OpenClaim := { program := "ytlekbmlacinkdab", sum := "8fecda1f7508df938b516644f1280b27104b9ee79af1840693f9281083b372f0", func := "loop.example/streamlayers/laws.FnExactNewlineIn", spec := "fnExactNewlineIn", apart := false, narrowed := true }
def FnExactNewlineInUptoSaid : Prop := fnExactNewlineInUptoRow.holds Try.pinned (OpenSpec.upto fnExactNewlineInSpec)

/-- 'laws.FnExactNewlineOut', WHERE WHAT IT READS IS OF BULK AT MOST 1048576: true; the input reads as it did. -/
def fnExactNewlineOutUptoRow : OpenClaim := { program := "ytlekbmlacinkdab", sum := "8fecda1f7508df938b516644f1280b27104b9ee79af1840693f9281083b372f0", func := "loop.example/streamlayers/laws.FnExactNewlineOut", spec := "fnExactNewlineOut", apart := false, narrowed := true }
def FnExactNewlineOutUptoSaid : Prop := fnExactNewlineOutUptoRow.holds Try.pinned (OpenSpec.upto fnExactNewlineOutSpec)

/-- 'laws.FnExactSplitLines', WHERE WHAT IT READS IS OF BULK AT MOST 1048576: true; the input reads as it did. -/
def fnExactSplitLinesUptoRow : OpenClaim := { program := "ytlekbmlacinkdab", sum := "8fecda1f7508df938b516644f1280b27104b9ee79af1840693f9281083b372f0", func := "loop.example/streamlayers/laws.FnExactSplitLines", spec := "fnExactSplitLines", apart := false, narrowed := true }
def FnExactSplitLinesUptoSaid : Prop := fnExactSplitLinesUptoRow.holds Try.pinned (OpenSpec.upto fnExactSplitLinesSpec)

/-- 'laws.FnExactCountEnds', WHERE WHAT IT READS IS OF BULK AT MOST 1048576: true; the input reads as it did. -/
def fnExactCountEndsUptoRow : OpenClaim := { program := "ytlekbmlacinkdab", sum := "8fecda1f7508df938b516644f1280b27104b9ee79af1840693f9281083b372f0", func := "loop.example/streamlayers/laws.FnExactCountEnds", spec := "fnExactCountEnds", apart := false, narrowed := true }
def FnExactCountEndsUptoSaid : Prop := fnExactCountEndsUptoRow.holds Try.pinned (OpenSpec.upto fnExactCountEndsSpec)

/-- 'laws.FnExactNlNumber', WHERE WHAT IT READS IS OF BULK AT MOST 1048576: true; the input reads as it did. -/
def fnExactNlNumberUptoRow : OpenClaim := { program := "ytlekbmlacinkdab", sum := "8fecda1f7508df938b516644f1280b27104b9ee79af1840693f9281083b372f0", func := "loop.example/streamlayers/laws.FnExactNlNumber", spec := "fnExactNlNumber", apart := false, narrowed := true }
def FnExactNlNumberUptoSaid : Prop := fnExactNlNumberUptoRow.holds Try.pinned (OpenSpec.upto fnExactNlNumberSpec)

/-- 'laws.FnExactNlState', WHERE WHAT IT READS IS OF BULK AT MOST 1048576: true; the input reads as it did. -/
def fnExactNlStateUptoRow : OpenClaim := { program := "ytlekbmlacinkdab", sum := "8fecda1f7508df938b516644f1280b27104b9ee79af1840693f9281083b372f0", func := "loop.example/streamlayers/laws.FnExactNlState", spec := "fnExactNlState", apart := false, narrowed := true }
def FnExactNlStateUptoSaid : Prop := fnExactNlStateUptoRow.holds Try.pinned (OpenSpec.upto fnExactNlStateSpec)

/-- 'laws.FnExactEndsIn', WHERE WHAT IT READS IS OF BULK AT MOST 1048576: true; the input reads as it did. -/
def fnExactEndsInUptoRow : OpenClaim := { program := "ytlekbmlacinkdab", sum := "8fecda1f7508df938b516644f1280b27104b9ee79af1840693f9281083b372f0", func := "loop.example/streamlayers/laws.FnExactEndsIn", spec := "fnExactEndsIn", apart := false, narrowed := true }
def FnExactEndsInUptoSaid : Prop := fnExactEndsInUptoRow.holds Try.pinned (OpenSpec.upto fnExactEndsInSpec)

end Rows
end Go.Proofs.Ytlekbmlacinkdab
