/-
  No cell of these rows narrows 'for every input' (looked for: loops, veiled, ifaces, maps, wideKeys, modest, calm, conditions, laid).
  DERIVED. THE GIVEN ROWS OF THIS SEAT. 3 by the template 'for every input the law returns true; each argument reads behind the call as it read before'; 0 by the template 'total and deterministic' (their statements: YtpkhnafeedcgeaaTotals.lean).
  GIVEN WITH THE SEED: the statements are not yours to turn. If you find one false, say at which input.
  Laid BY PROGRAM, IN A SANDBOX (cutbox-rows.mjs): the forced cells as the released guide's own fill.sh prints them over the translation a051a1ddc4646c96… (all of the seat's roots in one cut). By AI agents, Wed Nov 11 2026. No macro, syntax, notation, axiom, sorry.
-/
import Derived.Test.YtpkhnafeedcgeaaChecked
import GoSem.Claim
import GoSem.ClaimJoined
import GoSem.ClaimMapViews
import Derived.JoinedTies
import Derived.KernelRfl
namespace Go.Proofs.Ytpkhnafeedcgeaa
/- THE CELL 'sum', in the pinned program and in every row, IS THE sha256 OF THE DUMP (.gsa) THAT YtpkhnafeedcgeaaProg.lean LOADS. Nothing in Lean hashes anything: it is a label: what it is worth is what the hold of that sum in a sandbox is worth. -/
noncomputable def Try.pinned : Pinned := { name := "ytpkhnafeedcgeaa", sum := "a051a1ddc4646c966fd07445b73b32d4b2c3e0f8fae95de3545df24b723f7289", checked := Try.checked }
namespace Rows
def none {H : Type} : Left H := { results := [], args := [] }

/-- 'laws.FnReadSome': WHATEVER THE INPUT: true; the input reads as it did. -/
def fnReadSomeSpec : ChangeSpec := { name := "fnReadSome", fn := fun _ => fun
  | [d] => { results := [.lit (.bool true)], args := [d] }
  | _ => none }
def fnReadSomeRow : OpenClaim := { program := "ytpkhnafeedcgeaa", sum := "a051a1ddc4646c966fd07445b73b32d4b2c3e0f8fae95de3545df24b723f7289", func := "loop.example/streamlayers/laws.FnReadSome", spec := "fnReadSome", apart := false }
def FnReadSomeSaid : Prop := fnReadSomeRow.holds Try.pinned (OpenSpec.ofChange fnReadSomeSpec)

/-- ITS FALSE NEIGHBOUR: 'it returns false'. Refute it at one input. -/
def fnReadSomeWrong : ChangeSpec := { name := "fnReadSome", fn := fun _ => fun
  | [d] => { results := [.lit (.bool false)], args := [d] }
  | _ => none }
def FnReadSomeWrongFalsely : Prop := fnReadSomeRow.holds Try.pinned (OpenSpec.ofChange fnReadSomeWrong)

/-- 'laws.FnReadFull': WHATEVER THE INPUT: true; the input reads as it did. -/
def fnReadFullSpec : ChangeSpec := { name := "fnReadFull", fn := fun _ => fun
  | [d] => { results := [.lit (.bool true)], args := [d] }
  | _ => none }
def fnReadFullRow : OpenClaim := { program := "ytpkhnafeedcgeaa", sum := "a051a1ddc4646c966fd07445b73b32d4b2c3e0f8fae95de3545df24b723f7289", func := "loop.example/streamlayers/laws.FnReadFull", spec := "fnReadFull", apart := false }
def FnReadFullSaid : Prop := fnReadFullRow.holds Try.pinned (OpenSpec.ofChange fnReadFullSpec)

/-- ITS FALSE NEIGHBOUR: 'it returns false'. Refute it at one input. -/
def fnReadFullWrong : ChangeSpec := { name := "fnReadFull", fn := fun _ => fun
  | [d] => { results := [.lit (.bool false)], args := [d] }
  | _ => none }
def FnReadFullWrongFalsely : Prop := fnReadFullRow.holds Try.pinned (OpenSpec.ofChange fnReadFullWrong)

/-- 'laws.FnReadRest': WHATEVER THE INPUT: true; the input reads as it did. -/
def fnReadRestSpec : ChangeSpec := { name := "fnReadRest", fn := fun _ => fun
  | [d] => { results := [.lit (.bool true)], args := [d] }
  | _ => none }
def fnReadRestRow : OpenClaim := { program := "ytpkhnafeedcgeaa", sum := "a051a1ddc4646c966fd07445b73b32d4b2c3e0f8fae95de3545df24b723f7289", func := "loop.example/streamlayers/laws.FnReadRest", spec := "fnReadRest", apart := false }
def FnReadRestSaid : Prop := fnReadRestRow.holds Try.pinned (OpenSpec.ofChange fnReadRestSpec)

/-- ITS FALSE NEIGHBOUR: 'it returns false'. Refute it at one input. -/
def fnReadRestWrong : ChangeSpec := { name := "fnReadRest", fn := fun _ => fun
  | [d] => { results := [.lit (.bool false)], args := [d] }
  | _ => none }
def FnReadRestWrongFalsely : Prop := fnReadRestRow.holds Try.pinned (OpenSpec.ofChange fnReadRestWrong)

/- THE SECOND FORM. 'bulk': how many values and letters a reading holds, each counted each time it is reached (what is shared counts as often as it is met; a slice's spare places count too). A statement '..UptoSaid' is the law's where the arguments, and the package variables that the reading takes, are together of bulk at most 1048576: NARROWER than '..Said'. Prove '..Said' where nothing that the law and all that it calls make is longer than what came in: it says more and counts as full. Else prove '..UptoSaid'. A law counts once. -/
mutual
def uptoBulk {H : Type} : DataW H → Nat
  | .lit (.string bytes) => bytes.length + 1
  | .lit _ => 1
  | .nil => 1
  | .ptr d => uptoBulk d + 1
  | .slice elems spare => uptoBulkAll elems + uptoBulkAll spare + 1
  | .agg parts => uptoBulkAll parts + 1
  | .iface _ d => uptoBulk d + 1
  | .map entries => uptoBulkEntries entries + 1
  | .held _ => 1
def uptoBulkAll {H : Type} : List (DataW H) → Nat
  | [] => 0
  | d :: r => uptoBulk d + uptoBulkAll r
def uptoBulkEntries {H : Type} : List (Lit × DataW H) → Nat
  | [] => 0
  | x :: r => uptoBulkEntry x + uptoBulkEntries r
def uptoBulkEntry {H : Type} : Lit × DataW H → Nat
  | (.string bytes, d) => bytes.length + uptoBulk d + 1
  | (_, d) => uptoBulk d + 1
 end
def uptoSmall : (H : Type) → List (DataW H) → Bool := fun _ ds => decide (uptoBulkAll ds ≤ 1048576)
def OpenSpec.upto (s : _root_.Go.ChangeSpec) : _root_.Go.OpenSpec := { _root_.Go.OpenSpec.ofChange s with cond := some uptoSmall }

/-- 'laws.FnReadSome', WHERE WHAT IT READS IS OF BULK AT MOST 1048576: true; the input reads as it did. -/
def fnReadSomeUptoRow : OpenClaim := { program := "ytpkhnafeedcgeaa", sum := "a051a1ddc4646c966fd07445b73b32d4b2c3e0f8fae95de3545df24b723f7289", func := "loop.example/streamlayers/laws.FnReadSome", spec := "fnReadSome", apart := false, narrowed := true }
def FnReadSomeUptoSaid : Prop := fnReadSomeUptoRow.holds Try.pinned (OpenSpec.upto fnReadSomeSpec)

/-- 'laws.FnReadFull', WHERE WHAT IT READS IS OF BULK AT MOST 1048576: true; the input reads as it did. -/
def fnReadFullUptoRow : OpenClaim := { program := "ytpkhnafeedcgeaa", sum := "a051a1ddc4646c966fd07445b73b32d4b2c3e0f8fae95de3545df24b723f7289", func := "loop.example/streamlayers/laws.FnReadFull", spec := "fnReadFull", apart := false, narrowed := true }
def FnReadFullUptoSaid : Prop := fnReadFullUptoRow.holds Try.pinned (OpenSpec.upto fnReadFullSpec)

/-- 'laws.FnReadRest', WHERE WHAT IT READS IS OF BULK AT MOST 1048576: true; the input reads as it did. -/
def fnReadRestUptoRow : OpenClaim := { program := "ytpkhnafeedcgeaa", sum := "a051a1ddc4646c966fd07445b73b32d4b2c3e0f8fae95de3545df24b723f7289", func := "loop.example/streamlayers/laws.FnReadRest", spec := "fnReadRest", apart := false, narrowed := true }
def FnReadRestUptoSaid : Prop := fnReadRestUptoRow.holds Try.pinned (OpenSpec.upto fnReadRestSpec)

end Rows
end Go.Proofs.Ytpkhnafeedcgeaa
