/-
  No cell of these rows narrows 'for every input' (looked for: loops, veiled, ifaces, maps, wideKeys, modest, calm, conditions, laid).
  DERIVED. THE GIVEN ROWS OF THIS SEAT. 6 by the template 'for every input the law returns true; each argument reads behind the call as it read before'; 0 by the template 'total and deterministic' (their statements: YtmjmplfhedknhaaTotals.lean).
  GIVEN WITH THE SEED: the statements are not yours to turn. If you find one false, say at which input.
  Laid BY PROGRAM, IN A SANDBOX (cutbox-rows.mjs): the forced cells as the released guide's own fill.sh prints them over the translation 155e8155d92ac658… (all of the seat's roots in one cut). By AI agents, Wed Nov 11 2026. No macro, syntax, notation, axiom, sorry.
-/
import Derived.Test.YtmjmplfhedknhaaChecked
import GoSem.Claim
import GoSem.ClaimJoined
import GoSem.ClaimMapViews
import Derived.JoinedTies
import Derived.KernelRfl
namespace Go.Proofs.Ytmjmplfhedknhaa
/- THE CELL 'sum', in the pinned program and in every row, IS THE sha256 OF THE DUMP (.gsa) THAT YtmjmplfhedknhaaProg.lean LOADS. Nothing in Lean hashes anything: it is a label: what it is worth is what the hold of that sum in a sandbox is worth. -/
noncomputable def Try.pinned : Pinned := { name := "ytmjmplfhedknhaa", sum := "155e8155d92ac658e88bee54e6c99981c7f458023e6064bfbd354d6a037f192e", checked := Try.checked }
namespace Rows
def none {H : Type} : Left H := { results := [], args := [] }

/-- 'laws.FnReadSome': WHATEVER THE INPUT: true; the input reads as it did. -/
def fnReadSomeSpec : ChangeSpec := { name := "fnReadSome", fn := fun _ => fun
  | [d] => { results := [.lit (.bool true)], args := [d] }
  | _ => none }
def fnReadSomeRow : OpenClaim := { program := "ytmjmplfhedknhaa", sum := "155e8155d92ac658e88bee54e6c99981c7f458023e6064bfbd354d6a037f192e", func := "loop.example/streamlayers/laws.FnReadSome", spec := "fnReadSome", apart := false }
def FnReadSomeSaid : Prop := fnReadSomeRow.holds Try.pinned (OpenSpec.ofChange fnReadSomeSpec)

/-- ITS FALSE NEIGHBOUR: 'it returns false'. Refute it at one input. -/
def fnReadSomeWrong : ChangeSpec := { name := "fnReadSome", fn := fun _ => fun
  | [d] => { results := [.lit (.bool false)], args := [d] }
  | _ => none }
def FnReadSomeWrongFalsely : Prop := fnReadSomeRow.holds Try.pinned (OpenSpec.ofChange fnReadSomeWrong)

/-- 'laws.FnReadFullTwice': WHATEVER THE INPUT: true; the input reads as it did. -/
def fnReadFullTwiceSpec : ChangeSpec := { name := "fnReadFullTwice", fn := fun _ => fun
  | [d] => { results := [.lit (.bool true)], args := [d] }
  | _ => none }
def fnReadFullTwiceRow : OpenClaim := { program := "ytmjmplfhedknhaa", sum := "155e8155d92ac658e88bee54e6c99981c7f458023e6064bfbd354d6a037f192e", func := "loop.example/streamlayers/laws.FnReadFullTwice", spec := "fnReadFullTwice", apart := false }
def FnReadFullTwiceSaid : Prop := fnReadFullTwiceRow.holds Try.pinned (OpenSpec.ofChange fnReadFullTwiceSpec)

/-- ITS FALSE NEIGHBOUR: 'it returns false'. Refute it at one input. -/
def fnReadFullTwiceWrong : ChangeSpec := { name := "fnReadFullTwice", fn := fun _ => fun
  | [d] => { results := [.lit (.bool false)], args := [d] }
  | _ => none }
def FnReadFullTwiceWrongFalsely : Prop := fnReadFullTwiceRow.holds Try.pinned (OpenSpec.ofChange fnReadFullTwiceWrong)

/-- 'laws.FnReadUntil': WHATEVER THE INPUT: true; the input reads as it did. -/
def fnReadUntilSpec : ChangeSpec := { name := "fnReadUntil", fn := fun _ => fun
  | [d] => { results := [.lit (.bool true)], args := [d] }
  | _ => none }
def fnReadUntilRow : OpenClaim := { program := "ytmjmplfhedknhaa", sum := "155e8155d92ac658e88bee54e6c99981c7f458023e6064bfbd354d6a037f192e", func := "loop.example/streamlayers/laws.FnReadUntil", spec := "fnReadUntil", apart := false }
def FnReadUntilSaid : Prop := fnReadUntilRow.holds Try.pinned (OpenSpec.ofChange fnReadUntilSpec)

/-- ITS FALSE NEIGHBOUR: 'it returns false'. Refute it at one input. -/
def fnReadUntilWrong : ChangeSpec := { name := "fnReadUntil", fn := fun _ => fun
  | [d] => { results := [.lit (.bool false)], args := [d] }
  | _ => none }
def FnReadUntilWrongFalsely : Prop := fnReadUntilRow.holds Try.pinned (OpenSpec.ofChange fnReadUntilWrong)

/-- 'laws.FnSeekReader': WHATEVER THE INPUT: true; the input reads as it did. -/
def fnSeekReaderSpec : ChangeSpec := { name := "fnSeekReader", fn := fun _ => fun
  | [d] => { results := [.lit (.bool true)], args := [d] }
  | _ => none }
def fnSeekReaderRow : OpenClaim := { program := "ytmjmplfhedknhaa", sum := "155e8155d92ac658e88bee54e6c99981c7f458023e6064bfbd354d6a037f192e", func := "loop.example/streamlayers/laws.FnSeekReader", spec := "fnSeekReader", apart := false }
def FnSeekReaderSaid : Prop := fnSeekReaderRow.holds Try.pinned (OpenSpec.ofChange fnSeekReaderSpec)

/-- ITS FALSE NEIGHBOUR: 'it returns false'. Refute it at one input. -/
def fnSeekReaderWrong : ChangeSpec := { name := "fnSeekReader", fn := fun _ => fun
  | [d] => { results := [.lit (.bool false)], args := [d] }
  | _ => none }
def FnSeekReaderWrongFalsely : Prop := fnSeekReaderRow.holds Try.pinned (OpenSpec.ofChange fnSeekReaderWrong)

/-- 'laws.FnSeekReaderBack': WHATEVER THE INPUT: true; the input reads as it did. -/
def fnSeekReaderBackSpec : ChangeSpec := { name := "fnSeekReaderBack", fn := fun _ => fun
  | [d] => { results := [.lit (.bool true)], args := [d] }
  | _ => none }
def fnSeekReaderBackRow : OpenClaim := { program := "ytmjmplfhedknhaa", sum := "155e8155d92ac658e88bee54e6c99981c7f458023e6064bfbd354d6a037f192e", func := "loop.example/streamlayers/laws.FnSeekReaderBack", spec := "fnSeekReaderBack", apart := false }
def FnSeekReaderBackSaid : Prop := fnSeekReaderBackRow.holds Try.pinned (OpenSpec.ofChange fnSeekReaderBackSpec)

/-- ITS FALSE NEIGHBOUR: 'it returns false'. Refute it at one input. -/
def fnSeekReaderBackWrong : ChangeSpec := { name := "fnSeekReaderBack", fn := fun _ => fun
  | [d] => { results := [.lit (.bool false)], args := [d] }
  | _ => none }
def FnSeekReaderBackWrongFalsely : Prop := fnSeekReaderBackRow.holds Try.pinned (OpenSpec.ofChange fnSeekReaderBackWrong)

/-- 'laws.FnReadLines': WHATEVER THE INPUT: true; the input reads as it did. -/
def fnReadLinesSpec : ChangeSpec := { name := "fnReadLines", fn := fun _ => fun
  | [d] => { results := [.lit (.bool true)], args := [d] }
  | _ => none }
def fnReadLinesRow : OpenClaim := { program := "ytmjmplfhedknhaa", sum := "155e8155d92ac658e88bee54e6c99981c7f458023e6064bfbd354d6a037f192e", func := "loop.example/streamlayers/laws.FnReadLines", spec := "fnReadLines", apart := false }
def FnReadLinesSaid : Prop := fnReadLinesRow.holds Try.pinned (OpenSpec.ofChange fnReadLinesSpec)

/-- ITS FALSE NEIGHBOUR: 'it returns false'. Refute it at one input. -/
def fnReadLinesWrong : ChangeSpec := { name := "fnReadLines", fn := fun _ => fun
  | [d] => { results := [.lit (.bool false)], args := [d] }
  | _ => none }
def FnReadLinesWrongFalsely : Prop := fnReadLinesRow.holds Try.pinned (OpenSpec.ofChange fnReadLinesWrong)

/- THE SECOND FORM. 'bulk': how many values and letters a reading holds, each counted each time it is reached (what is shared counts as often as it is met; a slice's spare places count too). A statement '..UptoSaid' is the law's where the arguments, and the package variables that the reading takes, are together of bulk at most 1048576: NARROWER than '..Said'. Prove '..Said' where nothing that the law and all that it calls make is longer than what came in: it says more and counts as full. Else prove '..UptoSaid'. A law counts once. -/
mutual
def uptoBulk {H : Type} : DataW H → Nat
  | .lit (.string bytes) => bytes.length + 1
  | .lit _ => 1
  | .nil => 1
  | .ptr d => uptoBulk d + 1
  | .slice elems spare => uptoBulkAll elems + uptoBulkAll spare + 1
  | .agg parts => uptoBulkAll parts + 1
  | .iface _ d => uptoBulk d + 1
  | .map entries => uptoBulkEntries entries + 1
  | .held _ => 1
def uptoBulkAll {H : Type} : List (DataW H) → Nat
  | [] => 0
  | d :: r => uptoBulk d + uptoBulkAll r
def uptoBulkEntries {H : Type} : List (Lit × DataW H) → Nat
  | [] => 0
  | x :: r => uptoBulkEntry x + uptoBulkEntries r
def uptoBulkEntry {H : Type} : Lit × DataW H → Nat
  | (.string bytes, d) => bytes.length + uptoBulk d + 1
  | (_, d) => uptoBulk d + 1
 end
def uptoSmall : (H : Type) → List (DataW H) → Bool := fun _ ds => decide (uptoBulkAll ds ≤ 1048576)
def OpenSpec.upto (s : _root_.Go.ChangeSpec) : _root_.Go.OpenSpec := { _root_.Go.OpenSpec.ofChange s with cond := some uptoSmall }

/-- 'laws.FnReadSome', WHERE WHAT IT READS IS OF BULK AT MOST 1048576: true; the input reads as it did. -/
def fnReadSomeUptoRow : OpenClaim := { program := "ytmjmplfhedknhaa", sum := "155e8155d92ac658e88bee54e6c99981c7f458023e6064bfbd354d6a037f192e", func := "loop.example/streamlayers/laws.FnReadSome", spec := "fnReadSome", apart := false, narrowed := true }
def FnReadSomeUptoSaid : Prop := fnReadSomeUptoRow.holds Try.pinned (OpenSpec.upto fnReadSomeSpec)

/-- 'laws.FnReadFullTwice', WHERE WHAT IT READS IS OF BULK AT MOST 1048576: true; the input reads as it did. -/
def fnReadFullTwiceUptoRow : OpenClaim := { program := "ytmjmplfhedknhaa", sum := "155e8155d92ac658e88bee54e6c99981c7f458023e6064bfbd354d6a037f192e", func := "loop.example/streamlayers/laws.FnReadFullTwice", spec := "fnReadFullTwice", apart := false, narrowed := true }
def FnReadFullTwiceUptoSaid : Prop := fnReadFullTwiceUptoRow.holds Try.pinned (OpenSpec.upto fnReadFullTwiceSpec)

/-- 'laws.FnReadUntil', WHERE WHAT IT READS IS OF BULK AT MOST 1048576: true; the input reads as it did. -/
def fnReadUntilUptoRow : OpenClaim := { program := "ytmjmplfhedknhaa", sum := "155e8155d92ac658e88bee54e6c99981c7f458023e6064bfbd354d6a037f192e", func := "loop.example/streamlayers/laws.FnReadUntil", spec := "fnReadUntil", apart := false, narrowed := true }
def FnReadUntilUptoSaid : Prop := fnReadUntilUptoRow.holds Try.pinned (OpenSpec.upto fnReadUntilSpec)

/-- 'laws.FnSeekReader', WHERE WHAT IT READS IS OF BULK AT MOST 1048576: true; the input reads as it did. -/
def fnSeekReaderUptoRow : OpenClaim := { program := "ytmjmplfhedknhaa", sum := "155e8155d92ac658e88bee54e6c99981c7f458023e6064bfbd354d6a037f192e", func := "loop.example/streamlayers/laws.FnSeekReader", spec := "fnSeekReader", apart := false, narrowed := true }
def FnSeekReaderUptoSaid : Prop := fnSeekReaderUptoRow.holds Try.pinned (OpenSpec.upto fnSeekReaderSpec)

/-- 'laws.FnSeekReaderBack', WHERE WHAT IT READS IS OF BULK AT MOST 1048576: true; the input reads as it did. -/
def fnSeekReaderBackUptoRow : OpenClaim := { program := "ytmjmplfhedknhaa", sum := "155e8155d92ac658e88bee54e6c99981c7f458023e6064bfbd354d6a037f192e", func := "loop.example/streamlayers/laws.FnSeekReaderBack", spec := "fnSeekReaderBack", apart := false, narrowed := true }
def FnSeekReaderBackUptoSaid : Prop := fnSeekReaderBackUptoRow.holds Try.pinned (OpenSpec.upto fnSeekReaderBackSpec)

/-- 'laws.FnReadLines', WHERE WHAT IT READS IS OF BULK AT MOST 1048576: true; the input reads as it did. -/
def fnReadLinesUptoRow : OpenClaim := { program := "ytmjmplfhedknhaa", sum := "155e8155d92ac658e88bee54e6c99981c7f458023e6064bfbd354d6a037f192e", func := "loop.example/streamlayers/laws.FnReadLines", spec := "fnReadLines", apart := false, narrowed := true }
def FnReadLinesUptoSaid : Prop := fnReadLinesUptoRow.holds Try.pinned (OpenSpec.upto fnReadLinesSpec)

end Rows
end Go.Proofs.Ytmjmplfhedknhaa
