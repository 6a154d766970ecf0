/-
  No cell of these rows narrows 'for every input' (looked for: loops, veiled, ifaces, maps, wideKeys, modest, calm, conditions, laid).
  DERIVED. THE GIVEN ROWS OF THIS SEAT. 3 by the template 'for every input the law returns true; each argument reads behind the call as it read before'; 0 by the template 'total and deterministic' (their statements: YtjamhnhjphfimaaTotals.lean).
  GIVEN WITH THE SEED: the statements are not yours to turn. If you find one false, say at which input.
  Laid BY PROGRAM, IN A SANDBOX (cutbox-rows.mjs): the forced cells as the released guide's own fill.sh prints them over the translation 5943eb24e6665090… (all of the seat's roots in one cut). By AI agents, Wed Nov 11 2026. No macro, syntax, notation, axiom, sorry.
-/
import Derived.Test.YtjamhnhjphfimaaChecked
import GoSem.Claim
import GoSem.ClaimJoined
import GoSem.ClaimMapViews
import Derived.JoinedTies
import Derived.KernelRfl
namespace Go.Proofs.Ytjamhnhjphfimaa
/- THE CELL 'sum', in the pinned program and in every row, IS THE sha256 OF THE DUMP (.gsa) THAT YtjamhnhjphfimaaProg.lean LOADS. Nothing in Lean hashes anything: it is a label: what it is worth is what the hold of that sum in a sandbox is worth. -/
noncomputable def Try.pinned : Pinned := { name := "ytjamhnhjphfimaa", sum := "5943eb24e666509023d587580116318cb2ff5119c67179d6e1621bdd3fa9b9b9", checked := Try.checked }
namespace Rows
def none {H : Type} : Left H := { results := [], args := [] }

/-- 'laws.FnNewReader': WHATEVER THE INPUT: true; the input reads as it did. -/
def fnNewReaderSpec : ChangeSpec := { name := "fnNewReader", fn := fun _ => fun
  | [d] => { results := [.lit (.bool true)], args := [d] }
  | _ => none }
def fnNewReaderRow : OpenClaim := { program := "ytjamhnhjphfimaa", sum := "5943eb24e666509023d587580116318cb2ff5119c67179d6e1621bdd3fa9b9b9", func := "loop.example/streamlayers/laws.FnNewReader", spec := "fnNewReader", apart := false }
def FnNewReaderSaid : Prop := fnNewReaderRow.holds Try.pinned (OpenSpec.ofChange fnNewReaderSpec)

/-- ITS FALSE NEIGHBOUR: 'it returns false'. Refute it at one input. -/
def fnNewReaderWrong : ChangeSpec := { name := "fnNewReader", fn := fun _ => fun
  | [d] => { results := [.lit (.bool false)], args := [d] }
  | _ => none }
def FnNewReaderWrongFalsely : Prop := fnNewReaderRow.holds Try.pinned (OpenSpec.ofChange fnNewReaderWrong)

/-- 'laws.FnNewWriter': WHATEVER THE INPUT: true; the input reads as it did. -/
def fnNewWriterSpec : ChangeSpec := { name := "fnNewWriter", fn := fun _ => fun
  | [d] => { results := [.lit (.bool true)], args := [d] }
  | _ => none }
def fnNewWriterRow : OpenClaim := { program := "ytjamhnhjphfimaa", sum := "5943eb24e666509023d587580116318cb2ff5119c67179d6e1621bdd3fa9b9b9", func := "loop.example/streamlayers/laws.FnNewWriter", spec := "fnNewWriter", apart := false }
def FnNewWriterSaid : Prop := fnNewWriterRow.holds Try.pinned (OpenSpec.ofChange fnNewWriterSpec)

/-- ITS FALSE NEIGHBOUR: 'it returns false'. Refute it at one input. -/
def fnNewWriterWrong : ChangeSpec := { name := "fnNewWriter", fn := fun _ => fun
  | [d] => { results := [.lit (.bool false)], args := [d] }
  | _ => none }
def FnNewWriterWrongFalsely : Prop := fnNewWriterRow.holds Try.pinned (OpenSpec.ofChange fnNewWriterWrong)

/-- 'laws.FnTellReader': WHATEVER THE INPUT: true; the input reads as it did. -/
def fnTellReaderSpec : ChangeSpec := { name := "fnTellReader", fn := fun _ => fun
  | [d] => { results := [.lit (.bool true)], args := [d] }
  | _ => none }
def fnTellReaderRow : OpenClaim := { program := "ytjamhnhjphfimaa", sum := "5943eb24e666509023d587580116318cb2ff5119c67179d6e1621bdd3fa9b9b9", func := "loop.example/streamlayers/laws.FnTellReader", spec := "fnTellReader", apart := false }
def FnTellReaderSaid : Prop := fnTellReaderRow.holds Try.pinned (OpenSpec.ofChange fnTellReaderSpec)

/-- ITS FALSE NEIGHBOUR: 'it returns false'. Refute it at one input. -/
def fnTellReaderWrong : ChangeSpec := { name := "fnTellReader", fn := fun _ => fun
  | [d] => { results := [.lit (.bool false)], args := [d] }
  | _ => none }
def FnTellReaderWrongFalsely : Prop := fnTellReaderRow.holds Try.pinned (OpenSpec.ofChange fnTellReaderWrong)

/- THE SECOND FORM. 'bulk': how many values and letters a reading holds, each counted each time it is reached (what is shared counts as often as it is met; a slice's spare places count too). A statement '..UptoSaid' is the law's where the arguments, and the package variables that the reading takes, are together of bulk at most 1048576: NARROWER than '..Said'. Prove '..Said' where nothing that the law and all that it calls make is longer than what came in: it says more and counts as full. Else prove '..UptoSaid'. A law counts once. -/
mutual
def uptoBulk {H : Type} : DataW H → Nat
  | .lit (.string bytes) => bytes.length + 1
  | .lit _ => 1
  | .nil => 1
  | .ptr d => uptoBulk d + 1
  | .slice elems spare => uptoBulkAll elems + uptoBulkAll spare + 1
  | .agg parts => uptoBulkAll parts + 1
  | .iface _ d => uptoBulk d + 1
  | .map entries => uptoBulkEntries entries + 1
  | .held _ => 1
def uptoBulkAll {H : Type} : List (DataW H) → Nat
  | [] => 0
  | d :: r => uptoBulk d + uptoBulkAll r
def uptoBulkEntries {H : Type} : List (Lit × DataW H) → Nat
  | [] => 0
  | x :: r => uptoBulkEntry x + uptoBulkEntries r
def uptoBulkEntry {H : Type} : Lit × DataW H → Nat
  | (.string bytes, d) => bytes.length + uptoBulk d + 1
  | (_, d) => uptoBulk d + 1
 end
def uptoSmall : (H : Type) → List (DataW H) → Bool := fun _ ds => decide (uptoBulkAll ds ≤ 1048576)
def OpenSpec.upto (s : _root_.Go.ChangeSpec) : _root_.Go.OpenSpec := { _root_.Go.OpenSpec.ofChange s with cond := some uptoSmall }

/-- 'laws.FnNewReader', WHERE WHAT IT READS IS OF BULK AT MOST 1048576: true; the input reads as it did. -/
def fnNewReaderUptoRow : OpenClaim := { program := "ytjamhnhjphfimaa", sum := "5943eb24e666509023d587580116318cb2ff5119c67179d6e1621bdd3fa9b9b9", func := "loop.example/streamlayers/laws.FnNewReader", spec := "fnNewReader", apart := false, narrowed := true }
def FnNewReaderUptoSaid : Prop := fnNewReaderUptoRow.holds Try.pinned (OpenSpec.upto fnNewReaderSpec)

/-- 'laws.FnNewWriter', WHERE WHAT IT READS IS OF BULK AT MOST 1048576: true; the input reads as it did. -/
def fnNewWriterUptoRow : OpenClaim := { program := "ytjamhnhjphfimaa", sum := "5943eb24e666509023d587580116318cb2ff5119c67179d6e1621bdd3fa9b9b9", func := "loop.example/streamlayers/laws.FnNewWriter", spec := "fnNewWriter", apart := false, narrowed := true }
def FnNewWriterUptoSaid : Prop := fnNewWriterUptoRow.holds Try.pinned (OpenSpec.upto fnNewWriterSpec)

/-- 'laws.FnTellReader', WHERE WHAT IT READS IS OF BULK AT MOST 1048576: true; the input reads as it did. -/
def fnTellReaderUptoRow : OpenClaim := { program := "ytjamhnhjphfimaa", sum := "5943eb24e666509023d587580116318cb2ff5119c67179d6e1621bdd3fa9b9b9", func := "loop.example/streamlayers/laws.FnTellReader", spec := "fnTellReader", apart := false, narrowed := true }
def FnTellReaderUptoSaid : Prop := fnTellReaderUptoRow.holds Try.pinned (OpenSpec.upto fnTellReaderSpec)

end Rows
end Go.Proofs.Ytjamhnhjphfimaa
