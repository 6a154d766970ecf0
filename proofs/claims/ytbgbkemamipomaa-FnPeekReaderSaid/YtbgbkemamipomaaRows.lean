/-
  No cell of these rows narrows 'for every input' (looked for: loops, veiled, ifaces, maps, wideKeys, modest, calm, conditions, laid).
  DERIVED. THE GIVEN ROWS OF THIS SEAT. 12 by the template 'for every input the law returns true; each argument reads behind the call as it read before'; 0 by the template 'total and deterministic' (their statements: YtbgbkemamipomaaTotals.lean).
  GIVEN WITH THE SEED: the statements are not yours to turn. If you find one false, say at which input.
  Laid BY PROGRAM, IN A SANDBOX (cutbox-rows.mjs): the forced cells as the released guide's own fill.sh prints them over the translation 14d0f16e141b01f0… (all of the seat's roots in one cut). By AI agents, Wed Nov 11 2026. No macro, syntax, notation, axiom, sorry.
-/
import Derived.Test.YtbgbkemamipomaaChecked
import GoSem.Claim
import GoSem.ClaimJoined
import GoSem.ClaimMapViews
import Derived.JoinedTies
import Derived.KernelRfl
namespace Go.Proofs.Ytbgbkemamipomaa
/- THE CELL 'sum', in the pinned program and in every row, IS THE sha256 OF THE DUMP (.gsa) THAT YtbgbkemamipomaaProg.lean LOADS. Nothing in Lean hashes anything: it is a label: what it is worth is what the hold of that sum in a sandbox is worth. -/
noncomputable def Try.pinned : Pinned := { name := "ytbgbkemamipomaa", sum := "14d0f16e141b01f0c939de7bff657c3a6e7d8937ff6083723e431f042b94e223", checked := Try.checked }
namespace Rows
def none {H : Type} : Left H := { results := [], args := [] }

/-- 'laws.FnValidReader': WHATEVER THE INPUT: true; the input reads as it did. -/
def fnValidReaderSpec : ChangeSpec := { name := "fnValidReader", fn := fun _ => fun
  | [d] => { results := [.lit (.bool true)], args := [d] }
  | _ => none }
def fnValidReaderRow : OpenClaim := { program := "ytbgbkemamipomaa", sum := "14d0f16e141b01f0c939de7bff657c3a6e7d8937ff6083723e431f042b94e223", func := "loop.example/streamlayers/laws.FnValidReader", spec := "fnValidReader", apart := false }
def FnValidReaderSaid : Prop := fnValidReaderRow.holds Try.pinned (OpenSpec.ofChange fnValidReaderSpec)

/-- ITS FALSE NEIGHBOUR: 'it returns false'. Refute it at one input. -/
def fnValidReaderWrong : ChangeSpec := { name := "fnValidReader", fn := fun _ => fun
  | [d] => { results := [.lit (.bool false)], args := [d] }
  | _ => none }
def FnValidReaderWrongFalsely : Prop := fnValidReaderRow.holds Try.pinned (OpenSpec.ofChange fnValidReaderWrong)

/-- 'laws.FnReadSome': WHATEVER THE INPUT: true; the input reads as it did. -/
def fnReadSomeSpec : ChangeSpec := { name := "fnReadSome", fn := fun _ => fun
  | [d] => { results := [.lit (.bool true)], args := [d] }
  | _ => none }
def fnReadSomeRow : OpenClaim := { program := "ytbgbkemamipomaa", sum := "14d0f16e141b01f0c939de7bff657c3a6e7d8937ff6083723e431f042b94e223", func := "loop.example/streamlayers/laws.FnReadSome", spec := "fnReadSome", apart := false }
def FnReadSomeSaid : Prop := fnReadSomeRow.holds Try.pinned (OpenSpec.ofChange fnReadSomeSpec)

/-- ITS FALSE NEIGHBOUR: 'it returns false'. Refute it at one input. -/
def fnReadSomeWrong : ChangeSpec := { name := "fnReadSome", fn := fun _ => fun
  | [d] => { results := [.lit (.bool false)], args := [d] }
  | _ => none }
def FnReadSomeWrongFalsely : Prop := fnReadSomeRow.holds Try.pinned (OpenSpec.ofChange fnReadSomeWrong)

/-- 'laws.FnReadFull': WHATEVER THE INPUT: true; the input reads as it did. -/
def fnReadFullSpec : ChangeSpec := { name := "fnReadFull", fn := fun _ => fun
  | [d] => { results := [.lit (.bool true)], args := [d] }
  | _ => none }
def fnReadFullRow : OpenClaim := { program := "ytbgbkemamipomaa", sum := "14d0f16e141b01f0c939de7bff657c3a6e7d8937ff6083723e431f042b94e223", func := "loop.example/streamlayers/laws.FnReadFull", spec := "fnReadFull", apart := false }
def FnReadFullSaid : Prop := fnReadFullRow.holds Try.pinned (OpenSpec.ofChange fnReadFullSpec)

/-- ITS FALSE NEIGHBOUR: 'it returns false'. Refute it at one input. -/
def fnReadFullWrong : ChangeSpec := { name := "fnReadFull", fn := fun _ => fun
  | [d] => { results := [.lit (.bool false)], args := [d] }
  | _ => none }
def FnReadFullWrongFalsely : Prop := fnReadFullRow.holds Try.pinned (OpenSpec.ofChange fnReadFullWrong)

/-- 'laws.FnReadFullSmooth': WHATEVER THE INPUT: true; the input reads as it did. -/
def fnReadFullSmoothSpec : ChangeSpec := { name := "fnReadFullSmooth", fn := fun _ => fun
  | [d] => { results := [.lit (.bool true)], args := [d] }
  | _ => none }
def fnReadFullSmoothRow : OpenClaim := { program := "ytbgbkemamipomaa", sum := "14d0f16e141b01f0c939de7bff657c3a6e7d8937ff6083723e431f042b94e223", func := "loop.example/streamlayers/laws.FnReadFullSmooth", spec := "fnReadFullSmooth", apart := false }
def FnReadFullSmoothSaid : Prop := fnReadFullSmoothRow.holds Try.pinned (OpenSpec.ofChange fnReadFullSmoothSpec)

/-- ITS FALSE NEIGHBOUR: 'it returns false'. Refute it at one input. -/
def fnReadFullSmoothWrong : ChangeSpec := { name := "fnReadFullSmooth", fn := fun _ => fun
  | [d] => { results := [.lit (.bool false)], args := [d] }
  | _ => none }
def FnReadFullSmoothWrongFalsely : Prop := fnReadFullSmoothRow.holds Try.pinned (OpenSpec.ofChange fnReadFullSmoothWrong)

/-- 'laws.FnReadFullTwice': WHATEVER THE INPUT: true; the input reads as it did. -/
def fnReadFullTwiceSpec : ChangeSpec := { name := "fnReadFullTwice", fn := fun _ => fun
  | [d] => { results := [.lit (.bool true)], args := [d] }
  | _ => none }
def fnReadFullTwiceRow : OpenClaim := { program := "ytbgbkemamipomaa", sum := "14d0f16e141b01f0c939de7bff657c3a6e7d8937ff6083723e431f042b94e223", func := "loop.example/streamlayers/laws.FnReadFullTwice", spec := "fnReadFullTwice", apart := false }
def FnReadFullTwiceSaid : Prop := fnReadFullTwiceRow.holds Try.pinned (OpenSpec.ofChange fnReadFullTwiceSpec)

/-- ITS FALSE NEIGHBOUR: 'it returns false'. Refute it at one input. -/
def fnReadFullTwiceWrong : ChangeSpec := { name := "fnReadFullTwice", fn := fun _ => fun
  | [d] => { results := [.lit (.bool false)], args := [d] }
  | _ => none }
def FnReadFullTwiceWrongFalsely : Prop := fnReadFullTwiceRow.holds Try.pinned (OpenSpec.ofChange fnReadFullTwiceWrong)

/-- 'laws.FnReadRest': WHATEVER THE INPUT: true; the input reads as it did. -/
def fnReadRestSpec : ChangeSpec := { name := "fnReadRest", fn := fun _ => fun
  | [d] => { results := [.lit (.bool true)], args := [d] }
  | _ => none }
def fnReadRestRow : OpenClaim := { program := "ytbgbkemamipomaa", sum := "14d0f16e141b01f0c939de7bff657c3a6e7d8937ff6083723e431f042b94e223", func := "loop.example/streamlayers/laws.FnReadRest", spec := "fnReadRest", apart := false }
def FnReadRestSaid : Prop := fnReadRestRow.holds Try.pinned (OpenSpec.ofChange fnReadRestSpec)

/-- ITS FALSE NEIGHBOUR: 'it returns false'. Refute it at one input. -/
def fnReadRestWrong : ChangeSpec := { name := "fnReadRest", fn := fun _ => fun
  | [d] => { results := [.lit (.bool false)], args := [d] }
  | _ => none }
def FnReadRestWrongFalsely : Prop := fnReadRestRow.holds Try.pinned (OpenSpec.ofChange fnReadRestWrong)

/-- 'laws.FnPeekReader': WHATEVER THE INPUT: true; the input reads as it did. -/
def fnPeekReaderSpec : ChangeSpec := { name := "fnPeekReader", fn := fun _ => fun
  | [d] => { results := [.lit (.bool true)], args := [d] }
  | _ => none }
def fnPeekReaderRow : OpenClaim := { program := "ytbgbkemamipomaa", sum := "14d0f16e141b01f0c939de7bff657c3a6e7d8937ff6083723e431f042b94e223", func := "loop.example/streamlayers/laws.FnPeekReader", spec := "fnPeekReader", apart := false }
def FnPeekReaderSaid : Prop := fnPeekReaderRow.holds Try.pinned (OpenSpec.ofChange fnPeekReaderSpec)

/-- ITS FALSE NEIGHBOUR: 'it returns false'. Refute it at one input. -/
def fnPeekReaderWrong : ChangeSpec := { name := "fnPeekReader", fn := fun _ => fun
  | [d] => { results := [.lit (.bool false)], args := [d] }
  | _ => none }
def FnPeekReaderWrongFalsely : Prop := fnPeekReaderRow.holds Try.pinned (OpenSpec.ofChange fnPeekReaderWrong)

/-- 'laws.FnPeekReaderRead': WHATEVER THE INPUT: true; the input reads as it did. -/
def fnPeekReaderReadSpec : ChangeSpec := { name := "fnPeekReaderRead", fn := fun _ => fun
  | [d] => { results := [.lit (.bool true)], args := [d] }
  | _ => none }
def fnPeekReaderReadRow : OpenClaim := { program := "ytbgbkemamipomaa", sum := "14d0f16e141b01f0c939de7bff657c3a6e7d8937ff6083723e431f042b94e223", func := "loop.example/streamlayers/laws.FnPeekReaderRead", spec := "fnPeekReaderRead", apart := false }
def FnPeekReaderReadSaid : Prop := fnPeekReaderReadRow.holds Try.pinned (OpenSpec.ofChange fnPeekReaderReadSpec)

/-- ITS FALSE NEIGHBOUR: 'it returns false'. Refute it at one input. -/
def fnPeekReaderReadWrong : ChangeSpec := { name := "fnPeekReaderRead", fn := fun _ => fun
  | [d] => { results := [.lit (.bool false)], args := [d] }
  | _ => none }
def FnPeekReaderReadWrongFalsely : Prop := fnPeekReaderReadRow.holds Try.pinned (OpenSpec.ofChange fnPeekReaderReadWrong)

/-- 'laws.FnReadUntil': WHATEVER THE INPUT: true; the input reads as it did. -/
def fnReadUntilSpec : ChangeSpec := { name := "fnReadUntil", fn := fun _ => fun
  | [d] => { results := [.lit (.bool true)], args := [d] }
  | _ => none }
def fnReadUntilRow : OpenClaim := { program := "ytbgbkemamipomaa", sum := "14d0f16e141b01f0c939de7bff657c3a6e7d8937ff6083723e431f042b94e223", func := "loop.example/streamlayers/laws.FnReadUntil", spec := "fnReadUntil", apart := false }
def FnReadUntilSaid : Prop := fnReadUntilRow.holds Try.pinned (OpenSpec.ofChange fnReadUntilSpec)

/-- ITS FALSE NEIGHBOUR: 'it returns false'. Refute it at one input. -/
def fnReadUntilWrong : ChangeSpec := { name := "fnReadUntil", fn := fun _ => fun
  | [d] => { results := [.lit (.bool false)], args := [d] }
  | _ => none }
def FnReadUntilWrongFalsely : Prop := fnReadUntilRow.holds Try.pinned (OpenSpec.ofChange fnReadUntilWrong)

/-- 'laws.FnTellReader': WHATEVER THE INPUT: true; the input reads as it did. -/
def fnTellReaderSpec : ChangeSpec := { name := "fnTellReader", fn := fun _ => fun
  | [d] => { results := [.lit (.bool true)], args := [d] }
  | _ => none }
def fnTellReaderRow : OpenClaim := { program := "ytbgbkemamipomaa", sum := "14d0f16e141b01f0c939de7bff657c3a6e7d8937ff6083723e431f042b94e223", func := "loop.example/streamlayers/laws.FnTellReader", spec := "fnTellReader", apart := false }
def FnTellReaderSaid : Prop := fnTellReaderRow.holds Try.pinned (OpenSpec.ofChange fnTellReaderSpec)

/-- ITS FALSE NEIGHBOUR: 'it returns false'. Refute it at one input. -/
def fnTellReaderWrong : ChangeSpec := { name := "fnTellReader", fn := fun _ => fun
  | [d] => { results := [.lit (.bool false)], args := [d] }
  | _ => none }
def FnTellReaderWrongFalsely : Prop := fnTellReaderRow.holds Try.pinned (OpenSpec.ofChange fnTellReaderWrong)

/-- 'laws.FnSeekReader': WHATEVER THE INPUT: true; the input reads as it did. -/
def fnSeekReaderSpec : ChangeSpec := { name := "fnSeekReader", fn := fun _ => fun
  | [d] => { results := [.lit (.bool true)], args := [d] }
  | _ => none }
def fnSeekReaderRow : OpenClaim := { program := "ytbgbkemamipomaa", sum := "14d0f16e141b01f0c939de7bff657c3a6e7d8937ff6083723e431f042b94e223", func := "loop.example/streamlayers/laws.FnSeekReader", spec := "fnSeekReader", apart := false }
def FnSeekReaderSaid : Prop := fnSeekReaderRow.holds Try.pinned (OpenSpec.ofChange fnSeekReaderSpec)

/-- ITS FALSE NEIGHBOUR: 'it returns false'. Refute it at one input. -/
def fnSeekReaderWrong : ChangeSpec := { name := "fnSeekReader", fn := fun _ => fun
  | [d] => { results := [.lit (.bool false)], args := [d] }
  | _ => none }
def FnSeekReaderWrongFalsely : Prop := fnSeekReaderRow.holds Try.pinned (OpenSpec.ofChange fnSeekReaderWrong)

/-- 'laws.FnSeekReaderBack': WHATEVER THE INPUT: true; the input reads as it did. -/
def fnSeekReaderBackSpec : ChangeSpec := { name := "fnSeekReaderBack", fn := fun _ => fun
  | [d] => { results := [.lit (.bool true)], args := [d] }
  | _ => none }
def fnSeekReaderBackRow : OpenClaim := { program := "ytbgbkemamipomaa", sum := "14d0f16e141b01f0c939de7bff657c3a6e7d8937ff6083723e431f042b94e223", func := "loop.example/streamlayers/laws.FnSeekReaderBack", spec := "fnSeekReaderBack", apart := false }
def FnSeekReaderBackSaid : Prop := fnSeekReaderBackRow.holds Try.pinned (OpenSpec.ofChange fnSeekReaderBackSpec)

/-- ITS FALSE NEIGHBOUR: 'it returns false'. Refute it at one input. -/
def fnSeekReaderBackWrong : ChangeSpec := { name := "fnSeekReaderBack", fn := fun _ => fun
  | [d] => { results := [.lit (.bool false)], args := [d] }
  | _ => none }
def FnSeekReaderBackWrongFalsely : Prop := fnSeekReaderBackRow.holds Try.pinned (OpenSpec.ofChange fnSeekReaderBackWrong)

/- THE SECOND FORM. 'bulk': how many values and letters a reading holds, each counted each time it is reached (what is shared counts as often as it is met; a slice's spare places count too). A statement '..UptoSaid' is the law's where the arguments, and the package variables that the reading takes, are together of bulk at most 1048576: NARROWER than '..Said'. Prove '..Said' where nothing that the law and all that it calls make is longer than what came in: it says more and counts as full. Else prove '..UptoSaid'. A law counts once. -/
mutual
def uptoBulk {H : Type} : DataW H → Nat
  | .lit (.string bytes) => bytes.length + 1
  | .lit _ => 1
  | .nil => 1
  | .ptr d => uptoBulk d + 1
  | .slice elems spare => uptoBulkAll elems + uptoBulkAll spare + 1
  | .agg parts => uptoBulkAll parts + 1
  | .iface _ d => uptoBulk d + 1
  | .map entries => uptoBulkEntries entries + 1
  | .held _ => 1
def uptoBulkAll {H : Type} : List (DataW H) → Nat
  | [] => 0
  | d :: r => uptoBulk d + uptoBulkAll r
def uptoBulkEntries {H : Type} : List (Lit × DataW H) → Nat
  | [] => 0
  | x :: r => uptoBulkEntry x + uptoBulkEntries r
def uptoBulkEntry {H : Type} : Lit × DataW H → Nat
  | (.string bytes, d) => bytes.length + uptoBulk d + 1
  | (_, d) => uptoBulk d + 1
 end
def uptoSmall : (H : Type) → List (DataW H) → Bool := fun _ ds => decide (uptoBulkAll ds ≤ 1048576)
def OpenSpec.upto (s : _root_.Go.ChangeSpec) : _root_.Go.OpenSpec := { _root_.Go.OpenSpec.ofChange s with cond := some uptoSmall }

/-- 'laws.FnValidReader', WHERE WHAT IT READS IS OF BULK AT MOST 1048576: true; the input reads as it did. -/
def fnValidReaderUptoRow : OpenClaim := { program := "ytbgbkemamipomaa", sum := "14d0f16e141b01f0c939de7bff657c3a6e7d8937ff6083723e431f042b94e223", func := "loop.example/streamlayers/laws.FnValidReader", spec := "fnValidReader", apart := false, narrowed := true }
def FnValidReaderUptoSaid : Prop := fnValidReaderUptoRow.holds Try.pinned (OpenSpec.upto fnValidReaderSpec)

/-- 'laws.FnReadSome', WHERE WHAT IT READS IS OF BULK AT MOST 1048576: true; the input reads as it did. -/
def fnReadSomeUptoRow : OpenClaim := { program := "ytbgbkemamipomaa", sum := "14d0f16e141b01f0c939de7bff657c3a6e7d8937ff6083723e431f042b94e223", func := "loop.example/streamlayers/laws.FnReadSome", spec := "fnReadSome", apart := false, narrowed := true }
def FnReadSomeUptoSaid : Prop := fnReadSomeUptoRow.holds Try.pinned (OpenSpec.upto fnReadSomeSpec)

/-- 'laws.FnReadFull', WHERE WHAT IT READS IS OF BULK AT MOST 1048576: true; the input reads as it did. -/
def fnReadFullUptoRow : OpenClaim := { program := "ytbgbkemamipomaa", sum := "14d0f16e141b01f0c939de7bff657c3a6e7d8937ff6083723e431f042b94e223", func := "loop.example/streamlayers/laws.FnReadFull", spec := "fnReadFull", apart := false, narrowed := true }
def FnReadFullUptoSaid : Prop := fnReadFullUptoRow.holds Try.pinned (OpenSpec.upto fnReadFullSpec)

/-- 'laws.FnReadFullSmooth', WHERE WHAT IT READS IS OF BULK AT MOST 1048576: true; the input reads as it did. -/
def fnReadFullSmoothUptoRow : OpenClaim := { program := "ytbgbkemamipomaa", sum := "14d0f16e141b01f0c939de7bff657c3a6e7d8937ff6083723e431f042b94e223", func := "loop.example/streamlayers/laws.FnReadFullSmooth", spec := "fnReadFullSmooth", apart := false, narrowed := true }
def FnReadFullSmoothUptoSaid : Prop := fnReadFullSmoothUptoRow.holds Try.pinned (OpenSpec.upto fnReadFullSmoothSpec)

/-- 'laws.FnReadFullTwice', WHERE WHAT IT READS IS OF BULK AT MOST 1048576: true; the input reads as it did. -/
def fnReadFullTwiceUptoRow : OpenClaim := { program := "ytbgbkemamipomaa", sum := "14d0f16e141b01f0c939de7bff657c3a6e7d8937ff6083723e431f042b94e223", func := "loop.example/streamlayers/laws.FnReadFullTwice", spec := "fnReadFullTwice", apart := false, narrowed := true }
def FnReadFullTwiceUptoSaid : Prop := fnReadFullTwiceUptoRow.holds Try.pinned (OpenSpec.upto fnReadFullTwiceSpec)

/-- 'laws.FnReadRest', WHERE WHAT IT READS IS OF BULK AT MOST 1048576: true; the input reads as it did. -/
def fnReadRestUptoRow : OpenClaim := { program := "ytbgbkemamipomaa", sum := "14d0f16e141b01f0c939de7bff657c3a6e7d8937ff6083723e431f042b94e223", func := "loop.example/streamlayers/laws.FnReadRest", spec := "fnReadRest", apart := false, narrowed := true }
def FnReadRestUptoSaid : Prop := fnReadRestUptoRow.holds Try.pinned (OpenSpec.upto fnReadRestSpec)

/-- 'laws.FnPeekReader', WHERE WHAT IT READS IS OF BULK AT MOST 1048576: true; the input reads as it did. -/
def fnPeekReaderUptoRow : OpenClaim := { program := "ytbgbkemamipomaa", sum := "14d0f16e141b01f0c939de7bff657c3a6e7d8937ff6083723e431f042b94e223", func := "loop.example/streamlayers/laws.FnPeekReader", spec := "fnPeekReader", apart := false, narrowed := true }
def FnPeekReaderUptoSaid : Prop := fnPeekReaderUptoRow.holds Try.pinned (OpenSpec.upto fnPeekReaderSpec)

/-- 'laws.FnPeekReaderRead', WHERE WHAT IT READS IS OF BULK AT MOST 1048576: true; the input reads as it did. -/
def fnPeekReaderReadUptoRow : OpenClaim := { program := "ytbgbkemamipomaa", sum := "14d0f16e141b01f0c939de7bff657c3a6e7d8937ff6083723e431f042b94e223", func := "loop.example/streamlayers/laws.FnPeekReaderRead", spec := "fnPeekReaderRead", apart := false, narrowed := true }
def FnPeekReaderReadUptoSaid : Prop := fnPeekReaderReadUptoRow.holds Try.pinned (OpenSpec.upto fnPeekReaderReadSpec)

/-- 'laws.FnReadUntil', WHERE WHAT IT READS IS OF BULK AT MOST 1048576: true; the input reads as it did. -/
def fnReadUntilUptoRow : OpenClaim := { program := "ytbgbkemamipomaa", sum := "14d0f16e141b01f0c939de7bff657c3a6e7d8937ff6083723e431f042b94e223", func := "loop.example/streamlayers/laws.FnReadUntil", spec := "fnReadUntil", apart := false, narrowed := true }
def FnReadUntilUptoSaid : Prop := fnReadUntilUptoRow.holds Try.pinned (OpenSpec.upto fnReadUntilSpec)

/-- 'laws.FnTellReader', WHERE WHAT IT READS IS OF BULK AT MOST 1048576: true; the input reads as it did. -/
def fnTellReaderUptoRow : OpenClaim := { program := "ytbgbkemamipomaa", sum := "14d0f16e141b01f0c939de7bff657c3a6e7d8937ff6083723e431f042b94e223", func := "loop.example/streamlayers/laws.FnTellReader", spec := "fnTellReader", apart := false, narrowed := true }
def FnTellReaderUptoSaid : Prop := fnTellReaderUptoRow.holds Try.pinned (OpenSpec.upto fnTellReaderSpec)

/-- 'laws.FnSeekReader', WHERE WHAT IT READS IS OF BULK AT MOST 1048576: true; the input reads as it did. -/
def fnSeekReaderUptoRow : OpenClaim := { program := "ytbgbkemamipomaa", sum := "14d0f16e141b01f0c939de7bff657c3a6e7d8937ff6083723e431f042b94e223", func := "loop.example/streamlayers/laws.FnSeekReader", spec := "fnSeekReader", apart := false, narrowed := true }
def FnSeekReaderUptoSaid : Prop := fnSeekReaderUptoRow.holds Try.pinned (OpenSpec.upto fnSeekReaderSpec)

/-- 'laws.FnSeekReaderBack', WHERE WHAT IT READS IS OF BULK AT MOST 1048576: true; the input reads as it did. -/
def fnSeekReaderBackUptoRow : OpenClaim := { program := "ytbgbkemamipomaa", sum := "14d0f16e141b01f0c939de7bff657c3a6e7d8937ff6083723e431f042b94e223", func := "loop.example/streamlayers/laws.FnSeekReaderBack", spec := "fnSeekReaderBack", apart := false, narrowed := true }
def FnSeekReaderBackUptoSaid : Prop := fnSeekReaderBackUptoRow.holds Try.pinned (OpenSpec.upto fnSeekReaderBackSpec)

end Rows
end Go.Proofs.Ytbgbkemamipomaa
