/- Contracts of a reader at work: how it is made, its place; TellReader. -/
import Derived.Test.YtbphijnhcpcclaaC2a
import Derived.Test.YtbphijnhcpcclaaC1b
import Derived.Test.YtbphijnhcpcclaaS1d
import Derived.Deep.RegionHeld3
namespace Go.Proofs.Ytbphijnhcpcclaa
open Go.ChangeShapes Go.WideShapes Go.ChangeAt Go.RowKit
set_option linter.unusedSimpArgs false
set_option linter.unusedVariables false

/-- A reader at work in block b, its slices in new memory below that. -/
def LookPost (D : List Int) (p : Int) (S : List Int) (q : Int) (R : List Int) (z : Int) (w : World) (e : Ending) (w' : World) : Prop :=
  ∃ b A n c A' n' c' A2 n2 c2, e = .returned (.pointer (some ⟨b, 0, none⟩)) ∧ (n ≤ c ∧ n' ≤ c' ∧ n2 ≤ c2) ∧ Below w.heap.size w w' ∧ w.heap.size ≤ b ∧ Box w' b [.slice (A) n c, .int .i64 (p), .slice (A') n' c', .int .i64 (q), .slice (A2) n2 c2, .int .i64 (z)] ∧
    Ints w' w.heap.size b A n D ∧ Ints w' w.heap.size b A' n' S ∧ Ints w' w.heap.size b A2 n2 R ∧ Apart A n A' n' ∧ Apart A2 n2 A n ∧ Apart A2 n2 A' n'
def tellOut (D : List Int) (p : Int) (S : List Int) (q : Int) (R : List Int) (z : Int) : Int := if validR D p S q R z then p - (R.length : Int) else -1
end Go.Proofs.Ytbphijnhcpcclaa
