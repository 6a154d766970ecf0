/- Contracts of the model's ReadDevice. -/
import Derived.Test.YtdiebkaedjlckaaS1b
import Derived.Deep.DeepCutAuto
namespace Go.Proofs.Ytdiebkaedjlckaa
open Go.ChangeShapes Go.WideShapes Go.ChangeAt Go.RowKit
set_option linter.unusedSimpArgs false
set_option linter.unusedVariables false

def IntB (k : Int) (w : World) (e : Ending) (w' : World) : Prop := e = .returned (.int .i64 k) ∧ Below w.heap.size w w'

/-- A device with the same memory, and ints in new memory. -/
def SReadPost (A : Option Addr) (n c : Nat) (p : Int) (A' : Option Addr) (n' c' a : Nat) (D : List Int) (k N : Int) (w : World) (e : Ending) (w' : World) : Prop :=
  ∃ A1 n1 c1, e = .returned (.tuple #[.agg #[.slice (A) n c, .int .i64 (p + ((rdL D p k N).length : Int)), .slice (A') n' c', .int .i64 ((a : Int) + 1)], .slice A1 n1 c1, .int .i64 (rdSt D p k)]) ∧ n1 ≤ c1 ∧ Below w.heap.size w w' ∧ Ints w' w.heap.size w'.heap.size A1 n1 (rdL D p k N)

end Go.Proofs.Ytdiebkaedjlckaa
