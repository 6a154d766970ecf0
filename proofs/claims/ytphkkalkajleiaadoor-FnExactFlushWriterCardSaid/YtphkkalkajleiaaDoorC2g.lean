/- Contracts of canRead, the program's, and of goodReader, the model's. -/
import Derived.Test.YtphkkalkajleiaaDoorS2a
import Derived.Test.YtphkkalkajleiaaDoorC1d
namespace Go.Proofs.YtphkkalkajleiaaDoor
open Go.ChangeShapes Go.WideShapes Go.ChangeAt Go.RowKit
set_option linter.unusedSimpArgs false
set_option linter.unusedVariables false

/-- A reader that can be read. -/
def goodR (D : List Int) (p : Int) (S : List Int) (q : Int) (R : List Int) (z : Int) : Bool := validR D p S q R z && decide (q ≤ 900)
theorem goodR_iff {D S R : List Int} {p q z : Int} : goodR D p S q R z = true ↔ validR D p S q R z = true ∧ q ≤ 900 := by simp [goodR]


end Go.Proofs.YtphkkalkajleiaaDoor
