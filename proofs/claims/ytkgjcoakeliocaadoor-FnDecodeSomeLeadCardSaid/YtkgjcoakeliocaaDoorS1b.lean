/- Contracts of the model's copies. -/
import Derived.Test.YtkgjcoakeliocaaDoorApp
import Derived.Test.YtkgjcoakeliocaaDoorC1f
namespace Go.Proofs.YtkgjcoakeliocaaDoor
open Go.ChangeShapes Go.WideShapes Go.ChangeAt Go.RowKit
set_option linter.unusedSimpArgs false
set_option linter.unusedVariables false

/-- A row of the call's own that reads as xs. -/
def OwnPost (xs : List Int) (w : World) (e : Ending) (w' : World) : Prop := ∃ v, e = .returned v ∧ Below w.heap.size w w' ∧ OwnI w' w.heap.size v xs.length xs
end Go.Proofs.YtkgjcoakeliocaaDoor
