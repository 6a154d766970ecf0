/- Contracts of the drawing functions: a script. -/
import Derived.Test.YtkgjcoakeliocaaDoorD4
namespace Go.Proofs.YtkgjcoakeliocaaDoor
open Go.ChangeShapes Go.WideShapes Go.ChangeAt Go.RowKit
set_option linter.unusedSimpArgs false
set_option linter.unusedVariables false

end Go.Proofs.YtkgjcoakeliocaaDoor
