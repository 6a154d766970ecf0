/- Contracts of the drawing functions: a script. -/
import Derived.Test.YtlekbmlacinkdaaD4
namespace Go.Proofs.Ytlekbmlacinkdaa
open Go.ChangeShapes Go.WideShapes Go.ChangeAt Go.RowKit
set_option linter.unusedSimpArgs false
set_option linter.unusedVariables false

end Go.Proofs.Ytlekbmlacinkdaa
