/- Contracts of the model's CutDevice. -/
import Derived.Test.YtgdhdgalnoabfaaC1i
namespace Go.Proofs.Ytgdhdgalnoabfaa
open Go.ChangeShapes Go.WideShapes Go.ChangeAt Go.RowKit
set_option linter.unusedSimpArgs false
set_option linter.unusedVariables false


end Go.Proofs.Ytgdhdgalnoabfaa
