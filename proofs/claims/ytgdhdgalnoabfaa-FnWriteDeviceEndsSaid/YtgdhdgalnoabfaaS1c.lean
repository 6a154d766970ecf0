/- Contracts of IsSmooth, the model's. -/
import Derived.Test.YtgdhdgalnoabfaaC1c
namespace Go.Proofs.Ytgdhdgalnoabfaa
open Go.ChangeShapes Go.WideShapes Go.ChangeAt Go.RowKit
set_option linter.unusedSimpArgs false
set_option linter.unusedVariables false

end Go.Proofs.Ytgdhdgalnoabfaa
