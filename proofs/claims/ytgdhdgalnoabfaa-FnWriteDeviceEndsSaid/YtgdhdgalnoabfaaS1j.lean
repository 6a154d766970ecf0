/- Contract of the model's CallsToEnd; both in the laws' form. -/
import Derived.Test.YtgdhdgalnoabfaaC1j
namespace Go.Proofs.Ytgdhdgalnoabfaa
open Go.ChangeShapes Go.WideShapes Go.ChangeAt Go.RowKit
set_option linter.unusedSimpArgs false
set_option linter.unusedVariables false


end Go.Proofs.Ytgdhdgalnoabfaa
