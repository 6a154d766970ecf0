/- Contract of the model's CallsToEnd; both in the laws' form. -/
import Derived.Test.YtdiebkaedjlckaaC1j
namespace Go.Proofs.Ytdiebkaedjlckaa
open Go.ChangeShapes Go.WideShapes Go.ChangeAt Go.RowKit
set_option linter.unusedSimpArgs false
set_option linter.unusedVariables false


end Go.Proofs.Ytdiebkaedjlckaa
