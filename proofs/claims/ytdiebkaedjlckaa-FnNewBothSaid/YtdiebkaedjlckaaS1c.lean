/- Contracts of IsSmooth, the model's. -/
import Derived.Test.YtdiebkaedjlckaaC1f
namespace Go.Proofs.Ytdiebkaedjlckaa
open Go.ChangeShapes Go.WideShapes Go.ChangeAt Go.RowKit
set_option linter.unusedSimpArgs false
set_option linter.unusedVariables false

end Go.Proofs.Ytdiebkaedjlckaa
