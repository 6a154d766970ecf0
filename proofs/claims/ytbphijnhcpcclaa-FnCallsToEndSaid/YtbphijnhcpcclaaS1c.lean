/- Contracts of IsSmooth, the model's. -/
import Derived.Test.YtbphijnhcpcclaaC1c
namespace Go.Proofs.Ytbphijnhcpcclaa
open Go.ChangeShapes Go.WideShapes Go.ChangeAt Go.RowKit
set_option linter.unusedSimpArgs false
set_option linter.unusedVariables false

end Go.Proofs.Ytbphijnhcpcclaa
