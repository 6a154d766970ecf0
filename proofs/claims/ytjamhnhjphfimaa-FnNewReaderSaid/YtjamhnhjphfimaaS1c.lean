/- Contracts of IsSmooth, the model's. -/
import Derived.Test.YtjamhnhjphfimaaC1c
namespace Go.Proofs.Ytjamhnhjphfimaa
open Go.ChangeShapes Go.WideShapes Go.ChangeAt Go.RowKit
set_option linter.unusedSimpArgs false
set_option linter.unusedVariables false

end Go.Proofs.Ytjamhnhjphfimaa
