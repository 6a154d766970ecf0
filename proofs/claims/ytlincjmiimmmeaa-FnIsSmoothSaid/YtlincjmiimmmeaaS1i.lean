/- Contracts of the model's CutDevice. -/
import Derived.Test.YtlincjmiimmmeaaC1i
namespace Go.Proofs.Ytlincjmiimmmeaa
open Go.ChangeShapes Go.WideShapes Go.ChangeAt Go.RowKit
set_option linter.unusedSimpArgs false
set_option linter.unusedVariables false


end Go.Proofs.Ytlincjmiimmmeaa
