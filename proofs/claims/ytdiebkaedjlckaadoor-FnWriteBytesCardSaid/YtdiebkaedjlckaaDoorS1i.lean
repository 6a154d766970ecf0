/- Contracts of the model's CutDevice. -/
import Derived.Test.YtdiebkaedjlckaaDoorC1i
namespace Go.Proofs.YtdiebkaedjlckaaDoor
open Go.ChangeShapes Go.WideShapes Go.ChangeAt Go.RowKit
set_option linter.unusedSimpArgs false
set_option linter.unusedVariables false


end Go.Proofs.YtdiebkaedjlckaaDoor
