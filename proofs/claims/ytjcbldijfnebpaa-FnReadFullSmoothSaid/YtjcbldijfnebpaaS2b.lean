/- Contracts of the model's tellReader and TellReader. -/
import Derived.Test.YtjcbldijfnebpaaC2b
import Derived.Test.YtjcbldijfnebpaaS2a
namespace Go.Proofs.Ytjcbldijfnebpaa
open Go.ChangeShapes Go.WideShapes Go.ChangeAt Go.RowKit
set_option linter.unusedSimpArgs false
set_option linter.unusedVariables false

end Go.Proofs.Ytjcbldijfnebpaa
