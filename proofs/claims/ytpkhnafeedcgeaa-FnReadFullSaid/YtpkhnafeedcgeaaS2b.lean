/- Contracts of the model's tellReader and TellReader. -/
import Derived.Test.YtpkhnafeedcgeaaC2b
import Derived.Test.YtpkhnafeedcgeaaS2a
namespace Go.Proofs.Ytpkhnafeedcgeaa
open Go.ChangeShapes Go.WideShapes Go.ChangeAt Go.RowKit
set_option linter.unusedSimpArgs false
set_option linter.unusedVariables false

end Go.Proofs.Ytpkhnafeedcgeaa
