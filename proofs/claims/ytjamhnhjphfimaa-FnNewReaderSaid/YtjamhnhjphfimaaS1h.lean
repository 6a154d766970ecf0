/- Contracts of the model's SeekDevice. -/
import Derived.Test.YtjamhnhjphfimaaC1h
namespace Go.Proofs.Ytjamhnhjphfimaa
open Go.ChangeShapes Go.WideShapes Go.ChangeAt Go.RowKit
set_option linter.unusedSimpArgs false
set_option linter.unusedVariables false


end Go.Proofs.Ytjamhnhjphfimaa
