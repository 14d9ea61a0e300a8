/- EncOrder -/
import Derived.Test.YtkodmfkchbbmiaaEk
namespace Go.Proofs.Ytkodmfkchbbmiaa
set_option linter.unusedVariables false
open Go.ChangeShapes Go.WideShapes Go.ChangeAt Go.RowKit

end Go.Proofs.Ytkodmfkchbbmiaa
