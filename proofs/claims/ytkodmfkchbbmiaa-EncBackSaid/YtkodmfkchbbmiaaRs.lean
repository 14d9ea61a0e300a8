/- the document's own boxes, once more -/
import Derived.Test.YtkodmfkchbbmiaaPq
namespace Go.Proofs.Ytkodmfkchbbmiaa
set_option linter.unusedVariables false
open Go.ChangeShapes Go.WideShapes Go.ChangeAt Go.RowKit

end Go.Proofs.Ytkodmfkchbbmiaa
