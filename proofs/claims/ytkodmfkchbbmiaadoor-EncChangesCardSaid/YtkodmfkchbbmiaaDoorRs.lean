/- the document's own boxes, once more -/
import Derived.Test.YtkodmfkchbbmiaaDoorPq
namespace Go.Proofs.YtkodmfkchbbmiaaDoor
set_option linter.unusedVariables false
open Go.ChangeShapes Go.WideShapes Go.ChangeAt Go.RowKit

end Go.Proofs.YtkodmfkchbbmiaaDoor
