/- the document's rings: CheckRing -/
import Derived.Test.YtkldgfpkjaokaaaGd
namespace Go.Proofs.Ytkldgfpkjaokaaa
set_option linter.unusedVariables false
open Go.ChangeShapes Go.WideShapes Go.ChangeAt Go.RowKit

end Go.Proofs.Ytkldgfpkjaokaaa
