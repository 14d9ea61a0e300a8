/- the document's own boxes, once more -/
import Derived.Test.YtlkciinhhagjiaaDoorPq
namespace Go.Proofs.YtlkciinhhagjiaaDoor
set_option linter.unusedVariables false
open Go.ChangeShapes Go.WideShapes Go.ChangeAt Go.RowKit

end Go.Proofs.YtlkciinhhagjiaaDoor
