/- the document's own boxes, once more -/
import Derived.Test.YtfamocpbmbhmbaaDoorPq
namespace Go.Proofs.YtfamocpbmbhmbaaDoor
set_option linter.unusedVariables false
open Go.ChangeShapes Go.WideShapes Go.ChangeAt Go.RowKit

end Go.Proofs.YtfamocpbmbhmbaaDoor
