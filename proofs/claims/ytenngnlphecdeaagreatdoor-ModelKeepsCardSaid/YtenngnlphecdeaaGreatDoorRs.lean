/- the document's own boxes, once more -/
import Derived.Test.YtenngnlphecdeaaGreatDoorPq
namespace Go.Proofs.YtenngnlphecdeaaGreatDoor
set_option linter.unusedVariables false
open Go.ChangeShapes Go.WideShapes Go.ChangeAt Go.RowKit

end Go.Proofs.YtenngnlphecdeaaGreatDoor
