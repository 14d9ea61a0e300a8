/- the document's own boxes, once more -/
import Derived.Test.YtagbodamehejmaaGreatDoorPq
namespace Go.Proofs.YtagbodamehejmaaGreatDoor
set_option linter.unusedVariables false
open Go.ChangeShapes Go.WideShapes Go.ChangeAt Go.RowKit

end Go.Proofs.YtagbodamehejmaaGreatDoor
