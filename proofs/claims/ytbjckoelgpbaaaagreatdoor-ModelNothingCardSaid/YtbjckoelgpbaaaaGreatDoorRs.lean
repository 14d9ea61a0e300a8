/- the document's own boxes, once more -/
import Derived.Test.YtbjckoelgpbaaaaGreatDoorPq
namespace Go.Proofs.YtbjckoelgpbaaaaGreatDoor
set_option linter.unusedVariables false
open Go.ChangeShapes Go.WideShapes Go.ChangeAt Go.RowKit

end Go.Proofs.YtbjckoelgpbaaaaGreatDoor
