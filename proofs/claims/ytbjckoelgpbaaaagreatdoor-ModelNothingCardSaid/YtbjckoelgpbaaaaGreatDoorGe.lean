/- the document's rings: CheckRing -/
import Derived.Test.YtbjckoelgpbaaaaGreatDoorGd
namespace Go.Proofs.YtbjckoelgpbaaaaGreatDoor
set_option linter.unusedVariables false
open Go.ChangeShapes Go.WideShapes Go.ChangeAt Go.RowKit

end Go.Proofs.YtbjckoelgpbaaaaGreatDoor
