/- the document's rings: CheckRing -/
import Derived.Test.YtenngnlphecdeaaGreatDoorGd
namespace Go.Proofs.YtenngnlphecdeaaGreatDoor
set_option linter.unusedVariables false
open Go.ChangeShapes Go.WideShapes Go.ChangeAt Go.RowKit

end Go.Proofs.YtenngnlphecdeaaGreatDoor
