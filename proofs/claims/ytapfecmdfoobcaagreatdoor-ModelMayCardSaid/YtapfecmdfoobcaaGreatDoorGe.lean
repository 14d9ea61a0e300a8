/- the document's rings: CheckRing -/
import Derived.Test.YtapfecmdfoobcaaGreatDoorGd
namespace Go.Proofs.YtapfecmdfoobcaaGreatDoor
set_option linter.unusedVariables false
open Go.ChangeShapes Go.WideShapes Go.ChangeAt Go.RowKit

end Go.Proofs.YtapfecmdfoobcaaGreatDoor
