/- EncObjects -/
import Derived.Test.YtbjckoelgpbaaaaGreatDoorEx
import Derived.Test.YtbjckoelgpbaaaaGreatDoorEm
namespace Go.Proofs.YtbjckoelgpbaaaaGreatDoor
set_option linter.unusedVariables false
set_option linter.unusedSimpArgs false
open Go.ChangeShapes Go.WideShapes Go.ChangeAt Go.RowKit

end Go.Proofs.YtbjckoelgpbaaaaGreatDoor
