/- the document's rings: over, clash -/
import Derived.Test.YtapfecmdfoobcaaGreatDoorGc
import Derived.Test.YtapfecmdfoobcaaGreatDoorZe
import Derived.Deep.RegionWith
import Derived.BigRegion
import Derived.Test.YtapfecmdfoobcaaGreatDoorRj
import Derived.Test.YtapfecmdfoobcaaGreatDoorPq
import Derived.Test.YtapfecmdfoobcaaGreatDoorPa
import Derived.Test.YtapfecmdfoobcaaGreatDoorH
namespace Go.Proofs.YtapfecmdfoobcaaGreatDoor
set_option linter.unusedVariables false
open Go.ChangeShapes Go.WideShapes Go.ChangeAt Go.RowKit

end Go.Proofs.YtapfecmdfoobcaaGreatDoor
