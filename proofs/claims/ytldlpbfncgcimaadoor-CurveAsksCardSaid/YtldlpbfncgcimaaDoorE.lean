/- the document's own sums and comparisons -/
import Derived.Test.YtldlpbfncgcimaaDoorB
import Derived.Test.YtldlpbfncgcimaaDoorH
import Derived.Deep.DeepCutAuto
namespace Go.Proofs.YtldlpbfncgcimaaDoor
set_option linter.unusedVariables false
open Go.ChangeShapes Go.WideShapes Go.ChangeAt Go.RowKit

end Go.Proofs.YtldlpbfncgcimaaDoor
