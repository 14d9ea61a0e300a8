/- the document's own squares, and fractions over one -/
import Derived.Test.YtldlpbfncgcimaaDoorRn
import Derived.Test.YtldlpbfncgcimaaDoorQ
import Derived.Test.YtldlpbfncgcimaaDoorP
namespace Go.Proofs.YtldlpbfncgcimaaDoor
set_option linter.unusedVariables false
open Go.ChangeShapes Go.WideShapes Go.ChangeAt Go.RowKit

end Go.Proofs.YtldlpbfncgcimaaDoor
