/- the document's own squares, and fractions over one -/
import Derived.Test.YtfamocpbmbhmbaaDoorRn
import Derived.Test.YtfamocpbmbhmbaaDoorQ
import Derived.Test.YtfamocpbmbhmbaaDoorP
namespace Go.Proofs.YtfamocpbmbhmbaaDoor
set_option linter.unusedVariables false
open Go.ChangeShapes Go.WideShapes Go.ChangeAt Go.RowKit

end Go.Proofs.YtfamocpbmbhmbaaDoor
