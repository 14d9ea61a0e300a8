/- the document's own long division: the walk -/
import Derived.Test.YtfamocpbmbhmbaaDoorRj
namespace Go.Proofs.YtfamocpbmbhmbaaDoor
set_option linter.unusedVariables false
open Go.ChangeShapes Go.WideShapes Go.ChangeAt Go.RowKit

end Go.Proofs.YtfamocpbmbhmbaaDoor
