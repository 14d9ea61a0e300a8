/- the document's own sums, against the program's: WideAdds -/
import Derived.Test.YtldlpbfncgcimaaDoorE
import Derived.Test.YtldlpbfncgcimaaDoorI
namespace Go.Proofs.YtldlpbfncgcimaaDoor
set_option linter.unusedVariables false
open Go.ChangeShapes Go.WideShapes Go.ChangeAt Go.RowKit

end Go.Proofs.YtldlpbfncgcimaaDoor
