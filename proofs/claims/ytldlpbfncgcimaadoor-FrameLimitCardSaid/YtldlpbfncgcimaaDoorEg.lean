/- enc: Unvarint -/
import Derived.Test.YtldlpbfncgcimaaDoorEf
namespace Go.Proofs.YtldlpbfncgcimaaDoor
set_option linter.unusedVariables false
open Go.ChangeShapes Go.WideShapes Go.ChangeAt Go.RowKit

end Go.Proofs.YtldlpbfncgcimaaDoor
