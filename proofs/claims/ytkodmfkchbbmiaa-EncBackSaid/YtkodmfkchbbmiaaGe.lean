/- the document's rings: CheckRing -/
import Derived.Test.YtkodmfkchbbmiaaGd
namespace Go.Proofs.Ytkodmfkchbbmiaa
set_option linter.unusedVariables false
open Go.ChangeShapes Go.WideShapes Go.ChangeAt Go.RowKit

end Go.Proofs.Ytkodmfkchbbmiaa
