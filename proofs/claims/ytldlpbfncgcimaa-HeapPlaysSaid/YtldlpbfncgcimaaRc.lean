/- ratio: what the document fixes; RatioNears, RatioWhole -/
import Derived.Test.YtldlpbfncgcimaaRb
namespace Go.Proofs.Ytldlpbfncgcimaa
set_option linter.unusedVariables false
open Go.ChangeShapes Go.WideShapes Go.ChangeAt Go.RowKit

theorem p2_Sound (w : World) : Calls Try.prog 52 #[.agg #[.int .u64 0, .int .u64 0, .int .u64 0]] w fun e w' => e = .returned (.bool false) ∧ Gr w w' := c_Sound 0 0 0 w
end Go.Proofs.Ytldlpbfncgcimaa
