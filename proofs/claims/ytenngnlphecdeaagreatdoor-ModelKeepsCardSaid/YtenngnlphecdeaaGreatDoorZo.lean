/- the document's own MeetsBox and SegDist; SegmAsks -/
import Derived.Test.YtenngnlphecdeaaGreatDoorZm
import Derived.Test.YtenngnlphecdeaaGreatDoorZn
import Derived.Test.YtenngnlphecdeaaGreatDoorRs
import Derived.Test.YtenngnlphecdeaaGreatDoorPn
namespace Go.Proofs.YtenngnlphecdeaaGreatDoor
set_option linter.unusedVariables false
open Go.ChangeShapes Go.WideShapes Go.ChangeAt Go.RowKit

theorem val_join (n : Nat) : val (n / 18446744073709551616) (n % 18446744073709551616) = n := by unfold val; omega
theorem eqPt4 (ax ay bx by' : Int) (w : World) : (binOp .eql 37 (.agg #[.int .i64 ax, .int .i64 ay]) (.agg #[.int .i64 bx, .int .i64 by'])).run Tryz.prog w = .ok (.bool (decide (ax = bx ∧ ay = by'))) w := eqPt ax ay bx by' w
end Go.Proofs.YtenngnlphecdeaaGreatDoor
