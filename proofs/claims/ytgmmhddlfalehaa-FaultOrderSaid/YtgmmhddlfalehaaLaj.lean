/- FaultOrder -/
import Derived.Test.YtgmmhddlfalehaaLai
namespace Go.Proofs.Ytgmmhddlfalehaa
set_option linter.unusedVariables false
open Go.ChangeShapes Go.WideShapes Go.ChangeAt Go.RowKit
theorem walk_FaultOrder (W : World) (v : Value) (n : Nat) (kids : Nat → Nd) (cut : Int) (h : NdsAt W v n kids) (hc : -9223372036854775808 ≤ cut ∧ cut ≤ 9223372036854775807) : Calls Try.prog 5 #[v, .int .i64 cut] W fun e w' => e = .returned (.bool true) ∧ Gr W w' := order_core v n kids cut hc W h
end Go.Proofs.Ytgmmhddlfalehaa
