/- FaultAsks -/
import Derived.Test.YtgmmhddlfalehaaLaf
namespace Go.Proofs.Ytgmmhddlfalehaa
set_option linter.unusedVariables false
open Go.ChangeShapes Go.WideShapes Go.ChangeAt Go.RowKit
theorem walk_FaultAsks (W : World) (T : Nd) (c0 c1 c2 c3 : Value) (o : ByteArray) (h : NdAt W T [c0, c1, c2, c3]) (hs : o.size ≤ maxLen) : Calls Try.prog 3 #[.agg #[c0, c1, c2, c3], .string o] W fun e w' => e = .returned (.bool true) ∧ Gr W w' := asks_core T c0 c1 c2 c3 o W h
end Go.Proofs.Ytgmmhddlfalehaa
