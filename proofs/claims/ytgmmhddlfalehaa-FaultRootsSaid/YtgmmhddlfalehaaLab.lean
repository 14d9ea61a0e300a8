/- FaultRoots: the walk -/
import Derived.Test.YtgmmhddlfalehaaLaa
namespace Go.Proofs.Ytgmmhddlfalehaa
open Go.ChangeShapes Go.WideShapes Go.ChangeAt Go.RowKit
theorem walk_FaultRoots (W : World) (T : Nd) (c0 c1 c2 c3 : Value) (h : NdAt W T [c0, c1, c2, c3]) : Calls Try.prog 4 #[.agg #[c0, c1, c2, c3]] W fun e w' => e = .returned (.bool true) ∧ Gr W w' := roots_core T c0 c1 c2 c3 W h
end Go.Proofs.Ytgmmhddlfalehaa
