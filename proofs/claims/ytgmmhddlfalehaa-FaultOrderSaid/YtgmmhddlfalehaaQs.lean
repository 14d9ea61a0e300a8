/- What all laws of this seat ask of the program, once. -/
import Derived.Test.YtgmmhddlfalehaaRows
import Derived.JoinedCond
import Derived.ProofKit
namespace Go.Proofs.Ytgmmhddlfalehaa.Qs
open Go.ChangeShapes Go.WideShapes

theorem laid : laidOutB Try.prog = true := by kernel_rfl
theorem laidP : laidOutB Try.pinned.checked.prog = true := laid
theorem maps : mapsRowed Try.pinned.checked.prog = true := by kernel_rfl
end Go.Proofs.Ytgmmhddlfalehaa.Qs
