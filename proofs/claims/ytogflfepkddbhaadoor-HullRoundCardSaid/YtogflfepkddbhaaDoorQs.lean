/- What all laws of this seat ask of the program, once. -/
import Derived.Test.YtogflfepkddbhaaDoorRows
import Derived.JoinedCond
import Derived.ProofKit
namespace Go.Proofs.YtogflfepkddbhaaDoor.Qs
open Go.ChangeShapes Go.WideShapes

theorem laid : laidOutB Tryd.prog = true := by kernel_rfl
theorem laidP : laidOutB Tryd.pinned.checked.prog = true := laid
theorem maps : mapsRowed Tryd.pinned.checked.prog = true := by kernel_rfl
end Go.Proofs.YtogflfepkddbhaaDoor.Qs
