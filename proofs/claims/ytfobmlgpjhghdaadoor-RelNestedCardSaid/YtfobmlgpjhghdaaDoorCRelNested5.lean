/- What RelNested leans on: Qs -/
import Derived.Test.YtfobmlgpjhghdaaDoorCRelNested4
import Derived.Test.YtfobmlgpjhghdaaDoorRows
import Derived.JoinedCond
import Derived.ProofKit
namespace Go.Proofs.YtfobmlgpjhghdaaDoor.Qs
open Go.ChangeShapes Go.WideShapes
theorem laid : laidOutB Tryd.prog = true := by kernel_rfl
theorem laidP : laidOutB Tryd.pinned.checked.prog = true := laid
theorem maps : mapsRowed Tryd.pinned.checked.prog = true := by kernel_rfl
end Go.Proofs.YtfobmlgpjhghdaaDoor.Qs
