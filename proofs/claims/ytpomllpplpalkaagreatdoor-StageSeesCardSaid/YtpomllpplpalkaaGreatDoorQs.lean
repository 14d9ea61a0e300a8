/- What all laws of this seat ask of the program, once. -/
import Derived.Test.YtpomllpplpalkaaGreatDoorRows
import Derived.JoinedCond
import Derived.ProofKit
namespace Go.Proofs.YtpomllpplpalkaaGreatDoor.Qs
open Go.ChangeShapes Go.WideShapes

theorem laid : laidOutB Tryz.prog = true := by kernel_rfl
theorem laidP : laidOutB Tryz.pinned.checked.prog = true := laid
theorem maps : mapsRowed Tryz.pinned.checked.prog = true := by kernel_rfl
end Go.Proofs.YtpomllpplpalkaaGreatDoor.Qs
