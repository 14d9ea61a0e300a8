/- disk: New, Read, op -/
import Derived.Test.YtpomllpplpalkaaGreatDoorDa
import Derived.Test.YtpomllpplpalkaaGreatDoorBk
namespace Go.Proofs.YtpomllpplpalkaaGreatDoor
set_option linter.unusedVariables false
set_option linter.unusedSimpArgs false
open Go.ChangeShapes Go.WideShapes Go.ChangeAt Go.RowKit Go.Maps

section
variable {p g bm : Nat} {M : Option Nat}
theorem KI : Keyed Tryz.prog 3 := int_keyed Tryz.underlying3
end
end Go.Proofs.YtpomllpplpalkaaGreatDoor
