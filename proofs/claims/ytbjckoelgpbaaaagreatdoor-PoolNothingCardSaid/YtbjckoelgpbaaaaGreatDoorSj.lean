/- slots: Set -/
import Derived.Test.YtbjckoelgpbaaaaGreatDoorSg
namespace Go.Proofs.YtbjckoelgpbaaaaGreatDoor
set_option linter.unusedVariables false
set_option linter.unusedSimpArgs false
open Go.ChangeShapes Go.WideShapes Go.ChangeAt Go.RowKit

section
variable {B : Nat} {C : Option Nat} {kd id : Int} {S : List Sl}
end
end Go.Proofs.YtbjckoelgpbaaaaGreatDoor
