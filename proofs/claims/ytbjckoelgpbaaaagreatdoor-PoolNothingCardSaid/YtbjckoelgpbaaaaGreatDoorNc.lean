/- both disks show the same -/
import Derived.Test.YtbjckoelgpbaaaaGreatDoorDy
namespace Go.Proofs.YtbjckoelgpbaaaaGreatDoor
set_option linter.unusedVariables false
set_option linter.unusedSimpArgs false
open Go.ChangeShapes Go.WideShapes Go.ChangeAt Go.RowKit Go.Maps

section
variable {base p g bm q : Nat} {M : Option Nat} {Z : Nat → Prop} {d : Dk} {gv av nv : Value} {gs ns : List Value} {dl : Int}
end
end Go.Proofs.YtbjckoelgpbaaaaGreatDoor
