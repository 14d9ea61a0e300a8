/- slots: a page with whatever slots: what is refused; Get, Set, Slots, Free, New -/
import Derived.Test.YtkbdhhmkdjajgaaDoorSc
namespace Go.Proofs.YtkbdhhmkdjajgaaDoor
set_option linter.unusedVariables false
set_option linter.unusedSimpArgs false
open Go.ChangeShapes Go.WideShapes Go.ChangeAt Go.RowKit

section
variable {B : Nat} {C : Option Nat} {kd id : Int} {S : List Sl}
abbrev intL (l : List Nat) : List Value := l.map fun (k : Nat) => Value.int .i64 (k : Int)
end
end Go.Proofs.YtkbdhhmkdjajgaaDoor
