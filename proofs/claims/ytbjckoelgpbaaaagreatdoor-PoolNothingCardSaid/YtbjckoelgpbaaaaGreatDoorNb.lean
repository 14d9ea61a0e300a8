/- the document's disk: Cut; Write and Sync where they are refused -/
import Derived.Test.YtbjckoelgpbaaaaGreatDoorNa
namespace Go.Proofs.YtbjckoelgpbaaaaGreatDoor
set_option linter.unusedVariables false
set_option linter.unusedSimpArgs false
open Go.ChangeShapes Go.WideShapes Go.ChangeAt Go.RowKit Go.Maps

section
variable {base q : Nat} {Z : Nat → Prop} {d : Dk} {gv av nv : Value} {gs ns : List Value} {dl : Int}
theorem cutAt_ok (h : d.ok) (n : Int) (hn : -9223372036854775808 ≤ n ∧ n ≤ 9223372036854775807) : Dk.ok { d with cut := true, left := n } := ⟨h.n1, h.n2, h.len, h.nodup, h.lt, h.sz, h.ops, (fun e => by cases e), Lib.hid hn⟩
end
end Go.Proofs.YtbjckoelgpbaaaaGreatDoor
