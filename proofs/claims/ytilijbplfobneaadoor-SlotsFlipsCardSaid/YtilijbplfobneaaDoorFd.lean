/- frame: Put -/
import Derived.Test.YtilijbplfobneaaDoorFc
import Derived.Test.YtilijbplfobneaaDoorEa
import Derived.Test.YtilijbplfobneaaDoorEt
import Derived.OwnWalk
namespace Go.Proofs.YtilijbplfobneaaDoor
set_option linter.unusedVariables false
open Go.ChangeShapes Go.WideShapes Go.ChangeAt Go.RowKit

theorem own_gr' {a b : World} {base : Nat} {v : Value} {L : List UInt8} (h : Own a base v L) (g : Gr a b) : Own b base v L := rowOwn_gr h g
theorem wd_len (v : Nat) : (wd v).length = 4 := rfl
/-- The framed bytes. -/
def fr (L : List UInt8) : List UInt8 := (wd L.length ++ L) ++ wd (Cr.sum (wd L.length ++ L))
theorem fr_len (L : List UInt8) : (fr L).length = L.length + 8 := by unfold fr; simp only [List.length_append, wd_len]; omega
end Go.Proofs.YtilijbplfobneaaDoor
