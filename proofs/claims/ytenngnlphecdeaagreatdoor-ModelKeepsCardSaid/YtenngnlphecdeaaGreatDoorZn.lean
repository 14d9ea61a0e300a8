/- the document's own segments: On, Proper, Meet, SegDist -/
import Derived.Test.YtenngnlphecdeaaGreatDoorZe
import Derived.Test.YtenngnlphecdeaaGreatDoorRj
namespace Go.Proofs.YtenngnlphecdeaaGreatDoor
set_option linter.unusedVariables false
open Go.ChangeShapes Go.WideShapes Go.ChangeAt Go.RowKit

theorem orZ_far {ax ay bx by' cx cy : Int} (h : (nearB ax ay && nearB bx by' && nearB cx cy) = false) : orZ ax ay bx by' cx cy = 0 := by
  unfold orZ crossZ
  rw [if_neg (by rw [h]; simp), cmpZ_eq]
end Go.Proofs.YtenngnlphecdeaaGreatDoor
