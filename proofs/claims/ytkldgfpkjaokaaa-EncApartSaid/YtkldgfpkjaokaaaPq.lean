/- plane: Union of any boxes; the document's; the numbers of errors; the document's own points; PlanePoints; PlanePoints -/
import Derived.Test.YtkldgfpkjaokaaaPa
import Derived.Test.YtkldgfpkjaokaaaCp
import Derived.Test.YtkldgfpkjaokaaaRi
import Derived.Test.YtkldgfpkjaokaaaH
import Derived.Test.YtkldgfpkjaokaaaRj
namespace Go.Proofs.Ytkldgfpkjaokaaa
set_option linter.unusedVariables false
open Go.ChangeShapes Go.WideShapes Go.ChangeAt Go.RowKit

/-- The least number of the first k, the first one's own too; the greatest. -/
def accMin (A : Nat → Int) : Nat → Int
  | 0 => A 0
  | k + 1 => minZ (accMin A k) (A k)
def accMax (A : Nat → Int) : Nat → Int
  | 0 => A 0
  | k + 1 => maxZ (accMax A k) (A k)
end Go.Proofs.Ytkldgfpkjaokaaa
namespace Go.Proofs.Ytkldgfpkjaokaaa
set_option linter.unusedVariables false
open Go.ChangeShapes Go.WideShapes Go.ChangeAt Go.RowKit

end Go.Proofs.Ytkldgfpkjaokaaa
namespace Go.Proofs.Ytkldgfpkjaokaaa
set_option linter.unusedVariables false
open Go.ChangeShapes Go.WideShapes Go.ChangeAt Go.RowKit

theorem nat_sq (x : Int) : ((x.natAbs * x.natAbs : Nat) : Int) = x * x := by
  rw [Int.natCast_mul]
  rcases Int.le_total 0 x with h | h
  · rw [Int.natAbs_of_nonneg h]
  · rw [Int.ofNat_natAbs_of_nonpos h, Int.neg_mul_neg]
end Go.Proofs.Ytkldgfpkjaokaaa
