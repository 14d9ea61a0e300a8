/- ratio: what its functions answer -/
import Derived.Test.YtfamocpbmbhmbaaDoorQ
import Derived.Test.YtfamocpbmbhmbaaDoorO
import Derived.Test.YtfamocpbmbhmbaaDoorJ
import Derived.Test.YtfamocpbmbhmbaaDoorS
namespace Go.Proofs.YtfamocpbmbhmbaaDoor
set_option linter.unusedVariables false
open Go.ChangeShapes Go.WideShapes Go.ChangeAt Go.RowKit

/-- The two words of a number. -/
theorem val_split (n : Nat) (h : n < 340282366920938463463374607431768211456) : val (n / 18446744073709551616) (n % 18446744073709551616) = n ∧ Wd (n / 18446744073709551616) ∧ Wd (n % 18446744073709551616) := by
  unfold val Wd; omega
/-- The denominator that is left. -/
def lowD (n d : Nat) : Nat := d / Nat.gcd d (n % d)
/-- The numerator that is left. -/
def lowN (n d : Nat) : Nat := n / Nat.gcd d (n % d)
end Go.Proofs.YtfamocpbmbhmbaaDoor
