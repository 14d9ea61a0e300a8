/- what the document fixes of wide: awake answers true; and three more functions -/
import Derived.Test.YtfamocpbmbhmbaaDoorT
namespace Go.Proofs.YtfamocpbmbhmbaaDoor
set_option linter.unusedVariables false
open Go.ChangeShapes Go.WideShapes Go.ChangeAt Go.RowKit

theorem val_words (n : Nat) : val (n / 18446744073709551616) (n % 18446744073709551616) = n := by
  unfold val
  rw [Nat.mul_comm]
  exact Nat.div_add_mod n 18446744073709551616
theorem wd_mod (n : Nat) : Wd (n % 18446744073709551616) := Nat.mod_lt _ (by omega)
end Go.Proofs.YtfamocpbmbhmbaaDoor
