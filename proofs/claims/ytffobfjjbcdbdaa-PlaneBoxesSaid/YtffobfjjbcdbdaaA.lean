/- what the document fixes of wide: awake answers true; and three more functions -/
import Derived.Test.YtffobfjjbcdbdaaT
namespace Go.Proofs.Ytffobfjjbcdbdaa
set_option linter.unusedVariables false
open Go.ChangeShapes Go.WideShapes Go.ChangeAt Go.RowKit

theorem val_words (n : Nat) : val (n / 18446744073709551616) (n % 18446744073709551616) = n := by
  unfold val
  rw [Nat.mul_comm]
  exact Nat.div_add_mod n 18446744073709551616
theorem wd_mod (n : Nat) : Wd (n % 18446744073709551616) := Nat.mod_lt _ (by omega)
theorem a_Mul (w : World) : Calls Try.prog 51 #[.int .u64 9223372036854775808, .int .u64 4] w fun e w' => e = .returned (.agg #[.int .u64 2, .int .u64 0]) ∧ Gr w w' :=
  c_Mul 9223372036854775808 4 (by unfold Wd; omega) (by unfold Wd; omega) w
end Go.Proofs.Ytffobfjjbcdbdaa
