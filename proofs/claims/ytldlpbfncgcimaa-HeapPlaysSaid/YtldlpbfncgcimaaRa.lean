/- ratio: what its functions answer -/
import Derived.Test.YtldlpbfncgcimaaQ
import Derived.Test.YtldlpbfncgcimaaO
import Derived.Test.YtldlpbfncgcimaaJ
import Derived.Test.YtldlpbfncgcimaaS
namespace Go.Proofs.Ytldlpbfncgcimaa
set_option linter.unusedVariables false
open Go.ChangeShapes Go.WideShapes Go.ChangeAt Go.RowKit

theorem c_numerator (h l d : Int) (w : World) : Calls Try.prog 54 #[.agg #[.int .u64 h, .int .u64 l, .int .u64 d]] w fun e w' => e = .returned (.agg #[.int .u64 h, .int .u64 l]) ∧ Gr w w' := by
  go_enter Try.func54, Try.ntmps54
  go_wp2
  go_returns
  exact ⟨rfl, by go_grown⟩
theorem c_Sound (h l : Int) (d : Nat) (w : World) : Calls Try.prog 52 #[.agg #[.int .u64 h, .int .u64 l, .int .u64 d]] w fun e w' => e = .returned (.bool (decide (d ≠ 0))) ∧ Gr w w' := by
  by_cases hd : d = 0
  · subst hd
    go_enter Try.func52, Try.ntmps52
    go_wp2
    go_ret
    exact ⟨rfl, by go_grown⟩
  · have e : ((d : Int) == 0) = false := by simp; omega
    have e2 : ((d : Int) != 0) = true := by simp; omega
    rw [decide_eq_true hd]
    go_enter Try.func52, Try.ntmps52
    go_wp2
    go_ret
    exact ⟨by first | rfl | simp [e2], by go_grown⟩
/-- The two words of a number. -/
theorem val_split (n : Nat) (h : n < 340282366920938463463374607431768211456) : val (n / 18446744073709551616) (n % 18446744073709551616) = n ∧ Wd (n / 18446744073709551616) ∧ Wd (n % 18446744073709551616) := by
  unfold val Wd; omega
/-- The denominator that is left. -/
def lowD (n d : Nat) : Nat := d / Nat.gcd d (n % d)
/-- The numerator that is left. -/
def lowN (n d : Nat) : Nat := n / Nat.gcd d (n % d)
end Go.Proofs.Ytldlpbfncgcimaa
