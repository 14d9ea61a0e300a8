/- frame: a bit turned in a byte -/
import Derived.Test.YtmcbanplpgooeaaDoorFo
namespace Go.Proofs.YtmcbanplpgooeaaDoor
set_option linter.unusedVariables false
open Go.ChangeShapes Go.WideShapes Go.ChangeAt Go.RowKit

/-- One bit of a byte turned. -/
theorem flip8 {x j : Nat} (hx : x < 256) (hj : j < 8) : ∃ y : Nat, y < 256 ∧ y ≠ x ∧ bits BinOp.xor IntKind.u8 (x : Int) ((2 ^ j : Nat) : Int) = (y : Int) := by
  have hp : 2 ^ j < 256 := Nat.lt_of_lt_of_le (Nat.pow_lt_pow_right (by decide) hj) (by decide)
  refine ⟨x ^^^ 2 ^ j, Nat.xor_lt_two_pow (n := 8) hx hp, fun e => ?_, xor8 hx hp⟩
  have h0 : 0 < 2 ^ j := Nat.two_pow_pos j
  have h : 2 ^ j = 0 := by
    have h2 := congrArg (· ^^^ x) e
    simp only [Nat.xor_self] at h2
    rw [Nat.xor_comm x, Nat.xor_assoc, Nat.xor_self, Nat.xor_zero] at h2
    exact h2
  omega
theorem shl8 {j : Nat} (hj : j < 8) : IntKind.u8.wrap (1 * 2 ^ j) = ((2 ^ j : Nat) : Int) := by
  have hp : 2 ^ j < 256 := Nat.lt_of_lt_of_le (Nat.pow_lt_pow_right (by decide) hj) (by decide)
  rw [Int.one_mul, show ((2 : Int) ^ j) = ((2 ^ j : Nat) : Int) by rw [Int.natCast_pow]; rfl, wraps_u8', Nat.mod_eq_of_lt hp]
end Go.Proofs.YtmcbanplpgooeaaDoor
