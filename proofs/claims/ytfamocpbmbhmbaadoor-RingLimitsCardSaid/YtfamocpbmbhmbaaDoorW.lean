/- wide's functions, by what they answer. -/
import Derived.Test.YtfamocpbmbhmbaaDoorF
import Derived.Test.YtfamocpbmbhmbaaDoorG
namespace Go.Proofs.YtfamocpbmbhmbaaDoor
set_option linter.unusedVariables false
open Go.ChangeShapes Go.WideShapes Go.ChangeAt Go.RowKit

/-- The number of two words. -/
def val (hi lo : Nat) : Nat := hi * 18446744073709551616 + lo
/-- A word. -/
def Wd (a : Nat) : Prop := a < 18446744073709551616
/-- How a stands to b. -/
def cmpN (a b : Nat) : Int := if a < b then -1 else if b < a then 1 else 0

/-- A word that came in. -/
theorem u64_nat {z : Int} (h : (Lit.int .u64 z).wf = true) : ∃ a : Nat, z = a ∧ Wd a := by
  have hb := bounds_u64 h
  refine ⟨z.toNat, (Int.toNat_of_nonneg hb.1).symm, ?_⟩
  have h2 : z < 18446744073709551616 := by omega
  exact (Int.toNat_lt hb.1).2 h2

theorem cmpN_lt {a b : Nat} (h : a < b) : cmpN a b = -1 := if_pos h
theorem cmpN_gt {a b : Nat} (h : b < a) : cmpN a b = 1 := by unfold cmpN; rw [if_neg (by omega), if_pos h]
theorem cmpN_eq {a b : Nat} (h : a = b) : cmpN a b = 0 := by unfold cmpN; rw [if_neg (by omega), if_neg (by omega)]
theorem mulHi {a b : Nat} (ha : Wd a) (hb : Wd b) : a * b / 18446744073709551616 ≤ 18446744073709551614 := by
  unfold Wd at *
  have h1 : a * b ≤ 18446744073709551615 * 18446744073709551615 := Nat.mul_le_mul (by omega) (by omega)
  omega
end Go.Proofs.YtfamocpbmbhmbaaDoor
