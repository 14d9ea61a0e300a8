/- the walks of WideOver, WideOrder, WideSquares -/
import Derived.Test.YtfamocpbmbhmbaaDoorB
namespace Go.Proofs.YtfamocpbmbhmbaaDoor
set_option linter.unusedVariables false
open Go.ChangeShapes Go.WideShapes Go.ChangeAt Go.RowKit

theorem val_zero (n : Nat) : val 0 n = n := by unfold val; omega
/-- All digits turned. -/
theorem xor_all (b : Nat) (h : Wd b) : bits BinOp.xor IntKind.u64 IntKind.u64.max (b : Int) = ((18446744073709551615 - b : Nat) : Int) := by
  have e := bits_xor_u64_nat 18446744073709551615 b (by omega) h
  have hm : IntKind.u64.max = ((18446744073709551615 : Nat) : Int) := rfl
  rw [hm, e]
  congr 1
  have h1 : (BitVec.allOnes 64 ^^^ BitVec.ofNat 64 b).toNat = 18446744073709551615 ^^^ b := by
    rw [BitVec.toNat_xor, BitVec.toNat_ofNat, Nat.mod_eq_of_lt h]
    rfl
  have h2 : (~~~ (BitVec.ofNat 64 b)).toNat = 18446744073709551615 - b := by
    rw [BitVec.toNat_not, BitVec.toNat_ofNat, Nat.mod_eq_of_lt h]
  rw [← h1, ← h2, BitVec.not_def]

end Go.Proofs.YtfamocpbmbhmbaaDoor
