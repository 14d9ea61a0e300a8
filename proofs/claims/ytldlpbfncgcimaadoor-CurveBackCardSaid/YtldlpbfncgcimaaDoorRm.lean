/- the document's own products: words -/
import Derived.Test.YtldlpbfncgcimaaDoorRk
namespace Go.Proofs.YtldlpbfncgcimaaDoor
set_option linter.unusedVariables false
open Go.ChangeShapes Go.WideShapes Go.ChangeAt Go.RowKit

theorem mask32 (v : Nat) (h : Wd v) : bits BinOp.and IntKind.u64 (v : Int) 4294967295 = ((v % 4294967296 : Nat) : Int) := by
  have e := bits_and_u64_nat v 4294967295 h (by omega)
  rw [show (4294967295 : Nat) = 2 ^ 32 - 1 from rfl, Nat.and_two_pow_sub_one_eq_mod] at e
  exact e
/-- A word of 32 bits. -/
def Hw (a : Nat) : Prop := a < 4294967296
theorem hw_mul {a b : Nat} (ha : Hw a) (hb : Hw b) : a * b ≤ 4294967295 * 4294967295 := Nat.mul_le_mul (by unfold Hw at ha; omega) (by unfold Hw at hb; omega)
end Go.Proofs.YtldlpbfncgcimaaDoor
