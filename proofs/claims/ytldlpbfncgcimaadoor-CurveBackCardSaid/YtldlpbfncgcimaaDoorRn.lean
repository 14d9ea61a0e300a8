/- the document's own products -/
import Derived.Test.YtldlpbfncgcimaaDoorRm
namespace Go.Proofs.YtldlpbfncgcimaaDoor
set_option linter.unusedVariables false
open Go.ChangeShapes Go.WideShapes Go.ChangeAt Go.RowKit

theorem or_words (x y : Nat) (hx : Hw x) (hy : Hw y) : bits BinOp.or IntKind.u64 (x : Int) ((y * 4294967296 : Nat) : Int) = ((x + y * 4294967296 : Nat) : Int) := by
  refine or_u64 x (y * 4294967296) (by unfold Hw at hx; unfold Wd; omega) (by unfold Hw at hy; unfold Wd; omega) ?_
  have h := Nat.two_pow_add_eq_or_of_lt (i := 32) (b := x) (by unfold Hw at hx; omega) y
  rw [show 2 ^ 32 * y = y * 4294967296 by omega] at h
  rw [Nat.or_comm, ← h, Nat.add_comm]
end Go.Proofs.YtldlpbfncgcimaaDoor
