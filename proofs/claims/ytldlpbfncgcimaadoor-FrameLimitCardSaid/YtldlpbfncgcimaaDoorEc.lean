/- enc: the document's Varint, and numbers with a sign -/
import Derived.Test.YtldlpbfncgcimaaDoorEb
namespace Go.Proofs.YtldlpbfncgcimaaDoor
set_option linter.unusedVariables false
open Go.ChangeShapes Go.WideShapes Go.ChangeAt Go.RowKit

theorem and127 (v : Nat) (hv : Wd v) : bits BinOp.and IntKind.u64 (v : Int) 127 = ((v % 128 : Nat) : Int) := by
  have e := (bits_nat .u64 64 (by decide) (fun n h0 h1 => by rw [IntKind.wrap_u64]; omega) v 127 (by unfold Wd at hv; omega) (by omega)).1
  rw [show v &&& 127 = v % 128 from Nat.and_two_pow_sub_one_eq_mod v 7] at e
  exact e
theorem or128w (v : Nat) : bits BinOp.or IntKind.u64 ((v % 128 : Nat) : Int) 128 = ((v % 128 + 128 : Nat) : Int) := by
  have e := (bits_nat .u64 64 (by decide) (fun n h0 h1 => by rw [IntKind.wrap_u64]; omega) (v % 128) 128 (by omega) (by omega)).2
  rw [Ec.low_or] at e
  exact e
end Go.Proofs.YtldlpbfncgcimaaDoor
