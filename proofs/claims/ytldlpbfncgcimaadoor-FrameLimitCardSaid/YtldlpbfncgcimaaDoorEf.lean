/- enc: the document's Unvarint -/
import Derived.Test.YtldlpbfncgcimaaDoorEd
import Derived.Test.YtldlpbfncgcimaaDoorEe
namespace Go.Proofs.YtldlpbfncgcimaaDoor
set_option linter.unusedVariables false
open Go.ChangeShapes Go.WideShapes Go.ChangeAt Go.RowKit

theorem step_word (acc c i : Nat) (ha : Wd acc) (hc : c < 256) : bits BinOp.or IntKind.u64 (acc : Int) (IntKind.u64.wrap (IntKind.u64.wrap (bits BinOp.and IntKind.u8 (c : Int) 127) * 2 ^ (7 * i))) = ((Ec.stp acc c i : Nat) : Int) := by
  have e := (bits_nat .u8 8 (by decide) (fun n h0 h1 => wraps_u8 n h0 h1) c 127 (by omega) (by omega)).1
  rw [show c &&& 127 = c % 128 from Nat.and_two_pow_sub_one_eq_mod c 7] at e
  have e' : bits BinOp.and IntKind.u8 (c : Int) 127 = ((c % 128 : Nat) : Int) := e
  rw [e', show IntKind.u64.wrap ((c % 128 : Nat) : Int) = ((c % 128 : Nat) : Int) by rw [IntKind.wrap_u64]; omega]
  have e2 : IntKind.u64.wrap (((c % 128 : Nat) : Int) * 2 ^ (7 * i)) = (((c % 128) * 2 ^ (7 * i) % 18446744073709551616 : Nat) : Int) := by
    rw [show ((c % 128 : Nat) : Int) * 2 ^ (7 * i) = ((c % 128 * 2 ^ (7 * i) : Nat) : Int) by rw [Int.natCast_mul, Int.natCast_pow]; rfl, IntKind.wrap_u64]
    exact (Int.natCast_emod _ _).symm
  rw [e2]
  unfold Wd at ha
  exact (bits_nat .u64 64 (by decide) (fun n h0 h1 => by rw [IntKind.wrap_u64]; omega) acc _ (by omega) (by omega)).2
end Go.Proofs.YtldlpbfncgcimaaDoor
