/- FrameAdds -/
import Derived.Test.YtilijbplfobneaaDoorFe
import Derived.Test.YtilijbplfobneaaDoorEa
import Derived.Deep.RegionWith
namespace Go.Proofs.YtilijbplfobneaaDoor
set_option linter.unusedVariables false
open Go.ChangeShapes Go.WideShapes Go.ChangeAt Go.RowKit

theorem xor8 {a b : Nat} (ha : a < 256) (hb : b < 256) : bits BinOp.xor IntKind.u8 (a : Int) (b : Int) = ((a ^^^ b : Nat) : Int) := by
  have h1 : (BitVec.ofInt 8 (a : Int)).toNat = a := by rw [BitVec.ofInt_natCast, BitVec.toNat_ofNat]; exact Nat.mod_eq_of_lt (by omega)
  have h2 : (BitVec.ofInt 8 (b : Int)).toNat = b := by rw [BitVec.ofInt_natCast, BitVec.toNat_ofNat]; exact Nat.mod_eq_of_lt (by omega)
  show IntKind.u8.wrap ((BitVec.ofInt 8 (a : Int) ^^^ BitVec.ofInt 8 (b : Int)).toNat : Int) = _
  rw [BitVec.toNat_xor, h1, h2, wraps_u8', Nat.mod_eq_of_lt (Nat.xor_lt_two_pow (n := 8) ha hb)]
theorem over_len (A B C : List UInt8) (h1 : A.length = B.length) (h2 : A.length = C.length) : (Cr.over3 A B C).length = A.length := by
  unfold Cr.over3; simp only [List.length_zipWith]; omega
theorem over_at (A B C : List UInt8) (h1 : A.length = B.length) (h2 : A.length = C.length) (i : Nat) (h : i < A.length) :
    Cr.over3 (A.take (i + 1)) (B.take (i + 1)) (C.take (i + 1)) = Cr.over3 (A.take i) (B.take i) (C.take i) ++ [A[i] ^^^ B[i]'(by omega) ^^^ C[i]'(by omega)] := by
  unfold Cr.over3
  rw [List.take_succ_eq_append_getElem h, List.take_succ_eq_append_getElem (l := B) (by omega), List.take_succ_eq_append_getElem (l := C) (by omega)]
  rw [List.zipWith_append (by simp; omega), List.zipWith_append (by simp; omega)]
  rfl
theorem bv_over (A B C : List UInt8) (i : Nat) (ha : i < A.length) (hb : i < B.length) (hc : i < C.length) : bv (A[i] ^^^ B[i] ^^^ C[i]) = .int .u8 ((rb A i ^^^ rb B i ^^^ rb C i : Nat) : Int) := by
  unfold bv rb
  rw [UInt8.toNat_xor, UInt8.toNat_xor, getD_at _ ha, getD_at _ hb, getD_at _ hc]
end Go.Proofs.YtilijbplfobneaaDoor
