/- curve: refusals, spread, Z -/
import Derived.Test.YtldlpbfncgcimaaDoorCc
import Derived.Deep.LoopGhost
import Derived.Test.YtldlpbfncgcimaaDoorCa
import Derived.Test.YtldlpbfncgcimaaDoorCp
namespace Go.Proofs.YtldlpbfncgcimaaDoor
set_option linter.unusedVariables false
open Go.ChangeShapes Go.WideShapes Go.ChangeAt Go.RowKit

set_option maxRecDepth 100000 in
theorem c_New (op : ByteArray) (id k : Int) (W : World) : Calls Tryd.prog 44 #[.string op, .int .i64 id, .iface 82 (.int .i64 k)] W fun e w' => ∃ B, e = .returned (.iface 90 (.pointer (some ⟨B, 0, none⟩))) ∧ W.heap.size ≤ B ∧ FaultAt w' B op id k ∧ Gr W w' := by
  go_enter Tryd.func44, Tryd.ntmps44
  go_wp2_with fail
  go_ret
  exact ⟨_, rfl, Nat.le_refl _, ⟨by go_simp, by go_simp, by go_simp⟩, by go_grown⟩
/-- 'curve'. -/
def curveS : ByteArray := ⟨#[99, 117, 114, 118, 101]⟩
def Refused (W : World) (k : Int) (e : Ending) (w' : World) : Prop := ∃ B, e = .returned (.iface 90 (.pointer (some ⟨B, 0, none⟩))) ∧ W.heap.size ≤ B ∧ FaultAt w' B curveS 0 k ∧ Gr W w'
set_option maxRecDepth 100000 in
theorem c_refuse (k : Int) (W : World) : Calls Tryd.prog 53 #[.iface 82 (.int .i64 k)] W (Refused W k) := by
  go_enter Tryd.func53, Tryd.ntmps53
  go_wp2_with fail
  go_at_call 44
  refine (c_New _ _ _ _).mono ?_
  rintro e w1 ⟨B, rfl, hB, hF, hg⟩
  go_wp2_with fail
  go_ret
  exact ⟨B, rfl, hB, hF, hg⟩

theorem bi_and (a b : Nat) (ha : a < 9223372036854775808) (hb : b < 9223372036854775808) : bits BinOp.and IntKind.i64 (a : Int) (b : Int) = ((a &&& b : Nat) : Int) :=
  (bits_nat .i64 63 (by decide) (fun n h0 h1 => by rw [IntKind.wrap_i64]; omega) a b (by omega) (by omega)).1
theorem bi_or (a b : Nat) (ha : a < 9223372036854775808) (hb : b < 9223372036854775808) : bits BinOp.or IntKind.i64 (a : Int) (b : Int) = ((a ||| b : Nat) : Int) :=
  (bits_nat .i64 63 (by decide) (fun n h0 h1 => by rw [IntKind.wrap_i64]; omega) a b (by omega) (by omega)).2
theorem bi_xor (a b : Nat) (ha : a < 9223372036854775808) (hb : b < 9223372036854775808) : bits BinOp.xor IntKind.i64 (a : Int) (b : Int) = ((a ^^^ b : Nat) : Int) := by
  have hx : a ^^^ b < 2 ^ 63 := Nat.xor_lt_two_pow (by omega) (by omega)
  have h1 : (BitVec.ofInt 64 (a : Int)).toNat = a := by
    rw [BitVec.ofInt_natCast, BitVec.toNat_ofNat]; exact Nat.mod_eq_of_lt (by omega)
  have h2 : (BitVec.ofInt 64 (b : Int)).toNat = b := by
    rw [BitVec.ofInt_natCast, BitVec.toNat_ofNat]; exact Nat.mod_eq_of_lt (by omega)
  show IntKind.i64.wrap ((BitVec.ofInt 64 (a : Int) ^^^ BitVec.ofInt 64 (b : Int)).toNat : Int) = _
  rw [BitVec.toNat_xor, h1, h2, IntKind.wrap_i64]
  omega
theorem or_spr (n j : Nat) (hj : j ≤ 30) : bits BinOp.or IntKind.u64 (Cv.spr n j : Int) ((n / 2 ^ j % 2 * 4 ^ j : Nat) : Int) = (Cv.spr n (j + 1) : Int) := by
  have h1 := Cv.spr_lt n j
  have h2 : (4 : Nat) ^ j ≤ 4 ^ 30 := Nat.pow_le_pow_right (by omega) hj
  have h3 : n / 2 ^ j % 2 * 4 ^ j ≤ 1 * 4 ^ j := Nat.mul_le_mul_right _ (by omega)
  rw [show (4 : Nat) ^ 30 = 1152921504606846976 from rfl] at h2
  have e := bits_or_u64_nat (Cv.spr n j) (n / 2 ^ j % 2 * 4 ^ j) (by omega) (by omega)
  rw [e]
  congr 1
  show Cv.spr n j ||| n / 2 ^ j % 2 * 4 ^ j = Cv.spr n j + n / 2 ^ j % 2 * 4 ^ j
  have e4 : (4 : Nat) ^ j = 2 ^ (2 * j) := by rw [Nat.pow_mul]
  have := Nat.two_pow_add_eq_or_of_lt (i := 2 * j) (b := Cv.spr n j) (by rw [← e4]; omega) (n / 2 ^ j % 2)
  rw [← e4] at this
  rw [Nat.or_comm, Nat.mul_comm, ← this, Nat.add_comm]
set_option maxHeartbeats 2000000 in
set_option maxRecDepth 100000 in
theorem c_spread (n : Nat) (hn : n < 2147483648) (w : World) : Calls Tryd.prog 54 #[.int .i64 n] w fun e w' => e = .returned (.int .u64 (Cv.spr n 31 : Nat)) ∧ Gr w w' := by
  go_enter Tryd.func54, Tryd.ntmps54
  go_wp2_with fail
  go_loopg [3, 5] 31 (fun k v i wr => ∃ j : Nat, j + k = 31 ∧ i = .int .i64 j ∧ v = .int .u64 (Cv.spr n j : Nat) ∧ Gr w wr)
  case atStart => exact ⟨0, by omega, rfl, rfl, by go_grown⟩
  case round =>
    obtain ⟨j, hk, rfl, rfl, gwr⟩ := hrel
    by_cases hj : j < 31
    · have t1 : decide ((j : Int) < 31) = true := decide_eq_true (by omega)
      have t2 : (j : Int) ≤ 30 := by omega
      have t3 : (0 : Int) ≤ (j : Int) := by omega
      obtain ⟨q, eq⟩ : ∃ q, q = n / 2 ^ j := ⟨_, rfl⟩
      obtain ⟨b, eb⟩ : ∃ b, b = q % 2 := ⟨_, rfl⟩
      obtain ⟨P, eP⟩ : ∃ P, P = 4 ^ j := ⟨_, rfl⟩
      obtain ⟨s, es⟩ : ∃ s, s = Cv.spr n j := ⟨_, rfl⟩
      obtain ⟨s', es'⟩ : ∃ s, s = Cv.spr n (j + 1) := ⟨_, rfl⟩
      have hq : q < 2147483648 := by rw [eq]; exact Nat.lt_of_le_of_lt (Nat.div_le_self _ _) hn
      have hP : P ≤ 1152921504606846976 := by rw [eP]; exact Nat.pow_le_pow_right (n := 4) (by omega) (show j ≤ 30 by omega)
      have q1 : (n : Int) / 2 ^ j = (q : Int) := by rw [eq]; norm_cast
      have q2 : (n : Int) / 2 ^ min j 64 = (q : Int) := by rw [Nat.min_eq_left (by omega)]; exact q1
      have q3 : bits BinOp.and IntKind.i64 (q : Int) 1 = (b : Int) := by
        have e := bi_and q 1 (by omega) (by omega)
        rw [Nat.and_one_is_mod] at e
        rw [eb]; exact e
      have b0 : (0 : Int) ≤ (b : Int) := by omega
      have b1 : (b : Int) ≤ 1 := by omega
      have q4 : (2 : Int) ^ (2 * j) = (P : Int) := by
        have : (4 : Nat) ^ j = 2 ^ (2 * j) := by rw [Nat.pow_mul]
        rw [eP, this]; norm_cast
      have hbP : b * P ≤ 1152921504606846976 := by
        have : b * P ≤ 1 * P := Nat.mul_le_mul_right _ (by omega)
        omega
      have q5 : IntKind.u64.wrap ((b : Int) * 2 ^ (2 * j)) = ((b * P : Nat) : Int) := by
        rw [q4, ← Int.natCast_mul]; exact IntWalk.u64_in _ (by omega)
      have q6 : bits BinOp.or IntKind.u64 (s : Int) ((b * P : Nat) : Int) = (s' : Int) := by
        rw [es, es', eP, eb, eq]; exact or_spr n j (by omega)
      obtain ⟨bP, ebP⟩ : ∃ x, x = b * P := ⟨_, rfl⟩
      rw [← ebP] at q5 q6
      have HS := Lib.hid es'
      clear eq eb eP es' hq hP ebP hbP q4
      rw [← es]
      clear es
      go_wp2_with fail
      go_roundg (31 - (j + 1))
      case measure => omega
      case rel => exact ⟨j + 1, by omega, by go_num, by rw [HS.out], gwr⟩
    · obtain rfl : j = 31 := by omega
      go_wp2_with fail
      go_ret
      exact ⟨rfl, gwr⟩
end Go.Proofs.YtldlpbfncgcimaaDoor
