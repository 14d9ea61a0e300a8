/- enc: numbers with a sign -/
import Derived.Test.YtmcbanplpgooeaaDoorEc
namespace Go.Proofs.YtmcbanplpgooeaaDoor
set_option linter.unusedVariables false
open Go.ChangeShapes Go.WideShapes Go.ChangeAt Go.RowKit

/-- A number with a sign, as one without. -/
def zz (n : Int) : Nat := if 0 ≤ n then (2 * n).toNat else (-2 * n - 1).toNat
theorem zz_wd {n : Int} (h0 : -9223372036854775808 ≤ n) (h1 : n < 9223372036854775808) : Wd (zz n) := by
  unfold zz Wd; split <;> omega
theorem xor0 (a : Nat) (ha : Wd a) : bits BinOp.xor IntKind.u64 (a : Int) 0 = (a : Int) := by
  unfold Wd at ha
  have h1 : (BitVec.ofInt 64 (a : Int)).toNat = a := by
    rw [BitVec.ofInt_natCast, BitVec.toNat_ofNat]; exact Nat.mod_eq_of_lt (by omega)
  show IntKind.u64.wrap ((BitVec.ofInt 64 (a : Int) ^^^ BitVec.ofInt 64 (0 : Int)).toNat : Int) = _
  rw [BitVec.toNat_xor, h1, show (BitVec.ofInt 64 (0 : Int)).toNat = 0 from rfl, Nat.xor_zero, IntKind.wrap_u64]
  omega
theorem xor1 (a : Nat) (ha : Wd a) : bits BinOp.xor IntKind.u64 (a : Int) 18446744073709551615 = ((18446744073709551615 - a : Nat) : Int) := by
  unfold Wd at ha
  show IntKind.u64.wrap ((BitVec.ofInt 64 (a : Int) ^^^ BitVec.ofInt 64 (18446744073709551615 : Int)).toNat : Int) = _
  rw [show BitVec.ofInt 64 (18446744073709551615 : Int) = BitVec.allOnes 64 from rfl, BitVec.xor_allOnes, BitVec.toNat_not, BitVec.ofInt_natCast, BitVec.toNat_ofNat, IntKind.wrap_u64]
  omega
set_option maxHeartbeats 4000000 in
set_option maxRecDepth 100000 in
theorem c_rSigned (n : Int) (h0 : -9223372036854775808 ≤ n) (h1 : n < 9223372036854775808) (W : World) :
    Calls Tryd.prog 129 #[.int .i64 n] W fun e w' => ∃ b', e = .returned b' ∧ Own w' W.heap.size b' (Ec.vr (zz n)) ∧ Gr W w' := by
  have A := c_rVarint (zz n) (zz_wd h0 h1) W
  have hz : (zz n : Int) = if 0 ≤ n then 2 * n else -2 * n - 1 := by unfold zz; split <;> omega
  obtain ⟨z, ez⟩ : ∃ z, z = zz n := ⟨_, rfl⟩
  rw [← ez] at A hz
  rw [← ez]
  clear ez
  have HA := Lib.hid A
  clear A
  go_enter Tryd.func129, Tryd.ntmps129
  by_cases hn : 0 ≤ n
  · rw [if_pos hn] at hz
    have t1 : decide (n < 0) = false := decide_eq_false (by omega)
    have t2 : ¬ n < 0 := by omega
    have e1 : n % 18446744073709551616 = n := by omega
    have e1b : IntKind.u64.wrap n = n := by rw [IntKind.wrap_u64]; omega
    have e2 : IntKind.u64.wrap (n * 2) = z := by rw [IntKind.wrap_u64]; omega
    have e2b : (n * 2) % 18446744073709551616 = z := by omega
    clear hz
    go_wp2_with (first | (go_at_call 128; (with_reducible refine HA.out.mono ?_); rintro e w2 ⟨b', rfl, own2, gz⟩))
    go_ret
    exact ⟨_, rfl, own2, gz⟩
  · rw [if_neg hn] at hz
    have t1 : decide (n < 0) = true := decide_eq_true (by omega)
    have t2 : n < 0 := by omega
    obtain ⟨k, ek⟩ : ∃ k : Nat, -(n + 1) = (k : Int) := ⟨(-(n + 1)).toNat, by omega⟩
    have e0 : IntKind.i64.wrap (-(n + 1)) = (k : Int) := by rw [IntKind.wrap_i64]; omega
    have e1 : (k : Int) % 18446744073709551616 = k := by omega
    have e1b : IntKind.u64.wrap (k : Int) = k := by rw [IntKind.wrap_u64]; omega
    have e2 : IntKind.u64.wrap ((k : Int) * 2) = (k : Int) * 2 := by rw [IntKind.wrap_u64]; omega
    have e3 : IntKind.u64.wrap ((k : Int) * 2 + 1) = z := by rw [IntKind.wrap_u64]; omega
    have e3b : (k : Int) * 2 + 1 = z := by omega
    clear hz
    go_wp2_with (first | (go_at_call 128; (with_reducible refine HA.out.mono ?_); rintro e w2 ⟨b', rfl, own2, gz⟩))
    go_ret
    exact ⟨_, rfl, own2, gz⟩
set_option maxHeartbeats 4000000 in
set_option maxRecDepth 100000 in
theorem c_appendSigned (L : List UInt8) (b : Value) (n : Int) (base : Nat) (h0 : -9223372036854775808 ≤ n) (h1 : n < 9223372036854775808) (W : World) (hL : L.length ≤ 100000) (hb : base ≤ W.heap.size) (hO : Own W base b L) :
    Calls Tryd.prog 173 #[b, .int .i64 n] W fun e w' => ∃ b', e = .returned b' ∧ Own w' base b' (L ++ Ec.vr (zz n)) ∧ Grown W w' b b' := by
  have A := c_appendVarint L b (zz n) base (zz_wd h0 h1) W hL hb hO
  have hz : (zz n : Int) = if 0 ≤ n then 2 * n else -2 * n - 1 := by unfold zz; split <;> omega
  obtain ⟨z, ez⟩ : ∃ z, z = zz n := ⟨_, rfl⟩
  rw [← ez] at A hz
  rw [← ez]
  clear ez
  have HA := Lib.hid A
  clear A
  go_enter Tryd.func173, Tryd.ntmps173
  obtain ⟨c, ec⟩ : ∃ c : Nat, (c : Int) = IntKind.u64.wrap n := ⟨(n % 18446744073709551616).toNat, by rw [IntKind.wrap_u64]; omega⟩
  obtain ⟨s, es⟩ : ∃ s : Nat, (s : Int) = IntKind.u64.wrap ((c : Int) * 2) := ⟨(c * 2 % 18446744073709551616), by rw [IntKind.wrap_u64]; omega⟩
  rw [IntKind.wrap_u64] at ec es
  have ws : Wd s := by unfold Wd; omega
  have e1 : n % 18446744073709551616 = (c : Int) := by omega
  have e1b : IntKind.u64.wrap n = (c : Int) := by rw [IntKind.wrap_u64]; omega
  have e2 : IntKind.u64.wrap ((c : Int) * 2) = s := by rw [IntKind.wrap_u64]; omega
  have e2b : IntKind.u64.wrap ((c : Int) * 2 ^ 1) = s := by rw [IntKind.wrap_u64]; omega
  have e2c : (c : Int) * 2 % 18446744073709551616 = s := by omega
  by_cases hn : 0 ≤ n
  · rw [if_pos hn] at hz
    have f1 : n / 9223372036854775808 = 0 := by omega
    have f2 : bits BinOp.xor IntKind.u64 (s : Int) 0 = z := by rw [xor0 s ws]; omega
    clear hz ec es
    go_wp2_with (first | (go_at_call 176; (with_reducible refine HA.out.mono ?_); rintro e w2 ⟨b', rfl, own2, gz⟩))
    go_ret
    exact ⟨_, rfl, own2, gz⟩
  · rw [if_neg hn] at hz
    obtain ⟨g, eg⟩ : ∃ g : Int, g = -1 := ⟨_, rfl⟩
    obtain ⟨m, em⟩ : ∃ m : Int, m = 18446744073709551615 := ⟨_, rfl⟩
    have f1 : n / 9223372036854775808 = g := by omega
    have f1b : g % 18446744073709551616 = m := by omega
    have f1c : IntKind.u64.wrap g = m := by rw [IntKind.wrap_u64]; omega
    have f2 : bits BinOp.xor IntKind.u64 (s : Int) m = z := by rw [em, xor1 s ws]; omega
    clear hz ec es eg em
    go_wp2_with (first | (go_at_call 176; (with_reducible refine HA.out.mono ?_); rintro e w2 ⟨b', rfl, own2, gz⟩))
    go_ret
    exact ⟨_, rfl, own2, gz⟩
set_option maxHeartbeats 4000000 in
set_option maxRecDepth 100000 in
theorem c_Signed (n : Int) (h0 : -9223372036854775808 ≤ n) (h1 : n < 9223372036854775808) (W : World) :
    Calls Tryd.prog 124 #[.int .i64 n] W fun e w' => ∃ b', e = .returned b' ∧ Own w' W.heap.size b' (Ec.vr (zz n)) ∧ Gr W w' := by
  have A := c_appendSigned [] (.slice none 0 0) n W.heap.size h0 h1 W (by simp) (Nat.le_refl _) (own_nil _ _)
  have HA := Lib.hid A
  clear A
  go_enter Tryd.func124, Tryd.ntmps124
  go_wp2_with (first | (go_at_call 173; (with_reducible refine HA.out.mono ?_); rintro e w2 ⟨b', rfl, own2, gz⟩))
  go_ret
  exact ⟨_, rfl, own2, gz.nil⟩
end Go.Proofs.YtmcbanplpgooeaaDoor
