/- alike: Round -/
import Derived.Test.YtkodmfkchbbmiaaEa
namespace Go.Proofs.Ytkodmfkchbbmiaa
set_option linter.unusedVariables false
open Go.ChangeShapes Go.WideShapes Go.ChangeAt Go.RowKit

set_option maxRecDepth 100000 in
theorem c_Round (z : Int) (h1 : -9223372036854775808 ≤ z) (h2 : z ≤ 9223372036854775807) (m : Nat) (hm : 0 < m) (hm2 : m ≤ 1000000) (W : World) :
    Calls Try.prog 20 #[.int .i64 z, .int .i64 m] W fun e w' => ∃ k : Nat, k < m ∧ e = .returned (.int .i64 (k : Int)) ∧ Gr W w' := by
  obtain ⟨r, er⟩ : ∃ r, r = Int.tmod z (m : Int) := ⟨_, rfl⟩
  have hr : r.natAbs < m := by
    rw [er, Int.natAbs_tmod, Int.natAbs_natCast]
    exact Nat.mod_lt _ hm
  have e1 : Int.tmod z (m : Int) = r := er.symm
  have e2 : IntKind.i64.wrap (Int.tmod z (m : Int)) = r := by rw [e1, IntKind.wrap_i64]; omega
  have e3 : IntKind.i64.wrap r = r := by rw [IntKind.wrap_i64]; omega
  have hm0 : (m : Int) ≠ 0 := by omega
  have hm1 : ((m : Int) == 0) = false := by simp; omega
  have r1 : -(1000000 : Int) ≤ r := by omega
  have r2 : r ≤ 1000000 := by omega
  have m2 : (m : Int) ≤ 1000000 := by omega
  by_cases h : r < 0
  · have t1 : decide (r < 0) = true := decide_eq_true h
    have hk : ∃ k : Nat, r + (m : Int) = (k : Int) ∧ k < m := ⟨(r + m).toNat, by omega, by omega⟩
    have HK := Lib.hid hk
    clear er hr hk
    go_enter Try.func20, Try.ntmps20
    go_wp2_with fail
    go_ret
    obtain ⟨k, h3, h4⟩ := HK.out
    exact ⟨k, h4, by rw [← h3]; rfl, Below.refl _ _⟩
  · have t1 : decide (r < 0) = false := decide_eq_false h
    have hk : ∃ k : Nat, r = (k : Int) ∧ k < m := ⟨r.toNat, by omega, by omega⟩
    have HK := Lib.hid hk
    clear er hr hk
    go_enter Try.func20, Try.ntmps20
    go_wp2_with fail
    go_ret
    obtain ⟨k, h3, h4⟩ := HK.out
    exact ⟨k, h4, by rw [← h3]; rfl, Below.refl _ _⟩
end Go.Proofs.Ytkodmfkchbbmiaa
