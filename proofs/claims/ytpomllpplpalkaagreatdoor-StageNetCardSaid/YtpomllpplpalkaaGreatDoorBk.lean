/- alike: Round told exactly; Block: so many bytes that hang on a number -/
import Derived.Test.YtpomllpplpalkaaGreatDoorRo
import Derived.Laws.OwnMore
namespace Go.Proofs.YtpomllpplpalkaaGreatDoor
set_option linter.unusedVariables false
set_option linter.unusedSimpArgs false
open Go.ChangeShapes Go.WideShapes Go.ChangeAt Go.RowKit

theorem tmod_emod {z r : Int} {m : Nat} (er : r = Int.tmod z (m : Int)) : z % (m : Int) = r % (m : Int) := by
  have h := Int.mul_tdiv_add_tmod z (m : Int)
  rw [← er] at h
  rw [← h, Int.mul_add_emod_self_left]
set_option maxRecDepth 100000 in
theorem c_RoundE (z : Int) (h1 : -9223372036854775808 ≤ z) (h2 : z ≤ 9223372036854775807) (m : Nat) (hm : 0 < m) (hm2 : m ≤ 1000000) (W : World) :
    Calls Tryz.prog 23 #[.int .i64 z, .int .i64 m] W fun e w' => e = .returned (.int .i64 (z % (m : Int))) ∧ Gr W w' := by
  obtain ⟨r, er⟩ : ∃ r, r = Int.tmod z (m : Int) := ⟨_, rfl⟩
  have hr : r.natAbs < m := by
    rw [er, Int.natAbs_tmod, Int.natAbs_natCast]
    exact Nat.mod_lt _ hm
  have hz := tmod_emod er
  have e1 : Int.tmod z (m : Int) = r := er.symm
  have e2 : IntKind.i64.wrap (Int.tmod z (m : Int)) = r := by rw [e1, IntKind.wrap_i64]; omega
  have e3 : IntKind.i64.wrap r = r := by rw [IntKind.wrap_i64]; omega
  have hm0 : (m : Int) ≠ 0 := by omega
  have hm1 : ((m : Int) == 0) = false := by simp; omega
  have r1 : -(1000000 : Int) ≤ r := by omega
  have r2 : r ≤ 1000000 := by omega
  have m2 : (m : Int) ≤ 1000000 := by omega
  by_cases h : r < 0
  · have t1 : decide (r < 0) = true := decide_eq_true h
    have hk : z % (m : Int) = r + m := by
      rw [hz, ← Int.add_emod_right]
      exact Int.emod_eq_of_lt (by omega) (by omega)
    have HK := Lib.hid hk
    clear er hr hk hz
    go_enter Tryz.func23, Tryz.ntmps23
    go_wp2_with fail
    go_ret
    exact ⟨by rw [HK.out]; rfl, Below.refl _ _⟩
  · have t1 : decide (r < 0) = false := decide_eq_false h
    have hk : z % (m : Int) = r := by rw [hz]; exact Int.emod_eq_of_lt (by omega) (by omega)
    have HK := Lib.hid hk
    clear er hr hk hz
    go_enter Tryz.func23, Tryz.ntmps23
    go_wp2_with fail
    go_ret
    exact ⟨by rw [HK.out]; rfl, Below.refl _ _⟩
end Go.Proofs.YtpomllpplpalkaaGreatDoor
