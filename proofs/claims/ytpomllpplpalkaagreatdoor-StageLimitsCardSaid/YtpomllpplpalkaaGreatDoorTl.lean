/- StageLimits: all arguments -/
import Derived.Test.YtpomllpplpalkaaGreatDoorTk
namespace Go.Proofs.YtpomllpplpalkaaGreatDoor
set_option linter.unusedVariables false
set_option linter.unusedSimpArgs false
open Go.ChangeShapes Go.WideShapes Go.ChangeAt Go.RowKit Go.Maps

theorem walk_StageLimits (n z : Int) (hn : -9223372036854775808 ≤ n ∧ n ≤ 9223372036854775807) (hz : -9223372036854775808 ≤ z ∧ z ≤ 9223372036854775807) (W : World) (hE : ErrT W) : Calls Tryz.prog 3 #[.int .i64 n, .int .i64 z] W fun e w' => e = .returned (.bool true) ∧ Gr W w' := by
  have step : (decide (n < 0) = true) ∨ (decide (n < 0) = false ∧ decide ((50 : Int) < n) = true) ∨ (0 ≤ n ∧ n ≤ 50) := by
    by_cases c1 : n < 0
    · exact Or.inl (decide_eq_true c1)
    by_cases c2 : 50 < n
    · exact Or.inr (Or.inl ⟨decide_eq_false c1, decide_eq_true c2⟩)
    · exact Or.inr (Or.inr ⟨by omega, by omega⟩)
  have AW := Lib.hid (fun w (g : Gr W w) => p24_awake w (errT_gr hE g))
  rcases step with t1 | ⟨t1, t2⟩ | ⟨h1, h2⟩
  case inr.inr =>
    obtain ⟨i, rfl⟩ : ∃ i : Nat, n = i := ⟨n.toNat, by omega⟩
    exact limits_core i (by omega) z hz W hE
  all_goals
    clear hn hz hE
    go_enter Tryz.func3, Tryz.ntmps3
    go_wp2_with fail
    go_at_call 10
    refine (AW.out _ (Below.refl _ _)).mono ?_
    rintro e w1 ⟨rfl, g1⟩
    go_wp2_with fail
    go_ret
    exact ⟨rfl, g1⟩
end Go.Proofs.YtpomllpplpalkaaGreatDoor
