/- the walk of WideSquares -/
import Derived.Test.YtfamocpbmbhmbaaDoorB
namespace Go.Proofs.YtfamocpbmbhmbaaDoor
set_option linter.unusedVariables false
open Go.ChangeShapes Go.WideShapes Go.ChangeAt Go.RowKit

theorem c_Abs (n : Int) (h : -9223372036854775808 ≤ n ∧ n ≤ 9223372036854775807) (w : World) :
    Calls Tryd.prog 40 #[.int .i64 n] w fun e w' => e = .returned (.int .u64 (n.natAbs : Int)) ∧ w' = w := by
  by_cases hn : n < 0
  · have e : (n.natAbs : Int) = -n := by omega
    rw [e]
    have e1 : IntKind.u64.wrap (-(n + 1)) = -(n + 1) := IntWalk.u64_in _ (by omega)
    have e2 : IntKind.u64.wrap (-(n + 1) + 1) = -n := by rw [show -(n + 1) + 1 = -n by omega]; exact IntWalk.u64_in _ (by omega)
    go_enter Tryd.func40, Tryd.ntmps40
    go_wp2
    go_ret
    exact ⟨rfl, rfl⟩
  · have e : (n.natAbs : Int) = n := by omega
    rw [e]
    have e1 : IntKind.u64.wrap n = n := IntWalk.u64_in _ (by omega)
    go_enter Tryd.func40, Tryd.ntmps40
    go_wp2
    go_ret
    exact ⟨rfl, rfl⟩
theorem sq_lt {x y : Nat} : x * x < y * y ↔ x < y := by
  constructor
  · intro h
    rcases Nat.lt_or_ge x y with g | g
    · exact g
    · exact absurd (Nat.mul_le_mul g g) (by omega)
  · intro h
    exact Nat.mul_lt_mul'' h h
end Go.Proofs.YtfamocpbmbhmbaaDoor
