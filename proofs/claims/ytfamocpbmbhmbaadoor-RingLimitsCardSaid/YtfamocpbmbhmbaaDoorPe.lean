/- plane: Dist; what the document fixes; PlaneTurns -/
import Derived.Test.YtfamocpbmbhmbaaDoorPd
import Derived.Test.YtfamocpbmbhmbaaDoorJ
import Derived.Test.YtfamocpbmbhmbaaDoorS
namespace Go.Proofs.YtfamocpbmbhmbaaDoor
set_option linter.unusedVariables false
open Go.ChangeShapes Go.WideShapes Go.ChangeAt Go.RowKit

/-- Dist's answer, of what may be. -/
def distZ (lx ly hx hy px py : Int) : Int := beyZ lx hx px * beyZ lx hx px + beyZ ly hy py * beyZ ly hy py
theorem boxB_iff {lx ly hx hy : Int} : boxB lx ly hx hy = true ↔ (nearB lx ly = true ∧ nearB hx hy = true) ∧ lx ≤ hx ∧ ly ≤ hy := by
  unfold boxB
  simp [and_assoc]
theorem bey_near {lo hi v : Int} (h : lo ≤ hi) (h1 : -1073741823 ≤ lo ∧ lo ≤ 1073741823) (h2 : -1073741823 ≤ hi ∧ hi ≤ 1073741823) (h3 : -1073741823 ≤ v ∧ v ≤ 1073741823) : -2147483646 ≤ beyZ lo hi v ∧ beyZ lo hi v ≤ 2147483646 := by
  unfold beyZ
  split <;> (try split) <;> omega
theorem p_Orient (w : World) : Calls Tryd.prog 80 #[.agg #[.int .i64 0, .int .i64 0], .agg #[.int .i64 1, .int .i64 0], .agg #[.int .i64 0, .int .i64 1]] w fun e w' => e = .returned (.int .i64 1) ∧ Gr w w' := c_Orient 0 0 1 0 0 1 w
theorem cross_turn (ax ay bx by' cx cy : Int) : crossZ bx by' cx cy ax ay = crossZ ax ay bx by' cx cy := by
  unfold crossZ
  cases nearB ax ay <;> cases nearB bx by' <;> cases nearB cx cy <;> simp <;> grind
theorem cross_swap (ax ay bx by' cx cy : Int) : crossZ bx by' ax ay cx cy = -crossZ ax ay bx by' cx cy := by
  unfold crossZ
  cases nearB ax ay <;> cases nearB bx by' <;> cases nearB cx cy <;> simp <;> grind
theorem cross_same (ax ay bx by' : Int) : crossZ ax ay ax ay bx by' = 0 := by
  unfold crossZ
  cases nearB ax ay <;> cases nearB bx by' <;> simp
theorem cross_bound (ax ay bx by' cx cy : Int) : -9223372019674906632 ≤ crossZ ax ay bx by' cx cy ∧ crossZ ax ay bx by' cx cy ≤ 9223372019674906632 := by
  unfold crossZ
  split
  · rename_i hq
    have hq' : (nearB ax ay = true ∧ nearB bx by' = true) ∧ nearB cx cy = true := by simpa using hq
    have n1 := nearB_iff.1 hq'.1.1
    have n2 := nearB_iff.1 hq'.1.2
    have n3 := nearB_iff.1 hq'.2
    have m1 := mul_near (x := bx - ax) (y := cy - ay) (by omega) (by omega)
    have m2 := mul_near (x := by' - ay) (y := cx - ax) (by omega) (by omega)
    omega
  · omega
theorem cmpZ_neg (x : Int) : cmpZ (-x) 0 = -cmpZ x 0 := by unfold cmpZ; split <;> split <;> (try split) <;> (try split) <;> omega
end Go.Proofs.YtfamocpbmbhmbaaDoor
