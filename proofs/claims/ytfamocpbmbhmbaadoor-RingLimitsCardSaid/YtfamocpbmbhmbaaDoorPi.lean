/- PlaneSquares -/
import Derived.Test.YtfamocpbmbhmbaaDoorPl
import Derived.Test.YtfamocpbmbhmbaaDoorP
namespace Go.Proofs.YtfamocpbmbhmbaaDoor
set_option linter.unusedVariables false
open Go.ChangeShapes Go.WideShapes Go.ChangeAt Go.RowKit

theorem sqZ_nonneg (ax ay bx by' : Int) : 0 ≤ sqZ ax ay bx by' := by
  have a1 := sq_nonneg (bx - ax)
  have a2 := sq_nonneg (by' - ay)
  unfold sqZ; omega
theorem sqZ_bound {ax ay bx by' : Int} (h1 : nearB ax ay = true) (h2 : nearB bx by' = true) : sqZ ax ay bx by' ≤ 9223372019674906632 := by
  have n1 := nearB_iff.1 h1
  have n2 := nearB_iff.1 h2
  have m1 := mul_near (x := bx - ax) (y := bx - ax) (by omega) (by omega)
  have m2 := mul_near (x := by' - ay) (y := by' - ay) (by omega) (by omega)
  unfold sqZ; omega
theorem sqZ_comm (ax ay bx by' : Int) : sqZ bx by' ax ay = sqZ ax ay bx by' := by unfold sqZ; grind
theorem sqZ_split (ax ay bx by' : Int) : sqZ ax ay bx by' = sqZ ax ay bx ay + sqZ bx ay bx by' := by unfold sqZ; grind
theorem sqZ_zero (ax ay bx by' : Int) : sqZ ax ay bx by' = 0 ↔ ax = bx ∧ ay = by' := by
  have a1 := sq_nonneg (bx - ax)
  have a2 := sq_nonneg (by' - ay)
  have b1 := sq_zero (x := bx - ax)
  have b2 := sq_zero (x := by' - ay)
  unfold sqZ
  constructor
  · intro h
    have d1 := b1.1 (by omega)
    have d2 := b2.1 (by omega)
    omega
  · rintro ⟨rfl, rfl⟩
    simp
theorem bey_sq (a v : Int) : beyZ a a v * beyZ a a v = (v - a) * (v - a) := by
  unfold beyZ
  split
  · grind
  · split
    · rfl
    · have : v - a = 0 := by omega
      rw [this]
theorem eqPt (ax ay bx by' : Int) (w : World) : (binOp .eql 24 (.agg #[.int .i64 ax, .int .i64 ay]) (.agg #[.int .i64 bx, .int .i64 by'])).run Tryd.prog w = .ok (.bool (decide (ax = bx ∧ ay = by'))) w := by
  by_cases h1 : ax = bx
  · subst h1
    by_cases h2 : ay = by'
    · subst h2
      simp [go_sem]
    · have e : (ay == by') = false := by simpa using h2
      simp [go_sem, h2, e]
  · have e : (ax == bx) = false := by simpa using h1
    simp [go_sem, h1, e]
end Go.Proofs.YtfamocpbmbhmbaaDoor
