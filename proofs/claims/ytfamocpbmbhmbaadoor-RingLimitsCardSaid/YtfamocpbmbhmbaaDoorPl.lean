/- points, boxes and distances: what holds of them -/
import Derived.Test.YtfamocpbmbhmbaaDoorPf
namespace Go.Proofs.YtfamocpbmbhmbaaDoor
set_option linter.unusedVariables false
open Go.ChangeShapes Go.WideShapes Go.ChangeAt Go.RowKit

theorem bool_and {a b : Bool} {p q : Prop} (h1 : a = true ↔ p) (h2 : b = true ↔ q) : (a && b) = true ↔ p ∧ q := by
  rw [Bool.and_eq_true, h1, h2]
theorem inB_iff {lx ly hx hy px py : Int} : inB lx ly hx hy px py = true ↔ lx ≤ px ∧ px ≤ hx ∧ ly ≤ py ∧ py ≤ hy := by
  unfold inB; simp [and_assoc]
theorem meetB_iff {lx ly hx hy mx my nx ny : Int} : meetB lx ly hx hy mx my nx ny = true ↔ lx ≤ nx ∧ mx ≤ hx ∧ ly ≤ ny ∧ my ≤ hy := by
  unfold meetB; simp [and_assoc]
theorem sq_zero {x : Int} : x * x = 0 ↔ x = 0 := by
  rw [Int.mul_eq_zero]; simp
theorem bey_zero {lo hi v : Int} (h : lo ≤ hi) : beyZ lo hi v = 0 ↔ lo ≤ v ∧ v ≤ hi := by
  unfold beyZ
  split <;> (try split) <;> omega
theorem distZ_zero {lx ly hx hy px py : Int} (h1 : lx ≤ hx) (h2 : ly ≤ hy) : distZ lx ly hx hy px py = 0 ↔ inB lx ly hx hy px py = true := by
  rw [inB_iff]
  have a1 := sq_nonneg (beyZ lx hx px)
  have a2 := sq_nonneg (beyZ ly hy py)
  have b1 := sq_zero (x := beyZ lx hx px)
  have b2 := sq_zero (x := beyZ ly hy py)
  have c1 := bey_zero (v := px) h1
  have c2 := bey_zero (v := py) h2
  unfold distZ
  constructor
  · intro h
    have d1 := b1.1 (by omega)
    have d2 := b2.1 (by omega)
    have e1 := c1.1 d1
    have e2 := c2.1 d2
    exact ⟨e1.1, e1.2, e2.1, e2.2⟩
  · rintro ⟨e1, e2, e3, e4⟩
    have d1 := b1.2 (c1.2 ⟨e1, e2⟩)
    have d2 := b2.2 (c2.2 ⟨e3, e4⟩)
    omega
theorem distZ_nonneg (lx ly hx hy px py : Int) : 0 ≤ distZ lx ly hx hy px py := by
  have a1 := sq_nonneg (beyZ lx hx px)
  have a2 := sq_nonneg (beyZ ly hy py)
  unfold distZ; omega
/-- Two boxes, held against each other. -/
theorem eqBox (lx ly hx hy mx my nx ny : Int) (w : World) : (binOp .eql 30 (.agg #[.int .i64 lx, .int .i64 ly, .int .i64 hx, .int .i64 hy]) (.agg #[.int .i64 mx, .int .i64 my, .int .i64 nx, .int .i64 ny])).run Tryd.prog w = .ok (.bool (decide (lx = mx ∧ ly = my ∧ hx = nx ∧ hy = ny))) w := by
  by_cases h1 : lx = mx
  · subst h1
    by_cases h2 : ly = my
    · subst h2
      by_cases h3 : hx = nx
      · subst h3
        by_cases h4 : hy = ny
        · subst h4
          simp [go_sem]
        · have e : (hy == ny) = false := by simpa using h4
          simp [go_sem, h4, e]
      · have e : (hx == nx) = false := by simpa using h3
        simp [go_sem, h3, e]
    · have e : (ly == my) = false := by simpa using h2
      simp [go_sem, h2, e]
  · have e : (lx == mx) = false := by simpa using h1
    simp [go_sem, h1, e]
theorem run_max (x y z : Int) (h : z = if x < y then y else x) (w : World) : (Builtin.max_ #[3, 3] 3 #[.int .i64 x, .int .i64 y]).run Tryd.prog w = .ok (.int .i64 z) w := by
  rw [h]
  simp [Builtin.max_, Builtin.max2, go_sem]

end Go.Proofs.YtfamocpbmbhmbaaDoor
