/- plane: Orient, Square, boxes -/
import Derived.Test.YtfamocpbmbhmbaaDoorPb
namespace Go.Proofs.YtfamocpbmbhmbaaDoor
set_option linter.unusedVariables false
open Go.ChangeShapes Go.WideShapes Go.ChangeAt Go.RowKit

/-- A box that may be. -/
def boxB (lx ly hx hy : Int) : Bool := nearB lx ly && nearB hx hy && decide (lx ≤ hx) && decide (ly ≤ hy)
theorem sq_nonneg (x : Int) : 0 ≤ x * x := by
  rcases Int.le_total 0 x with h | h
  · exact Int.mul_nonneg h h
  · exact Int.mul_nonneg_of_nonpos_of_nonpos h h
/-- What CheckBox answers. -/
def boxErr (lx ly hx hy : Int) : Value := if nearB lx ly && nearB hx hy then (if decide (lx ≤ hx) && decide (ly ≤ hy) then .nilIface else .iface 69 (.int .i64 1)) else .iface 69 (.int .i64 2)

theorem c_Orient (ax ay bx by' cx cy : Int) (w : World) :
    Calls Tryd.prog 80 #[.agg #[.int .i64 ax, .int .i64 ay], .agg #[.int .i64 bx, .int .i64 by'], .agg #[.int .i64 cx, .int .i64 cy]] w fun e w' => e = .returned (.int .i64 (cmpZ (crossZ ax ay bx by' cx cy) 0)) ∧ Gr w w' := by
  go_enter Tryd.func80, Tryd.ntmps80
  go_wp2_with (first | (go_at_call 62; (with_reducible refine (c_Cross ax ay bx by' cx cy _).mono ?_); rintro e w' ⟨rfl, hg⟩) | (go_at_call 82; (with_reducible refine (c_cmpInt _ _ _).mono ?_); rintro e w'' ⟨rfl, hg2⟩))
  go_ret
  exact ⟨rfl, Gr.trans (Gr.trans (by go_grown) hg) hg2⟩

end Go.Proofs.YtfamocpbmbhmbaaDoor
