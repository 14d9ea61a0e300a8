/- plane: join, Union of two, Area, Grow -/
import Derived.Test.YtldlpbfncgcimaaDoorPl
import Derived.Test.YtldlpbfncgcimaaDoorP
namespace Go.Proofs.YtldlpbfncgcimaaDoor
set_option linter.unusedVariables false
open Go.ChangeShapes Go.WideShapes Go.ChangeAt Go.RowKit

set_option maxRecDepth 100000 in
theorem p_Is_nil (k : Int) (w : World) : Calls Tryd.prog 49 #[.nilIface, .iface 82 (.int .i64 k)] w fun e w' => e = .returned (.bool false) ∧ Gr w w' := by
  have hb : ∀ w, (binOp .eql 25 .nilIface (.iface 82 (.int .i64 k))).run Tryd.prog w = .ok (.bool false) w := fun _ => rfl
  go_enter Tryd.func49, Tryd.ntmps49
  go_wp2_with fail
  go_ret
  exact ⟨rfl, by go_grown⟩
def minZ (a b : Int) : Int := if b < a then b else a
def maxZ (a b : Int) : Int := if a < b then b else a
theorem minZ_self (a : Int) : minZ a a = a := by unfold minZ; simp
theorem maxZ_self (a : Int) : maxZ a a = a := by unfold maxZ; simp
theorem c_CheckBox_ok {lx ly hx hy : Int} (h : boxB lx ly hx hy = true) (W : World) :
    Calls Tryd.prog 57 #[.agg #[.int .i64 lx, .int .i64 ly, .int .i64 hx, .int .i64 hy]] W fun e w' => e = .returned .nilIface ∧ Gr W w' := by
  rw [← boxErr_true h]
  exact c_CheckBox lx ly hx hy W
end Go.Proofs.YtldlpbfncgcimaaDoor
