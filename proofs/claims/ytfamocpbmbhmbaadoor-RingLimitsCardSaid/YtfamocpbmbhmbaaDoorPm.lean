/- plane: join, Union of two, Area, Grow -/
import Derived.Test.YtfamocpbmbhmbaaDoorPl
import Derived.Test.YtfamocpbmbhmbaaDoorP
namespace Go.Proofs.YtfamocpbmbhmbaaDoor
set_option linter.unusedVariables false
open Go.ChangeShapes Go.WideShapes Go.ChangeAt Go.RowKit

set_option maxRecDepth 100000 in
theorem p_Is_nil (k : Int) (w : World) : Calls Tryd.prog 49 #[.nilIface, .iface 69 (.int .i64 k)] w fun e w' => e = .returned (.bool false) ∧ Gr w w' := by
  have hb : ∀ w, (binOp .eql 32 .nilIface (.iface 69 (.int .i64 k))).run Tryd.prog w = .ok (.bool false) w := fun _ => rfl
  go_enter Tryd.func49, Tryd.ntmps49
  go_wp2_with fail
  go_ret
  exact ⟨rfl, by go_grown⟩
def minZ (a b : Int) : Int := if b < a then b else a
def maxZ (a b : Int) : Int := if a < b then b else a
set_option maxHeartbeats 1000000 in
set_option maxRecDepth 100000 in
theorem c_join (lx ly hx hy mx my nx ny : Int) (W : World) :
    Calls Tryd.prog 52 #[.agg #[.int .i64 lx, .int .i64 ly, .int .i64 hx, .int .i64 hy], .agg #[.int .i64 mx, .int .i64 my, .int .i64 nx, .int .i64 ny]] W fun e w' => e = .returned (.agg #[.int .i64 (minZ lx mx), .int .i64 (minZ ly my), .int .i64 (maxZ hx nx), .int .i64 (maxZ hy ny)]) ∧ Gr W w' := by
  have m1 : ∀ w, (Builtin.min_ #[3, 3] 3 #[.int .i64 lx, .int .i64 mx]).run Tryd.prog w = .ok (.int .i64 (minZ lx mx)) w := fun w => by simp [Builtin.min_, Builtin.min2, go_sem, minZ]
  have m2 : ∀ w, (Builtin.min_ #[3, 3] 3 #[.int .i64 ly, .int .i64 my]).run Tryd.prog w = .ok (.int .i64 (minZ ly my)) w := fun w => by simp [Builtin.min_, Builtin.min2, go_sem, minZ]
  have m3 : ∀ w, (Builtin.max_ #[3, 3] 3 #[.int .i64 hx, .int .i64 nx]).run Tryd.prog w = .ok (.int .i64 (maxZ hx nx)) w := fun w => by simp [Builtin.max_, Builtin.max2, go_sem, maxZ]
  have m4 : ∀ w, (Builtin.max_ #[3, 3] 3 #[.int .i64 hy, .int .i64 ny]).run Tryd.prog w = .ok (.int .i64 (maxZ hy ny)) w := fun w => by simp [Builtin.max_, Builtin.max2, go_sem, maxZ]
  go_enter Tryd.func52, Tryd.ntmps52
  go_wp2_with fail
  refine bodyPost_ret (v := .agg #[.int .i64 (minZ lx mx), .int .i64 (minZ ly my), .int .i64 (maxZ hx nx), .int .i64 (maxZ hy ny)]) (by simp [results, Tryd.results52, go_sem, *]) rfl ⟨rfl, by go_grown⟩
theorem minZ_self (a : Int) : minZ a a = a := by unfold minZ; simp
theorem maxZ_self (a : Int) : maxZ a a = a := by unfold maxZ; simp
theorem c_join_self (lx ly hx hy : Int) (W : World) :
    Calls Tryd.prog 52 #[.agg #[.int .i64 lx, .int .i64 ly, .int .i64 hx, .int .i64 hy], .agg #[.int .i64 lx, .int .i64 ly, .int .i64 hx, .int .i64 hy]] W fun e w' => e = .returned (.agg #[.int .i64 lx, .int .i64 ly, .int .i64 hx, .int .i64 hy]) ∧ Gr W w' := by
  have h := c_join lx ly hx hy lx ly hx hy W
  simp only [minZ_self, maxZ_self] at h
  exact h
end Go.Proofs.YtfamocpbmbhmbaaDoor
