/- plane: Union of any boxes; the document's; the numbers of errors; the document's own points; PlanePoints; PlanePoints -/
import Derived.Test.YtapfecmdfoobcaaGreatDoorPa
import Derived.Test.YtapfecmdfoobcaaGreatDoorCp
import Derived.Test.YtapfecmdfoobcaaGreatDoorRi
import Derived.Test.YtapfecmdfoobcaaGreatDoorH
import Derived.Test.YtapfecmdfoobcaaGreatDoorRj
namespace Go.Proofs.YtapfecmdfoobcaaGreatDoor
set_option linter.unusedVariables false
open Go.ChangeShapes Go.WideShapes Go.ChangeAt Go.RowKit

/-- The least number of the first k, the first one's own too; the greatest. -/
def accMin (A : Nat → Int) : Nat → Int
  | 0 => A 0
  | k + 1 => minZ (accMin A k) (A k)
def accMax (A : Nat → Int) : Nat → Int
  | 0 => A 0
  | k + 1 => maxZ (accMax A k) (A k)
theorem c_Code_nil (w : World) : Calls Tryz.prog 13 #[.nilIface] w fun e w' => e = .returned (.int .i64 0) ∧ Gr w w' := by
  go_enter Tryz.func13, Tryz.ntmps13
  go_wp2
  go_ret
  exact ⟨rfl, by go_grown⟩
set_option maxHeartbeats 1000000 in
set_option maxRecDepth 100000 in
theorem c_Code_errno (z : Int) (hz : z = 1 ∨ z = 2) (w : World) : Calls Tryz.prog 13 #[.iface 60 (.int .i64 z)] w fun e w' => e = .returned (.int .i64 z) ∧ Gr w w' := by
  rcases hz with rfl | rfl
  · have I1 : ∀ w, Calls Tryz.prog 24 #[.iface 60 (.int .i64 1), .iface 60 (.int .i64 1)] w fun e w' => e = .returned (.bool true) ∧ Gr w w' := c_Is_errno 1 1
    have H1 := Lib.hid I1
    clear I1
    go_enter Tryz.func13, Tryz.ntmps13
    go_wp2_with fail
    refine wp_loop_rounds 1 ?_
    rw [rounds_succ]
    go_wp2_with (go_at_call 24; (with_reducible refine (H1.out _).mono ?_); rintro e w1 ⟨rfl, hg⟩)
    go_ret
    exact ⟨rfl, Gr.trans (by go_grown) hg⟩
  · have I1 : ∀ w, Calls Tryz.prog 24 #[.iface 60 (.int .i64 2), .iface 60 (.int .i64 1)] w fun e w' => e = .returned (.bool false) ∧ Gr w w' := c_Is_errno 2 1
    have I2 : ∀ w, Calls Tryz.prog 24 #[.iface 60 (.int .i64 2), .iface 60 (.int .i64 2)] w fun e w' => e = .returned (.bool true) ∧ Gr w w' := c_Is_errno 2 2
    have H1 := Lib.hid I1
    have H2 := Lib.hid I2
    clear I1 I2
    go_enter Tryz.func13, Tryz.ntmps13
    go_wp2_with fail
    refine wp_loop_rounds 2 ?_
    rw [rounds_succ]
    go_wp2_with (go_at_call 24; (with_reducible refine (H1.out _).mono ?_); rintro e w1 ⟨rfl, hg⟩)
    rw [rounds_succ]
    go_wp2_with (go_at_call 24; (with_reducible refine (H2.out _).mono ?_); rintro e w2 ⟨rfl, hg2⟩)
    go_ret
    exact ⟨rfl, Gr.trans (Gr.trans (by go_grown) hg) hg2⟩

end Go.Proofs.YtapfecmdfoobcaaGreatDoor
namespace Go.Proofs.YtapfecmdfoobcaaGreatDoor
set_option linter.unusedVariables false
open Go.ChangeShapes Go.WideShapes Go.ChangeAt Go.RowKit

end Go.Proofs.YtapfecmdfoobcaaGreatDoor
namespace Go.Proofs.YtapfecmdfoobcaaGreatDoor
set_option linter.unusedVariables false
open Go.ChangeShapes Go.WideShapes Go.ChangeAt Go.RowKit

theorem nat_sq (x : Int) : ((x.natAbs * x.natAbs : Nat) : Int) = x * x := by
  rw [Int.natCast_mul]
  rcases Int.le_total 0 x with h | h
  · rw [Int.natAbs_of_nonneg h]
  · rw [Int.ofNat_natAbs_of_nonpos h, Int.neg_mul_neg]
end Go.Proofs.YtapfecmdfoobcaaGreatDoor
