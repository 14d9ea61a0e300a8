/- segm: Dist; the document's own segments; what the document fixes of segments; SegmEven -/
import Derived.Test.YtapfecmdfoobcaaGreatDoorZd
import Derived.Test.YtapfecmdfoobcaaGreatDoorPq
import Derived.Test.YtapfecmdfoobcaaGreatDoorZa
namespace Go.Proofs.YtapfecmdfoobcaaGreatDoor
set_option linter.unusedVariables false
open Go.ChangeShapes Go.WideShapes Go.ChangeAt Go.RowKit

/-- The distance's three words. -/
def dsH (ax ay bx by' px py : Int) : Int := ((sdN ax ay bx by' px py / 18446744073709551616 : Nat) : Int)
def dsL (ax ay bx by' px py : Int) : Int := ((sdN ax ay bx by' px py % 18446744073709551616 : Nat) : Int)
theorem cr_bound {ax ay bx by' px py : Int} (h : (nearB ax ay && nearB bx by' && nearB px py) = true) : crossZ ax ay bx by' px py = cr ax ay bx by' px py ∧ -9223372019674906632 ≤ cr ax ay bx by' px py ∧ cr ax ay bx by' px py ≤ 9223372019674906632 := by
  have hb := cross_bound ax ay bx by' px py
  have e : crossZ ax ay bx by' px py = cr ax ay bx by' px py := by
    unfold crossZ cr
    rw [if_pos h]
  rw [e] at hb
  exact ⟨e, hb⟩
end Go.Proofs.YtapfecmdfoobcaaGreatDoor
namespace Go.Proofs.YtapfecmdfoobcaaGreatDoor
set_option linter.unusedVariables false
open Go.ChangeShapes Go.WideShapes Go.ChangeAt Go.RowKit

theorem s4_Meet (w : World) : Calls Tryz.prog 82 #[.agg #[.int .i64 0, .int .i64 0], .agg #[.int .i64 2, .int .i64 2], .agg #[.int .i64 0, .int .i64 2], .agg #[.int .i64 2, .int .i64 0]] w fun e w' => e = .returned (.bool true) ∧ Gr w w' := c_gMeet 0 0 2 2 0 2 2 0 w
theorem s4_On (w : World) : Calls Tryz.prog 84 #[.agg #[.int .i64 0, .int .i64 0], .agg #[.int .i64 4, .int .i64 0], .agg #[.int .i64 3, .int .i64 0]] w fun e w' => e = .returned (.bool true) ∧ Gr w w' := c_gOn 0 0 4 0 3 0 w
theorem all4_swap (ax ay bx by' cx cy dx dy : Int) : all4 cx cy dx dy ax ay bx by' = all4 ax ay bx by' cx cy dx dy := by unfold all4; cases nearB ax ay <;> cases nearB bx by' <;> cases nearB cx cy <;> cases nearB dx dy <;> rfl
theorem all4_flip (ax ay bx by' cx cy dx dy : Int) : all4 bx by' ax ay cx cy dx dy = all4 ax ay bx by' cx cy dx dy := by unfold all4; cases nearB ax ay <;> cases nearB bx by' <;> cases nearB cx cy <;> cases nearB dx dy <;> rfl
theorem all4_flip2 (ax ay bx by' cx cy dx dy : Int) : all4 ax ay bx by' dx dy cx cy = all4 ax ay bx by' cx cy dx dy := by unfold all4; cases nearB ax ay <;> cases nearB bx by' <;> cases nearB cx cy <;> cases nearB dx dy <;> rfl
theorem onG_flip (ax ay bx by' px py : Int) : onG bx by' ax ay px py = onG ax ay bx by' px py := by
  unfold onG
  rw [onF_flip]
  cases nearB ax ay <;> cases nearB bx by' <;> cases nearB px py <;> rfl
end Go.Proofs.YtapfecmdfoobcaaGreatDoor
