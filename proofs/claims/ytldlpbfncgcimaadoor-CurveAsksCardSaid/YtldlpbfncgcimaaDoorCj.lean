/- curve: what the document fixes; the middle of a box  -/
import Derived.Test.YtldlpbfncgcimaaDoorCi
namespace Go.Proofs.YtldlpbfncgcimaaDoor
set_option linter.unusedVariables false
open Go.ChangeShapes Go.WideShapes Go.ChangeAt Go.RowKit

set_option maxHeartbeats 2000000 in
set_option maxRecDepth 100000 in
theorem p19_awake (W : World) (hE : ErrT W) : Calls Tryd.prog 40 #[] W fun e w' => e = .returned (.bool true) ∧ Gr W w' := by
  have A1 : ∀ w, Calls Tryd.prog 34 #[.agg #[.int .i64 1, .int .i64 0], .int .i64 1] w fun e w' => e = .returned (.tuple #[.int .u64 3, .nilIface]) ∧ Gr w w' := fun w => c_Hilbert 1 0 1 (by omega) (by decide) (by decide) w
  have A2 : ∀ w, Calls Tryd.prog 30 #[.agg #[.int .i64 1073741824, .int .i64 0]] w (RefusedT w 2 (.int .u64 0)) := fun w => c_Z_no 1073741824 0 (by decide) w
  have HE := Lib.hid hE
  clear hE
  have H1 := Lib.hid A1
  have H2 := Lib.hid A2
  clear A1 A2
  go_enter Tryd.func40, Tryd.ntmps40
  go_wp2_with fail
  go_at_call 34
  refine ((H1.out _)).mono ?_
  rintro e w1 ⟨rfl, hw1⟩
  have gw1 : Gr W w1 := Gr.trans (by go_grown) hw1
  clear hw1
  go_wp2_with fail
  go_at_call 30
  refine (H2.out _).mono ?_
  rintro e w2 ⟨B, rfl, hB, hF, hg⟩
  have g2 := Gr.trans gw1 hg
  clear hg
  go_wp2_with fail
  go_at_call 58
  refine (c_second 0 _ _).mono ?_
  rintro e w3 ⟨rfl, hg⟩
  have hF3 := faultAt_gr hF hg
  have g3 := Gr.trans g2 hg
  clear hg hF
  go_wp2_with fail
  go_at_call 26
  refine (c_AlIs_hit B curveS 0 2 (by omega) _ (errT_gr HE.out g3) hF3).mono ?_
  rintro e w4 ⟨rfl, hg⟩
  go_wp2_with fail
  go_ret
  exact ⟨rfl, Gr.trans g3 hg⟩
end Go.Proofs.YtldlpbfncgcimaaDoor
