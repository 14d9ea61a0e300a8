/- RingCuts -/
import Derived.Test.YtkodmfkchbbmiaaDoorGk
import Derived.Test.YtkodmfkchbbmiaaDoorPa
import Derived.Test.YtkodmfkchbbmiaaDoorH
import Derived.BigRegion
namespace Go.Proofs.YtkodmfkchbbmiaaDoor
set_option linter.unusedVariables false
open Go.ChangeShapes Go.WideShapes Go.ChangeAt Go.RowKit

theorem c_u5 (hi lo : Int) (w : World) : Calls Tryd.prog 18 #[.agg #[.int .u64 hi, .int .u64 lo]] w fun e w' => e = .returned (.agg #[.int .u64 hi, .int .u64 lo]) ∧ Gr w w' := by
  go_enter Tryd.func18, Tryd.ntmps18
  go_wp2_with fail
  refine bodyPost_ret (v := .agg #[.int .u64 hi, .int .u64 lo]) (by simp [results, Tryd.results18, go_sem, *]) rfl ⟨rfl, by go_grown⟩
end Go.Proofs.YtkodmfkchbbmiaaDoor
