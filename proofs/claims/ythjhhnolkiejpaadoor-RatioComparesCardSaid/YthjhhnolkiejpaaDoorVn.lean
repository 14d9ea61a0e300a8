/- the document's own text of a distance that is none -/
import Derived.Test.YthjhhnolkiejpaaDoorVm
namespace Go.Proofs.YthjhhnolkiejpaaDoor
set_option linter.unusedVariables false
open Go.ChangeShapes Go.WideShapes Go.ChangeAt Go.RowKit

set_option maxRecDepth 100000 in
theorem c_rTextDist0 (h l : Nat) (W : World) : Calls Tryd.prog 29 #[.agg #[.int .u64 h, .int .u64 l, .int .u64 0]] W fun e w' => e = .returned (.string ⟨#[110, 111, 110, 101]⟩) ∧ Gr W w' := by
  go_enter Tryd.func29, Tryd.ntmps29
  go_wp2_with fail
  go_ret
  exact ⟨rfl, by go_grown⟩
end Go.Proofs.YthjhhnolkiejpaaDoor
