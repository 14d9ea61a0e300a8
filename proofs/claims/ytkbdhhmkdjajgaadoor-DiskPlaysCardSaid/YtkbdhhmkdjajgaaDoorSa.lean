/- slots: nothing is no page; a page's first bytes -/
import Derived.Test.YtkbdhhmkdjajgaaDoorRi
import Derived.Test.YtkbdhhmkdjajgaaDoorEt
import Derived.Test.YtkbdhhmkdjajgaaDoorOe
namespace Go.Proofs.YtkbdhhmkdjajgaaDoor
set_option linter.unusedVariables false
set_option linter.unusedSimpArgs false
open Go.ChangeShapes Go.WideShapes Go.ChangeAt Go.RowKit

theorem c_fNew (op : ByteArray) (id k : Int) (W : World) : Calls Tryd.prog 25 #[.string op, .int .i64 id, .iface 57 (.int .i64 k)] W fun e w' => ∃ B, e = .returned (.iface 64 (.pointer (some ⟨B, 0, none⟩))) ∧ FaultAt w' B op id k ∧ Gr W w' := by
  go_enter Tryd.func25, Tryd.ntmps25
  go_wp2_with fail
  go_ret
  exact ⟨_, rfl, ⟨by go_simp, by go_simp, by go_simp⟩, by go_grown⟩
def pageS : ByteArray := ⟨#[112, 97, 103, 101]⟩
/-- No page. -/
abbrev np : Value := .pointer none
end Go.Proofs.YtkbdhhmkdjajgaaDoor
