/- slots: nothing is no page; a page's first bytes -/
import Derived.Test.YtbjckoelgpbaaaaGreatDoorRi
import Derived.Test.YtbjckoelgpbaaaaGreatDoorEt
import Derived.Test.YtbjckoelgpbaaaaGreatDoorOe
namespace Go.Proofs.YtbjckoelgpbaaaaGreatDoor
set_option linter.unusedVariables false
set_option linter.unusedSimpArgs false
open Go.ChangeShapes Go.WideShapes Go.ChangeAt Go.RowKit

theorem c_fNew (op : ByteArray) (id k : Int) (W : World) : Calls Tryz.prog 31 #[.string op, .int .i64 id, .iface 71 (.int .i64 k)] W fun e w' => ∃ B, e = .returned (.iface 78 (.pointer (some ⟨B, 0, none⟩))) ∧ FaultAt w' B op id k ∧ Gr W w' := by
  go_enter Tryz.func31, Tryz.ntmps31
  go_wp2_with fail
  go_ret
  exact ⟨_, rfl, ⟨by go_simp, by go_simp, by go_simp⟩, by go_grown⟩
def pageS : ByteArray := ⟨#[112, 97, 103, 101]⟩
/-- No page. -/
abbrev np : Value := .pointer none
theorem n_none (W : World) : Calls Tryz.prog 78 #[np] W fun e w' => e = .returned (.bool true) ∧ Gr W w' := by
  go_enter Tryz.func78, Tryz.ntmps78
  go_wp2_with fail
  go_ret
  exact ⟨rfl, by go_grown⟩
theorem n_has (i : Int) (W : World) : Calls Tryz.prog 108 #[np, .int .i64 i] W fun e w' => e = .returned (.bool false) ∧ Gr W w' := by
  go_enter Tryz.func108, Tryz.ntmps108
  go_wp2_with fail
  go_at_call 78
  refine ((n_none _)).mono ?_
  rintro e w1 ⟨rfl, hw1⟩
  have gw1 : Gr W w1 := Gr.trans (by go_grown) hw1
  clear hw1
  go_wp2_with fail
  go_ret
  exact ⟨rfl, gw1⟩
theorem n_kind (W : World) : Calls Tryz.prog 174 #[np] W fun e w' => e = .returned (.int .i64 0) ∧ Gr W w' := by
  go_enter Tryz.func174, Tryz.ntmps174
  go_wp2_with fail
  go_at_call 78
  refine ((n_none _)).mono ?_
  rintro e w1 ⟨rfl, hw1⟩
  have gw1 : Gr W w1 := Gr.trans (by go_grown) hw1
  clear hw1
  go_wp2_with fail
  go_ret
  exact ⟨rfl, gw1⟩
theorem n_bytes (W : World) : Calls Tryz.prog 68 #[np] W fun e w' => e = .returned (.slice none 0 0) ∧ Gr W w' := by
  go_enter Tryz.func68, Tryz.ntmps68
  go_wp2_with fail
  go_at_call 78
  refine ((n_none _)).mono ?_
  rintro e w1 ⟨rfl, hw1⟩
  have gw1 : Gr W w1 := Gr.trans (by go_grown) hw1
  clear hw1
  go_wp2_with fail
  go_ret
  exact ⟨rfl, gw1⟩
end Go.Proofs.YtbjckoelgpbaaaaGreatDoor
