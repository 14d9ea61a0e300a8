/- slots: nothing is no page; a page's first bytes -/
import Derived.Test.YtilijbplfobneaaDoorRi
import Derived.Test.YtilijbplfobneaaDoorEt
import Derived.Test.YtilijbplfobneaaDoorOe
namespace Go.Proofs.YtilijbplfobneaaDoor
set_option linter.unusedVariables false
set_option linter.unusedSimpArgs false
open Go.ChangeShapes Go.WideShapes Go.ChangeAt Go.RowKit

theorem c_fNew (op : ByteArray) (id k : Int) (W : World) : Calls Tryd.prog 42 #[.string op, .int .i64 id, .iface 76 (.int .i64 k)] W fun e w' => ∃ B, e = .returned (.iface 84 (.pointer (some ⟨B, 0, none⟩))) ∧ FaultAt w' B op id k ∧ Gr W w' := by
  go_enter Tryd.func42, Tryd.ntmps42
  go_wp2_with fail
  go_ret
  exact ⟨_, rfl, ⟨by go_simp, by go_simp, by go_simp⟩, by go_grown⟩
def pageS : ByteArray := ⟨#[112, 97, 103, 101]⟩
/-- No page. -/
abbrev np : Value := .pointer none
theorem n_none (W : World) : Calls Tryd.prog 55 #[np] W fun e w' => e = .returned (.bool true) ∧ Gr W w' := by
  go_enter Tryd.func55, Tryd.ntmps55
  go_wp2_with fail
  go_ret
  exact ⟨rfl, by go_grown⟩
theorem n_has (i : Int) (W : World) : Calls Tryd.prog 49 #[np, .int .i64 i] W fun e w' => e = .returned (.bool false) ∧ Gr W w' := by
  go_enter Tryd.func49, Tryd.ntmps49
  go_wp2_with fail
  go_at_call 55
  refine ((n_none _)).mono ?_
  rintro e w1 ⟨rfl, hw1⟩
  have gw1 : Gr W w1 := Gr.trans (by go_grown) hw1
  clear hw1
  go_wp2_with fail
  go_ret
  exact ⟨rfl, gw1⟩
theorem n_least (W : World) : Calls Tryd.prog 45 #[np] W fun e w' => e = .returned (.int .i64 0) ∧ Gr W w' := by
  go_enter Tryd.func45, Tryd.ntmps45
  go_wp2_with fail
  go_loopg [3] 0 (fun k x wr => x = .int .i64 0 ∧ Gr W wr)
  case atStart => exact ⟨rfl, by go_grown⟩
  case round =>
    obtain ⟨rfl, hg⟩ := hrel
    go_wp2_with fail
    go_at_call 49
    refine ((n_has _ _)).mono ?_
    rintro e w1 ⟨rfl, hw1⟩
    have gw1 : Gr wr w1 := Gr.trans (by go_grown) hw1
    clear hw1
    go_wp2_with fail
    go_ret
    exact ⟨rfl, Gr.trans hg gw1⟩
theorem n_refusal (ad : Option Addr) (m cap : Nat) (k : Int) (h : (400 < m ∧ k = 13) ∨ (m ≤ 400 ∧ k = 8)) (W : World) : Calls Tryd.prog 46 #[np, .int .i64 0, .slice ad m cap] W fun e w' => e = .returned (.iface 76 (.int .i64 k)) ∧ Gr W w' := by
  rcases h with ⟨h, rfl⟩ | ⟨h, rfl⟩
  · have t1 : decide ((400 : Int) < (m : Int)) = true := decide_eq_true (by omega)
    have t2 : decide (400 < m) = true := decide_eq_true h
    go_enter Tryd.func46, Tryd.ntmps46
    go_wp2_with fail
    go_ret
    exact ⟨rfl, by go_grown⟩
  · have t1 : decide ((400 : Int) < (m : Int)) = false := decide_eq_false (by omega)
    have t2 : decide (400 < m) = false := decide_eq_false (by omega)
    go_enter Tryd.func46, Tryd.ntmps46
    go_wp2_with fail
    go_at_call 55
    refine ((n_none _)).mono ?_
    rintro e w1 ⟨rfl, hw1⟩
    have gw1 : Gr W w1 := Gr.trans (by go_grown) hw1
    clear hw1
    go_wp2_with fail
    go_ret
    exact ⟨rfl, gw1⟩
theorem n_insert (ad : Option Addr) (m cap : Nat) (k : Int) (h : (400 < m ∧ k = 13) ∨ (m ≤ 400 ∧ k = 8)) (W : World) :
    Calls Tryd.prog 12 #[np, .slice ad m cap] W fun e w' => ∃ B, e = .returned (.tuple #[.int .i64 0, .iface 84 (.pointer (some ⟨B, 0, none⟩))]) ∧ FaultAt w' B pageS 0 k ∧ Gr W w' := by
  go_enter Tryd.func12, Tryd.ntmps12
  go_wp2_with fail
  go_at_call 45
  refine ((n_least _)).mono ?_
  rintro e w1 ⟨rfl, hw1⟩
  have gw1 : Gr W w1 := Gr.trans (by go_grown) hw1
  clear hw1
  go_wp2_with fail
  go_at_call 46
  refine ((n_refusal ad m cap k h _)).mono ?_
  rintro e w2 ⟨rfl, hw2⟩
  have gw2 : Gr W w2 := Gr.trans (by have gg := gw1; have gs := gg.size; go_grown) hw2
  clear hw2 gw1
  go_wp2_with fail
  go_at_call 42
  refine (c_fNew pageS 0 k _).mono ?_
  rintro e w3 ⟨B, rfl, hf, g3⟩
  go_wp2_with fail
  go_ret2
  exact ⟨B, rfl, hf, Gr.trans (by have gg := gw2; have gs := gg.size; go_grown) g3⟩
theorem n_get (i : Int) (W : World) :
    Calls Tryd.prog 18 #[np, .int .i64 i] W fun e w' => ∃ B, e = .returned (.tuple #[.slice none 0 0, .iface 84 (.pointer (some ⟨B, 0, none⟩))]) ∧ FaultAt w' B pageS i 15 ∧ Gr W w' := by
  go_enter Tryd.func18, Tryd.ntmps18
  go_wp2_with fail
  go_at_call 49
  refine ((n_has _ _)).mono ?_
  rintro e w1 ⟨rfl, hw1⟩
  have gw1 : Gr W w1 := Gr.trans (by go_grown) hw1
  clear hw1
  go_wp2_with fail
  go_at_call 42
  refine (c_fNew pageS i 15 _).mono ?_
  rintro e w3 ⟨B, rfl, hf, g3⟩
  go_wp2_with fail
  go_ret2
  exact ⟨B, rfl, hf, Gr.trans (by have gg := gw1; have gs := gg.size; go_grown) g3⟩
theorem n_delete (i : Int) (W : World) :
    Calls Tryd.prog 16 #[np, .int .i64 i] W fun e w' => ∃ B, e = .returned (.iface 84 (.pointer (some ⟨B, 0, none⟩))) ∧ FaultAt w' B pageS i 15 ∧ Gr W w' := by
  go_enter Tryd.func16, Tryd.ntmps16
  go_wp2_with fail
  go_at_call 49
  refine ((n_has _ _)).mono ?_
  rintro e w1 ⟨rfl, hw1⟩
  have gw1 : Gr W w1 := Gr.trans (by go_grown) hw1
  clear hw1
  go_wp2_with fail
  go_at_call 42
  refine (c_fNew pageS i 15 _).mono ?_
  rintro e w3 ⟨B, rfl, hf, g3⟩
  go_wp2_with fail
  go_ret
  exact ⟨B, rfl, hf, Gr.trans (by have gg := gw1; have gs := gg.size; go_grown) g3⟩
theorem n_kind (W : World) : Calls Tryd.prog 59 #[np] W fun e w' => e = .returned (.int .i64 0) ∧ Gr W w' := by
  go_enter Tryd.func59, Tryd.ntmps59
  go_wp2_with fail
  go_at_call 55
  refine ((n_none _)).mono ?_
  rintro e w1 ⟨rfl, hw1⟩
  have gw1 : Gr W w1 := Gr.trans (by go_grown) hw1
  clear hw1
  go_wp2_with fail
  go_ret
  exact ⟨rfl, gw1⟩
theorem n_free (W : World) : Calls Tryd.prog 40 #[np] W fun e w' => e = .returned (.int .i64 0) ∧ Gr W w' := by
  go_enter Tryd.func40, Tryd.ntmps40
  go_wp2_with fail
  go_at_call 55
  refine ((n_none _)).mono ?_
  rintro e w1 ⟨rfl, hw1⟩
  have gw1 : Gr W w1 := Gr.trans (by go_grown) hw1
  clear hw1
  go_wp2_with fail
  go_ret
  exact ⟨rfl, gw1⟩
theorem n_bytes (W : World) : Calls Tryd.prog 22 #[np] W fun e w' => e = .returned (.slice none 0 0) ∧ Gr W w' := by
  go_enter Tryd.func22, Tryd.ntmps22
  go_wp2_with fail
  go_at_call 55
  refine ((n_none _)).mono ?_
  rintro e w1 ⟨rfl, hw1⟩
  have gw1 : Gr W w1 := Gr.trans (by go_grown) hw1
  clear hw1
  go_wp2_with fail
  go_ret
  exact ⟨rfl, gw1⟩
theorem n_slots (W : World) : Calls Tryd.prog 61 #[np] W fun e w' => ∃ ad, e = .returned (.slice ad 0 0) ∧ Gr W w' := by
  go_enter Tryd.func61, Tryd.ntmps61
  go_wp2_with fail
  go_at_call 55
  refine ((n_none _)).mono ?_
  rintro e w1 ⟨rfl, hw1⟩
  have gw1 : Gr W w1 := Gr.trans (by go_grown) hw1
  clear hw1
  go_wp2_with fail
  go_ret
  exact ⟨_, rfl, by have gg := gw1; have gs := gg.size; go_grown⟩
end Go.Proofs.YtilijbplfobneaaDoor
