/- slots: nothing is no page; a page's first bytes -/
import Derived.Test.YtilijbplfobneaaRi
import Derived.Test.YtilijbplfobneaaEt
import Derived.Test.YtilijbplfobneaaOe
namespace Go.Proofs.Ytilijbplfobneaa
set_option linter.unusedVariables false
set_option linter.unusedSimpArgs false
open Go.ChangeShapes Go.WideShapes Go.ChangeAt Go.RowKit

theorem c_fNew (op : ByteArray) (id k : Int) (W : World) : Calls Try.prog 15 #[.string op, .int .i64 id, .iface 46 (.int .i64 k)] W fun e w' => ∃ B, e = .returned (.iface 55 (.pointer (some ⟨B, 0, none⟩))) ∧ FaultAt w' B op id k ∧ Gr W w' := by
  go_enter Try.func15, Try.ntmps15
  go_wp2_with fail
  go_ret
  exact ⟨_, rfl, ⟨by go_simp, by go_simp, by go_simp⟩, by go_grown⟩
def pageS : ByteArray := ⟨#[112, 97, 103, 101]⟩
/-- No page. -/
abbrev np : Value := .pointer none
theorem n_none (W : World) : Calls Try.prog 21 #[np] W fun e w' => e = .returned (.bool true) ∧ Gr W w' := by
  go_enter Try.func21, Try.ntmps21
  go_wp2_with fail
  go_ret
  exact ⟨rfl, by go_grown⟩
theorem n_has (i : Int) (W : World) : Calls Try.prog 19 #[np, .int .i64 i] W fun e w' => e = .returned (.bool false) ∧ Gr W w' := by
  go_enter Try.func19, Try.ntmps19
  go_wp2_with fail
  go_at_call 21
  refine ((n_none _)).mono ?_
  rintro e w1 ⟨rfl, hw1⟩
  have gw1 : Gr W w1 := Gr.trans (by go_grown) hw1
  clear hw1
  go_wp2_with fail
  go_ret
  exact ⟨rfl, gw1⟩
theorem n_least (W : World) : Calls Try.prog 16 #[np] W fun e w' => e = .returned (.int .i64 0) ∧ Gr W w' := by
  go_enter Try.func16, Try.ntmps16
  go_wp2_with fail
  go_loopg [3] 0 (fun k x wr => x = .int .i64 0 ∧ Gr W wr)
  case atStart => exact ⟨rfl, by go_grown⟩
  case round =>
    obtain ⟨rfl, hg⟩ := hrel
    go_wp2_with fail
    go_at_call 19
    refine ((n_has _ _)).mono ?_
    rintro e w1 ⟨rfl, hw1⟩
    have gw1 : Gr wr w1 := Gr.trans (by go_grown) hw1
    clear hw1
    go_wp2_with fail
    go_ret
    exact ⟨rfl, Gr.trans hg gw1⟩
theorem n_refusal (ad : Option Addr) (m cap : Nat) (k : Int) (h : (400 < m ∧ k = 13) ∨ (m ≤ 400 ∧ k = 8)) (W : World) : Calls Try.prog 17 #[np, .int .i64 0, .slice ad m cap] W fun e w' => e = .returned (.iface 46 (.int .i64 k)) ∧ Gr W w' := by
  rcases h with ⟨h, rfl⟩ | ⟨h, rfl⟩
  · have t1 : decide ((400 : Int) < (m : Int)) = true := decide_eq_true (by omega)
    have t2 : decide (400 < m) = true := decide_eq_true h
    go_enter Try.func17, Try.ntmps17
    go_wp2_with fail
    go_ret
    exact ⟨rfl, by go_grown⟩
  · have t1 : decide ((400 : Int) < (m : Int)) = false := decide_eq_false (by omega)
    have t2 : decide (400 < m) = false := decide_eq_false (by omega)
    go_enter Try.func17, Try.ntmps17
    go_wp2_with fail
    go_at_call 21
    refine ((n_none _)).mono ?_
    rintro e w1 ⟨rfl, hw1⟩
    have gw1 : Gr W w1 := Gr.trans (by go_grown) hw1
    clear hw1
    go_wp2_with fail
    go_ret
    exact ⟨rfl, gw1⟩
theorem n_insert (ad : Option Addr) (m cap : Nat) (k : Int) (h : (400 < m ∧ k = 13) ∨ (m ≤ 400 ∧ k = 8)) (W : World) :
    Calls Try.prog 8 #[np, .slice ad m cap] W fun e w' => ∃ B, e = .returned (.tuple #[.int .i64 0, .iface 55 (.pointer (some ⟨B, 0, none⟩))]) ∧ FaultAt w' B pageS 0 k ∧ Gr W w' := by
  go_enter Try.func8, Try.ntmps8
  go_wp2_with fail
  go_at_call 16
  refine ((n_least _)).mono ?_
  rintro e w1 ⟨rfl, hw1⟩
  have gw1 : Gr W w1 := Gr.trans (by go_grown) hw1
  clear hw1
  go_wp2_with fail
  go_at_call 17
  refine ((n_refusal ad m cap k h _)).mono ?_
  rintro e w2 ⟨rfl, hw2⟩
  have gw2 : Gr W w2 := Gr.trans (by have gg := gw1; have gs := gg.size; go_grown) hw2
  clear hw2 gw1
  go_wp2_with fail
  go_at_call 15
  refine (c_fNew pageS 0 k _).mono ?_
  rintro e w3 ⟨B, rfl, hf, g3⟩
  go_wp2_with fail
  go_ret2
  exact ⟨B, rfl, hf, Gr.trans (by have gg := gw2; have gs := gg.size; go_grown) g3⟩
theorem n_get (i : Int) (W : World) :
    Calls Try.prog 11 #[np, .int .i64 i] W fun e w' => ∃ B, e = .returned (.tuple #[.slice none 0 0, .iface 55 (.pointer (some ⟨B, 0, none⟩))]) ∧ FaultAt w' B pageS i 15 ∧ Gr W w' := by
  go_enter Try.func11, Try.ntmps11
  go_wp2_with fail
  go_at_call 19
  refine ((n_has _ _)).mono ?_
  rintro e w1 ⟨rfl, hw1⟩
  have gw1 : Gr W w1 := Gr.trans (by go_grown) hw1
  clear hw1
  go_wp2_with fail
  go_at_call 15
  refine (c_fNew pageS i 15 _).mono ?_
  rintro e w3 ⟨B, rfl, hf, g3⟩
  go_wp2_with fail
  go_ret2
  exact ⟨B, rfl, hf, Gr.trans (by have gg := gw1; have gs := gg.size; go_grown) g3⟩
theorem n_delete (i : Int) (W : World) :
    Calls Try.prog 10 #[np, .int .i64 i] W fun e w' => ∃ B, e = .returned (.iface 55 (.pointer (some ⟨B, 0, none⟩))) ∧ FaultAt w' B pageS i 15 ∧ Gr W w' := by
  go_enter Try.func10, Try.ntmps10
  go_wp2_with fail
  go_at_call 19
  refine ((n_has _ _)).mono ?_
  rintro e w1 ⟨rfl, hw1⟩
  have gw1 : Gr W w1 := Gr.trans (by go_grown) hw1
  clear hw1
  go_wp2_with fail
  go_at_call 15
  refine (c_fNew pageS i 15 _).mono ?_
  rintro e w3 ⟨B, rfl, hf, g3⟩
  go_wp2_with fail
  go_ret
  exact ⟨B, rfl, hf, Gr.trans (by have gg := gw1; have gs := gg.size; go_grown) g3⟩
theorem n_free (W : World) : Calls Try.prog 13 #[np] W fun e w' => e = .returned (.int .i64 0) ∧ Gr W w' := by
  go_enter Try.func13, Try.ntmps13
  go_wp2_with fail
  go_at_call 21
  refine ((n_none _)).mono ?_
  rintro e w1 ⟨rfl, hw1⟩
  have gw1 : Gr W w1 := Gr.trans (by go_grown) hw1
  clear hw1
  go_wp2_with fail
  go_ret
  exact ⟨rfl, gw1⟩
end Go.Proofs.Ytilijbplfobneaa
