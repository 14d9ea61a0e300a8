/- fault: First and Join of none; what the document fixes -/
import Derived.Test.YtgmmhddlfalehaaLn
namespace Go.Proofs.Ytgmmhddlfalehaa
set_option linter.unusedVariables false
set_option linter.unusedSimpArgs false
open Go.ChangeShapes Go.WideShapes Go.ChangeAt Go.RowKit

set_option maxRecDepth 100000 in
theorem c_fFirst_2 (B : Nat) (W : World) (h0 : W.cell? ⟨B, 0, none⟩ = some .nilIface) (h1 : W.cell? ⟨B, 1, none⟩ = some .nilIface) : Calls Try.prog 21 #[.slice (some ⟨B, 0, none⟩) 2 2] W fun e w' => e = .returned (.nilIface) ∧ Gr W w' := by
  go_enter Try.func21, Try.ntmps21
  go_wp2_with fail
  refine wp_loop_rounds 3 ?_
  rw [rounds_succ]
  go_wp2_with fail
  rw [rounds_succ]
  go_wp2_with fail
  rw [rounds_succ]
  go_wp2_with fail
  go_ret
  exact ⟨rfl, Below.refl _ _⟩
set_option maxRecDepth 100000 in
theorem c_eJoin_0 (W : World) : Calls Try.prog 30 #[.slice none 0 0] W fun e w' => e = .returned (.nilIface) ∧ Gr W w' := by
  go_enter Try.func30, Try.ntmps30
  go_wp2_with fail
  refine wp_loop_rounds 1 ?_
  rw [rounds_succ]
  go_wp2_with fail
  go_ret
  exact ⟨rfl, Below.refl _ _⟩
theorem c_fJoin_0 (W : World) : Calls Try.prog 19 #[.slice none 0 0] W fun e w' => e = .returned (.nilIface) ∧ Gr W w' := by
  go_enter Try.func19, Try.ntmps19
  go_wp2_with fail
  go_at_call 30
  refine ((c_eJoin_0 _)).mono ?_
  rintro e w1 ⟨rfl, hw1⟩
  have gw1 : Gr W w1 := Gr.trans (by go_grown) hw1
  clear hw1
  go_wp2_with fail
  go_ret
  exact ⟨rfl, gw1⟩
theorem strs_two {w : World} {B : Nat} {a b : ByteArray} (h0 : w.cell? ⟨B, 0, none⟩ = some (.string a)) (h1 : w.cell? ⟨B, 1, none⟩ = some (.string b)) : Strs w (.slice (some ⟨B, 0, none⟩) 2 2) [a, b] :=
  ⟨some ⟨B, 0, none⟩, 2, B, 0, rfl, Nat.le_refl _, by decide, fun _ => rfl, fun i hi => by
    rcases i with _ | _ | i
    · exact h0
    · exact h1
    · simp at hi; omega⟩
/-- The law's own error. -/
abbrev awE : Er := .flt ⟨#[97]⟩ 1 (.flt ⟨#[98]⟩ 2 (.num 8))
set_option maxHeartbeats 1000000 in
set_option maxRecDepth 100000 in
theorem p7_awake (W : World) : Calls Try.prog 8 #[] W fun e w' => e = .returned (.bool true) ∧ Gr W w' := by
  have A0 : ∀ w, Calls Try.prog 20 #[.string ⟨#[98]⟩, .int .i64 2, .iface 30 (.int .i64 8)] w fun e w' => ∃ F, e = .returned (.iface 33 (.pointer (some ⟨F, 0, none⟩))) ∧ ErT w' (.flt ⟨#[98]⟩ 2 (.num 8)) (.iface 33 (.pointer (some ⟨F, 0, none⟩))) ∧ w'.cell? ⟨F, 2, none⟩ = some (.iface 30 (.int .i64 8)) ∧ Gr w w' := fun w => c_fNewE (T := .num 8) ⟨#[98]⟩ 2 w rfl rfl
  have H0 := Lib.hid A0
  clear A0
  go_enter Try.func8, Try.ntmps8
  go_wp2_with fail
  go_at_call 20
  refine (H0.out _).mono ?_
  rintro e w1 ⟨F1, rfl, h1, -, g1⟩
  have A1 : Hid (Calls Try.prog 20 #[.string ⟨#[97]⟩, .int .i64 1, .iface 33 (.pointer (some ⟨F1, 0, none⟩))] w1 fun e w' => ∃ F, e = .returned (.iface 33 (.pointer (some ⟨F, 0, none⟩))) ∧ ErT w' awE (.iface 33 (.pointer (some ⟨F, 0, none⟩))) ∧ w'.cell? ⟨F, 2, none⟩ = some (.iface 33 (.pointer (some ⟨F1, 0, none⟩))) ∧ Gr w1 w') := Lib.hid (c_fNewE ⟨#[97]⟩ 1 w1 h1 rfl)
  clear h1
  go_wp2_with fail
  go_at_call 20
  refine (A1.out).mono ?_
  rintro e w2 ⟨F2, rfl, h2, -, g2⟩
  have G2 : Gr W w2 := Gr.trans g1 g2
  have AC : ∀ w, Gr w2 w → Calls Try.prog 12 #[.iface 33 (.pointer (some ⟨F2, 0, none⟩))] w fun e w' => e = .returned (.int .i64 8) ∧ Gr w w' := fun w g => c_fCode w (erT_gr g h2) (by decide)
  have AH : ∀ w, Gr w2 w → Calls Try.prog 14 #[.iface 33 (.pointer (some ⟨F2, 0, none⟩))] w fun e w' => ∃ sv, e = .returned sv ∧ w'.ownsRow w.heap.size 9 1 sv 2 (strV [⟨#[97]⟩, ⟨#[98]⟩]) ∧ Gr w w' := fun w g => c_fChain w (erT_gr g h2) (by decide)
  have AD : ∀ w, Gr w2 w → Calls Try.prog 16 #[.iface 33 (.pointer (some ⟨F2, 0, none⟩))] w fun e w' => e = .returned (.int .i64 2) ∧ Gr w w' := fun w g => c_fDeep w (erT_gr g h2) (by decide)
  have HC := Lib.hid AC
  have HH := Lib.hid AH
  have HD := Lib.hid AD
  clear AC AH AD
  clear h2 g1 g2 A1 H0
  go_wp2_with fail
  go_at_call 12
  refine (HC.out _ (by go_grown)).mono ?_
  rintro e w3 ⟨rfl, g3⟩
  go_wp2_with fail
  go_at_call 14
  refine (HH.out _ g3).mono ?_
  rintro e w4 ⟨sv, rfl, o4, g4⟩
  obtain ⟨sa, sc, rfl⟩ := str_form o4
  have HO := Lib.hid o4
  have G4 : Gr w2 w4 := Gr.trans g3 g4
  clear o4 g3 g4
  go_wp2_with fail
  go_at_call 13
  refine (c_TextsSame _ (strs_gr (strs_own HO.out) (al_grw _ _)) (strs_two (by go_simp) (by go_simp)) (by decide)).mono ?_
  rintro e w5 ⟨rfl, g5⟩
  have G5 : Gr w2 w5 := Gr.trans G4 (Gr.trans (al_grw _ _) g5)
  clear g5 G4 HO
  go_wp2_with fail
  go_at_call 16
  refine (HD.out _ G5).mono ?_
  rintro e w6 ⟨rfl, g6⟩
  have G6 : Gr w2 w6 := Gr.trans G5 g6
  clear g6 G5
  go_wp2_with fail
  go_at_call 20
  refine (c_fNew_nil _ _ _).mono ?_
  rintro e w7 ⟨rfl, g7⟩
  go_wp2_with fail
  go_ret
  exact ⟨rfl, Gr.trans G2 (Gr.trans G6 g7)⟩
end Go.Proofs.Ytgmmhddlfalehaa
