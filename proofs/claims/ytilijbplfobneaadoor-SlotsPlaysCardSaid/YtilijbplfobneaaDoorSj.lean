/- slots: Set -/
import Derived.Test.YtilijbplfobneaaDoorSg
namespace Go.Proofs.YtilijbplfobneaaDoor
set_option linter.unusedVariables false
set_option linter.unusedSimpArgs false
open Go.ChangeShapes Go.WideShapes Go.ChangeAt Go.RowKit

section
variable {B : Nat} {C : Option Nat} {kd id : Int} {S : List Sl}
theorem p_set_none (n : Int) (v : Value) (hh : hasS S n = false) (W : World) (h : PageS W B C kd id S) :
    Calls Tryd.prog 14 #[.pointer (some ⟨B, 0, none⟩), .int .i64 n, v] W fun e w' => ∃ F, e = .returned (.iface 84 (.pointer (some ⟨F, 0, none⟩))) ∧ FaultAt w' F pageS n 15 ∧ Gr W w' := by
  have A1 := fun w (g : Gr W w) => p_hasS n w (pageS_gr h g)
  rw [hh] at A1
  clear h hh
  have H1 := Lib.hid A1
  clear A1
  go_enter Tryd.func14, Tryd.ntmps14
  go_wp2_with fail
  go_at_call 49
  refine ((H1.out _ (by go_grown))).mono ?_
  rintro e w1 ⟨rfl, hw1⟩
  have gw1 : Gr W w1 := Gr.trans (by go_grown) hw1
  clear hw1
  go_wp2_with fail
  go_at_call 42
  refine (c_fNew pageS n 15 _).mono ?_
  rintro e w3 ⟨F, rfl, hf, g3⟩
  go_wp2_with fail
  go_ret
  exact ⟨F, rfl, hf, Gr.trans (by have gg := gw1; have gs := gg.size; go_grown) g3⟩
set_option maxHeartbeats 1000000 in
set_option maxRecDepth 100000 in
theorem p_setS {L : List UInt8} (n m cap : Nat) (ad : Option Addr) (hh : hasS S n = true) (hn : n < S.length) (hm : m = L.length) (he : reS S n L.length = 0) (W : World) (h : PageS W B C kd id S) (hR : RowOff W (pgZ B C) (.slice ad m cap) L) :
    Calls Tryd.prog 14 #[.pointer (some ⟨B, 0, none⟩), .int .i64 n, .slice ad m cap] W fun e w' => e = .returned .nilIface ∧ PutTo W B C kd id (putS S n (some L)) w' := by
  have h60 : n < 60 ∧ L.length ≤ 400 := by
    unfold reS at he
    by_cases h1 : 400 < L.length
    · rw [if_pos h1] at he; omega
    · rw [if_neg h1] at he
      by_cases h2 : 60 ≤ n
      · rw [if_pos h2] at he; omega
      · omega
  have A1 := fun w (g : Gr W w) => p_hasS (n : Int) w (pageS_gr h g)
  rw [hh] at A1
  have A2 := fun w (g : Gr W w) => p_refusalS n m ad cap w (pageS_gr h g)
  have A3 := fun w (g : Gr W w) => p_fillS n m cap ad hm (Nat.le_of_lt hn) h60.1 h60.2 w (pageS_gr h g) (rowOff_gr hR g)
  rw [hm, he] at A2
  have e0 : reV 0 = .nilIface := rfl
  rw [e0] at A2
  rw [← hm] at A2
  have H1 := Lib.hid A1
  have H2 := Lib.hid A2
  have H3 := Lib.hid A3
  clear A1 A2 A3
  clear h hR he h60 hm e0 hh hn
  go_enter Tryd.func14, Tryd.ntmps14
  go_wp2_with fail
  go_at_call 49
  refine ((H1.out _ (by go_grown))).mono ?_
  rintro e w1 ⟨rfl, hw1⟩
  have gw1 : Gr W w1 := Gr.trans (by go_grown) hw1
  clear hw1
  go_wp2_with fail
  go_at_call 46
  refine ((H2.out _ (by have gg := gw1; have gs := gg.size; go_grown))).mono ?_
  rintro e w2 ⟨rfl, hw2⟩
  have gw2 : Gr W w2 := Gr.trans (by have gg := gw1; have gs := gg.size; go_grown) hw2
  clear hw2 gw1
  go_wp2_with fail
  go_at_call 47
  refine (H3.out _ (by have gg := gw2; have gs := gg.size; go_grown)).mono ?_
  rintro e w3 ⟨rfl, D, hp, hD, hk⟩
  have hs2 := gw2.size
  have K3 : Kx (fun k => pgZ B C k ∨ W.heap.size ≤ k) W w3 := (Kx.of_gr gw2).trans (hk.mono (fun k h => by rcases h with h | h; exact Or.inl h; exact Or.inr (by omega)))
  have HP := Lib.hid (And.intro hp (And.intro hD K3))
  clear hk hp hD K3
  go_wp2_with fail
  go_ret
  exact ⟨rfl, D, HP.out.1, by rcases HP.out.2.1 with h | h; exact Or.inl h; exact Or.inr (by omega), by first | exact HP.out.2.2 | exact HP.out.2.2.drew⟩
/-- .. or refuses. -/
theorem p_set_no {k : Nat} (n m cap : Nat) (ad : Option Addr) (hh : hasS S n = true) (hn : n < S.length) (he : reS S n m = k + 1) (W : World) (h : PageS W B C kd id S) :
    Calls Tryd.prog 14 #[.pointer (some ⟨B, 0, none⟩), .int .i64 n, .slice ad m cap] W fun e w' => ∃ F, e = .returned (.iface 84 (.pointer (some ⟨F, 0, none⟩))) ∧ FaultAt w' F pageS n (k + 1 : Nat) ∧ Gr W w' := by
  have A1 := fun w (g : Gr W w) => p_hasS (n : Int) w (pageS_gr h g)
  rw [hh] at A1
  have A2 := fun w (g : Gr W w) => p_refusalS n m ad cap w (pageS_gr h g)
  rw [he] at A2
  have e0 : reV (k + 1) = .iface 76 (.int .i64 (k + 1 : Nat)) := rfl
  rw [e0] at A2
  obtain ⟨_, _, _, _, _, h4, _⟩ := h
  clear he e0 hh
  have n60 : (n : Int) ≤ 60 := by omega
  have H1 := Lib.hid A1
  have H2 := Lib.hid A2
  clear A1 A2
  go_enter Tryd.func14, Tryd.ntmps14
  go_wp2_with fail
  go_at_call 49
  refine ((H1.out _ (by go_grown))).mono ?_
  rintro e w1 ⟨rfl, hw1⟩
  have gw1 : Gr W w1 := Gr.trans (by go_grown) hw1
  clear hw1
  go_wp2_with fail
  go_at_call 46
  refine ((H2.out _ (by have gg := gw1; have gs := gg.size; go_grown))).mono ?_
  rintro e w2 ⟨rfl, hw2⟩
  have gw2 : Gr W w2 := Gr.trans (by have gg := gw1; have gs := gg.size; go_grown) hw2
  clear hw2 gw1
  go_wp2_with fail
  go_at_call 42
  refine (c_fNew pageS n (k + 1 : Nat) _).mono ?_
  rintro e w3 ⟨F, rfl, hf, g3⟩
  go_wp2_with fail
  go_ret
  exact ⟨F, rfl, hf, Gr.trans (by have gg := gw2; have gs := gg.size; go_grown) g3⟩
end
end Go.Proofs.YtilijbplfobneaaDoor
