/- disk: Sync where off; Write of another length -/
import Derived.Test.YtkbdhhmkdjajgaaDoorDs
import Derived.Test.YtkbdhhmkdjajgaaDoorDn
namespace Go.Proofs.YtkbdhhmkdjajgaaDoor
set_option linter.unusedVariables false
set_option linter.unusedSimpArgs false
open Go.ChangeShapes Go.WideShapes Go.ChangeAt Go.RowKit Go.Maps

section
variable {p g bm : Nat} {M : Option Nat} {d : Dk}
set_option maxHeartbeats 1000000 in
theorem d_sync_off (ho : ¬ d.on) (hn : d.ops < 1000000) (W : World) (H : DiskS W p g bm M d) :
    Calls Tryd.prog 13 #[.pointer (some ⟨p, 0, none⟩)] W fun e w' => ∃ F, e = .returned (.iface 64 (.pointer (some ⟨F, 0, none⟩))) ∧ FaultAt w' F syncS 0 9 ∧ DiskS w' p g bm M d.opx ∧ Kx (fun j => j = p) W w' := by
  have hn1 := H.ok.n1
  have hn2 := H.ok.n2
  have A1 := fun w (G : Gr W w) => d_len w (diskS_gr H G)
  have A2 := fun w (G : Gr W w) => d_op_off ho hn w (diskS_gr H G)
  have t1 : ((d.n : Int) == 0) = false := by simp; omega
  have t2 : (d.n == 0) = false := by simp; omega
  have H1 := Lib.hid A1
  have H2 := Lib.hid A2
  clear A1 A2
  clear H ho hn
  generalize d.n = n at *
  go_enter Tryd.func13, Tryd.ntmps13
  go_wp2_with fail
  go_at_call 29
  refine ((H1.out _ (by go_grown))).mono ?_
  rintro e w1 ⟨rfl, hw1⟩
  have gw1 : Gr W w1 := Gr.trans (by go_grown) hw1
  clear hw1
  go_wp2_with fail
  go_at_call 30
  refine (H2.out _ gw1).mono ?_
  rintro e w2 ⟨rfl, hd, k2⟩
  have K2 : Kx (fun j => j = p) W w2 := (Kx.of_gr gw1).trans k2
  have HD := Lib.hid hd
  clear hd k2 gw1
  go_wp2_with fail
  go_at_call 25
  refine (d_faultNew syncS 0 9 _).mono ?_
  rintro e w3 ⟨F, rfl, hf, g3⟩
  have g23 : Gr w2 w3 := Gr.trans (by go_grown) g3
  clear g3
  go_wp2_with fail
  go_ret
  exact ⟨F, rfl, hf, diskS_gr HD.out g23, K2.trans (Kx.of_gr g23)⟩
set_option maxHeartbeats 1000000 in
theorem d_write_len (k : Nat) (hk : k < d.n) (ad : Option Addr) (m c : Nat) (hm : m ≠ 64) (W : World) (H : DiskS W p g bm M d) :
    Calls Tryd.prog 11 #[.pointer (some ⟨p, 0, none⟩), .int .i64 k, .slice ad m c] W fun e w' => ∃ F, e = .returned (.iface 64 (.pointer (some ⟨F, 0, none⟩))) ∧ FaultAt w' F writeS k 1 ∧ Gr W w' := by
  have hn2 := H.ok.n2
  have A1 := fun w (G : Gr W w) => d_len w (diskS_gr H G)
  have t1 : decide ((k : Int) < 0) = false := decide_eq_false (by omega)
  have t2 : decide ((d.n : Int) ≤ (k : Int)) = false := decide_eq_false (by omega)
  have t3 : ¬ (d.n : Int) ≤ (k : Int) := by omega
  have t4 : ((m : Int) != 64) = true := by simp; omega
  have t5 : (m != 64) = true := by simp; omega
  have H1 := Lib.hid A1
  clear A1
  clear H hm
  generalize d.n = n at *
  go_enter Tryd.func11, Tryd.ntmps11
  go_wp2_with fail
  go_at_call 29
  refine ((H1.out _ (by go_grown))).mono ?_
  rintro e w1 ⟨rfl, hw1⟩
  have gw1 : Gr W w1 := Gr.trans (by go_grown) hw1
  clear hw1
  go_wp2_with fail
  go_at_call 25
  refine (d_faultNew writeS k 1 _).mono ?_
  rintro e w3 ⟨F, rfl, hf, g3⟩
  go_wp2_with fail
  go_ret
  exact ⟨F, rfl, hf, Gr.trans (by have gg := gw1; have gs := gg.size; go_grown) g3⟩
theorem d_write_neg (z : Int) (hz : z < 0) (v : Value) (W : World) (H : DiskS W p g bm M d) :
    Calls Tryd.prog 11 #[.pointer (some ⟨p, 0, none⟩), .int .i64 z, v] W fun e w' => ∃ F, e = .returned (.iface 64 (.pointer (some ⟨F, 0, none⟩))) ∧ FaultAt w' F writeS z 2 ∧ Gr W w' := by
  have t1 : decide (z < 0) = true := decide_eq_true hz
  clear H
  go_enter Tryd.func11, Tryd.ntmps11
  go_wp2_with fail
  go_at_call 25
  refine (d_faultNew writeS z 2 _).mono ?_
  rintro e w3 ⟨F, rfl, hf, g3⟩
  go_wp2_with fail
  go_ret
  exact ⟨F, rfl, hf, Gr.trans (by go_grown) g3⟩
end
end Go.Proofs.YtkbdhhmkdjajgaaDoor
