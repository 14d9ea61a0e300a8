/- pool: the calls on nothing -/
import Derived.Test.YtbjckoelgpbaaaaGreatDoorSg
import Derived.Test.YtbjckoelgpbaaaaGreatDoorDc
namespace Go.Proofs.YtbjckoelgpbaaaaGreatDoor
set_option linter.unusedVariables false
set_option linter.unusedSimpArgs false
open Go.ChangeShapes Go.WideShapes Go.ChangeAt Go.RowKit Go.Maps

abbrev poolS : ByteArray := ⟨#[112, 111, 111, 108]⟩
theorem pl_none_nil (W : World) : Calls Tryz.prog 30 #[.pointer none] W fun e w' => e = .returned (.bool true) ∧ Gr W w' := by
  go_enter Tryz.func30, Tryz.ntmps30
  go_wp2_with fail
  go_ret
  exact ⟨rfl, by go_grown⟩
theorem pl_pin_nil (z : Int) (W : World) : Calls Tryz.prog 6 #[.pointer none, .int .i64 z] W fun e w' => ∃ F, e = .returned (.tuple #[.pointer none, .iface 78 (.pointer (some ⟨F, 0, none⟩))]) ∧ FaultAt w' F poolS z 2 ∧ Gr W w' := by
  go_enter Tryz.func6, Tryz.ntmps6
  go_wp2_with fail
  go_at_call 30
  refine (pl_none_nil _).mono ?_
  rintro e w1 ⟨rfl, g1⟩
  go_wp2_with fail
  go_at_call 31
  refine (c_fNew poolS z 2 _).mono ?_
  rintro e w2 ⟨F, rfl, hf, g2⟩
  go_wp2_with fail
  go_ret2
  exact ⟨F, rfl, hf, Gr.trans g1 g2⟩
theorem pl_new_nil (W : World) : Calls Tryz.prog 7 #[.pointer none, .int .i64 1, .int .i64 1] W fun e w' => ∃ F, e = .returned (.tuple #[.pointer none, .iface 78 (.pointer (some ⟨F, 0, none⟩))]) ∧ FaultAt w' F poolS 0 1 ∧ Gr W w' := by
  go_enter Tryz.func7, Tryz.ntmps7
  go_wp2_with fail
  go_at_call 35
  refine (d_len_nil _).mono ?_
  rintro e w1 ⟨rfl, g1⟩
  go_wp2_with fail
  go_at_call 31
  refine (c_fNew poolS 0 1 _).mono ?_
  rintro e w2 ⟨F, rfl, hf, g2⟩
  go_wp2_with fail
  go_ret2
  exact ⟨F, rfl, hf, Gr.trans g1 g2⟩
theorem pl_stats_nil (W : World) : Calls Tryz.prog 8 #[.pointer none] W fun e w' => e = .returned (.tuple #[.int .i64 0, .int .i64 0, .int .i64 0]) ∧ Gr W w' := by
  go_enter Tryz.func8, Tryz.ntmps8
  go_wp2_with fail
  go_at_call 30
  refine (pl_none_nil _).mono ?_
  rintro e w1 ⟨rfl, g1⟩
  go_wp2_with fail
  go_ret3
  exact ⟨rfl, g1⟩
theorem pl_unpin_nil (z k : Int) (b : Bool) (W : World) : Calls Tryz.prog 11 #[.pointer none, .int .i64 z, .bool b, .int .i64 k] W fun e w' => ∃ F, e = .returned (.iface 78 (.pointer (some ⟨F, 0, none⟩))) ∧ FaultAt w' F poolS z 14 ∧ Gr W w' := by
  go_enter Tryz.func11, Tryz.ntmps11
  go_wp2_with fail
  go_at_call 30
  refine (pl_none_nil _).mono ?_
  rintro e w1 ⟨rfl, g1⟩
  go_wp2_with fail
  go_at_call 31
  refine (c_fNew poolS z 14 _).mono ?_
  rintro e w2 ⟨F, rfl, hf, g2⟩
  go_wp2_with fail
  go_ret
  exact ⟨F, rfl, hf, Gr.trans g1 g2⟩
theorem pl_held_nil (W : World) : Calls Tryz.prog 13 #[.pointer none] W fun e w' => e = .returned (.slice none 0 0) ∧ Gr W w' := by
  go_enter Tryz.func13, Tryz.ntmps13
  go_wp2_with fail
  go_at_call 30
  refine (pl_none_nil _).mono ?_
  rintro e w1 ⟨rfl, g1⟩
  go_wp2_with fail
  go_ret
  exact ⟨rfl, g1⟩
theorem c_idxF_nil (f : Value) (W : World) : Calls Tryz.prog 74 #[.slice none 0 0, f] W fun e w' => e = .returned (.int .i64 (-1)) ∧ Gr W w' := by
  go_enter Tryz.func74, Tryz.ntmps74
  go_wp2_with fail
  refine wp_loop_rounds 1 ?_
  rw [rounds_succ]
  go_wp2_with fail
  go_ret
  exact ⟨rfl, by go_grown⟩
theorem c_delF_nil (f : Value) (W : World) : Calls Tryz.prog 41 #[.slice none 0 0, f] W fun e w' => e = .returned (.slice none 0 0) ∧ Gr W w' := by
  go_enter Tryz.func41, Tryz.ntmps41
  go_wp2_with fail
  go_at_call 74
  refine (c_idxF_nil _ _).mono ?_
  rintro e w1 ⟨rfl, g1⟩
  go_wp2_with fail
  go_ret
  exact ⟨rfl, g1⟩
theorem pl_dirty_nil (W : World) : Calls Tryz.prog 14 #[.pointer none] W fun e w' => e = .returned (.slice none 0 0) ∧ Gr W w' := by
  have hmf : ∀ (fn : Fn) (first cap : Array Value) (w : World), (Instr.makeFunc fn first cap).run Tryz.prog w = .ok (.func fn first cap) w := fun _ _ _ _ => rfl
  go_enter Tryz.func14, Tryz.ntmps14
  go_wp2_with fail
  go_at_call 13
  refine (pl_held_nil _).mono ?_
  rintro e w1 ⟨rfl, g1⟩
  have G1 : Gr W w1 := Gr.trans (by go_grown) g1
  clear g1
  go_wp2_with fail
  go_at_call 41
  refine (c_delF_nil _ _).mono ?_
  rintro e w2 ⟨rfl, g2⟩
  go_wp2_with fail
  go_ret
  exact ⟨rfl, Gr.trans G1 g2⟩
theorem pl_flush_nil (W : World) : Calls Tryz.prog 12 #[.pointer none] W fun e w' => e = .returned (.nilIface) ∧ Gr W w' := by
  go_enter Tryz.func12, Tryz.ntmps12
  go_wp2_with fail
  go_at_call 14
  refine (pl_dirty_nil _).mono ?_
  rintro e w1 ⟨rfl, g1⟩
  have G1 : Gr W w1 := Gr.trans (by go_grown) g1
  clear g1
  go_wp2_with fail
  refine wp_loop_rounds 1 ?_
  rw [rounds_succ]
  go_wp2_with fail
  go_ret
  exact ⟨rfl, G1⟩
end Go.Proofs.YtbjckoelgpbaaaaGreatDoor
