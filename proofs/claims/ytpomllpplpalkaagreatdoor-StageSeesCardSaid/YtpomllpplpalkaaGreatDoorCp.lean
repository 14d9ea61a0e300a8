/- slices of boxes that come in; points and boxes held against the document -/
import Derived.Test.YtpomllpplpalkaaGreatDoorH
import Derived.Deep.Slices
import Derived.Test.YtpomllpplpalkaaGreatDoorPa
namespace Go.Proofs.YtpomllpplpalkaaGreatDoor
set_option linter.unusedVariables false
open Go.ChangeShapes Go.WideShapes Go.ChangeAt Go.RowKit
end Go.Proofs.YtpomllpplpalkaaGreatDoor
namespace Go.Proofs.YtpomllpplpalkaaGreatDoor
set_option linter.unusedVariables false
open Go.ChangeShapes Go.WideShapes Go.ChangeAt Go.RowKit

theorem c_CheckPoint (x y : Int) (W : World) :
    Calls Tryz.prog 79 #[.agg #[.int .i64 x, .int .i64 y]] W fun e w' => e = .returned (if nearB x y = true then .nilIface else .iface 107 (.int .i64 2)) ∧ Gr W w' := by
  have A := c_near x y
  cases hq : nearB x y
  · rw [hq] at A
    have H1 := Lib.hid A
    rw [if_neg (by simp)]
    clear A hq
    go_enter Tryz.func79, Tryz.ntmps79
    go_wp2_with fail
    go_at_call 114
    refine ((H1.out _)).mono ?_
    rintro e w1 ⟨rfl, hw1⟩
    have cw1_0_0 : w1.cell? ⟨W.heap.size, 0, none⟩ = some (.int .i64 x) := cell_gr hw1 (by go_simp)
    have cw1_0_1 : w1.cell? ⟨W.heap.size, 1, none⟩ = some (.int .i64 y) := cell_gr hw1 (by go_simp)
    have zw1_0 : W.heap.size < w1.heap.size := World.block_lt_of_cell? _ _ cw1_0_0
    have gw1 : Gr W w1 := Gr.trans (by go_grown) hw1
    clear hw1
    go_wp2_with fail
    go_ret
    exact ⟨rfl, by go_grown⟩
  · rw [hq] at A
    have H1 := Lib.hid A
    rw [if_pos rfl]
    clear A hq
    go_enter Tryz.func79, Tryz.ntmps79
    go_wp2_with fail
    go_at_call 114
    refine ((H1.out _)).mono ?_
    rintro e w1 ⟨rfl, hw1⟩
    have cw1_0_0 : w1.cell? ⟨W.heap.size, 0, none⟩ = some (.int .i64 x) := cell_gr hw1 (by go_simp)
    have cw1_0_1 : w1.cell? ⟨W.heap.size, 1, none⟩ = some (.int .i64 y) := cell_gr hw1 (by go_simp)
    have zw1_0 : W.heap.size < w1.heap.size := World.block_lt_of_cell? _ _ cw1_0_0
    have gw1 : Gr W w1 := Gr.trans (by go_grown) hw1
    clear hw1
    go_wp2_with fail
    go_ret
    exact ⟨rfl, by go_grown⟩
end Go.Proofs.YtpomllpplpalkaaGreatDoor
