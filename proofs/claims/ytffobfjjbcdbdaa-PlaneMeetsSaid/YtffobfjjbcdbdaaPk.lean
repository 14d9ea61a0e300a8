/- PlaneMeets -/
import Derived.Test.YtffobfjjbcdbdaaPf
namespace Go.Proofs.Ytffobfjjbcdbdaa
set_option linter.unusedVariables false
open Go.ChangeShapes Go.WideShapes Go.ChangeAt Go.RowKit

set_option maxHeartbeats 2000000 in
set_option maxRecDepth 100000 in
theorem meets_yes_t_f_t_f_t (lx ly hx hy mx my nx ny px py : Int) (qx qy z : Int) (t hb i2 : Bool) (W : World)
    (A1 : ∀ w, Calls Try.prog 22 #[.agg #[.int .i64 lx, .int .i64 ly, .int .i64 hx, .int .i64 hy]] w fun e w' => e = .returned (.int .i64 0) ∧ Gr w w')
    (A2 : ∀ w, Calls Try.prog 22 #[.agg #[.int .i64 mx, .int .i64 my, .int .i64 nx, .int .i64 ny]] w fun e w' => e = .returned (.int .i64 0) ∧ Gr w w')
    (A3 : ∀ w, Calls Try.prog 11 #[.agg #[.int .i64 px, .int .i64 py]] w fun e w' => e = .returned (.bool true) ∧ Gr w w')
    (A4 : ∀ w, Calls Try.prog 23 #[.agg #[.int .i64 lx, .int .i64 ly, .int .i64 hx, .int .i64 hy], .agg #[.int .i64 qx, .int .i64 qy]] w fun e w' => e = .returned (.bool true) ∧ Gr w w')
    (A5 : ∀ w, Calls Try.prog 23 #[.agg #[.int .i64 mx, .int .i64 my, .int .i64 nx, .int .i64 ny], .agg #[.int .i64 qx, .int .i64 qy]] w fun e w' => e = .returned (.bool false) ∧ Gr w w')
    (A6 : ∀ w, Calls Try.prog 25 #[.agg #[.int .i64 lx, .int .i64 ly, .int .i64 hx, .int .i64 hy], .agg #[.int .i64 mx, .int .i64 my, .int .i64 nx, .int .i64 ny]] w fun e w' => e = .returned (.bool false) ∧ Gr w w')
    (A7 : ∀ w, Calls Try.prog 25 #[.agg #[.int .i64 mx, .int .i64 my, .int .i64 nx, .int .i64 ny], .agg #[.int .i64 lx, .int .i64 ly, .int .i64 hx, .int .i64 hy]] w fun e w' => e = .returned (.bool false) ∧ Gr w w')
    (A8 : ∀ w, Calls Try.prog 23 #[.agg #[.int .i64 lx, .int .i64 ly, .int .i64 hx, .int .i64 hy], .agg #[.int .i64 px, .int .i64 py]] w fun e w' => e = .returned (.bool true) ∧ Gr w w')
    (A9 : ∀ w, Calls Try.prog 23 #[.agg #[.int .i64 mx, .int .i64 my, .int .i64 nx, .int .i64 ny], .agg #[.int .i64 px, .int .i64 py]] w fun e w' => e = .returned (.bool false) ∧ Gr w w')
    (A10 : ∀ w, Calls Try.prog 34 #[.agg #[.int .i64 lx, .int .i64 ly, .int .i64 hx, .int .i64 hy], .agg #[.int .i64 px, .int .i64 py]] w fun e w' => e = .returned (.agg #[.int .u64 0, .int .u64 z, .int .u64 1]) ∧ Gr w w')
    (A11 : ∀ w, Calls Try.prog 27 #[.agg #[.int .i64 lx, .int .i64 ly, .int .i64 hx, .int .i64 hy], .agg #[.int .i64 mx, .int .i64 my, .int .i64 nx, .int .i64 ny]] w fun e w' => e = .returned (.bool true) ∧ Gr w w')
    (A12 : ∀ w, Calls Try.prog 27 #[.agg #[.int .i64 mx, .int .i64 my, .int .i64 nx, .int .i64 ny], .agg #[.int .i64 lx, .int .i64 ly, .int .i64 hx, .int .i64 hy]] w fun e w' => e = .returned (.bool i2) ∧ Gr w w')
    (M1 : ∀ w, (Builtin.max_ #[3, 3] 3 #[.int .i64 lx, .int .i64 mx]).run Try.prog w = .ok (.int .i64 qx) w) (M2 : ∀ w, (Builtin.max_ #[3, 3] 3 #[.int .i64 ly, .int .i64 my]).run Try.prog w = .ok (.int .i64 qy) w)
    (E1 : ∀ w, (binOp .eql 32 (.agg #[.int .u64 0, .int .u64 z, .int .u64 1]) (.agg #[.int .u64 0, .int .u64 0, .int .u64 1])).run Try.prog w = .ok (.bool true) w)
    (E2 : ∀ w, (binOp .eql 37 (.agg #[.int .i64 lx, .int .i64 ly, .int .i64 hx, .int .i64 hy]) (.agg #[.int .i64 mx, .int .i64 my, .int .i64 nx, .int .i64 ny])).run Try.prog w = .ok (.bool i2) w) :
    Calls Try.prog 8 #[.agg #[.int .i64 lx, .int .i64 ly, .int .i64 hx, .int .i64 hy], .agg #[.int .i64 mx, .int .i64 my, .int .i64 nx, .int .i64 ny], .agg #[.int .i64 px, .int .i64 py]] W fun e w' => e = .returned (.bool true) ∧ Gr W w' := by
  have H1 := Lib.hid A1
  have H2 := Lib.hid A2
  have H3 := Lib.hid A3
  have H4 := Lib.hid A4
  have H5 := Lib.hid A5
  have H6 := Lib.hid A6
  have H7 := Lib.hid A7
  have H8 := Lib.hid A8
  have H9 := Lib.hid A9
  have H10 := Lib.hid A10
  have H11 := Lib.hid A11
  have H12 := Lib.hid A12
  clear A1 A2 A3 A4 A5 A6 A7 A8 A9 A10 A11 A12
  go_enter Try.func8, Try.ntmps8
  go_wp2_with fail
  go_at_call 22
  refine ((H1.out _)).mono ?_
  rintro e w1 ⟨rfl, hw1⟩
  have cw1_0_0 : w1.cell? ⟨W.heap.size, 0, none⟩ = some (.int .i64 lx) := cell_gr hw1 (by go_simp)
  have cw1_0_1 : w1.cell? ⟨W.heap.size, 1, none⟩ = some (.int .i64 ly) := cell_gr hw1 (by go_simp)
  have cw1_0_2 : w1.cell? ⟨W.heap.size, 2, none⟩ = some (.int .i64 hx) := cell_gr hw1 (by go_simp)
  have cw1_0_3 : w1.cell? ⟨W.heap.size, 3, none⟩ = some (.int .i64 hy) := cell_gr hw1 (by go_simp)
  have zw1_0 : W.heap.size < w1.heap.size := World.block_lt_of_cell? _ _ cw1_0_0
  have cw1_1_0 : w1.cell? ⟨W.heap.size + 1, 0, none⟩ = some (.int .i64 mx) := cell_gr hw1 (by go_simp)
  have cw1_1_1 : w1.cell? ⟨W.heap.size + 1, 1, none⟩ = some (.int .i64 my) := cell_gr hw1 (by go_simp)
  have cw1_1_2 : w1.cell? ⟨W.heap.size + 1, 2, none⟩ = some (.int .i64 nx) := cell_gr hw1 (by go_simp)
  have cw1_1_3 : w1.cell? ⟨W.heap.size + 1, 3, none⟩ = some (.int .i64 ny) := cell_gr hw1 (by go_simp)
  have zw1_1 : W.heap.size + 1 < w1.heap.size := World.block_lt_of_cell? _ _ cw1_1_0
  have cw1_2_0 : w1.cell? ⟨W.heap.size + 1 + 1, 0, none⟩ = some (.int .i64 px) := cell_gr hw1 (by go_simp)
  have cw1_2_1 : w1.cell? ⟨W.heap.size + 1 + 1, 1, none⟩ = some (.int .i64 py) := cell_gr hw1 (by go_simp)
  have zw1_2 : W.heap.size + 1 + 1 < w1.heap.size := World.block_lt_of_cell? _ _ cw1_2_0
  have gw1 : Gr W w1 := Gr.trans (by go_grown) hw1
  clear hw1
  go_wp2_with fail
  go_at_call 22
  refine ((H2.out _)).mono ?_
  rintro e w2 ⟨rfl, hw2⟩
  have cw2_0_0 : w2.cell? ⟨W.heap.size, 0, none⟩ = some (.int .i64 lx) := cell_gr hw2 (by go_simp)
  have cw2_0_1 : w2.cell? ⟨W.heap.size, 1, none⟩ = some (.int .i64 ly) := cell_gr hw2 (by go_simp)
  have cw2_0_2 : w2.cell? ⟨W.heap.size, 2, none⟩ = some (.int .i64 hx) := cell_gr hw2 (by go_simp)
  have cw2_0_3 : w2.cell? ⟨W.heap.size, 3, none⟩ = some (.int .i64 hy) := cell_gr hw2 (by go_simp)
  have zw2_0 : W.heap.size < w2.heap.size := World.block_lt_of_cell? _ _ cw2_0_0
  have cw2_1_0 : w2.cell? ⟨W.heap.size + 1, 0, none⟩ = some (.int .i64 mx) := cell_gr hw2 (by go_simp)
  have cw2_1_1 : w2.cell? ⟨W.heap.size + 1, 1, none⟩ = some (.int .i64 my) := cell_gr hw2 (by go_simp)
  have cw2_1_2 : w2.cell? ⟨W.heap.size + 1, 2, none⟩ = some (.int .i64 nx) := cell_gr hw2 (by go_simp)
  have cw2_1_3 : w2.cell? ⟨W.heap.size + 1, 3, none⟩ = some (.int .i64 ny) := cell_gr hw2 (by go_simp)
  have zw2_1 : W.heap.size + 1 < w2.heap.size := World.block_lt_of_cell? _ _ cw2_1_0
  have cw2_2_0 : w2.cell? ⟨W.heap.size + 1 + 1, 0, none⟩ = some (.int .i64 px) := cell_gr hw2 (by go_simp)
  have cw2_2_1 : w2.cell? ⟨W.heap.size + 1 + 1, 1, none⟩ = some (.int .i64 py) := cell_gr hw2 (by go_simp)
  have zw2_2 : W.heap.size + 1 + 1 < w2.heap.size := World.block_lt_of_cell? _ _ cw2_2_0
  have gw2 : Gr W w2 := Gr.trans (by have gg := gw1; have gs := gg.size; go_grown) hw2
  clear hw2 gw1 zw1_0 cw1_0_0 cw1_0_1 cw1_0_2 cw1_0_3 zw1_1 cw1_1_0 cw1_1_1 cw1_1_2 cw1_1_3 zw1_2 cw1_2_0 cw1_2_1
  go_wp2_with fail
  go_at_call 11
  refine ((H3.out _)).mono ?_
  rintro e w3 ⟨rfl, hw3⟩
  have cw3_0_0 : w3.cell? ⟨W.heap.size, 0, none⟩ = some (.int .i64 lx) := cell_gr hw3 (by go_simp)
  have cw3_0_1 : w3.cell? ⟨W.heap.size, 1, none⟩ = some (.int .i64 ly) := cell_gr hw3 (by go_simp)
  have cw3_0_2 : w3.cell? ⟨W.heap.size, 2, none⟩ = some (.int .i64 hx) := cell_gr hw3 (by go_simp)
  have cw3_0_3 : w3.cell? ⟨W.heap.size, 3, none⟩ = some (.int .i64 hy) := cell_gr hw3 (by go_simp)
  have zw3_0 : W.heap.size < w3.heap.size := World.block_lt_of_cell? _ _ cw3_0_0
  have cw3_1_0 : w3.cell? ⟨W.heap.size + 1, 0, none⟩ = some (.int .i64 mx) := cell_gr hw3 (by go_simp)
  have cw3_1_1 : w3.cell? ⟨W.heap.size + 1, 1, none⟩ = some (.int .i64 my) := cell_gr hw3 (by go_simp)
  have cw3_1_2 : w3.cell? ⟨W.heap.size + 1, 2, none⟩ = some (.int .i64 nx) := cell_gr hw3 (by go_simp)
  have cw3_1_3 : w3.cell? ⟨W.heap.size + 1, 3, none⟩ = some (.int .i64 ny) := cell_gr hw3 (by go_simp)
  have zw3_1 : W.heap.size + 1 < w3.heap.size := World.block_lt_of_cell? _ _ cw3_1_0
  have cw3_2_0 : w3.cell? ⟨W.heap.size + 1 + 1, 0, none⟩ = some (.int .i64 px) := cell_gr hw3 (by go_simp)
  have cw3_2_1 : w3.cell? ⟨W.heap.size + 1 + 1, 1, none⟩ = some (.int .i64 py) := cell_gr hw3 (by go_simp)
  have zw3_2 : W.heap.size + 1 + 1 < w3.heap.size := World.block_lt_of_cell? _ _ cw3_2_0
  have gw3 : Gr W w3 := Gr.trans (by have gg := gw2; have gs := gg.size; go_grown) hw3
  clear hw3 gw2 zw2_0 cw2_0_0 cw2_0_1 cw2_0_2 cw2_0_3 zw2_1 cw2_1_0 cw2_1_1 cw2_1_2 cw2_1_3 zw2_2 cw2_2_0 cw2_2_1
  go_wp2_with fail
  go_at_call 23
  refine ((H4.out _)).mono ?_
  rintro e w4 ⟨rfl, hw4⟩
  have cw4_0_0 : w4.cell? ⟨W.heap.size, 0, none⟩ = some (.int .i64 lx) := cell_gr hw4 (by go_simp)
  have cw4_0_1 : w4.cell? ⟨W.heap.size, 1, none⟩ = some (.int .i64 ly) := cell_gr hw4 (by go_simp)
  have cw4_0_2 : w4.cell? ⟨W.heap.size, 2, none⟩ = some (.int .i64 hx) := cell_gr hw4 (by go_simp)
  have cw4_0_3 : w4.cell? ⟨W.heap.size, 3, none⟩ = some (.int .i64 hy) := cell_gr hw4 (by go_simp)
  have zw4_0 : W.heap.size < w4.heap.size := World.block_lt_of_cell? _ _ cw4_0_0
  have cw4_1_0 : w4.cell? ⟨W.heap.size + 1, 0, none⟩ = some (.int .i64 mx) := cell_gr hw4 (by go_simp)
  have cw4_1_1 : w4.cell? ⟨W.heap.size + 1, 1, none⟩ = some (.int .i64 my) := cell_gr hw4 (by go_simp)
  have cw4_1_2 : w4.cell? ⟨W.heap.size + 1, 2, none⟩ = some (.int .i64 nx) := cell_gr hw4 (by go_simp)
  have cw4_1_3 : w4.cell? ⟨W.heap.size + 1, 3, none⟩ = some (.int .i64 ny) := cell_gr hw4 (by go_simp)
  have zw4_1 : W.heap.size + 1 < w4.heap.size := World.block_lt_of_cell? _ _ cw4_1_0
  have cw4_2_0 : w4.cell? ⟨W.heap.size + 1 + 1, 0, none⟩ = some (.int .i64 px) := cell_gr hw4 (by go_simp)
  have cw4_2_1 : w4.cell? ⟨W.heap.size + 1 + 1, 1, none⟩ = some (.int .i64 py) := cell_gr hw4 (by go_simp)
  have zw4_2 : W.heap.size + 1 + 1 < w4.heap.size := World.block_lt_of_cell? _ _ cw4_2_0
  have cw4_3_0 : w4.cell? ⟨w3.heap.size, 0, none⟩ = some (.int .i64 qx) := cell_gr hw4 (by go_simp)
  have cw4_3_1 : w4.cell? ⟨w3.heap.size, 1, none⟩ = some (.int .i64 qy) := cell_gr hw4 (by go_simp)
  have zw4_3 : w3.heap.size < w4.heap.size := World.block_lt_of_cell? _ _ cw4_3_0
  have gw4 : Gr W w4 := Gr.trans (by have gg := gw3; have gs := gg.size; go_grown) hw4
  clear hw4 gw3 zw3_0 cw3_0_0 cw3_0_1 cw3_0_2 cw3_0_3 zw3_1 cw3_1_0 cw3_1_1 cw3_1_2 cw3_1_3 zw3_2 cw3_2_0 cw3_2_1
  go_wp2_with fail
  go_at_call 23
  refine ((H5.out _)).mono ?_
  rintro e w5 ⟨rfl, hw5⟩
  have cw5_0_0 : w5.cell? ⟨W.heap.size, 0, none⟩ = some (.int .i64 lx) := cell_gr hw5 (by go_simp)
  have cw5_0_1 : w5.cell? ⟨W.heap.size, 1, none⟩ = some (.int .i64 ly) := cell_gr hw5 (by go_simp)
  have cw5_0_2 : w5.cell? ⟨W.heap.size, 2, none⟩ = some (.int .i64 hx) := cell_gr hw5 (by go_simp)
  have cw5_0_3 : w5.cell? ⟨W.heap.size, 3, none⟩ = some (.int .i64 hy) := cell_gr hw5 (by go_simp)
  have zw5_0 : W.heap.size < w5.heap.size := World.block_lt_of_cell? _ _ cw5_0_0
  have cw5_1_0 : w5.cell? ⟨W.heap.size + 1, 0, none⟩ = some (.int .i64 mx) := cell_gr hw5 (by go_simp)
  have cw5_1_1 : w5.cell? ⟨W.heap.size + 1, 1, none⟩ = some (.int .i64 my) := cell_gr hw5 (by go_simp)
  have cw5_1_2 : w5.cell? ⟨W.heap.size + 1, 2, none⟩ = some (.int .i64 nx) := cell_gr hw5 (by go_simp)
  have cw5_1_3 : w5.cell? ⟨W.heap.size + 1, 3, none⟩ = some (.int .i64 ny) := cell_gr hw5 (by go_simp)
  have zw5_1 : W.heap.size + 1 < w5.heap.size := World.block_lt_of_cell? _ _ cw5_1_0
  have cw5_2_0 : w5.cell? ⟨W.heap.size + 1 + 1, 0, none⟩ = some (.int .i64 px) := cell_gr hw5 (by go_simp)
  have cw5_2_1 : w5.cell? ⟨W.heap.size + 1 + 1, 1, none⟩ = some (.int .i64 py) := cell_gr hw5 (by go_simp)
  have zw5_2 : W.heap.size + 1 + 1 < w5.heap.size := World.block_lt_of_cell? _ _ cw5_2_0
  have cw5_3_0 : w5.cell? ⟨w3.heap.size, 0, none⟩ = some (.int .i64 qx) := cell_gr hw5 (by go_simp)
  have cw5_3_1 : w5.cell? ⟨w3.heap.size, 1, none⟩ = some (.int .i64 qy) := cell_gr hw5 (by go_simp)
  have zw5_3 : w3.heap.size < w5.heap.size := World.block_lt_of_cell? _ _ cw5_3_0
  have gw5 : Gr W w5 := Gr.trans (by have gg := gw4; have gs := gg.size; go_grown) hw5
  clear hw5 gw4 zw4_0 cw4_0_0 cw4_0_1 cw4_0_2 cw4_0_3 zw4_1 cw4_1_0 cw4_1_1 cw4_1_2 cw4_1_3 zw4_2 cw4_2_0 cw4_2_1 zw4_3 cw4_3_0 cw4_3_1
  go_wp2_with fail
  go_at_call 25
  refine ((H6.out _)).mono ?_
  rintro e w6 ⟨rfl, hw6⟩
  have cw6_0_0 : w6.cell? ⟨W.heap.size, 0, none⟩ = some (.int .i64 lx) := cell_gr hw6 (by go_simp)
  have cw6_0_1 : w6.cell? ⟨W.heap.size, 1, none⟩ = some (.int .i64 ly) := cell_gr hw6 (by go_simp)
  have cw6_0_2 : w6.cell? ⟨W.heap.size, 2, none⟩ = some (.int .i64 hx) := cell_gr hw6 (by go_simp)
  have cw6_0_3 : w6.cell? ⟨W.heap.size, 3, none⟩ = some (.int .i64 hy) := cell_gr hw6 (by go_simp)
  have zw6_0 : W.heap.size < w6.heap.size := World.block_lt_of_cell? _ _ cw6_0_0
  have cw6_1_0 : w6.cell? ⟨W.heap.size + 1, 0, none⟩ = some (.int .i64 mx) := cell_gr hw6 (by go_simp)
  have cw6_1_1 : w6.cell? ⟨W.heap.size + 1, 1, none⟩ = some (.int .i64 my) := cell_gr hw6 (by go_simp)
  have cw6_1_2 : w6.cell? ⟨W.heap.size + 1, 2, none⟩ = some (.int .i64 nx) := cell_gr hw6 (by go_simp)
  have cw6_1_3 : w6.cell? ⟨W.heap.size + 1, 3, none⟩ = some (.int .i64 ny) := cell_gr hw6 (by go_simp)
  have zw6_1 : W.heap.size + 1 < w6.heap.size := World.block_lt_of_cell? _ _ cw6_1_0
  have cw6_2_0 : w6.cell? ⟨W.heap.size + 1 + 1, 0, none⟩ = some (.int .i64 px) := cell_gr hw6 (by go_simp)
  have cw6_2_1 : w6.cell? ⟨W.heap.size + 1 + 1, 1, none⟩ = some (.int .i64 py) := cell_gr hw6 (by go_simp)
  have zw6_2 : W.heap.size + 1 + 1 < w6.heap.size := World.block_lt_of_cell? _ _ cw6_2_0
  have cw6_3_0 : w6.cell? ⟨w3.heap.size, 0, none⟩ = some (.int .i64 qx) := cell_gr hw6 (by go_simp)
  have cw6_3_1 : w6.cell? ⟨w3.heap.size, 1, none⟩ = some (.int .i64 qy) := cell_gr hw6 (by go_simp)
  have zw6_3 : w3.heap.size < w6.heap.size := World.block_lt_of_cell? _ _ cw6_3_0
  have gw6 : Gr W w6 := Gr.trans (by have gg := gw5; have gs := gg.size; go_grown) hw6
  clear hw6 gw5 zw5_0 cw5_0_0 cw5_0_1 cw5_0_2 cw5_0_3 zw5_1 cw5_1_0 cw5_1_1 cw5_1_2 cw5_1_3 zw5_2 cw5_2_0 cw5_2_1 zw5_3 cw5_3_0 cw5_3_1
  go_wp2_with fail
  go_at_call 25
  refine ((H7.out _)).mono ?_
  rintro e w7 ⟨rfl, hw7⟩
  have cw7_0_0 : w7.cell? ⟨W.heap.size, 0, none⟩ = some (.int .i64 lx) := cell_gr hw7 (by go_simp)
  have cw7_0_1 : w7.cell? ⟨W.heap.size, 1, none⟩ = some (.int .i64 ly) := cell_gr hw7 (by go_simp)
  have cw7_0_2 : w7.cell? ⟨W.heap.size, 2, none⟩ = some (.int .i64 hx) := cell_gr hw7 (by go_simp)
  have cw7_0_3 : w7.cell? ⟨W.heap.size, 3, none⟩ = some (.int .i64 hy) := cell_gr hw7 (by go_simp)
  have zw7_0 : W.heap.size < w7.heap.size := World.block_lt_of_cell? _ _ cw7_0_0
  have cw7_1_0 : w7.cell? ⟨W.heap.size + 1, 0, none⟩ = some (.int .i64 mx) := cell_gr hw7 (by go_simp)
  have cw7_1_1 : w7.cell? ⟨W.heap.size + 1, 1, none⟩ = some (.int .i64 my) := cell_gr hw7 (by go_simp)
  have cw7_1_2 : w7.cell? ⟨W.heap.size + 1, 2, none⟩ = some (.int .i64 nx) := cell_gr hw7 (by go_simp)
  have cw7_1_3 : w7.cell? ⟨W.heap.size + 1, 3, none⟩ = some (.int .i64 ny) := cell_gr hw7 (by go_simp)
  have zw7_1 : W.heap.size + 1 < w7.heap.size := World.block_lt_of_cell? _ _ cw7_1_0
  have cw7_2_0 : w7.cell? ⟨W.heap.size + 1 + 1, 0, none⟩ = some (.int .i64 px) := cell_gr hw7 (by go_simp)
  have cw7_2_1 : w7.cell? ⟨W.heap.size + 1 + 1, 1, none⟩ = some (.int .i64 py) := cell_gr hw7 (by go_simp)
  have zw7_2 : W.heap.size + 1 + 1 < w7.heap.size := World.block_lt_of_cell? _ _ cw7_2_0
  have cw7_3_0 : w7.cell? ⟨w3.heap.size, 0, none⟩ = some (.int .i64 qx) := cell_gr hw7 (by go_simp)
  have cw7_3_1 : w7.cell? ⟨w3.heap.size, 1, none⟩ = some (.int .i64 qy) := cell_gr hw7 (by go_simp)
  have zw7_3 : w3.heap.size < w7.heap.size := World.block_lt_of_cell? _ _ cw7_3_0
  have gw7 : Gr W w7 := Gr.trans (by have gg := gw6; have gs := gg.size; go_grown) hw7
  clear hw7 gw6 zw6_0 cw6_0_0 cw6_0_1 cw6_0_2 cw6_0_3 zw6_1 cw6_1_0 cw6_1_1 cw6_1_2 cw6_1_3 zw6_2 cw6_2_0 cw6_2_1 zw6_3 cw6_3_0 cw6_3_1
  go_wp2_with fail
  go_at_call 23
  refine ((H8.out _)).mono ?_
  rintro e w8 ⟨rfl, hw8⟩
  have cw8_0_0 : w8.cell? ⟨W.heap.size, 0, none⟩ = some (.int .i64 lx) := cell_gr hw8 (by go_simp)
  have cw8_0_1 : w8.cell? ⟨W.heap.size, 1, none⟩ = some (.int .i64 ly) := cell_gr hw8 (by go_simp)
  have cw8_0_2 : w8.cell? ⟨W.heap.size, 2, none⟩ = some (.int .i64 hx) := cell_gr hw8 (by go_simp)
  have cw8_0_3 : w8.cell? ⟨W.heap.size, 3, none⟩ = some (.int .i64 hy) := cell_gr hw8 (by go_simp)
  have zw8_0 : W.heap.size < w8.heap.size := World.block_lt_of_cell? _ _ cw8_0_0
  have cw8_1_0 : w8.cell? ⟨W.heap.size + 1, 0, none⟩ = some (.int .i64 mx) := cell_gr hw8 (by go_simp)
  have cw8_1_1 : w8.cell? ⟨W.heap.size + 1, 1, none⟩ = some (.int .i64 my) := cell_gr hw8 (by go_simp)
  have cw8_1_2 : w8.cell? ⟨W.heap.size + 1, 2, none⟩ = some (.int .i64 nx) := cell_gr hw8 (by go_simp)
  have cw8_1_3 : w8.cell? ⟨W.heap.size + 1, 3, none⟩ = some (.int .i64 ny) := cell_gr hw8 (by go_simp)
  have zw8_1 : W.heap.size + 1 < w8.heap.size := World.block_lt_of_cell? _ _ cw8_1_0
  have cw8_2_0 : w8.cell? ⟨W.heap.size + 1 + 1, 0, none⟩ = some (.int .i64 px) := cell_gr hw8 (by go_simp)
  have cw8_2_1 : w8.cell? ⟨W.heap.size + 1 + 1, 1, none⟩ = some (.int .i64 py) := cell_gr hw8 (by go_simp)
  have zw8_2 : W.heap.size + 1 + 1 < w8.heap.size := World.block_lt_of_cell? _ _ cw8_2_0
  have cw8_3_0 : w8.cell? ⟨w3.heap.size, 0, none⟩ = some (.int .i64 qx) := cell_gr hw8 (by go_simp)
  have cw8_3_1 : w8.cell? ⟨w3.heap.size, 1, none⟩ = some (.int .i64 qy) := cell_gr hw8 (by go_simp)
  have zw8_3 : w3.heap.size < w8.heap.size := World.block_lt_of_cell? _ _ cw8_3_0
  have gw8 : Gr W w8 := Gr.trans (by have gg := gw7; have gs := gg.size; go_grown) hw8
  clear hw8 gw7 zw7_0 cw7_0_0 cw7_0_1 cw7_0_2 cw7_0_3 zw7_1 cw7_1_0 cw7_1_1 cw7_1_2 cw7_1_3 zw7_2 cw7_2_0 cw7_2_1 zw7_3 cw7_3_0 cw7_3_1
  go_wp2_with fail
  go_at_call 23
  refine ((H9.out _)).mono ?_
  rintro e w9 ⟨rfl, hw9⟩
  have cw9_0_0 : w9.cell? ⟨W.heap.size, 0, none⟩ = some (.int .i64 lx) := cell_gr hw9 (by go_simp)
  have cw9_0_1 : w9.cell? ⟨W.heap.size, 1, none⟩ = some (.int .i64 ly) := cell_gr hw9 (by go_simp)
  have cw9_0_2 : w9.cell? ⟨W.heap.size, 2, none⟩ = some (.int .i64 hx) := cell_gr hw9 (by go_simp)
  have cw9_0_3 : w9.cell? ⟨W.heap.size, 3, none⟩ = some (.int .i64 hy) := cell_gr hw9 (by go_simp)
  have zw9_0 : W.heap.size < w9.heap.size := World.block_lt_of_cell? _ _ cw9_0_0
  have cw9_1_0 : w9.cell? ⟨W.heap.size + 1, 0, none⟩ = some (.int .i64 mx) := cell_gr hw9 (by go_simp)
  have cw9_1_1 : w9.cell? ⟨W.heap.size + 1, 1, none⟩ = some (.int .i64 my) := cell_gr hw9 (by go_simp)
  have cw9_1_2 : w9.cell? ⟨W.heap.size + 1, 2, none⟩ = some (.int .i64 nx) := cell_gr hw9 (by go_simp)
  have cw9_1_3 : w9.cell? ⟨W.heap.size + 1, 3, none⟩ = some (.int .i64 ny) := cell_gr hw9 (by go_simp)
  have zw9_1 : W.heap.size + 1 < w9.heap.size := World.block_lt_of_cell? _ _ cw9_1_0
  have cw9_2_0 : w9.cell? ⟨W.heap.size + 1 + 1, 0, none⟩ = some (.int .i64 px) := cell_gr hw9 (by go_simp)
  have cw9_2_1 : w9.cell? ⟨W.heap.size + 1 + 1, 1, none⟩ = some (.int .i64 py) := cell_gr hw9 (by go_simp)
  have zw9_2 : W.heap.size + 1 + 1 < w9.heap.size := World.block_lt_of_cell? _ _ cw9_2_0
  have cw9_3_0 : w9.cell? ⟨w3.heap.size, 0, none⟩ = some (.int .i64 qx) := cell_gr hw9 (by go_simp)
  have cw9_3_1 : w9.cell? ⟨w3.heap.size, 1, none⟩ = some (.int .i64 qy) := cell_gr hw9 (by go_simp)
  have zw9_3 : w3.heap.size < w9.heap.size := World.block_lt_of_cell? _ _ cw9_3_0
  have gw9 : Gr W w9 := Gr.trans (by have gg := gw8; have gs := gg.size; go_grown) hw9
  clear hw9 gw8 zw8_0 cw8_0_0 cw8_0_1 cw8_0_2 cw8_0_3 zw8_1 cw8_1_0 cw8_1_1 cw8_1_2 cw8_1_3 zw8_2 cw8_2_0 cw8_2_1 zw8_3 cw8_3_0 cw8_3_1
  go_wp2_with fail
  go_at_call 34
  refine ((H10.out _)).mono ?_
  rintro e w10 ⟨rfl, hw10⟩
  have cw10_0_0 : w10.cell? ⟨W.heap.size, 0, none⟩ = some (.int .i64 lx) := cell_gr hw10 (by go_simp)
  have cw10_0_1 : w10.cell? ⟨W.heap.size, 1, none⟩ = some (.int .i64 ly) := cell_gr hw10 (by go_simp)
  have cw10_0_2 : w10.cell? ⟨W.heap.size, 2, none⟩ = some (.int .i64 hx) := cell_gr hw10 (by go_simp)
  have cw10_0_3 : w10.cell? ⟨W.heap.size, 3, none⟩ = some (.int .i64 hy) := cell_gr hw10 (by go_simp)
  have zw10_0 : W.heap.size < w10.heap.size := World.block_lt_of_cell? _ _ cw10_0_0
  have cw10_1_0 : w10.cell? ⟨W.heap.size + 1, 0, none⟩ = some (.int .i64 mx) := cell_gr hw10 (by go_simp)
  have cw10_1_1 : w10.cell? ⟨W.heap.size + 1, 1, none⟩ = some (.int .i64 my) := cell_gr hw10 (by go_simp)
  have cw10_1_2 : w10.cell? ⟨W.heap.size + 1, 2, none⟩ = some (.int .i64 nx) := cell_gr hw10 (by go_simp)
  have cw10_1_3 : w10.cell? ⟨W.heap.size + 1, 3, none⟩ = some (.int .i64 ny) := cell_gr hw10 (by go_simp)
  have zw10_1 : W.heap.size + 1 < w10.heap.size := World.block_lt_of_cell? _ _ cw10_1_0
  have cw10_2_0 : w10.cell? ⟨W.heap.size + 1 + 1, 0, none⟩ = some (.int .i64 px) := cell_gr hw10 (by go_simp)
  have cw10_2_1 : w10.cell? ⟨W.heap.size + 1 + 1, 1, none⟩ = some (.int .i64 py) := cell_gr hw10 (by go_simp)
  have zw10_2 : W.heap.size + 1 + 1 < w10.heap.size := World.block_lt_of_cell? _ _ cw10_2_0
  have cw10_3_0 : w10.cell? ⟨w3.heap.size, 0, none⟩ = some (.int .i64 qx) := cell_gr hw10 (by go_simp)
  have cw10_3_1 : w10.cell? ⟨w3.heap.size, 1, none⟩ = some (.int .i64 qy) := cell_gr hw10 (by go_simp)
  have zw10_3 : w3.heap.size < w10.heap.size := World.block_lt_of_cell? _ _ cw10_3_0
  have gw10 : Gr W w10 := Gr.trans (by have gg := gw9; have gs := gg.size; go_grown) hw10
  clear hw10 gw9 zw9_0 cw9_0_0 cw9_0_1 cw9_0_2 cw9_0_3 zw9_1 cw9_1_0 cw9_1_1 cw9_1_2 cw9_1_3 zw9_2 cw9_2_0 cw9_2_1 zw9_3 cw9_3_0 cw9_3_1
  go_wp2_with fail
  refine wp_region_spread (by kernel_rfl) (by kernel_rfl) ?_
  repeat (first | go_big_quiet_skip | (go_big_quiet_want; go_big_quiet_op; (first | go_big_quiet_on | (apply Exists.intro; refine ⟨fun _ => ?_, ?_⟩; (· (first | (go_at_call 23; first | ((with_reducible refine ((H8.out _)).mono ?_); rintro e w' ⟨rfl, hg⟩; exact ⟨rfl, spread_gr hg⟩)) | (go_at_call 27; first | ((with_reducible refine ((H11.out _)).mono ?_); rintro e w' ⟨rfl, hg⟩; exact ⟨rfl, spread_gr hg⟩) | ((with_reducible refine ((H12.out _)).mono ?_); rintro e w' ⟨rfl, hg⟩; exact ⟨rfl, spread_gr hg⟩)) | (go_at_call 20; first | ((with_reducible refine ((p_awake _)).mono ?_); rintro e w' ⟨rfl, hg⟩; exact ⟨rfl, spread_gr hg⟩)))); go_big_quiet_on))))
  refine wpQuiet_nil ?_
  intro wr hr
  obtain ⟨mr, rfl⟩ := hr
  go_wp2_with fail
  go_ret
  exact ⟨rfl, Gr.trans (by have gg := gw10; have gs := gg.size; go_grown) (gr_spread _ _)⟩

set_option maxHeartbeats 2000000 in
set_option maxRecDepth 100000 in
theorem meets_yes_t_f_t_f_f (lx ly hx hy mx my nx ny px py : Int) (qx qy z : Int) (t hb i2 : Bool) (W : World)
    (A1 : ∀ w, Calls Try.prog 22 #[.agg #[.int .i64 lx, .int .i64 ly, .int .i64 hx, .int .i64 hy]] w fun e w' => e = .returned (.int .i64 0) ∧ Gr w w')
    (A2 : ∀ w, Calls Try.prog 22 #[.agg #[.int .i64 mx, .int .i64 my, .int .i64 nx, .int .i64 ny]] w fun e w' => e = .returned (.int .i64 0) ∧ Gr w w')
    (A3 : ∀ w, Calls Try.prog 11 #[.agg #[.int .i64 px, .int .i64 py]] w fun e w' => e = .returned (.bool true) ∧ Gr w w')
    (A4 : ∀ w, Calls Try.prog 23 #[.agg #[.int .i64 lx, .int .i64 ly, .int .i64 hx, .int .i64 hy], .agg #[.int .i64 qx, .int .i64 qy]] w fun e w' => e = .returned (.bool true) ∧ Gr w w')
    (A5 : ∀ w, Calls Try.prog 23 #[.agg #[.int .i64 mx, .int .i64 my, .int .i64 nx, .int .i64 ny], .agg #[.int .i64 qx, .int .i64 qy]] w fun e w' => e = .returned (.bool false) ∧ Gr w w')
    (A6 : ∀ w, Calls Try.prog 25 #[.agg #[.int .i64 lx, .int .i64 ly, .int .i64 hx, .int .i64 hy], .agg #[.int .i64 mx, .int .i64 my, .int .i64 nx, .int .i64 ny]] w fun e w' => e = .returned (.bool false) ∧ Gr w w')
    (A7 : ∀ w, Calls Try.prog 25 #[.agg #[.int .i64 mx, .int .i64 my, .int .i64 nx, .int .i64 ny], .agg #[.int .i64 lx, .int .i64 ly, .int .i64 hx, .int .i64 hy]] w fun e w' => e = .returned (.bool false) ∧ Gr w w')
    (A8 : ∀ w, Calls Try.prog 23 #[.agg #[.int .i64 lx, .int .i64 ly, .int .i64 hx, .int .i64 hy], .agg #[.int .i64 px, .int .i64 py]] w fun e w' => e = .returned (.bool true) ∧ Gr w w')
    (A9 : ∀ w, Calls Try.prog 23 #[.agg #[.int .i64 mx, .int .i64 my, .int .i64 nx, .int .i64 ny], .agg #[.int .i64 px, .int .i64 py]] w fun e w' => e = .returned (.bool false) ∧ Gr w w')
    (A10 : ∀ w, Calls Try.prog 34 #[.agg #[.int .i64 lx, .int .i64 ly, .int .i64 hx, .int .i64 hy], .agg #[.int .i64 px, .int .i64 py]] w fun e w' => e = .returned (.agg #[.int .u64 0, .int .u64 z, .int .u64 1]) ∧ Gr w w')
    (A11 : ∀ w, Calls Try.prog 27 #[.agg #[.int .i64 lx, .int .i64 ly, .int .i64 hx, .int .i64 hy], .agg #[.int .i64 mx, .int .i64 my, .int .i64 nx, .int .i64 ny]] w fun e w' => e = .returned (.bool false) ∧ Gr w w')
    (A12 : ∀ w, Calls Try.prog 27 #[.agg #[.int .i64 mx, .int .i64 my, .int .i64 nx, .int .i64 ny], .agg #[.int .i64 lx, .int .i64 ly, .int .i64 hx, .int .i64 hy]] w fun e w' => e = .returned (.bool i2) ∧ Gr w w')
    (M1 : ∀ w, (Builtin.max_ #[3, 3] 3 #[.int .i64 lx, .int .i64 mx]).run Try.prog w = .ok (.int .i64 qx) w) (M2 : ∀ w, (Builtin.max_ #[3, 3] 3 #[.int .i64 ly, .int .i64 my]).run Try.prog w = .ok (.int .i64 qy) w)
    (E1 : ∀ w, (binOp .eql 32 (.agg #[.int .u64 0, .int .u64 z, .int .u64 1]) (.agg #[.int .u64 0, .int .u64 0, .int .u64 1])).run Try.prog w = .ok (.bool true) w)
    (E2 : ∀ w, (binOp .eql 37 (.agg #[.int .i64 lx, .int .i64 ly, .int .i64 hx, .int .i64 hy]) (.agg #[.int .i64 mx, .int .i64 my, .int .i64 nx, .int .i64 ny])).run Try.prog w = .ok (.bool false) w) :
    Calls Try.prog 8 #[.agg #[.int .i64 lx, .int .i64 ly, .int .i64 hx, .int .i64 hy], .agg #[.int .i64 mx, .int .i64 my, .int .i64 nx, .int .i64 ny], .agg #[.int .i64 px, .int .i64 py]] W fun e w' => e = .returned (.bool true) ∧ Gr W w' := by
  have H1 := Lib.hid A1
  have H2 := Lib.hid A2
  have H3 := Lib.hid A3
  have H4 := Lib.hid A4
  have H5 := Lib.hid A5
  have H6 := Lib.hid A6
  have H7 := Lib.hid A7
  have H8 := Lib.hid A8
  have H9 := Lib.hid A9
  have H10 := Lib.hid A10
  have H11 := Lib.hid A11
  have H12 := Lib.hid A12
  clear A1 A2 A3 A4 A5 A6 A7 A8 A9 A10 A11 A12
  go_enter Try.func8, Try.ntmps8
  go_wp2_with fail
  go_at_call 22
  refine ((H1.out _)).mono ?_
  rintro e w1 ⟨rfl, hw1⟩
  have cw1_0_0 : w1.cell? ⟨W.heap.size, 0, none⟩ = some (.int .i64 lx) := cell_gr hw1 (by go_simp)
  have cw1_0_1 : w1.cell? ⟨W.heap.size, 1, none⟩ = some (.int .i64 ly) := cell_gr hw1 (by go_simp)
  have cw1_0_2 : w1.cell? ⟨W.heap.size, 2, none⟩ = some (.int .i64 hx) := cell_gr hw1 (by go_simp)
  have cw1_0_3 : w1.cell? ⟨W.heap.size, 3, none⟩ = some (.int .i64 hy) := cell_gr hw1 (by go_simp)
  have zw1_0 : W.heap.size < w1.heap.size := World.block_lt_of_cell? _ _ cw1_0_0
  have cw1_1_0 : w1.cell? ⟨W.heap.size + 1, 0, none⟩ = some (.int .i64 mx) := cell_gr hw1 (by go_simp)
  have cw1_1_1 : w1.cell? ⟨W.heap.size + 1, 1, none⟩ = some (.int .i64 my) := cell_gr hw1 (by go_simp)
  have cw1_1_2 : w1.cell? ⟨W.heap.size + 1, 2, none⟩ = some (.int .i64 nx) := cell_gr hw1 (by go_simp)
  have cw1_1_3 : w1.cell? ⟨W.heap.size + 1, 3, none⟩ = some (.int .i64 ny) := cell_gr hw1 (by go_simp)
  have zw1_1 : W.heap.size + 1 < w1.heap.size := World.block_lt_of_cell? _ _ cw1_1_0
  have cw1_2_0 : w1.cell? ⟨W.heap.size + 1 + 1, 0, none⟩ = some (.int .i64 px) := cell_gr hw1 (by go_simp)
  have cw1_2_1 : w1.cell? ⟨W.heap.size + 1 + 1, 1, none⟩ = some (.int .i64 py) := cell_gr hw1 (by go_simp)
  have zw1_2 : W.heap.size + 1 + 1 < w1.heap.size := World.block_lt_of_cell? _ _ cw1_2_0
  have gw1 : Gr W w1 := Gr.trans (by go_grown) hw1
  clear hw1
  go_wp2_with fail
  go_at_call 22
  refine ((H2.out _)).mono ?_
  rintro e w2 ⟨rfl, hw2⟩
  have cw2_0_0 : w2.cell? ⟨W.heap.size, 0, none⟩ = some (.int .i64 lx) := cell_gr hw2 (by go_simp)
  have cw2_0_1 : w2.cell? ⟨W.heap.size, 1, none⟩ = some (.int .i64 ly) := cell_gr hw2 (by go_simp)
  have cw2_0_2 : w2.cell? ⟨W.heap.size, 2, none⟩ = some (.int .i64 hx) := cell_gr hw2 (by go_simp)
  have cw2_0_3 : w2.cell? ⟨W.heap.size, 3, none⟩ = some (.int .i64 hy) := cell_gr hw2 (by go_simp)
  have zw2_0 : W.heap.size < w2.heap.size := World.block_lt_of_cell? _ _ cw2_0_0
  have cw2_1_0 : w2.cell? ⟨W.heap.size + 1, 0, none⟩ = some (.int .i64 mx) := cell_gr hw2 (by go_simp)
  have cw2_1_1 : w2.cell? ⟨W.heap.size + 1, 1, none⟩ = some (.int .i64 my) := cell_gr hw2 (by go_simp)
  have cw2_1_2 : w2.cell? ⟨W.heap.size + 1, 2, none⟩ = some (.int .i64 nx) := cell_gr hw2 (by go_simp)
  have cw2_1_3 : w2.cell? ⟨W.heap.size + 1, 3, none⟩ = some (.int .i64 ny) := cell_gr hw2 (by go_simp)
  have zw2_1 : W.heap.size + 1 < w2.heap.size := World.block_lt_of_cell? _ _ cw2_1_0
  have cw2_2_0 : w2.cell? ⟨W.heap.size + 1 + 1, 0, none⟩ = some (.int .i64 px) := cell_gr hw2 (by go_simp)
  have cw2_2_1 : w2.cell? ⟨W.heap.size + 1 + 1, 1, none⟩ = some (.int .i64 py) := cell_gr hw2 (by go_simp)
  have zw2_2 : W.heap.size + 1 + 1 < w2.heap.size := World.block_lt_of_cell? _ _ cw2_2_0
  have gw2 : Gr W w2 := Gr.trans (by have gg := gw1; have gs := gg.size; go_grown) hw2
  clear hw2 gw1 zw1_0 cw1_0_0 cw1_0_1 cw1_0_2 cw1_0_3 zw1_1 cw1_1_0 cw1_1_1 cw1_1_2 cw1_1_3 zw1_2 cw1_2_0 cw1_2_1
  go_wp2_with fail
  go_at_call 11
  refine ((H3.out _)).mono ?_
  rintro e w3 ⟨rfl, hw3⟩
  have cw3_0_0 : w3.cell? ⟨W.heap.size, 0, none⟩ = some (.int .i64 lx) := cell_gr hw3 (by go_simp)
  have cw3_0_1 : w3.cell? ⟨W.heap.size, 1, none⟩ = some (.int .i64 ly) := cell_gr hw3 (by go_simp)
  have cw3_0_2 : w3.cell? ⟨W.heap.size, 2, none⟩ = some (.int .i64 hx) := cell_gr hw3 (by go_simp)
  have cw3_0_3 : w3.cell? ⟨W.heap.size, 3, none⟩ = some (.int .i64 hy) := cell_gr hw3 (by go_simp)
  have zw3_0 : W.heap.size < w3.heap.size := World.block_lt_of_cell? _ _ cw3_0_0
  have cw3_1_0 : w3.cell? ⟨W.heap.size + 1, 0, none⟩ = some (.int .i64 mx) := cell_gr hw3 (by go_simp)
  have cw3_1_1 : w3.cell? ⟨W.heap.size + 1, 1, none⟩ = some (.int .i64 my) := cell_gr hw3 (by go_simp)
  have cw3_1_2 : w3.cell? ⟨W.heap.size + 1, 2, none⟩ = some (.int .i64 nx) := cell_gr hw3 (by go_simp)
  have cw3_1_3 : w3.cell? ⟨W.heap.size + 1, 3, none⟩ = some (.int .i64 ny) := cell_gr hw3 (by go_simp)
  have zw3_1 : W.heap.size + 1 < w3.heap.size := World.block_lt_of_cell? _ _ cw3_1_0
  have cw3_2_0 : w3.cell? ⟨W.heap.size + 1 + 1, 0, none⟩ = some (.int .i64 px) := cell_gr hw3 (by go_simp)
  have cw3_2_1 : w3.cell? ⟨W.heap.size + 1 + 1, 1, none⟩ = some (.int .i64 py) := cell_gr hw3 (by go_simp)
  have zw3_2 : W.heap.size + 1 + 1 < w3.heap.size := World.block_lt_of_cell? _ _ cw3_2_0
  have gw3 : Gr W w3 := Gr.trans (by have gg := gw2; have gs := gg.size; go_grown) hw3
  clear hw3 gw2 zw2_0 cw2_0_0 cw2_0_1 cw2_0_2 cw2_0_3 zw2_1 cw2_1_0 cw2_1_1 cw2_1_2 cw2_1_3 zw2_2 cw2_2_0 cw2_2_1
  go_wp2_with fail
  go_at_call 23
  refine ((H4.out _)).mono ?_
  rintro e w4 ⟨rfl, hw4⟩
  have cw4_0_0 : w4.cell? ⟨W.heap.size, 0, none⟩ = some (.int .i64 lx) := cell_gr hw4 (by go_simp)
  have cw4_0_1 : w4.cell? ⟨W.heap.size, 1, none⟩ = some (.int .i64 ly) := cell_gr hw4 (by go_simp)
  have cw4_0_2 : w4.cell? ⟨W.heap.size, 2, none⟩ = some (.int .i64 hx) := cell_gr hw4 (by go_simp)
  have cw4_0_3 : w4.cell? ⟨W.heap.size, 3, none⟩ = some (.int .i64 hy) := cell_gr hw4 (by go_simp)
  have zw4_0 : W.heap.size < w4.heap.size := World.block_lt_of_cell? _ _ cw4_0_0
  have cw4_1_0 : w4.cell? ⟨W.heap.size + 1, 0, none⟩ = some (.int .i64 mx) := cell_gr hw4 (by go_simp)
  have cw4_1_1 : w4.cell? ⟨W.heap.size + 1, 1, none⟩ = some (.int .i64 my) := cell_gr hw4 (by go_simp)
  have cw4_1_2 : w4.cell? ⟨W.heap.size + 1, 2, none⟩ = some (.int .i64 nx) := cell_gr hw4 (by go_simp)
  have cw4_1_3 : w4.cell? ⟨W.heap.size + 1, 3, none⟩ = some (.int .i64 ny) := cell_gr hw4 (by go_simp)
  have zw4_1 : W.heap.size + 1 < w4.heap.size := World.block_lt_of_cell? _ _ cw4_1_0
  have cw4_2_0 : w4.cell? ⟨W.heap.size + 1 + 1, 0, none⟩ = some (.int .i64 px) := cell_gr hw4 (by go_simp)
  have cw4_2_1 : w4.cell? ⟨W.heap.size + 1 + 1, 1, none⟩ = some (.int .i64 py) := cell_gr hw4 (by go_simp)
  have zw4_2 : W.heap.size + 1 + 1 < w4.heap.size := World.block_lt_of_cell? _ _ cw4_2_0
  have cw4_3_0 : w4.cell? ⟨w3.heap.size, 0, none⟩ = some (.int .i64 qx) := cell_gr hw4 (by go_simp)
  have cw4_3_1 : w4.cell? ⟨w3.heap.size, 1, none⟩ = some (.int .i64 qy) := cell_gr hw4 (by go_simp)
  have zw4_3 : w3.heap.size < w4.heap.size := World.block_lt_of_cell? _ _ cw4_3_0
  have gw4 : Gr W w4 := Gr.trans (by have gg := gw3; have gs := gg.size; go_grown) hw4
  clear hw4 gw3 zw3_0 cw3_0_0 cw3_0_1 cw3_0_2 cw3_0_3 zw3_1 cw3_1_0 cw3_1_1 cw3_1_2 cw3_1_3 zw3_2 cw3_2_0 cw3_2_1
  go_wp2_with fail
  go_at_call 23
  refine ((H5.out _)).mono ?_
  rintro e w5 ⟨rfl, hw5⟩
  have cw5_0_0 : w5.cell? ⟨W.heap.size, 0, none⟩ = some (.int .i64 lx) := cell_gr hw5 (by go_simp)
  have cw5_0_1 : w5.cell? ⟨W.heap.size, 1, none⟩ = some (.int .i64 ly) := cell_gr hw5 (by go_simp)
  have cw5_0_2 : w5.cell? ⟨W.heap.size, 2, none⟩ = some (.int .i64 hx) := cell_gr hw5 (by go_simp)
  have cw5_0_3 : w5.cell? ⟨W.heap.size, 3, none⟩ = some (.int .i64 hy) := cell_gr hw5 (by go_simp)
  have zw5_0 : W.heap.size < w5.heap.size := World.block_lt_of_cell? _ _ cw5_0_0
  have cw5_1_0 : w5.cell? ⟨W.heap.size + 1, 0, none⟩ = some (.int .i64 mx) := cell_gr hw5 (by go_simp)
  have cw5_1_1 : w5.cell? ⟨W.heap.size + 1, 1, none⟩ = some (.int .i64 my) := cell_gr hw5 (by go_simp)
  have cw5_1_2 : w5.cell? ⟨W.heap.size + 1, 2, none⟩ = some (.int .i64 nx) := cell_gr hw5 (by go_simp)
  have cw5_1_3 : w5.cell? ⟨W.heap.size + 1, 3, none⟩ = some (.int .i64 ny) := cell_gr hw5 (by go_simp)
  have zw5_1 : W.heap.size + 1 < w5.heap.size := World.block_lt_of_cell? _ _ cw5_1_0
  have cw5_2_0 : w5.cell? ⟨W.heap.size + 1 + 1, 0, none⟩ = some (.int .i64 px) := cell_gr hw5 (by go_simp)
  have cw5_2_1 : w5.cell? ⟨W.heap.size + 1 + 1, 1, none⟩ = some (.int .i64 py) := cell_gr hw5 (by go_simp)
  have zw5_2 : W.heap.size + 1 + 1 < w5.heap.size := World.block_lt_of_cell? _ _ cw5_2_0
  have cw5_3_0 : w5.cell? ⟨w3.heap.size, 0, none⟩ = some (.int .i64 qx) := cell_gr hw5 (by go_simp)
  have cw5_3_1 : w5.cell? ⟨w3.heap.size, 1, none⟩ = some (.int .i64 qy) := cell_gr hw5 (by go_simp)
  have zw5_3 : w3.heap.size < w5.heap.size := World.block_lt_of_cell? _ _ cw5_3_0
  have gw5 : Gr W w5 := Gr.trans (by have gg := gw4; have gs := gg.size; go_grown) hw5
  clear hw5 gw4 zw4_0 cw4_0_0 cw4_0_1 cw4_0_2 cw4_0_3 zw4_1 cw4_1_0 cw4_1_1 cw4_1_2 cw4_1_3 zw4_2 cw4_2_0 cw4_2_1 zw4_3 cw4_3_0 cw4_3_1
  go_wp2_with fail
  go_at_call 25
  refine ((H6.out _)).mono ?_
  rintro e w6 ⟨rfl, hw6⟩
  have cw6_0_0 : w6.cell? ⟨W.heap.size, 0, none⟩ = some (.int .i64 lx) := cell_gr hw6 (by go_simp)
  have cw6_0_1 : w6.cell? ⟨W.heap.size, 1, none⟩ = some (.int .i64 ly) := cell_gr hw6 (by go_simp)
  have cw6_0_2 : w6.cell? ⟨W.heap.size, 2, none⟩ = some (.int .i64 hx) := cell_gr hw6 (by go_simp)
  have cw6_0_3 : w6.cell? ⟨W.heap.size, 3, none⟩ = some (.int .i64 hy) := cell_gr hw6 (by go_simp)
  have zw6_0 : W.heap.size < w6.heap.size := World.block_lt_of_cell? _ _ cw6_0_0
  have cw6_1_0 : w6.cell? ⟨W.heap.size + 1, 0, none⟩ = some (.int .i64 mx) := cell_gr hw6 (by go_simp)
  have cw6_1_1 : w6.cell? ⟨W.heap.size + 1, 1, none⟩ = some (.int .i64 my) := cell_gr hw6 (by go_simp)
  have cw6_1_2 : w6.cell? ⟨W.heap.size + 1, 2, none⟩ = some (.int .i64 nx) := cell_gr hw6 (by go_simp)
  have cw6_1_3 : w6.cell? ⟨W.heap.size + 1, 3, none⟩ = some (.int .i64 ny) := cell_gr hw6 (by go_simp)
  have zw6_1 : W.heap.size + 1 < w6.heap.size := World.block_lt_of_cell? _ _ cw6_1_0
  have cw6_2_0 : w6.cell? ⟨W.heap.size + 1 + 1, 0, none⟩ = some (.int .i64 px) := cell_gr hw6 (by go_simp)
  have cw6_2_1 : w6.cell? ⟨W.heap.size + 1 + 1, 1, none⟩ = some (.int .i64 py) := cell_gr hw6 (by go_simp)
  have zw6_2 : W.heap.size + 1 + 1 < w6.heap.size := World.block_lt_of_cell? _ _ cw6_2_0
  have cw6_3_0 : w6.cell? ⟨w3.heap.size, 0, none⟩ = some (.int .i64 qx) := cell_gr hw6 (by go_simp)
  have cw6_3_1 : w6.cell? ⟨w3.heap.size, 1, none⟩ = some (.int .i64 qy) := cell_gr hw6 (by go_simp)
  have zw6_3 : w3.heap.size < w6.heap.size := World.block_lt_of_cell? _ _ cw6_3_0
  have gw6 : Gr W w6 := Gr.trans (by have gg := gw5; have gs := gg.size; go_grown) hw6
  clear hw6 gw5 zw5_0 cw5_0_0 cw5_0_1 cw5_0_2 cw5_0_3 zw5_1 cw5_1_0 cw5_1_1 cw5_1_2 cw5_1_3 zw5_2 cw5_2_0 cw5_2_1 zw5_3 cw5_3_0 cw5_3_1
  go_wp2_with fail
  go_at_call 25
  refine ((H7.out _)).mono ?_
  rintro e w7 ⟨rfl, hw7⟩
  have cw7_0_0 : w7.cell? ⟨W.heap.size, 0, none⟩ = some (.int .i64 lx) := cell_gr hw7 (by go_simp)
  have cw7_0_1 : w7.cell? ⟨W.heap.size, 1, none⟩ = some (.int .i64 ly) := cell_gr hw7 (by go_simp)
  have cw7_0_2 : w7.cell? ⟨W.heap.size, 2, none⟩ = some (.int .i64 hx) := cell_gr hw7 (by go_simp)
  have cw7_0_3 : w7.cell? ⟨W.heap.size, 3, none⟩ = some (.int .i64 hy) := cell_gr hw7 (by go_simp)
  have zw7_0 : W.heap.size < w7.heap.size := World.block_lt_of_cell? _ _ cw7_0_0
  have cw7_1_0 : w7.cell? ⟨W.heap.size + 1, 0, none⟩ = some (.int .i64 mx) := cell_gr hw7 (by go_simp)
  have cw7_1_1 : w7.cell? ⟨W.heap.size + 1, 1, none⟩ = some (.int .i64 my) := cell_gr hw7 (by go_simp)
  have cw7_1_2 : w7.cell? ⟨W.heap.size + 1, 2, none⟩ = some (.int .i64 nx) := cell_gr hw7 (by go_simp)
  have cw7_1_3 : w7.cell? ⟨W.heap.size + 1, 3, none⟩ = some (.int .i64 ny) := cell_gr hw7 (by go_simp)
  have zw7_1 : W.heap.size + 1 < w7.heap.size := World.block_lt_of_cell? _ _ cw7_1_0
  have cw7_2_0 : w7.cell? ⟨W.heap.size + 1 + 1, 0, none⟩ = some (.int .i64 px) := cell_gr hw7 (by go_simp)
  have cw7_2_1 : w7.cell? ⟨W.heap.size + 1 + 1, 1, none⟩ = some (.int .i64 py) := cell_gr hw7 (by go_simp)
  have zw7_2 : W.heap.size + 1 + 1 < w7.heap.size := World.block_lt_of_cell? _ _ cw7_2_0
  have cw7_3_0 : w7.cell? ⟨w3.heap.size, 0, none⟩ = some (.int .i64 qx) := cell_gr hw7 (by go_simp)
  have cw7_3_1 : w7.cell? ⟨w3.heap.size, 1, none⟩ = some (.int .i64 qy) := cell_gr hw7 (by go_simp)
  have zw7_3 : w3.heap.size < w7.heap.size := World.block_lt_of_cell? _ _ cw7_3_0
  have gw7 : Gr W w7 := Gr.trans (by have gg := gw6; have gs := gg.size; go_grown) hw7
  clear hw7 gw6 zw6_0 cw6_0_0 cw6_0_1 cw6_0_2 cw6_0_3 zw6_1 cw6_1_0 cw6_1_1 cw6_1_2 cw6_1_3 zw6_2 cw6_2_0 cw6_2_1 zw6_3 cw6_3_0 cw6_3_1
  go_wp2_with fail
  go_at_call 23
  refine ((H8.out _)).mono ?_
  rintro e w8 ⟨rfl, hw8⟩
  have cw8_0_0 : w8.cell? ⟨W.heap.size, 0, none⟩ = some (.int .i64 lx) := cell_gr hw8 (by go_simp)
  have cw8_0_1 : w8.cell? ⟨W.heap.size, 1, none⟩ = some (.int .i64 ly) := cell_gr hw8 (by go_simp)
  have cw8_0_2 : w8.cell? ⟨W.heap.size, 2, none⟩ = some (.int .i64 hx) := cell_gr hw8 (by go_simp)
  have cw8_0_3 : w8.cell? ⟨W.heap.size, 3, none⟩ = some (.int .i64 hy) := cell_gr hw8 (by go_simp)
  have zw8_0 : W.heap.size < w8.heap.size := World.block_lt_of_cell? _ _ cw8_0_0
  have cw8_1_0 : w8.cell? ⟨W.heap.size + 1, 0, none⟩ = some (.int .i64 mx) := cell_gr hw8 (by go_simp)
  have cw8_1_1 : w8.cell? ⟨W.heap.size + 1, 1, none⟩ = some (.int .i64 my) := cell_gr hw8 (by go_simp)
  have cw8_1_2 : w8.cell? ⟨W.heap.size + 1, 2, none⟩ = some (.int .i64 nx) := cell_gr hw8 (by go_simp)
  have cw8_1_3 : w8.cell? ⟨W.heap.size + 1, 3, none⟩ = some (.int .i64 ny) := cell_gr hw8 (by go_simp)
  have zw8_1 : W.heap.size + 1 < w8.heap.size := World.block_lt_of_cell? _ _ cw8_1_0
  have cw8_2_0 : w8.cell? ⟨W.heap.size + 1 + 1, 0, none⟩ = some (.int .i64 px) := cell_gr hw8 (by go_simp)
  have cw8_2_1 : w8.cell? ⟨W.heap.size + 1 + 1, 1, none⟩ = some (.int .i64 py) := cell_gr hw8 (by go_simp)
  have zw8_2 : W.heap.size + 1 + 1 < w8.heap.size := World.block_lt_of_cell? _ _ cw8_2_0
  have cw8_3_0 : w8.cell? ⟨w3.heap.size, 0, none⟩ = some (.int .i64 qx) := cell_gr hw8 (by go_simp)
  have cw8_3_1 : w8.cell? ⟨w3.heap.size, 1, none⟩ = some (.int .i64 qy) := cell_gr hw8 (by go_simp)
  have zw8_3 : w3.heap.size < w8.heap.size := World.block_lt_of_cell? _ _ cw8_3_0
  have gw8 : Gr W w8 := Gr.trans (by have gg := gw7; have gs := gg.size; go_grown) hw8
  clear hw8 gw7 zw7_0 cw7_0_0 cw7_0_1 cw7_0_2 cw7_0_3 zw7_1 cw7_1_0 cw7_1_1 cw7_1_2 cw7_1_3 zw7_2 cw7_2_0 cw7_2_1 zw7_3 cw7_3_0 cw7_3_1
  go_wp2_with fail
  go_at_call 23
  refine ((H9.out _)).mono ?_
  rintro e w9 ⟨rfl, hw9⟩
  have cw9_0_0 : w9.cell? ⟨W.heap.size, 0, none⟩ = some (.int .i64 lx) := cell_gr hw9 (by go_simp)
  have cw9_0_1 : w9.cell? ⟨W.heap.size, 1, none⟩ = some (.int .i64 ly) := cell_gr hw9 (by go_simp)
  have cw9_0_2 : w9.cell? ⟨W.heap.size, 2, none⟩ = some (.int .i64 hx) := cell_gr hw9 (by go_simp)
  have cw9_0_3 : w9.cell? ⟨W.heap.size, 3, none⟩ = some (.int .i64 hy) := cell_gr hw9 (by go_simp)
  have zw9_0 : W.heap.size < w9.heap.size := World.block_lt_of_cell? _ _ cw9_0_0
  have cw9_1_0 : w9.cell? ⟨W.heap.size + 1, 0, none⟩ = some (.int .i64 mx) := cell_gr hw9 (by go_simp)
  have cw9_1_1 : w9.cell? ⟨W.heap.size + 1, 1, none⟩ = some (.int .i64 my) := cell_gr hw9 (by go_simp)
  have cw9_1_2 : w9.cell? ⟨W.heap.size + 1, 2, none⟩ = some (.int .i64 nx) := cell_gr hw9 (by go_simp)
  have cw9_1_3 : w9.cell? ⟨W.heap.size + 1, 3, none⟩ = some (.int .i64 ny) := cell_gr hw9 (by go_simp)
  have zw9_1 : W.heap.size + 1 < w9.heap.size := World.block_lt_of_cell? _ _ cw9_1_0
  have cw9_2_0 : w9.cell? ⟨W.heap.size + 1 + 1, 0, none⟩ = some (.int .i64 px) := cell_gr hw9 (by go_simp)
  have cw9_2_1 : w9.cell? ⟨W.heap.size + 1 + 1, 1, none⟩ = some (.int .i64 py) := cell_gr hw9 (by go_simp)
  have zw9_2 : W.heap.size + 1 + 1 < w9.heap.size := World.block_lt_of_cell? _ _ cw9_2_0
  have cw9_3_0 : w9.cell? ⟨w3.heap.size, 0, none⟩ = some (.int .i64 qx) := cell_gr hw9 (by go_simp)
  have cw9_3_1 : w9.cell? ⟨w3.heap.size, 1, none⟩ = some (.int .i64 qy) := cell_gr hw9 (by go_simp)
  have zw9_3 : w3.heap.size < w9.heap.size := World.block_lt_of_cell? _ _ cw9_3_0
  have gw9 : Gr W w9 := Gr.trans (by have gg := gw8; have gs := gg.size; go_grown) hw9
  clear hw9 gw8 zw8_0 cw8_0_0 cw8_0_1 cw8_0_2 cw8_0_3 zw8_1 cw8_1_0 cw8_1_1 cw8_1_2 cw8_1_3 zw8_2 cw8_2_0 cw8_2_1 zw8_3 cw8_3_0 cw8_3_1
  go_wp2_with fail
  go_at_call 34
  refine ((H10.out _)).mono ?_
  rintro e w10 ⟨rfl, hw10⟩
  have cw10_0_0 : w10.cell? ⟨W.heap.size, 0, none⟩ = some (.int .i64 lx) := cell_gr hw10 (by go_simp)
  have cw10_0_1 : w10.cell? ⟨W.heap.size, 1, none⟩ = some (.int .i64 ly) := cell_gr hw10 (by go_simp)
  have cw10_0_2 : w10.cell? ⟨W.heap.size, 2, none⟩ = some (.int .i64 hx) := cell_gr hw10 (by go_simp)
  have cw10_0_3 : w10.cell? ⟨W.heap.size, 3, none⟩ = some (.int .i64 hy) := cell_gr hw10 (by go_simp)
  have zw10_0 : W.heap.size < w10.heap.size := World.block_lt_of_cell? _ _ cw10_0_0
  have cw10_1_0 : w10.cell? ⟨W.heap.size + 1, 0, none⟩ = some (.int .i64 mx) := cell_gr hw10 (by go_simp)
  have cw10_1_1 : w10.cell? ⟨W.heap.size + 1, 1, none⟩ = some (.int .i64 my) := cell_gr hw10 (by go_simp)
  have cw10_1_2 : w10.cell? ⟨W.heap.size + 1, 2, none⟩ = some (.int .i64 nx) := cell_gr hw10 (by go_simp)
  have cw10_1_3 : w10.cell? ⟨W.heap.size + 1, 3, none⟩ = some (.int .i64 ny) := cell_gr hw10 (by go_simp)
  have zw10_1 : W.heap.size + 1 < w10.heap.size := World.block_lt_of_cell? _ _ cw10_1_0
  have cw10_2_0 : w10.cell? ⟨W.heap.size + 1 + 1, 0, none⟩ = some (.int .i64 px) := cell_gr hw10 (by go_simp)
  have cw10_2_1 : w10.cell? ⟨W.heap.size + 1 + 1, 1, none⟩ = some (.int .i64 py) := cell_gr hw10 (by go_simp)
  have zw10_2 : W.heap.size + 1 + 1 < w10.heap.size := World.block_lt_of_cell? _ _ cw10_2_0
  have cw10_3_0 : w10.cell? ⟨w3.heap.size, 0, none⟩ = some (.int .i64 qx) := cell_gr hw10 (by go_simp)
  have cw10_3_1 : w10.cell? ⟨w3.heap.size, 1, none⟩ = some (.int .i64 qy) := cell_gr hw10 (by go_simp)
  have zw10_3 : w3.heap.size < w10.heap.size := World.block_lt_of_cell? _ _ cw10_3_0
  have gw10 : Gr W w10 := Gr.trans (by have gg := gw9; have gs := gg.size; go_grown) hw10
  clear hw10 gw9 zw9_0 cw9_0_0 cw9_0_1 cw9_0_2 cw9_0_3 zw9_1 cw9_1_0 cw9_1_1 cw9_1_2 cw9_1_3 zw9_2 cw9_2_0 cw9_2_1 zw9_3 cw9_3_0 cw9_3_1
  go_wp2_with fail
  refine wp_region_spread (by kernel_rfl) (by kernel_rfl) ?_
  repeat (first | go_big_quiet_skip | (go_big_quiet_want; go_big_quiet_op; (first | go_big_quiet_on | (apply Exists.intro; refine ⟨fun _ => ?_, ?_⟩; (· (first | (go_at_call 23; first | ((with_reducible refine ((H8.out _)).mono ?_); rintro e w' ⟨rfl, hg⟩; exact ⟨rfl, spread_gr hg⟩)) | (go_at_call 27; first | ((with_reducible refine ((H11.out _)).mono ?_); rintro e w' ⟨rfl, hg⟩; exact ⟨rfl, spread_gr hg⟩) | ((with_reducible refine ((H12.out _)).mono ?_); rintro e w' ⟨rfl, hg⟩; exact ⟨rfl, spread_gr hg⟩)) | (go_at_call 20; first | ((with_reducible refine ((p_awake _)).mono ?_); rintro e w' ⟨rfl, hg⟩; exact ⟨rfl, spread_gr hg⟩)))); go_big_quiet_on))))
  refine wpQuiet_nil ?_
  intro wr hr
  obtain ⟨mr, rfl⟩ := hr
  go_wp2_with fail
  go_ret
  exact ⟨rfl, Gr.trans (by have gg := gw10; have gs := gg.size; go_grown) (gr_spread _ _)⟩

set_option maxHeartbeats 2000000 in
set_option maxRecDepth 100000 in
theorem meets_yes_t_f_f_h_t (lx ly hx hy mx my nx ny px py : Int) (qx qy z : Int) (t hb i2 : Bool) (W : World)
    (A1 : ∀ w, Calls Try.prog 22 #[.agg #[.int .i64 lx, .int .i64 ly, .int .i64 hx, .int .i64 hy]] w fun e w' => e = .returned (.int .i64 0) ∧ Gr w w')
    (A2 : ∀ w, Calls Try.prog 22 #[.agg #[.int .i64 mx, .int .i64 my, .int .i64 nx, .int .i64 ny]] w fun e w' => e = .returned (.int .i64 0) ∧ Gr w w')
    (A3 : ∀ w, Calls Try.prog 11 #[.agg #[.int .i64 px, .int .i64 py]] w fun e w' => e = .returned (.bool true) ∧ Gr w w')
    (A4 : ∀ w, Calls Try.prog 23 #[.agg #[.int .i64 lx, .int .i64 ly, .int .i64 hx, .int .i64 hy], .agg #[.int .i64 qx, .int .i64 qy]] w fun e w' => e = .returned (.bool true) ∧ Gr w w')
    (A5 : ∀ w, Calls Try.prog 23 #[.agg #[.int .i64 mx, .int .i64 my, .int .i64 nx, .int .i64 ny], .agg #[.int .i64 qx, .int .i64 qy]] w fun e w' => e = .returned (.bool false) ∧ Gr w w')
    (A6 : ∀ w, Calls Try.prog 25 #[.agg #[.int .i64 lx, .int .i64 ly, .int .i64 hx, .int .i64 hy], .agg #[.int .i64 mx, .int .i64 my, .int .i64 nx, .int .i64 ny]] w fun e w' => e = .returned (.bool false) ∧ Gr w w')
    (A7 : ∀ w, Calls Try.prog 25 #[.agg #[.int .i64 mx, .int .i64 my, .int .i64 nx, .int .i64 ny], .agg #[.int .i64 lx, .int .i64 ly, .int .i64 hx, .int .i64 hy]] w fun e w' => e = .returned (.bool false) ∧ Gr w w')
    (A8 : ∀ w, Calls Try.prog 23 #[.agg #[.int .i64 lx, .int .i64 ly, .int .i64 hx, .int .i64 hy], .agg #[.int .i64 px, .int .i64 py]] w fun e w' => e = .returned (.bool false) ∧ Gr w w')
    (A9 : ∀ w, Calls Try.prog 23 #[.agg #[.int .i64 mx, .int .i64 my, .int .i64 nx, .int .i64 ny], .agg #[.int .i64 px, .int .i64 py]] w fun e w' => e = .returned (.bool hb) ∧ Gr w w')
    (A10 : ∀ w, Calls Try.prog 34 #[.agg #[.int .i64 lx, .int .i64 ly, .int .i64 hx, .int .i64 hy], .agg #[.int .i64 px, .int .i64 py]] w fun e w' => e = .returned (.agg #[.int .u64 0, .int .u64 z, .int .u64 1]) ∧ Gr w w')
    (A11 : ∀ w, Calls Try.prog 27 #[.agg #[.int .i64 lx, .int .i64 ly, .int .i64 hx, .int .i64 hy], .agg #[.int .i64 mx, .int .i64 my, .int .i64 nx, .int .i64 ny]] w fun e w' => e = .returned (.bool true) ∧ Gr w w')
    (A12 : ∀ w, Calls Try.prog 27 #[.agg #[.int .i64 mx, .int .i64 my, .int .i64 nx, .int .i64 ny], .agg #[.int .i64 lx, .int .i64 ly, .int .i64 hx, .int .i64 hy]] w fun e w' => e = .returned (.bool i2) ∧ Gr w w')
    (M1 : ∀ w, (Builtin.max_ #[3, 3] 3 #[.int .i64 lx, .int .i64 mx]).run Try.prog w = .ok (.int .i64 qx) w) (M2 : ∀ w, (Builtin.max_ #[3, 3] 3 #[.int .i64 ly, .int .i64 my]).run Try.prog w = .ok (.int .i64 qy) w)
    (E1 : ∀ w, (binOp .eql 32 (.agg #[.int .u64 0, .int .u64 z, .int .u64 1]) (.agg #[.int .u64 0, .int .u64 0, .int .u64 1])).run Try.prog w = .ok (.bool false) w)
    (E2 : ∀ w, (binOp .eql 37 (.agg #[.int .i64 lx, .int .i64 ly, .int .i64 hx, .int .i64 hy]) (.agg #[.int .i64 mx, .int .i64 my, .int .i64 nx, .int .i64 ny])).run Try.prog w = .ok (.bool i2) w) :
    Calls Try.prog 8 #[.agg #[.int .i64 lx, .int .i64 ly, .int .i64 hx, .int .i64 hy], .agg #[.int .i64 mx, .int .i64 my, .int .i64 nx, .int .i64 ny], .agg #[.int .i64 px, .int .i64 py]] W fun e w' => e = .returned (.bool true) ∧ Gr W w' := by
  have H1 := Lib.hid A1
  have H2 := Lib.hid A2
  have H3 := Lib.hid A3
  have H4 := Lib.hid A4
  have H5 := Lib.hid A5
  have H6 := Lib.hid A6
  have H7 := Lib.hid A7
  have H8 := Lib.hid A8
  have H9 := Lib.hid A9
  have H10 := Lib.hid A10
  have H11 := Lib.hid A11
  have H12 := Lib.hid A12
  clear A1 A2 A3 A4 A5 A6 A7 A8 A9 A10 A11 A12
  go_enter Try.func8, Try.ntmps8
  go_wp2_with fail
  go_at_call 22
  refine ((H1.out _)).mono ?_
  rintro e w1 ⟨rfl, hw1⟩
  have cw1_0_0 : w1.cell? ⟨W.heap.size, 0, none⟩ = some (.int .i64 lx) := cell_gr hw1 (by go_simp)
  have cw1_0_1 : w1.cell? ⟨W.heap.size, 1, none⟩ = some (.int .i64 ly) := cell_gr hw1 (by go_simp)
  have cw1_0_2 : w1.cell? ⟨W.heap.size, 2, none⟩ = some (.int .i64 hx) := cell_gr hw1 (by go_simp)
  have cw1_0_3 : w1.cell? ⟨W.heap.size, 3, none⟩ = some (.int .i64 hy) := cell_gr hw1 (by go_simp)
  have zw1_0 : W.heap.size < w1.heap.size := World.block_lt_of_cell? _ _ cw1_0_0
  have cw1_1_0 : w1.cell? ⟨W.heap.size + 1, 0, none⟩ = some (.int .i64 mx) := cell_gr hw1 (by go_simp)
  have cw1_1_1 : w1.cell? ⟨W.heap.size + 1, 1, none⟩ = some (.int .i64 my) := cell_gr hw1 (by go_simp)
  have cw1_1_2 : w1.cell? ⟨W.heap.size + 1, 2, none⟩ = some (.int .i64 nx) := cell_gr hw1 (by go_simp)
  have cw1_1_3 : w1.cell? ⟨W.heap.size + 1, 3, none⟩ = some (.int .i64 ny) := cell_gr hw1 (by go_simp)
  have zw1_1 : W.heap.size + 1 < w1.heap.size := World.block_lt_of_cell? _ _ cw1_1_0
  have cw1_2_0 : w1.cell? ⟨W.heap.size + 1 + 1, 0, none⟩ = some (.int .i64 px) := cell_gr hw1 (by go_simp)
  have cw1_2_1 : w1.cell? ⟨W.heap.size + 1 + 1, 1, none⟩ = some (.int .i64 py) := cell_gr hw1 (by go_simp)
  have zw1_2 : W.heap.size + 1 + 1 < w1.heap.size := World.block_lt_of_cell? _ _ cw1_2_0
  have gw1 : Gr W w1 := Gr.trans (by go_grown) hw1
  clear hw1
  go_wp2_with fail
  go_at_call 22
  refine ((H2.out _)).mono ?_
  rintro e w2 ⟨rfl, hw2⟩
  have cw2_0_0 : w2.cell? ⟨W.heap.size, 0, none⟩ = some (.int .i64 lx) := cell_gr hw2 (by go_simp)
  have cw2_0_1 : w2.cell? ⟨W.heap.size, 1, none⟩ = some (.int .i64 ly) := cell_gr hw2 (by go_simp)
  have cw2_0_2 : w2.cell? ⟨W.heap.size, 2, none⟩ = some (.int .i64 hx) := cell_gr hw2 (by go_simp)
  have cw2_0_3 : w2.cell? ⟨W.heap.size, 3, none⟩ = some (.int .i64 hy) := cell_gr hw2 (by go_simp)
  have zw2_0 : W.heap.size < w2.heap.size := World.block_lt_of_cell? _ _ cw2_0_0
  have cw2_1_0 : w2.cell? ⟨W.heap.size + 1, 0, none⟩ = some (.int .i64 mx) := cell_gr hw2 (by go_simp)
  have cw2_1_1 : w2.cell? ⟨W.heap.size + 1, 1, none⟩ = some (.int .i64 my) := cell_gr hw2 (by go_simp)
  have cw2_1_2 : w2.cell? ⟨W.heap.size + 1, 2, none⟩ = some (.int .i64 nx) := cell_gr hw2 (by go_simp)
  have cw2_1_3 : w2.cell? ⟨W.heap.size + 1, 3, none⟩ = some (.int .i64 ny) := cell_gr hw2 (by go_simp)
  have zw2_1 : W.heap.size + 1 < w2.heap.size := World.block_lt_of_cell? _ _ cw2_1_0
  have cw2_2_0 : w2.cell? ⟨W.heap.size + 1 + 1, 0, none⟩ = some (.int .i64 px) := cell_gr hw2 (by go_simp)
  have cw2_2_1 : w2.cell? ⟨W.heap.size + 1 + 1, 1, none⟩ = some (.int .i64 py) := cell_gr hw2 (by go_simp)
  have zw2_2 : W.heap.size + 1 + 1 < w2.heap.size := World.block_lt_of_cell? _ _ cw2_2_0
  have gw2 : Gr W w2 := Gr.trans (by have gg := gw1; have gs := gg.size; go_grown) hw2
  clear hw2 gw1 zw1_0 cw1_0_0 cw1_0_1 cw1_0_2 cw1_0_3 zw1_1 cw1_1_0 cw1_1_1 cw1_1_2 cw1_1_3 zw1_2 cw1_2_0 cw1_2_1
  go_wp2_with fail
  go_at_call 11
  refine ((H3.out _)).mono ?_
  rintro e w3 ⟨rfl, hw3⟩
  have cw3_0_0 : w3.cell? ⟨W.heap.size, 0, none⟩ = some (.int .i64 lx) := cell_gr hw3 (by go_simp)
  have cw3_0_1 : w3.cell? ⟨W.heap.size, 1, none⟩ = some (.int .i64 ly) := cell_gr hw3 (by go_simp)
  have cw3_0_2 : w3.cell? ⟨W.heap.size, 2, none⟩ = some (.int .i64 hx) := cell_gr hw3 (by go_simp)
  have cw3_0_3 : w3.cell? ⟨W.heap.size, 3, none⟩ = some (.int .i64 hy) := cell_gr hw3 (by go_simp)
  have zw3_0 : W.heap.size < w3.heap.size := World.block_lt_of_cell? _ _ cw3_0_0
  have cw3_1_0 : w3.cell? ⟨W.heap.size + 1, 0, none⟩ = some (.int .i64 mx) := cell_gr hw3 (by go_simp)
  have cw3_1_1 : w3.cell? ⟨W.heap.size + 1, 1, none⟩ = some (.int .i64 my) := cell_gr hw3 (by go_simp)
  have cw3_1_2 : w3.cell? ⟨W.heap.size + 1, 2, none⟩ = some (.int .i64 nx) := cell_gr hw3 (by go_simp)
  have cw3_1_3 : w3.cell? ⟨W.heap.size + 1, 3, none⟩ = some (.int .i64 ny) := cell_gr hw3 (by go_simp)
  have zw3_1 : W.heap.size + 1 < w3.heap.size := World.block_lt_of_cell? _ _ cw3_1_0
  have cw3_2_0 : w3.cell? ⟨W.heap.size + 1 + 1, 0, none⟩ = some (.int .i64 px) := cell_gr hw3 (by go_simp)
  have cw3_2_1 : w3.cell? ⟨W.heap.size + 1 + 1, 1, none⟩ = some (.int .i64 py) := cell_gr hw3 (by go_simp)
  have zw3_2 : W.heap.size + 1 + 1 < w3.heap.size := World.block_lt_of_cell? _ _ cw3_2_0
  have gw3 : Gr W w3 := Gr.trans (by have gg := gw2; have gs := gg.size; go_grown) hw3
  clear hw3 gw2 zw2_0 cw2_0_0 cw2_0_1 cw2_0_2 cw2_0_3 zw2_1 cw2_1_0 cw2_1_1 cw2_1_2 cw2_1_3 zw2_2 cw2_2_0 cw2_2_1
  go_wp2_with fail
  go_at_call 23
  refine ((H4.out _)).mono ?_
  rintro e w4 ⟨rfl, hw4⟩
  have cw4_0_0 : w4.cell? ⟨W.heap.size, 0, none⟩ = some (.int .i64 lx) := cell_gr hw4 (by go_simp)
  have cw4_0_1 : w4.cell? ⟨W.heap.size, 1, none⟩ = some (.int .i64 ly) := cell_gr hw4 (by go_simp)
  have cw4_0_2 : w4.cell? ⟨W.heap.size, 2, none⟩ = some (.int .i64 hx) := cell_gr hw4 (by go_simp)
  have cw4_0_3 : w4.cell? ⟨W.heap.size, 3, none⟩ = some (.int .i64 hy) := cell_gr hw4 (by go_simp)
  have zw4_0 : W.heap.size < w4.heap.size := World.block_lt_of_cell? _ _ cw4_0_0
  have cw4_1_0 : w4.cell? ⟨W.heap.size + 1, 0, none⟩ = some (.int .i64 mx) := cell_gr hw4 (by go_simp)
  have cw4_1_1 : w4.cell? ⟨W.heap.size + 1, 1, none⟩ = some (.int .i64 my) := cell_gr hw4 (by go_simp)
  have cw4_1_2 : w4.cell? ⟨W.heap.size + 1, 2, none⟩ = some (.int .i64 nx) := cell_gr hw4 (by go_simp)
  have cw4_1_3 : w4.cell? ⟨W.heap.size + 1, 3, none⟩ = some (.int .i64 ny) := cell_gr hw4 (by go_simp)
  have zw4_1 : W.heap.size + 1 < w4.heap.size := World.block_lt_of_cell? _ _ cw4_1_0
  have cw4_2_0 : w4.cell? ⟨W.heap.size + 1 + 1, 0, none⟩ = some (.int .i64 px) := cell_gr hw4 (by go_simp)
  have cw4_2_1 : w4.cell? ⟨W.heap.size + 1 + 1, 1, none⟩ = some (.int .i64 py) := cell_gr hw4 (by go_simp)
  have zw4_2 : W.heap.size + 1 + 1 < w4.heap.size := World.block_lt_of_cell? _ _ cw4_2_0
  have cw4_3_0 : w4.cell? ⟨w3.heap.size, 0, none⟩ = some (.int .i64 qx) := cell_gr hw4 (by go_simp)
  have cw4_3_1 : w4.cell? ⟨w3.heap.size, 1, none⟩ = some (.int .i64 qy) := cell_gr hw4 (by go_simp)
  have zw4_3 : w3.heap.size < w4.heap.size := World.block_lt_of_cell? _ _ cw4_3_0
  have gw4 : Gr W w4 := Gr.trans (by have gg := gw3; have gs := gg.size; go_grown) hw4
  clear hw4 gw3 zw3_0 cw3_0_0 cw3_0_1 cw3_0_2 cw3_0_3 zw3_1 cw3_1_0 cw3_1_1 cw3_1_2 cw3_1_3 zw3_2 cw3_2_0 cw3_2_1
  go_wp2_with fail
  go_at_call 23
  refine ((H5.out _)).mono ?_
  rintro e w5 ⟨rfl, hw5⟩
  have cw5_0_0 : w5.cell? ⟨W.heap.size, 0, none⟩ = some (.int .i64 lx) := cell_gr hw5 (by go_simp)
  have cw5_0_1 : w5.cell? ⟨W.heap.size, 1, none⟩ = some (.int .i64 ly) := cell_gr hw5 (by go_simp)
  have cw5_0_2 : w5.cell? ⟨W.heap.size, 2, none⟩ = some (.int .i64 hx) := cell_gr hw5 (by go_simp)
  have cw5_0_3 : w5.cell? ⟨W.heap.size, 3, none⟩ = some (.int .i64 hy) := cell_gr hw5 (by go_simp)
  have zw5_0 : W.heap.size < w5.heap.size := World.block_lt_of_cell? _ _ cw5_0_0
  have cw5_1_0 : w5.cell? ⟨W.heap.size + 1, 0, none⟩ = some (.int .i64 mx) := cell_gr hw5 (by go_simp)
  have cw5_1_1 : w5.cell? ⟨W.heap.size + 1, 1, none⟩ = some (.int .i64 my) := cell_gr hw5 (by go_simp)
  have cw5_1_2 : w5.cell? ⟨W.heap.size + 1, 2, none⟩ = some (.int .i64 nx) := cell_gr hw5 (by go_simp)
  have cw5_1_3 : w5.cell? ⟨W.heap.size + 1, 3, none⟩ = some (.int .i64 ny) := cell_gr hw5 (by go_simp)
  have zw5_1 : W.heap.size + 1 < w5.heap.size := World.block_lt_of_cell? _ _ cw5_1_0
  have cw5_2_0 : w5.cell? ⟨W.heap.size + 1 + 1, 0, none⟩ = some (.int .i64 px) := cell_gr hw5 (by go_simp)
  have cw5_2_1 : w5.cell? ⟨W.heap.size + 1 + 1, 1, none⟩ = some (.int .i64 py) := cell_gr hw5 (by go_simp)
  have zw5_2 : W.heap.size + 1 + 1 < w5.heap.size := World.block_lt_of_cell? _ _ cw5_2_0
  have cw5_3_0 : w5.cell? ⟨w3.heap.size, 0, none⟩ = some (.int .i64 qx) := cell_gr hw5 (by go_simp)
  have cw5_3_1 : w5.cell? ⟨w3.heap.size, 1, none⟩ = some (.int .i64 qy) := cell_gr hw5 (by go_simp)
  have zw5_3 : w3.heap.size < w5.heap.size := World.block_lt_of_cell? _ _ cw5_3_0
  have gw5 : Gr W w5 := Gr.trans (by have gg := gw4; have gs := gg.size; go_grown) hw5
  clear hw5 gw4 zw4_0 cw4_0_0 cw4_0_1 cw4_0_2 cw4_0_3 zw4_1 cw4_1_0 cw4_1_1 cw4_1_2 cw4_1_3 zw4_2 cw4_2_0 cw4_2_1 zw4_3 cw4_3_0 cw4_3_1
  go_wp2_with fail
  go_at_call 25
  refine ((H6.out _)).mono ?_
  rintro e w6 ⟨rfl, hw6⟩
  have cw6_0_0 : w6.cell? ⟨W.heap.size, 0, none⟩ = some (.int .i64 lx) := cell_gr hw6 (by go_simp)
  have cw6_0_1 : w6.cell? ⟨W.heap.size, 1, none⟩ = some (.int .i64 ly) := cell_gr hw6 (by go_simp)
  have cw6_0_2 : w6.cell? ⟨W.heap.size, 2, none⟩ = some (.int .i64 hx) := cell_gr hw6 (by go_simp)
  have cw6_0_3 : w6.cell? ⟨W.heap.size, 3, none⟩ = some (.int .i64 hy) := cell_gr hw6 (by go_simp)
  have zw6_0 : W.heap.size < w6.heap.size := World.block_lt_of_cell? _ _ cw6_0_0
  have cw6_1_0 : w6.cell? ⟨W.heap.size + 1, 0, none⟩ = some (.int .i64 mx) := cell_gr hw6 (by go_simp)
  have cw6_1_1 : w6.cell? ⟨W.heap.size + 1, 1, none⟩ = some (.int .i64 my) := cell_gr hw6 (by go_simp)
  have cw6_1_2 : w6.cell? ⟨W.heap.size + 1, 2, none⟩ = some (.int .i64 nx) := cell_gr hw6 (by go_simp)
  have cw6_1_3 : w6.cell? ⟨W.heap.size + 1, 3, none⟩ = some (.int .i64 ny) := cell_gr hw6 (by go_simp)
  have zw6_1 : W.heap.size + 1 < w6.heap.size := World.block_lt_of_cell? _ _ cw6_1_0
  have cw6_2_0 : w6.cell? ⟨W.heap.size + 1 + 1, 0, none⟩ = some (.int .i64 px) := cell_gr hw6 (by go_simp)
  have cw6_2_1 : w6.cell? ⟨W.heap.size + 1 + 1, 1, none⟩ = some (.int .i64 py) := cell_gr hw6 (by go_simp)
  have zw6_2 : W.heap.size + 1 + 1 < w6.heap.size := World.block_lt_of_cell? _ _ cw6_2_0
  have cw6_3_0 : w6.cell? ⟨w3.heap.size, 0, none⟩ = some (.int .i64 qx) := cell_gr hw6 (by go_simp)
  have cw6_3_1 : w6.cell? ⟨w3.heap.size, 1, none⟩ = some (.int .i64 qy) := cell_gr hw6 (by go_simp)
  have zw6_3 : w3.heap.size < w6.heap.size := World.block_lt_of_cell? _ _ cw6_3_0
  have gw6 : Gr W w6 := Gr.trans (by have gg := gw5; have gs := gg.size; go_grown) hw6
  clear hw6 gw5 zw5_0 cw5_0_0 cw5_0_1 cw5_0_2 cw5_0_3 zw5_1 cw5_1_0 cw5_1_1 cw5_1_2 cw5_1_3 zw5_2 cw5_2_0 cw5_2_1 zw5_3 cw5_3_0 cw5_3_1
  go_wp2_with fail
  go_at_call 25
  refine ((H7.out _)).mono ?_
  rintro e w7 ⟨rfl, hw7⟩
  have cw7_0_0 : w7.cell? ⟨W.heap.size, 0, none⟩ = some (.int .i64 lx) := cell_gr hw7 (by go_simp)
  have cw7_0_1 : w7.cell? ⟨W.heap.size, 1, none⟩ = some (.int .i64 ly) := cell_gr hw7 (by go_simp)
  have cw7_0_2 : w7.cell? ⟨W.heap.size, 2, none⟩ = some (.int .i64 hx) := cell_gr hw7 (by go_simp)
  have cw7_0_3 : w7.cell? ⟨W.heap.size, 3, none⟩ = some (.int .i64 hy) := cell_gr hw7 (by go_simp)
  have zw7_0 : W.heap.size < w7.heap.size := World.block_lt_of_cell? _ _ cw7_0_0
  have cw7_1_0 : w7.cell? ⟨W.heap.size + 1, 0, none⟩ = some (.int .i64 mx) := cell_gr hw7 (by go_simp)
  have cw7_1_1 : w7.cell? ⟨W.heap.size + 1, 1, none⟩ = some (.int .i64 my) := cell_gr hw7 (by go_simp)
  have cw7_1_2 : w7.cell? ⟨W.heap.size + 1, 2, none⟩ = some (.int .i64 nx) := cell_gr hw7 (by go_simp)
  have cw7_1_3 : w7.cell? ⟨W.heap.size + 1, 3, none⟩ = some (.int .i64 ny) := cell_gr hw7 (by go_simp)
  have zw7_1 : W.heap.size + 1 < w7.heap.size := World.block_lt_of_cell? _ _ cw7_1_0
  have cw7_2_0 : w7.cell? ⟨W.heap.size + 1 + 1, 0, none⟩ = some (.int .i64 px) := cell_gr hw7 (by go_simp)
  have cw7_2_1 : w7.cell? ⟨W.heap.size + 1 + 1, 1, none⟩ = some (.int .i64 py) := cell_gr hw7 (by go_simp)
  have zw7_2 : W.heap.size + 1 + 1 < w7.heap.size := World.block_lt_of_cell? _ _ cw7_2_0
  have cw7_3_0 : w7.cell? ⟨w3.heap.size, 0, none⟩ = some (.int .i64 qx) := cell_gr hw7 (by go_simp)
  have cw7_3_1 : w7.cell? ⟨w3.heap.size, 1, none⟩ = some (.int .i64 qy) := cell_gr hw7 (by go_simp)
  have zw7_3 : w3.heap.size < w7.heap.size := World.block_lt_of_cell? _ _ cw7_3_0
  have gw7 : Gr W w7 := Gr.trans (by have gg := gw6; have gs := gg.size; go_grown) hw7
  clear hw7 gw6 zw6_0 cw6_0_0 cw6_0_1 cw6_0_2 cw6_0_3 zw6_1 cw6_1_0 cw6_1_1 cw6_1_2 cw6_1_3 zw6_2 cw6_2_0 cw6_2_1 zw6_3 cw6_3_0 cw6_3_1
  go_wp2_with fail
  go_at_call 23
  refine ((H8.out _)).mono ?_
  rintro e w8 ⟨rfl, hw8⟩
  have cw8_0_0 : w8.cell? ⟨W.heap.size, 0, none⟩ = some (.int .i64 lx) := cell_gr hw8 (by go_simp)
  have cw8_0_1 : w8.cell? ⟨W.heap.size, 1, none⟩ = some (.int .i64 ly) := cell_gr hw8 (by go_simp)
  have cw8_0_2 : w8.cell? ⟨W.heap.size, 2, none⟩ = some (.int .i64 hx) := cell_gr hw8 (by go_simp)
  have cw8_0_3 : w8.cell? ⟨W.heap.size, 3, none⟩ = some (.int .i64 hy) := cell_gr hw8 (by go_simp)
  have zw8_0 : W.heap.size < w8.heap.size := World.block_lt_of_cell? _ _ cw8_0_0
  have cw8_1_0 : w8.cell? ⟨W.heap.size + 1, 0, none⟩ = some (.int .i64 mx) := cell_gr hw8 (by go_simp)
  have cw8_1_1 : w8.cell? ⟨W.heap.size + 1, 1, none⟩ = some (.int .i64 my) := cell_gr hw8 (by go_simp)
  have cw8_1_2 : w8.cell? ⟨W.heap.size + 1, 2, none⟩ = some (.int .i64 nx) := cell_gr hw8 (by go_simp)
  have cw8_1_3 : w8.cell? ⟨W.heap.size + 1, 3, none⟩ = some (.int .i64 ny) := cell_gr hw8 (by go_simp)
  have zw8_1 : W.heap.size + 1 < w8.heap.size := World.block_lt_of_cell? _ _ cw8_1_0
  have cw8_2_0 : w8.cell? ⟨W.heap.size + 1 + 1, 0, none⟩ = some (.int .i64 px) := cell_gr hw8 (by go_simp)
  have cw8_2_1 : w8.cell? ⟨W.heap.size + 1 + 1, 1, none⟩ = some (.int .i64 py) := cell_gr hw8 (by go_simp)
  have zw8_2 : W.heap.size + 1 + 1 < w8.heap.size := World.block_lt_of_cell? _ _ cw8_2_0
  have cw8_3_0 : w8.cell? ⟨w3.heap.size, 0, none⟩ = some (.int .i64 qx) := cell_gr hw8 (by go_simp)
  have cw8_3_1 : w8.cell? ⟨w3.heap.size, 1, none⟩ = some (.int .i64 qy) := cell_gr hw8 (by go_simp)
  have zw8_3 : w3.heap.size < w8.heap.size := World.block_lt_of_cell? _ _ cw8_3_0
  have gw8 : Gr W w8 := Gr.trans (by have gg := gw7; have gs := gg.size; go_grown) hw8
  clear hw8 gw7 zw7_0 cw7_0_0 cw7_0_1 cw7_0_2 cw7_0_3 zw7_1 cw7_1_0 cw7_1_1 cw7_1_2 cw7_1_3 zw7_2 cw7_2_0 cw7_2_1 zw7_3 cw7_3_0 cw7_3_1
  go_wp2_with fail
  go_at_call 34
  refine ((H10.out _)).mono ?_
  rintro e w9 ⟨rfl, hw9⟩
  have cw9_0_0 : w9.cell? ⟨W.heap.size, 0, none⟩ = some (.int .i64 lx) := cell_gr hw9 (by go_simp)
  have cw9_0_1 : w9.cell? ⟨W.heap.size, 1, none⟩ = some (.int .i64 ly) := cell_gr hw9 (by go_simp)
  have cw9_0_2 : w9.cell? ⟨W.heap.size, 2, none⟩ = some (.int .i64 hx) := cell_gr hw9 (by go_simp)
  have cw9_0_3 : w9.cell? ⟨W.heap.size, 3, none⟩ = some (.int .i64 hy) := cell_gr hw9 (by go_simp)
  have zw9_0 : W.heap.size < w9.heap.size := World.block_lt_of_cell? _ _ cw9_0_0
  have cw9_1_0 : w9.cell? ⟨W.heap.size + 1, 0, none⟩ = some (.int .i64 mx) := cell_gr hw9 (by go_simp)
  have cw9_1_1 : w9.cell? ⟨W.heap.size + 1, 1, none⟩ = some (.int .i64 my) := cell_gr hw9 (by go_simp)
  have cw9_1_2 : w9.cell? ⟨W.heap.size + 1, 2, none⟩ = some (.int .i64 nx) := cell_gr hw9 (by go_simp)
  have cw9_1_3 : w9.cell? ⟨W.heap.size + 1, 3, none⟩ = some (.int .i64 ny) := cell_gr hw9 (by go_simp)
  have zw9_1 : W.heap.size + 1 < w9.heap.size := World.block_lt_of_cell? _ _ cw9_1_0
  have cw9_2_0 : w9.cell? ⟨W.heap.size + 1 + 1, 0, none⟩ = some (.int .i64 px) := cell_gr hw9 (by go_simp)
  have cw9_2_1 : w9.cell? ⟨W.heap.size + 1 + 1, 1, none⟩ = some (.int .i64 py) := cell_gr hw9 (by go_simp)
  have zw9_2 : W.heap.size + 1 + 1 < w9.heap.size := World.block_lt_of_cell? _ _ cw9_2_0
  have cw9_3_0 : w9.cell? ⟨w3.heap.size, 0, none⟩ = some (.int .i64 qx) := cell_gr hw9 (by go_simp)
  have cw9_3_1 : w9.cell? ⟨w3.heap.size, 1, none⟩ = some (.int .i64 qy) := cell_gr hw9 (by go_simp)
  have zw9_3 : w3.heap.size < w9.heap.size := World.block_lt_of_cell? _ _ cw9_3_0
  have gw9 : Gr W w9 := Gr.trans (by have gg := gw8; have gs := gg.size; go_grown) hw9
  clear hw9 gw8 zw8_0 cw8_0_0 cw8_0_1 cw8_0_2 cw8_0_3 zw8_1 cw8_1_0 cw8_1_1 cw8_1_2 cw8_1_3 zw8_2 cw8_2_0 cw8_2_1 zw8_3 cw8_3_0 cw8_3_1
  go_wp2_with fail
  refine wp_region_spread (by kernel_rfl) (by kernel_rfl) ?_
  repeat (first | go_big_quiet_skip | (go_big_quiet_want; go_big_quiet_op; (first | go_big_quiet_on | (apply Exists.intro; refine ⟨fun _ => ?_, ?_⟩; (· (first | (go_at_call 23; first | ((with_reducible refine ((H8.out _)).mono ?_); rintro e w' ⟨rfl, hg⟩; exact ⟨rfl, spread_gr hg⟩)) | (go_at_call 27; first | ((with_reducible refine ((H11.out _)).mono ?_); rintro e w' ⟨rfl, hg⟩; exact ⟨rfl, spread_gr hg⟩) | ((with_reducible refine ((H12.out _)).mono ?_); rintro e w' ⟨rfl, hg⟩; exact ⟨rfl, spread_gr hg⟩)) | (go_at_call 20; first | ((with_reducible refine ((p_awake _)).mono ?_); rintro e w' ⟨rfl, hg⟩; exact ⟨rfl, spread_gr hg⟩)))); go_big_quiet_on))))
  refine wpQuiet_nil ?_
  intro wr hr
  obtain ⟨mr, rfl⟩ := hr
  go_wp2_with fail
  go_ret
  exact ⟨rfl, Gr.trans (by have gg := gw9; have gs := gg.size; go_grown) (gr_spread _ _)⟩

set_option maxHeartbeats 2000000 in
set_option maxRecDepth 100000 in
theorem meets_yes_t_f_f_h_f (lx ly hx hy mx my nx ny px py : Int) (qx qy z : Int) (t hb i2 : Bool) (W : World)
    (A1 : ∀ w, Calls Try.prog 22 #[.agg #[.int .i64 lx, .int .i64 ly, .int .i64 hx, .int .i64 hy]] w fun e w' => e = .returned (.int .i64 0) ∧ Gr w w')
    (A2 : ∀ w, Calls Try.prog 22 #[.agg #[.int .i64 mx, .int .i64 my, .int .i64 nx, .int .i64 ny]] w fun e w' => e = .returned (.int .i64 0) ∧ Gr w w')
    (A3 : ∀ w, Calls Try.prog 11 #[.agg #[.int .i64 px, .int .i64 py]] w fun e w' => e = .returned (.bool true) ∧ Gr w w')
    (A4 : ∀ w, Calls Try.prog 23 #[.agg #[.int .i64 lx, .int .i64 ly, .int .i64 hx, .int .i64 hy], .agg #[.int .i64 qx, .int .i64 qy]] w fun e w' => e = .returned (.bool true) ∧ Gr w w')
    (A5 : ∀ w, Calls Try.prog 23 #[.agg #[.int .i64 mx, .int .i64 my, .int .i64 nx, .int .i64 ny], .agg #[.int .i64 qx, .int .i64 qy]] w fun e w' => e = .returned (.bool false) ∧ Gr w w')
    (A6 : ∀ w, Calls Try.prog 25 #[.agg #[.int .i64 lx, .int .i64 ly, .int .i64 hx, .int .i64 hy], .agg #[.int .i64 mx, .int .i64 my, .int .i64 nx, .int .i64 ny]] w fun e w' => e = .returned (.bool false) ∧ Gr w w')
    (A7 : ∀ w, Calls Try.prog 25 #[.agg #[.int .i64 mx, .int .i64 my, .int .i64 nx, .int .i64 ny], .agg #[.int .i64 lx, .int .i64 ly, .int .i64 hx, .int .i64 hy]] w fun e w' => e = .returned (.bool false) ∧ Gr w w')
    (A8 : ∀ w, Calls Try.prog 23 #[.agg #[.int .i64 lx, .int .i64 ly, .int .i64 hx, .int .i64 hy], .agg #[.int .i64 px, .int .i64 py]] w fun e w' => e = .returned (.bool false) ∧ Gr w w')
    (A9 : ∀ w, Calls Try.prog 23 #[.agg #[.int .i64 mx, .int .i64 my, .int .i64 nx, .int .i64 ny], .agg #[.int .i64 px, .int .i64 py]] w fun e w' => e = .returned (.bool hb) ∧ Gr w w')
    (A10 : ∀ w, Calls Try.prog 34 #[.agg #[.int .i64 lx, .int .i64 ly, .int .i64 hx, .int .i64 hy], .agg #[.int .i64 px, .int .i64 py]] w fun e w' => e = .returned (.agg #[.int .u64 0, .int .u64 z, .int .u64 1]) ∧ Gr w w')
    (A11 : ∀ w, Calls Try.prog 27 #[.agg #[.int .i64 lx, .int .i64 ly, .int .i64 hx, .int .i64 hy], .agg #[.int .i64 mx, .int .i64 my, .int .i64 nx, .int .i64 ny]] w fun e w' => e = .returned (.bool false) ∧ Gr w w')
    (A12 : ∀ w, Calls Try.prog 27 #[.agg #[.int .i64 mx, .int .i64 my, .int .i64 nx, .int .i64 ny], .agg #[.int .i64 lx, .int .i64 ly, .int .i64 hx, .int .i64 hy]] w fun e w' => e = .returned (.bool i2) ∧ Gr w w')
    (M1 : ∀ w, (Builtin.max_ #[3, 3] 3 #[.int .i64 lx, .int .i64 mx]).run Try.prog w = .ok (.int .i64 qx) w) (M2 : ∀ w, (Builtin.max_ #[3, 3] 3 #[.int .i64 ly, .int .i64 my]).run Try.prog w = .ok (.int .i64 qy) w)
    (E1 : ∀ w, (binOp .eql 32 (.agg #[.int .u64 0, .int .u64 z, .int .u64 1]) (.agg #[.int .u64 0, .int .u64 0, .int .u64 1])).run Try.prog w = .ok (.bool false) w)
    (E2 : ∀ w, (binOp .eql 37 (.agg #[.int .i64 lx, .int .i64 ly, .int .i64 hx, .int .i64 hy]) (.agg #[.int .i64 mx, .int .i64 my, .int .i64 nx, .int .i64 ny])).run Try.prog w = .ok (.bool false) w) :
    Calls Try.prog 8 #[.agg #[.int .i64 lx, .int .i64 ly, .int .i64 hx, .int .i64 hy], .agg #[.int .i64 mx, .int .i64 my, .int .i64 nx, .int .i64 ny], .agg #[.int .i64 px, .int .i64 py]] W fun e w' => e = .returned (.bool true) ∧ Gr W w' := by
  have H1 := Lib.hid A1
  have H2 := Lib.hid A2
  have H3 := Lib.hid A3
  have H4 := Lib.hid A4
  have H5 := Lib.hid A5
  have H6 := Lib.hid A6
  have H7 := Lib.hid A7
  have H8 := Lib.hid A8
  have H9 := Lib.hid A9
  have H10 := Lib.hid A10
  have H11 := Lib.hid A11
  have H12 := Lib.hid A12
  clear A1 A2 A3 A4 A5 A6 A7 A8 A9 A10 A11 A12
  go_enter Try.func8, Try.ntmps8
  go_wp2_with fail
  go_at_call 22
  refine ((H1.out _)).mono ?_
  rintro e w1 ⟨rfl, hw1⟩
  have cw1_0_0 : w1.cell? ⟨W.heap.size, 0, none⟩ = some (.int .i64 lx) := cell_gr hw1 (by go_simp)
  have cw1_0_1 : w1.cell? ⟨W.heap.size, 1, none⟩ = some (.int .i64 ly) := cell_gr hw1 (by go_simp)
  have cw1_0_2 : w1.cell? ⟨W.heap.size, 2, none⟩ = some (.int .i64 hx) := cell_gr hw1 (by go_simp)
  have cw1_0_3 : w1.cell? ⟨W.heap.size, 3, none⟩ = some (.int .i64 hy) := cell_gr hw1 (by go_simp)
  have zw1_0 : W.heap.size < w1.heap.size := World.block_lt_of_cell? _ _ cw1_0_0
  have cw1_1_0 : w1.cell? ⟨W.heap.size + 1, 0, none⟩ = some (.int .i64 mx) := cell_gr hw1 (by go_simp)
  have cw1_1_1 : w1.cell? ⟨W.heap.size + 1, 1, none⟩ = some (.int .i64 my) := cell_gr hw1 (by go_simp)
  have cw1_1_2 : w1.cell? ⟨W.heap.size + 1, 2, none⟩ = some (.int .i64 nx) := cell_gr hw1 (by go_simp)
  have cw1_1_3 : w1.cell? ⟨W.heap.size + 1, 3, none⟩ = some (.int .i64 ny) := cell_gr hw1 (by go_simp)
  have zw1_1 : W.heap.size + 1 < w1.heap.size := World.block_lt_of_cell? _ _ cw1_1_0
  have cw1_2_0 : w1.cell? ⟨W.heap.size + 1 + 1, 0, none⟩ = some (.int .i64 px) := cell_gr hw1 (by go_simp)
  have cw1_2_1 : w1.cell? ⟨W.heap.size + 1 + 1, 1, none⟩ = some (.int .i64 py) := cell_gr hw1 (by go_simp)
  have zw1_2 : W.heap.size + 1 + 1 < w1.heap.size := World.block_lt_of_cell? _ _ cw1_2_0
  have gw1 : Gr W w1 := Gr.trans (by go_grown) hw1
  clear hw1
  go_wp2_with fail
  go_at_call 22
  refine ((H2.out _)).mono ?_
  rintro e w2 ⟨rfl, hw2⟩
  have cw2_0_0 : w2.cell? ⟨W.heap.size, 0, none⟩ = some (.int .i64 lx) := cell_gr hw2 (by go_simp)
  have cw2_0_1 : w2.cell? ⟨W.heap.size, 1, none⟩ = some (.int .i64 ly) := cell_gr hw2 (by go_simp)
  have cw2_0_2 : w2.cell? ⟨W.heap.size, 2, none⟩ = some (.int .i64 hx) := cell_gr hw2 (by go_simp)
  have cw2_0_3 : w2.cell? ⟨W.heap.size, 3, none⟩ = some (.int .i64 hy) := cell_gr hw2 (by go_simp)
  have zw2_0 : W.heap.size < w2.heap.size := World.block_lt_of_cell? _ _ cw2_0_0
  have cw2_1_0 : w2.cell? ⟨W.heap.size + 1, 0, none⟩ = some (.int .i64 mx) := cell_gr hw2 (by go_simp)
  have cw2_1_1 : w2.cell? ⟨W.heap.size + 1, 1, none⟩ = some (.int .i64 my) := cell_gr hw2 (by go_simp)
  have cw2_1_2 : w2.cell? ⟨W.heap.size + 1, 2, none⟩ = some (.int .i64 nx) := cell_gr hw2 (by go_simp)
  have cw2_1_3 : w2.cell? ⟨W.heap.size + 1, 3, none⟩ = some (.int .i64 ny) := cell_gr hw2 (by go_simp)
  have zw2_1 : W.heap.size + 1 < w2.heap.size := World.block_lt_of_cell? _ _ cw2_1_0
  have cw2_2_0 : w2.cell? ⟨W.heap.size + 1 + 1, 0, none⟩ = some (.int .i64 px) := cell_gr hw2 (by go_simp)
  have cw2_2_1 : w2.cell? ⟨W.heap.size + 1 + 1, 1, none⟩ = some (.int .i64 py) := cell_gr hw2 (by go_simp)
  have zw2_2 : W.heap.size + 1 + 1 < w2.heap.size := World.block_lt_of_cell? _ _ cw2_2_0
  have gw2 : Gr W w2 := Gr.trans (by have gg := gw1; have gs := gg.size; go_grown) hw2
  clear hw2 gw1 zw1_0 cw1_0_0 cw1_0_1 cw1_0_2 cw1_0_3 zw1_1 cw1_1_0 cw1_1_1 cw1_1_2 cw1_1_3 zw1_2 cw1_2_0 cw1_2_1
  go_wp2_with fail
  go_at_call 11
  refine ((H3.out _)).mono ?_
  rintro e w3 ⟨rfl, hw3⟩
  have cw3_0_0 : w3.cell? ⟨W.heap.size, 0, none⟩ = some (.int .i64 lx) := cell_gr hw3 (by go_simp)
  have cw3_0_1 : w3.cell? ⟨W.heap.size, 1, none⟩ = some (.int .i64 ly) := cell_gr hw3 (by go_simp)
  have cw3_0_2 : w3.cell? ⟨W.heap.size, 2, none⟩ = some (.int .i64 hx) := cell_gr hw3 (by go_simp)
  have cw3_0_3 : w3.cell? ⟨W.heap.size, 3, none⟩ = some (.int .i64 hy) := cell_gr hw3 (by go_simp)
  have zw3_0 : W.heap.size < w3.heap.size := World.block_lt_of_cell? _ _ cw3_0_0
  have cw3_1_0 : w3.cell? ⟨W.heap.size + 1, 0, none⟩ = some (.int .i64 mx) := cell_gr hw3 (by go_simp)
  have cw3_1_1 : w3.cell? ⟨W.heap.size + 1, 1, none⟩ = some (.int .i64 my) := cell_gr hw3 (by go_simp)
  have cw3_1_2 : w3.cell? ⟨W.heap.size + 1, 2, none⟩ = some (.int .i64 nx) := cell_gr hw3 (by go_simp)
  have cw3_1_3 : w3.cell? ⟨W.heap.size + 1, 3, none⟩ = some (.int .i64 ny) := cell_gr hw3 (by go_simp)
  have zw3_1 : W.heap.size + 1 < w3.heap.size := World.block_lt_of_cell? _ _ cw3_1_0
  have cw3_2_0 : w3.cell? ⟨W.heap.size + 1 + 1, 0, none⟩ = some (.int .i64 px) := cell_gr hw3 (by go_simp)
  have cw3_2_1 : w3.cell? ⟨W.heap.size + 1 + 1, 1, none⟩ = some (.int .i64 py) := cell_gr hw3 (by go_simp)
  have zw3_2 : W.heap.size + 1 + 1 < w3.heap.size := World.block_lt_of_cell? _ _ cw3_2_0
  have gw3 : Gr W w3 := Gr.trans (by have gg := gw2; have gs := gg.size; go_grown) hw3
  clear hw3 gw2 zw2_0 cw2_0_0 cw2_0_1 cw2_0_2 cw2_0_3 zw2_1 cw2_1_0 cw2_1_1 cw2_1_2 cw2_1_3 zw2_2 cw2_2_0 cw2_2_1
  go_wp2_with fail
  go_at_call 23
  refine ((H4.out _)).mono ?_
  rintro e w4 ⟨rfl, hw4⟩
  have cw4_0_0 : w4.cell? ⟨W.heap.size, 0, none⟩ = some (.int .i64 lx) := cell_gr hw4 (by go_simp)
  have cw4_0_1 : w4.cell? ⟨W.heap.size, 1, none⟩ = some (.int .i64 ly) := cell_gr hw4 (by go_simp)
  have cw4_0_2 : w4.cell? ⟨W.heap.size, 2, none⟩ = some (.int .i64 hx) := cell_gr hw4 (by go_simp)
  have cw4_0_3 : w4.cell? ⟨W.heap.size, 3, none⟩ = some (.int .i64 hy) := cell_gr hw4 (by go_simp)
  have zw4_0 : W.heap.size < w4.heap.size := World.block_lt_of_cell? _ _ cw4_0_0
  have cw4_1_0 : w4.cell? ⟨W.heap.size + 1, 0, none⟩ = some (.int .i64 mx) := cell_gr hw4 (by go_simp)
  have cw4_1_1 : w4.cell? ⟨W.heap.size + 1, 1, none⟩ = some (.int .i64 my) := cell_gr hw4 (by go_simp)
  have cw4_1_2 : w4.cell? ⟨W.heap.size + 1, 2, none⟩ = some (.int .i64 nx) := cell_gr hw4 (by go_simp)
  have cw4_1_3 : w4.cell? ⟨W.heap.size + 1, 3, none⟩ = some (.int .i64 ny) := cell_gr hw4 (by go_simp)
  have zw4_1 : W.heap.size + 1 < w4.heap.size := World.block_lt_of_cell? _ _ cw4_1_0
  have cw4_2_0 : w4.cell? ⟨W.heap.size + 1 + 1, 0, none⟩ = some (.int .i64 px) := cell_gr hw4 (by go_simp)
  have cw4_2_1 : w4.cell? ⟨W.heap.size + 1 + 1, 1, none⟩ = some (.int .i64 py) := cell_gr hw4 (by go_simp)
  have zw4_2 : W.heap.size + 1 + 1 < w4.heap.size := World.block_lt_of_cell? _ _ cw4_2_0
  have cw4_3_0 : w4.cell? ⟨w3.heap.size, 0, none⟩ = some (.int .i64 qx) := cell_gr hw4 (by go_simp)
  have cw4_3_1 : w4.cell? ⟨w3.heap.size, 1, none⟩ = some (.int .i64 qy) := cell_gr hw4 (by go_simp)
  have zw4_3 : w3.heap.size < w4.heap.size := World.block_lt_of_cell? _ _ cw4_3_0
  have gw4 : Gr W w4 := Gr.trans (by have gg := gw3; have gs := gg.size; go_grown) hw4
  clear hw4 gw3 zw3_0 cw3_0_0 cw3_0_1 cw3_0_2 cw3_0_3 zw3_1 cw3_1_0 cw3_1_1 cw3_1_2 cw3_1_3 zw3_2 cw3_2_0 cw3_2_1
  go_wp2_with fail
  go_at_call 23
  refine ((H5.out _)).mono ?_
  rintro e w5 ⟨rfl, hw5⟩
  have cw5_0_0 : w5.cell? ⟨W.heap.size, 0, none⟩ = some (.int .i64 lx) := cell_gr hw5 (by go_simp)
  have cw5_0_1 : w5.cell? ⟨W.heap.size, 1, none⟩ = some (.int .i64 ly) := cell_gr hw5 (by go_simp)
  have cw5_0_2 : w5.cell? ⟨W.heap.size, 2, none⟩ = some (.int .i64 hx) := cell_gr hw5 (by go_simp)
  have cw5_0_3 : w5.cell? ⟨W.heap.size, 3, none⟩ = some (.int .i64 hy) := cell_gr hw5 (by go_simp)
  have zw5_0 : W.heap.size < w5.heap.size := World.block_lt_of_cell? _ _ cw5_0_0
  have cw5_1_0 : w5.cell? ⟨W.heap.size + 1, 0, none⟩ = some (.int .i64 mx) := cell_gr hw5 (by go_simp)
  have cw5_1_1 : w5.cell? ⟨W.heap.size + 1, 1, none⟩ = some (.int .i64 my) := cell_gr hw5 (by go_simp)
  have cw5_1_2 : w5.cell? ⟨W.heap.size + 1, 2, none⟩ = some (.int .i64 nx) := cell_gr hw5 (by go_simp)
  have cw5_1_3 : w5.cell? ⟨W.heap.size + 1, 3, none⟩ = some (.int .i64 ny) := cell_gr hw5 (by go_simp)
  have zw5_1 : W.heap.size + 1 < w5.heap.size := World.block_lt_of_cell? _ _ cw5_1_0
  have cw5_2_0 : w5.cell? ⟨W.heap.size + 1 + 1, 0, none⟩ = some (.int .i64 px) := cell_gr hw5 (by go_simp)
  have cw5_2_1 : w5.cell? ⟨W.heap.size + 1 + 1, 1, none⟩ = some (.int .i64 py) := cell_gr hw5 (by go_simp)
  have zw5_2 : W.heap.size + 1 + 1 < w5.heap.size := World.block_lt_of_cell? _ _ cw5_2_0
  have cw5_3_0 : w5.cell? ⟨w3.heap.size, 0, none⟩ = some (.int .i64 qx) := cell_gr hw5 (by go_simp)
  have cw5_3_1 : w5.cell? ⟨w3.heap.size, 1, none⟩ = some (.int .i64 qy) := cell_gr hw5 (by go_simp)
  have zw5_3 : w3.heap.size < w5.heap.size := World.block_lt_of_cell? _ _ cw5_3_0
  have gw5 : Gr W w5 := Gr.trans (by have gg := gw4; have gs := gg.size; go_grown) hw5
  clear hw5 gw4 zw4_0 cw4_0_0 cw4_0_1 cw4_0_2 cw4_0_3 zw4_1 cw4_1_0 cw4_1_1 cw4_1_2 cw4_1_3 zw4_2 cw4_2_0 cw4_2_1 zw4_3 cw4_3_0 cw4_3_1
  go_wp2_with fail
  go_at_call 25
  refine ((H6.out _)).mono ?_
  rintro e w6 ⟨rfl, hw6⟩
  have cw6_0_0 : w6.cell? ⟨W.heap.size, 0, none⟩ = some (.int .i64 lx) := cell_gr hw6 (by go_simp)
  have cw6_0_1 : w6.cell? ⟨W.heap.size, 1, none⟩ = some (.int .i64 ly) := cell_gr hw6 (by go_simp)
  have cw6_0_2 : w6.cell? ⟨W.heap.size, 2, none⟩ = some (.int .i64 hx) := cell_gr hw6 (by go_simp)
  have cw6_0_3 : w6.cell? ⟨W.heap.size, 3, none⟩ = some (.int .i64 hy) := cell_gr hw6 (by go_simp)
  have zw6_0 : W.heap.size < w6.heap.size := World.block_lt_of_cell? _ _ cw6_0_0
  have cw6_1_0 : w6.cell? ⟨W.heap.size + 1, 0, none⟩ = some (.int .i64 mx) := cell_gr hw6 (by go_simp)
  have cw6_1_1 : w6.cell? ⟨W.heap.size + 1, 1, none⟩ = some (.int .i64 my) := cell_gr hw6 (by go_simp)
  have cw6_1_2 : w6.cell? ⟨W.heap.size + 1, 2, none⟩ = some (.int .i64 nx) := cell_gr hw6 (by go_simp)
  have cw6_1_3 : w6.cell? ⟨W.heap.size + 1, 3, none⟩ = some (.int .i64 ny) := cell_gr hw6 (by go_simp)
  have zw6_1 : W.heap.size + 1 < w6.heap.size := World.block_lt_of_cell? _ _ cw6_1_0
  have cw6_2_0 : w6.cell? ⟨W.heap.size + 1 + 1, 0, none⟩ = some (.int .i64 px) := cell_gr hw6 (by go_simp)
  have cw6_2_1 : w6.cell? ⟨W.heap.size + 1 + 1, 1, none⟩ = some (.int .i64 py) := cell_gr hw6 (by go_simp)
  have zw6_2 : W.heap.size + 1 + 1 < w6.heap.size := World.block_lt_of_cell? _ _ cw6_2_0
  have cw6_3_0 : w6.cell? ⟨w3.heap.size, 0, none⟩ = some (.int .i64 qx) := cell_gr hw6 (by go_simp)
  have cw6_3_1 : w6.cell? ⟨w3.heap.size, 1, none⟩ = some (.int .i64 qy) := cell_gr hw6 (by go_simp)
  have zw6_3 : w3.heap.size < w6.heap.size := World.block_lt_of_cell? _ _ cw6_3_0
  have gw6 : Gr W w6 := Gr.trans (by have gg := gw5; have gs := gg.size; go_grown) hw6
  clear hw6 gw5 zw5_0 cw5_0_0 cw5_0_1 cw5_0_2 cw5_0_3 zw5_1 cw5_1_0 cw5_1_1 cw5_1_2 cw5_1_3 zw5_2 cw5_2_0 cw5_2_1 zw5_3 cw5_3_0 cw5_3_1
  go_wp2_with fail
  go_at_call 25
  refine ((H7.out _)).mono ?_
  rintro e w7 ⟨rfl, hw7⟩
  have cw7_0_0 : w7.cell? ⟨W.heap.size, 0, none⟩ = some (.int .i64 lx) := cell_gr hw7 (by go_simp)
  have cw7_0_1 : w7.cell? ⟨W.heap.size, 1, none⟩ = some (.int .i64 ly) := cell_gr hw7 (by go_simp)
  have cw7_0_2 : w7.cell? ⟨W.heap.size, 2, none⟩ = some (.int .i64 hx) := cell_gr hw7 (by go_simp)
  have cw7_0_3 : w7.cell? ⟨W.heap.size, 3, none⟩ = some (.int .i64 hy) := cell_gr hw7 (by go_simp)
  have zw7_0 : W.heap.size < w7.heap.size := World.block_lt_of_cell? _ _ cw7_0_0
  have cw7_1_0 : w7.cell? ⟨W.heap.size + 1, 0, none⟩ = some (.int .i64 mx) := cell_gr hw7 (by go_simp)
  have cw7_1_1 : w7.cell? ⟨W.heap.size + 1, 1, none⟩ = some (.int .i64 my) := cell_gr hw7 (by go_simp)
  have cw7_1_2 : w7.cell? ⟨W.heap.size + 1, 2, none⟩ = some (.int .i64 nx) := cell_gr hw7 (by go_simp)
  have cw7_1_3 : w7.cell? ⟨W.heap.size + 1, 3, none⟩ = some (.int .i64 ny) := cell_gr hw7 (by go_simp)
  have zw7_1 : W.heap.size + 1 < w7.heap.size := World.block_lt_of_cell? _ _ cw7_1_0
  have cw7_2_0 : w7.cell? ⟨W.heap.size + 1 + 1, 0, none⟩ = some (.int .i64 px) := cell_gr hw7 (by go_simp)
  have cw7_2_1 : w7.cell? ⟨W.heap.size + 1 + 1, 1, none⟩ = some (.int .i64 py) := cell_gr hw7 (by go_simp)
  have zw7_2 : W.heap.size + 1 + 1 < w7.heap.size := World.block_lt_of_cell? _ _ cw7_2_0
  have cw7_3_0 : w7.cell? ⟨w3.heap.size, 0, none⟩ = some (.int .i64 qx) := cell_gr hw7 (by go_simp)
  have cw7_3_1 : w7.cell? ⟨w3.heap.size, 1, none⟩ = some (.int .i64 qy) := cell_gr hw7 (by go_simp)
  have zw7_3 : w3.heap.size < w7.heap.size := World.block_lt_of_cell? _ _ cw7_3_0
  have gw7 : Gr W w7 := Gr.trans (by have gg := gw6; have gs := gg.size; go_grown) hw7
  clear hw7 gw6 zw6_0 cw6_0_0 cw6_0_1 cw6_0_2 cw6_0_3 zw6_1 cw6_1_0 cw6_1_1 cw6_1_2 cw6_1_3 zw6_2 cw6_2_0 cw6_2_1 zw6_3 cw6_3_0 cw6_3_1
  go_wp2_with fail
  go_at_call 23
  refine ((H8.out _)).mono ?_
  rintro e w8 ⟨rfl, hw8⟩
  have cw8_0_0 : w8.cell? ⟨W.heap.size, 0, none⟩ = some (.int .i64 lx) := cell_gr hw8 (by go_simp)
  have cw8_0_1 : w8.cell? ⟨W.heap.size, 1, none⟩ = some (.int .i64 ly) := cell_gr hw8 (by go_simp)
  have cw8_0_2 : w8.cell? ⟨W.heap.size, 2, none⟩ = some (.int .i64 hx) := cell_gr hw8 (by go_simp)
  have cw8_0_3 : w8.cell? ⟨W.heap.size, 3, none⟩ = some (.int .i64 hy) := cell_gr hw8 (by go_simp)
  have zw8_0 : W.heap.size < w8.heap.size := World.block_lt_of_cell? _ _ cw8_0_0
  have cw8_1_0 : w8.cell? ⟨W.heap.size + 1, 0, none⟩ = some (.int .i64 mx) := cell_gr hw8 (by go_simp)
  have cw8_1_1 : w8.cell? ⟨W.heap.size + 1, 1, none⟩ = some (.int .i64 my) := cell_gr hw8 (by go_simp)
  have cw8_1_2 : w8.cell? ⟨W.heap.size + 1, 2, none⟩ = some (.int .i64 nx) := cell_gr hw8 (by go_simp)
  have cw8_1_3 : w8.cell? ⟨W.heap.size + 1, 3, none⟩ = some (.int .i64 ny) := cell_gr hw8 (by go_simp)
  have zw8_1 : W.heap.size + 1 < w8.heap.size := World.block_lt_of_cell? _ _ cw8_1_0
  have cw8_2_0 : w8.cell? ⟨W.heap.size + 1 + 1, 0, none⟩ = some (.int .i64 px) := cell_gr hw8 (by go_simp)
  have cw8_2_1 : w8.cell? ⟨W.heap.size + 1 + 1, 1, none⟩ = some (.int .i64 py) := cell_gr hw8 (by go_simp)
  have zw8_2 : W.heap.size + 1 + 1 < w8.heap.size := World.block_lt_of_cell? _ _ cw8_2_0
  have cw8_3_0 : w8.cell? ⟨w3.heap.size, 0, none⟩ = some (.int .i64 qx) := cell_gr hw8 (by go_simp)
  have cw8_3_1 : w8.cell? ⟨w3.heap.size, 1, none⟩ = some (.int .i64 qy) := cell_gr hw8 (by go_simp)
  have zw8_3 : w3.heap.size < w8.heap.size := World.block_lt_of_cell? _ _ cw8_3_0
  have gw8 : Gr W w8 := Gr.trans (by have gg := gw7; have gs := gg.size; go_grown) hw8
  clear hw8 gw7 zw7_0 cw7_0_0 cw7_0_1 cw7_0_2 cw7_0_3 zw7_1 cw7_1_0 cw7_1_1 cw7_1_2 cw7_1_3 zw7_2 cw7_2_0 cw7_2_1 zw7_3 cw7_3_0 cw7_3_1
  go_wp2_with fail
  go_at_call 34
  refine ((H10.out _)).mono ?_
  rintro e w9 ⟨rfl, hw9⟩
  have cw9_0_0 : w9.cell? ⟨W.heap.size, 0, none⟩ = some (.int .i64 lx) := cell_gr hw9 (by go_simp)
  have cw9_0_1 : w9.cell? ⟨W.heap.size, 1, none⟩ = some (.int .i64 ly) := cell_gr hw9 (by go_simp)
  have cw9_0_2 : w9.cell? ⟨W.heap.size, 2, none⟩ = some (.int .i64 hx) := cell_gr hw9 (by go_simp)
  have cw9_0_3 : w9.cell? ⟨W.heap.size, 3, none⟩ = some (.int .i64 hy) := cell_gr hw9 (by go_simp)
  have zw9_0 : W.heap.size < w9.heap.size := World.block_lt_of_cell? _ _ cw9_0_0
  have cw9_1_0 : w9.cell? ⟨W.heap.size + 1, 0, none⟩ = some (.int .i64 mx) := cell_gr hw9 (by go_simp)
  have cw9_1_1 : w9.cell? ⟨W.heap.size + 1, 1, none⟩ = some (.int .i64 my) := cell_gr hw9 (by go_simp)
  have cw9_1_2 : w9.cell? ⟨W.heap.size + 1, 2, none⟩ = some (.int .i64 nx) := cell_gr hw9 (by go_simp)
  have cw9_1_3 : w9.cell? ⟨W.heap.size + 1, 3, none⟩ = some (.int .i64 ny) := cell_gr hw9 (by go_simp)
  have zw9_1 : W.heap.size + 1 < w9.heap.size := World.block_lt_of_cell? _ _ cw9_1_0
  have cw9_2_0 : w9.cell? ⟨W.heap.size + 1 + 1, 0, none⟩ = some (.int .i64 px) := cell_gr hw9 (by go_simp)
  have cw9_2_1 : w9.cell? ⟨W.heap.size + 1 + 1, 1, none⟩ = some (.int .i64 py) := cell_gr hw9 (by go_simp)
  have zw9_2 : W.heap.size + 1 + 1 < w9.heap.size := World.block_lt_of_cell? _ _ cw9_2_0
  have cw9_3_0 : w9.cell? ⟨w3.heap.size, 0, none⟩ = some (.int .i64 qx) := cell_gr hw9 (by go_simp)
  have cw9_3_1 : w9.cell? ⟨w3.heap.size, 1, none⟩ = some (.int .i64 qy) := cell_gr hw9 (by go_simp)
  have zw9_3 : w3.heap.size < w9.heap.size := World.block_lt_of_cell? _ _ cw9_3_0
  have gw9 : Gr W w9 := Gr.trans (by have gg := gw8; have gs := gg.size; go_grown) hw9
  clear hw9 gw8 zw8_0 cw8_0_0 cw8_0_1 cw8_0_2 cw8_0_3 zw8_1 cw8_1_0 cw8_1_1 cw8_1_2 cw8_1_3 zw8_2 cw8_2_0 cw8_2_1 zw8_3 cw8_3_0 cw8_3_1
  go_wp2_with fail
  refine wp_region_spread (by kernel_rfl) (by kernel_rfl) ?_
  repeat (first | go_big_quiet_skip | (go_big_quiet_want; go_big_quiet_op; (first | go_big_quiet_on | (apply Exists.intro; refine ⟨fun _ => ?_, ?_⟩; (· (first | (go_at_call 23; first | ((with_reducible refine ((H8.out _)).mono ?_); rintro e w' ⟨rfl, hg⟩; exact ⟨rfl, spread_gr hg⟩)) | (go_at_call 27; first | ((with_reducible refine ((H11.out _)).mono ?_); rintro e w' ⟨rfl, hg⟩; exact ⟨rfl, spread_gr hg⟩) | ((with_reducible refine ((H12.out _)).mono ?_); rintro e w' ⟨rfl, hg⟩; exact ⟨rfl, spread_gr hg⟩)) | (go_at_call 20; first | ((with_reducible refine ((p_awake _)).mono ?_); rintro e w' ⟨rfl, hg⟩; exact ⟨rfl, spread_gr hg⟩)))); go_big_quiet_on))))
  refine wpQuiet_nil ?_
  intro wr hr
  obtain ⟨mr, rfl⟩ := hr
  go_wp2_with fail
  go_ret
  exact ⟨rfl, Gr.trans (by have gg := gw9; have gs := gg.size; go_grown) (gr_spread _ _)⟩

set_option maxHeartbeats 2000000 in
set_option maxRecDepth 100000 in
theorem meets_yes_f_t_t_f_t (lx ly hx hy mx my nx ny px py : Int) (qx qy z : Int) (t hb i2 : Bool) (W : World)
    (A1 : ∀ w, Calls Try.prog 22 #[.agg #[.int .i64 lx, .int .i64 ly, .int .i64 hx, .int .i64 hy]] w fun e w' => e = .returned (.int .i64 0) ∧ Gr w w')
    (A2 : ∀ w, Calls Try.prog 22 #[.agg #[.int .i64 mx, .int .i64 my, .int .i64 nx, .int .i64 ny]] w fun e w' => e = .returned (.int .i64 0) ∧ Gr w w')
    (A3 : ∀ w, Calls Try.prog 11 #[.agg #[.int .i64 px, .int .i64 py]] w fun e w' => e = .returned (.bool true) ∧ Gr w w')
    (A4 : ∀ w, Calls Try.prog 23 #[.agg #[.int .i64 lx, .int .i64 ly, .int .i64 hx, .int .i64 hy], .agg #[.int .i64 qx, .int .i64 qy]] w fun e w' => e = .returned (.bool false) ∧ Gr w w')
    (A5 : ∀ w, Calls Try.prog 23 #[.agg #[.int .i64 mx, .int .i64 my, .int .i64 nx, .int .i64 ny], .agg #[.int .i64 qx, .int .i64 qy]] w fun e w' => e = .returned (.bool t) ∧ Gr w w')
    (A6 : ∀ w, Calls Try.prog 25 #[.agg #[.int .i64 lx, .int .i64 ly, .int .i64 hx, .int .i64 hy], .agg #[.int .i64 mx, .int .i64 my, .int .i64 nx, .int .i64 ny]] w fun e w' => e = .returned (.bool false) ∧ Gr w w')
    (A7 : ∀ w, Calls Try.prog 25 #[.agg #[.int .i64 mx, .int .i64 my, .int .i64 nx, .int .i64 ny], .agg #[.int .i64 lx, .int .i64 ly, .int .i64 hx, .int .i64 hy]] w fun e w' => e = .returned (.bool false) ∧ Gr w w')
    (A8 : ∀ w, Calls Try.prog 23 #[.agg #[.int .i64 lx, .int .i64 ly, .int .i64 hx, .int .i64 hy], .agg #[.int .i64 px, .int .i64 py]] w fun e w' => e = .returned (.bool true) ∧ Gr w w')
    (A9 : ∀ w, Calls Try.prog 23 #[.agg #[.int .i64 mx, .int .i64 my, .int .i64 nx, .int .i64 ny], .agg #[.int .i64 px, .int .i64 py]] w fun e w' => e = .returned (.bool false) ∧ Gr w w')
    (A10 : ∀ w, Calls Try.prog 34 #[.agg #[.int .i64 lx, .int .i64 ly, .int .i64 hx, .int .i64 hy], .agg #[.int .i64 px, .int .i64 py]] w fun e w' => e = .returned (.agg #[.int .u64 0, .int .u64 z, .int .u64 1]) ∧ Gr w w')
    (A11 : ∀ w, Calls Try.prog 27 #[.agg #[.int .i64 lx, .int .i64 ly, .int .i64 hx, .int .i64 hy], .agg #[.int .i64 mx, .int .i64 my, .int .i64 nx, .int .i64 ny]] w fun e w' => e = .returned (.bool true) ∧ Gr w w')
    (A12 : ∀ w, Calls Try.prog 27 #[.agg #[.int .i64 mx, .int .i64 my, .int .i64 nx, .int .i64 ny], .agg #[.int .i64 lx, .int .i64 ly, .int .i64 hx, .int .i64 hy]] w fun e w' => e = .returned (.bool i2) ∧ Gr w w')
    (M1 : ∀ w, (Builtin.max_ #[3, 3] 3 #[.int .i64 lx, .int .i64 mx]).run Try.prog w = .ok (.int .i64 qx) w) (M2 : ∀ w, (Builtin.max_ #[3, 3] 3 #[.int .i64 ly, .int .i64 my]).run Try.prog w = .ok (.int .i64 qy) w)
    (E1 : ∀ w, (binOp .eql 32 (.agg #[.int .u64 0, .int .u64 z, .int .u64 1]) (.agg #[.int .u64 0, .int .u64 0, .int .u64 1])).run Try.prog w = .ok (.bool true) w)
    (E2 : ∀ w, (binOp .eql 37 (.agg #[.int .i64 lx, .int .i64 ly, .int .i64 hx, .int .i64 hy]) (.agg #[.int .i64 mx, .int .i64 my, .int .i64 nx, .int .i64 ny])).run Try.prog w = .ok (.bool i2) w) :
    Calls Try.prog 8 #[.agg #[.int .i64 lx, .int .i64 ly, .int .i64 hx, .int .i64 hy], .agg #[.int .i64 mx, .int .i64 my, .int .i64 nx, .int .i64 ny], .agg #[.int .i64 px, .int .i64 py]] W fun e w' => e = .returned (.bool true) ∧ Gr W w' := by
  have H1 := Lib.hid A1
  have H2 := Lib.hid A2
  have H3 := Lib.hid A3
  have H4 := Lib.hid A4
  have H5 := Lib.hid A5
  have H6 := Lib.hid A6
  have H7 := Lib.hid A7
  have H8 := Lib.hid A8
  have H9 := Lib.hid A9
  have H10 := Lib.hid A10
  have H11 := Lib.hid A11
  have H12 := Lib.hid A12
  clear A1 A2 A3 A4 A5 A6 A7 A8 A9 A10 A11 A12
  go_enter Try.func8, Try.ntmps8
  go_wp2_with fail
  go_at_call 22
  refine ((H1.out _)).mono ?_
  rintro e w1 ⟨rfl, hw1⟩
  have cw1_0_0 : w1.cell? ⟨W.heap.size, 0, none⟩ = some (.int .i64 lx) := cell_gr hw1 (by go_simp)
  have cw1_0_1 : w1.cell? ⟨W.heap.size, 1, none⟩ = some (.int .i64 ly) := cell_gr hw1 (by go_simp)
  have cw1_0_2 : w1.cell? ⟨W.heap.size, 2, none⟩ = some (.int .i64 hx) := cell_gr hw1 (by go_simp)
  have cw1_0_3 : w1.cell? ⟨W.heap.size, 3, none⟩ = some (.int .i64 hy) := cell_gr hw1 (by go_simp)
  have zw1_0 : W.heap.size < w1.heap.size := World.block_lt_of_cell? _ _ cw1_0_0
  have cw1_1_0 : w1.cell? ⟨W.heap.size + 1, 0, none⟩ = some (.int .i64 mx) := cell_gr hw1 (by go_simp)
  have cw1_1_1 : w1.cell? ⟨W.heap.size + 1, 1, none⟩ = some (.int .i64 my) := cell_gr hw1 (by go_simp)
  have cw1_1_2 : w1.cell? ⟨W.heap.size + 1, 2, none⟩ = some (.int .i64 nx) := cell_gr hw1 (by go_simp)
  have cw1_1_3 : w1.cell? ⟨W.heap.size + 1, 3, none⟩ = some (.int .i64 ny) := cell_gr hw1 (by go_simp)
  have zw1_1 : W.heap.size + 1 < w1.heap.size := World.block_lt_of_cell? _ _ cw1_1_0
  have cw1_2_0 : w1.cell? ⟨W.heap.size + 1 + 1, 0, none⟩ = some (.int .i64 px) := cell_gr hw1 (by go_simp)
  have cw1_2_1 : w1.cell? ⟨W.heap.size + 1 + 1, 1, none⟩ = some (.int .i64 py) := cell_gr hw1 (by go_simp)
  have zw1_2 : W.heap.size + 1 + 1 < w1.heap.size := World.block_lt_of_cell? _ _ cw1_2_0
  have gw1 : Gr W w1 := Gr.trans (by go_grown) hw1
  clear hw1
  go_wp2_with fail
  go_at_call 22
  refine ((H2.out _)).mono ?_
  rintro e w2 ⟨rfl, hw2⟩
  have cw2_0_0 : w2.cell? ⟨W.heap.size, 0, none⟩ = some (.int .i64 lx) := cell_gr hw2 (by go_simp)
  have cw2_0_1 : w2.cell? ⟨W.heap.size, 1, none⟩ = some (.int .i64 ly) := cell_gr hw2 (by go_simp)
  have cw2_0_2 : w2.cell? ⟨W.heap.size, 2, none⟩ = some (.int .i64 hx) := cell_gr hw2 (by go_simp)
  have cw2_0_3 : w2.cell? ⟨W.heap.size, 3, none⟩ = some (.int .i64 hy) := cell_gr hw2 (by go_simp)
  have zw2_0 : W.heap.size < w2.heap.size := World.block_lt_of_cell? _ _ cw2_0_0
  have cw2_1_0 : w2.cell? ⟨W.heap.size + 1, 0, none⟩ = some (.int .i64 mx) := cell_gr hw2 (by go_simp)
  have cw2_1_1 : w2.cell? ⟨W.heap.size + 1, 1, none⟩ = some (.int .i64 my) := cell_gr hw2 (by go_simp)
  have cw2_1_2 : w2.cell? ⟨W.heap.size + 1, 2, none⟩ = some (.int .i64 nx) := cell_gr hw2 (by go_simp)
  have cw2_1_3 : w2.cell? ⟨W.heap.size + 1, 3, none⟩ = some (.int .i64 ny) := cell_gr hw2 (by go_simp)
  have zw2_1 : W.heap.size + 1 < w2.heap.size := World.block_lt_of_cell? _ _ cw2_1_0
  have cw2_2_0 : w2.cell? ⟨W.heap.size + 1 + 1, 0, none⟩ = some (.int .i64 px) := cell_gr hw2 (by go_simp)
  have cw2_2_1 : w2.cell? ⟨W.heap.size + 1 + 1, 1, none⟩ = some (.int .i64 py) := cell_gr hw2 (by go_simp)
  have zw2_2 : W.heap.size + 1 + 1 < w2.heap.size := World.block_lt_of_cell? _ _ cw2_2_0
  have gw2 : Gr W w2 := Gr.trans (by have gg := gw1; have gs := gg.size; go_grown) hw2
  clear hw2 gw1 zw1_0 cw1_0_0 cw1_0_1 cw1_0_2 cw1_0_3 zw1_1 cw1_1_0 cw1_1_1 cw1_1_2 cw1_1_3 zw1_2 cw1_2_0 cw1_2_1
  go_wp2_with fail
  go_at_call 11
  refine ((H3.out _)).mono ?_
  rintro e w3 ⟨rfl, hw3⟩
  have cw3_0_0 : w3.cell? ⟨W.heap.size, 0, none⟩ = some (.int .i64 lx) := cell_gr hw3 (by go_simp)
  have cw3_0_1 : w3.cell? ⟨W.heap.size, 1, none⟩ = some (.int .i64 ly) := cell_gr hw3 (by go_simp)
  have cw3_0_2 : w3.cell? ⟨W.heap.size, 2, none⟩ = some (.int .i64 hx) := cell_gr hw3 (by go_simp)
  have cw3_0_3 : w3.cell? ⟨W.heap.size, 3, none⟩ = some (.int .i64 hy) := cell_gr hw3 (by go_simp)
  have zw3_0 : W.heap.size < w3.heap.size := World.block_lt_of_cell? _ _ cw3_0_0
  have cw3_1_0 : w3.cell? ⟨W.heap.size + 1, 0, none⟩ = some (.int .i64 mx) := cell_gr hw3 (by go_simp)
  have cw3_1_1 : w3.cell? ⟨W.heap.size + 1, 1, none⟩ = some (.int .i64 my) := cell_gr hw3 (by go_simp)
  have cw3_1_2 : w3.cell? ⟨W.heap.size + 1, 2, none⟩ = some (.int .i64 nx) := cell_gr hw3 (by go_simp)
  have cw3_1_3 : w3.cell? ⟨W.heap.size + 1, 3, none⟩ = some (.int .i64 ny) := cell_gr hw3 (by go_simp)
  have zw3_1 : W.heap.size + 1 < w3.heap.size := World.block_lt_of_cell? _ _ cw3_1_0
  have cw3_2_0 : w3.cell? ⟨W.heap.size + 1 + 1, 0, none⟩ = some (.int .i64 px) := cell_gr hw3 (by go_simp)
  have cw3_2_1 : w3.cell? ⟨W.heap.size + 1 + 1, 1, none⟩ = some (.int .i64 py) := cell_gr hw3 (by go_simp)
  have zw3_2 : W.heap.size + 1 + 1 < w3.heap.size := World.block_lt_of_cell? _ _ cw3_2_0
  have gw3 : Gr W w3 := Gr.trans (by have gg := gw2; have gs := gg.size; go_grown) hw3
  clear hw3 gw2 zw2_0 cw2_0_0 cw2_0_1 cw2_0_2 cw2_0_3 zw2_1 cw2_1_0 cw2_1_1 cw2_1_2 cw2_1_3 zw2_2 cw2_2_0 cw2_2_1
  go_wp2_with fail
  go_at_call 23
  refine ((H4.out _)).mono ?_
  rintro e w4 ⟨rfl, hw4⟩
  have cw4_0_0 : w4.cell? ⟨W.heap.size, 0, none⟩ = some (.int .i64 lx) := cell_gr hw4 (by go_simp)
  have cw4_0_1 : w4.cell? ⟨W.heap.size, 1, none⟩ = some (.int .i64 ly) := cell_gr hw4 (by go_simp)
  have cw4_0_2 : w4.cell? ⟨W.heap.size, 2, none⟩ = some (.int .i64 hx) := cell_gr hw4 (by go_simp)
  have cw4_0_3 : w4.cell? ⟨W.heap.size, 3, none⟩ = some (.int .i64 hy) := cell_gr hw4 (by go_simp)
  have zw4_0 : W.heap.size < w4.heap.size := World.block_lt_of_cell? _ _ cw4_0_0
  have cw4_1_0 : w4.cell? ⟨W.heap.size + 1, 0, none⟩ = some (.int .i64 mx) := cell_gr hw4 (by go_simp)
  have cw4_1_1 : w4.cell? ⟨W.heap.size + 1, 1, none⟩ = some (.int .i64 my) := cell_gr hw4 (by go_simp)
  have cw4_1_2 : w4.cell? ⟨W.heap.size + 1, 2, none⟩ = some (.int .i64 nx) := cell_gr hw4 (by go_simp)
  have cw4_1_3 : w4.cell? ⟨W.heap.size + 1, 3, none⟩ = some (.int .i64 ny) := cell_gr hw4 (by go_simp)
  have zw4_1 : W.heap.size + 1 < w4.heap.size := World.block_lt_of_cell? _ _ cw4_1_0
  have cw4_2_0 : w4.cell? ⟨W.heap.size + 1 + 1, 0, none⟩ = some (.int .i64 px) := cell_gr hw4 (by go_simp)
  have cw4_2_1 : w4.cell? ⟨W.heap.size + 1 + 1, 1, none⟩ = some (.int .i64 py) := cell_gr hw4 (by go_simp)
  have zw4_2 : W.heap.size + 1 + 1 < w4.heap.size := World.block_lt_of_cell? _ _ cw4_2_0
  have cw4_3_0 : w4.cell? ⟨w3.heap.size, 0, none⟩ = some (.int .i64 qx) := cell_gr hw4 (by go_simp)
  have cw4_3_1 : w4.cell? ⟨w3.heap.size, 1, none⟩ = some (.int .i64 qy) := cell_gr hw4 (by go_simp)
  have zw4_3 : w3.heap.size < w4.heap.size := World.block_lt_of_cell? _ _ cw4_3_0
  have gw4 : Gr W w4 := Gr.trans (by have gg := gw3; have gs := gg.size; go_grown) hw4
  clear hw4 gw3 zw3_0 cw3_0_0 cw3_0_1 cw3_0_2 cw3_0_3 zw3_1 cw3_1_0 cw3_1_1 cw3_1_2 cw3_1_3 zw3_2 cw3_2_0 cw3_2_1
  go_wp2_with fail
  go_at_call 25
  refine ((H6.out _)).mono ?_
  rintro e w5 ⟨rfl, hw5⟩
  have cw5_0_0 : w5.cell? ⟨W.heap.size, 0, none⟩ = some (.int .i64 lx) := cell_gr hw5 (by go_simp)
  have cw5_0_1 : w5.cell? ⟨W.heap.size, 1, none⟩ = some (.int .i64 ly) := cell_gr hw5 (by go_simp)
  have cw5_0_2 : w5.cell? ⟨W.heap.size, 2, none⟩ = some (.int .i64 hx) := cell_gr hw5 (by go_simp)
  have cw5_0_3 : w5.cell? ⟨W.heap.size, 3, none⟩ = some (.int .i64 hy) := cell_gr hw5 (by go_simp)
  have zw5_0 : W.heap.size < w5.heap.size := World.block_lt_of_cell? _ _ cw5_0_0
  have cw5_1_0 : w5.cell? ⟨W.heap.size + 1, 0, none⟩ = some (.int .i64 mx) := cell_gr hw5 (by go_simp)
  have cw5_1_1 : w5.cell? ⟨W.heap.size + 1, 1, none⟩ = some (.int .i64 my) := cell_gr hw5 (by go_simp)
  have cw5_1_2 : w5.cell? ⟨W.heap.size + 1, 2, none⟩ = some (.int .i64 nx) := cell_gr hw5 (by go_simp)
  have cw5_1_3 : w5.cell? ⟨W.heap.size + 1, 3, none⟩ = some (.int .i64 ny) := cell_gr hw5 (by go_simp)
  have zw5_1 : W.heap.size + 1 < w5.heap.size := World.block_lt_of_cell? _ _ cw5_1_0
  have cw5_2_0 : w5.cell? ⟨W.heap.size + 1 + 1, 0, none⟩ = some (.int .i64 px) := cell_gr hw5 (by go_simp)
  have cw5_2_1 : w5.cell? ⟨W.heap.size + 1 + 1, 1, none⟩ = some (.int .i64 py) := cell_gr hw5 (by go_simp)
  have zw5_2 : W.heap.size + 1 + 1 < w5.heap.size := World.block_lt_of_cell? _ _ cw5_2_0
  have cw5_3_0 : w5.cell? ⟨w3.heap.size, 0, none⟩ = some (.int .i64 qx) := cell_gr hw5 (by go_simp)
  have cw5_3_1 : w5.cell? ⟨w3.heap.size, 1, none⟩ = some (.int .i64 qy) := cell_gr hw5 (by go_simp)
  have zw5_3 : w3.heap.size < w5.heap.size := World.block_lt_of_cell? _ _ cw5_3_0
  have gw5 : Gr W w5 := Gr.trans (by have gg := gw4; have gs := gg.size; go_grown) hw5
  clear hw5 gw4 zw4_0 cw4_0_0 cw4_0_1 cw4_0_2 cw4_0_3 zw4_1 cw4_1_0 cw4_1_1 cw4_1_2 cw4_1_3 zw4_2 cw4_2_0 cw4_2_1 zw4_3 cw4_3_0 cw4_3_1
  go_wp2_with fail
  go_at_call 25
  refine ((H7.out _)).mono ?_
  rintro e w6 ⟨rfl, hw6⟩
  have cw6_0_0 : w6.cell? ⟨W.heap.size, 0, none⟩ = some (.int .i64 lx) := cell_gr hw6 (by go_simp)
  have cw6_0_1 : w6.cell? ⟨W.heap.size, 1, none⟩ = some (.int .i64 ly) := cell_gr hw6 (by go_simp)
  have cw6_0_2 : w6.cell? ⟨W.heap.size, 2, none⟩ = some (.int .i64 hx) := cell_gr hw6 (by go_simp)
  have cw6_0_3 : w6.cell? ⟨W.heap.size, 3, none⟩ = some (.int .i64 hy) := cell_gr hw6 (by go_simp)
  have zw6_0 : W.heap.size < w6.heap.size := World.block_lt_of_cell? _ _ cw6_0_0
  have cw6_1_0 : w6.cell? ⟨W.heap.size + 1, 0, none⟩ = some (.int .i64 mx) := cell_gr hw6 (by go_simp)
  have cw6_1_1 : w6.cell? ⟨W.heap.size + 1, 1, none⟩ = some (.int .i64 my) := cell_gr hw6 (by go_simp)
  have cw6_1_2 : w6.cell? ⟨W.heap.size + 1, 2, none⟩ = some (.int .i64 nx) := cell_gr hw6 (by go_simp)
  have cw6_1_3 : w6.cell? ⟨W.heap.size + 1, 3, none⟩ = some (.int .i64 ny) := cell_gr hw6 (by go_simp)
  have zw6_1 : W.heap.size + 1 < w6.heap.size := World.block_lt_of_cell? _ _ cw6_1_0
  have cw6_2_0 : w6.cell? ⟨W.heap.size + 1 + 1, 0, none⟩ = some (.int .i64 px) := cell_gr hw6 (by go_simp)
  have cw6_2_1 : w6.cell? ⟨W.heap.size + 1 + 1, 1, none⟩ = some (.int .i64 py) := cell_gr hw6 (by go_simp)
  have zw6_2 : W.heap.size + 1 + 1 < w6.heap.size := World.block_lt_of_cell? _ _ cw6_2_0
  have cw6_3_0 : w6.cell? ⟨w3.heap.size, 0, none⟩ = some (.int .i64 qx) := cell_gr hw6 (by go_simp)
  have cw6_3_1 : w6.cell? ⟨w3.heap.size, 1, none⟩ = some (.int .i64 qy) := cell_gr hw6 (by go_simp)
  have zw6_3 : w3.heap.size < w6.heap.size := World.block_lt_of_cell? _ _ cw6_3_0
  have gw6 : Gr W w6 := Gr.trans (by have gg := gw5; have gs := gg.size; go_grown) hw6
  clear hw6 gw5 zw5_0 cw5_0_0 cw5_0_1 cw5_0_2 cw5_0_3 zw5_1 cw5_1_0 cw5_1_1 cw5_1_2 cw5_1_3 zw5_2 cw5_2_0 cw5_2_1 zw5_3 cw5_3_0 cw5_3_1
  go_wp2_with fail
  go_at_call 23
  refine ((H8.out _)).mono ?_
  rintro e w7 ⟨rfl, hw7⟩
  have cw7_0_0 : w7.cell? ⟨W.heap.size, 0, none⟩ = some (.int .i64 lx) := cell_gr hw7 (by go_simp)
  have cw7_0_1 : w7.cell? ⟨W.heap.size, 1, none⟩ = some (.int .i64 ly) := cell_gr hw7 (by go_simp)
  have cw7_0_2 : w7.cell? ⟨W.heap.size, 2, none⟩ = some (.int .i64 hx) := cell_gr hw7 (by go_simp)
  have cw7_0_3 : w7.cell? ⟨W.heap.size, 3, none⟩ = some (.int .i64 hy) := cell_gr hw7 (by go_simp)
  have zw7_0 : W.heap.size < w7.heap.size := World.block_lt_of_cell? _ _ cw7_0_0
  have cw7_1_0 : w7.cell? ⟨W.heap.size + 1, 0, none⟩ = some (.int .i64 mx) := cell_gr hw7 (by go_simp)
  have cw7_1_1 : w7.cell? ⟨W.heap.size + 1, 1, none⟩ = some (.int .i64 my) := cell_gr hw7 (by go_simp)
  have cw7_1_2 : w7.cell? ⟨W.heap.size + 1, 2, none⟩ = some (.int .i64 nx) := cell_gr hw7 (by go_simp)
  have cw7_1_3 : w7.cell? ⟨W.heap.size + 1, 3, none⟩ = some (.int .i64 ny) := cell_gr hw7 (by go_simp)
  have zw7_1 : W.heap.size + 1 < w7.heap.size := World.block_lt_of_cell? _ _ cw7_1_0
  have cw7_2_0 : w7.cell? ⟨W.heap.size + 1 + 1, 0, none⟩ = some (.int .i64 px) := cell_gr hw7 (by go_simp)
  have cw7_2_1 : w7.cell? ⟨W.heap.size + 1 + 1, 1, none⟩ = some (.int .i64 py) := cell_gr hw7 (by go_simp)
  have zw7_2 : W.heap.size + 1 + 1 < w7.heap.size := World.block_lt_of_cell? _ _ cw7_2_0
  have cw7_3_0 : w7.cell? ⟨w3.heap.size, 0, none⟩ = some (.int .i64 qx) := cell_gr hw7 (by go_simp)
  have cw7_3_1 : w7.cell? ⟨w3.heap.size, 1, none⟩ = some (.int .i64 qy) := cell_gr hw7 (by go_simp)
  have zw7_3 : w3.heap.size < w7.heap.size := World.block_lt_of_cell? _ _ cw7_3_0
  have gw7 : Gr W w7 := Gr.trans (by have gg := gw6; have gs := gg.size; go_grown) hw7
  clear hw7 gw6 zw6_0 cw6_0_0 cw6_0_1 cw6_0_2 cw6_0_3 zw6_1 cw6_1_0 cw6_1_1 cw6_1_2 cw6_1_3 zw6_2 cw6_2_0 cw6_2_1 zw6_3 cw6_3_0 cw6_3_1
  go_wp2_with fail
  go_at_call 23
  refine ((H9.out _)).mono ?_
  rintro e w8 ⟨rfl, hw8⟩
  have cw8_0_0 : w8.cell? ⟨W.heap.size, 0, none⟩ = some (.int .i64 lx) := cell_gr hw8 (by go_simp)
  have cw8_0_1 : w8.cell? ⟨W.heap.size, 1, none⟩ = some (.int .i64 ly) := cell_gr hw8 (by go_simp)
  have cw8_0_2 : w8.cell? ⟨W.heap.size, 2, none⟩ = some (.int .i64 hx) := cell_gr hw8 (by go_simp)
  have cw8_0_3 : w8.cell? ⟨W.heap.size, 3, none⟩ = some (.int .i64 hy) := cell_gr hw8 (by go_simp)
  have zw8_0 : W.heap.size < w8.heap.size := World.block_lt_of_cell? _ _ cw8_0_0
  have cw8_1_0 : w8.cell? ⟨W.heap.size + 1, 0, none⟩ = some (.int .i64 mx) := cell_gr hw8 (by go_simp)
  have cw8_1_1 : w8.cell? ⟨W.heap.size + 1, 1, none⟩ = some (.int .i64 my) := cell_gr hw8 (by go_simp)
  have cw8_1_2 : w8.cell? ⟨W.heap.size + 1, 2, none⟩ = some (.int .i64 nx) := cell_gr hw8 (by go_simp)
  have cw8_1_3 : w8.cell? ⟨W.heap.size + 1, 3, none⟩ = some (.int .i64 ny) := cell_gr hw8 (by go_simp)
  have zw8_1 : W.heap.size + 1 < w8.heap.size := World.block_lt_of_cell? _ _ cw8_1_0
  have cw8_2_0 : w8.cell? ⟨W.heap.size + 1 + 1, 0, none⟩ = some (.int .i64 px) := cell_gr hw8 (by go_simp)
  have cw8_2_1 : w8.cell? ⟨W.heap.size + 1 + 1, 1, none⟩ = some (.int .i64 py) := cell_gr hw8 (by go_simp)
  have zw8_2 : W.heap.size + 1 + 1 < w8.heap.size := World.block_lt_of_cell? _ _ cw8_2_0
  have cw8_3_0 : w8.cell? ⟨w3.heap.size, 0, none⟩ = some (.int .i64 qx) := cell_gr hw8 (by go_simp)
  have cw8_3_1 : w8.cell? ⟨w3.heap.size, 1, none⟩ = some (.int .i64 qy) := cell_gr hw8 (by go_simp)
  have zw8_3 : w3.heap.size < w8.heap.size := World.block_lt_of_cell? _ _ cw8_3_0
  have gw8 : Gr W w8 := Gr.trans (by have gg := gw7; have gs := gg.size; go_grown) hw8
  clear hw8 gw7 zw7_0 cw7_0_0 cw7_0_1 cw7_0_2 cw7_0_3 zw7_1 cw7_1_0 cw7_1_1 cw7_1_2 cw7_1_3 zw7_2 cw7_2_0 cw7_2_1 zw7_3 cw7_3_0 cw7_3_1
  go_wp2_with fail
  go_at_call 34
  refine ((H10.out _)).mono ?_
  rintro e w9 ⟨rfl, hw9⟩
  have cw9_0_0 : w9.cell? ⟨W.heap.size, 0, none⟩ = some (.int .i64 lx) := cell_gr hw9 (by go_simp)
  have cw9_0_1 : w9.cell? ⟨W.heap.size, 1, none⟩ = some (.int .i64 ly) := cell_gr hw9 (by go_simp)
  have cw9_0_2 : w9.cell? ⟨W.heap.size, 2, none⟩ = some (.int .i64 hx) := cell_gr hw9 (by go_simp)
  have cw9_0_3 : w9.cell? ⟨W.heap.size, 3, none⟩ = some (.int .i64 hy) := cell_gr hw9 (by go_simp)
  have zw9_0 : W.heap.size < w9.heap.size := World.block_lt_of_cell? _ _ cw9_0_0
  have cw9_1_0 : w9.cell? ⟨W.heap.size + 1, 0, none⟩ = some (.int .i64 mx) := cell_gr hw9 (by go_simp)
  have cw9_1_1 : w9.cell? ⟨W.heap.size + 1, 1, none⟩ = some (.int .i64 my) := cell_gr hw9 (by go_simp)
  have cw9_1_2 : w9.cell? ⟨W.heap.size + 1, 2, none⟩ = some (.int .i64 nx) := cell_gr hw9 (by go_simp)
  have cw9_1_3 : w9.cell? ⟨W.heap.size + 1, 3, none⟩ = some (.int .i64 ny) := cell_gr hw9 (by go_simp)
  have zw9_1 : W.heap.size + 1 < w9.heap.size := World.block_lt_of_cell? _ _ cw9_1_0
  have cw9_2_0 : w9.cell? ⟨W.heap.size + 1 + 1, 0, none⟩ = some (.int .i64 px) := cell_gr hw9 (by go_simp)
  have cw9_2_1 : w9.cell? ⟨W.heap.size + 1 + 1, 1, none⟩ = some (.int .i64 py) := cell_gr hw9 (by go_simp)
  have zw9_2 : W.heap.size + 1 + 1 < w9.heap.size := World.block_lt_of_cell? _ _ cw9_2_0
  have cw9_3_0 : w9.cell? ⟨w3.heap.size, 0, none⟩ = some (.int .i64 qx) := cell_gr hw9 (by go_simp)
  have cw9_3_1 : w9.cell? ⟨w3.heap.size, 1, none⟩ = some (.int .i64 qy) := cell_gr hw9 (by go_simp)
  have zw9_3 : w3.heap.size < w9.heap.size := World.block_lt_of_cell? _ _ cw9_3_0
  have gw9 : Gr W w9 := Gr.trans (by have gg := gw8; have gs := gg.size; go_grown) hw9
  clear hw9 gw8 zw8_0 cw8_0_0 cw8_0_1 cw8_0_2 cw8_0_3 zw8_1 cw8_1_0 cw8_1_1 cw8_1_2 cw8_1_3 zw8_2 cw8_2_0 cw8_2_1 zw8_3 cw8_3_0 cw8_3_1
  go_wp2_with fail
  refine wp_region_spread (by kernel_rfl) (by kernel_rfl) ?_
  repeat (first | go_big_quiet_skip | (go_big_quiet_want; go_big_quiet_op; (first | go_big_quiet_on | (apply Exists.intro; refine ⟨fun _ => ?_, ?_⟩; (· (first | (go_at_call 23; first | ((with_reducible refine ((H8.out _)).mono ?_); rintro e w' ⟨rfl, hg⟩; exact ⟨rfl, spread_gr hg⟩)) | (go_at_call 27; first | ((with_reducible refine ((H11.out _)).mono ?_); rintro e w' ⟨rfl, hg⟩; exact ⟨rfl, spread_gr hg⟩) | ((with_reducible refine ((H12.out _)).mono ?_); rintro e w' ⟨rfl, hg⟩; exact ⟨rfl, spread_gr hg⟩)) | (go_at_call 20; first | ((with_reducible refine ((p_awake _)).mono ?_); rintro e w' ⟨rfl, hg⟩; exact ⟨rfl, spread_gr hg⟩)))); go_big_quiet_on))))
  refine wpQuiet_nil ?_
  intro wr hr
  obtain ⟨mr, rfl⟩ := hr
  go_wp2_with fail
  go_ret
  exact ⟨rfl, Gr.trans (by have gg := gw9; have gs := gg.size; go_grown) (gr_spread _ _)⟩

set_option maxHeartbeats 2000000 in
set_option maxRecDepth 100000 in
theorem meets_yes_f_t_t_f_f (lx ly hx hy mx my nx ny px py : Int) (qx qy z : Int) (t hb i2 : Bool) (W : World)
    (A1 : ∀ w, Calls Try.prog 22 #[.agg #[.int .i64 lx, .int .i64 ly, .int .i64 hx, .int .i64 hy]] w fun e w' => e = .returned (.int .i64 0) ∧ Gr w w')
    (A2 : ∀ w, Calls Try.prog 22 #[.agg #[.int .i64 mx, .int .i64 my, .int .i64 nx, .int .i64 ny]] w fun e w' => e = .returned (.int .i64 0) ∧ Gr w w')
    (A3 : ∀ w, Calls Try.prog 11 #[.agg #[.int .i64 px, .int .i64 py]] w fun e w' => e = .returned (.bool true) ∧ Gr w w')
    (A4 : ∀ w, Calls Try.prog 23 #[.agg #[.int .i64 lx, .int .i64 ly, .int .i64 hx, .int .i64 hy], .agg #[.int .i64 qx, .int .i64 qy]] w fun e w' => e = .returned (.bool false) ∧ Gr w w')
    (A5 : ∀ w, Calls Try.prog 23 #[.agg #[.int .i64 mx, .int .i64 my, .int .i64 nx, .int .i64 ny], .agg #[.int .i64 qx, .int .i64 qy]] w fun e w' => e = .returned (.bool t) ∧ Gr w w')
    (A6 : ∀ w, Calls Try.prog 25 #[.agg #[.int .i64 lx, .int .i64 ly, .int .i64 hx, .int .i64 hy], .agg #[.int .i64 mx, .int .i64 my, .int .i64 nx, .int .i64 ny]] w fun e w' => e = .returned (.bool false) ∧ Gr w w')
    (A7 : ∀ w, Calls Try.prog 25 #[.agg #[.int .i64 mx, .int .i64 my, .int .i64 nx, .int .i64 ny], .agg #[.int .i64 lx, .int .i64 ly, .int .i64 hx, .int .i64 hy]] w fun e w' => e = .returned (.bool false) ∧ Gr w w')
    (A8 : ∀ w, Calls Try.prog 23 #[.agg #[.int .i64 lx, .int .i64 ly, .int .i64 hx, .int .i64 hy], .agg #[.int .i64 px, .int .i64 py]] w fun e w' => e = .returned (.bool true) ∧ Gr w w')
    (A9 : ∀ w, Calls Try.prog 23 #[.agg #[.int .i64 mx, .int .i64 my, .int .i64 nx, .int .i64 ny], .agg #[.int .i64 px, .int .i64 py]] w fun e w' => e = .returned (.bool false) ∧ Gr w w')
    (A10 : ∀ w, Calls Try.prog 34 #[.agg #[.int .i64 lx, .int .i64 ly, .int .i64 hx, .int .i64 hy], .agg #[.int .i64 px, .int .i64 py]] w fun e w' => e = .returned (.agg #[.int .u64 0, .int .u64 z, .int .u64 1]) ∧ Gr w w')
    (A11 : ∀ w, Calls Try.prog 27 #[.agg #[.int .i64 lx, .int .i64 ly, .int .i64 hx, .int .i64 hy], .agg #[.int .i64 mx, .int .i64 my, .int .i64 nx, .int .i64 ny]] w fun e w' => e = .returned (.bool false) ∧ Gr w w')
    (A12 : ∀ w, Calls Try.prog 27 #[.agg #[.int .i64 mx, .int .i64 my, .int .i64 nx, .int .i64 ny], .agg #[.int .i64 lx, .int .i64 ly, .int .i64 hx, .int .i64 hy]] w fun e w' => e = .returned (.bool i2) ∧ Gr w w')
    (M1 : ∀ w, (Builtin.max_ #[3, 3] 3 #[.int .i64 lx, .int .i64 mx]).run Try.prog w = .ok (.int .i64 qx) w) (M2 : ∀ w, (Builtin.max_ #[3, 3] 3 #[.int .i64 ly, .int .i64 my]).run Try.prog w = .ok (.int .i64 qy) w)
    (E1 : ∀ w, (binOp .eql 32 (.agg #[.int .u64 0, .int .u64 z, .int .u64 1]) (.agg #[.int .u64 0, .int .u64 0, .int .u64 1])).run Try.prog w = .ok (.bool true) w)
    (E2 : ∀ w, (binOp .eql 37 (.agg #[.int .i64 lx, .int .i64 ly, .int .i64 hx, .int .i64 hy]) (.agg #[.int .i64 mx, .int .i64 my, .int .i64 nx, .int .i64 ny])).run Try.prog w = .ok (.bool false) w) :
    Calls Try.prog 8 #[.agg #[.int .i64 lx, .int .i64 ly, .int .i64 hx, .int .i64 hy], .agg #[.int .i64 mx, .int .i64 my, .int .i64 nx, .int .i64 ny], .agg #[.int .i64 px, .int .i64 py]] W fun e w' => e = .returned (.bool true) ∧ Gr W w' := by
  have H1 := Lib.hid A1
  have H2 := Lib.hid A2
  have H3 := Lib.hid A3
  have H4 := Lib.hid A4
  have H5 := Lib.hid A5
  have H6 := Lib.hid A6
  have H7 := Lib.hid A7
  have H8 := Lib.hid A8
  have H9 := Lib.hid A9
  have H10 := Lib.hid A10
  have H11 := Lib.hid A11
  have H12 := Lib.hid A12
  clear A1 A2 A3 A4 A5 A6 A7 A8 A9 A10 A11 A12
  go_enter Try.func8, Try.ntmps8
  go_wp2_with fail
  go_at_call 22
  refine ((H1.out _)).mono ?_
  rintro e w1 ⟨rfl, hw1⟩
  have cw1_0_0 : w1.cell? ⟨W.heap.size, 0, none⟩ = some (.int .i64 lx) := cell_gr hw1 (by go_simp)
  have cw1_0_1 : w1.cell? ⟨W.heap.size, 1, none⟩ = some (.int .i64 ly) := cell_gr hw1 (by go_simp)
  have cw1_0_2 : w1.cell? ⟨W.heap.size, 2, none⟩ = some (.int .i64 hx) := cell_gr hw1 (by go_simp)
  have cw1_0_3 : w1.cell? ⟨W.heap.size, 3, none⟩ = some (.int .i64 hy) := cell_gr hw1 (by go_simp)
  have zw1_0 : W.heap.size < w1.heap.size := World.block_lt_of_cell? _ _ cw1_0_0
  have cw1_1_0 : w1.cell? ⟨W.heap.size + 1, 0, none⟩ = some (.int .i64 mx) := cell_gr hw1 (by go_simp)
  have cw1_1_1 : w1.cell? ⟨W.heap.size + 1, 1, none⟩ = some (.int .i64 my) := cell_gr hw1 (by go_simp)
  have cw1_1_2 : w1.cell? ⟨W.heap.size + 1, 2, none⟩ = some (.int .i64 nx) := cell_gr hw1 (by go_simp)
  have cw1_1_3 : w1.cell? ⟨W.heap.size + 1, 3, none⟩ = some (.int .i64 ny) := cell_gr hw1 (by go_simp)
  have zw1_1 : W.heap.size + 1 < w1.heap.size := World.block_lt_of_cell? _ _ cw1_1_0
  have cw1_2_0 : w1.cell? ⟨W.heap.size + 1 + 1, 0, none⟩ = some (.int .i64 px) := cell_gr hw1 (by go_simp)
  have cw1_2_1 : w1.cell? ⟨W.heap.size + 1 + 1, 1, none⟩ = some (.int .i64 py) := cell_gr hw1 (by go_simp)
  have zw1_2 : W.heap.size + 1 + 1 < w1.heap.size := World.block_lt_of_cell? _ _ cw1_2_0
  have gw1 : Gr W w1 := Gr.trans (by go_grown) hw1
  clear hw1
  go_wp2_with fail
  go_at_call 22
  refine ((H2.out _)).mono ?_
  rintro e w2 ⟨rfl, hw2⟩
  have cw2_0_0 : w2.cell? ⟨W.heap.size, 0, none⟩ = some (.int .i64 lx) := cell_gr hw2 (by go_simp)
  have cw2_0_1 : w2.cell? ⟨W.heap.size, 1, none⟩ = some (.int .i64 ly) := cell_gr hw2 (by go_simp)
  have cw2_0_2 : w2.cell? ⟨W.heap.size, 2, none⟩ = some (.int .i64 hx) := cell_gr hw2 (by go_simp)
  have cw2_0_3 : w2.cell? ⟨W.heap.size, 3, none⟩ = some (.int .i64 hy) := cell_gr hw2 (by go_simp)
  have zw2_0 : W.heap.size < w2.heap.size := World.block_lt_of_cell? _ _ cw2_0_0
  have cw2_1_0 : w2.cell? ⟨W.heap.size + 1, 0, none⟩ = some (.int .i64 mx) := cell_gr hw2 (by go_simp)
  have cw2_1_1 : w2.cell? ⟨W.heap.size + 1, 1, none⟩ = some (.int .i64 my) := cell_gr hw2 (by go_simp)
  have cw2_1_2 : w2.cell? ⟨W.heap.size + 1, 2, none⟩ = some (.int .i64 nx) := cell_gr hw2 (by go_simp)
  have cw2_1_3 : w2.cell? ⟨W.heap.size + 1, 3, none⟩ = some (.int .i64 ny) := cell_gr hw2 (by go_simp)
  have zw2_1 : W.heap.size + 1 < w2.heap.size := World.block_lt_of_cell? _ _ cw2_1_0
  have cw2_2_0 : w2.cell? ⟨W.heap.size + 1 + 1, 0, none⟩ = some (.int .i64 px) := cell_gr hw2 (by go_simp)
  have cw2_2_1 : w2.cell? ⟨W.heap.size + 1 + 1, 1, none⟩ = some (.int .i64 py) := cell_gr hw2 (by go_simp)
  have zw2_2 : W.heap.size + 1 + 1 < w2.heap.size := World.block_lt_of_cell? _ _ cw2_2_0
  have gw2 : Gr W w2 := Gr.trans (by have gg := gw1; have gs := gg.size; go_grown) hw2
  clear hw2 gw1 zw1_0 cw1_0_0 cw1_0_1 cw1_0_2 cw1_0_3 zw1_1 cw1_1_0 cw1_1_1 cw1_1_2 cw1_1_3 zw1_2 cw1_2_0 cw1_2_1
  go_wp2_with fail
  go_at_call 11
  refine ((H3.out _)).mono ?_
  rintro e w3 ⟨rfl, hw3⟩
  have cw3_0_0 : w3.cell? ⟨W.heap.size, 0, none⟩ = some (.int .i64 lx) := cell_gr hw3 (by go_simp)
  have cw3_0_1 : w3.cell? ⟨W.heap.size, 1, none⟩ = some (.int .i64 ly) := cell_gr hw3 (by go_simp)
  have cw3_0_2 : w3.cell? ⟨W.heap.size, 2, none⟩ = some (.int .i64 hx) := cell_gr hw3 (by go_simp)
  have cw3_0_3 : w3.cell? ⟨W.heap.size, 3, none⟩ = some (.int .i64 hy) := cell_gr hw3 (by go_simp)
  have zw3_0 : W.heap.size < w3.heap.size := World.block_lt_of_cell? _ _ cw3_0_0
  have cw3_1_0 : w3.cell? ⟨W.heap.size + 1, 0, none⟩ = some (.int .i64 mx) := cell_gr hw3 (by go_simp)
  have cw3_1_1 : w3.cell? ⟨W.heap.size + 1, 1, none⟩ = some (.int .i64 my) := cell_gr hw3 (by go_simp)
  have cw3_1_2 : w3.cell? ⟨W.heap.size + 1, 2, none⟩ = some (.int .i64 nx) := cell_gr hw3 (by go_simp)
  have cw3_1_3 : w3.cell? ⟨W.heap.size + 1, 3, none⟩ = some (.int .i64 ny) := cell_gr hw3 (by go_simp)
  have zw3_1 : W.heap.size + 1 < w3.heap.size := World.block_lt_of_cell? _ _ cw3_1_0
  have cw3_2_0 : w3.cell? ⟨W.heap.size + 1 + 1, 0, none⟩ = some (.int .i64 px) := cell_gr hw3 (by go_simp)
  have cw3_2_1 : w3.cell? ⟨W.heap.size + 1 + 1, 1, none⟩ = some (.int .i64 py) := cell_gr hw3 (by go_simp)
  have zw3_2 : W.heap.size + 1 + 1 < w3.heap.size := World.block_lt_of_cell? _ _ cw3_2_0
  have gw3 : Gr W w3 := Gr.trans (by have gg := gw2; have gs := gg.size; go_grown) hw3
  clear hw3 gw2 zw2_0 cw2_0_0 cw2_0_1 cw2_0_2 cw2_0_3 zw2_1 cw2_1_0 cw2_1_1 cw2_1_2 cw2_1_3 zw2_2 cw2_2_0 cw2_2_1
  go_wp2_with fail
  go_at_call 23
  refine ((H4.out _)).mono ?_
  rintro e w4 ⟨rfl, hw4⟩
  have cw4_0_0 : w4.cell? ⟨W.heap.size, 0, none⟩ = some (.int .i64 lx) := cell_gr hw4 (by go_simp)
  have cw4_0_1 : w4.cell? ⟨W.heap.size, 1, none⟩ = some (.int .i64 ly) := cell_gr hw4 (by go_simp)
  have cw4_0_2 : w4.cell? ⟨W.heap.size, 2, none⟩ = some (.int .i64 hx) := cell_gr hw4 (by go_simp)
  have cw4_0_3 : w4.cell? ⟨W.heap.size, 3, none⟩ = some (.int .i64 hy) := cell_gr hw4 (by go_simp)
  have zw4_0 : W.heap.size < w4.heap.size := World.block_lt_of_cell? _ _ cw4_0_0
  have cw4_1_0 : w4.cell? ⟨W.heap.size + 1, 0, none⟩ = some (.int .i64 mx) := cell_gr hw4 (by go_simp)
  have cw4_1_1 : w4.cell? ⟨W.heap.size + 1, 1, none⟩ = some (.int .i64 my) := cell_gr hw4 (by go_simp)
  have cw4_1_2 : w4.cell? ⟨W.heap.size + 1, 2, none⟩ = some (.int .i64 nx) := cell_gr hw4 (by go_simp)
  have cw4_1_3 : w4.cell? ⟨W.heap.size + 1, 3, none⟩ = some (.int .i64 ny) := cell_gr hw4 (by go_simp)
  have zw4_1 : W.heap.size + 1 < w4.heap.size := World.block_lt_of_cell? _ _ cw4_1_0
  have cw4_2_0 : w4.cell? ⟨W.heap.size + 1 + 1, 0, none⟩ = some (.int .i64 px) := cell_gr hw4 (by go_simp)
  have cw4_2_1 : w4.cell? ⟨W.heap.size + 1 + 1, 1, none⟩ = some (.int .i64 py) := cell_gr hw4 (by go_simp)
  have zw4_2 : W.heap.size + 1 + 1 < w4.heap.size := World.block_lt_of_cell? _ _ cw4_2_0
  have cw4_3_0 : w4.cell? ⟨w3.heap.size, 0, none⟩ = some (.int .i64 qx) := cell_gr hw4 (by go_simp)
  have cw4_3_1 : w4.cell? ⟨w3.heap.size, 1, none⟩ = some (.int .i64 qy) := cell_gr hw4 (by go_simp)
  have zw4_3 : w3.heap.size < w4.heap.size := World.block_lt_of_cell? _ _ cw4_3_0
  have gw4 : Gr W w4 := Gr.trans (by have gg := gw3; have gs := gg.size; go_grown) hw4
  clear hw4 gw3 zw3_0 cw3_0_0 cw3_0_1 cw3_0_2 cw3_0_3 zw3_1 cw3_1_0 cw3_1_1 cw3_1_2 cw3_1_3 zw3_2 cw3_2_0 cw3_2_1
  go_wp2_with fail
  go_at_call 25
  refine ((H6.out _)).mono ?_
  rintro e w5 ⟨rfl, hw5⟩
  have cw5_0_0 : w5.cell? ⟨W.heap.size, 0, none⟩ = some (.int .i64 lx) := cell_gr hw5 (by go_simp)
  have cw5_0_1 : w5.cell? ⟨W.heap.size, 1, none⟩ = some (.int .i64 ly) := cell_gr hw5 (by go_simp)
  have cw5_0_2 : w5.cell? ⟨W.heap.size, 2, none⟩ = some (.int .i64 hx) := cell_gr hw5 (by go_simp)
  have cw5_0_3 : w5.cell? ⟨W.heap.size, 3, none⟩ = some (.int .i64 hy) := cell_gr hw5 (by go_simp)
  have zw5_0 : W.heap.size < w5.heap.size := World.block_lt_of_cell? _ _ cw5_0_0
  have cw5_1_0 : w5.cell? ⟨W.heap.size + 1, 0, none⟩ = some (.int .i64 mx) := cell_gr hw5 (by go_simp)
  have cw5_1_1 : w5.cell? ⟨W.heap.size + 1, 1, none⟩ = some (.int .i64 my) := cell_gr hw5 (by go_simp)
  have cw5_1_2 : w5.cell? ⟨W.heap.size + 1, 2, none⟩ = some (.int .i64 nx) := cell_gr hw5 (by go_simp)
  have cw5_1_3 : w5.cell? ⟨W.heap.size + 1, 3, none⟩ = some (.int .i64 ny) := cell_gr hw5 (by go_simp)
  have zw5_1 : W.heap.size + 1 < w5.heap.size := World.block_lt_of_cell? _ _ cw5_1_0
  have cw5_2_0 : w5.cell? ⟨W.heap.size + 1 + 1, 0, none⟩ = some (.int .i64 px) := cell_gr hw5 (by go_simp)
  have cw5_2_1 : w5.cell? ⟨W.heap.size + 1 + 1, 1, none⟩ = some (.int .i64 py) := cell_gr hw5 (by go_simp)
  have zw5_2 : W.heap.size + 1 + 1 < w5.heap.size := World.block_lt_of_cell? _ _ cw5_2_0
  have cw5_3_0 : w5.cell? ⟨w3.heap.size, 0, none⟩ = some (.int .i64 qx) := cell_gr hw5 (by go_simp)
  have cw5_3_1 : w5.cell? ⟨w3.heap.size, 1, none⟩ = some (.int .i64 qy) := cell_gr hw5 (by go_simp)
  have zw5_3 : w3.heap.size < w5.heap.size := World.block_lt_of_cell? _ _ cw5_3_0
  have gw5 : Gr W w5 := Gr.trans (by have gg := gw4; have gs := gg.size; go_grown) hw5
  clear hw5 gw4 zw4_0 cw4_0_0 cw4_0_1 cw4_0_2 cw4_0_3 zw4_1 cw4_1_0 cw4_1_1 cw4_1_2 cw4_1_3 zw4_2 cw4_2_0 cw4_2_1 zw4_3 cw4_3_0 cw4_3_1
  go_wp2_with fail
  go_at_call 25
  refine ((H7.out _)).mono ?_
  rintro e w6 ⟨rfl, hw6⟩
  have cw6_0_0 : w6.cell? ⟨W.heap.size, 0, none⟩ = some (.int .i64 lx) := cell_gr hw6 (by go_simp)
  have cw6_0_1 : w6.cell? ⟨W.heap.size, 1, none⟩ = some (.int .i64 ly) := cell_gr hw6 (by go_simp)
  have cw6_0_2 : w6.cell? ⟨W.heap.size, 2, none⟩ = some (.int .i64 hx) := cell_gr hw6 (by go_simp)
  have cw6_0_3 : w6.cell? ⟨W.heap.size, 3, none⟩ = some (.int .i64 hy) := cell_gr hw6 (by go_simp)
  have zw6_0 : W.heap.size < w6.heap.size := World.block_lt_of_cell? _ _ cw6_0_0
  have cw6_1_0 : w6.cell? ⟨W.heap.size + 1, 0, none⟩ = some (.int .i64 mx) := cell_gr hw6 (by go_simp)
  have cw6_1_1 : w6.cell? ⟨W.heap.size + 1, 1, none⟩ = some (.int .i64 my) := cell_gr hw6 (by go_simp)
  have cw6_1_2 : w6.cell? ⟨W.heap.size + 1, 2, none⟩ = some (.int .i64 nx) := cell_gr hw6 (by go_simp)
  have cw6_1_3 : w6.cell? ⟨W.heap.size + 1, 3, none⟩ = some (.int .i64 ny) := cell_gr hw6 (by go_simp)
  have zw6_1 : W.heap.size + 1 < w6.heap.size := World.block_lt_of_cell? _ _ cw6_1_0
  have cw6_2_0 : w6.cell? ⟨W.heap.size + 1 + 1, 0, none⟩ = some (.int .i64 px) := cell_gr hw6 (by go_simp)
  have cw6_2_1 : w6.cell? ⟨W.heap.size + 1 + 1, 1, none⟩ = some (.int .i64 py) := cell_gr hw6 (by go_simp)
  have zw6_2 : W.heap.size + 1 + 1 < w6.heap.size := World.block_lt_of_cell? _ _ cw6_2_0
  have cw6_3_0 : w6.cell? ⟨w3.heap.size, 0, none⟩ = some (.int .i64 qx) := cell_gr hw6 (by go_simp)
  have cw6_3_1 : w6.cell? ⟨w3.heap.size, 1, none⟩ = some (.int .i64 qy) := cell_gr hw6 (by go_simp)
  have zw6_3 : w3.heap.size < w6.heap.size := World.block_lt_of_cell? _ _ cw6_3_0
  have gw6 : Gr W w6 := Gr.trans (by have gg := gw5; have gs := gg.size; go_grown) hw6
  clear hw6 gw5 zw5_0 cw5_0_0 cw5_0_1 cw5_0_2 cw5_0_3 zw5_1 cw5_1_0 cw5_1_1 cw5_1_2 cw5_1_3 zw5_2 cw5_2_0 cw5_2_1 zw5_3 cw5_3_0 cw5_3_1
  go_wp2_with fail
  go_at_call 23
  refine ((H8.out _)).mono ?_
  rintro e w7 ⟨rfl, hw7⟩
  have cw7_0_0 : w7.cell? ⟨W.heap.size, 0, none⟩ = some (.int .i64 lx) := cell_gr hw7 (by go_simp)
  have cw7_0_1 : w7.cell? ⟨W.heap.size, 1, none⟩ = some (.int .i64 ly) := cell_gr hw7 (by go_simp)
  have cw7_0_2 : w7.cell? ⟨W.heap.size, 2, none⟩ = some (.int .i64 hx) := cell_gr hw7 (by go_simp)
  have cw7_0_3 : w7.cell? ⟨W.heap.size, 3, none⟩ = some (.int .i64 hy) := cell_gr hw7 (by go_simp)
  have zw7_0 : W.heap.size < w7.heap.size := World.block_lt_of_cell? _ _ cw7_0_0
  have cw7_1_0 : w7.cell? ⟨W.heap.size + 1, 0, none⟩ = some (.int .i64 mx) := cell_gr hw7 (by go_simp)
  have cw7_1_1 : w7.cell? ⟨W.heap.size + 1, 1, none⟩ = some (.int .i64 my) := cell_gr hw7 (by go_simp)
  have cw7_1_2 : w7.cell? ⟨W.heap.size + 1, 2, none⟩ = some (.int .i64 nx) := cell_gr hw7 (by go_simp)
  have cw7_1_3 : w7.cell? ⟨W.heap.size + 1, 3, none⟩ = some (.int .i64 ny) := cell_gr hw7 (by go_simp)
  have zw7_1 : W.heap.size + 1 < w7.heap.size := World.block_lt_of_cell? _ _ cw7_1_0
  have cw7_2_0 : w7.cell? ⟨W.heap.size + 1 + 1, 0, none⟩ = some (.int .i64 px) := cell_gr hw7 (by go_simp)
  have cw7_2_1 : w7.cell? ⟨W.heap.size + 1 + 1, 1, none⟩ = some (.int .i64 py) := cell_gr hw7 (by go_simp)
  have zw7_2 : W.heap.size + 1 + 1 < w7.heap.size := World.block_lt_of_cell? _ _ cw7_2_0
  have cw7_3_0 : w7.cell? ⟨w3.heap.size, 0, none⟩ = some (.int .i64 qx) := cell_gr hw7 (by go_simp)
  have cw7_3_1 : w7.cell? ⟨w3.heap.size, 1, none⟩ = some (.int .i64 qy) := cell_gr hw7 (by go_simp)
  have zw7_3 : w3.heap.size < w7.heap.size := World.block_lt_of_cell? _ _ cw7_3_0
  have gw7 : Gr W w7 := Gr.trans (by have gg := gw6; have gs := gg.size; go_grown) hw7
  clear hw7 gw6 zw6_0 cw6_0_0 cw6_0_1 cw6_0_2 cw6_0_3 zw6_1 cw6_1_0 cw6_1_1 cw6_1_2 cw6_1_3 zw6_2 cw6_2_0 cw6_2_1 zw6_3 cw6_3_0 cw6_3_1
  go_wp2_with fail
  go_at_call 23
  refine ((H9.out _)).mono ?_
  rintro e w8 ⟨rfl, hw8⟩
  have cw8_0_0 : w8.cell? ⟨W.heap.size, 0, none⟩ = some (.int .i64 lx) := cell_gr hw8 (by go_simp)
  have cw8_0_1 : w8.cell? ⟨W.heap.size, 1, none⟩ = some (.int .i64 ly) := cell_gr hw8 (by go_simp)
  have cw8_0_2 : w8.cell? ⟨W.heap.size, 2, none⟩ = some (.int .i64 hx) := cell_gr hw8 (by go_simp)
  have cw8_0_3 : w8.cell? ⟨W.heap.size, 3, none⟩ = some (.int .i64 hy) := cell_gr hw8 (by go_simp)
  have zw8_0 : W.heap.size < w8.heap.size := World.block_lt_of_cell? _ _ cw8_0_0
  have cw8_1_0 : w8.cell? ⟨W.heap.size + 1, 0, none⟩ = some (.int .i64 mx) := cell_gr hw8 (by go_simp)
  have cw8_1_1 : w8.cell? ⟨W.heap.size + 1, 1, none⟩ = some (.int .i64 my) := cell_gr hw8 (by go_simp)
  have cw8_1_2 : w8.cell? ⟨W.heap.size + 1, 2, none⟩ = some (.int .i64 nx) := cell_gr hw8 (by go_simp)
  have cw8_1_3 : w8.cell? ⟨W.heap.size + 1, 3, none⟩ = some (.int .i64 ny) := cell_gr hw8 (by go_simp)
  have zw8_1 : W.heap.size + 1 < w8.heap.size := World.block_lt_of_cell? _ _ cw8_1_0
  have cw8_2_0 : w8.cell? ⟨W.heap.size + 1 + 1, 0, none⟩ = some (.int .i64 px) := cell_gr hw8 (by go_simp)
  have cw8_2_1 : w8.cell? ⟨W.heap.size + 1 + 1, 1, none⟩ = some (.int .i64 py) := cell_gr hw8 (by go_simp)
  have zw8_2 : W.heap.size + 1 + 1 < w8.heap.size := World.block_lt_of_cell? _ _ cw8_2_0
  have cw8_3_0 : w8.cell? ⟨w3.heap.size, 0, none⟩ = some (.int .i64 qx) := cell_gr hw8 (by go_simp)
  have cw8_3_1 : w8.cell? ⟨w3.heap.size, 1, none⟩ = some (.int .i64 qy) := cell_gr hw8 (by go_simp)
  have zw8_3 : w3.heap.size < w8.heap.size := World.block_lt_of_cell? _ _ cw8_3_0
  have gw8 : Gr W w8 := Gr.trans (by have gg := gw7; have gs := gg.size; go_grown) hw8
  clear hw8 gw7 zw7_0 cw7_0_0 cw7_0_1 cw7_0_2 cw7_0_3 zw7_1 cw7_1_0 cw7_1_1 cw7_1_2 cw7_1_3 zw7_2 cw7_2_0 cw7_2_1 zw7_3 cw7_3_0 cw7_3_1
  go_wp2_with fail
  go_at_call 34
  refine ((H10.out _)).mono ?_
  rintro e w9 ⟨rfl, hw9⟩
  have cw9_0_0 : w9.cell? ⟨W.heap.size, 0, none⟩ = some (.int .i64 lx) := cell_gr hw9 (by go_simp)
  have cw9_0_1 : w9.cell? ⟨W.heap.size, 1, none⟩ = some (.int .i64 ly) := cell_gr hw9 (by go_simp)
  have cw9_0_2 : w9.cell? ⟨W.heap.size, 2, none⟩ = some (.int .i64 hx) := cell_gr hw9 (by go_simp)
  have cw9_0_3 : w9.cell? ⟨W.heap.size, 3, none⟩ = some (.int .i64 hy) := cell_gr hw9 (by go_simp)
  have zw9_0 : W.heap.size < w9.heap.size := World.block_lt_of_cell? _ _ cw9_0_0
  have cw9_1_0 : w9.cell? ⟨W.heap.size + 1, 0, none⟩ = some (.int .i64 mx) := cell_gr hw9 (by go_simp)
  have cw9_1_1 : w9.cell? ⟨W.heap.size + 1, 1, none⟩ = some (.int .i64 my) := cell_gr hw9 (by go_simp)
  have cw9_1_2 : w9.cell? ⟨W.heap.size + 1, 2, none⟩ = some (.int .i64 nx) := cell_gr hw9 (by go_simp)
  have cw9_1_3 : w9.cell? ⟨W.heap.size + 1, 3, none⟩ = some (.int .i64 ny) := cell_gr hw9 (by go_simp)
  have zw9_1 : W.heap.size + 1 < w9.heap.size := World.block_lt_of_cell? _ _ cw9_1_0
  have cw9_2_0 : w9.cell? ⟨W.heap.size + 1 + 1, 0, none⟩ = some (.int .i64 px) := cell_gr hw9 (by go_simp)
  have cw9_2_1 : w9.cell? ⟨W.heap.size + 1 + 1, 1, none⟩ = some (.int .i64 py) := cell_gr hw9 (by go_simp)
  have zw9_2 : W.heap.size + 1 + 1 < w9.heap.size := World.block_lt_of_cell? _ _ cw9_2_0
  have cw9_3_0 : w9.cell? ⟨w3.heap.size, 0, none⟩ = some (.int .i64 qx) := cell_gr hw9 (by go_simp)
  have cw9_3_1 : w9.cell? ⟨w3.heap.size, 1, none⟩ = some (.int .i64 qy) := cell_gr hw9 (by go_simp)
  have zw9_3 : w3.heap.size < w9.heap.size := World.block_lt_of_cell? _ _ cw9_3_0
  have gw9 : Gr W w9 := Gr.trans (by have gg := gw8; have gs := gg.size; go_grown) hw9
  clear hw9 gw8 zw8_0 cw8_0_0 cw8_0_1 cw8_0_2 cw8_0_3 zw8_1 cw8_1_0 cw8_1_1 cw8_1_2 cw8_1_3 zw8_2 cw8_2_0 cw8_2_1 zw8_3 cw8_3_0 cw8_3_1
  go_wp2_with fail
  refine wp_region_spread (by kernel_rfl) (by kernel_rfl) ?_
  repeat (first | go_big_quiet_skip | (go_big_quiet_want; go_big_quiet_op; (first | go_big_quiet_on | (apply Exists.intro; refine ⟨fun _ => ?_, ?_⟩; (· (first | (go_at_call 23; first | ((with_reducible refine ((H8.out _)).mono ?_); rintro e w' ⟨rfl, hg⟩; exact ⟨rfl, spread_gr hg⟩)) | (go_at_call 27; first | ((with_reducible refine ((H11.out _)).mono ?_); rintro e w' ⟨rfl, hg⟩; exact ⟨rfl, spread_gr hg⟩) | ((with_reducible refine ((H12.out _)).mono ?_); rintro e w' ⟨rfl, hg⟩; exact ⟨rfl, spread_gr hg⟩)) | (go_at_call 20; first | ((with_reducible refine ((p_awake _)).mono ?_); rintro e w' ⟨rfl, hg⟩; exact ⟨rfl, spread_gr hg⟩)))); go_big_quiet_on))))
  refine wpQuiet_nil ?_
  intro wr hr
  obtain ⟨mr, rfl⟩ := hr
  go_wp2_with fail
  go_ret
  exact ⟨rfl, Gr.trans (by have gg := gw9; have gs := gg.size; go_grown) (gr_spread _ _)⟩

set_option maxHeartbeats 2000000 in
set_option maxRecDepth 100000 in
theorem meets_yes_f_t_f_h_t (lx ly hx hy mx my nx ny px py : Int) (qx qy z : Int) (t hb i2 : Bool) (W : World)
    (A1 : ∀ w, Calls Try.prog 22 #[.agg #[.int .i64 lx, .int .i64 ly, .int .i64 hx, .int .i64 hy]] w fun e w' => e = .returned (.int .i64 0) ∧ Gr w w')
    (A2 : ∀ w, Calls Try.prog 22 #[.agg #[.int .i64 mx, .int .i64 my, .int .i64 nx, .int .i64 ny]] w fun e w' => e = .returned (.int .i64 0) ∧ Gr w w')
    (A3 : ∀ w, Calls Try.prog 11 #[.agg #[.int .i64 px, .int .i64 py]] w fun e w' => e = .returned (.bool true) ∧ Gr w w')
    (A4 : ∀ w, Calls Try.prog 23 #[.agg #[.int .i64 lx, .int .i64 ly, .int .i64 hx, .int .i64 hy], .agg #[.int .i64 qx, .int .i64 qy]] w fun e w' => e = .returned (.bool false) ∧ Gr w w')
    (A5 : ∀ w, Calls Try.prog 23 #[.agg #[.int .i64 mx, .int .i64 my, .int .i64 nx, .int .i64 ny], .agg #[.int .i64 qx, .int .i64 qy]] w fun e w' => e = .returned (.bool t) ∧ Gr w w')
    (A6 : ∀ w, Calls Try.prog 25 #[.agg #[.int .i64 lx, .int .i64 ly, .int .i64 hx, .int .i64 hy], .agg #[.int .i64 mx, .int .i64 my, .int .i64 nx, .int .i64 ny]] w fun e w' => e = .returned (.bool false) ∧ Gr w w')
    (A7 : ∀ w, Calls Try.prog 25 #[.agg #[.int .i64 mx, .int .i64 my, .int .i64 nx, .int .i64 ny], .agg #[.int .i64 lx, .int .i64 ly, .int .i64 hx, .int .i64 hy]] w fun e w' => e = .returned (.bool false) ∧ Gr w w')
    (A8 : ∀ w, Calls Try.prog 23 #[.agg #[.int .i64 lx, .int .i64 ly, .int .i64 hx, .int .i64 hy], .agg #[.int .i64 px, .int .i64 py]] w fun e w' => e = .returned (.bool false) ∧ Gr w w')
    (A9 : ∀ w, Calls Try.prog 23 #[.agg #[.int .i64 mx, .int .i64 my, .int .i64 nx, .int .i64 ny], .agg #[.int .i64 px, .int .i64 py]] w fun e w' => e = .returned (.bool hb) ∧ Gr w w')
    (A10 : ∀ w, Calls Try.prog 34 #[.agg #[.int .i64 lx, .int .i64 ly, .int .i64 hx, .int .i64 hy], .agg #[.int .i64 px, .int .i64 py]] w fun e w' => e = .returned (.agg #[.int .u64 0, .int .u64 z, .int .u64 1]) ∧ Gr w w')
    (A11 : ∀ w, Calls Try.prog 27 #[.agg #[.int .i64 lx, .int .i64 ly, .int .i64 hx, .int .i64 hy], .agg #[.int .i64 mx, .int .i64 my, .int .i64 nx, .int .i64 ny]] w fun e w' => e = .returned (.bool true) ∧ Gr w w')
    (A12 : ∀ w, Calls Try.prog 27 #[.agg #[.int .i64 mx, .int .i64 my, .int .i64 nx, .int .i64 ny], .agg #[.int .i64 lx, .int .i64 ly, .int .i64 hx, .int .i64 hy]] w fun e w' => e = .returned (.bool i2) ∧ Gr w w')
    (M1 : ∀ w, (Builtin.max_ #[3, 3] 3 #[.int .i64 lx, .int .i64 mx]).run Try.prog w = .ok (.int .i64 qx) w) (M2 : ∀ w, (Builtin.max_ #[3, 3] 3 #[.int .i64 ly, .int .i64 my]).run Try.prog w = .ok (.int .i64 qy) w)
    (E1 : ∀ w, (binOp .eql 32 (.agg #[.int .u64 0, .int .u64 z, .int .u64 1]) (.agg #[.int .u64 0, .int .u64 0, .int .u64 1])).run Try.prog w = .ok (.bool false) w)
    (E2 : ∀ w, (binOp .eql 37 (.agg #[.int .i64 lx, .int .i64 ly, .int .i64 hx, .int .i64 hy]) (.agg #[.int .i64 mx, .int .i64 my, .int .i64 nx, .int .i64 ny])).run Try.prog w = .ok (.bool i2) w) :
    Calls Try.prog 8 #[.agg #[.int .i64 lx, .int .i64 ly, .int .i64 hx, .int .i64 hy], .agg #[.int .i64 mx, .int .i64 my, .int .i64 nx, .int .i64 ny], .agg #[.int .i64 px, .int .i64 py]] W fun e w' => e = .returned (.bool true) ∧ Gr W w' := by
  have H1 := Lib.hid A1
  have H2 := Lib.hid A2
  have H3 := Lib.hid A3
  have H4 := Lib.hid A4
  have H5 := Lib.hid A5
  have H6 := Lib.hid A6
  have H7 := Lib.hid A7
  have H8 := Lib.hid A8
  have H9 := Lib.hid A9
  have H10 := Lib.hid A10
  have H11 := Lib.hid A11
  have H12 := Lib.hid A12
  clear A1 A2 A3 A4 A5 A6 A7 A8 A9 A10 A11 A12
  go_enter Try.func8, Try.ntmps8
  go_wp2_with fail
  go_at_call 22
  refine ((H1.out _)).mono ?_
  rintro e w1 ⟨rfl, hw1⟩
  have cw1_0_0 : w1.cell? ⟨W.heap.size, 0, none⟩ = some (.int .i64 lx) := cell_gr hw1 (by go_simp)
  have cw1_0_1 : w1.cell? ⟨W.heap.size, 1, none⟩ = some (.int .i64 ly) := cell_gr hw1 (by go_simp)
  have cw1_0_2 : w1.cell? ⟨W.heap.size, 2, none⟩ = some (.int .i64 hx) := cell_gr hw1 (by go_simp)
  have cw1_0_3 : w1.cell? ⟨W.heap.size, 3, none⟩ = some (.int .i64 hy) := cell_gr hw1 (by go_simp)
  have zw1_0 : W.heap.size < w1.heap.size := World.block_lt_of_cell? _ _ cw1_0_0
  have cw1_1_0 : w1.cell? ⟨W.heap.size + 1, 0, none⟩ = some (.int .i64 mx) := cell_gr hw1 (by go_simp)
  have cw1_1_1 : w1.cell? ⟨W.heap.size + 1, 1, none⟩ = some (.int .i64 my) := cell_gr hw1 (by go_simp)
  have cw1_1_2 : w1.cell? ⟨W.heap.size + 1, 2, none⟩ = some (.int .i64 nx) := cell_gr hw1 (by go_simp)
  have cw1_1_3 : w1.cell? ⟨W.heap.size + 1, 3, none⟩ = some (.int .i64 ny) := cell_gr hw1 (by go_simp)
  have zw1_1 : W.heap.size + 1 < w1.heap.size := World.block_lt_of_cell? _ _ cw1_1_0
  have cw1_2_0 : w1.cell? ⟨W.heap.size + 1 + 1, 0, none⟩ = some (.int .i64 px) := cell_gr hw1 (by go_simp)
  have cw1_2_1 : w1.cell? ⟨W.heap.size + 1 + 1, 1, none⟩ = some (.int .i64 py) := cell_gr hw1 (by go_simp)
  have zw1_2 : W.heap.size + 1 + 1 < w1.heap.size := World.block_lt_of_cell? _ _ cw1_2_0
  have gw1 : Gr W w1 := Gr.trans (by go_grown) hw1
  clear hw1
  go_wp2_with fail
  go_at_call 22
  refine ((H2.out _)).mono ?_
  rintro e w2 ⟨rfl, hw2⟩
  have cw2_0_0 : w2.cell? ⟨W.heap.size, 0, none⟩ = some (.int .i64 lx) := cell_gr hw2 (by go_simp)
  have cw2_0_1 : w2.cell? ⟨W.heap.size, 1, none⟩ = some (.int .i64 ly) := cell_gr hw2 (by go_simp)
  have cw2_0_2 : w2.cell? ⟨W.heap.size, 2, none⟩ = some (.int .i64 hx) := cell_gr hw2 (by go_simp)
  have cw2_0_3 : w2.cell? ⟨W.heap.size, 3, none⟩ = some (.int .i64 hy) := cell_gr hw2 (by go_simp)
  have zw2_0 : W.heap.size < w2.heap.size := World.block_lt_of_cell? _ _ cw2_0_0
  have cw2_1_0 : w2.cell? ⟨W.heap.size + 1, 0, none⟩ = some (.int .i64 mx) := cell_gr hw2 (by go_simp)
  have cw2_1_1 : w2.cell? ⟨W.heap.size + 1, 1, none⟩ = some (.int .i64 my) := cell_gr hw2 (by go_simp)
  have cw2_1_2 : w2.cell? ⟨W.heap.size + 1, 2, none⟩ = some (.int .i64 nx) := cell_gr hw2 (by go_simp)
  have cw2_1_3 : w2.cell? ⟨W.heap.size + 1, 3, none⟩ = some (.int .i64 ny) := cell_gr hw2 (by go_simp)
  have zw2_1 : W.heap.size + 1 < w2.heap.size := World.block_lt_of_cell? _ _ cw2_1_0
  have cw2_2_0 : w2.cell? ⟨W.heap.size + 1 + 1, 0, none⟩ = some (.int .i64 px) := cell_gr hw2 (by go_simp)
  have cw2_2_1 : w2.cell? ⟨W.heap.size + 1 + 1, 1, none⟩ = some (.int .i64 py) := cell_gr hw2 (by go_simp)
  have zw2_2 : W.heap.size + 1 + 1 < w2.heap.size := World.block_lt_of_cell? _ _ cw2_2_0
  have gw2 : Gr W w2 := Gr.trans (by have gg := gw1; have gs := gg.size; go_grown) hw2
  clear hw2 gw1 zw1_0 cw1_0_0 cw1_0_1 cw1_0_2 cw1_0_3 zw1_1 cw1_1_0 cw1_1_1 cw1_1_2 cw1_1_3 zw1_2 cw1_2_0 cw1_2_1
  go_wp2_with fail
  go_at_call 11
  refine ((H3.out _)).mono ?_
  rintro e w3 ⟨rfl, hw3⟩
  have cw3_0_0 : w3.cell? ⟨W.heap.size, 0, none⟩ = some (.int .i64 lx) := cell_gr hw3 (by go_simp)
  have cw3_0_1 : w3.cell? ⟨W.heap.size, 1, none⟩ = some (.int .i64 ly) := cell_gr hw3 (by go_simp)
  have cw3_0_2 : w3.cell? ⟨W.heap.size, 2, none⟩ = some (.int .i64 hx) := cell_gr hw3 (by go_simp)
  have cw3_0_3 : w3.cell? ⟨W.heap.size, 3, none⟩ = some (.int .i64 hy) := cell_gr hw3 (by go_simp)
  have zw3_0 : W.heap.size < w3.heap.size := World.block_lt_of_cell? _ _ cw3_0_0
  have cw3_1_0 : w3.cell? ⟨W.heap.size + 1, 0, none⟩ = some (.int .i64 mx) := cell_gr hw3 (by go_simp)
  have cw3_1_1 : w3.cell? ⟨W.heap.size + 1, 1, none⟩ = some (.int .i64 my) := cell_gr hw3 (by go_simp)
  have cw3_1_2 : w3.cell? ⟨W.heap.size + 1, 2, none⟩ = some (.int .i64 nx) := cell_gr hw3 (by go_simp)
  have cw3_1_3 : w3.cell? ⟨W.heap.size + 1, 3, none⟩ = some (.int .i64 ny) := cell_gr hw3 (by go_simp)
  have zw3_1 : W.heap.size + 1 < w3.heap.size := World.block_lt_of_cell? _ _ cw3_1_0
  have cw3_2_0 : w3.cell? ⟨W.heap.size + 1 + 1, 0, none⟩ = some (.int .i64 px) := cell_gr hw3 (by go_simp)
  have cw3_2_1 : w3.cell? ⟨W.heap.size + 1 + 1, 1, none⟩ = some (.int .i64 py) := cell_gr hw3 (by go_simp)
  have zw3_2 : W.heap.size + 1 + 1 < w3.heap.size := World.block_lt_of_cell? _ _ cw3_2_0
  have gw3 : Gr W w3 := Gr.trans (by have gg := gw2; have gs := gg.size; go_grown) hw3
  clear hw3 gw2 zw2_0 cw2_0_0 cw2_0_1 cw2_0_2 cw2_0_3 zw2_1 cw2_1_0 cw2_1_1 cw2_1_2 cw2_1_3 zw2_2 cw2_2_0 cw2_2_1
  go_wp2_with fail
  go_at_call 23
  refine ((H4.out _)).mono ?_
  rintro e w4 ⟨rfl, hw4⟩
  have cw4_0_0 : w4.cell? ⟨W.heap.size, 0, none⟩ = some (.int .i64 lx) := cell_gr hw4 (by go_simp)
  have cw4_0_1 : w4.cell? ⟨W.heap.size, 1, none⟩ = some (.int .i64 ly) := cell_gr hw4 (by go_simp)
  have cw4_0_2 : w4.cell? ⟨W.heap.size, 2, none⟩ = some (.int .i64 hx) := cell_gr hw4 (by go_simp)
  have cw4_0_3 : w4.cell? ⟨W.heap.size, 3, none⟩ = some (.int .i64 hy) := cell_gr hw4 (by go_simp)
  have zw4_0 : W.heap.size < w4.heap.size := World.block_lt_of_cell? _ _ cw4_0_0
  have cw4_1_0 : w4.cell? ⟨W.heap.size + 1, 0, none⟩ = some (.int .i64 mx) := cell_gr hw4 (by go_simp)
  have cw4_1_1 : w4.cell? ⟨W.heap.size + 1, 1, none⟩ = some (.int .i64 my) := cell_gr hw4 (by go_simp)
  have cw4_1_2 : w4.cell? ⟨W.heap.size + 1, 2, none⟩ = some (.int .i64 nx) := cell_gr hw4 (by go_simp)
  have cw4_1_3 : w4.cell? ⟨W.heap.size + 1, 3, none⟩ = some (.int .i64 ny) := cell_gr hw4 (by go_simp)
  have zw4_1 : W.heap.size + 1 < w4.heap.size := World.block_lt_of_cell? _ _ cw4_1_0
  have cw4_2_0 : w4.cell? ⟨W.heap.size + 1 + 1, 0, none⟩ = some (.int .i64 px) := cell_gr hw4 (by go_simp)
  have cw4_2_1 : w4.cell? ⟨W.heap.size + 1 + 1, 1, none⟩ = some (.int .i64 py) := cell_gr hw4 (by go_simp)
  have zw4_2 : W.heap.size + 1 + 1 < w4.heap.size := World.block_lt_of_cell? _ _ cw4_2_0
  have cw4_3_0 : w4.cell? ⟨w3.heap.size, 0, none⟩ = some (.int .i64 qx) := cell_gr hw4 (by go_simp)
  have cw4_3_1 : w4.cell? ⟨w3.heap.size, 1, none⟩ = some (.int .i64 qy) := cell_gr hw4 (by go_simp)
  have zw4_3 : w3.heap.size < w4.heap.size := World.block_lt_of_cell? _ _ cw4_3_0
  have gw4 : Gr W w4 := Gr.trans (by have gg := gw3; have gs := gg.size; go_grown) hw4
  clear hw4 gw3 zw3_0 cw3_0_0 cw3_0_1 cw3_0_2 cw3_0_3 zw3_1 cw3_1_0 cw3_1_1 cw3_1_2 cw3_1_3 zw3_2 cw3_2_0 cw3_2_1
  go_wp2_with fail
  go_at_call 25
  refine ((H6.out _)).mono ?_
  rintro e w5 ⟨rfl, hw5⟩
  have cw5_0_0 : w5.cell? ⟨W.heap.size, 0, none⟩ = some (.int .i64 lx) := cell_gr hw5 (by go_simp)
  have cw5_0_1 : w5.cell? ⟨W.heap.size, 1, none⟩ = some (.int .i64 ly) := cell_gr hw5 (by go_simp)
  have cw5_0_2 : w5.cell? ⟨W.heap.size, 2, none⟩ = some (.int .i64 hx) := cell_gr hw5 (by go_simp)
  have cw5_0_3 : w5.cell? ⟨W.heap.size, 3, none⟩ = some (.int .i64 hy) := cell_gr hw5 (by go_simp)
  have zw5_0 : W.heap.size < w5.heap.size := World.block_lt_of_cell? _ _ cw5_0_0
  have cw5_1_0 : w5.cell? ⟨W.heap.size + 1, 0, none⟩ = some (.int .i64 mx) := cell_gr hw5 (by go_simp)
  have cw5_1_1 : w5.cell? ⟨W.heap.size + 1, 1, none⟩ = some (.int .i64 my) := cell_gr hw5 (by go_simp)
  have cw5_1_2 : w5.cell? ⟨W.heap.size + 1, 2, none⟩ = some (.int .i64 nx) := cell_gr hw5 (by go_simp)
  have cw5_1_3 : w5.cell? ⟨W.heap.size + 1, 3, none⟩ = some (.int .i64 ny) := cell_gr hw5 (by go_simp)
  have zw5_1 : W.heap.size + 1 < w5.heap.size := World.block_lt_of_cell? _ _ cw5_1_0
  have cw5_2_0 : w5.cell? ⟨W.heap.size + 1 + 1, 0, none⟩ = some (.int .i64 px) := cell_gr hw5 (by go_simp)
  have cw5_2_1 : w5.cell? ⟨W.heap.size + 1 + 1, 1, none⟩ = some (.int .i64 py) := cell_gr hw5 (by go_simp)
  have zw5_2 : W.heap.size + 1 + 1 < w5.heap.size := World.block_lt_of_cell? _ _ cw5_2_0
  have cw5_3_0 : w5.cell? ⟨w3.heap.size, 0, none⟩ = some (.int .i64 qx) := cell_gr hw5 (by go_simp)
  have cw5_3_1 : w5.cell? ⟨w3.heap.size, 1, none⟩ = some (.int .i64 qy) := cell_gr hw5 (by go_simp)
  have zw5_3 : w3.heap.size < w5.heap.size := World.block_lt_of_cell? _ _ cw5_3_0
  have gw5 : Gr W w5 := Gr.trans (by have gg := gw4; have gs := gg.size; go_grown) hw5
  clear hw5 gw4 zw4_0 cw4_0_0 cw4_0_1 cw4_0_2 cw4_0_3 zw4_1 cw4_1_0 cw4_1_1 cw4_1_2 cw4_1_3 zw4_2 cw4_2_0 cw4_2_1 zw4_3 cw4_3_0 cw4_3_1
  go_wp2_with fail
  go_at_call 25
  refine ((H7.out _)).mono ?_
  rintro e w6 ⟨rfl, hw6⟩
  have cw6_0_0 : w6.cell? ⟨W.heap.size, 0, none⟩ = some (.int .i64 lx) := cell_gr hw6 (by go_simp)
  have cw6_0_1 : w6.cell? ⟨W.heap.size, 1, none⟩ = some (.int .i64 ly) := cell_gr hw6 (by go_simp)
  have cw6_0_2 : w6.cell? ⟨W.heap.size, 2, none⟩ = some (.int .i64 hx) := cell_gr hw6 (by go_simp)
  have cw6_0_3 : w6.cell? ⟨W.heap.size, 3, none⟩ = some (.int .i64 hy) := cell_gr hw6 (by go_simp)
  have zw6_0 : W.heap.size < w6.heap.size := World.block_lt_of_cell? _ _ cw6_0_0
  have cw6_1_0 : w6.cell? ⟨W.heap.size + 1, 0, none⟩ = some (.int .i64 mx) := cell_gr hw6 (by go_simp)
  have cw6_1_1 : w6.cell? ⟨W.heap.size + 1, 1, none⟩ = some (.int .i64 my) := cell_gr hw6 (by go_simp)
  have cw6_1_2 : w6.cell? ⟨W.heap.size + 1, 2, none⟩ = some (.int .i64 nx) := cell_gr hw6 (by go_simp)
  have cw6_1_3 : w6.cell? ⟨W.heap.size + 1, 3, none⟩ = some (.int .i64 ny) := cell_gr hw6 (by go_simp)
  have zw6_1 : W.heap.size + 1 < w6.heap.size := World.block_lt_of_cell? _ _ cw6_1_0
  have cw6_2_0 : w6.cell? ⟨W.heap.size + 1 + 1, 0, none⟩ = some (.int .i64 px) := cell_gr hw6 (by go_simp)
  have cw6_2_1 : w6.cell? ⟨W.heap.size + 1 + 1, 1, none⟩ = some (.int .i64 py) := cell_gr hw6 (by go_simp)
  have zw6_2 : W.heap.size + 1 + 1 < w6.heap.size := World.block_lt_of_cell? _ _ cw6_2_0
  have cw6_3_0 : w6.cell? ⟨w3.heap.size, 0, none⟩ = some (.int .i64 qx) := cell_gr hw6 (by go_simp)
  have cw6_3_1 : w6.cell? ⟨w3.heap.size, 1, none⟩ = some (.int .i64 qy) := cell_gr hw6 (by go_simp)
  have zw6_3 : w3.heap.size < w6.heap.size := World.block_lt_of_cell? _ _ cw6_3_0
  have gw6 : Gr W w6 := Gr.trans (by have gg := gw5; have gs := gg.size; go_grown) hw6
  clear hw6 gw5 zw5_0 cw5_0_0 cw5_0_1 cw5_0_2 cw5_0_3 zw5_1 cw5_1_0 cw5_1_1 cw5_1_2 cw5_1_3 zw5_2 cw5_2_0 cw5_2_1 zw5_3 cw5_3_0 cw5_3_1
  go_wp2_with fail
  go_at_call 23
  refine ((H8.out _)).mono ?_
  rintro e w7 ⟨rfl, hw7⟩
  have cw7_0_0 : w7.cell? ⟨W.heap.size, 0, none⟩ = some (.int .i64 lx) := cell_gr hw7 (by go_simp)
  have cw7_0_1 : w7.cell? ⟨W.heap.size, 1, none⟩ = some (.int .i64 ly) := cell_gr hw7 (by go_simp)
  have cw7_0_2 : w7.cell? ⟨W.heap.size, 2, none⟩ = some (.int .i64 hx) := cell_gr hw7 (by go_simp)
  have cw7_0_3 : w7.cell? ⟨W.heap.size, 3, none⟩ = some (.int .i64 hy) := cell_gr hw7 (by go_simp)
  have zw7_0 : W.heap.size < w7.heap.size := World.block_lt_of_cell? _ _ cw7_0_0
  have cw7_1_0 : w7.cell? ⟨W.heap.size + 1, 0, none⟩ = some (.int .i64 mx) := cell_gr hw7 (by go_simp)
  have cw7_1_1 : w7.cell? ⟨W.heap.size + 1, 1, none⟩ = some (.int .i64 my) := cell_gr hw7 (by go_simp)
  have cw7_1_2 : w7.cell? ⟨W.heap.size + 1, 2, none⟩ = some (.int .i64 nx) := cell_gr hw7 (by go_simp)
  have cw7_1_3 : w7.cell? ⟨W.heap.size + 1, 3, none⟩ = some (.int .i64 ny) := cell_gr hw7 (by go_simp)
  have zw7_1 : W.heap.size + 1 < w7.heap.size := World.block_lt_of_cell? _ _ cw7_1_0
  have cw7_2_0 : w7.cell? ⟨W.heap.size + 1 + 1, 0, none⟩ = some (.int .i64 px) := cell_gr hw7 (by go_simp)
  have cw7_2_1 : w7.cell? ⟨W.heap.size + 1 + 1, 1, none⟩ = some (.int .i64 py) := cell_gr hw7 (by go_simp)
  have zw7_2 : W.heap.size + 1 + 1 < w7.heap.size := World.block_lt_of_cell? _ _ cw7_2_0
  have cw7_3_0 : w7.cell? ⟨w3.heap.size, 0, none⟩ = some (.int .i64 qx) := cell_gr hw7 (by go_simp)
  have cw7_3_1 : w7.cell? ⟨w3.heap.size, 1, none⟩ = some (.int .i64 qy) := cell_gr hw7 (by go_simp)
  have zw7_3 : w3.heap.size < w7.heap.size := World.block_lt_of_cell? _ _ cw7_3_0
  have gw7 : Gr W w7 := Gr.trans (by have gg := gw6; have gs := gg.size; go_grown) hw7
  clear hw7 gw6 zw6_0 cw6_0_0 cw6_0_1 cw6_0_2 cw6_0_3 zw6_1 cw6_1_0 cw6_1_1 cw6_1_2 cw6_1_3 zw6_2 cw6_2_0 cw6_2_1 zw6_3 cw6_3_0 cw6_3_1
  go_wp2_with fail
  go_at_call 34
  refine ((H10.out _)).mono ?_
  rintro e w8 ⟨rfl, hw8⟩
  have cw8_0_0 : w8.cell? ⟨W.heap.size, 0, none⟩ = some (.int .i64 lx) := cell_gr hw8 (by go_simp)
  have cw8_0_1 : w8.cell? ⟨W.heap.size, 1, none⟩ = some (.int .i64 ly) := cell_gr hw8 (by go_simp)
  have cw8_0_2 : w8.cell? ⟨W.heap.size, 2, none⟩ = some (.int .i64 hx) := cell_gr hw8 (by go_simp)
  have cw8_0_3 : w8.cell? ⟨W.heap.size, 3, none⟩ = some (.int .i64 hy) := cell_gr hw8 (by go_simp)
  have zw8_0 : W.heap.size < w8.heap.size := World.block_lt_of_cell? _ _ cw8_0_0
  have cw8_1_0 : w8.cell? ⟨W.heap.size + 1, 0, none⟩ = some (.int .i64 mx) := cell_gr hw8 (by go_simp)
  have cw8_1_1 : w8.cell? ⟨W.heap.size + 1, 1, none⟩ = some (.int .i64 my) := cell_gr hw8 (by go_simp)
  have cw8_1_2 : w8.cell? ⟨W.heap.size + 1, 2, none⟩ = some (.int .i64 nx) := cell_gr hw8 (by go_simp)
  have cw8_1_3 : w8.cell? ⟨W.heap.size + 1, 3, none⟩ = some (.int .i64 ny) := cell_gr hw8 (by go_simp)
  have zw8_1 : W.heap.size + 1 < w8.heap.size := World.block_lt_of_cell? _ _ cw8_1_0
  have cw8_2_0 : w8.cell? ⟨W.heap.size + 1 + 1, 0, none⟩ = some (.int .i64 px) := cell_gr hw8 (by go_simp)
  have cw8_2_1 : w8.cell? ⟨W.heap.size + 1 + 1, 1, none⟩ = some (.int .i64 py) := cell_gr hw8 (by go_simp)
  have zw8_2 : W.heap.size + 1 + 1 < w8.heap.size := World.block_lt_of_cell? _ _ cw8_2_0
  have cw8_3_0 : w8.cell? ⟨w3.heap.size, 0, none⟩ = some (.int .i64 qx) := cell_gr hw8 (by go_simp)
  have cw8_3_1 : w8.cell? ⟨w3.heap.size, 1, none⟩ = some (.int .i64 qy) := cell_gr hw8 (by go_simp)
  have zw8_3 : w3.heap.size < w8.heap.size := World.block_lt_of_cell? _ _ cw8_3_0
  have gw8 : Gr W w8 := Gr.trans (by have gg := gw7; have gs := gg.size; go_grown) hw8
  clear hw8 gw7 zw7_0 cw7_0_0 cw7_0_1 cw7_0_2 cw7_0_3 zw7_1 cw7_1_0 cw7_1_1 cw7_1_2 cw7_1_3 zw7_2 cw7_2_0 cw7_2_1 zw7_3 cw7_3_0 cw7_3_1
  go_wp2_with fail
  refine wp_region_spread (by kernel_rfl) (by kernel_rfl) ?_
  repeat (first | go_big_quiet_skip | (go_big_quiet_want; go_big_quiet_op; (first | go_big_quiet_on | (apply Exists.intro; refine ⟨fun _ => ?_, ?_⟩; (· (first | (go_at_call 23; first | ((with_reducible refine ((H8.out _)).mono ?_); rintro e w' ⟨rfl, hg⟩; exact ⟨rfl, spread_gr hg⟩)) | (go_at_call 27; first | ((with_reducible refine ((H11.out _)).mono ?_); rintro e w' ⟨rfl, hg⟩; exact ⟨rfl, spread_gr hg⟩) | ((with_reducible refine ((H12.out _)).mono ?_); rintro e w' ⟨rfl, hg⟩; exact ⟨rfl, spread_gr hg⟩)) | (go_at_call 20; first | ((with_reducible refine ((p_awake _)).mono ?_); rintro e w' ⟨rfl, hg⟩; exact ⟨rfl, spread_gr hg⟩)))); go_big_quiet_on))))
  refine wpQuiet_nil ?_
  intro wr hr
  obtain ⟨mr, rfl⟩ := hr
  go_wp2_with fail
  go_ret
  exact ⟨rfl, Gr.trans (by have gg := gw8; have gs := gg.size; go_grown) (gr_spread _ _)⟩

set_option maxHeartbeats 2000000 in
set_option maxRecDepth 100000 in
theorem meets_yes_f_t_f_h_f (lx ly hx hy mx my nx ny px py : Int) (qx qy z : Int) (t hb i2 : Bool) (W : World)
    (A1 : ∀ w, Calls Try.prog 22 #[.agg #[.int .i64 lx, .int .i64 ly, .int .i64 hx, .int .i64 hy]] w fun e w' => e = .returned (.int .i64 0) ∧ Gr w w')
    (A2 : ∀ w, Calls Try.prog 22 #[.agg #[.int .i64 mx, .int .i64 my, .int .i64 nx, .int .i64 ny]] w fun e w' => e = .returned (.int .i64 0) ∧ Gr w w')
    (A3 : ∀ w, Calls Try.prog 11 #[.agg #[.int .i64 px, .int .i64 py]] w fun e w' => e = .returned (.bool true) ∧ Gr w w')
    (A4 : ∀ w, Calls Try.prog 23 #[.agg #[.int .i64 lx, .int .i64 ly, .int .i64 hx, .int .i64 hy], .agg #[.int .i64 qx, .int .i64 qy]] w fun e w' => e = .returned (.bool false) ∧ Gr w w')
    (A5 : ∀ w, Calls Try.prog 23 #[.agg #[.int .i64 mx, .int .i64 my, .int .i64 nx, .int .i64 ny], .agg #[.int .i64 qx, .int .i64 qy]] w fun e w' => e = .returned (.bool t) ∧ Gr w w')
    (A6 : ∀ w, Calls Try.prog 25 #[.agg #[.int .i64 lx, .int .i64 ly, .int .i64 hx, .int .i64 hy], .agg #[.int .i64 mx, .int .i64 my, .int .i64 nx, .int .i64 ny]] w fun e w' => e = .returned (.bool false) ∧ Gr w w')
    (A7 : ∀ w, Calls Try.prog 25 #[.agg #[.int .i64 mx, .int .i64 my, .int .i64 nx, .int .i64 ny], .agg #[.int .i64 lx, .int .i64 ly, .int .i64 hx, .int .i64 hy]] w fun e w' => e = .returned (.bool false) ∧ Gr w w')
    (A8 : ∀ w, Calls Try.prog 23 #[.agg #[.int .i64 lx, .int .i64 ly, .int .i64 hx, .int .i64 hy], .agg #[.int .i64 px, .int .i64 py]] w fun e w' => e = .returned (.bool false) ∧ Gr w w')
    (A9 : ∀ w, Calls Try.prog 23 #[.agg #[.int .i64 mx, .int .i64 my, .int .i64 nx, .int .i64 ny], .agg #[.int .i64 px, .int .i64 py]] w fun e w' => e = .returned (.bool hb) ∧ Gr w w')
    (A10 : ∀ w, Calls Try.prog 34 #[.agg #[.int .i64 lx, .int .i64 ly, .int .i64 hx, .int .i64 hy], .agg #[.int .i64 px, .int .i64 py]] w fun e w' => e = .returned (.agg #[.int .u64 0, .int .u64 z, .int .u64 1]) ∧ Gr w w')
    (A11 : ∀ w, Calls Try.prog 27 #[.agg #[.int .i64 lx, .int .i64 ly, .int .i64 hx, .int .i64 hy], .agg #[.int .i64 mx, .int .i64 my, .int .i64 nx, .int .i64 ny]] w fun e w' => e = .returned (.bool false) ∧ Gr w w')
    (A12 : ∀ w, Calls Try.prog 27 #[.agg #[.int .i64 mx, .int .i64 my, .int .i64 nx, .int .i64 ny], .agg #[.int .i64 lx, .int .i64 ly, .int .i64 hx, .int .i64 hy]] w fun e w' => e = .returned (.bool i2) ∧ Gr w w')
    (M1 : ∀ w, (Builtin.max_ #[3, 3] 3 #[.int .i64 lx, .int .i64 mx]).run Try.prog w = .ok (.int .i64 qx) w) (M2 : ∀ w, (Builtin.max_ #[3, 3] 3 #[.int .i64 ly, .int .i64 my]).run Try.prog w = .ok (.int .i64 qy) w)
    (E1 : ∀ w, (binOp .eql 32 (.agg #[.int .u64 0, .int .u64 z, .int .u64 1]) (.agg #[.int .u64 0, .int .u64 0, .int .u64 1])).run Try.prog w = .ok (.bool false) w)
    (E2 : ∀ w, (binOp .eql 37 (.agg #[.int .i64 lx, .int .i64 ly, .int .i64 hx, .int .i64 hy]) (.agg #[.int .i64 mx, .int .i64 my, .int .i64 nx, .int .i64 ny])).run Try.prog w = .ok (.bool false) w) :
    Calls Try.prog 8 #[.agg #[.int .i64 lx, .int .i64 ly, .int .i64 hx, .int .i64 hy], .agg #[.int .i64 mx, .int .i64 my, .int .i64 nx, .int .i64 ny], .agg #[.int .i64 px, .int .i64 py]] W fun e w' => e = .returned (.bool true) ∧ Gr W w' := by
  have H1 := Lib.hid A1
  have H2 := Lib.hid A2
  have H3 := Lib.hid A3
  have H4 := Lib.hid A4
  have H5 := Lib.hid A5
  have H6 := Lib.hid A6
  have H7 := Lib.hid A7
  have H8 := Lib.hid A8
  have H9 := Lib.hid A9
  have H10 := Lib.hid A10
  have H11 := Lib.hid A11
  have H12 := Lib.hid A12
  clear A1 A2 A3 A4 A5 A6 A7 A8 A9 A10 A11 A12
  go_enter Try.func8, Try.ntmps8
  go_wp2_with fail
  go_at_call 22
  refine ((H1.out _)).mono ?_
  rintro e w1 ⟨rfl, hw1⟩
  have cw1_0_0 : w1.cell? ⟨W.heap.size, 0, none⟩ = some (.int .i64 lx) := cell_gr hw1 (by go_simp)
  have cw1_0_1 : w1.cell? ⟨W.heap.size, 1, none⟩ = some (.int .i64 ly) := cell_gr hw1 (by go_simp)
  have cw1_0_2 : w1.cell? ⟨W.heap.size, 2, none⟩ = some (.int .i64 hx) := cell_gr hw1 (by go_simp)
  have cw1_0_3 : w1.cell? ⟨W.heap.size, 3, none⟩ = some (.int .i64 hy) := cell_gr hw1 (by go_simp)
  have zw1_0 : W.heap.size < w1.heap.size := World.block_lt_of_cell? _ _ cw1_0_0
  have cw1_1_0 : w1.cell? ⟨W.heap.size + 1, 0, none⟩ = some (.int .i64 mx) := cell_gr hw1 (by go_simp)
  have cw1_1_1 : w1.cell? ⟨W.heap.size + 1, 1, none⟩ = some (.int .i64 my) := cell_gr hw1 (by go_simp)
  have cw1_1_2 : w1.cell? ⟨W.heap.size + 1, 2, none⟩ = some (.int .i64 nx) := cell_gr hw1 (by go_simp)
  have cw1_1_3 : w1.cell? ⟨W.heap.size + 1, 3, none⟩ = some (.int .i64 ny) := cell_gr hw1 (by go_simp)
  have zw1_1 : W.heap.size + 1 < w1.heap.size := World.block_lt_of_cell? _ _ cw1_1_0
  have cw1_2_0 : w1.cell? ⟨W.heap.size + 1 + 1, 0, none⟩ = some (.int .i64 px) := cell_gr hw1 (by go_simp)
  have cw1_2_1 : w1.cell? ⟨W.heap.size + 1 + 1, 1, none⟩ = some (.int .i64 py) := cell_gr hw1 (by go_simp)
  have zw1_2 : W.heap.size + 1 + 1 < w1.heap.size := World.block_lt_of_cell? _ _ cw1_2_0
  have gw1 : Gr W w1 := Gr.trans (by go_grown) hw1
  clear hw1
  go_wp2_with fail
  go_at_call 22
  refine ((H2.out _)).mono ?_
  rintro e w2 ⟨rfl, hw2⟩
  have cw2_0_0 : w2.cell? ⟨W.heap.size, 0, none⟩ = some (.int .i64 lx) := cell_gr hw2 (by go_simp)
  have cw2_0_1 : w2.cell? ⟨W.heap.size, 1, none⟩ = some (.int .i64 ly) := cell_gr hw2 (by go_simp)
  have cw2_0_2 : w2.cell? ⟨W.heap.size, 2, none⟩ = some (.int .i64 hx) := cell_gr hw2 (by go_simp)
  have cw2_0_3 : w2.cell? ⟨W.heap.size, 3, none⟩ = some (.int .i64 hy) := cell_gr hw2 (by go_simp)
  have zw2_0 : W.heap.size < w2.heap.size := World.block_lt_of_cell? _ _ cw2_0_0
  have cw2_1_0 : w2.cell? ⟨W.heap.size + 1, 0, none⟩ = some (.int .i64 mx) := cell_gr hw2 (by go_simp)
  have cw2_1_1 : w2.cell? ⟨W.heap.size + 1, 1, none⟩ = some (.int .i64 my) := cell_gr hw2 (by go_simp)
  have cw2_1_2 : w2.cell? ⟨W.heap.size + 1, 2, none⟩ = some (.int .i64 nx) := cell_gr hw2 (by go_simp)
  have cw2_1_3 : w2.cell? ⟨W.heap.size + 1, 3, none⟩ = some (.int .i64 ny) := cell_gr hw2 (by go_simp)
  have zw2_1 : W.heap.size + 1 < w2.heap.size := World.block_lt_of_cell? _ _ cw2_1_0
  have cw2_2_0 : w2.cell? ⟨W.heap.size + 1 + 1, 0, none⟩ = some (.int .i64 px) := cell_gr hw2 (by go_simp)
  have cw2_2_1 : w2.cell? ⟨W.heap.size + 1 + 1, 1, none⟩ = some (.int .i64 py) := cell_gr hw2 (by go_simp)
  have zw2_2 : W.heap.size + 1 + 1 < w2.heap.size := World.block_lt_of_cell? _ _ cw2_2_0
  have gw2 : Gr W w2 := Gr.trans (by have gg := gw1; have gs := gg.size; go_grown) hw2
  clear hw2 gw1 zw1_0 cw1_0_0 cw1_0_1 cw1_0_2 cw1_0_3 zw1_1 cw1_1_0 cw1_1_1 cw1_1_2 cw1_1_3 zw1_2 cw1_2_0 cw1_2_1
  go_wp2_with fail
  go_at_call 11
  refine ((H3.out _)).mono ?_
  rintro e w3 ⟨rfl, hw3⟩
  have cw3_0_0 : w3.cell? ⟨W.heap.size, 0, none⟩ = some (.int .i64 lx) := cell_gr hw3 (by go_simp)
  have cw3_0_1 : w3.cell? ⟨W.heap.size, 1, none⟩ = some (.int .i64 ly) := cell_gr hw3 (by go_simp)
  have cw3_0_2 : w3.cell? ⟨W.heap.size, 2, none⟩ = some (.int .i64 hx) := cell_gr hw3 (by go_simp)
  have cw3_0_3 : w3.cell? ⟨W.heap.size, 3, none⟩ = some (.int .i64 hy) := cell_gr hw3 (by go_simp)
  have zw3_0 : W.heap.size < w3.heap.size := World.block_lt_of_cell? _ _ cw3_0_0
  have cw3_1_0 : w3.cell? ⟨W.heap.size + 1, 0, none⟩ = some (.int .i64 mx) := cell_gr hw3 (by go_simp)
  have cw3_1_1 : w3.cell? ⟨W.heap.size + 1, 1, none⟩ = some (.int .i64 my) := cell_gr hw3 (by go_simp)
  have cw3_1_2 : w3.cell? ⟨W.heap.size + 1, 2, none⟩ = some (.int .i64 nx) := cell_gr hw3 (by go_simp)
  have cw3_1_3 : w3.cell? ⟨W.heap.size + 1, 3, none⟩ = some (.int .i64 ny) := cell_gr hw3 (by go_simp)
  have zw3_1 : W.heap.size + 1 < w3.heap.size := World.block_lt_of_cell? _ _ cw3_1_0
  have cw3_2_0 : w3.cell? ⟨W.heap.size + 1 + 1, 0, none⟩ = some (.int .i64 px) := cell_gr hw3 (by go_simp)
  have cw3_2_1 : w3.cell? ⟨W.heap.size + 1 + 1, 1, none⟩ = some (.int .i64 py) := cell_gr hw3 (by go_simp)
  have zw3_2 : W.heap.size + 1 + 1 < w3.heap.size := World.block_lt_of_cell? _ _ cw3_2_0
  have gw3 : Gr W w3 := Gr.trans (by have gg := gw2; have gs := gg.size; go_grown) hw3
  clear hw3 gw2 zw2_0 cw2_0_0 cw2_0_1 cw2_0_2 cw2_0_3 zw2_1 cw2_1_0 cw2_1_1 cw2_1_2 cw2_1_3 zw2_2 cw2_2_0 cw2_2_1
  go_wp2_with fail
  go_at_call 23
  refine ((H4.out _)).mono ?_
  rintro e w4 ⟨rfl, hw4⟩
  have cw4_0_0 : w4.cell? ⟨W.heap.size, 0, none⟩ = some (.int .i64 lx) := cell_gr hw4 (by go_simp)
  have cw4_0_1 : w4.cell? ⟨W.heap.size, 1, none⟩ = some (.int .i64 ly) := cell_gr hw4 (by go_simp)
  have cw4_0_2 : w4.cell? ⟨W.heap.size, 2, none⟩ = some (.int .i64 hx) := cell_gr hw4 (by go_simp)
  have cw4_0_3 : w4.cell? ⟨W.heap.size, 3, none⟩ = some (.int .i64 hy) := cell_gr hw4 (by go_simp)
  have zw4_0 : W.heap.size < w4.heap.size := World.block_lt_of_cell? _ _ cw4_0_0
  have cw4_1_0 : w4.cell? ⟨W.heap.size + 1, 0, none⟩ = some (.int .i64 mx) := cell_gr hw4 (by go_simp)
  have cw4_1_1 : w4.cell? ⟨W.heap.size + 1, 1, none⟩ = some (.int .i64 my) := cell_gr hw4 (by go_simp)
  have cw4_1_2 : w4.cell? ⟨W.heap.size + 1, 2, none⟩ = some (.int .i64 nx) := cell_gr hw4 (by go_simp)
  have cw4_1_3 : w4.cell? ⟨W.heap.size + 1, 3, none⟩ = some (.int .i64 ny) := cell_gr hw4 (by go_simp)
  have zw4_1 : W.heap.size + 1 < w4.heap.size := World.block_lt_of_cell? _ _ cw4_1_0
  have cw4_2_0 : w4.cell? ⟨W.heap.size + 1 + 1, 0, none⟩ = some (.int .i64 px) := cell_gr hw4 (by go_simp)
  have cw4_2_1 : w4.cell? ⟨W.heap.size + 1 + 1, 1, none⟩ = some (.int .i64 py) := cell_gr hw4 (by go_simp)
  have zw4_2 : W.heap.size + 1 + 1 < w4.heap.size := World.block_lt_of_cell? _ _ cw4_2_0
  have cw4_3_0 : w4.cell? ⟨w3.heap.size, 0, none⟩ = some (.int .i64 qx) := cell_gr hw4 (by go_simp)
  have cw4_3_1 : w4.cell? ⟨w3.heap.size, 1, none⟩ = some (.int .i64 qy) := cell_gr hw4 (by go_simp)
  have zw4_3 : w3.heap.size < w4.heap.size := World.block_lt_of_cell? _ _ cw4_3_0
  have gw4 : Gr W w4 := Gr.trans (by have gg := gw3; have gs := gg.size; go_grown) hw4
  clear hw4 gw3 zw3_0 cw3_0_0 cw3_0_1 cw3_0_2 cw3_0_3 zw3_1 cw3_1_0 cw3_1_1 cw3_1_2 cw3_1_3 zw3_2 cw3_2_0 cw3_2_1
  go_wp2_with fail
  go_at_call 25
  refine ((H6.out _)).mono ?_
  rintro e w5 ⟨rfl, hw5⟩
  have cw5_0_0 : w5.cell? ⟨W.heap.size, 0, none⟩ = some (.int .i64 lx) := cell_gr hw5 (by go_simp)
  have cw5_0_1 : w5.cell? ⟨W.heap.size, 1, none⟩ = some (.int .i64 ly) := cell_gr hw5 (by go_simp)
  have cw5_0_2 : w5.cell? ⟨W.heap.size, 2, none⟩ = some (.int .i64 hx) := cell_gr hw5 (by go_simp)
  have cw5_0_3 : w5.cell? ⟨W.heap.size, 3, none⟩ = some (.int .i64 hy) := cell_gr hw5 (by go_simp)
  have zw5_0 : W.heap.size < w5.heap.size := World.block_lt_of_cell? _ _ cw5_0_0
  have cw5_1_0 : w5.cell? ⟨W.heap.size + 1, 0, none⟩ = some (.int .i64 mx) := cell_gr hw5 (by go_simp)
  have cw5_1_1 : w5.cell? ⟨W.heap.size + 1, 1, none⟩ = some (.int .i64 my) := cell_gr hw5 (by go_simp)
  have cw5_1_2 : w5.cell? ⟨W.heap.size + 1, 2, none⟩ = some (.int .i64 nx) := cell_gr hw5 (by go_simp)
  have cw5_1_3 : w5.cell? ⟨W.heap.size + 1, 3, none⟩ = some (.int .i64 ny) := cell_gr hw5 (by go_simp)
  have zw5_1 : W.heap.size + 1 < w5.heap.size := World.block_lt_of_cell? _ _ cw5_1_0
  have cw5_2_0 : w5.cell? ⟨W.heap.size + 1 + 1, 0, none⟩ = some (.int .i64 px) := cell_gr hw5 (by go_simp)
  have cw5_2_1 : w5.cell? ⟨W.heap.size + 1 + 1, 1, none⟩ = some (.int .i64 py) := cell_gr hw5 (by go_simp)
  have zw5_2 : W.heap.size + 1 + 1 < w5.heap.size := World.block_lt_of_cell? _ _ cw5_2_0
  have cw5_3_0 : w5.cell? ⟨w3.heap.size, 0, none⟩ = some (.int .i64 qx) := cell_gr hw5 (by go_simp)
  have cw5_3_1 : w5.cell? ⟨w3.heap.size, 1, none⟩ = some (.int .i64 qy) := cell_gr hw5 (by go_simp)
  have zw5_3 : w3.heap.size < w5.heap.size := World.block_lt_of_cell? _ _ cw5_3_0
  have gw5 : Gr W w5 := Gr.trans (by have gg := gw4; have gs := gg.size; go_grown) hw5
  clear hw5 gw4 zw4_0 cw4_0_0 cw4_0_1 cw4_0_2 cw4_0_3 zw4_1 cw4_1_0 cw4_1_1 cw4_1_2 cw4_1_3 zw4_2 cw4_2_0 cw4_2_1 zw4_3 cw4_3_0 cw4_3_1
  go_wp2_with fail
  go_at_call 25
  refine ((H7.out _)).mono ?_
  rintro e w6 ⟨rfl, hw6⟩
  have cw6_0_0 : w6.cell? ⟨W.heap.size, 0, none⟩ = some (.int .i64 lx) := cell_gr hw6 (by go_simp)
  have cw6_0_1 : w6.cell? ⟨W.heap.size, 1, none⟩ = some (.int .i64 ly) := cell_gr hw6 (by go_simp)
  have cw6_0_2 : w6.cell? ⟨W.heap.size, 2, none⟩ = some (.int .i64 hx) := cell_gr hw6 (by go_simp)
  have cw6_0_3 : w6.cell? ⟨W.heap.size, 3, none⟩ = some (.int .i64 hy) := cell_gr hw6 (by go_simp)
  have zw6_0 : W.heap.size < w6.heap.size := World.block_lt_of_cell? _ _ cw6_0_0
  have cw6_1_0 : w6.cell? ⟨W.heap.size + 1, 0, none⟩ = some (.int .i64 mx) := cell_gr hw6 (by go_simp)
  have cw6_1_1 : w6.cell? ⟨W.heap.size + 1, 1, none⟩ = some (.int .i64 my) := cell_gr hw6 (by go_simp)
  have cw6_1_2 : w6.cell? ⟨W.heap.size + 1, 2, none⟩ = some (.int .i64 nx) := cell_gr hw6 (by go_simp)
  have cw6_1_3 : w6.cell? ⟨W.heap.size + 1, 3, none⟩ = some (.int .i64 ny) := cell_gr hw6 (by go_simp)
  have zw6_1 : W.heap.size + 1 < w6.heap.size := World.block_lt_of_cell? _ _ cw6_1_0
  have cw6_2_0 : w6.cell? ⟨W.heap.size + 1 + 1, 0, none⟩ = some (.int .i64 px) := cell_gr hw6 (by go_simp)
  have cw6_2_1 : w6.cell? ⟨W.heap.size + 1 + 1, 1, none⟩ = some (.int .i64 py) := cell_gr hw6 (by go_simp)
  have zw6_2 : W.heap.size + 1 + 1 < w6.heap.size := World.block_lt_of_cell? _ _ cw6_2_0
  have cw6_3_0 : w6.cell? ⟨w3.heap.size, 0, none⟩ = some (.int .i64 qx) := cell_gr hw6 (by go_simp)
  have cw6_3_1 : w6.cell? ⟨w3.heap.size, 1, none⟩ = some (.int .i64 qy) := cell_gr hw6 (by go_simp)
  have zw6_3 : w3.heap.size < w6.heap.size := World.block_lt_of_cell? _ _ cw6_3_0
  have gw6 : Gr W w6 := Gr.trans (by have gg := gw5; have gs := gg.size; go_grown) hw6
  clear hw6 gw5 zw5_0 cw5_0_0 cw5_0_1 cw5_0_2 cw5_0_3 zw5_1 cw5_1_0 cw5_1_1 cw5_1_2 cw5_1_3 zw5_2 cw5_2_0 cw5_2_1 zw5_3 cw5_3_0 cw5_3_1
  go_wp2_with fail
  go_at_call 23
  refine ((H8.out _)).mono ?_
  rintro e w7 ⟨rfl, hw7⟩
  have cw7_0_0 : w7.cell? ⟨W.heap.size, 0, none⟩ = some (.int .i64 lx) := cell_gr hw7 (by go_simp)
  have cw7_0_1 : w7.cell? ⟨W.heap.size, 1, none⟩ = some (.int .i64 ly) := cell_gr hw7 (by go_simp)
  have cw7_0_2 : w7.cell? ⟨W.heap.size, 2, none⟩ = some (.int .i64 hx) := cell_gr hw7 (by go_simp)
  have cw7_0_3 : w7.cell? ⟨W.heap.size, 3, none⟩ = some (.int .i64 hy) := cell_gr hw7 (by go_simp)
  have zw7_0 : W.heap.size < w7.heap.size := World.block_lt_of_cell? _ _ cw7_0_0
  have cw7_1_0 : w7.cell? ⟨W.heap.size + 1, 0, none⟩ = some (.int .i64 mx) := cell_gr hw7 (by go_simp)
  have cw7_1_1 : w7.cell? ⟨W.heap.size + 1, 1, none⟩ = some (.int .i64 my) := cell_gr hw7 (by go_simp)
  have cw7_1_2 : w7.cell? ⟨W.heap.size + 1, 2, none⟩ = some (.int .i64 nx) := cell_gr hw7 (by go_simp)
  have cw7_1_3 : w7.cell? ⟨W.heap.size + 1, 3, none⟩ = some (.int .i64 ny) := cell_gr hw7 (by go_simp)
  have zw7_1 : W.heap.size + 1 < w7.heap.size := World.block_lt_of_cell? _ _ cw7_1_0
  have cw7_2_0 : w7.cell? ⟨W.heap.size + 1 + 1, 0, none⟩ = some (.int .i64 px) := cell_gr hw7 (by go_simp)
  have cw7_2_1 : w7.cell? ⟨W.heap.size + 1 + 1, 1, none⟩ = some (.int .i64 py) := cell_gr hw7 (by go_simp)
  have zw7_2 : W.heap.size + 1 + 1 < w7.heap.size := World.block_lt_of_cell? _ _ cw7_2_0
  have cw7_3_0 : w7.cell? ⟨w3.heap.size, 0, none⟩ = some (.int .i64 qx) := cell_gr hw7 (by go_simp)
  have cw7_3_1 : w7.cell? ⟨w3.heap.size, 1, none⟩ = some (.int .i64 qy) := cell_gr hw7 (by go_simp)
  have zw7_3 : w3.heap.size < w7.heap.size := World.block_lt_of_cell? _ _ cw7_3_0
  have gw7 : Gr W w7 := Gr.trans (by have gg := gw6; have gs := gg.size; go_grown) hw7
  clear hw7 gw6 zw6_0 cw6_0_0 cw6_0_1 cw6_0_2 cw6_0_3 zw6_1 cw6_1_0 cw6_1_1 cw6_1_2 cw6_1_3 zw6_2 cw6_2_0 cw6_2_1 zw6_3 cw6_3_0 cw6_3_1
  go_wp2_with fail
  go_at_call 34
  refine ((H10.out _)).mono ?_
  rintro e w8 ⟨rfl, hw8⟩
  have cw8_0_0 : w8.cell? ⟨W.heap.size, 0, none⟩ = some (.int .i64 lx) := cell_gr hw8 (by go_simp)
  have cw8_0_1 : w8.cell? ⟨W.heap.size, 1, none⟩ = some (.int .i64 ly) := cell_gr hw8 (by go_simp)
  have cw8_0_2 : w8.cell? ⟨W.heap.size, 2, none⟩ = some (.int .i64 hx) := cell_gr hw8 (by go_simp)
  have cw8_0_3 : w8.cell? ⟨W.heap.size, 3, none⟩ = some (.int .i64 hy) := cell_gr hw8 (by go_simp)
  have zw8_0 : W.heap.size < w8.heap.size := World.block_lt_of_cell? _ _ cw8_0_0
  have cw8_1_0 : w8.cell? ⟨W.heap.size + 1, 0, none⟩ = some (.int .i64 mx) := cell_gr hw8 (by go_simp)
  have cw8_1_1 : w8.cell? ⟨W.heap.size + 1, 1, none⟩ = some (.int .i64 my) := cell_gr hw8 (by go_simp)
  have cw8_1_2 : w8.cell? ⟨W.heap.size + 1, 2, none⟩ = some (.int .i64 nx) := cell_gr hw8 (by go_simp)
  have cw8_1_3 : w8.cell? ⟨W.heap.size + 1, 3, none⟩ = some (.int .i64 ny) := cell_gr hw8 (by go_simp)
  have zw8_1 : W.heap.size + 1 < w8.heap.size := World.block_lt_of_cell? _ _ cw8_1_0
  have cw8_2_0 : w8.cell? ⟨W.heap.size + 1 + 1, 0, none⟩ = some (.int .i64 px) := cell_gr hw8 (by go_simp)
  have cw8_2_1 : w8.cell? ⟨W.heap.size + 1 + 1, 1, none⟩ = some (.int .i64 py) := cell_gr hw8 (by go_simp)
  have zw8_2 : W.heap.size + 1 + 1 < w8.heap.size := World.block_lt_of_cell? _ _ cw8_2_0
  have cw8_3_0 : w8.cell? ⟨w3.heap.size, 0, none⟩ = some (.int .i64 qx) := cell_gr hw8 (by go_simp)
  have cw8_3_1 : w8.cell? ⟨w3.heap.size, 1, none⟩ = some (.int .i64 qy) := cell_gr hw8 (by go_simp)
  have zw8_3 : w3.heap.size < w8.heap.size := World.block_lt_of_cell? _ _ cw8_3_0
  have gw8 : Gr W w8 := Gr.trans (by have gg := gw7; have gs := gg.size; go_grown) hw8
  clear hw8 gw7 zw7_0 cw7_0_0 cw7_0_1 cw7_0_2 cw7_0_3 zw7_1 cw7_1_0 cw7_1_1 cw7_1_2 cw7_1_3 zw7_2 cw7_2_0 cw7_2_1 zw7_3 cw7_3_0 cw7_3_1
  go_wp2_with fail
  refine wp_region_spread (by kernel_rfl) (by kernel_rfl) ?_
  repeat (first | go_big_quiet_skip | (go_big_quiet_want; go_big_quiet_op; (first | go_big_quiet_on | (apply Exists.intro; refine ⟨fun _ => ?_, ?_⟩; (· (first | (go_at_call 23; first | ((with_reducible refine ((H8.out _)).mono ?_); rintro e w' ⟨rfl, hg⟩; exact ⟨rfl, spread_gr hg⟩)) | (go_at_call 27; first | ((with_reducible refine ((H11.out _)).mono ?_); rintro e w' ⟨rfl, hg⟩; exact ⟨rfl, spread_gr hg⟩) | ((with_reducible refine ((H12.out _)).mono ?_); rintro e w' ⟨rfl, hg⟩; exact ⟨rfl, spread_gr hg⟩)) | (go_at_call 20; first | ((with_reducible refine ((p_awake _)).mono ?_); rintro e w' ⟨rfl, hg⟩; exact ⟨rfl, spread_gr hg⟩)))); go_big_quiet_on))))
  refine wpQuiet_nil ?_
  intro wr hr
  obtain ⟨mr, rfl⟩ := hr
  go_wp2_with fail
  go_ret
  exact ⟨rfl, Gr.trans (by have gg := gw8; have gs := gg.size; go_grown) (gr_spread _ _)⟩

end Go.Proofs.Ytffobfjjbcdbdaa
