/- CurveGrows -/
import Derived.Test.YtldlpbfncgcimaaDoorCj
namespace Go.Proofs.YtldlpbfncgcimaaDoor
set_option linter.unusedVariables false
open Go.ChangeShapes Go.WideShapes Go.ChangeAt Go.RowKit

set_option maxHeartbeats 2000000 in
set_option maxRecDepth 100000 in
theorem grows_skip (ax ay bx by' : Int) (q1 q2 : Bool) (W : World) (hE : ErrT W)
    (A1 : ∀ w, Calls Tryd.prog 41 #[.agg #[.int .i64 ax, .int .i64 ay]] w fun e w' => e = .returned (.bool q1) ∧ Gr w w') (A2 : ∀ w, Calls Tryd.prog 41 #[.agg #[.int .i64 bx, .int .i64 by']] w fun e w' => e = .returned (.bool q2) ∧ Gr w w')
    (h : q1 = false ∨ (q1 = true ∧ q2 = false) ∨ (q1 = true ∧ q2 = true ∧ decide (bx < ax) = true) ∨ (q1 = true ∧ q2 = true ∧ decide (bx < ax) = false ∧ decide (by' < ay) = true)) :
    Calls Tryd.prog 12 #[.agg #[.int .i64 ax, .int .i64 ay], .agg #[.int .i64 bx, .int .i64 by']] W fun e w' => e = .returned (.bool true) ∧ Gr W w' := by
  have HAW := Lib.hid (fun w (g : Gr W w) => p19_awake w (errT_gr hE g))
  clear hE
  have H1 := Lib.hid A1
  have H2 := Lib.hid A2
  clear A1 A2
  rcases h with rfl | ⟨rfl, rfl⟩ | ⟨rfl, rfl, t1⟩ | ⟨rfl, rfl, t1, t2⟩
  · go_enter Tryd.func12, Tryd.ntmps12
    go_wp2_with fail
    go_at_call 41
    refine ((H1.out _)).mono ?_
    rintro e w1 ⟨rfl, hw1⟩
    have cw1_0_0 : w1.cell? ⟨W.heap.size, 0, none⟩ = some (.int .i64 ax) := cell_gr hw1 (by go_simp)
    have cw1_0_1 : w1.cell? ⟨W.heap.size, 1, none⟩ = some (.int .i64 ay) := cell_gr hw1 (by go_simp)
    have zw1_0 : W.heap.size < w1.heap.size := World.block_lt_of_cell? _ _ cw1_0_0
    have cw1_1_0 : w1.cell? ⟨W.heap.size + 1, 0, none⟩ = some (.int .i64 bx) := cell_gr hw1 (by go_simp)
    have cw1_1_1 : w1.cell? ⟨W.heap.size + 1, 1, none⟩ = some (.int .i64 by') := cell_gr hw1 (by go_simp)
    have zw1_1 : W.heap.size + 1 < w1.heap.size := World.block_lt_of_cell? _ _ cw1_1_0
    have gw1 : Gr W w1 := Gr.trans (by go_grown) hw1
    clear hw1
    go_wp2_with fail
    go_at_call 40
    refine ((HAW.out _ (by have gg := gw1; have gs := gg.size; go_grown))).mono ?_
    rintro e w2 ⟨rfl, hw2⟩
    have cw2_0_0 : w2.cell? ⟨W.heap.size, 0, none⟩ = some (.int .i64 ax) := cell_gr hw2 (by go_simp)
    have cw2_0_1 : w2.cell? ⟨W.heap.size, 1, none⟩ = some (.int .i64 ay) := cell_gr hw2 (by go_simp)
    have zw2_0 : W.heap.size < w2.heap.size := World.block_lt_of_cell? _ _ cw2_0_0
    have cw2_1_0 : w2.cell? ⟨W.heap.size + 1, 0, none⟩ = some (.int .i64 bx) := cell_gr hw2 (by go_simp)
    have cw2_1_1 : w2.cell? ⟨W.heap.size + 1, 1, none⟩ = some (.int .i64 by') := cell_gr hw2 (by go_simp)
    have zw2_1 : W.heap.size + 1 < w2.heap.size := World.block_lt_of_cell? _ _ cw2_1_0
    have gw2 : Gr W w2 := Gr.trans (by have gg := gw1; have gs := gg.size; go_grown) hw2
    clear hw2 gw1 zw1_0 cw1_0_0 cw1_0_1 zw1_1 cw1_1_0 cw1_1_1
    go_wp2_with fail
    go_ret
    exact ⟨rfl, gw2⟩
  all_goals
    go_enter Tryd.func12, Tryd.ntmps12
    go_wp2_with fail
    go_at_call 41
    refine ((H1.out _)).mono ?_
    rintro e w1 ⟨rfl, hw1⟩
    have cw1_0_0 : w1.cell? ⟨W.heap.size, 0, none⟩ = some (.int .i64 ax) := cell_gr hw1 (by go_simp)
    have cw1_0_1 : w1.cell? ⟨W.heap.size, 1, none⟩ = some (.int .i64 ay) := cell_gr hw1 (by go_simp)
    have zw1_0 : W.heap.size < w1.heap.size := World.block_lt_of_cell? _ _ cw1_0_0
    have cw1_1_0 : w1.cell? ⟨W.heap.size + 1, 0, none⟩ = some (.int .i64 bx) := cell_gr hw1 (by go_simp)
    have cw1_1_1 : w1.cell? ⟨W.heap.size + 1, 1, none⟩ = some (.int .i64 by') := cell_gr hw1 (by go_simp)
    have zw1_1 : W.heap.size + 1 < w1.heap.size := World.block_lt_of_cell? _ _ cw1_1_0
    have gw1 : Gr W w1 := Gr.trans (by go_grown) hw1
    clear hw1
    go_wp2_with fail
    go_at_call 41
    refine ((H2.out _)).mono ?_
    rintro e w2 ⟨rfl, hw2⟩
    have cw2_0_0 : w2.cell? ⟨W.heap.size, 0, none⟩ = some (.int .i64 ax) := cell_gr hw2 (by go_simp)
    have cw2_0_1 : w2.cell? ⟨W.heap.size, 1, none⟩ = some (.int .i64 ay) := cell_gr hw2 (by go_simp)
    have zw2_0 : W.heap.size < w2.heap.size := World.block_lt_of_cell? _ _ cw2_0_0
    have cw2_1_0 : w2.cell? ⟨W.heap.size + 1, 0, none⟩ = some (.int .i64 bx) := cell_gr hw2 (by go_simp)
    have cw2_1_1 : w2.cell? ⟨W.heap.size + 1, 1, none⟩ = some (.int .i64 by') := cell_gr hw2 (by go_simp)
    have zw2_1 : W.heap.size + 1 < w2.heap.size := World.block_lt_of_cell? _ _ cw2_1_0
    have gw2 : Gr W w2 := Gr.trans (by have gg := gw1; have gs := gg.size; go_grown) hw2
    clear hw2 gw1 zw1_0 cw1_0_0 cw1_0_1 zw1_1 cw1_1_0 cw1_1_1
    go_wp2_with fail
    go_at_call 40
    refine ((HAW.out _ (by have gg := gw2; have gs := gg.size; go_grown))).mono ?_
    rintro e w3 ⟨rfl, hw3⟩
    have cw3_0_0 : w3.cell? ⟨W.heap.size, 0, none⟩ = some (.int .i64 ax) := cell_gr hw3 (by go_simp)
    have cw3_0_1 : w3.cell? ⟨W.heap.size, 1, none⟩ = some (.int .i64 ay) := cell_gr hw3 (by go_simp)
    have zw3_0 : W.heap.size < w3.heap.size := World.block_lt_of_cell? _ _ cw3_0_0
    have cw3_1_0 : w3.cell? ⟨W.heap.size + 1, 0, none⟩ = some (.int .i64 bx) := cell_gr hw3 (by go_simp)
    have cw3_1_1 : w3.cell? ⟨W.heap.size + 1, 1, none⟩ = some (.int .i64 by') := cell_gr hw3 (by go_simp)
    have zw3_1 : W.heap.size + 1 < w3.heap.size := World.block_lt_of_cell? _ _ cw3_1_0
    have gw3 : Gr W w3 := Gr.trans (by have gg := gw2; have gs := gg.size; go_grown) hw3
    clear hw3 gw2 zw2_0 cw2_0_0 cw2_0_1 zw2_1 cw2_1_0 cw2_1_1
    go_wp2_with fail
    go_ret
    exact ⟨rfl, gw3⟩
set_option maxHeartbeats 4000000 in
set_option maxRecDepth 100000 in
theorem grows_core (ax ay bx by' mx my : Int) (x y z : Nat) (eb : Bool) (W : World) (hE : ErrT W)
    (t1 : decide (bx < ax) = false) (t2 : decide (by' < ay) = false)
    (A1 : ∀ w, Calls Tryd.prog 41 #[.agg #[.int .i64 ax, .int .i64 ay]] w fun e w' => e = .returned (.bool true) ∧ Gr w w') (A2 : ∀ w, Calls Tryd.prog 41 #[.agg #[.int .i64 bx, .int .i64 by']] w fun e w' => e = .returned (.bool true) ∧ Gr w w')
    (A3 : ∀ w, Calls Tryd.prog 30 #[.agg #[.int .i64 ax, .int .i64 ay]] w fun e w' => e = .returned (.tuple #[.int .u64 x, .nilIface]) ∧ Gr w w') (A4 : ∀ w, Calls Tryd.prog 30 #[.agg #[.int .i64 bx, .int .i64 by']] w fun e w' => e = .returned (.tuple #[.int .u64 y, .nilIface]) ∧ Gr w w')
    (A5 : ∀ w, Calls Tryd.prog 38 #[.agg #[.int .i64 ax, .int .i64 ay, .int .i64 bx, .int .i64 by']] w fun e w' => e = .returned (.tuple #[.agg #[.int .i64 mx, .int .i64 my], .nilIface]) ∧ Gr w w')
    (A6 : ∀ w, Calls Tryd.prog 30 #[.agg #[.int .i64 mx, .int .i64 my]] w fun e w' => e = .returned (.tuple #[.int .u64 z, .nilIface]) ∧ Gr w w')
    (u1 : decide ((x : Int) ≤ (z : Int)) = true) (u2 : decide ((z : Int) ≤ (y : Int)) = true) (u3 : decide (x ≤ z) = true) (u4 : decide (z ≤ y) = true) (u5 : ((x : Int) == (y : Int)) = eb) (u6 : (x == y) = eb)
    (hP : ∀ w, (binOp .eql 54 (.agg #[.int .i64 ax, .int .i64 ay]) (.agg #[.int .i64 bx, .int .i64 by'])).run Tryd.prog w = .ok (.bool eb) w) :
    Calls Tryd.prog 12 #[.agg #[.int .i64 ax, .int .i64 ay], .agg #[.int .i64 bx, .int .i64 by']] W fun e w' => e = .returned (.bool true) ∧ Gr W w' := by
  have HAW := Lib.hid (fun w (g : Gr W w) => p19_awake w (errT_gr hE g))
  clear hE
  have H1 := Lib.hid A1
  have H2 := Lib.hid A2
  have H3 := Lib.hid A3
  have H4 := Lib.hid A4
  have H5 := Lib.hid A5
  have H6 := Lib.hid A6
  clear A1 A2 A3 A4 A5 A6
  cases eb
  all_goals
    go_enter Tryd.func12, Tryd.ntmps12
    go_wp2_with fail
    go_at_call 41
    refine ((H1.out _)).mono ?_
    rintro e w1 ⟨rfl, hw1⟩
    have cw1_0_0 : w1.cell? ⟨W.heap.size, 0, none⟩ = some (.int .i64 ax) := cell_gr hw1 (by go_simp)
    have cw1_0_1 : w1.cell? ⟨W.heap.size, 1, none⟩ = some (.int .i64 ay) := cell_gr hw1 (by go_simp)
    have zw1_0 : W.heap.size < w1.heap.size := World.block_lt_of_cell? _ _ cw1_0_0
    have cw1_1_0 : w1.cell? ⟨W.heap.size + 1, 0, none⟩ = some (.int .i64 bx) := cell_gr hw1 (by go_simp)
    have cw1_1_1 : w1.cell? ⟨W.heap.size + 1, 1, none⟩ = some (.int .i64 by') := cell_gr hw1 (by go_simp)
    have zw1_1 : W.heap.size + 1 < w1.heap.size := World.block_lt_of_cell? _ _ cw1_1_0
    have gw1 : Gr W w1 := Gr.trans (by go_grown) hw1
    clear hw1
    go_wp2_with fail
    go_at_call 41
    refine ((H2.out _)).mono ?_
    rintro e w2 ⟨rfl, hw2⟩
    have cw2_0_0 : w2.cell? ⟨W.heap.size, 0, none⟩ = some (.int .i64 ax) := cell_gr hw2 (by go_simp)
    have cw2_0_1 : w2.cell? ⟨W.heap.size, 1, none⟩ = some (.int .i64 ay) := cell_gr hw2 (by go_simp)
    have zw2_0 : W.heap.size < w2.heap.size := World.block_lt_of_cell? _ _ cw2_0_0
    have cw2_1_0 : w2.cell? ⟨W.heap.size + 1, 0, none⟩ = some (.int .i64 bx) := cell_gr hw2 (by go_simp)
    have cw2_1_1 : w2.cell? ⟨W.heap.size + 1, 1, none⟩ = some (.int .i64 by') := cell_gr hw2 (by go_simp)
    have zw2_1 : W.heap.size + 1 < w2.heap.size := World.block_lt_of_cell? _ _ cw2_1_0
    have gw2 : Gr W w2 := Gr.trans (by have gg := gw1; have gs := gg.size; go_grown) hw2
    clear hw2 gw1 zw1_0 cw1_0_0 cw1_0_1 zw1_1 cw1_1_0 cw1_1_1
    go_wp2_with fail
    go_at_call 30
    refine ((H3.out _)).mono ?_
    rintro e w3 ⟨rfl, hw3⟩
    have cw3_0_0 : w3.cell? ⟨W.heap.size, 0, none⟩ = some (.int .i64 ax) := cell_gr hw3 (by go_simp)
    have cw3_0_1 : w3.cell? ⟨W.heap.size, 1, none⟩ = some (.int .i64 ay) := cell_gr hw3 (by go_simp)
    have zw3_0 : W.heap.size < w3.heap.size := World.block_lt_of_cell? _ _ cw3_0_0
    have cw3_1_0 : w3.cell? ⟨W.heap.size + 1, 0, none⟩ = some (.int .i64 bx) := cell_gr hw3 (by go_simp)
    have cw3_1_1 : w3.cell? ⟨W.heap.size + 1, 1, none⟩ = some (.int .i64 by') := cell_gr hw3 (by go_simp)
    have zw3_1 : W.heap.size + 1 < w3.heap.size := World.block_lt_of_cell? _ _ cw3_1_0
    have gw3 : Gr W w3 := Gr.trans (by have gg := gw2; have gs := gg.size; go_grown) hw3
    clear hw3 gw2 zw2_0 cw2_0_0 cw2_0_1 zw2_1 cw2_1_0 cw2_1_1
    go_wp2_with fail
    go_at_call 30
    refine ((H4.out _)).mono ?_
    rintro e w4 ⟨rfl, hw4⟩
    have cw4_0_0 : w4.cell? ⟨W.heap.size, 0, none⟩ = some (.int .i64 ax) := cell_gr hw4 (by go_simp)
    have cw4_0_1 : w4.cell? ⟨W.heap.size, 1, none⟩ = some (.int .i64 ay) := cell_gr hw4 (by go_simp)
    have zw4_0 : W.heap.size < w4.heap.size := World.block_lt_of_cell? _ _ cw4_0_0
    have cw4_1_0 : w4.cell? ⟨W.heap.size + 1, 0, none⟩ = some (.int .i64 bx) := cell_gr hw4 (by go_simp)
    have cw4_1_1 : w4.cell? ⟨W.heap.size + 1, 1, none⟩ = some (.int .i64 by') := cell_gr hw4 (by go_simp)
    have zw4_1 : W.heap.size + 1 < w4.heap.size := World.block_lt_of_cell? _ _ cw4_1_0
    have gw4 : Gr W w4 := Gr.trans (by have gg := gw3; have gs := gg.size; go_grown) hw4
    clear hw4 gw3 zw3_0 cw3_0_0 cw3_0_1 zw3_1 cw3_1_0 cw3_1_1
    go_wp2_with fail
    go_at_call 38
    refine ((H5.out _)).mono ?_
    rintro e w5 ⟨rfl, hw5⟩
    have cw5_0_0 : w5.cell? ⟨W.heap.size, 0, none⟩ = some (.int .i64 ax) := cell_gr hw5 (by go_simp)
    have cw5_0_1 : w5.cell? ⟨W.heap.size, 1, none⟩ = some (.int .i64 ay) := cell_gr hw5 (by go_simp)
    have zw5_0 : W.heap.size < w5.heap.size := World.block_lt_of_cell? _ _ cw5_0_0
    have cw5_1_0 : w5.cell? ⟨W.heap.size + 1, 0, none⟩ = some (.int .i64 bx) := cell_gr hw5 (by go_simp)
    have cw5_1_1 : w5.cell? ⟨W.heap.size + 1, 1, none⟩ = some (.int .i64 by') := cell_gr hw5 (by go_simp)
    have zw5_1 : W.heap.size + 1 < w5.heap.size := World.block_lt_of_cell? _ _ cw5_1_0
    have gw5 : Gr W w5 := Gr.trans (by have gg := gw4; have gs := gg.size; go_grown) hw5
    clear hw5 gw4 zw4_0 cw4_0_0 cw4_0_1 zw4_1 cw4_1_0 cw4_1_1
    go_wp2_with fail
    go_at_call 30
    refine ((H6.out _)).mono ?_
    rintro e w6 ⟨rfl, hw6⟩
    have cw6_0_0 : w6.cell? ⟨W.heap.size, 0, none⟩ = some (.int .i64 ax) := cell_gr hw6 (by go_simp)
    have cw6_0_1 : w6.cell? ⟨W.heap.size, 1, none⟩ = some (.int .i64 ay) := cell_gr hw6 (by go_simp)
    have zw6_0 : W.heap.size < w6.heap.size := World.block_lt_of_cell? _ _ cw6_0_0
    have cw6_1_0 : w6.cell? ⟨W.heap.size + 1, 0, none⟩ = some (.int .i64 bx) := cell_gr hw6 (by go_simp)
    have cw6_1_1 : w6.cell? ⟨W.heap.size + 1, 1, none⟩ = some (.int .i64 by') := cell_gr hw6 (by go_simp)
    have zw6_1 : W.heap.size + 1 < w6.heap.size := World.block_lt_of_cell? _ _ cw6_1_0
    have cw6_2_0 : w6.cell? ⟨w5.heap.size, 0, none⟩ = some (.int .i64 mx) := cell_gr hw6 (by go_simp)
    have cw6_2_1 : w6.cell? ⟨w5.heap.size, 1, none⟩ = some (.int .i64 my) := cell_gr hw6 (by go_simp)
    have zw6_2 : w5.heap.size < w6.heap.size := World.block_lt_of_cell? _ _ cw6_2_0
    have gw6 : Gr W w6 := Gr.trans (by have gg := gw5; have gs := gg.size; go_grown) hw6
    clear hw6 gw5 zw5_0 cw5_0_0 cw5_0_1 zw5_1 cw5_1_0 cw5_1_1
    go_wp2_with fail
    go_at_call 40
    refine ((HAW.out _ (by have gg := gw6; have gs := gg.size; go_grown))).mono ?_
    rintro e w7 ⟨rfl, hw7⟩
    have cw7_0_0 : w7.cell? ⟨W.heap.size, 0, none⟩ = some (.int .i64 ax) := cell_gr hw7 (by go_simp)
    have cw7_0_1 : w7.cell? ⟨W.heap.size, 1, none⟩ = some (.int .i64 ay) := cell_gr hw7 (by go_simp)
    have zw7_0 : W.heap.size < w7.heap.size := World.block_lt_of_cell? _ _ cw7_0_0
    have cw7_1_0 : w7.cell? ⟨W.heap.size + 1, 0, none⟩ = some (.int .i64 bx) := cell_gr hw7 (by go_simp)
    have cw7_1_1 : w7.cell? ⟨W.heap.size + 1, 1, none⟩ = some (.int .i64 by') := cell_gr hw7 (by go_simp)
    have zw7_1 : W.heap.size + 1 < w7.heap.size := World.block_lt_of_cell? _ _ cw7_1_0
    have cw7_2_0 : w7.cell? ⟨w5.heap.size, 0, none⟩ = some (.int .i64 mx) := cell_gr hw7 (by go_simp)
    have cw7_2_1 : w7.cell? ⟨w5.heap.size, 1, none⟩ = some (.int .i64 my) := cell_gr hw7 (by go_simp)
    have zw7_2 : w5.heap.size < w7.heap.size := World.block_lt_of_cell? _ _ cw7_2_0
    have gw7 : Gr W w7 := Gr.trans (by have gg := gw6; have gs := gg.size; go_grown) hw7
    clear hw7 gw6 zw6_0 cw6_0_0 cw6_0_1 zw6_1 cw6_1_0 cw6_1_1 zw6_2 cw6_2_0 cw6_2_1
    go_wp2_with fail
    go_ret
    exact ⟨rfl, gw7⟩
theorem walk_CurveGrows (ax ay bx by' : Int) (B0 : (-9223372036854775808 ≤ ax ∧ ax ≤ 9223372036854775807) ∧ (-9223372036854775808 ≤ ay ∧ ay ≤ 9223372036854775807)) (B1 : (-9223372036854775808 ≤ bx ∧ bx ≤ 9223372036854775807) ∧ (-9223372036854775808 ≤ by' ∧ by' ≤ 9223372036854775807)) (W : World) (hE : ErrT W) :
    Calls Tryd.prog 12 #[.agg #[.int .i64 ax, .int .i64 ay], .agg #[.int .i64 bx, .int .i64 by']] W fun e w' => e = .returned (.bool true) ∧ Gr W w' := by
  have A1 := fun w => c_rPoint ax ay w
  have A2 := fun w => c_rPoint bx by' w
  by_cases hc : nearB ax ay = true ∧ nearB bx by' = true ∧ ax ≤ bx ∧ ay ≤ by'
  · obtain ⟨n1, n2, l1, l2⟩ := hc
    rw [n1] at A1
    rw [n2] at A2
    obtain ⟨b1, b2, b3, b4⟩ := nearB_iff.1 n1
    obtain ⟨b5, b6, b7, b8⟩ := nearB_iff.1 n2
    have hb : boxB ax ay bx by' = true := by unfold boxB; simp [n1, n2, l1, l2]
    obtain ⟨mx, ex⟩ : ∃ m, m = (ax + bx) / 2 := ⟨_, rfl⟩
    obtain ⟨my, ey⟩ : ∃ m, m = (ay + by') / 2 := ⟨_, rfl⟩
    have hm : nearB mx my = true := nearB_iff.2 ⟨by omega, by omega, by omega, by omega⟩
    have A5 := fun w => c_Centre ax ay bx by' hb w
    rw [← ex, ← ey] at A5
    obtain ⟨X1, hX1⟩ : ∃ n : Nat, (n : Int) = ax + 1073741824 := ⟨(ax + 1073741824).toNat, Int.toNat_of_nonneg (by omega)⟩
    obtain ⟨Y1, hY1⟩ : ∃ n : Nat, (n : Int) = ay + 1073741824 := ⟨(ay + 1073741824).toNat, Int.toNat_of_nonneg (by omega)⟩
    obtain ⟨X2, hX2⟩ : ∃ n : Nat, (n : Int) = bx + 1073741824 := ⟨(bx + 1073741824).toNat, Int.toNat_of_nonneg (by omega)⟩
    obtain ⟨Y2, hY2⟩ : ∃ n : Nat, (n : Int) = by' + 1073741824 := ⟨(by' + 1073741824).toNat, Int.toNat_of_nonneg (by omega)⟩
    obtain ⟨X3, hX3⟩ : ∃ n : Nat, (n : Int) = mx + 1073741824 := ⟨(mx + 1073741824).toNat, Int.toNat_of_nonneg (by omega)⟩
    obtain ⟨Y3, hY3⟩ : ∃ n : Nat, (n : Int) = my + 1073741824 := ⟨(my + 1073741824).toNat, Int.toNat_of_nonneg (by omega)⟩
    have A3 := fun w => c_Z ax ay X1 Y1 n1 hX1 hY1 w
    have A4 := fun w => c_Z bx by' X2 Y2 n2 hX2 hY2 w
    have A6 := fun w => c_Z mx my X3 Y3 hm hX3 hY3 w
    have v1 := Cv.zv_le (x := X1) (y := Y1) (x' := X3) (y' := Y3) (by omega) (by omega) (by omega) (by omega) (by omega) (by omega)
    have v2 := Cv.zv_le (x := X3) (y := Y3) (x' := X2) (y' := Y2) (by omega) (by omega) (by omega) (by omega) (by omega) (by omega)
    have v3 := Cv.zv_eq (x := X1) (y := Y1) (x' := X2) (y' := Y2) (by omega) (by omega) (by omega) (by omega) (by omega) (by omega)
    have v4 : Cv.zv X1 Y1 = Cv.zv X2 Y2 ↔ ax = bx ∧ ay = by' := v3.trans (by omega)
    refine grows_core ax ay bx by' mx my _ _ _ (decide (ax = bx ∧ ay = by')) W hE (decide_eq_false (by omega)) (decide_eq_false (by omega)) A1 A2 A3 A4 A5 A6 (decide_eq_true (by omega)) (decide_eq_true (by omega)) (decide_eq_true v1) (decide_eq_true v2) ?_ ?_ (fun w => eqPt ax ay bx by' w)
    · rw [Bool.eq_iff_iff, beq_iff_eq, decide_eq_true_eq, ← v4]; omega
    · rw [Bool.eq_iff_iff, beq_iff_eq, decide_eq_true_eq, ← v4]
  · refine grows_skip ax ay bx by' _ _ W hE A1 A2 ?_
    cases n1 : nearB ax ay with
    | false => exact Or.inl rfl
    | true =>
      cases n2 : nearB bx by' with
      | false => exact Or.inr (Or.inl ⟨rfl, rfl⟩)
      | true =>
        right; right
        by_cases l1 : bx < ax
        · exact Or.inl ⟨rfl, rfl, decide_eq_true l1⟩
        · refine Or.inr ⟨rfl, rfl, decide_eq_false l1, decide_eq_true ?_⟩
          have : ¬ (ax ≤ bx ∧ ay ≤ by') := fun h => hc ⟨n1, n2, h⟩
          omega
end Go.Proofs.YtldlpbfncgcimaaDoor
