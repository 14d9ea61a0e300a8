/- SegmNear -/
import Derived.Test.YthjhhnolkiejpaaZf
import Derived.Test.YthjhhnolkiejpaaVd
namespace Go.Proofs.Ythjhhnolkiejpaa
set_option linter.unusedVariables false
open Go.ChangeShapes Go.WideShapes Go.ChangeAt Go.RowKit

set_option maxHeartbeats 4000000 in
set_option maxRecDepth 100000 in
theorem near_no (ax ay bx by' px py : Int) (q1 q2 q3 : Bool) (W : World) (hc : q1 = false ∨ (q1 = true ∧ q2 = false) ∨ (q1 = true ∧ q2 = true ∧ q3 = false))
    (A1 : ∀ w, Calls Try.prog 30 #[.agg #[.int .i64 ax, .int .i64 ay], .agg #[.int .i64 bx, .int .i64 by'], .agg #[.int .i64 px, .int .i64 py]] w fun e w' => e = .returned (.agg #[.int .u64 0, .int .u64 0, .int .u64 0]) ∧ Gr w w')
    (A2 : ∀ w, Calls Try.prog 22 #[.agg #[.int .i64 ax, .int .i64 ay], .agg #[.int .i64 bx, .int .i64 by'], .agg #[.int .i64 px, .int .i64 py]] w fun e w' => e = .returned (.bool false) ∧ Gr w w')
    (A3 : ∀ w, Calls Try.prog 14 #[.agg #[.int .i64 ax, .int .i64 ay]] w fun e w' => e = .returned (.bool q1) ∧ Gr w w')
    (A4 : ∀ w, Calls Try.prog 14 #[.agg #[.int .i64 bx, .int .i64 by']] w fun e w' => e = .returned (.bool q2) ∧ Gr w w')
    (A5 : ∀ w, Calls Try.prog 14 #[.agg #[.int .i64 px, .int .i64 py]] w fun e w' => e = .returned (.bool q3) ∧ Gr w w') :
    Calls Try.prog 6 #[.agg #[.int .i64 ax, .int .i64 ay], .agg #[.int .i64 bx, .int .i64 by'], .agg #[.int .i64 px, .int .i64 py]] W fun e w' => e = .returned (.bool true) ∧ Gr W w' := by
  have H1 := Lib.hid A1
  have H2 := Lib.hid A2
  have H3 := Lib.hid A3
  have H4 := Lib.hid A4
  have H5 := Lib.hid A5
  clear A1 A2 A3 A4 A5
  rcases hc with rfl | ⟨rfl, rfl⟩ | ⟨rfl, rfl, rfl⟩
  · go_enter Try.func6, Try.ntmps6
    go_wp2_with fail
    go_at_call 30
    refine ((H1.out _)).mono ?_
    rintro e w1 ⟨rfl, hw1⟩
    have cw1_0_0 : w1.cell? ⟨W.heap.size, 0, none⟩ = some (.int .i64 ax) := cell_gr hw1 (by go_simp)
    have cw1_0_1 : w1.cell? ⟨W.heap.size, 1, none⟩ = some (.int .i64 ay) := cell_gr hw1 (by go_simp)
    have zw1_0 : W.heap.size < w1.heap.size := World.block_lt_of_cell? _ _ cw1_0_0
    have cw1_1_0 : w1.cell? ⟨W.heap.size + 1, 0, none⟩ = some (.int .i64 bx) := cell_gr hw1 (by go_simp)
    have cw1_1_1 : w1.cell? ⟨W.heap.size + 1, 1, none⟩ = some (.int .i64 by') := cell_gr hw1 (by go_simp)
    have zw1_1 : W.heap.size + 1 < w1.heap.size := World.block_lt_of_cell? _ _ cw1_1_0
    have cw1_2_0 : w1.cell? ⟨W.heap.size + 1 + 1, 0, none⟩ = some (.int .i64 px) := cell_gr hw1 (by go_simp)
    have cw1_2_1 : w1.cell? ⟨W.heap.size + 1 + 1, 1, none⟩ = some (.int .i64 py) := cell_gr hw1 (by go_simp)
    have zw1_2 : W.heap.size + 1 + 1 < w1.heap.size := World.block_lt_of_cell? _ _ cw1_2_0
    have gw1 : Gr W w1 := Gr.trans (by go_grown) hw1
    clear hw1
    go_wp2_with fail
    go_at_call 22
    refine ((H2.out _)).mono ?_
    rintro e w2 ⟨rfl, hw2⟩
    have cw2_0_0 : w2.cell? ⟨W.heap.size, 0, none⟩ = some (.int .i64 ax) := cell_gr hw2 (by go_simp)
    have cw2_0_1 : w2.cell? ⟨W.heap.size, 1, none⟩ = some (.int .i64 ay) := cell_gr hw2 (by go_simp)
    have zw2_0 : W.heap.size < w2.heap.size := World.block_lt_of_cell? _ _ cw2_0_0
    have cw2_1_0 : w2.cell? ⟨W.heap.size + 1, 0, none⟩ = some (.int .i64 bx) := cell_gr hw2 (by go_simp)
    have cw2_1_1 : w2.cell? ⟨W.heap.size + 1, 1, none⟩ = some (.int .i64 by') := cell_gr hw2 (by go_simp)
    have zw2_1 : W.heap.size + 1 < w2.heap.size := World.block_lt_of_cell? _ _ cw2_1_0
    have cw2_2_0 : w2.cell? ⟨W.heap.size + 1 + 1, 0, none⟩ = some (.int .i64 px) := cell_gr hw2 (by go_simp)
    have cw2_2_1 : w2.cell? ⟨W.heap.size + 1 + 1, 1, none⟩ = some (.int .i64 py) := cell_gr hw2 (by go_simp)
    have zw2_2 : W.heap.size + 1 + 1 < w2.heap.size := World.block_lt_of_cell? _ _ cw2_2_0
    have cw2_3_0 : w2.cell? ⟨w1.heap.size, 0, none⟩ = some (.int .u64 0) := cell_gr hw2 (by go_simp)
    have cw2_3_1 : w2.cell? ⟨w1.heap.size, 1, none⟩ = some (.int .u64 0) := cell_gr hw2 (by go_simp)
    have cw2_3_2 : w2.cell? ⟨w1.heap.size, 2, none⟩ = some (.int .u64 0) := cell_gr hw2 (by go_simp)
    have zw2_3 : w1.heap.size < w2.heap.size := World.block_lt_of_cell? _ _ cw2_3_0
    have gw2 : Gr W w2 := Gr.trans (by have gg := gw1; have gs := gg.size; go_grown) hw2
    clear hw2 gw1 zw1_0 cw1_0_0 cw1_0_1 zw1_1 cw1_1_0 cw1_1_1 zw1_2 cw1_2_0 cw1_2_1
    go_wp2_with fail
    go_at_call 14
    refine ((H3.out _)).mono ?_
    rintro e w3 ⟨rfl, hw3⟩
    have cw3_0_0 : w3.cell? ⟨W.heap.size, 0, none⟩ = some (.int .i64 ax) := cell_gr hw3 (by go_simp)
    have cw3_0_1 : w3.cell? ⟨W.heap.size, 1, none⟩ = some (.int .i64 ay) := cell_gr hw3 (by go_simp)
    have zw3_0 : W.heap.size < w3.heap.size := World.block_lt_of_cell? _ _ cw3_0_0
    have cw3_1_0 : w3.cell? ⟨W.heap.size + 1, 0, none⟩ = some (.int .i64 bx) := cell_gr hw3 (by go_simp)
    have cw3_1_1 : w3.cell? ⟨W.heap.size + 1, 1, none⟩ = some (.int .i64 by') := cell_gr hw3 (by go_simp)
    have zw3_1 : W.heap.size + 1 < w3.heap.size := World.block_lt_of_cell? _ _ cw3_1_0
    have cw3_2_0 : w3.cell? ⟨W.heap.size + 1 + 1, 0, none⟩ = some (.int .i64 px) := cell_gr hw3 (by go_simp)
    have cw3_2_1 : w3.cell? ⟨W.heap.size + 1 + 1, 1, none⟩ = some (.int .i64 py) := cell_gr hw3 (by go_simp)
    have zw3_2 : W.heap.size + 1 + 1 < w3.heap.size := World.block_lt_of_cell? _ _ cw3_2_0
    have cw3_3_0 : w3.cell? ⟨w1.heap.size, 0, none⟩ = some (.int .u64 0) := cell_gr hw3 (by go_simp)
    have cw3_3_1 : w3.cell? ⟨w1.heap.size, 1, none⟩ = some (.int .u64 0) := cell_gr hw3 (by go_simp)
    have cw3_3_2 : w3.cell? ⟨w1.heap.size, 2, none⟩ = some (.int .u64 0) := cell_gr hw3 (by go_simp)
    have zw3_3 : w1.heap.size < w3.heap.size := World.block_lt_of_cell? _ _ cw3_3_0
    have gw3 : Gr W w3 := Gr.trans (by have gg := gw2; have gs := gg.size; go_grown) hw3
    clear hw3 gw2 zw2_0 cw2_0_0 cw2_0_1 zw2_1 cw2_1_0 cw2_1_1 zw2_2 cw2_2_0 cw2_2_1 zw2_3 cw2_3_0 cw2_3_1 cw2_3_2
    go_wp2_with fail
    go_at_call 32
    refine ((s4_awake _)).mono ?_
    rintro e w6 ⟨rfl, hw6⟩
    have cw6_0_0 : w6.cell? ⟨W.heap.size, 0, none⟩ = some (.int .i64 ax) := cell_gr hw6 (by go_simp)
    have cw6_0_1 : w6.cell? ⟨W.heap.size, 1, none⟩ = some (.int .i64 ay) := cell_gr hw6 (by go_simp)
    have zw6_0 : W.heap.size < w6.heap.size := World.block_lt_of_cell? _ _ cw6_0_0
    have cw6_1_0 : w6.cell? ⟨W.heap.size + 1, 0, none⟩ = some (.int .i64 bx) := cell_gr hw6 (by go_simp)
    have cw6_1_1 : w6.cell? ⟨W.heap.size + 1, 1, none⟩ = some (.int .i64 by') := cell_gr hw6 (by go_simp)
    have zw6_1 : W.heap.size + 1 < w6.heap.size := World.block_lt_of_cell? _ _ cw6_1_0
    have cw6_2_0 : w6.cell? ⟨W.heap.size + 1 + 1, 0, none⟩ = some (.int .i64 px) := cell_gr hw6 (by go_simp)
    have cw6_2_1 : w6.cell? ⟨W.heap.size + 1 + 1, 1, none⟩ = some (.int .i64 py) := cell_gr hw6 (by go_simp)
    have zw6_2 : W.heap.size + 1 + 1 < w6.heap.size := World.block_lt_of_cell? _ _ cw6_2_0
    have cw6_3_0 : w6.cell? ⟨w1.heap.size, 0, none⟩ = some (.int .u64 0) := cell_gr hw6 (by go_simp)
    have cw6_3_1 : w6.cell? ⟨w1.heap.size, 1, none⟩ = some (.int .u64 0) := cell_gr hw6 (by go_simp)
    have cw6_3_2 : w6.cell? ⟨w1.heap.size, 2, none⟩ = some (.int .u64 0) := cell_gr hw6 (by go_simp)
    have zw6_3 : w1.heap.size < w6.heap.size := World.block_lt_of_cell? _ _ cw6_3_0
    have gw6 : Gr W w6 := Gr.trans (by have gg := gw3; have gs := gg.size; go_grown) hw6
    clear hw6 gw3 zw3_0 cw3_0_0 cw3_0_1 zw3_1 cw3_1_0 cw3_1_1 zw3_2 cw3_2_0 cw3_2_1 zw3_3 cw3_3_0 cw3_3_1 cw3_3_2
    go_wp2_with fail
    go_ret
    exact ⟨rfl, by go_grown⟩
  · go_enter Try.func6, Try.ntmps6
    go_wp2_with fail
    go_at_call 30
    refine ((H1.out _)).mono ?_
    rintro e w1 ⟨rfl, hw1⟩
    have cw1_0_0 : w1.cell? ⟨W.heap.size, 0, none⟩ = some (.int .i64 ax) := cell_gr hw1 (by go_simp)
    have cw1_0_1 : w1.cell? ⟨W.heap.size, 1, none⟩ = some (.int .i64 ay) := cell_gr hw1 (by go_simp)
    have zw1_0 : W.heap.size < w1.heap.size := World.block_lt_of_cell? _ _ cw1_0_0
    have cw1_1_0 : w1.cell? ⟨W.heap.size + 1, 0, none⟩ = some (.int .i64 bx) := cell_gr hw1 (by go_simp)
    have cw1_1_1 : w1.cell? ⟨W.heap.size + 1, 1, none⟩ = some (.int .i64 by') := cell_gr hw1 (by go_simp)
    have zw1_1 : W.heap.size + 1 < w1.heap.size := World.block_lt_of_cell? _ _ cw1_1_0
    have cw1_2_0 : w1.cell? ⟨W.heap.size + 1 + 1, 0, none⟩ = some (.int .i64 px) := cell_gr hw1 (by go_simp)
    have cw1_2_1 : w1.cell? ⟨W.heap.size + 1 + 1, 1, none⟩ = some (.int .i64 py) := cell_gr hw1 (by go_simp)
    have zw1_2 : W.heap.size + 1 + 1 < w1.heap.size := World.block_lt_of_cell? _ _ cw1_2_0
    have gw1 : Gr W w1 := Gr.trans (by go_grown) hw1
    clear hw1
    go_wp2_with fail
    go_at_call 22
    refine ((H2.out _)).mono ?_
    rintro e w2 ⟨rfl, hw2⟩
    have cw2_0_0 : w2.cell? ⟨W.heap.size, 0, none⟩ = some (.int .i64 ax) := cell_gr hw2 (by go_simp)
    have cw2_0_1 : w2.cell? ⟨W.heap.size, 1, none⟩ = some (.int .i64 ay) := cell_gr hw2 (by go_simp)
    have zw2_0 : W.heap.size < w2.heap.size := World.block_lt_of_cell? _ _ cw2_0_0
    have cw2_1_0 : w2.cell? ⟨W.heap.size + 1, 0, none⟩ = some (.int .i64 bx) := cell_gr hw2 (by go_simp)
    have cw2_1_1 : w2.cell? ⟨W.heap.size + 1, 1, none⟩ = some (.int .i64 by') := cell_gr hw2 (by go_simp)
    have zw2_1 : W.heap.size + 1 < w2.heap.size := World.block_lt_of_cell? _ _ cw2_1_0
    have cw2_2_0 : w2.cell? ⟨W.heap.size + 1 + 1, 0, none⟩ = some (.int .i64 px) := cell_gr hw2 (by go_simp)
    have cw2_2_1 : w2.cell? ⟨W.heap.size + 1 + 1, 1, none⟩ = some (.int .i64 py) := cell_gr hw2 (by go_simp)
    have zw2_2 : W.heap.size + 1 + 1 < w2.heap.size := World.block_lt_of_cell? _ _ cw2_2_0
    have cw2_3_0 : w2.cell? ⟨w1.heap.size, 0, none⟩ = some (.int .u64 0) := cell_gr hw2 (by go_simp)
    have cw2_3_1 : w2.cell? ⟨w1.heap.size, 1, none⟩ = some (.int .u64 0) := cell_gr hw2 (by go_simp)
    have cw2_3_2 : w2.cell? ⟨w1.heap.size, 2, none⟩ = some (.int .u64 0) := cell_gr hw2 (by go_simp)
    have zw2_3 : w1.heap.size < w2.heap.size := World.block_lt_of_cell? _ _ cw2_3_0
    have gw2 : Gr W w2 := Gr.trans (by have gg := gw1; have gs := gg.size; go_grown) hw2
    clear hw2 gw1 zw1_0 cw1_0_0 cw1_0_1 zw1_1 cw1_1_0 cw1_1_1 zw1_2 cw1_2_0 cw1_2_1
    go_wp2_with fail
    go_at_call 14
    refine ((H3.out _)).mono ?_
    rintro e w3 ⟨rfl, hw3⟩
    have cw3_0_0 : w3.cell? ⟨W.heap.size, 0, none⟩ = some (.int .i64 ax) := cell_gr hw3 (by go_simp)
    have cw3_0_1 : w3.cell? ⟨W.heap.size, 1, none⟩ = some (.int .i64 ay) := cell_gr hw3 (by go_simp)
    have zw3_0 : W.heap.size < w3.heap.size := World.block_lt_of_cell? _ _ cw3_0_0
    have cw3_1_0 : w3.cell? ⟨W.heap.size + 1, 0, none⟩ = some (.int .i64 bx) := cell_gr hw3 (by go_simp)
    have cw3_1_1 : w3.cell? ⟨W.heap.size + 1, 1, none⟩ = some (.int .i64 by') := cell_gr hw3 (by go_simp)
    have zw3_1 : W.heap.size + 1 < w3.heap.size := World.block_lt_of_cell? _ _ cw3_1_0
    have cw3_2_0 : w3.cell? ⟨W.heap.size + 1 + 1, 0, none⟩ = some (.int .i64 px) := cell_gr hw3 (by go_simp)
    have cw3_2_1 : w3.cell? ⟨W.heap.size + 1 + 1, 1, none⟩ = some (.int .i64 py) := cell_gr hw3 (by go_simp)
    have zw3_2 : W.heap.size + 1 + 1 < w3.heap.size := World.block_lt_of_cell? _ _ cw3_2_0
    have cw3_3_0 : w3.cell? ⟨w1.heap.size, 0, none⟩ = some (.int .u64 0) := cell_gr hw3 (by go_simp)
    have cw3_3_1 : w3.cell? ⟨w1.heap.size, 1, none⟩ = some (.int .u64 0) := cell_gr hw3 (by go_simp)
    have cw3_3_2 : w3.cell? ⟨w1.heap.size, 2, none⟩ = some (.int .u64 0) := cell_gr hw3 (by go_simp)
    have zw3_3 : w1.heap.size < w3.heap.size := World.block_lt_of_cell? _ _ cw3_3_0
    have gw3 : Gr W w3 := Gr.trans (by have gg := gw2; have gs := gg.size; go_grown) hw3
    clear hw3 gw2 zw2_0 cw2_0_0 cw2_0_1 zw2_1 cw2_1_0 cw2_1_1 zw2_2 cw2_2_0 cw2_2_1 zw2_3 cw2_3_0 cw2_3_1 cw2_3_2
    go_wp2_with fail
    go_at_call 14
    refine ((H4.out _)).mono ?_
    rintro e w4 ⟨rfl, hw4⟩
    have cw4_0_0 : w4.cell? ⟨W.heap.size, 0, none⟩ = some (.int .i64 ax) := cell_gr hw4 (by go_simp)
    have cw4_0_1 : w4.cell? ⟨W.heap.size, 1, none⟩ = some (.int .i64 ay) := cell_gr hw4 (by go_simp)
    have zw4_0 : W.heap.size < w4.heap.size := World.block_lt_of_cell? _ _ cw4_0_0
    have cw4_1_0 : w4.cell? ⟨W.heap.size + 1, 0, none⟩ = some (.int .i64 bx) := cell_gr hw4 (by go_simp)
    have cw4_1_1 : w4.cell? ⟨W.heap.size + 1, 1, none⟩ = some (.int .i64 by') := cell_gr hw4 (by go_simp)
    have zw4_1 : W.heap.size + 1 < w4.heap.size := World.block_lt_of_cell? _ _ cw4_1_0
    have cw4_2_0 : w4.cell? ⟨W.heap.size + 1 + 1, 0, none⟩ = some (.int .i64 px) := cell_gr hw4 (by go_simp)
    have cw4_2_1 : w4.cell? ⟨W.heap.size + 1 + 1, 1, none⟩ = some (.int .i64 py) := cell_gr hw4 (by go_simp)
    have zw4_2 : W.heap.size + 1 + 1 < w4.heap.size := World.block_lt_of_cell? _ _ cw4_2_0
    have cw4_3_0 : w4.cell? ⟨w1.heap.size, 0, none⟩ = some (.int .u64 0) := cell_gr hw4 (by go_simp)
    have cw4_3_1 : w4.cell? ⟨w1.heap.size, 1, none⟩ = some (.int .u64 0) := cell_gr hw4 (by go_simp)
    have cw4_3_2 : w4.cell? ⟨w1.heap.size, 2, none⟩ = some (.int .u64 0) := cell_gr hw4 (by go_simp)
    have zw4_3 : w1.heap.size < w4.heap.size := World.block_lt_of_cell? _ _ cw4_3_0
    have gw4 : Gr W w4 := Gr.trans (by have gg := gw3; have gs := gg.size; go_grown) hw4
    clear hw4 gw3 zw3_0 cw3_0_0 cw3_0_1 zw3_1 cw3_1_0 cw3_1_1 zw3_2 cw3_2_0 cw3_2_1 zw3_3 cw3_3_0 cw3_3_1 cw3_3_2
    go_wp2_with fail
    go_at_call 32
    refine ((s4_awake _)).mono ?_
    rintro e w6 ⟨rfl, hw6⟩
    have cw6_0_0 : w6.cell? ⟨W.heap.size, 0, none⟩ = some (.int .i64 ax) := cell_gr hw6 (by go_simp)
    have cw6_0_1 : w6.cell? ⟨W.heap.size, 1, none⟩ = some (.int .i64 ay) := cell_gr hw6 (by go_simp)
    have zw6_0 : W.heap.size < w6.heap.size := World.block_lt_of_cell? _ _ cw6_0_0
    have cw6_1_0 : w6.cell? ⟨W.heap.size + 1, 0, none⟩ = some (.int .i64 bx) := cell_gr hw6 (by go_simp)
    have cw6_1_1 : w6.cell? ⟨W.heap.size + 1, 1, none⟩ = some (.int .i64 by') := cell_gr hw6 (by go_simp)
    have zw6_1 : W.heap.size + 1 < w6.heap.size := World.block_lt_of_cell? _ _ cw6_1_0
    have cw6_2_0 : w6.cell? ⟨W.heap.size + 1 + 1, 0, none⟩ = some (.int .i64 px) := cell_gr hw6 (by go_simp)
    have cw6_2_1 : w6.cell? ⟨W.heap.size + 1 + 1, 1, none⟩ = some (.int .i64 py) := cell_gr hw6 (by go_simp)
    have zw6_2 : W.heap.size + 1 + 1 < w6.heap.size := World.block_lt_of_cell? _ _ cw6_2_0
    have cw6_3_0 : w6.cell? ⟨w1.heap.size, 0, none⟩ = some (.int .u64 0) := cell_gr hw6 (by go_simp)
    have cw6_3_1 : w6.cell? ⟨w1.heap.size, 1, none⟩ = some (.int .u64 0) := cell_gr hw6 (by go_simp)
    have cw6_3_2 : w6.cell? ⟨w1.heap.size, 2, none⟩ = some (.int .u64 0) := cell_gr hw6 (by go_simp)
    have zw6_3 : w1.heap.size < w6.heap.size := World.block_lt_of_cell? _ _ cw6_3_0
    have gw6 : Gr W w6 := Gr.trans (by have gg := gw4; have gs := gg.size; go_grown) hw6
    clear hw6 gw4 zw4_0 cw4_0_0 cw4_0_1 zw4_1 cw4_1_0 cw4_1_1 zw4_2 cw4_2_0 cw4_2_1 zw4_3 cw4_3_0 cw4_3_1 cw4_3_2
    go_wp2_with fail
    go_ret
    exact ⟨rfl, by go_grown⟩
  · go_enter Try.func6, Try.ntmps6
    go_wp2_with fail
    go_at_call 30
    refine ((H1.out _)).mono ?_
    rintro e w1 ⟨rfl, hw1⟩
    have cw1_0_0 : w1.cell? ⟨W.heap.size, 0, none⟩ = some (.int .i64 ax) := cell_gr hw1 (by go_simp)
    have cw1_0_1 : w1.cell? ⟨W.heap.size, 1, none⟩ = some (.int .i64 ay) := cell_gr hw1 (by go_simp)
    have zw1_0 : W.heap.size < w1.heap.size := World.block_lt_of_cell? _ _ cw1_0_0
    have cw1_1_0 : w1.cell? ⟨W.heap.size + 1, 0, none⟩ = some (.int .i64 bx) := cell_gr hw1 (by go_simp)
    have cw1_1_1 : w1.cell? ⟨W.heap.size + 1, 1, none⟩ = some (.int .i64 by') := cell_gr hw1 (by go_simp)
    have zw1_1 : W.heap.size + 1 < w1.heap.size := World.block_lt_of_cell? _ _ cw1_1_0
    have cw1_2_0 : w1.cell? ⟨W.heap.size + 1 + 1, 0, none⟩ = some (.int .i64 px) := cell_gr hw1 (by go_simp)
    have cw1_2_1 : w1.cell? ⟨W.heap.size + 1 + 1, 1, none⟩ = some (.int .i64 py) := cell_gr hw1 (by go_simp)
    have zw1_2 : W.heap.size + 1 + 1 < w1.heap.size := World.block_lt_of_cell? _ _ cw1_2_0
    have gw1 : Gr W w1 := Gr.trans (by go_grown) hw1
    clear hw1
    go_wp2_with fail
    go_at_call 22
    refine ((H2.out _)).mono ?_
    rintro e w2 ⟨rfl, hw2⟩
    have cw2_0_0 : w2.cell? ⟨W.heap.size, 0, none⟩ = some (.int .i64 ax) := cell_gr hw2 (by go_simp)
    have cw2_0_1 : w2.cell? ⟨W.heap.size, 1, none⟩ = some (.int .i64 ay) := cell_gr hw2 (by go_simp)
    have zw2_0 : W.heap.size < w2.heap.size := World.block_lt_of_cell? _ _ cw2_0_0
    have cw2_1_0 : w2.cell? ⟨W.heap.size + 1, 0, none⟩ = some (.int .i64 bx) := cell_gr hw2 (by go_simp)
    have cw2_1_1 : w2.cell? ⟨W.heap.size + 1, 1, none⟩ = some (.int .i64 by') := cell_gr hw2 (by go_simp)
    have zw2_1 : W.heap.size + 1 < w2.heap.size := World.block_lt_of_cell? _ _ cw2_1_0
    have cw2_2_0 : w2.cell? ⟨W.heap.size + 1 + 1, 0, none⟩ = some (.int .i64 px) := cell_gr hw2 (by go_simp)
    have cw2_2_1 : w2.cell? ⟨W.heap.size + 1 + 1, 1, none⟩ = some (.int .i64 py) := cell_gr hw2 (by go_simp)
    have zw2_2 : W.heap.size + 1 + 1 < w2.heap.size := World.block_lt_of_cell? _ _ cw2_2_0
    have cw2_3_0 : w2.cell? ⟨w1.heap.size, 0, none⟩ = some (.int .u64 0) := cell_gr hw2 (by go_simp)
    have cw2_3_1 : w2.cell? ⟨w1.heap.size, 1, none⟩ = some (.int .u64 0) := cell_gr hw2 (by go_simp)
    have cw2_3_2 : w2.cell? ⟨w1.heap.size, 2, none⟩ = some (.int .u64 0) := cell_gr hw2 (by go_simp)
    have zw2_3 : w1.heap.size < w2.heap.size := World.block_lt_of_cell? _ _ cw2_3_0
    have gw2 : Gr W w2 := Gr.trans (by have gg := gw1; have gs := gg.size; go_grown) hw2
    clear hw2 gw1 zw1_0 cw1_0_0 cw1_0_1 zw1_1 cw1_1_0 cw1_1_1 zw1_2 cw1_2_0 cw1_2_1
    go_wp2_with fail
    go_at_call 14
    refine ((H3.out _)).mono ?_
    rintro e w3 ⟨rfl, hw3⟩
    have cw3_0_0 : w3.cell? ⟨W.heap.size, 0, none⟩ = some (.int .i64 ax) := cell_gr hw3 (by go_simp)
    have cw3_0_1 : w3.cell? ⟨W.heap.size, 1, none⟩ = some (.int .i64 ay) := cell_gr hw3 (by go_simp)
    have zw3_0 : W.heap.size < w3.heap.size := World.block_lt_of_cell? _ _ cw3_0_0
    have cw3_1_0 : w3.cell? ⟨W.heap.size + 1, 0, none⟩ = some (.int .i64 bx) := cell_gr hw3 (by go_simp)
    have cw3_1_1 : w3.cell? ⟨W.heap.size + 1, 1, none⟩ = some (.int .i64 by') := cell_gr hw3 (by go_simp)
    have zw3_1 : W.heap.size + 1 < w3.heap.size := World.block_lt_of_cell? _ _ cw3_1_0
    have cw3_2_0 : w3.cell? ⟨W.heap.size + 1 + 1, 0, none⟩ = some (.int .i64 px) := cell_gr hw3 (by go_simp)
    have cw3_2_1 : w3.cell? ⟨W.heap.size + 1 + 1, 1, none⟩ = some (.int .i64 py) := cell_gr hw3 (by go_simp)
    have zw3_2 : W.heap.size + 1 + 1 < w3.heap.size := World.block_lt_of_cell? _ _ cw3_2_0
    have cw3_3_0 : w3.cell? ⟨w1.heap.size, 0, none⟩ = some (.int .u64 0) := cell_gr hw3 (by go_simp)
    have cw3_3_1 : w3.cell? ⟨w1.heap.size, 1, none⟩ = some (.int .u64 0) := cell_gr hw3 (by go_simp)
    have cw3_3_2 : w3.cell? ⟨w1.heap.size, 2, none⟩ = some (.int .u64 0) := cell_gr hw3 (by go_simp)
    have zw3_3 : w1.heap.size < w3.heap.size := World.block_lt_of_cell? _ _ cw3_3_0
    have gw3 : Gr W w3 := Gr.trans (by have gg := gw2; have gs := gg.size; go_grown) hw3
    clear hw3 gw2 zw2_0 cw2_0_0 cw2_0_1 zw2_1 cw2_1_0 cw2_1_1 zw2_2 cw2_2_0 cw2_2_1 zw2_3 cw2_3_0 cw2_3_1 cw2_3_2
    go_wp2_with fail
    go_at_call 14
    refine ((H4.out _)).mono ?_
    rintro e w4 ⟨rfl, hw4⟩
    have cw4_0_0 : w4.cell? ⟨W.heap.size, 0, none⟩ = some (.int .i64 ax) := cell_gr hw4 (by go_simp)
    have cw4_0_1 : w4.cell? ⟨W.heap.size, 1, none⟩ = some (.int .i64 ay) := cell_gr hw4 (by go_simp)
    have zw4_0 : W.heap.size < w4.heap.size := World.block_lt_of_cell? _ _ cw4_0_0
    have cw4_1_0 : w4.cell? ⟨W.heap.size + 1, 0, none⟩ = some (.int .i64 bx) := cell_gr hw4 (by go_simp)
    have cw4_1_1 : w4.cell? ⟨W.heap.size + 1, 1, none⟩ = some (.int .i64 by') := cell_gr hw4 (by go_simp)
    have zw4_1 : W.heap.size + 1 < w4.heap.size := World.block_lt_of_cell? _ _ cw4_1_0
    have cw4_2_0 : w4.cell? ⟨W.heap.size + 1 + 1, 0, none⟩ = some (.int .i64 px) := cell_gr hw4 (by go_simp)
    have cw4_2_1 : w4.cell? ⟨W.heap.size + 1 + 1, 1, none⟩ = some (.int .i64 py) := cell_gr hw4 (by go_simp)
    have zw4_2 : W.heap.size + 1 + 1 < w4.heap.size := World.block_lt_of_cell? _ _ cw4_2_0
    have cw4_3_0 : w4.cell? ⟨w1.heap.size, 0, none⟩ = some (.int .u64 0) := cell_gr hw4 (by go_simp)
    have cw4_3_1 : w4.cell? ⟨w1.heap.size, 1, none⟩ = some (.int .u64 0) := cell_gr hw4 (by go_simp)
    have cw4_3_2 : w4.cell? ⟨w1.heap.size, 2, none⟩ = some (.int .u64 0) := cell_gr hw4 (by go_simp)
    have zw4_3 : w1.heap.size < w4.heap.size := World.block_lt_of_cell? _ _ cw4_3_0
    have gw4 : Gr W w4 := Gr.trans (by have gg := gw3; have gs := gg.size; go_grown) hw4
    clear hw4 gw3 zw3_0 cw3_0_0 cw3_0_1 zw3_1 cw3_1_0 cw3_1_1 zw3_2 cw3_2_0 cw3_2_1 zw3_3 cw3_3_0 cw3_3_1 cw3_3_2
    go_wp2_with fail
    go_at_call 14
    refine ((H5.out _)).mono ?_
    rintro e w5 ⟨rfl, hw5⟩
    have cw5_0_0 : w5.cell? ⟨W.heap.size, 0, none⟩ = some (.int .i64 ax) := cell_gr hw5 (by go_simp)
    have cw5_0_1 : w5.cell? ⟨W.heap.size, 1, none⟩ = some (.int .i64 ay) := cell_gr hw5 (by go_simp)
    have zw5_0 : W.heap.size < w5.heap.size := World.block_lt_of_cell? _ _ cw5_0_0
    have cw5_1_0 : w5.cell? ⟨W.heap.size + 1, 0, none⟩ = some (.int .i64 bx) := cell_gr hw5 (by go_simp)
    have cw5_1_1 : w5.cell? ⟨W.heap.size + 1, 1, none⟩ = some (.int .i64 by') := cell_gr hw5 (by go_simp)
    have zw5_1 : W.heap.size + 1 < w5.heap.size := World.block_lt_of_cell? _ _ cw5_1_0
    have cw5_2_0 : w5.cell? ⟨W.heap.size + 1 + 1, 0, none⟩ = some (.int .i64 px) := cell_gr hw5 (by go_simp)
    have cw5_2_1 : w5.cell? ⟨W.heap.size + 1 + 1, 1, none⟩ = some (.int .i64 py) := cell_gr hw5 (by go_simp)
    have zw5_2 : W.heap.size + 1 + 1 < w5.heap.size := World.block_lt_of_cell? _ _ cw5_2_0
    have cw5_3_0 : w5.cell? ⟨w1.heap.size, 0, none⟩ = some (.int .u64 0) := cell_gr hw5 (by go_simp)
    have cw5_3_1 : w5.cell? ⟨w1.heap.size, 1, none⟩ = some (.int .u64 0) := cell_gr hw5 (by go_simp)
    have cw5_3_2 : w5.cell? ⟨w1.heap.size, 2, none⟩ = some (.int .u64 0) := cell_gr hw5 (by go_simp)
    have zw5_3 : w1.heap.size < w5.heap.size := World.block_lt_of_cell? _ _ cw5_3_0
    have gw5 : Gr W w5 := Gr.trans (by have gg := gw4; have gs := gg.size; go_grown) hw5
    clear hw5 gw4 zw4_0 cw4_0_0 cw4_0_1 zw4_1 cw4_1_0 cw4_1_1 zw4_2 cw4_2_0 cw4_2_1 zw4_3 cw4_3_0 cw4_3_1 cw4_3_2
    go_wp2_with fail
    go_at_call 32
    refine ((s4_awake _)).mono ?_
    rintro e w6 ⟨rfl, hw6⟩
    have cw6_0_0 : w6.cell? ⟨W.heap.size, 0, none⟩ = some (.int .i64 ax) := cell_gr hw6 (by go_simp)
    have cw6_0_1 : w6.cell? ⟨W.heap.size, 1, none⟩ = some (.int .i64 ay) := cell_gr hw6 (by go_simp)
    have zw6_0 : W.heap.size < w6.heap.size := World.block_lt_of_cell? _ _ cw6_0_0
    have cw6_1_0 : w6.cell? ⟨W.heap.size + 1, 0, none⟩ = some (.int .i64 bx) := cell_gr hw6 (by go_simp)
    have cw6_1_1 : w6.cell? ⟨W.heap.size + 1, 1, none⟩ = some (.int .i64 by') := cell_gr hw6 (by go_simp)
    have zw6_1 : W.heap.size + 1 < w6.heap.size := World.block_lt_of_cell? _ _ cw6_1_0
    have cw6_2_0 : w6.cell? ⟨W.heap.size + 1 + 1, 0, none⟩ = some (.int .i64 px) := cell_gr hw6 (by go_simp)
    have cw6_2_1 : w6.cell? ⟨W.heap.size + 1 + 1, 1, none⟩ = some (.int .i64 py) := cell_gr hw6 (by go_simp)
    have zw6_2 : W.heap.size + 1 + 1 < w6.heap.size := World.block_lt_of_cell? _ _ cw6_2_0
    have cw6_3_0 : w6.cell? ⟨w1.heap.size, 0, none⟩ = some (.int .u64 0) := cell_gr hw6 (by go_simp)
    have cw6_3_1 : w6.cell? ⟨w1.heap.size, 1, none⟩ = some (.int .u64 0) := cell_gr hw6 (by go_simp)
    have cw6_3_2 : w6.cell? ⟨w1.heap.size, 2, none⟩ = some (.int .u64 0) := cell_gr hw6 (by go_simp)
    have zw6_3 : w1.heap.size < w6.heap.size := World.block_lt_of_cell? _ _ cw6_3_0
    have gw6 : Gr W w6 := Gr.trans (by have gg := gw5; have gs := gg.size; go_grown) hw6
    clear hw6 gw5 zw5_0 cw5_0_0 cw5_0_1 zw5_1 cw5_1_0 cw5_1_1 zw5_2 cw5_2_0 cw5_2_1 zw5_3 cw5_3_0 cw5_3_1 cw5_3_2
    go_wp2_with fail
    go_ret
    exact ⟨rfl, by go_grown⟩
set_option maxHeartbeats 4000000 in
set_option maxRecDepth 100000 in
theorem near_yes (ax ay bx by' px py h l d s1 s2 k1 k2 : Int) (on : Bool) (W : World) (hk1 : decide (k1 ≤ 0) = true) (hk2 : decide (k2 ≤ 0) = true)
    (E1 : ∀ w, (binOp .eql 38 (.agg #[.int .u64 h, .int .u64 l, .int .u64 d]) (.agg #[.int .u64 0, .int .u64 0, .int .u64 1])).run Try.prog w = .ok (.bool on) w)
    (A1 : ∀ w, Calls Try.prog 30 #[.agg #[.int .i64 ax, .int .i64 ay], .agg #[.int .i64 bx, .int .i64 by'], .agg #[.int .i64 px, .int .i64 py]] w fun e w' => e = .returned (.agg #[.int .u64 h, .int .u64 l, .int .u64 d]) ∧ Gr w w')
    (A2 : ∀ w, Calls Try.prog 22 #[.agg #[.int .i64 ax, .int .i64 ay], .agg #[.int .i64 bx, .int .i64 by'], .agg #[.int .i64 px, .int .i64 py]] w fun e w' => e = .returned (.bool on) ∧ Gr w w')
    (A3 : ∀ w, Calls Try.prog 14 #[.agg #[.int .i64 ax, .int .i64 ay]] w fun e w' => e = .returned (.bool true) ∧ Gr w w')
    (A4 : ∀ w, Calls Try.prog 14 #[.agg #[.int .i64 bx, .int .i64 by']] w fun e w' => e = .returned (.bool true) ∧ Gr w w')
    (A5 : ∀ w, Calls Try.prog 14 #[.agg #[.int .i64 px, .int .i64 py]] w fun e w' => e = .returned (.bool true) ∧ Gr w w')
    (A6 : ∀ w, Calls Try.prog 24 #[.agg #[.int .i64 ax, .int .i64 ay], .agg #[.int .i64 bx, .int .i64 by'], .agg #[.int .i64 px, .int .i64 py], .agg #[.int .i64 px, .int .i64 py]] w fun e w' => e = .returned (.bool on) ∧ Gr w w')
    (A7 : ∀ w, Calls Try.prog 33 #[.agg #[.int .i64 ax, .int .i64 ay], .agg #[.int .i64 px, .int .i64 py]] w fun e w' => e = .returned (.agg #[.int .u64 0, .int .u64 s1, .int .u64 1]) ∧ Gr w w')
    (A8 : ∀ w, Calls Try.prog 33 #[.agg #[.int .i64 bx, .int .i64 by'], .agg #[.int .i64 px, .int .i64 py]] w fun e w' => e = .returned (.agg #[.int .u64 0, .int .u64 s2, .int .u64 1]) ∧ Gr w w')
    (A9 : ∀ w, Calls Try.prog 20 #[.agg #[.int .u64 h, .int .u64 l, .int .u64 d], .agg #[.int .u64 0, .int .u64 s1, .int .u64 1]] w fun e w' => e = .returned (.int .i64 k1) ∧ Gr w w')
    (A0 : ∀ w, Calls Try.prog 20 #[.agg #[.int .u64 h, .int .u64 l, .int .u64 d], .agg #[.int .u64 0, .int .u64 s2, .int .u64 1]] w fun e w' => e = .returned (.int .i64 k2) ∧ Gr w w')
    (B1 : ∀ w, Calls Try.prog 22 #[.agg #[.int .i64 ax, .int .i64 ay], .agg #[.int .i64 bx, .int .i64 by'], .agg #[.int .i64 ax, .int .i64 ay]] w fun e w' => e = .returned (.bool true) ∧ Gr w w')
    (B2 : ∀ w, Calls Try.prog 22 #[.agg #[.int .i64 ax, .int .i64 ay], .agg #[.int .i64 bx, .int .i64 by'], .agg #[.int .i64 bx, .int .i64 by']] w fun e w' => e = .returned (.bool true) ∧ Gr w w')
    (B3 : ∀ w, Calls Try.prog 30 #[.agg #[.int .i64 ax, .int .i64 ay], .agg #[.int .i64 ax, .int .i64 ay], .agg #[.int .i64 px, .int .i64 py]] w fun e w' => e = .returned (.agg #[.int .u64 0, .int .u64 s1, .int .u64 1]) ∧ Gr w w') :
    Calls Try.prog 6 #[.agg #[.int .i64 ax, .int .i64 ay], .agg #[.int .i64 bx, .int .i64 by'], .agg #[.int .i64 px, .int .i64 py]] W fun e w' => e = .returned (.bool true) ∧ Gr W w' := by
  have H1 := Lib.hid A1
  have H2 := Lib.hid A2
  have H3 := Lib.hid A3
  have H4 := Lib.hid A4
  have H5 := Lib.hid A5
  have H6 := Lib.hid A6
  have H7 := Lib.hid A7
  have H8 := Lib.hid A8
  have H9 := Lib.hid A9
  have H0 := Lib.hid A0
  clear A1 A2 A3 A4 A5 A6 A7 A8 A9 A0
  have HB1 := Lib.hid B1
  have HB2 := Lib.hid B2
  have HB3 := Lib.hid B3
  clear B1 B2 B3
  cases on
  all_goals
    go_enter Try.func6, Try.ntmps6
    go_wp2_with fail
    go_at_call 30
    refine ((H1.out _)).mono ?_
    rintro e w1 ⟨rfl, hw1⟩
    have cw1_0_0 : w1.cell? ⟨W.heap.size, 0, none⟩ = some (.int .i64 ax) := cell_gr hw1 (by go_simp)
    have cw1_0_1 : w1.cell? ⟨W.heap.size, 1, none⟩ = some (.int .i64 ay) := cell_gr hw1 (by go_simp)
    have zw1_0 : W.heap.size < w1.heap.size := World.block_lt_of_cell? _ _ cw1_0_0
    have cw1_1_0 : w1.cell? ⟨W.heap.size + 1, 0, none⟩ = some (.int .i64 bx) := cell_gr hw1 (by go_simp)
    have cw1_1_1 : w1.cell? ⟨W.heap.size + 1, 1, none⟩ = some (.int .i64 by') := cell_gr hw1 (by go_simp)
    have zw1_1 : W.heap.size + 1 < w1.heap.size := World.block_lt_of_cell? _ _ cw1_1_0
    have cw1_2_0 : w1.cell? ⟨W.heap.size + 1 + 1, 0, none⟩ = some (.int .i64 px) := cell_gr hw1 (by go_simp)
    have cw1_2_1 : w1.cell? ⟨W.heap.size + 1 + 1, 1, none⟩ = some (.int .i64 py) := cell_gr hw1 (by go_simp)
    have zw1_2 : W.heap.size + 1 + 1 < w1.heap.size := World.block_lt_of_cell? _ _ cw1_2_0
    have gw1 : Gr W w1 := Gr.trans (by go_grown) hw1
    clear hw1
    go_wp2_with fail
    go_at_call 22
    refine ((H2.out _)).mono ?_
    rintro e w2 ⟨rfl, hw2⟩
    have cw2_0_0 : w2.cell? ⟨W.heap.size, 0, none⟩ = some (.int .i64 ax) := cell_gr hw2 (by go_simp)
    have cw2_0_1 : w2.cell? ⟨W.heap.size, 1, none⟩ = some (.int .i64 ay) := cell_gr hw2 (by go_simp)
    have zw2_0 : W.heap.size < w2.heap.size := World.block_lt_of_cell? _ _ cw2_0_0
    have cw2_1_0 : w2.cell? ⟨W.heap.size + 1, 0, none⟩ = some (.int .i64 bx) := cell_gr hw2 (by go_simp)
    have cw2_1_1 : w2.cell? ⟨W.heap.size + 1, 1, none⟩ = some (.int .i64 by') := cell_gr hw2 (by go_simp)
    have zw2_1 : W.heap.size + 1 < w2.heap.size := World.block_lt_of_cell? _ _ cw2_1_0
    have cw2_2_0 : w2.cell? ⟨W.heap.size + 1 + 1, 0, none⟩ = some (.int .i64 px) := cell_gr hw2 (by go_simp)
    have cw2_2_1 : w2.cell? ⟨W.heap.size + 1 + 1, 1, none⟩ = some (.int .i64 py) := cell_gr hw2 (by go_simp)
    have zw2_2 : W.heap.size + 1 + 1 < w2.heap.size := World.block_lt_of_cell? _ _ cw2_2_0
    have cw2_3_0 : w2.cell? ⟨w1.heap.size, 0, none⟩ = some (.int .u64 h) := cell_gr hw2 (by go_simp)
    have cw2_3_1 : w2.cell? ⟨w1.heap.size, 1, none⟩ = some (.int .u64 l) := cell_gr hw2 (by go_simp)
    have cw2_3_2 : w2.cell? ⟨w1.heap.size, 2, none⟩ = some (.int .u64 d) := cell_gr hw2 (by go_simp)
    have zw2_3 : w1.heap.size < w2.heap.size := World.block_lt_of_cell? _ _ cw2_3_0
    have gw2 : Gr W w2 := Gr.trans (by have gg := gw1; have gs := gg.size; go_grown) hw2
    clear hw2 gw1 zw1_0 cw1_0_0 cw1_0_1 zw1_1 cw1_1_0 cw1_1_1 zw1_2 cw1_2_0 cw1_2_1
    go_wp2_with fail
    go_at_call 14
    refine ((H3.out _)).mono ?_
    rintro e w3 ⟨rfl, hw3⟩
    have cw3_0_0 : w3.cell? ⟨W.heap.size, 0, none⟩ = some (.int .i64 ax) := cell_gr hw3 (by go_simp)
    have cw3_0_1 : w3.cell? ⟨W.heap.size, 1, none⟩ = some (.int .i64 ay) := cell_gr hw3 (by go_simp)
    have zw3_0 : W.heap.size < w3.heap.size := World.block_lt_of_cell? _ _ cw3_0_0
    have cw3_1_0 : w3.cell? ⟨W.heap.size + 1, 0, none⟩ = some (.int .i64 bx) := cell_gr hw3 (by go_simp)
    have cw3_1_1 : w3.cell? ⟨W.heap.size + 1, 1, none⟩ = some (.int .i64 by') := cell_gr hw3 (by go_simp)
    have zw3_1 : W.heap.size + 1 < w3.heap.size := World.block_lt_of_cell? _ _ cw3_1_0
    have cw3_2_0 : w3.cell? ⟨W.heap.size + 1 + 1, 0, none⟩ = some (.int .i64 px) := cell_gr hw3 (by go_simp)
    have cw3_2_1 : w3.cell? ⟨W.heap.size + 1 + 1, 1, none⟩ = some (.int .i64 py) := cell_gr hw3 (by go_simp)
    have zw3_2 : W.heap.size + 1 + 1 < w3.heap.size := World.block_lt_of_cell? _ _ cw3_2_0
    have cw3_3_0 : w3.cell? ⟨w1.heap.size, 0, none⟩ = some (.int .u64 h) := cell_gr hw3 (by go_simp)
    have cw3_3_1 : w3.cell? ⟨w1.heap.size, 1, none⟩ = some (.int .u64 l) := cell_gr hw3 (by go_simp)
    have cw3_3_2 : w3.cell? ⟨w1.heap.size, 2, none⟩ = some (.int .u64 d) := cell_gr hw3 (by go_simp)
    have zw3_3 : w1.heap.size < w3.heap.size := World.block_lt_of_cell? _ _ cw3_3_0
    have gw3 : Gr W w3 := Gr.trans (by have gg := gw2; have gs := gg.size; go_grown) hw3
    clear hw3 gw2 zw2_0 cw2_0_0 cw2_0_1 zw2_1 cw2_1_0 cw2_1_1 zw2_2 cw2_2_0 cw2_2_1 zw2_3 cw2_3_0 cw2_3_1 cw2_3_2
    go_wp2_with fail
    go_at_call 14
    refine ((H4.out _)).mono ?_
    rintro e w4 ⟨rfl, hw4⟩
    have cw4_0_0 : w4.cell? ⟨W.heap.size, 0, none⟩ = some (.int .i64 ax) := cell_gr hw4 (by go_simp)
    have cw4_0_1 : w4.cell? ⟨W.heap.size, 1, none⟩ = some (.int .i64 ay) := cell_gr hw4 (by go_simp)
    have zw4_0 : W.heap.size < w4.heap.size := World.block_lt_of_cell? _ _ cw4_0_0
    have cw4_1_0 : w4.cell? ⟨W.heap.size + 1, 0, none⟩ = some (.int .i64 bx) := cell_gr hw4 (by go_simp)
    have cw4_1_1 : w4.cell? ⟨W.heap.size + 1, 1, none⟩ = some (.int .i64 by') := cell_gr hw4 (by go_simp)
    have zw4_1 : W.heap.size + 1 < w4.heap.size := World.block_lt_of_cell? _ _ cw4_1_0
    have cw4_2_0 : w4.cell? ⟨W.heap.size + 1 + 1, 0, none⟩ = some (.int .i64 px) := cell_gr hw4 (by go_simp)
    have cw4_2_1 : w4.cell? ⟨W.heap.size + 1 + 1, 1, none⟩ = some (.int .i64 py) := cell_gr hw4 (by go_simp)
    have zw4_2 : W.heap.size + 1 + 1 < w4.heap.size := World.block_lt_of_cell? _ _ cw4_2_0
    have cw4_3_0 : w4.cell? ⟨w1.heap.size, 0, none⟩ = some (.int .u64 h) := cell_gr hw4 (by go_simp)
    have cw4_3_1 : w4.cell? ⟨w1.heap.size, 1, none⟩ = some (.int .u64 l) := cell_gr hw4 (by go_simp)
    have cw4_3_2 : w4.cell? ⟨w1.heap.size, 2, none⟩ = some (.int .u64 d) := cell_gr hw4 (by go_simp)
    have zw4_3 : w1.heap.size < w4.heap.size := World.block_lt_of_cell? _ _ cw4_3_0
    have gw4 : Gr W w4 := Gr.trans (by have gg := gw3; have gs := gg.size; go_grown) hw4
    clear hw4 gw3 zw3_0 cw3_0_0 cw3_0_1 zw3_1 cw3_1_0 cw3_1_1 zw3_2 cw3_2_0 cw3_2_1 zw3_3 cw3_3_0 cw3_3_1 cw3_3_2
    go_wp2_with fail
    go_at_call 14
    refine ((H5.out _)).mono ?_
    rintro e w5 ⟨rfl, hw5⟩
    have cw5_0_0 : w5.cell? ⟨W.heap.size, 0, none⟩ = some (.int .i64 ax) := cell_gr hw5 (by go_simp)
    have cw5_0_1 : w5.cell? ⟨W.heap.size, 1, none⟩ = some (.int .i64 ay) := cell_gr hw5 (by go_simp)
    have zw5_0 : W.heap.size < w5.heap.size := World.block_lt_of_cell? _ _ cw5_0_0
    have cw5_1_0 : w5.cell? ⟨W.heap.size + 1, 0, none⟩ = some (.int .i64 bx) := cell_gr hw5 (by go_simp)
    have cw5_1_1 : w5.cell? ⟨W.heap.size + 1, 1, none⟩ = some (.int .i64 by') := cell_gr hw5 (by go_simp)
    have zw5_1 : W.heap.size + 1 < w5.heap.size := World.block_lt_of_cell? _ _ cw5_1_0
    have cw5_2_0 : w5.cell? ⟨W.heap.size + 1 + 1, 0, none⟩ = some (.int .i64 px) := cell_gr hw5 (by go_simp)
    have cw5_2_1 : w5.cell? ⟨W.heap.size + 1 + 1, 1, none⟩ = some (.int .i64 py) := cell_gr hw5 (by go_simp)
    have zw5_2 : W.heap.size + 1 + 1 < w5.heap.size := World.block_lt_of_cell? _ _ cw5_2_0
    have cw5_3_0 : w5.cell? ⟨w1.heap.size, 0, none⟩ = some (.int .u64 h) := cell_gr hw5 (by go_simp)
    have cw5_3_1 : w5.cell? ⟨w1.heap.size, 1, none⟩ = some (.int .u64 l) := cell_gr hw5 (by go_simp)
    have cw5_3_2 : w5.cell? ⟨w1.heap.size, 2, none⟩ = some (.int .u64 d) := cell_gr hw5 (by go_simp)
    have zw5_3 : w1.heap.size < w5.heap.size := World.block_lt_of_cell? _ _ cw5_3_0
    have gw5 : Gr W w5 := Gr.trans (by have gg := gw4; have gs := gg.size; go_grown) hw5
    clear hw5 gw4 zw4_0 cw4_0_0 cw4_0_1 zw4_1 cw4_1_0 cw4_1_1 zw4_2 cw4_2_0 cw4_2_1 zw4_3 cw4_3_0 cw4_3_1 cw4_3_2
    go_wp2_with fail
    refine wp_region_spread (by kernel_rfl) (by kernel_rfl) ?_
    try simp only [List.append]
    repeat (first | go_big_quiet_skip | (go_big_quiet_want; go_big_quiet_op; (first | go_big_quiet_on | (apply Exists.intro; refine ⟨fun _ => ?_, ?_⟩; (· (first | (go_at_call 24; first | ((with_reducible refine ((H6.out _)).mono ?_); rintro e w' ⟨rfl, hg⟩; exact ⟨rfl, spread_gr hg⟩)) | (go_at_call 33; first | ((with_reducible refine ((H7.out _)).mono ?_); rintro e w' ⟨rfl, hg⟩; exact ⟨rfl, spread_gr hg⟩) | ((with_reducible refine ((H8.out _)).mono ?_); rintro e w' ⟨rfl, hg⟩; exact ⟨rfl, spread_gr hg⟩)) | (go_at_call 20; first | ((with_reducible refine ((H9.out _)).mono ?_); rintro e w' ⟨rfl, hg⟩; exact ⟨rfl, spread_gr hg⟩) | ((with_reducible refine ((H0.out _)).mono ?_); rintro e w' ⟨rfl, hg⟩; exact ⟨rfl, spread_gr hg⟩)) | (go_at_call 22; first | ((with_reducible refine ((HB1.out _)).mono ?_); rintro e w' ⟨rfl, hg⟩; exact ⟨rfl, spread_gr hg⟩) | ((with_reducible refine ((HB2.out _)).mono ?_); rintro e w' ⟨rfl, hg⟩; exact ⟨rfl, spread_gr hg⟩)) | (go_at_call 30; first | ((with_reducible refine ((HB3.out _)).mono ?_); rintro e w' ⟨rfl, hg⟩; exact ⟨rfl, spread_gr hg⟩)) | (go_at_call 32; first | ((with_reducible refine ((s4_awake _)).mono ?_); rintro e w' ⟨rfl, hg⟩; exact ⟨rfl, spread_gr hg⟩)))); go_big_quiet_on))))
    refine wpQuiet_nil ?_
    intro wr hr
    obtain ⟨mr, rfl⟩ := hr
    go_wp2_with fail
    go_ret
    exact ⟨rfl, Gr.trans (by have gg := gw5; have gs := gg.size; go_grown) (gr_spread _ _)⟩
theorem eqDist1 (h l d : Nat) (w : World) : (binOp .eql 38 (.agg #[.int .u64 h, .int .u64 l, .int .u64 d]) (.agg #[.int .u64 0, .int .u64 0, .int .u64 1])).run Try.prog w = .ok (.bool (decide (h = 0 ∧ l = 0 ∧ d = 1))) w := by
  by_cases h1 : h = 0
  · subst h1
    by_cases h2 : l = 0
    · subst h2
      by_cases h3 : d = 1
      · subst h3
        simp [go_sem]
      · have e : ((d : Int) == 1) = false := by simp; omega
        simp [go_sem, h3, e]
    · have e : ((l : Int) == 0) = false := by simp; omega
      simp [go_sem, h2, e]
  · have e : ((h : Int) == 0) = false := by simp; omega
    simp [go_sem, h1, e]
theorem cmp_le0 {a b : Nat} (h : a ≤ b) : decide (cmpN a b ≤ 0) = true := by
  rcases Nat.lt_or_eq_of_le h with g | g
  · rw [cmpN_lt g]; rfl
  · rw [cmpN_eq g]; rfl
theorem sdN_bound {ax ay bx by' px py : Int} (h : (nearB ax ay && nearB bx by' && nearB px py) = true) : sdN ax ay bx by' px py < 340282366920938463463374607431768211456 ∧ sdD ax ay bx by' px py < 18446744073709551616 ∧ 0 < sdD ax ay bx by' px py := by
  have hn : (nearB ax ay = true ∧ nearB bx by' = true) ∧ nearB px py = true := by simpa using h
  have b0 := sqZ_bound hn.1.1 hn.1.2
  have b1 := sqZ_bound hn.1.1 hn.2
  have b2 := sqZ_bound hn.1.2 hn.2
  obtain ⟨-, cb⟩ := cr_bound h
  have cc : (cr ax ay bx by' px py).natAbs * (cr ax ay bx by' px py).natAbs ≤ 9223372019674906632 * 9223372019674906632 := Nat.mul_le_mul (by omega) (by omega)
  unfold sdN sdD
  by_cases h1 : alZ ax ay bx by' px py ≤ 0
  · rw [if_pos h1, if_pos h1]; omega
  · rw [if_neg h1, if_neg h1]
    by_cases h2 : sqZ ax ay bx by' ≤ alZ ax ay bx by' px py
    · rw [if_pos h2, if_pos h2]; omega
    · rw [if_neg h2, if_neg h2]
      have hd : 0 < (sqZ ax ay bx by').toNat := by omega
      have e1 : lowN ((cr ax ay bx by' px py).natAbs * (cr ax ay bx by' px py).natAbs) (sqZ ax ay bx by').toNat ≤ (cr ax ay bx by' px py).natAbs * (cr ax ay bx by' px py).natAbs := Nat.div_le_self _ _
      have e2 : lowD ((cr ax ay bx by' px py).natAbs * (cr ax ay bx by' px py).natAbs) (sqZ ax ay bx by').toNat ≤ (sqZ ax ay bx by').toNat := Nat.div_le_self _ _
      have e3 := (mid_parts ((cr ax ay bx by' px py).natAbs * (cr ax ay bx by' px py).natAbs) _ hd).2.2.2
      omega
theorem val_back (n : Nat) : val (n / 18446744073709551616) (n % 18446744073709551616) = n := by unfold val; omega
theorem walk_SegmNear (ax ay bx by' px py : Int) (h1 : (-9223372036854775808 ≤ ax ∧ ax ≤ 9223372036854775807) ∧ (-9223372036854775808 ≤ ay ∧ ay ≤ 9223372036854775807)) (h2 : (-9223372036854775808 ≤ bx ∧ bx ≤ 9223372036854775807) ∧ (-9223372036854775808 ≤ by' ∧ by' ≤ 9223372036854775807)) (h3 : (-9223372036854775808 ≤ px ∧ px ≤ 9223372036854775807) ∧ (-9223372036854775808 ≤ py ∧ py ≤ 9223372036854775807)) (W : World) :
    Calls Try.prog 6 #[.agg #[.int .i64 ax, .int .i64 ay], .agg #[.int .i64 bx, .int .i64 by'], .agg #[.int .i64 px, .int .i64 py]] W fun e w' => e = .returned (.bool true) ∧ Gr W w' := by
  clear h1 h2 h3
  have Q1 := c_rPoint ax ay
  have Q2 := c_rPoint bx by'
  have Q3 := c_rPoint px py
  have O := c_gOn ax ay bx by' px py
  cases hq : (nearB ax ay && nearB bx by' && nearB px py)
  · have e : onG ax ay bx by' px py = false := by unfold onG; rw [hq]; rfl
    rw [e] at O
    refine near_no ax ay bx by' px py _ _ _ W ?_ (c_gDist_no ax ay bx by' px py hq) O Q1 Q2 Q3
    cases g1 : nearB ax ay <;> cases g2 : nearB bx by' <;> cases g3 : nearB px py <;> simp_all
  · have hn : (nearB ax ay = true ∧ nearB bx by' = true) ∧ nearB px py = true := by simpa using hq
    obtain ⟨⟨n1, n2⟩, n3⟩ := hn
    have e : onG ax ay bx by' px py = onF ax ay bx by' px py := by unfold onG; rw [hq]; rfl
    rw [e] at O
    rw [n1] at Q1
    rw [n2] at Q2
    rw [n3] at Q3
    have D := c_gDist ax ay bx by' px py hq
    have M := c_gMeet ax ay bx by' px py px py
    rw [show meG ax ay bx by' px py px py = onF ax ay bx by' px py by unfold meG all4; rw [n1, n2, n3, meF_point]; rfl] at M
    obtain ⟨s1, hs1⟩ : ∃ s : Nat, (s : Int) = sqZ ax ay px py := ⟨_, Int.toNat_of_nonneg (sq_nn _ _ _ _)⟩
    obtain ⟨s2, hs2⟩ : ∃ s : Nat, (s : Int) = sqZ bx by' px py := ⟨_, Int.toNat_of_nonneg (sq_nn _ _ _ _)⟩
    have S1 := c_rSq ax ay px py n1 n3 s1 hs1
    have S2 := c_rSq bx by' px py n2 n3 s2 hs2
    have t1 : (sqZ ax ay px py).toNat = s1 := by omega
    have t2 : (sqZ bx by' px py).toNat = s2 := by omega
    have l1 := sd_le ax ay bx by' px py
    have l2 := sd_le2 ax ay bx by' px py
    rw [t1] at l1
    rw [t2] at l2
    have bd := sdN_bound hq
    have c1 := sqZ_bound n1 n3
    have c2 := sqZ_bound n2 n3
    have K1 := c_rCompareDist (sdN ax ay bx by' px py / 18446744073709551616) (sdN ax ay bx by' px py % 18446744073709551616) (sdD ax ay bx by' px py) 0 s1 1 (by unfold Wd; omega) (by unfold Wd; omega) (by unfold Wd; omega) (by unfold Wd; omega) (by unfold Wd; omega) (by unfold Wd; omega)
    have K2 := c_rCompareDist (sdN ax ay bx by' px py / 18446744073709551616) (sdN ax ay bx by' px py % 18446744073709551616) (sdD ax ay bx by' px py) 0 s2 1 (by unfold Wd; omega) (by unfold Wd; omega) (by unfold Wd; omega) (by unfold Wd; omega) (by unfold Wd; omega) (by unfold Wd; omega)
    rw [val_back] at K1 K2
    have v1 : val 0 s1 = s1 := by unfold val; omega
    have v2 : val 0 s2 = s2 := by unfold val; omega
    rw [v1] at K1
    rw [v2] at K2
    unfold cmpD at K1 K2
    rw [if_neg (by omega), if_neg (by omega), Nat.mul_one] at K1 K2
    have sO := on_self ax ay bx by'
    have B1 := c_gOn ax ay bx by' ax ay
    have B2 := c_gOn ax ay bx by' bx by'
    rw [show onG ax ay bx by' ax ay = true by unfold onG; rw [n1, n2, sO.1]; rfl] at B1
    rw [show onG ax ay bx by' bx by' = true by unfold onG; rw [n1, n2, sO.2]; rfl] at B2
    have B3 := c_gDist ax ay ax ay px py (by rw [n1, n3]; rfl)
    unfold dsH dsL at B3
    rw [(sd_same ax ay px py).1, (sd_same ax ay px py).2, t1] at B3
    rw [show s1 / 18446744073709551616 = 0 by omega, show s1 % 18446744073709551616 = s1 by omega] at B3
    have E1 := eqDist1 (sdN ax ay bx by' px py / 18446744073709551616) (sdN ax ay bx by' px py % 18446744073709551616) (sdD ax ay bx by' px py)
    have ez : decide (sdN ax ay bx by' px py / 18446744073709551616 = 0 ∧ sdN ax ay bx by' px py % 18446744073709551616 = 0 ∧ sdD ax ay bx by' px py = 1) = onF ax ay bx by' px py := by
      rw [Bool.eq_iff_iff, decide_eq_true_eq, ← sd_zero]
      omega
    rw [ez] at E1
    exact near_yes ax ay bx by' px py _ _ _ s1 s2 _ _ _ W (cmp_le0 l1) (cmp_le0 l2) E1 D O Q1 Q2 Q3 M S1 S2 K1 K2 B1 B2 B3
end Go.Proofs.Ythjhhnolkiejpaa
