/- SegmBoxes -/
import Derived.Test.YthjhhnolkiejpaaZp
namespace Go.Proofs.Ythjhhnolkiejpaa
set_option linter.unusedVariables false
open Go.ChangeShapes Go.WideShapes Go.ChangeAt Go.RowKit

set_option maxHeartbeats 4000000 in
set_option maxRecDepth 100000 in
theorem boxes_no (ax ay bx by' lx ly hx hy k : Int) (q1 q2 : Bool) (W : World) (hc : ((k != 0) = true) ∨ (k = 0 ∧ q1 = false) ∨ (k = 0 ∧ q1 = true ∧ q2 = false))
    (A1 : ∀ w, Calls Try.prog 28 #[.agg #[.int .i64 ax, .int .i64 ay], .agg #[.int .i64 bx, .int .i64 by'], .agg #[.int .i64 lx, .int .i64 ly, .int .i64 hx, .int .i64 hy]] w fun e w' => e = .returned (.bool false) ∧ Gr w w')
    (A2 : ∀ w, Calls Try.prog 34 #[.agg #[.int .i64 lx, .int .i64 ly, .int .i64 hx, .int .i64 hy]] w fun e w' => e = .returned (.int .i64 k) ∧ Gr w w')
    (A3 : ∀ w, Calls Try.prog 14 #[.agg #[.int .i64 ax, .int .i64 ay]] w fun e w' => e = .returned (.bool q1) ∧ Gr w w')
    (A4 : ∀ w, Calls Try.prog 14 #[.agg #[.int .i64 bx, .int .i64 by']] w fun e w' => e = .returned (.bool q2) ∧ Gr w w') :
    Calls Try.prog 7 #[.agg #[.int .i64 ax, .int .i64 ay], .agg #[.int .i64 bx, .int .i64 by'], .agg #[.int .i64 lx, .int .i64 ly, .int .i64 hx, .int .i64 hy]] W fun e w' => e = .returned (.bool true) ∧ Gr W w' := by
  have H1 := Lib.hid A1
  have H2 := Lib.hid A2
  have H3 := Lib.hid A3
  have H4 := Lib.hid A4
  clear A1 A2 A3 A4
  rcases hc with hk | ⟨rfl, rfl⟩ | ⟨rfl, rfl, rfl⟩
  · go_enter Try.func7, Try.ntmps7
    go_wp2_with fail
    go_at_call 28
    refine ((H1.out _)).mono ?_
    rintro e w1 ⟨rfl, hw1⟩
    have cw1_0_0 : w1.cell? ⟨W.heap.size, 0, none⟩ = some (.int .i64 ax) := cell_gr hw1 (by go_simp)
    have cw1_0_1 : w1.cell? ⟨W.heap.size, 1, none⟩ = some (.int .i64 ay) := cell_gr hw1 (by go_simp)
    have zw1_0 : W.heap.size < w1.heap.size := World.block_lt_of_cell? _ _ cw1_0_0
    have cw1_1_0 : w1.cell? ⟨W.heap.size + 1, 0, none⟩ = some (.int .i64 bx) := cell_gr hw1 (by go_simp)
    have cw1_1_1 : w1.cell? ⟨W.heap.size + 1, 1, none⟩ = some (.int .i64 by') := cell_gr hw1 (by go_simp)
    have zw1_1 : W.heap.size + 1 < w1.heap.size := World.block_lt_of_cell? _ _ cw1_1_0
    have cw1_2_0 : w1.cell? ⟨W.heap.size + 1 + 1, 0, none⟩ = some (.int .i64 lx) := cell_gr hw1 (by go_simp)
    have cw1_2_1 : w1.cell? ⟨W.heap.size + 1 + 1, 1, none⟩ = some (.int .i64 ly) := cell_gr hw1 (by go_simp)
    have cw1_2_2 : w1.cell? ⟨W.heap.size + 1 + 1, 2, none⟩ = some (.int .i64 hx) := cell_gr hw1 (by go_simp)
    have cw1_2_3 : w1.cell? ⟨W.heap.size + 1 + 1, 3, none⟩ = some (.int .i64 hy) := cell_gr hw1 (by go_simp)
    have zw1_2 : W.heap.size + 1 + 1 < w1.heap.size := World.block_lt_of_cell? _ _ cw1_2_0
    have gw1 : Gr W w1 := Gr.trans (by go_grown) hw1
    clear hw1
    go_wp2_with fail
    go_at_call 34
    refine ((H2.out _)).mono ?_
    rintro e w2 ⟨rfl, hw2⟩
    have cw2_0_0 : w2.cell? ⟨W.heap.size, 0, none⟩ = some (.int .i64 ax) := cell_gr hw2 (by go_simp)
    have cw2_0_1 : w2.cell? ⟨W.heap.size, 1, none⟩ = some (.int .i64 ay) := cell_gr hw2 (by go_simp)
    have zw2_0 : W.heap.size < w2.heap.size := World.block_lt_of_cell? _ _ cw2_0_0
    have cw2_1_0 : w2.cell? ⟨W.heap.size + 1, 0, none⟩ = some (.int .i64 bx) := cell_gr hw2 (by go_simp)
    have cw2_1_1 : w2.cell? ⟨W.heap.size + 1, 1, none⟩ = some (.int .i64 by') := cell_gr hw2 (by go_simp)
    have zw2_1 : W.heap.size + 1 < w2.heap.size := World.block_lt_of_cell? _ _ cw2_1_0
    have cw2_2_0 : w2.cell? ⟨W.heap.size + 1 + 1, 0, none⟩ = some (.int .i64 lx) := cell_gr hw2 (by go_simp)
    have cw2_2_1 : w2.cell? ⟨W.heap.size + 1 + 1, 1, none⟩ = some (.int .i64 ly) := cell_gr hw2 (by go_simp)
    have cw2_2_2 : w2.cell? ⟨W.heap.size + 1 + 1, 2, none⟩ = some (.int .i64 hx) := cell_gr hw2 (by go_simp)
    have cw2_2_3 : w2.cell? ⟨W.heap.size + 1 + 1, 3, none⟩ = some (.int .i64 hy) := cell_gr hw2 (by go_simp)
    have zw2_2 : W.heap.size + 1 + 1 < w2.heap.size := World.block_lt_of_cell? _ _ cw2_2_0
    have gw2 : Gr W w2 := Gr.trans (by have gg := gw1; have gs := gg.size; go_grown) hw2
    clear hw2 gw1 zw1_0 cw1_0_0 cw1_0_1 zw1_1 cw1_1_0 cw1_1_1 zw1_2 cw1_2_0 cw1_2_1 cw1_2_2 cw1_2_3
    go_wp2_with fail
    go_at_call 32
    refine ((s4_awake _)).mono ?_
    rintro e w9 ⟨rfl, hw9⟩
    have cw9_0_0 : w9.cell? ⟨W.heap.size, 0, none⟩ = some (.int .i64 ax) := cell_gr hw9 (by go_simp)
    have cw9_0_1 : w9.cell? ⟨W.heap.size, 1, none⟩ = some (.int .i64 ay) := cell_gr hw9 (by go_simp)
    have zw9_0 : W.heap.size < w9.heap.size := World.block_lt_of_cell? _ _ cw9_0_0
    have cw9_1_0 : w9.cell? ⟨W.heap.size + 1, 0, none⟩ = some (.int .i64 bx) := cell_gr hw9 (by go_simp)
    have cw9_1_1 : w9.cell? ⟨W.heap.size + 1, 1, none⟩ = some (.int .i64 by') := cell_gr hw9 (by go_simp)
    have zw9_1 : W.heap.size + 1 < w9.heap.size := World.block_lt_of_cell? _ _ cw9_1_0
    have cw9_2_0 : w9.cell? ⟨W.heap.size + 1 + 1, 0, none⟩ = some (.int .i64 lx) := cell_gr hw9 (by go_simp)
    have cw9_2_1 : w9.cell? ⟨W.heap.size + 1 + 1, 1, none⟩ = some (.int .i64 ly) := cell_gr hw9 (by go_simp)
    have cw9_2_2 : w9.cell? ⟨W.heap.size + 1 + 1, 2, none⟩ = some (.int .i64 hx) := cell_gr hw9 (by go_simp)
    have cw9_2_3 : w9.cell? ⟨W.heap.size + 1 + 1, 3, none⟩ = some (.int .i64 hy) := cell_gr hw9 (by go_simp)
    have zw9_2 : W.heap.size + 1 + 1 < w9.heap.size := World.block_lt_of_cell? _ _ cw9_2_0
    have gw9 : Gr W w9 := Gr.trans (by have gg := gw2; have gs := gg.size; go_grown) hw9
    clear hw9 gw2 zw2_0 cw2_0_0 cw2_0_1 zw2_1 cw2_1_0 cw2_1_1 zw2_2 cw2_2_0 cw2_2_1 cw2_2_2 cw2_2_3
    go_wp2_with fail
    go_ret
    exact ⟨rfl, by go_grown⟩
  · go_enter Try.func7, Try.ntmps7
    go_wp2_with fail
    go_at_call 28
    refine ((H1.out _)).mono ?_
    rintro e w1 ⟨rfl, hw1⟩
    have cw1_0_0 : w1.cell? ⟨W.heap.size, 0, none⟩ = some (.int .i64 ax) := cell_gr hw1 (by go_simp)
    have cw1_0_1 : w1.cell? ⟨W.heap.size, 1, none⟩ = some (.int .i64 ay) := cell_gr hw1 (by go_simp)
    have zw1_0 : W.heap.size < w1.heap.size := World.block_lt_of_cell? _ _ cw1_0_0
    have cw1_1_0 : w1.cell? ⟨W.heap.size + 1, 0, none⟩ = some (.int .i64 bx) := cell_gr hw1 (by go_simp)
    have cw1_1_1 : w1.cell? ⟨W.heap.size + 1, 1, none⟩ = some (.int .i64 by') := cell_gr hw1 (by go_simp)
    have zw1_1 : W.heap.size + 1 < w1.heap.size := World.block_lt_of_cell? _ _ cw1_1_0
    have cw1_2_0 : w1.cell? ⟨W.heap.size + 1 + 1, 0, none⟩ = some (.int .i64 lx) := cell_gr hw1 (by go_simp)
    have cw1_2_1 : w1.cell? ⟨W.heap.size + 1 + 1, 1, none⟩ = some (.int .i64 ly) := cell_gr hw1 (by go_simp)
    have cw1_2_2 : w1.cell? ⟨W.heap.size + 1 + 1, 2, none⟩ = some (.int .i64 hx) := cell_gr hw1 (by go_simp)
    have cw1_2_3 : w1.cell? ⟨W.heap.size + 1 + 1, 3, none⟩ = some (.int .i64 hy) := cell_gr hw1 (by go_simp)
    have zw1_2 : W.heap.size + 1 + 1 < w1.heap.size := World.block_lt_of_cell? _ _ cw1_2_0
    have gw1 : Gr W w1 := Gr.trans (by go_grown) hw1
    clear hw1
    go_wp2_with fail
    go_at_call 34
    refine ((H2.out _)).mono ?_
    rintro e w2 ⟨rfl, hw2⟩
    have cw2_0_0 : w2.cell? ⟨W.heap.size, 0, none⟩ = some (.int .i64 ax) := cell_gr hw2 (by go_simp)
    have cw2_0_1 : w2.cell? ⟨W.heap.size, 1, none⟩ = some (.int .i64 ay) := cell_gr hw2 (by go_simp)
    have zw2_0 : W.heap.size < w2.heap.size := World.block_lt_of_cell? _ _ cw2_0_0
    have cw2_1_0 : w2.cell? ⟨W.heap.size + 1, 0, none⟩ = some (.int .i64 bx) := cell_gr hw2 (by go_simp)
    have cw2_1_1 : w2.cell? ⟨W.heap.size + 1, 1, none⟩ = some (.int .i64 by') := cell_gr hw2 (by go_simp)
    have zw2_1 : W.heap.size + 1 < w2.heap.size := World.block_lt_of_cell? _ _ cw2_1_0
    have cw2_2_0 : w2.cell? ⟨W.heap.size + 1 + 1, 0, none⟩ = some (.int .i64 lx) := cell_gr hw2 (by go_simp)
    have cw2_2_1 : w2.cell? ⟨W.heap.size + 1 + 1, 1, none⟩ = some (.int .i64 ly) := cell_gr hw2 (by go_simp)
    have cw2_2_2 : w2.cell? ⟨W.heap.size + 1 + 1, 2, none⟩ = some (.int .i64 hx) := cell_gr hw2 (by go_simp)
    have cw2_2_3 : w2.cell? ⟨W.heap.size + 1 + 1, 3, none⟩ = some (.int .i64 hy) := cell_gr hw2 (by go_simp)
    have zw2_2 : W.heap.size + 1 + 1 < w2.heap.size := World.block_lt_of_cell? _ _ cw2_2_0
    have gw2 : Gr W w2 := Gr.trans (by have gg := gw1; have gs := gg.size; go_grown) hw2
    clear hw2 gw1 zw1_0 cw1_0_0 cw1_0_1 zw1_1 cw1_1_0 cw1_1_1 zw1_2 cw1_2_0 cw1_2_1 cw1_2_2 cw1_2_3
    go_wp2_with fail
    go_at_call 14
    refine ((H3.out _)).mono ?_
    rintro e w3 ⟨rfl, hw3⟩
    have cw3_0_0 : w3.cell? ⟨W.heap.size, 0, none⟩ = some (.int .i64 ax) := cell_gr hw3 (by go_simp)
    have cw3_0_1 : w3.cell? ⟨W.heap.size, 1, none⟩ = some (.int .i64 ay) := cell_gr hw3 (by go_simp)
    have zw3_0 : W.heap.size < w3.heap.size := World.block_lt_of_cell? _ _ cw3_0_0
    have cw3_1_0 : w3.cell? ⟨W.heap.size + 1, 0, none⟩ = some (.int .i64 bx) := cell_gr hw3 (by go_simp)
    have cw3_1_1 : w3.cell? ⟨W.heap.size + 1, 1, none⟩ = some (.int .i64 by') := cell_gr hw3 (by go_simp)
    have zw3_1 : W.heap.size + 1 < w3.heap.size := World.block_lt_of_cell? _ _ cw3_1_0
    have cw3_2_0 : w3.cell? ⟨W.heap.size + 1 + 1, 0, none⟩ = some (.int .i64 lx) := cell_gr hw3 (by go_simp)
    have cw3_2_1 : w3.cell? ⟨W.heap.size + 1 + 1, 1, none⟩ = some (.int .i64 ly) := cell_gr hw3 (by go_simp)
    have cw3_2_2 : w3.cell? ⟨W.heap.size + 1 + 1, 2, none⟩ = some (.int .i64 hx) := cell_gr hw3 (by go_simp)
    have cw3_2_3 : w3.cell? ⟨W.heap.size + 1 + 1, 3, none⟩ = some (.int .i64 hy) := cell_gr hw3 (by go_simp)
    have zw3_2 : W.heap.size + 1 + 1 < w3.heap.size := World.block_lt_of_cell? _ _ cw3_2_0
    have gw3 : Gr W w3 := Gr.trans (by have gg := gw2; have gs := gg.size; go_grown) hw3
    clear hw3 gw2 zw2_0 cw2_0_0 cw2_0_1 zw2_1 cw2_1_0 cw2_1_1 zw2_2 cw2_2_0 cw2_2_1 cw2_2_2 cw2_2_3
    go_wp2_with fail
    go_at_call 32
    refine ((s4_awake _)).mono ?_
    rintro e w9 ⟨rfl, hw9⟩
    have cw9_0_0 : w9.cell? ⟨W.heap.size, 0, none⟩ = some (.int .i64 ax) := cell_gr hw9 (by go_simp)
    have cw9_0_1 : w9.cell? ⟨W.heap.size, 1, none⟩ = some (.int .i64 ay) := cell_gr hw9 (by go_simp)
    have zw9_0 : W.heap.size < w9.heap.size := World.block_lt_of_cell? _ _ cw9_0_0
    have cw9_1_0 : w9.cell? ⟨W.heap.size + 1, 0, none⟩ = some (.int .i64 bx) := cell_gr hw9 (by go_simp)
    have cw9_1_1 : w9.cell? ⟨W.heap.size + 1, 1, none⟩ = some (.int .i64 by') := cell_gr hw9 (by go_simp)
    have zw9_1 : W.heap.size + 1 < w9.heap.size := World.block_lt_of_cell? _ _ cw9_1_0
    have cw9_2_0 : w9.cell? ⟨W.heap.size + 1 + 1, 0, none⟩ = some (.int .i64 lx) := cell_gr hw9 (by go_simp)
    have cw9_2_1 : w9.cell? ⟨W.heap.size + 1 + 1, 1, none⟩ = some (.int .i64 ly) := cell_gr hw9 (by go_simp)
    have cw9_2_2 : w9.cell? ⟨W.heap.size + 1 + 1, 2, none⟩ = some (.int .i64 hx) := cell_gr hw9 (by go_simp)
    have cw9_2_3 : w9.cell? ⟨W.heap.size + 1 + 1, 3, none⟩ = some (.int .i64 hy) := cell_gr hw9 (by go_simp)
    have zw9_2 : W.heap.size + 1 + 1 < w9.heap.size := World.block_lt_of_cell? _ _ cw9_2_0
    have gw9 : Gr W w9 := Gr.trans (by have gg := gw3; have gs := gg.size; go_grown) hw9
    clear hw9 gw3 zw3_0 cw3_0_0 cw3_0_1 zw3_1 cw3_1_0 cw3_1_1 zw3_2 cw3_2_0 cw3_2_1 cw3_2_2 cw3_2_3
    go_wp2_with fail
    go_ret
    exact ⟨rfl, by go_grown⟩
  · go_enter Try.func7, Try.ntmps7
    go_wp2_with fail
    go_at_call 28
    refine ((H1.out _)).mono ?_
    rintro e w1 ⟨rfl, hw1⟩
    have cw1_0_0 : w1.cell? ⟨W.heap.size, 0, none⟩ = some (.int .i64 ax) := cell_gr hw1 (by go_simp)
    have cw1_0_1 : w1.cell? ⟨W.heap.size, 1, none⟩ = some (.int .i64 ay) := cell_gr hw1 (by go_simp)
    have zw1_0 : W.heap.size < w1.heap.size := World.block_lt_of_cell? _ _ cw1_0_0
    have cw1_1_0 : w1.cell? ⟨W.heap.size + 1, 0, none⟩ = some (.int .i64 bx) := cell_gr hw1 (by go_simp)
    have cw1_1_1 : w1.cell? ⟨W.heap.size + 1, 1, none⟩ = some (.int .i64 by') := cell_gr hw1 (by go_simp)
    have zw1_1 : W.heap.size + 1 < w1.heap.size := World.block_lt_of_cell? _ _ cw1_1_0
    have cw1_2_0 : w1.cell? ⟨W.heap.size + 1 + 1, 0, none⟩ = some (.int .i64 lx) := cell_gr hw1 (by go_simp)
    have cw1_2_1 : w1.cell? ⟨W.heap.size + 1 + 1, 1, none⟩ = some (.int .i64 ly) := cell_gr hw1 (by go_simp)
    have cw1_2_2 : w1.cell? ⟨W.heap.size + 1 + 1, 2, none⟩ = some (.int .i64 hx) := cell_gr hw1 (by go_simp)
    have cw1_2_3 : w1.cell? ⟨W.heap.size + 1 + 1, 3, none⟩ = some (.int .i64 hy) := cell_gr hw1 (by go_simp)
    have zw1_2 : W.heap.size + 1 + 1 < w1.heap.size := World.block_lt_of_cell? _ _ cw1_2_0
    have gw1 : Gr W w1 := Gr.trans (by go_grown) hw1
    clear hw1
    go_wp2_with fail
    go_at_call 34
    refine ((H2.out _)).mono ?_
    rintro e w2 ⟨rfl, hw2⟩
    have cw2_0_0 : w2.cell? ⟨W.heap.size, 0, none⟩ = some (.int .i64 ax) := cell_gr hw2 (by go_simp)
    have cw2_0_1 : w2.cell? ⟨W.heap.size, 1, none⟩ = some (.int .i64 ay) := cell_gr hw2 (by go_simp)
    have zw2_0 : W.heap.size < w2.heap.size := World.block_lt_of_cell? _ _ cw2_0_0
    have cw2_1_0 : w2.cell? ⟨W.heap.size + 1, 0, none⟩ = some (.int .i64 bx) := cell_gr hw2 (by go_simp)
    have cw2_1_1 : w2.cell? ⟨W.heap.size + 1, 1, none⟩ = some (.int .i64 by') := cell_gr hw2 (by go_simp)
    have zw2_1 : W.heap.size + 1 < w2.heap.size := World.block_lt_of_cell? _ _ cw2_1_0
    have cw2_2_0 : w2.cell? ⟨W.heap.size + 1 + 1, 0, none⟩ = some (.int .i64 lx) := cell_gr hw2 (by go_simp)
    have cw2_2_1 : w2.cell? ⟨W.heap.size + 1 + 1, 1, none⟩ = some (.int .i64 ly) := cell_gr hw2 (by go_simp)
    have cw2_2_2 : w2.cell? ⟨W.heap.size + 1 + 1, 2, none⟩ = some (.int .i64 hx) := cell_gr hw2 (by go_simp)
    have cw2_2_3 : w2.cell? ⟨W.heap.size + 1 + 1, 3, none⟩ = some (.int .i64 hy) := cell_gr hw2 (by go_simp)
    have zw2_2 : W.heap.size + 1 + 1 < w2.heap.size := World.block_lt_of_cell? _ _ cw2_2_0
    have gw2 : Gr W w2 := Gr.trans (by have gg := gw1; have gs := gg.size; go_grown) hw2
    clear hw2 gw1 zw1_0 cw1_0_0 cw1_0_1 zw1_1 cw1_1_0 cw1_1_1 zw1_2 cw1_2_0 cw1_2_1 cw1_2_2 cw1_2_3
    go_wp2_with fail
    go_at_call 14
    refine ((H3.out _)).mono ?_
    rintro e w3 ⟨rfl, hw3⟩
    have cw3_0_0 : w3.cell? ⟨W.heap.size, 0, none⟩ = some (.int .i64 ax) := cell_gr hw3 (by go_simp)
    have cw3_0_1 : w3.cell? ⟨W.heap.size, 1, none⟩ = some (.int .i64 ay) := cell_gr hw3 (by go_simp)
    have zw3_0 : W.heap.size < w3.heap.size := World.block_lt_of_cell? _ _ cw3_0_0
    have cw3_1_0 : w3.cell? ⟨W.heap.size + 1, 0, none⟩ = some (.int .i64 bx) := cell_gr hw3 (by go_simp)
    have cw3_1_1 : w3.cell? ⟨W.heap.size + 1, 1, none⟩ = some (.int .i64 by') := cell_gr hw3 (by go_simp)
    have zw3_1 : W.heap.size + 1 < w3.heap.size := World.block_lt_of_cell? _ _ cw3_1_0
    have cw3_2_0 : w3.cell? ⟨W.heap.size + 1 + 1, 0, none⟩ = some (.int .i64 lx) := cell_gr hw3 (by go_simp)
    have cw3_2_1 : w3.cell? ⟨W.heap.size + 1 + 1, 1, none⟩ = some (.int .i64 ly) := cell_gr hw3 (by go_simp)
    have cw3_2_2 : w3.cell? ⟨W.heap.size + 1 + 1, 2, none⟩ = some (.int .i64 hx) := cell_gr hw3 (by go_simp)
    have cw3_2_3 : w3.cell? ⟨W.heap.size + 1 + 1, 3, none⟩ = some (.int .i64 hy) := cell_gr hw3 (by go_simp)
    have zw3_2 : W.heap.size + 1 + 1 < w3.heap.size := World.block_lt_of_cell? _ _ cw3_2_0
    have gw3 : Gr W w3 := Gr.trans (by have gg := gw2; have gs := gg.size; go_grown) hw3
    clear hw3 gw2 zw2_0 cw2_0_0 cw2_0_1 zw2_1 cw2_1_0 cw2_1_1 zw2_2 cw2_2_0 cw2_2_1 cw2_2_2 cw2_2_3
    go_wp2_with fail
    go_at_call 14
    refine ((H4.out _)).mono ?_
    rintro e w4 ⟨rfl, hw4⟩
    have cw4_0_0 : w4.cell? ⟨W.heap.size, 0, none⟩ = some (.int .i64 ax) := cell_gr hw4 (by go_simp)
    have cw4_0_1 : w4.cell? ⟨W.heap.size, 1, none⟩ = some (.int .i64 ay) := cell_gr hw4 (by go_simp)
    have zw4_0 : W.heap.size < w4.heap.size := World.block_lt_of_cell? _ _ cw4_0_0
    have cw4_1_0 : w4.cell? ⟨W.heap.size + 1, 0, none⟩ = some (.int .i64 bx) := cell_gr hw4 (by go_simp)
    have cw4_1_1 : w4.cell? ⟨W.heap.size + 1, 1, none⟩ = some (.int .i64 by') := cell_gr hw4 (by go_simp)
    have zw4_1 : W.heap.size + 1 < w4.heap.size := World.block_lt_of_cell? _ _ cw4_1_0
    have cw4_2_0 : w4.cell? ⟨W.heap.size + 1 + 1, 0, none⟩ = some (.int .i64 lx) := cell_gr hw4 (by go_simp)
    have cw4_2_1 : w4.cell? ⟨W.heap.size + 1 + 1, 1, none⟩ = some (.int .i64 ly) := cell_gr hw4 (by go_simp)
    have cw4_2_2 : w4.cell? ⟨W.heap.size + 1 + 1, 2, none⟩ = some (.int .i64 hx) := cell_gr hw4 (by go_simp)
    have cw4_2_3 : w4.cell? ⟨W.heap.size + 1 + 1, 3, none⟩ = some (.int .i64 hy) := cell_gr hw4 (by go_simp)
    have zw4_2 : W.heap.size + 1 + 1 < w4.heap.size := World.block_lt_of_cell? _ _ cw4_2_0
    have gw4 : Gr W w4 := Gr.trans (by have gg := gw3; have gs := gg.size; go_grown) hw4
    clear hw4 gw3 zw3_0 cw3_0_0 cw3_0_1 zw3_1 cw3_1_0 cw3_1_1 zw3_2 cw3_2_0 cw3_2_1 cw3_2_2 cw3_2_3
    go_wp2_with fail
    go_at_call 32
    refine ((s4_awake _)).mono ?_
    rintro e w9 ⟨rfl, hw9⟩
    have cw9_0_0 : w9.cell? ⟨W.heap.size, 0, none⟩ = some (.int .i64 ax) := cell_gr hw9 (by go_simp)
    have cw9_0_1 : w9.cell? ⟨W.heap.size, 1, none⟩ = some (.int .i64 ay) := cell_gr hw9 (by go_simp)
    have zw9_0 : W.heap.size < w9.heap.size := World.block_lt_of_cell? _ _ cw9_0_0
    have cw9_1_0 : w9.cell? ⟨W.heap.size + 1, 0, none⟩ = some (.int .i64 bx) := cell_gr hw9 (by go_simp)
    have cw9_1_1 : w9.cell? ⟨W.heap.size + 1, 1, none⟩ = some (.int .i64 by') := cell_gr hw9 (by go_simp)
    have zw9_1 : W.heap.size + 1 < w9.heap.size := World.block_lt_of_cell? _ _ cw9_1_0
    have cw9_2_0 : w9.cell? ⟨W.heap.size + 1 + 1, 0, none⟩ = some (.int .i64 lx) := cell_gr hw9 (by go_simp)
    have cw9_2_1 : w9.cell? ⟨W.heap.size + 1 + 1, 1, none⟩ = some (.int .i64 ly) := cell_gr hw9 (by go_simp)
    have cw9_2_2 : w9.cell? ⟨W.heap.size + 1 + 1, 2, none⟩ = some (.int .i64 hx) := cell_gr hw9 (by go_simp)
    have cw9_2_3 : w9.cell? ⟨W.heap.size + 1 + 1, 3, none⟩ = some (.int .i64 hy) := cell_gr hw9 (by go_simp)
    have zw9_2 : W.heap.size + 1 + 1 < w9.heap.size := World.block_lt_of_cell? _ _ cw9_2_0
    have gw9 : Gr W w9 := Gr.trans (by have gg := gw4; have gs := gg.size; go_grown) hw9
    clear hw9 gw4 zw4_0 cw4_0_0 cw4_0_1 zw4_1 cw4_1_0 cw4_1_1 zw4_2 cw4_2_0 cw4_2_1 cw4_2_2 cw4_2_3
    go_wp2_with fail
    go_ret
    exact ⟨rfl, by go_grown⟩
set_option maxHeartbeats 8000000 in
set_option maxRecDepth 100000 in
theorem boxes_h (ax ay bx by' lx ly hx hy : Int) (on : Bool) (W : World)
    (A1 : ∀ w, Calls Try.prog 28 #[.agg #[.int .i64 ax, .int .i64 ay], .agg #[.int .i64 bx, .int .i64 by'], .agg #[.int .i64 lx, .int .i64 ly, .int .i64 hx, .int .i64 hy]] w fun e w' => e = .returned (.bool true) ∧ Gr w w')
    (A2 : ∀ w, Calls Try.prog 34 #[.agg #[.int .i64 lx, .int .i64 ly, .int .i64 hx, .int .i64 hy]] w fun e w' => e = .returned (.int .i64 0) ∧ Gr w w')
    (A3 : ∀ w, Calls Try.prog 14 #[.agg #[.int .i64 ax, .int .i64 ay]] w fun e w' => e = .returned (.bool true) ∧ Gr w w')
    (A4 : ∀ w, Calls Try.prog 14 #[.agg #[.int .i64 bx, .int .i64 by']] w fun e w' => e = .returned (.bool true) ∧ Gr w w')
    (A5 : ∀ w, Calls Try.prog 35 #[.agg #[.int .i64 lx, .int .i64 ly, .int .i64 hx, .int .i64 hy], .agg #[.int .i64 ax, .int .i64 ay]] w fun e w' => e = .returned (.bool true) ∧ Gr w w')
    (A6 : ∀ w, Calls Try.prog 28 #[.agg #[.int .i64 bx, .int .i64 by'], .agg #[.int .i64 ax, .int .i64 ay], .agg #[.int .i64 lx, .int .i64 ly, .int .i64 hx, .int .i64 hy]] w fun e w' => e = .returned (.bool true) ∧ Gr w w')
    (A7 : ∀ w, Calls Try.prog 28 #[.agg #[.int .i64 ax, .int .i64 ay], .agg #[.int .i64 bx, .int .i64 by'], .agg #[.int .i64 lx, .int .i64 ly, .int .i64 lx, .int .i64 ly]] w fun e w' => e = .returned (.bool on) ∧ Gr w w')
    (A8 : ∀ w, Calls Try.prog 22 #[.agg #[.int .i64 ax, .int .i64 ay], .agg #[.int .i64 bx, .int .i64 by'], .agg #[.int .i64 lx, .int .i64 ly]] w fun e w' => e = .returned (.bool on) ∧ Gr w w') :
    Calls Try.prog 7 #[.agg #[.int .i64 ax, .int .i64 ay], .agg #[.int .i64 bx, .int .i64 by'], .agg #[.int .i64 lx, .int .i64 ly, .int .i64 hx, .int .i64 hy]] W fun e w' => e = .returned (.bool true) ∧ Gr W w' := by
  have H1 := Lib.hid A1
  have H2 := Lib.hid A2
  have H3 := Lib.hid A3
  have H4 := Lib.hid A4
  have H5 := Lib.hid A5
  have H6 := Lib.hid A6
  have H7 := Lib.hid A7
  have H8 := Lib.hid A8
  clear A1 A2 A3 A4 A5 A6 A7 A8
  cases on
  all_goals
    go_enter Try.func7, Try.ntmps7
    go_wp2_with fail
    go_at_call 28
    refine ((H1.out _)).mono ?_
    rintro e w1 ⟨rfl, hw1⟩
    have cw1_0_0 : w1.cell? ⟨W.heap.size, 0, none⟩ = some (.int .i64 ax) := cell_gr hw1 (by go_simp)
    have cw1_0_1 : w1.cell? ⟨W.heap.size, 1, none⟩ = some (.int .i64 ay) := cell_gr hw1 (by go_simp)
    have zw1_0 : W.heap.size < w1.heap.size := World.block_lt_of_cell? _ _ cw1_0_0
    have cw1_1_0 : w1.cell? ⟨W.heap.size + 1, 0, none⟩ = some (.int .i64 bx) := cell_gr hw1 (by go_simp)
    have cw1_1_1 : w1.cell? ⟨W.heap.size + 1, 1, none⟩ = some (.int .i64 by') := cell_gr hw1 (by go_simp)
    have zw1_1 : W.heap.size + 1 < w1.heap.size := World.block_lt_of_cell? _ _ cw1_1_0
    have cw1_2_0 : w1.cell? ⟨W.heap.size + 1 + 1, 0, none⟩ = some (.int .i64 lx) := cell_gr hw1 (by go_simp)
    have cw1_2_1 : w1.cell? ⟨W.heap.size + 1 + 1, 1, none⟩ = some (.int .i64 ly) := cell_gr hw1 (by go_simp)
    have cw1_2_2 : w1.cell? ⟨W.heap.size + 1 + 1, 2, none⟩ = some (.int .i64 hx) := cell_gr hw1 (by go_simp)
    have cw1_2_3 : w1.cell? ⟨W.heap.size + 1 + 1, 3, none⟩ = some (.int .i64 hy) := cell_gr hw1 (by go_simp)
    have zw1_2 : W.heap.size + 1 + 1 < w1.heap.size := World.block_lt_of_cell? _ _ cw1_2_0
    have gw1 : Gr W w1 := Gr.trans (by go_grown) hw1
    clear hw1
    go_wp2_with fail
    go_at_call 34
    refine ((H2.out _)).mono ?_
    rintro e w2 ⟨rfl, hw2⟩
    have cw2_0_0 : w2.cell? ⟨W.heap.size, 0, none⟩ = some (.int .i64 ax) := cell_gr hw2 (by go_simp)
    have cw2_0_1 : w2.cell? ⟨W.heap.size, 1, none⟩ = some (.int .i64 ay) := cell_gr hw2 (by go_simp)
    have zw2_0 : W.heap.size < w2.heap.size := World.block_lt_of_cell? _ _ cw2_0_0
    have cw2_1_0 : w2.cell? ⟨W.heap.size + 1, 0, none⟩ = some (.int .i64 bx) := cell_gr hw2 (by go_simp)
    have cw2_1_1 : w2.cell? ⟨W.heap.size + 1, 1, none⟩ = some (.int .i64 by') := cell_gr hw2 (by go_simp)
    have zw2_1 : W.heap.size + 1 < w2.heap.size := World.block_lt_of_cell? _ _ cw2_1_0
    have cw2_2_0 : w2.cell? ⟨W.heap.size + 1 + 1, 0, none⟩ = some (.int .i64 lx) := cell_gr hw2 (by go_simp)
    have cw2_2_1 : w2.cell? ⟨W.heap.size + 1 + 1, 1, none⟩ = some (.int .i64 ly) := cell_gr hw2 (by go_simp)
    have cw2_2_2 : w2.cell? ⟨W.heap.size + 1 + 1, 2, none⟩ = some (.int .i64 hx) := cell_gr hw2 (by go_simp)
    have cw2_2_3 : w2.cell? ⟨W.heap.size + 1 + 1, 3, none⟩ = some (.int .i64 hy) := cell_gr hw2 (by go_simp)
    have zw2_2 : W.heap.size + 1 + 1 < w2.heap.size := World.block_lt_of_cell? _ _ cw2_2_0
    have gw2 : Gr W w2 := Gr.trans (by have gg := gw1; have gs := gg.size; go_grown) hw2
    clear hw2 gw1 zw1_0 cw1_0_0 cw1_0_1 zw1_1 cw1_1_0 cw1_1_1 zw1_2 cw1_2_0 cw1_2_1 cw1_2_2 cw1_2_3
    go_wp2_with fail
    go_at_call 14
    refine ((H3.out _)).mono ?_
    rintro e w3 ⟨rfl, hw3⟩
    have cw3_0_0 : w3.cell? ⟨W.heap.size, 0, none⟩ = some (.int .i64 ax) := cell_gr hw3 (by go_simp)
    have cw3_0_1 : w3.cell? ⟨W.heap.size, 1, none⟩ = some (.int .i64 ay) := cell_gr hw3 (by go_simp)
    have zw3_0 : W.heap.size < w3.heap.size := World.block_lt_of_cell? _ _ cw3_0_0
    have cw3_1_0 : w3.cell? ⟨W.heap.size + 1, 0, none⟩ = some (.int .i64 bx) := cell_gr hw3 (by go_simp)
    have cw3_1_1 : w3.cell? ⟨W.heap.size + 1, 1, none⟩ = some (.int .i64 by') := cell_gr hw3 (by go_simp)
    have zw3_1 : W.heap.size + 1 < w3.heap.size := World.block_lt_of_cell? _ _ cw3_1_0
    have cw3_2_0 : w3.cell? ⟨W.heap.size + 1 + 1, 0, none⟩ = some (.int .i64 lx) := cell_gr hw3 (by go_simp)
    have cw3_2_1 : w3.cell? ⟨W.heap.size + 1 + 1, 1, none⟩ = some (.int .i64 ly) := cell_gr hw3 (by go_simp)
    have cw3_2_2 : w3.cell? ⟨W.heap.size + 1 + 1, 2, none⟩ = some (.int .i64 hx) := cell_gr hw3 (by go_simp)
    have cw3_2_3 : w3.cell? ⟨W.heap.size + 1 + 1, 3, none⟩ = some (.int .i64 hy) := cell_gr hw3 (by go_simp)
    have zw3_2 : W.heap.size + 1 + 1 < w3.heap.size := World.block_lt_of_cell? _ _ cw3_2_0
    have gw3 : Gr W w3 := Gr.trans (by have gg := gw2; have gs := gg.size; go_grown) hw3
    clear hw3 gw2 zw2_0 cw2_0_0 cw2_0_1 zw2_1 cw2_1_0 cw2_1_1 zw2_2 cw2_2_0 cw2_2_1 cw2_2_2 cw2_2_3
    go_wp2_with fail
    go_at_call 14
    refine ((H4.out _)).mono ?_
    rintro e w4 ⟨rfl, hw4⟩
    have cw4_0_0 : w4.cell? ⟨W.heap.size, 0, none⟩ = some (.int .i64 ax) := cell_gr hw4 (by go_simp)
    have cw4_0_1 : w4.cell? ⟨W.heap.size, 1, none⟩ = some (.int .i64 ay) := cell_gr hw4 (by go_simp)
    have zw4_0 : W.heap.size < w4.heap.size := World.block_lt_of_cell? _ _ cw4_0_0
    have cw4_1_0 : w4.cell? ⟨W.heap.size + 1, 0, none⟩ = some (.int .i64 bx) := cell_gr hw4 (by go_simp)
    have cw4_1_1 : w4.cell? ⟨W.heap.size + 1, 1, none⟩ = some (.int .i64 by') := cell_gr hw4 (by go_simp)
    have zw4_1 : W.heap.size + 1 < w4.heap.size := World.block_lt_of_cell? _ _ cw4_1_0
    have cw4_2_0 : w4.cell? ⟨W.heap.size + 1 + 1, 0, none⟩ = some (.int .i64 lx) := cell_gr hw4 (by go_simp)
    have cw4_2_1 : w4.cell? ⟨W.heap.size + 1 + 1, 1, none⟩ = some (.int .i64 ly) := cell_gr hw4 (by go_simp)
    have cw4_2_2 : w4.cell? ⟨W.heap.size + 1 + 1, 2, none⟩ = some (.int .i64 hx) := cell_gr hw4 (by go_simp)
    have cw4_2_3 : w4.cell? ⟨W.heap.size + 1 + 1, 3, none⟩ = some (.int .i64 hy) := cell_gr hw4 (by go_simp)
    have zw4_2 : W.heap.size + 1 + 1 < w4.heap.size := World.block_lt_of_cell? _ _ cw4_2_0
    have gw4 : Gr W w4 := Gr.trans (by have gg := gw3; have gs := gg.size; go_grown) hw4
    clear hw4 gw3 zw3_0 cw3_0_0 cw3_0_1 zw3_1 cw3_1_0 cw3_1_1 zw3_2 cw3_2_0 cw3_2_1 cw3_2_2 cw3_2_3
    go_wp2_with fail
    go_at_call 35
    refine ((H5.out _)).mono ?_
    rintro e w5 ⟨rfl, hw5⟩
    have cw5_0_0 : w5.cell? ⟨W.heap.size, 0, none⟩ = some (.int .i64 ax) := cell_gr hw5 (by go_simp)
    have cw5_0_1 : w5.cell? ⟨W.heap.size, 1, none⟩ = some (.int .i64 ay) := cell_gr hw5 (by go_simp)
    have zw5_0 : W.heap.size < w5.heap.size := World.block_lt_of_cell? _ _ cw5_0_0
    have cw5_1_0 : w5.cell? ⟨W.heap.size + 1, 0, none⟩ = some (.int .i64 bx) := cell_gr hw5 (by go_simp)
    have cw5_1_1 : w5.cell? ⟨W.heap.size + 1, 1, none⟩ = some (.int .i64 by') := cell_gr hw5 (by go_simp)
    have zw5_1 : W.heap.size + 1 < w5.heap.size := World.block_lt_of_cell? _ _ cw5_1_0
    have cw5_2_0 : w5.cell? ⟨W.heap.size + 1 + 1, 0, none⟩ = some (.int .i64 lx) := cell_gr hw5 (by go_simp)
    have cw5_2_1 : w5.cell? ⟨W.heap.size + 1 + 1, 1, none⟩ = some (.int .i64 ly) := cell_gr hw5 (by go_simp)
    have cw5_2_2 : w5.cell? ⟨W.heap.size + 1 + 1, 2, none⟩ = some (.int .i64 hx) := cell_gr hw5 (by go_simp)
    have cw5_2_3 : w5.cell? ⟨W.heap.size + 1 + 1, 3, none⟩ = some (.int .i64 hy) := cell_gr hw5 (by go_simp)
    have zw5_2 : W.heap.size + 1 + 1 < w5.heap.size := World.block_lt_of_cell? _ _ cw5_2_0
    have cw5_3_0 : w5.cell? ⟨w4.heap.size, 0, none⟩ = some (.int .i64 lx) := cell_gr hw5 (by go_simp)
    have cw5_3_1 : w5.cell? ⟨w4.heap.size, 1, none⟩ = some (.int .i64 ly) := cell_gr hw5 (by go_simp)
    have cw5_3_2 : w5.cell? ⟨w4.heap.size, 2, none⟩ = some (.int .i64 hx) := cell_gr hw5 (by go_simp)
    have cw5_3_3 : w5.cell? ⟨w4.heap.size, 3, none⟩ = some (.int .i64 ly) := cell_gr hw5 (by go_simp)
    have cw5_3_4 : w5.cell? ⟨w4.heap.size, 4, none⟩ = some (.int .i64 hx) := cell_gr hw5 (by go_simp)
    have cw5_3_5 : w5.cell? ⟨w4.heap.size, 5, none⟩ = some (.int .i64 hy) := cell_gr hw5 (by go_simp)
    have cw5_3_6 : w5.cell? ⟨w4.heap.size, 6, none⟩ = some (.int .i64 lx) := cell_gr hw5 (by go_simp)
    have cw5_3_7 : w5.cell? ⟨w4.heap.size, 7, none⟩ = some (.int .i64 hy) := cell_gr hw5 (by go_simp)
    have zw5_3 : w4.heap.size < w5.heap.size := World.block_lt_of_cell? _ _ cw5_3_0
    have gw5 : Gr W w5 := Gr.trans (by have gg := gw4; have gs := gg.size; go_grown) hw5
    clear hw5 gw4 zw4_0 cw4_0_0 cw4_0_1 zw4_1 cw4_1_0 cw4_1_1 zw4_2 cw4_2_0 cw4_2_1 cw4_2_2 cw4_2_3
    go_wp2_with fail
    refine wp_loop_rounds 5 ?_
    rw [rounds_succ]
    go_wp2_with fail
    go_wp2_with fail
    refine wp_region_spread (by kernel_rfl) (by kernel_rfl) ?_
    try simp only [List.append]
    repeat (first | go_big_quiet_skip | (go_big_quiet_want; go_big_quiet_op; (first | go_big_quiet_on | (apply Exists.intro; refine ⟨fun _ => ?_, ?_⟩; (· fail); go_big_quiet_on))))
    refine wpQuiet_nil ?_
    intro v1 hhv1
    have hv1 := Hd.gr_of_spread hhv1
    have cv1_0_0 : v1.cell? ⟨W.heap.size, 0, none⟩ = some (.int .i64 ax) := cell_gr hv1 (by go_simp)
    have cv1_0_1 : v1.cell? ⟨W.heap.size, 1, none⟩ = some (.int .i64 ay) := cell_gr hv1 (by go_simp)
    have zv1_0 : W.heap.size < v1.heap.size := World.block_lt_of_cell? _ _ cv1_0_0
    have cv1_1_0 : v1.cell? ⟨W.heap.size + 1, 0, none⟩ = some (.int .i64 bx) := cell_gr hv1 (by go_simp)
    have cv1_1_1 : v1.cell? ⟨W.heap.size + 1, 1, none⟩ = some (.int .i64 by') := cell_gr hv1 (by go_simp)
    have zv1_1 : W.heap.size + 1 < v1.heap.size := World.block_lt_of_cell? _ _ cv1_1_0
    have cv1_2_0 : v1.cell? ⟨W.heap.size + 1 + 1, 0, none⟩ = some (.int .i64 lx) := cell_gr hv1 (by go_simp)
    have cv1_2_1 : v1.cell? ⟨W.heap.size + 1 + 1, 1, none⟩ = some (.int .i64 ly) := cell_gr hv1 (by go_simp)
    have cv1_2_2 : v1.cell? ⟨W.heap.size + 1 + 1, 2, none⟩ = some (.int .i64 hx) := cell_gr hv1 (by go_simp)
    have cv1_2_3 : v1.cell? ⟨W.heap.size + 1 + 1, 3, none⟩ = some (.int .i64 hy) := cell_gr hv1 (by go_simp)
    have zv1_2 : W.heap.size + 1 + 1 < v1.heap.size := World.block_lt_of_cell? _ _ cv1_2_0
    have cv1_3_0 : v1.cell? ⟨w4.heap.size, 0, none⟩ = some (.int .i64 lx) := cell_gr hv1 (by go_simp)
    have cv1_3_1 : v1.cell? ⟨w4.heap.size, 1, none⟩ = some (.int .i64 ly) := cell_gr hv1 (by go_simp)
    have cv1_3_2 : v1.cell? ⟨w4.heap.size, 2, none⟩ = some (.int .i64 hx) := cell_gr hv1 (by go_simp)
    have cv1_3_3 : v1.cell? ⟨w4.heap.size, 3, none⟩ = some (.int .i64 ly) := cell_gr hv1 (by go_simp)
    have cv1_3_4 : v1.cell? ⟨w4.heap.size, 4, none⟩ = some (.int .i64 hx) := cell_gr hv1 (by go_simp)
    have cv1_3_5 : v1.cell? ⟨w4.heap.size, 5, none⟩ = some (.int .i64 hy) := cell_gr hv1 (by go_simp)
    have cv1_3_6 : v1.cell? ⟨w4.heap.size, 6, none⟩ = some (.int .i64 lx) := cell_gr hv1 (by go_simp)
    have cv1_3_7 : v1.cell? ⟨w4.heap.size, 7, none⟩ = some (.int .i64 hy) := cell_gr hv1 (by go_simp)
    have zv1_3 : w4.heap.size < v1.heap.size := World.block_lt_of_cell? _ _ cv1_3_0
    have gv1 : Gr W v1 := Gr.trans (by have gg := gw5; have gs := gg.size; go_grown) hv1
    clear hv1 hhv1 gw5 zw5_0 cw5_0_0 cw5_0_1 zw5_1 cw5_1_0 cw5_1_1 zw5_2 cw5_2_0 cw5_2_1 cw5_2_2 cw5_2_3 zw5_3 cw5_3_0 cw5_3_1 cw5_3_2 cw5_3_3 cw5_3_4 cw5_3_5 cw5_3_6 cw5_3_7
    go_wp2_with fail
    rw [rounds_succ]
    go_wp2_with fail
    go_wp2_with fail
    refine wp_region_spread (by kernel_rfl) (by kernel_rfl) ?_
    try simp only [List.append]
    repeat (first | go_big_quiet_skip | (go_big_quiet_want; go_big_quiet_op; (first | go_big_quiet_on | (apply Exists.intro; refine ⟨fun _ => ?_, ?_⟩; (· fail); go_big_quiet_on))))
    refine wpQuiet_nil ?_
    intro v2 hhv2
    have hv2 := Hd.gr_of_spread hhv2
    have cv2_0_0 : v2.cell? ⟨W.heap.size, 0, none⟩ = some (.int .i64 ax) := cell_gr hv2 (by go_simp)
    have cv2_0_1 : v2.cell? ⟨W.heap.size, 1, none⟩ = some (.int .i64 ay) := cell_gr hv2 (by go_simp)
    have zv2_0 : W.heap.size < v2.heap.size := World.block_lt_of_cell? _ _ cv2_0_0
    have cv2_1_0 : v2.cell? ⟨W.heap.size + 1, 0, none⟩ = some (.int .i64 bx) := cell_gr hv2 (by go_simp)
    have cv2_1_1 : v2.cell? ⟨W.heap.size + 1, 1, none⟩ = some (.int .i64 by') := cell_gr hv2 (by go_simp)
    have zv2_1 : W.heap.size + 1 < v2.heap.size := World.block_lt_of_cell? _ _ cv2_1_0
    have cv2_2_0 : v2.cell? ⟨W.heap.size + 1 + 1, 0, none⟩ = some (.int .i64 lx) := cell_gr hv2 (by go_simp)
    have cv2_2_1 : v2.cell? ⟨W.heap.size + 1 + 1, 1, none⟩ = some (.int .i64 ly) := cell_gr hv2 (by go_simp)
    have cv2_2_2 : v2.cell? ⟨W.heap.size + 1 + 1, 2, none⟩ = some (.int .i64 hx) := cell_gr hv2 (by go_simp)
    have cv2_2_3 : v2.cell? ⟨W.heap.size + 1 + 1, 3, none⟩ = some (.int .i64 hy) := cell_gr hv2 (by go_simp)
    have zv2_2 : W.heap.size + 1 + 1 < v2.heap.size := World.block_lt_of_cell? _ _ cv2_2_0
    have cv2_3_0 : v2.cell? ⟨w4.heap.size, 0, none⟩ = some (.int .i64 lx) := cell_gr hv2 (by go_simp)
    have cv2_3_1 : v2.cell? ⟨w4.heap.size, 1, none⟩ = some (.int .i64 ly) := cell_gr hv2 (by go_simp)
    have cv2_3_2 : v2.cell? ⟨w4.heap.size, 2, none⟩ = some (.int .i64 hx) := cell_gr hv2 (by go_simp)
    have cv2_3_3 : v2.cell? ⟨w4.heap.size, 3, none⟩ = some (.int .i64 ly) := cell_gr hv2 (by go_simp)
    have cv2_3_4 : v2.cell? ⟨w4.heap.size, 4, none⟩ = some (.int .i64 hx) := cell_gr hv2 (by go_simp)
    have cv2_3_5 : v2.cell? ⟨w4.heap.size, 5, none⟩ = some (.int .i64 hy) := cell_gr hv2 (by go_simp)
    have cv2_3_6 : v2.cell? ⟨w4.heap.size, 6, none⟩ = some (.int .i64 lx) := cell_gr hv2 (by go_simp)
    have cv2_3_7 : v2.cell? ⟨w4.heap.size, 7, none⟩ = some (.int .i64 hy) := cell_gr hv2 (by go_simp)
    have zv2_3 : w4.heap.size < v2.heap.size := World.block_lt_of_cell? _ _ cv2_3_0
    have gv2 : Gr W v2 := Gr.trans (by have gg := gv1; have gs := gg.size; go_grown) hv2
    clear hv2 hhv2 gv1 zv1_0 cv1_0_0 cv1_0_1 zv1_1 cv1_1_0 cv1_1_1 zv1_2 cv1_2_0 cv1_2_1 cv1_2_2 cv1_2_3 zv1_3 cv1_3_0 cv1_3_1 cv1_3_2 cv1_3_3 cv1_3_4 cv1_3_5 cv1_3_6 cv1_3_7
    go_wp2_with fail
    rw [rounds_succ]
    go_wp2_with fail
    go_wp2_with fail
    refine wp_region_spread (by kernel_rfl) (by kernel_rfl) ?_
    try simp only [List.append]
    repeat (first | go_big_quiet_skip | (go_big_quiet_want; go_big_quiet_op; (first | go_big_quiet_on | (apply Exists.intro; refine ⟨fun _ => ?_, ?_⟩; (· fail); go_big_quiet_on))))
    refine wpQuiet_nil ?_
    intro v3 hhv3
    have hv3 := Hd.gr_of_spread hhv3
    have cv3_0_0 : v3.cell? ⟨W.heap.size, 0, none⟩ = some (.int .i64 ax) := cell_gr hv3 (by go_simp)
    have cv3_0_1 : v3.cell? ⟨W.heap.size, 1, none⟩ = some (.int .i64 ay) := cell_gr hv3 (by go_simp)
    have zv3_0 : W.heap.size < v3.heap.size := World.block_lt_of_cell? _ _ cv3_0_0
    have cv3_1_0 : v3.cell? ⟨W.heap.size + 1, 0, none⟩ = some (.int .i64 bx) := cell_gr hv3 (by go_simp)
    have cv3_1_1 : v3.cell? ⟨W.heap.size + 1, 1, none⟩ = some (.int .i64 by') := cell_gr hv3 (by go_simp)
    have zv3_1 : W.heap.size + 1 < v3.heap.size := World.block_lt_of_cell? _ _ cv3_1_0
    have cv3_2_0 : v3.cell? ⟨W.heap.size + 1 + 1, 0, none⟩ = some (.int .i64 lx) := cell_gr hv3 (by go_simp)
    have cv3_2_1 : v3.cell? ⟨W.heap.size + 1 + 1, 1, none⟩ = some (.int .i64 ly) := cell_gr hv3 (by go_simp)
    have cv3_2_2 : v3.cell? ⟨W.heap.size + 1 + 1, 2, none⟩ = some (.int .i64 hx) := cell_gr hv3 (by go_simp)
    have cv3_2_3 : v3.cell? ⟨W.heap.size + 1 + 1, 3, none⟩ = some (.int .i64 hy) := cell_gr hv3 (by go_simp)
    have zv3_2 : W.heap.size + 1 + 1 < v3.heap.size := World.block_lt_of_cell? _ _ cv3_2_0
    have cv3_3_0 : v3.cell? ⟨w4.heap.size, 0, none⟩ = some (.int .i64 lx) := cell_gr hv3 (by go_simp)
    have cv3_3_1 : v3.cell? ⟨w4.heap.size, 1, none⟩ = some (.int .i64 ly) := cell_gr hv3 (by go_simp)
    have cv3_3_2 : v3.cell? ⟨w4.heap.size, 2, none⟩ = some (.int .i64 hx) := cell_gr hv3 (by go_simp)
    have cv3_3_3 : v3.cell? ⟨w4.heap.size, 3, none⟩ = some (.int .i64 ly) := cell_gr hv3 (by go_simp)
    have cv3_3_4 : v3.cell? ⟨w4.heap.size, 4, none⟩ = some (.int .i64 hx) := cell_gr hv3 (by go_simp)
    have cv3_3_5 : v3.cell? ⟨w4.heap.size, 5, none⟩ = some (.int .i64 hy) := cell_gr hv3 (by go_simp)
    have cv3_3_6 : v3.cell? ⟨w4.heap.size, 6, none⟩ = some (.int .i64 lx) := cell_gr hv3 (by go_simp)
    have cv3_3_7 : v3.cell? ⟨w4.heap.size, 7, none⟩ = some (.int .i64 hy) := cell_gr hv3 (by go_simp)
    have zv3_3 : w4.heap.size < v3.heap.size := World.block_lt_of_cell? _ _ cv3_3_0
    have gv3 : Gr W v3 := Gr.trans (by have gg := gv2; have gs := gg.size; go_grown) hv3
    clear hv3 hhv3 gv2 zv2_0 cv2_0_0 cv2_0_1 zv2_1 cv2_1_0 cv2_1_1 zv2_2 cv2_2_0 cv2_2_1 cv2_2_2 cv2_2_3 zv2_3 cv2_3_0 cv2_3_1 cv2_3_2 cv2_3_3 cv2_3_4 cv2_3_5 cv2_3_6 cv2_3_7
    go_wp2_with fail
    rw [rounds_succ]
    go_wp2_with fail
    go_wp2_with fail
    refine wp_region_spread (by kernel_rfl) (by kernel_rfl) ?_
    try simp only [List.append]
    repeat (first | go_big_quiet_skip | (go_big_quiet_want; go_big_quiet_op; (first | go_big_quiet_on | (apply Exists.intro; refine ⟨fun _ => ?_, ?_⟩; (· fail); go_big_quiet_on))))
    refine wpQuiet_nil ?_
    intro v4 hhv4
    have hv4 := Hd.gr_of_spread hhv4
    have cv4_0_0 : v4.cell? ⟨W.heap.size, 0, none⟩ = some (.int .i64 ax) := cell_gr hv4 (by go_simp)
    have cv4_0_1 : v4.cell? ⟨W.heap.size, 1, none⟩ = some (.int .i64 ay) := cell_gr hv4 (by go_simp)
    have zv4_0 : W.heap.size < v4.heap.size := World.block_lt_of_cell? _ _ cv4_0_0
    have cv4_1_0 : v4.cell? ⟨W.heap.size + 1, 0, none⟩ = some (.int .i64 bx) := cell_gr hv4 (by go_simp)
    have cv4_1_1 : v4.cell? ⟨W.heap.size + 1, 1, none⟩ = some (.int .i64 by') := cell_gr hv4 (by go_simp)
    have zv4_1 : W.heap.size + 1 < v4.heap.size := World.block_lt_of_cell? _ _ cv4_1_0
    have cv4_2_0 : v4.cell? ⟨W.heap.size + 1 + 1, 0, none⟩ = some (.int .i64 lx) := cell_gr hv4 (by go_simp)
    have cv4_2_1 : v4.cell? ⟨W.heap.size + 1 + 1, 1, none⟩ = some (.int .i64 ly) := cell_gr hv4 (by go_simp)
    have cv4_2_2 : v4.cell? ⟨W.heap.size + 1 + 1, 2, none⟩ = some (.int .i64 hx) := cell_gr hv4 (by go_simp)
    have cv4_2_3 : v4.cell? ⟨W.heap.size + 1 + 1, 3, none⟩ = some (.int .i64 hy) := cell_gr hv4 (by go_simp)
    have zv4_2 : W.heap.size + 1 + 1 < v4.heap.size := World.block_lt_of_cell? _ _ cv4_2_0
    have cv4_3_0 : v4.cell? ⟨w4.heap.size, 0, none⟩ = some (.int .i64 lx) := cell_gr hv4 (by go_simp)
    have cv4_3_1 : v4.cell? ⟨w4.heap.size, 1, none⟩ = some (.int .i64 ly) := cell_gr hv4 (by go_simp)
    have cv4_3_2 : v4.cell? ⟨w4.heap.size, 2, none⟩ = some (.int .i64 hx) := cell_gr hv4 (by go_simp)
    have cv4_3_3 : v4.cell? ⟨w4.heap.size, 3, none⟩ = some (.int .i64 ly) := cell_gr hv4 (by go_simp)
    have cv4_3_4 : v4.cell? ⟨w4.heap.size, 4, none⟩ = some (.int .i64 hx) := cell_gr hv4 (by go_simp)
    have cv4_3_5 : v4.cell? ⟨w4.heap.size, 5, none⟩ = some (.int .i64 hy) := cell_gr hv4 (by go_simp)
    have cv4_3_6 : v4.cell? ⟨w4.heap.size, 6, none⟩ = some (.int .i64 lx) := cell_gr hv4 (by go_simp)
    have cv4_3_7 : v4.cell? ⟨w4.heap.size, 7, none⟩ = some (.int .i64 hy) := cell_gr hv4 (by go_simp)
    have zv4_3 : w4.heap.size < v4.heap.size := World.block_lt_of_cell? _ _ cv4_3_0
    have gv4 : Gr W v4 := Gr.trans (by have gg := gv3; have gs := gg.size; go_grown) hv4
    clear hv4 hhv4 gv3 zv3_0 cv3_0_0 cv3_0_1 zv3_1 cv3_1_0 cv3_1_1 zv3_2 cv3_2_0 cv3_2_1 cv3_2_2 cv3_2_3 zv3_3 cv3_3_0 cv3_3_1 cv3_3_2 cv3_3_3 cv3_3_4 cv3_3_5 cv3_3_6 cv3_3_7
    go_wp2_with fail
    rw [rounds_succ]
    go_wp2_with fail
    refine wp_region_spread (by kernel_rfl) (by kernel_rfl) ?_
    try simp only [List.append]
    repeat (first | go_big_quiet_skip | (go_big_quiet_want; go_big_quiet_op; (first | go_big_quiet_on | (apply Exists.intro; refine ⟨fun _ => ?_, ?_⟩; (· (first | (go_at_call 28; first | ((with_reducible refine ((H6.out _)).mono ?_); rintro e w' ⟨rfl, hg⟩; exact ⟨rfl, spread_gr hg⟩) | ((with_reducible refine ((H7.out _)).mono ?_); rintro e w' ⟨rfl, hg⟩; exact ⟨rfl, spread_gr hg⟩)) | (go_at_call 22; first | ((with_reducible refine ((H8.out _)).mono ?_); rintro e w' ⟨rfl, hg⟩; exact ⟨rfl, spread_gr hg⟩)) | (go_at_call 32; first | ((with_reducible refine ((s4_awake _)).mono ?_); rintro e w' ⟨rfl, hg⟩; exact ⟨rfl, spread_gr hg⟩)))); go_big_quiet_on))))
    refine wpQuiet_nil ?_
    intro wr hr
    obtain ⟨mr, rfl⟩ := hr
    go_wp2_with fail
    go_ret
    exact ⟨rfl, Gr.trans (by have gg := gv4; have gs := gg.size; go_grown) (gr_spread _ _)⟩
set_option maxHeartbeats 8000000 in
set_option maxRecDepth 100000 in
theorem boxes_m0 (ax ay bx by' lx ly hx hy : Int) (on : Bool) (W : World)
    (A1 : ∀ w, Calls Try.prog 28 #[.agg #[.int .i64 ax, .int .i64 ay], .agg #[.int .i64 bx, .int .i64 by'], .agg #[.int .i64 lx, .int .i64 ly, .int .i64 hx, .int .i64 hy]] w fun e w' => e = .returned (.bool true) ∧ Gr w w')
    (A2 : ∀ w, Calls Try.prog 34 #[.agg #[.int .i64 lx, .int .i64 ly, .int .i64 hx, .int .i64 hy]] w fun e w' => e = .returned (.int .i64 0) ∧ Gr w w')
    (A3 : ∀ w, Calls Try.prog 14 #[.agg #[.int .i64 ax, .int .i64 ay]] w fun e w' => e = .returned (.bool true) ∧ Gr w w')
    (A4 : ∀ w, Calls Try.prog 14 #[.agg #[.int .i64 bx, .int .i64 by']] w fun e w' => e = .returned (.bool true) ∧ Gr w w')
    (A5 : ∀ w, Calls Try.prog 35 #[.agg #[.int .i64 lx, .int .i64 ly, .int .i64 hx, .int .i64 hy], .agg #[.int .i64 ax, .int .i64 ay]] w fun e w' => e = .returned (.bool false) ∧ Gr w w')
    (M0 : ∀ w, Calls Try.prog 24 #[.agg #[.int .i64 ax, .int .i64 ay], .agg #[.int .i64 bx, .int .i64 by'], .agg #[.int .i64 lx, .int .i64 ly], .agg #[.int .i64 hx, .int .i64 ly]] w fun e w' => e = .returned (.bool true) ∧ Gr w w')
    (A6 : ∀ w, Calls Try.prog 28 #[.agg #[.int .i64 bx, .int .i64 by'], .agg #[.int .i64 ax, .int .i64 ay], .agg #[.int .i64 lx, .int .i64 ly, .int .i64 hx, .int .i64 hy]] w fun e w' => e = .returned (.bool true) ∧ Gr w w')
    (A7 : ∀ w, Calls Try.prog 28 #[.agg #[.int .i64 ax, .int .i64 ay], .agg #[.int .i64 bx, .int .i64 by'], .agg #[.int .i64 lx, .int .i64 ly, .int .i64 lx, .int .i64 ly]] w fun e w' => e = .returned (.bool on) ∧ Gr w w')
    (A8 : ∀ w, Calls Try.prog 22 #[.agg #[.int .i64 ax, .int .i64 ay], .agg #[.int .i64 bx, .int .i64 by'], .agg #[.int .i64 lx, .int .i64 ly]] w fun e w' => e = .returned (.bool on) ∧ Gr w w') :
    Calls Try.prog 7 #[.agg #[.int .i64 ax, .int .i64 ay], .agg #[.int .i64 bx, .int .i64 by'], .agg #[.int .i64 lx, .int .i64 ly, .int .i64 hx, .int .i64 hy]] W fun e w' => e = .returned (.bool true) ∧ Gr W w' := by
  have H1 := Lib.hid A1
  have H2 := Lib.hid A2
  have H3 := Lib.hid A3
  have H4 := Lib.hid A4
  have H5 := Lib.hid A5
  have H6 := Lib.hid A6
  have H7 := Lib.hid A7
  have H8 := Lib.hid A8
  clear A1 A2 A3 A4 A5 A6 A7 A8
  have HM0 := Lib.hid M0
  clear M0
  cases on
  all_goals
    go_enter Try.func7, Try.ntmps7
    go_wp2_with fail
    go_at_call 28
    refine ((H1.out _)).mono ?_
    rintro e w1 ⟨rfl, hw1⟩
    have cw1_0_0 : w1.cell? ⟨W.heap.size, 0, none⟩ = some (.int .i64 ax) := cell_gr hw1 (by go_simp)
    have cw1_0_1 : w1.cell? ⟨W.heap.size, 1, none⟩ = some (.int .i64 ay) := cell_gr hw1 (by go_simp)
    have zw1_0 : W.heap.size < w1.heap.size := World.block_lt_of_cell? _ _ cw1_0_0
    have cw1_1_0 : w1.cell? ⟨W.heap.size + 1, 0, none⟩ = some (.int .i64 bx) := cell_gr hw1 (by go_simp)
    have cw1_1_1 : w1.cell? ⟨W.heap.size + 1, 1, none⟩ = some (.int .i64 by') := cell_gr hw1 (by go_simp)
    have zw1_1 : W.heap.size + 1 < w1.heap.size := World.block_lt_of_cell? _ _ cw1_1_0
    have cw1_2_0 : w1.cell? ⟨W.heap.size + 1 + 1, 0, none⟩ = some (.int .i64 lx) := cell_gr hw1 (by go_simp)
    have cw1_2_1 : w1.cell? ⟨W.heap.size + 1 + 1, 1, none⟩ = some (.int .i64 ly) := cell_gr hw1 (by go_simp)
    have cw1_2_2 : w1.cell? ⟨W.heap.size + 1 + 1, 2, none⟩ = some (.int .i64 hx) := cell_gr hw1 (by go_simp)
    have cw1_2_3 : w1.cell? ⟨W.heap.size + 1 + 1, 3, none⟩ = some (.int .i64 hy) := cell_gr hw1 (by go_simp)
    have zw1_2 : W.heap.size + 1 + 1 < w1.heap.size := World.block_lt_of_cell? _ _ cw1_2_0
    have gw1 : Gr W w1 := Gr.trans (by go_grown) hw1
    clear hw1
    go_wp2_with fail
    go_at_call 34
    refine ((H2.out _)).mono ?_
    rintro e w2 ⟨rfl, hw2⟩
    have cw2_0_0 : w2.cell? ⟨W.heap.size, 0, none⟩ = some (.int .i64 ax) := cell_gr hw2 (by go_simp)
    have cw2_0_1 : w2.cell? ⟨W.heap.size, 1, none⟩ = some (.int .i64 ay) := cell_gr hw2 (by go_simp)
    have zw2_0 : W.heap.size < w2.heap.size := World.block_lt_of_cell? _ _ cw2_0_0
    have cw2_1_0 : w2.cell? ⟨W.heap.size + 1, 0, none⟩ = some (.int .i64 bx) := cell_gr hw2 (by go_simp)
    have cw2_1_1 : w2.cell? ⟨W.heap.size + 1, 1, none⟩ = some (.int .i64 by') := cell_gr hw2 (by go_simp)
    have zw2_1 : W.heap.size + 1 < w2.heap.size := World.block_lt_of_cell? _ _ cw2_1_0
    have cw2_2_0 : w2.cell? ⟨W.heap.size + 1 + 1, 0, none⟩ = some (.int .i64 lx) := cell_gr hw2 (by go_simp)
    have cw2_2_1 : w2.cell? ⟨W.heap.size + 1 + 1, 1, none⟩ = some (.int .i64 ly) := cell_gr hw2 (by go_simp)
    have cw2_2_2 : w2.cell? ⟨W.heap.size + 1 + 1, 2, none⟩ = some (.int .i64 hx) := cell_gr hw2 (by go_simp)
    have cw2_2_3 : w2.cell? ⟨W.heap.size + 1 + 1, 3, none⟩ = some (.int .i64 hy) := cell_gr hw2 (by go_simp)
    have zw2_2 : W.heap.size + 1 + 1 < w2.heap.size := World.block_lt_of_cell? _ _ cw2_2_0
    have gw2 : Gr W w2 := Gr.trans (by have gg := gw1; have gs := gg.size; go_grown) hw2
    clear hw2 gw1 zw1_0 cw1_0_0 cw1_0_1 zw1_1 cw1_1_0 cw1_1_1 zw1_2 cw1_2_0 cw1_2_1 cw1_2_2 cw1_2_3
    go_wp2_with fail
    go_at_call 14
    refine ((H3.out _)).mono ?_
    rintro e w3 ⟨rfl, hw3⟩
    have cw3_0_0 : w3.cell? ⟨W.heap.size, 0, none⟩ = some (.int .i64 ax) := cell_gr hw3 (by go_simp)
    have cw3_0_1 : w3.cell? ⟨W.heap.size, 1, none⟩ = some (.int .i64 ay) := cell_gr hw3 (by go_simp)
    have zw3_0 : W.heap.size < w3.heap.size := World.block_lt_of_cell? _ _ cw3_0_0
    have cw3_1_0 : w3.cell? ⟨W.heap.size + 1, 0, none⟩ = some (.int .i64 bx) := cell_gr hw3 (by go_simp)
    have cw3_1_1 : w3.cell? ⟨W.heap.size + 1, 1, none⟩ = some (.int .i64 by') := cell_gr hw3 (by go_simp)
    have zw3_1 : W.heap.size + 1 < w3.heap.size := World.block_lt_of_cell? _ _ cw3_1_0
    have cw3_2_0 : w3.cell? ⟨W.heap.size + 1 + 1, 0, none⟩ = some (.int .i64 lx) := cell_gr hw3 (by go_simp)
    have cw3_2_1 : w3.cell? ⟨W.heap.size + 1 + 1, 1, none⟩ = some (.int .i64 ly) := cell_gr hw3 (by go_simp)
    have cw3_2_2 : w3.cell? ⟨W.heap.size + 1 + 1, 2, none⟩ = some (.int .i64 hx) := cell_gr hw3 (by go_simp)
    have cw3_2_3 : w3.cell? ⟨W.heap.size + 1 + 1, 3, none⟩ = some (.int .i64 hy) := cell_gr hw3 (by go_simp)
    have zw3_2 : W.heap.size + 1 + 1 < w3.heap.size := World.block_lt_of_cell? _ _ cw3_2_0
    have gw3 : Gr W w3 := Gr.trans (by have gg := gw2; have gs := gg.size; go_grown) hw3
    clear hw3 gw2 zw2_0 cw2_0_0 cw2_0_1 zw2_1 cw2_1_0 cw2_1_1 zw2_2 cw2_2_0 cw2_2_1 cw2_2_2 cw2_2_3
    go_wp2_with fail
    go_at_call 14
    refine ((H4.out _)).mono ?_
    rintro e w4 ⟨rfl, hw4⟩
    have cw4_0_0 : w4.cell? ⟨W.heap.size, 0, none⟩ = some (.int .i64 ax) := cell_gr hw4 (by go_simp)
    have cw4_0_1 : w4.cell? ⟨W.heap.size, 1, none⟩ = some (.int .i64 ay) := cell_gr hw4 (by go_simp)
    have zw4_0 : W.heap.size < w4.heap.size := World.block_lt_of_cell? _ _ cw4_0_0
    have cw4_1_0 : w4.cell? ⟨W.heap.size + 1, 0, none⟩ = some (.int .i64 bx) := cell_gr hw4 (by go_simp)
    have cw4_1_1 : w4.cell? ⟨W.heap.size + 1, 1, none⟩ = some (.int .i64 by') := cell_gr hw4 (by go_simp)
    have zw4_1 : W.heap.size + 1 < w4.heap.size := World.block_lt_of_cell? _ _ cw4_1_0
    have cw4_2_0 : w4.cell? ⟨W.heap.size + 1 + 1, 0, none⟩ = some (.int .i64 lx) := cell_gr hw4 (by go_simp)
    have cw4_2_1 : w4.cell? ⟨W.heap.size + 1 + 1, 1, none⟩ = some (.int .i64 ly) := cell_gr hw4 (by go_simp)
    have cw4_2_2 : w4.cell? ⟨W.heap.size + 1 + 1, 2, none⟩ = some (.int .i64 hx) := cell_gr hw4 (by go_simp)
    have cw4_2_3 : w4.cell? ⟨W.heap.size + 1 + 1, 3, none⟩ = some (.int .i64 hy) := cell_gr hw4 (by go_simp)
    have zw4_2 : W.heap.size + 1 + 1 < w4.heap.size := World.block_lt_of_cell? _ _ cw4_2_0
    have gw4 : Gr W w4 := Gr.trans (by have gg := gw3; have gs := gg.size; go_grown) hw4
    clear hw4 gw3 zw3_0 cw3_0_0 cw3_0_1 zw3_1 cw3_1_0 cw3_1_1 zw3_2 cw3_2_0 cw3_2_1 cw3_2_2 cw3_2_3
    go_wp2_with fail
    go_at_call 35
    refine ((H5.out _)).mono ?_
    rintro e w5 ⟨rfl, hw5⟩
    have cw5_0_0 : w5.cell? ⟨W.heap.size, 0, none⟩ = some (.int .i64 ax) := cell_gr hw5 (by go_simp)
    have cw5_0_1 : w5.cell? ⟨W.heap.size, 1, none⟩ = some (.int .i64 ay) := cell_gr hw5 (by go_simp)
    have zw5_0 : W.heap.size < w5.heap.size := World.block_lt_of_cell? _ _ cw5_0_0
    have cw5_1_0 : w5.cell? ⟨W.heap.size + 1, 0, none⟩ = some (.int .i64 bx) := cell_gr hw5 (by go_simp)
    have cw5_1_1 : w5.cell? ⟨W.heap.size + 1, 1, none⟩ = some (.int .i64 by') := cell_gr hw5 (by go_simp)
    have zw5_1 : W.heap.size + 1 < w5.heap.size := World.block_lt_of_cell? _ _ cw5_1_0
    have cw5_2_0 : w5.cell? ⟨W.heap.size + 1 + 1, 0, none⟩ = some (.int .i64 lx) := cell_gr hw5 (by go_simp)
    have cw5_2_1 : w5.cell? ⟨W.heap.size + 1 + 1, 1, none⟩ = some (.int .i64 ly) := cell_gr hw5 (by go_simp)
    have cw5_2_2 : w5.cell? ⟨W.heap.size + 1 + 1, 2, none⟩ = some (.int .i64 hx) := cell_gr hw5 (by go_simp)
    have cw5_2_3 : w5.cell? ⟨W.heap.size + 1 + 1, 3, none⟩ = some (.int .i64 hy) := cell_gr hw5 (by go_simp)
    have zw5_2 : W.heap.size + 1 + 1 < w5.heap.size := World.block_lt_of_cell? _ _ cw5_2_0
    have cw5_3_0 : w5.cell? ⟨w4.heap.size, 0, none⟩ = some (.int .i64 lx) := cell_gr hw5 (by go_simp)
    have cw5_3_1 : w5.cell? ⟨w4.heap.size, 1, none⟩ = some (.int .i64 ly) := cell_gr hw5 (by go_simp)
    have cw5_3_2 : w5.cell? ⟨w4.heap.size, 2, none⟩ = some (.int .i64 hx) := cell_gr hw5 (by go_simp)
    have cw5_3_3 : w5.cell? ⟨w4.heap.size, 3, none⟩ = some (.int .i64 ly) := cell_gr hw5 (by go_simp)
    have cw5_3_4 : w5.cell? ⟨w4.heap.size, 4, none⟩ = some (.int .i64 hx) := cell_gr hw5 (by go_simp)
    have cw5_3_5 : w5.cell? ⟨w4.heap.size, 5, none⟩ = some (.int .i64 hy) := cell_gr hw5 (by go_simp)
    have cw5_3_6 : w5.cell? ⟨w4.heap.size, 6, none⟩ = some (.int .i64 lx) := cell_gr hw5 (by go_simp)
    have cw5_3_7 : w5.cell? ⟨w4.heap.size, 7, none⟩ = some (.int .i64 hy) := cell_gr hw5 (by go_simp)
    have zw5_3 : w4.heap.size < w5.heap.size := World.block_lt_of_cell? _ _ cw5_3_0
    have gw5 : Gr W w5 := Gr.trans (by have gg := gw4; have gs := gg.size; go_grown) hw5
    clear hw5 gw4 zw4_0 cw4_0_0 cw4_0_1 zw4_1 cw4_1_0 cw4_1_1 zw4_2 cw4_2_0 cw4_2_1 cw4_2_2 cw4_2_3
    go_wp2_with fail
    refine wp_loop_rounds 5 ?_
    rw [rounds_succ]
    go_wp2_with fail
    go_wp2_with fail
    refine wp_region_spread (by kernel_rfl) (by kernel_rfl) ?_
    try simp only [List.append]
    repeat (first | go_big_quiet_skip | (go_big_quiet_want; go_big_quiet_op; (first | go_big_quiet_on | (apply Exists.intro; refine ⟨fun _ => ?_, ?_⟩; (· (first | (go_at_call 24; first | ((with_reducible refine ((HM0.out _)).mono ?_); rintro e w' ⟨rfl, hg⟩; exact ⟨rfl, spread_gr hg⟩)))); go_big_quiet_on))))
    refine wpQuiet_nil ?_
    intro v1 hhv1
    have hv1 := Hd.gr_of_spread hhv1
    have cv1_0_0 : v1.cell? ⟨W.heap.size, 0, none⟩ = some (.int .i64 ax) := cell_gr hv1 (by go_simp)
    have cv1_0_1 : v1.cell? ⟨W.heap.size, 1, none⟩ = some (.int .i64 ay) := cell_gr hv1 (by go_simp)
    have zv1_0 : W.heap.size < v1.heap.size := World.block_lt_of_cell? _ _ cv1_0_0
    have cv1_1_0 : v1.cell? ⟨W.heap.size + 1, 0, none⟩ = some (.int .i64 bx) := cell_gr hv1 (by go_simp)
    have cv1_1_1 : v1.cell? ⟨W.heap.size + 1, 1, none⟩ = some (.int .i64 by') := cell_gr hv1 (by go_simp)
    have zv1_1 : W.heap.size + 1 < v1.heap.size := World.block_lt_of_cell? _ _ cv1_1_0
    have cv1_2_0 : v1.cell? ⟨W.heap.size + 1 + 1, 0, none⟩ = some (.int .i64 lx) := cell_gr hv1 (by go_simp)
    have cv1_2_1 : v1.cell? ⟨W.heap.size + 1 + 1, 1, none⟩ = some (.int .i64 ly) := cell_gr hv1 (by go_simp)
    have cv1_2_2 : v1.cell? ⟨W.heap.size + 1 + 1, 2, none⟩ = some (.int .i64 hx) := cell_gr hv1 (by go_simp)
    have cv1_2_3 : v1.cell? ⟨W.heap.size + 1 + 1, 3, none⟩ = some (.int .i64 hy) := cell_gr hv1 (by go_simp)
    have zv1_2 : W.heap.size + 1 + 1 < v1.heap.size := World.block_lt_of_cell? _ _ cv1_2_0
    have cv1_3_0 : v1.cell? ⟨w4.heap.size, 0, none⟩ = some (.int .i64 lx) := cell_gr hv1 (by go_simp)
    have cv1_3_1 : v1.cell? ⟨w4.heap.size, 1, none⟩ = some (.int .i64 ly) := cell_gr hv1 (by go_simp)
    have cv1_3_2 : v1.cell? ⟨w4.heap.size, 2, none⟩ = some (.int .i64 hx) := cell_gr hv1 (by go_simp)
    have cv1_3_3 : v1.cell? ⟨w4.heap.size, 3, none⟩ = some (.int .i64 ly) := cell_gr hv1 (by go_simp)
    have cv1_3_4 : v1.cell? ⟨w4.heap.size, 4, none⟩ = some (.int .i64 hx) := cell_gr hv1 (by go_simp)
    have cv1_3_5 : v1.cell? ⟨w4.heap.size, 5, none⟩ = some (.int .i64 hy) := cell_gr hv1 (by go_simp)
    have cv1_3_6 : v1.cell? ⟨w4.heap.size, 6, none⟩ = some (.int .i64 lx) := cell_gr hv1 (by go_simp)
    have cv1_3_7 : v1.cell? ⟨w4.heap.size, 7, none⟩ = some (.int .i64 hy) := cell_gr hv1 (by go_simp)
    have zv1_3 : w4.heap.size < v1.heap.size := World.block_lt_of_cell? _ _ cv1_3_0
    have gv1 : Gr W v1 := Gr.trans (by have gg := gw5; have gs := gg.size; go_grown) hv1
    clear hv1 hhv1 gw5 zw5_0 cw5_0_0 cw5_0_1 zw5_1 cw5_1_0 cw5_1_1 zw5_2 cw5_2_0 cw5_2_1 cw5_2_2 cw5_2_3 zw5_3 cw5_3_0 cw5_3_1 cw5_3_2 cw5_3_3 cw5_3_4 cw5_3_5 cw5_3_6 cw5_3_7
    go_wp2_with fail
    rw [rounds_succ]
    go_wp2_with fail
    go_wp2_with fail
    refine wp_region_spread (by kernel_rfl) (by kernel_rfl) ?_
    try simp only [List.append]
    repeat (first | go_big_quiet_skip | (go_big_quiet_want; go_big_quiet_op; (first | go_big_quiet_on | (apply Exists.intro; refine ⟨fun _ => ?_, ?_⟩; (· fail); go_big_quiet_on))))
    refine wpQuiet_nil ?_
    intro v2 hhv2
    have hv2 := Hd.gr_of_spread hhv2
    have cv2_0_0 : v2.cell? ⟨W.heap.size, 0, none⟩ = some (.int .i64 ax) := cell_gr hv2 (by go_simp)
    have cv2_0_1 : v2.cell? ⟨W.heap.size, 1, none⟩ = some (.int .i64 ay) := cell_gr hv2 (by go_simp)
    have zv2_0 : W.heap.size < v2.heap.size := World.block_lt_of_cell? _ _ cv2_0_0
    have cv2_1_0 : v2.cell? ⟨W.heap.size + 1, 0, none⟩ = some (.int .i64 bx) := cell_gr hv2 (by go_simp)
    have cv2_1_1 : v2.cell? ⟨W.heap.size + 1, 1, none⟩ = some (.int .i64 by') := cell_gr hv2 (by go_simp)
    have zv2_1 : W.heap.size + 1 < v2.heap.size := World.block_lt_of_cell? _ _ cv2_1_0
    have cv2_2_0 : v2.cell? ⟨W.heap.size + 1 + 1, 0, none⟩ = some (.int .i64 lx) := cell_gr hv2 (by go_simp)
    have cv2_2_1 : v2.cell? ⟨W.heap.size + 1 + 1, 1, none⟩ = some (.int .i64 ly) := cell_gr hv2 (by go_simp)
    have cv2_2_2 : v2.cell? ⟨W.heap.size + 1 + 1, 2, none⟩ = some (.int .i64 hx) := cell_gr hv2 (by go_simp)
    have cv2_2_3 : v2.cell? ⟨W.heap.size + 1 + 1, 3, none⟩ = some (.int .i64 hy) := cell_gr hv2 (by go_simp)
    have zv2_2 : W.heap.size + 1 + 1 < v2.heap.size := World.block_lt_of_cell? _ _ cv2_2_0
    have cv2_3_0 : v2.cell? ⟨w4.heap.size, 0, none⟩ = some (.int .i64 lx) := cell_gr hv2 (by go_simp)
    have cv2_3_1 : v2.cell? ⟨w4.heap.size, 1, none⟩ = some (.int .i64 ly) := cell_gr hv2 (by go_simp)
    have cv2_3_2 : v2.cell? ⟨w4.heap.size, 2, none⟩ = some (.int .i64 hx) := cell_gr hv2 (by go_simp)
    have cv2_3_3 : v2.cell? ⟨w4.heap.size, 3, none⟩ = some (.int .i64 ly) := cell_gr hv2 (by go_simp)
    have cv2_3_4 : v2.cell? ⟨w4.heap.size, 4, none⟩ = some (.int .i64 hx) := cell_gr hv2 (by go_simp)
    have cv2_3_5 : v2.cell? ⟨w4.heap.size, 5, none⟩ = some (.int .i64 hy) := cell_gr hv2 (by go_simp)
    have cv2_3_6 : v2.cell? ⟨w4.heap.size, 6, none⟩ = some (.int .i64 lx) := cell_gr hv2 (by go_simp)
    have cv2_3_7 : v2.cell? ⟨w4.heap.size, 7, none⟩ = some (.int .i64 hy) := cell_gr hv2 (by go_simp)
    have zv2_3 : w4.heap.size < v2.heap.size := World.block_lt_of_cell? _ _ cv2_3_0
    have gv2 : Gr W v2 := Gr.trans (by have gg := gv1; have gs := gg.size; go_grown) hv2
    clear hv2 hhv2 gv1 zv1_0 cv1_0_0 cv1_0_1 zv1_1 cv1_1_0 cv1_1_1 zv1_2 cv1_2_0 cv1_2_1 cv1_2_2 cv1_2_3 zv1_3 cv1_3_0 cv1_3_1 cv1_3_2 cv1_3_3 cv1_3_4 cv1_3_5 cv1_3_6 cv1_3_7
    go_wp2_with fail
    rw [rounds_succ]
    go_wp2_with fail
    go_wp2_with fail
    refine wp_region_spread (by kernel_rfl) (by kernel_rfl) ?_
    try simp only [List.append]
    repeat (first | go_big_quiet_skip | (go_big_quiet_want; go_big_quiet_op; (first | go_big_quiet_on | (apply Exists.intro; refine ⟨fun _ => ?_, ?_⟩; (· fail); go_big_quiet_on))))
    refine wpQuiet_nil ?_
    intro v3 hhv3
    have hv3 := Hd.gr_of_spread hhv3
    have cv3_0_0 : v3.cell? ⟨W.heap.size, 0, none⟩ = some (.int .i64 ax) := cell_gr hv3 (by go_simp)
    have cv3_0_1 : v3.cell? ⟨W.heap.size, 1, none⟩ = some (.int .i64 ay) := cell_gr hv3 (by go_simp)
    have zv3_0 : W.heap.size < v3.heap.size := World.block_lt_of_cell? _ _ cv3_0_0
    have cv3_1_0 : v3.cell? ⟨W.heap.size + 1, 0, none⟩ = some (.int .i64 bx) := cell_gr hv3 (by go_simp)
    have cv3_1_1 : v3.cell? ⟨W.heap.size + 1, 1, none⟩ = some (.int .i64 by') := cell_gr hv3 (by go_simp)
    have zv3_1 : W.heap.size + 1 < v3.heap.size := World.block_lt_of_cell? _ _ cv3_1_0
    have cv3_2_0 : v3.cell? ⟨W.heap.size + 1 + 1, 0, none⟩ = some (.int .i64 lx) := cell_gr hv3 (by go_simp)
    have cv3_2_1 : v3.cell? ⟨W.heap.size + 1 + 1, 1, none⟩ = some (.int .i64 ly) := cell_gr hv3 (by go_simp)
    have cv3_2_2 : v3.cell? ⟨W.heap.size + 1 + 1, 2, none⟩ = some (.int .i64 hx) := cell_gr hv3 (by go_simp)
    have cv3_2_3 : v3.cell? ⟨W.heap.size + 1 + 1, 3, none⟩ = some (.int .i64 hy) := cell_gr hv3 (by go_simp)
    have zv3_2 : W.heap.size + 1 + 1 < v3.heap.size := World.block_lt_of_cell? _ _ cv3_2_0
    have cv3_3_0 : v3.cell? ⟨w4.heap.size, 0, none⟩ = some (.int .i64 lx) := cell_gr hv3 (by go_simp)
    have cv3_3_1 : v3.cell? ⟨w4.heap.size, 1, none⟩ = some (.int .i64 ly) := cell_gr hv3 (by go_simp)
    have cv3_3_2 : v3.cell? ⟨w4.heap.size, 2, none⟩ = some (.int .i64 hx) := cell_gr hv3 (by go_simp)
    have cv3_3_3 : v3.cell? ⟨w4.heap.size, 3, none⟩ = some (.int .i64 ly) := cell_gr hv3 (by go_simp)
    have cv3_3_4 : v3.cell? ⟨w4.heap.size, 4, none⟩ = some (.int .i64 hx) := cell_gr hv3 (by go_simp)
    have cv3_3_5 : v3.cell? ⟨w4.heap.size, 5, none⟩ = some (.int .i64 hy) := cell_gr hv3 (by go_simp)
    have cv3_3_6 : v3.cell? ⟨w4.heap.size, 6, none⟩ = some (.int .i64 lx) := cell_gr hv3 (by go_simp)
    have cv3_3_7 : v3.cell? ⟨w4.heap.size, 7, none⟩ = some (.int .i64 hy) := cell_gr hv3 (by go_simp)
    have zv3_3 : w4.heap.size < v3.heap.size := World.block_lt_of_cell? _ _ cv3_3_0
    have gv3 : Gr W v3 := Gr.trans (by have gg := gv2; have gs := gg.size; go_grown) hv3
    clear hv3 hhv3 gv2 zv2_0 cv2_0_0 cv2_0_1 zv2_1 cv2_1_0 cv2_1_1 zv2_2 cv2_2_0 cv2_2_1 cv2_2_2 cv2_2_3 zv2_3 cv2_3_0 cv2_3_1 cv2_3_2 cv2_3_3 cv2_3_4 cv2_3_5 cv2_3_6 cv2_3_7
    go_wp2_with fail
    rw [rounds_succ]
    go_wp2_with fail
    go_wp2_with fail
    refine wp_region_spread (by kernel_rfl) (by kernel_rfl) ?_
    try simp only [List.append]
    repeat (first | go_big_quiet_skip | (go_big_quiet_want; go_big_quiet_op; (first | go_big_quiet_on | (apply Exists.intro; refine ⟨fun _ => ?_, ?_⟩; (· fail); go_big_quiet_on))))
    refine wpQuiet_nil ?_
    intro v4 hhv4
    have hv4 := Hd.gr_of_spread hhv4
    have cv4_0_0 : v4.cell? ⟨W.heap.size, 0, none⟩ = some (.int .i64 ax) := cell_gr hv4 (by go_simp)
    have cv4_0_1 : v4.cell? ⟨W.heap.size, 1, none⟩ = some (.int .i64 ay) := cell_gr hv4 (by go_simp)
    have zv4_0 : W.heap.size < v4.heap.size := World.block_lt_of_cell? _ _ cv4_0_0
    have cv4_1_0 : v4.cell? ⟨W.heap.size + 1, 0, none⟩ = some (.int .i64 bx) := cell_gr hv4 (by go_simp)
    have cv4_1_1 : v4.cell? ⟨W.heap.size + 1, 1, none⟩ = some (.int .i64 by') := cell_gr hv4 (by go_simp)
    have zv4_1 : W.heap.size + 1 < v4.heap.size := World.block_lt_of_cell? _ _ cv4_1_0
    have cv4_2_0 : v4.cell? ⟨W.heap.size + 1 + 1, 0, none⟩ = some (.int .i64 lx) := cell_gr hv4 (by go_simp)
    have cv4_2_1 : v4.cell? ⟨W.heap.size + 1 + 1, 1, none⟩ = some (.int .i64 ly) := cell_gr hv4 (by go_simp)
    have cv4_2_2 : v4.cell? ⟨W.heap.size + 1 + 1, 2, none⟩ = some (.int .i64 hx) := cell_gr hv4 (by go_simp)
    have cv4_2_3 : v4.cell? ⟨W.heap.size + 1 + 1, 3, none⟩ = some (.int .i64 hy) := cell_gr hv4 (by go_simp)
    have zv4_2 : W.heap.size + 1 + 1 < v4.heap.size := World.block_lt_of_cell? _ _ cv4_2_0
    have cv4_3_0 : v4.cell? ⟨w4.heap.size, 0, none⟩ = some (.int .i64 lx) := cell_gr hv4 (by go_simp)
    have cv4_3_1 : v4.cell? ⟨w4.heap.size, 1, none⟩ = some (.int .i64 ly) := cell_gr hv4 (by go_simp)
    have cv4_3_2 : v4.cell? ⟨w4.heap.size, 2, none⟩ = some (.int .i64 hx) := cell_gr hv4 (by go_simp)
    have cv4_3_3 : v4.cell? ⟨w4.heap.size, 3, none⟩ = some (.int .i64 ly) := cell_gr hv4 (by go_simp)
    have cv4_3_4 : v4.cell? ⟨w4.heap.size, 4, none⟩ = some (.int .i64 hx) := cell_gr hv4 (by go_simp)
    have cv4_3_5 : v4.cell? ⟨w4.heap.size, 5, none⟩ = some (.int .i64 hy) := cell_gr hv4 (by go_simp)
    have cv4_3_6 : v4.cell? ⟨w4.heap.size, 6, none⟩ = some (.int .i64 lx) := cell_gr hv4 (by go_simp)
    have cv4_3_7 : v4.cell? ⟨w4.heap.size, 7, none⟩ = some (.int .i64 hy) := cell_gr hv4 (by go_simp)
    have zv4_3 : w4.heap.size < v4.heap.size := World.block_lt_of_cell? _ _ cv4_3_0
    have gv4 : Gr W v4 := Gr.trans (by have gg := gv3; have gs := gg.size; go_grown) hv4
    clear hv4 hhv4 gv3 zv3_0 cv3_0_0 cv3_0_1 zv3_1 cv3_1_0 cv3_1_1 zv3_2 cv3_2_0 cv3_2_1 cv3_2_2 cv3_2_3 zv3_3 cv3_3_0 cv3_3_1 cv3_3_2 cv3_3_3 cv3_3_4 cv3_3_5 cv3_3_6 cv3_3_7
    go_wp2_with fail
    rw [rounds_succ]
    go_wp2_with fail
    refine wp_region_spread (by kernel_rfl) (by kernel_rfl) ?_
    try simp only [List.append]
    repeat (first | go_big_quiet_skip | (go_big_quiet_want; go_big_quiet_op; (first | go_big_quiet_on | (apply Exists.intro; refine ⟨fun _ => ?_, ?_⟩; (· (first | (go_at_call 28; first | ((with_reducible refine ((H6.out _)).mono ?_); rintro e w' ⟨rfl, hg⟩; exact ⟨rfl, spread_gr hg⟩) | ((with_reducible refine ((H7.out _)).mono ?_); rintro e w' ⟨rfl, hg⟩; exact ⟨rfl, spread_gr hg⟩)) | (go_at_call 22; first | ((with_reducible refine ((H8.out _)).mono ?_); rintro e w' ⟨rfl, hg⟩; exact ⟨rfl, spread_gr hg⟩)) | (go_at_call 32; first | ((with_reducible refine ((s4_awake _)).mono ?_); rintro e w' ⟨rfl, hg⟩; exact ⟨rfl, spread_gr hg⟩)))); go_big_quiet_on))))
    refine wpQuiet_nil ?_
    intro wr hr
    obtain ⟨mr, rfl⟩ := hr
    go_wp2_with fail
    go_ret
    exact ⟨rfl, Gr.trans (by have gg := gv4; have gs := gg.size; go_grown) (gr_spread _ _)⟩
set_option maxHeartbeats 8000000 in
set_option maxRecDepth 100000 in
theorem boxes_m1 (ax ay bx by' lx ly hx hy : Int) (on : Bool) (W : World)
    (A1 : ∀ w, Calls Try.prog 28 #[.agg #[.int .i64 ax, .int .i64 ay], .agg #[.int .i64 bx, .int .i64 by'], .agg #[.int .i64 lx, .int .i64 ly, .int .i64 hx, .int .i64 hy]] w fun e w' => e = .returned (.bool true) ∧ Gr w w')
    (A2 : ∀ w, Calls Try.prog 34 #[.agg #[.int .i64 lx, .int .i64 ly, .int .i64 hx, .int .i64 hy]] w fun e w' => e = .returned (.int .i64 0) ∧ Gr w w')
    (A3 : ∀ w, Calls Try.prog 14 #[.agg #[.int .i64 ax, .int .i64 ay]] w fun e w' => e = .returned (.bool true) ∧ Gr w w')
    (A4 : ∀ w, Calls Try.prog 14 #[.agg #[.int .i64 bx, .int .i64 by']] w fun e w' => e = .returned (.bool true) ∧ Gr w w')
    (A5 : ∀ w, Calls Try.prog 35 #[.agg #[.int .i64 lx, .int .i64 ly, .int .i64 hx, .int .i64 hy], .agg #[.int .i64 ax, .int .i64 ay]] w fun e w' => e = .returned (.bool false) ∧ Gr w w')
    (M0 : ∀ w, Calls Try.prog 24 #[.agg #[.int .i64 ax, .int .i64 ay], .agg #[.int .i64 bx, .int .i64 by'], .agg #[.int .i64 lx, .int .i64 ly], .agg #[.int .i64 hx, .int .i64 ly]] w fun e w' => e = .returned (.bool false) ∧ Gr w w')
    (M1 : ∀ w, Calls Try.prog 24 #[.agg #[.int .i64 ax, .int .i64 ay], .agg #[.int .i64 bx, .int .i64 by'], .agg #[.int .i64 hx, .int .i64 ly], .agg #[.int .i64 hx, .int .i64 hy]] w fun e w' => e = .returned (.bool true) ∧ Gr w w')
    (A6 : ∀ w, Calls Try.prog 28 #[.agg #[.int .i64 bx, .int .i64 by'], .agg #[.int .i64 ax, .int .i64 ay], .agg #[.int .i64 lx, .int .i64 ly, .int .i64 hx, .int .i64 hy]] w fun e w' => e = .returned (.bool true) ∧ Gr w w')
    (A7 : ∀ w, Calls Try.prog 28 #[.agg #[.int .i64 ax, .int .i64 ay], .agg #[.int .i64 bx, .int .i64 by'], .agg #[.int .i64 lx, .int .i64 ly, .int .i64 lx, .int .i64 ly]] w fun e w' => e = .returned (.bool on) ∧ Gr w w')
    (A8 : ∀ w, Calls Try.prog 22 #[.agg #[.int .i64 ax, .int .i64 ay], .agg #[.int .i64 bx, .int .i64 by'], .agg #[.int .i64 lx, .int .i64 ly]] w fun e w' => e = .returned (.bool on) ∧ Gr w w') :
    Calls Try.prog 7 #[.agg #[.int .i64 ax, .int .i64 ay], .agg #[.int .i64 bx, .int .i64 by'], .agg #[.int .i64 lx, .int .i64 ly, .int .i64 hx, .int .i64 hy]] W fun e w' => e = .returned (.bool true) ∧ Gr W w' := by
  have H1 := Lib.hid A1
  have H2 := Lib.hid A2
  have H3 := Lib.hid A3
  have H4 := Lib.hid A4
  have H5 := Lib.hid A5
  have H6 := Lib.hid A6
  have H7 := Lib.hid A7
  have H8 := Lib.hid A8
  clear A1 A2 A3 A4 A5 A6 A7 A8
  have HM0 := Lib.hid M0
  have HM1 := Lib.hid M1
  clear M0 M1
  cases on
  all_goals
    go_enter Try.func7, Try.ntmps7
    go_wp2_with fail
    go_at_call 28
    refine ((H1.out _)).mono ?_
    rintro e w1 ⟨rfl, hw1⟩
    have cw1_0_0 : w1.cell? ⟨W.heap.size, 0, none⟩ = some (.int .i64 ax) := cell_gr hw1 (by go_simp)
    have cw1_0_1 : w1.cell? ⟨W.heap.size, 1, none⟩ = some (.int .i64 ay) := cell_gr hw1 (by go_simp)
    have zw1_0 : W.heap.size < w1.heap.size := World.block_lt_of_cell? _ _ cw1_0_0
    have cw1_1_0 : w1.cell? ⟨W.heap.size + 1, 0, none⟩ = some (.int .i64 bx) := cell_gr hw1 (by go_simp)
    have cw1_1_1 : w1.cell? ⟨W.heap.size + 1, 1, none⟩ = some (.int .i64 by') := cell_gr hw1 (by go_simp)
    have zw1_1 : W.heap.size + 1 < w1.heap.size := World.block_lt_of_cell? _ _ cw1_1_0
    have cw1_2_0 : w1.cell? ⟨W.heap.size + 1 + 1, 0, none⟩ = some (.int .i64 lx) := cell_gr hw1 (by go_simp)
    have cw1_2_1 : w1.cell? ⟨W.heap.size + 1 + 1, 1, none⟩ = some (.int .i64 ly) := cell_gr hw1 (by go_simp)
    have cw1_2_2 : w1.cell? ⟨W.heap.size + 1 + 1, 2, none⟩ = some (.int .i64 hx) := cell_gr hw1 (by go_simp)
    have cw1_2_3 : w1.cell? ⟨W.heap.size + 1 + 1, 3, none⟩ = some (.int .i64 hy) := cell_gr hw1 (by go_simp)
    have zw1_2 : W.heap.size + 1 + 1 < w1.heap.size := World.block_lt_of_cell? _ _ cw1_2_0
    have gw1 : Gr W w1 := Gr.trans (by go_grown) hw1
    clear hw1
    go_wp2_with fail
    go_at_call 34
    refine ((H2.out _)).mono ?_
    rintro e w2 ⟨rfl, hw2⟩
    have cw2_0_0 : w2.cell? ⟨W.heap.size, 0, none⟩ = some (.int .i64 ax) := cell_gr hw2 (by go_simp)
    have cw2_0_1 : w2.cell? ⟨W.heap.size, 1, none⟩ = some (.int .i64 ay) := cell_gr hw2 (by go_simp)
    have zw2_0 : W.heap.size < w2.heap.size := World.block_lt_of_cell? _ _ cw2_0_0
    have cw2_1_0 : w2.cell? ⟨W.heap.size + 1, 0, none⟩ = some (.int .i64 bx) := cell_gr hw2 (by go_simp)
    have cw2_1_1 : w2.cell? ⟨W.heap.size + 1, 1, none⟩ = some (.int .i64 by') := cell_gr hw2 (by go_simp)
    have zw2_1 : W.heap.size + 1 < w2.heap.size := World.block_lt_of_cell? _ _ cw2_1_0
    have cw2_2_0 : w2.cell? ⟨W.heap.size + 1 + 1, 0, none⟩ = some (.int .i64 lx) := cell_gr hw2 (by go_simp)
    have cw2_2_1 : w2.cell? ⟨W.heap.size + 1 + 1, 1, none⟩ = some (.int .i64 ly) := cell_gr hw2 (by go_simp)
    have cw2_2_2 : w2.cell? ⟨W.heap.size + 1 + 1, 2, none⟩ = some (.int .i64 hx) := cell_gr hw2 (by go_simp)
    have cw2_2_3 : w2.cell? ⟨W.heap.size + 1 + 1, 3, none⟩ = some (.int .i64 hy) := cell_gr hw2 (by go_simp)
    have zw2_2 : W.heap.size + 1 + 1 < w2.heap.size := World.block_lt_of_cell? _ _ cw2_2_0
    have gw2 : Gr W w2 := Gr.trans (by have gg := gw1; have gs := gg.size; go_grown) hw2
    clear hw2 gw1 zw1_0 cw1_0_0 cw1_0_1 zw1_1 cw1_1_0 cw1_1_1 zw1_2 cw1_2_0 cw1_2_1 cw1_2_2 cw1_2_3
    go_wp2_with fail
    go_at_call 14
    refine ((H3.out _)).mono ?_
    rintro e w3 ⟨rfl, hw3⟩
    have cw3_0_0 : w3.cell? ⟨W.heap.size, 0, none⟩ = some (.int .i64 ax) := cell_gr hw3 (by go_simp)
    have cw3_0_1 : w3.cell? ⟨W.heap.size, 1, none⟩ = some (.int .i64 ay) := cell_gr hw3 (by go_simp)
    have zw3_0 : W.heap.size < w3.heap.size := World.block_lt_of_cell? _ _ cw3_0_0
    have cw3_1_0 : w3.cell? ⟨W.heap.size + 1, 0, none⟩ = some (.int .i64 bx) := cell_gr hw3 (by go_simp)
    have cw3_1_1 : w3.cell? ⟨W.heap.size + 1, 1, none⟩ = some (.int .i64 by') := cell_gr hw3 (by go_simp)
    have zw3_1 : W.heap.size + 1 < w3.heap.size := World.block_lt_of_cell? _ _ cw3_1_0
    have cw3_2_0 : w3.cell? ⟨W.heap.size + 1 + 1, 0, none⟩ = some (.int .i64 lx) := cell_gr hw3 (by go_simp)
    have cw3_2_1 : w3.cell? ⟨W.heap.size + 1 + 1, 1, none⟩ = some (.int .i64 ly) := cell_gr hw3 (by go_simp)
    have cw3_2_2 : w3.cell? ⟨W.heap.size + 1 + 1, 2, none⟩ = some (.int .i64 hx) := cell_gr hw3 (by go_simp)
    have cw3_2_3 : w3.cell? ⟨W.heap.size + 1 + 1, 3, none⟩ = some (.int .i64 hy) := cell_gr hw3 (by go_simp)
    have zw3_2 : W.heap.size + 1 + 1 < w3.heap.size := World.block_lt_of_cell? _ _ cw3_2_0
    have gw3 : Gr W w3 := Gr.trans (by have gg := gw2; have gs := gg.size; go_grown) hw3
    clear hw3 gw2 zw2_0 cw2_0_0 cw2_0_1 zw2_1 cw2_1_0 cw2_1_1 zw2_2 cw2_2_0 cw2_2_1 cw2_2_2 cw2_2_3
    go_wp2_with fail
    go_at_call 14
    refine ((H4.out _)).mono ?_
    rintro e w4 ⟨rfl, hw4⟩
    have cw4_0_0 : w4.cell? ⟨W.heap.size, 0, none⟩ = some (.int .i64 ax) := cell_gr hw4 (by go_simp)
    have cw4_0_1 : w4.cell? ⟨W.heap.size, 1, none⟩ = some (.int .i64 ay) := cell_gr hw4 (by go_simp)
    have zw4_0 : W.heap.size < w4.heap.size := World.block_lt_of_cell? _ _ cw4_0_0
    have cw4_1_0 : w4.cell? ⟨W.heap.size + 1, 0, none⟩ = some (.int .i64 bx) := cell_gr hw4 (by go_simp)
    have cw4_1_1 : w4.cell? ⟨W.heap.size + 1, 1, none⟩ = some (.int .i64 by') := cell_gr hw4 (by go_simp)
    have zw4_1 : W.heap.size + 1 < w4.heap.size := World.block_lt_of_cell? _ _ cw4_1_0
    have cw4_2_0 : w4.cell? ⟨W.heap.size + 1 + 1, 0, none⟩ = some (.int .i64 lx) := cell_gr hw4 (by go_simp)
    have cw4_2_1 : w4.cell? ⟨W.heap.size + 1 + 1, 1, none⟩ = some (.int .i64 ly) := cell_gr hw4 (by go_simp)
    have cw4_2_2 : w4.cell? ⟨W.heap.size + 1 + 1, 2, none⟩ = some (.int .i64 hx) := cell_gr hw4 (by go_simp)
    have cw4_2_3 : w4.cell? ⟨W.heap.size + 1 + 1, 3, none⟩ = some (.int .i64 hy) := cell_gr hw4 (by go_simp)
    have zw4_2 : W.heap.size + 1 + 1 < w4.heap.size := World.block_lt_of_cell? _ _ cw4_2_0
    have gw4 : Gr W w4 := Gr.trans (by have gg := gw3; have gs := gg.size; go_grown) hw4
    clear hw4 gw3 zw3_0 cw3_0_0 cw3_0_1 zw3_1 cw3_1_0 cw3_1_1 zw3_2 cw3_2_0 cw3_2_1 cw3_2_2 cw3_2_3
    go_wp2_with fail
    go_at_call 35
    refine ((H5.out _)).mono ?_
    rintro e w5 ⟨rfl, hw5⟩
    have cw5_0_0 : w5.cell? ⟨W.heap.size, 0, none⟩ = some (.int .i64 ax) := cell_gr hw5 (by go_simp)
    have cw5_0_1 : w5.cell? ⟨W.heap.size, 1, none⟩ = some (.int .i64 ay) := cell_gr hw5 (by go_simp)
    have zw5_0 : W.heap.size < w5.heap.size := World.block_lt_of_cell? _ _ cw5_0_0
    have cw5_1_0 : w5.cell? ⟨W.heap.size + 1, 0, none⟩ = some (.int .i64 bx) := cell_gr hw5 (by go_simp)
    have cw5_1_1 : w5.cell? ⟨W.heap.size + 1, 1, none⟩ = some (.int .i64 by') := cell_gr hw5 (by go_simp)
    have zw5_1 : W.heap.size + 1 < w5.heap.size := World.block_lt_of_cell? _ _ cw5_1_0
    have cw5_2_0 : w5.cell? ⟨W.heap.size + 1 + 1, 0, none⟩ = some (.int .i64 lx) := cell_gr hw5 (by go_simp)
    have cw5_2_1 : w5.cell? ⟨W.heap.size + 1 + 1, 1, none⟩ = some (.int .i64 ly) := cell_gr hw5 (by go_simp)
    have cw5_2_2 : w5.cell? ⟨W.heap.size + 1 + 1, 2, none⟩ = some (.int .i64 hx) := cell_gr hw5 (by go_simp)
    have cw5_2_3 : w5.cell? ⟨W.heap.size + 1 + 1, 3, none⟩ = some (.int .i64 hy) := cell_gr hw5 (by go_simp)
    have zw5_2 : W.heap.size + 1 + 1 < w5.heap.size := World.block_lt_of_cell? _ _ cw5_2_0
    have cw5_3_0 : w5.cell? ⟨w4.heap.size, 0, none⟩ = some (.int .i64 lx) := cell_gr hw5 (by go_simp)
    have cw5_3_1 : w5.cell? ⟨w4.heap.size, 1, none⟩ = some (.int .i64 ly) := cell_gr hw5 (by go_simp)
    have cw5_3_2 : w5.cell? ⟨w4.heap.size, 2, none⟩ = some (.int .i64 hx) := cell_gr hw5 (by go_simp)
    have cw5_3_3 : w5.cell? ⟨w4.heap.size, 3, none⟩ = some (.int .i64 ly) := cell_gr hw5 (by go_simp)
    have cw5_3_4 : w5.cell? ⟨w4.heap.size, 4, none⟩ = some (.int .i64 hx) := cell_gr hw5 (by go_simp)
    have cw5_3_5 : w5.cell? ⟨w4.heap.size, 5, none⟩ = some (.int .i64 hy) := cell_gr hw5 (by go_simp)
    have cw5_3_6 : w5.cell? ⟨w4.heap.size, 6, none⟩ = some (.int .i64 lx) := cell_gr hw5 (by go_simp)
    have cw5_3_7 : w5.cell? ⟨w4.heap.size, 7, none⟩ = some (.int .i64 hy) := cell_gr hw5 (by go_simp)
    have zw5_3 : w4.heap.size < w5.heap.size := World.block_lt_of_cell? _ _ cw5_3_0
    have gw5 : Gr W w5 := Gr.trans (by have gg := gw4; have gs := gg.size; go_grown) hw5
    clear hw5 gw4 zw4_0 cw4_0_0 cw4_0_1 zw4_1 cw4_1_0 cw4_1_1 zw4_2 cw4_2_0 cw4_2_1 cw4_2_2 cw4_2_3
    go_wp2_with fail
    refine wp_loop_rounds 5 ?_
    rw [rounds_succ]
    go_wp2_with fail
    go_wp2_with fail
    refine wp_region_spread (by kernel_rfl) (by kernel_rfl) ?_
    try simp only [List.append]
    repeat (first | go_big_quiet_skip | (go_big_quiet_want; go_big_quiet_op; (first | go_big_quiet_on | (apply Exists.intro; refine ⟨fun _ => ?_, ?_⟩; (· (first | (go_at_call 24; first | ((with_reducible refine ((HM0.out _)).mono ?_); rintro e w' ⟨rfl, hg⟩; exact ⟨rfl, spread_gr hg⟩)))); go_big_quiet_on))))
    refine wpQuiet_nil ?_
    intro v1 hhv1
    have hv1 := Hd.gr_of_spread hhv1
    have cv1_0_0 : v1.cell? ⟨W.heap.size, 0, none⟩ = some (.int .i64 ax) := cell_gr hv1 (by go_simp)
    have cv1_0_1 : v1.cell? ⟨W.heap.size, 1, none⟩ = some (.int .i64 ay) := cell_gr hv1 (by go_simp)
    have zv1_0 : W.heap.size < v1.heap.size := World.block_lt_of_cell? _ _ cv1_0_0
    have cv1_1_0 : v1.cell? ⟨W.heap.size + 1, 0, none⟩ = some (.int .i64 bx) := cell_gr hv1 (by go_simp)
    have cv1_1_1 : v1.cell? ⟨W.heap.size + 1, 1, none⟩ = some (.int .i64 by') := cell_gr hv1 (by go_simp)
    have zv1_1 : W.heap.size + 1 < v1.heap.size := World.block_lt_of_cell? _ _ cv1_1_0
    have cv1_2_0 : v1.cell? ⟨W.heap.size + 1 + 1, 0, none⟩ = some (.int .i64 lx) := cell_gr hv1 (by go_simp)
    have cv1_2_1 : v1.cell? ⟨W.heap.size + 1 + 1, 1, none⟩ = some (.int .i64 ly) := cell_gr hv1 (by go_simp)
    have cv1_2_2 : v1.cell? ⟨W.heap.size + 1 + 1, 2, none⟩ = some (.int .i64 hx) := cell_gr hv1 (by go_simp)
    have cv1_2_3 : v1.cell? ⟨W.heap.size + 1 + 1, 3, none⟩ = some (.int .i64 hy) := cell_gr hv1 (by go_simp)
    have zv1_2 : W.heap.size + 1 + 1 < v1.heap.size := World.block_lt_of_cell? _ _ cv1_2_0
    have cv1_3_0 : v1.cell? ⟨w4.heap.size, 0, none⟩ = some (.int .i64 lx) := cell_gr hv1 (by go_simp)
    have cv1_3_1 : v1.cell? ⟨w4.heap.size, 1, none⟩ = some (.int .i64 ly) := cell_gr hv1 (by go_simp)
    have cv1_3_2 : v1.cell? ⟨w4.heap.size, 2, none⟩ = some (.int .i64 hx) := cell_gr hv1 (by go_simp)
    have cv1_3_3 : v1.cell? ⟨w4.heap.size, 3, none⟩ = some (.int .i64 ly) := cell_gr hv1 (by go_simp)
    have cv1_3_4 : v1.cell? ⟨w4.heap.size, 4, none⟩ = some (.int .i64 hx) := cell_gr hv1 (by go_simp)
    have cv1_3_5 : v1.cell? ⟨w4.heap.size, 5, none⟩ = some (.int .i64 hy) := cell_gr hv1 (by go_simp)
    have cv1_3_6 : v1.cell? ⟨w4.heap.size, 6, none⟩ = some (.int .i64 lx) := cell_gr hv1 (by go_simp)
    have cv1_3_7 : v1.cell? ⟨w4.heap.size, 7, none⟩ = some (.int .i64 hy) := cell_gr hv1 (by go_simp)
    have zv1_3 : w4.heap.size < v1.heap.size := World.block_lt_of_cell? _ _ cv1_3_0
    have gv1 : Gr W v1 := Gr.trans (by have gg := gw5; have gs := gg.size; go_grown) hv1
    clear hv1 hhv1 gw5 zw5_0 cw5_0_0 cw5_0_1 zw5_1 cw5_1_0 cw5_1_1 zw5_2 cw5_2_0 cw5_2_1 cw5_2_2 cw5_2_3 zw5_3 cw5_3_0 cw5_3_1 cw5_3_2 cw5_3_3 cw5_3_4 cw5_3_5 cw5_3_6 cw5_3_7
    go_wp2_with fail
    rw [rounds_succ]
    go_wp2_with fail
    go_wp2_with fail
    refine wp_region_spread (by kernel_rfl) (by kernel_rfl) ?_
    try simp only [List.append]
    repeat (first | go_big_quiet_skip | (go_big_quiet_want; go_big_quiet_op; (first | go_big_quiet_on | (apply Exists.intro; refine ⟨fun _ => ?_, ?_⟩; (· (first | (go_at_call 24; first | ((with_reducible refine ((HM1.out _)).mono ?_); rintro e w' ⟨rfl, hg⟩; exact ⟨rfl, spread_gr hg⟩)))); go_big_quiet_on))))
    refine wpQuiet_nil ?_
    intro v2 hhv2
    have hv2 := Hd.gr_of_spread hhv2
    have cv2_0_0 : v2.cell? ⟨W.heap.size, 0, none⟩ = some (.int .i64 ax) := cell_gr hv2 (by go_simp)
    have cv2_0_1 : v2.cell? ⟨W.heap.size, 1, none⟩ = some (.int .i64 ay) := cell_gr hv2 (by go_simp)
    have zv2_0 : W.heap.size < v2.heap.size := World.block_lt_of_cell? _ _ cv2_0_0
    have cv2_1_0 : v2.cell? ⟨W.heap.size + 1, 0, none⟩ = some (.int .i64 bx) := cell_gr hv2 (by go_simp)
    have cv2_1_1 : v2.cell? ⟨W.heap.size + 1, 1, none⟩ = some (.int .i64 by') := cell_gr hv2 (by go_simp)
    have zv2_1 : W.heap.size + 1 < v2.heap.size := World.block_lt_of_cell? _ _ cv2_1_0
    have cv2_2_0 : v2.cell? ⟨W.heap.size + 1 + 1, 0, none⟩ = some (.int .i64 lx) := cell_gr hv2 (by go_simp)
    have cv2_2_1 : v2.cell? ⟨W.heap.size + 1 + 1, 1, none⟩ = some (.int .i64 ly) := cell_gr hv2 (by go_simp)
    have cv2_2_2 : v2.cell? ⟨W.heap.size + 1 + 1, 2, none⟩ = some (.int .i64 hx) := cell_gr hv2 (by go_simp)
    have cv2_2_3 : v2.cell? ⟨W.heap.size + 1 + 1, 3, none⟩ = some (.int .i64 hy) := cell_gr hv2 (by go_simp)
    have zv2_2 : W.heap.size + 1 + 1 < v2.heap.size := World.block_lt_of_cell? _ _ cv2_2_0
    have cv2_3_0 : v2.cell? ⟨w4.heap.size, 0, none⟩ = some (.int .i64 lx) := cell_gr hv2 (by go_simp)
    have cv2_3_1 : v2.cell? ⟨w4.heap.size, 1, none⟩ = some (.int .i64 ly) := cell_gr hv2 (by go_simp)
    have cv2_3_2 : v2.cell? ⟨w4.heap.size, 2, none⟩ = some (.int .i64 hx) := cell_gr hv2 (by go_simp)
    have cv2_3_3 : v2.cell? ⟨w4.heap.size, 3, none⟩ = some (.int .i64 ly) := cell_gr hv2 (by go_simp)
    have cv2_3_4 : v2.cell? ⟨w4.heap.size, 4, none⟩ = some (.int .i64 hx) := cell_gr hv2 (by go_simp)
    have cv2_3_5 : v2.cell? ⟨w4.heap.size, 5, none⟩ = some (.int .i64 hy) := cell_gr hv2 (by go_simp)
    have cv2_3_6 : v2.cell? ⟨w4.heap.size, 6, none⟩ = some (.int .i64 lx) := cell_gr hv2 (by go_simp)
    have cv2_3_7 : v2.cell? ⟨w4.heap.size, 7, none⟩ = some (.int .i64 hy) := cell_gr hv2 (by go_simp)
    have zv2_3 : w4.heap.size < v2.heap.size := World.block_lt_of_cell? _ _ cv2_3_0
    have gv2 : Gr W v2 := Gr.trans (by have gg := gv1; have gs := gg.size; go_grown) hv2
    clear hv2 hhv2 gv1 zv1_0 cv1_0_0 cv1_0_1 zv1_1 cv1_1_0 cv1_1_1 zv1_2 cv1_2_0 cv1_2_1 cv1_2_2 cv1_2_3 zv1_3 cv1_3_0 cv1_3_1 cv1_3_2 cv1_3_3 cv1_3_4 cv1_3_5 cv1_3_6 cv1_3_7
    go_wp2_with fail
    rw [rounds_succ]
    go_wp2_with fail
    go_wp2_with fail
    refine wp_region_spread (by kernel_rfl) (by kernel_rfl) ?_
    try simp only [List.append]
    repeat (first | go_big_quiet_skip | (go_big_quiet_want; go_big_quiet_op; (first | go_big_quiet_on | (apply Exists.intro; refine ⟨fun _ => ?_, ?_⟩; (· fail); go_big_quiet_on))))
    refine wpQuiet_nil ?_
    intro v3 hhv3
    have hv3 := Hd.gr_of_spread hhv3
    have cv3_0_0 : v3.cell? ⟨W.heap.size, 0, none⟩ = some (.int .i64 ax) := cell_gr hv3 (by go_simp)
    have cv3_0_1 : v3.cell? ⟨W.heap.size, 1, none⟩ = some (.int .i64 ay) := cell_gr hv3 (by go_simp)
    have zv3_0 : W.heap.size < v3.heap.size := World.block_lt_of_cell? _ _ cv3_0_0
    have cv3_1_0 : v3.cell? ⟨W.heap.size + 1, 0, none⟩ = some (.int .i64 bx) := cell_gr hv3 (by go_simp)
    have cv3_1_1 : v3.cell? ⟨W.heap.size + 1, 1, none⟩ = some (.int .i64 by') := cell_gr hv3 (by go_simp)
    have zv3_1 : W.heap.size + 1 < v3.heap.size := World.block_lt_of_cell? _ _ cv3_1_0
    have cv3_2_0 : v3.cell? ⟨W.heap.size + 1 + 1, 0, none⟩ = some (.int .i64 lx) := cell_gr hv3 (by go_simp)
    have cv3_2_1 : v3.cell? ⟨W.heap.size + 1 + 1, 1, none⟩ = some (.int .i64 ly) := cell_gr hv3 (by go_simp)
    have cv3_2_2 : v3.cell? ⟨W.heap.size + 1 + 1, 2, none⟩ = some (.int .i64 hx) := cell_gr hv3 (by go_simp)
    have cv3_2_3 : v3.cell? ⟨W.heap.size + 1 + 1, 3, none⟩ = some (.int .i64 hy) := cell_gr hv3 (by go_simp)
    have zv3_2 : W.heap.size + 1 + 1 < v3.heap.size := World.block_lt_of_cell? _ _ cv3_2_0
    have cv3_3_0 : v3.cell? ⟨w4.heap.size, 0, none⟩ = some (.int .i64 lx) := cell_gr hv3 (by go_simp)
    have cv3_3_1 : v3.cell? ⟨w4.heap.size, 1, none⟩ = some (.int .i64 ly) := cell_gr hv3 (by go_simp)
    have cv3_3_2 : v3.cell? ⟨w4.heap.size, 2, none⟩ = some (.int .i64 hx) := cell_gr hv3 (by go_simp)
    have cv3_3_3 : v3.cell? ⟨w4.heap.size, 3, none⟩ = some (.int .i64 ly) := cell_gr hv3 (by go_simp)
    have cv3_3_4 : v3.cell? ⟨w4.heap.size, 4, none⟩ = some (.int .i64 hx) := cell_gr hv3 (by go_simp)
    have cv3_3_5 : v3.cell? ⟨w4.heap.size, 5, none⟩ = some (.int .i64 hy) := cell_gr hv3 (by go_simp)
    have cv3_3_6 : v3.cell? ⟨w4.heap.size, 6, none⟩ = some (.int .i64 lx) := cell_gr hv3 (by go_simp)
    have cv3_3_7 : v3.cell? ⟨w4.heap.size, 7, none⟩ = some (.int .i64 hy) := cell_gr hv3 (by go_simp)
    have zv3_3 : w4.heap.size < v3.heap.size := World.block_lt_of_cell? _ _ cv3_3_0
    have gv3 : Gr W v3 := Gr.trans (by have gg := gv2; have gs := gg.size; go_grown) hv3
    clear hv3 hhv3 gv2 zv2_0 cv2_0_0 cv2_0_1 zv2_1 cv2_1_0 cv2_1_1 zv2_2 cv2_2_0 cv2_2_1 cv2_2_2 cv2_2_3 zv2_3 cv2_3_0 cv2_3_1 cv2_3_2 cv2_3_3 cv2_3_4 cv2_3_5 cv2_3_6 cv2_3_7
    go_wp2_with fail
    rw [rounds_succ]
    go_wp2_with fail
    go_wp2_with fail
    refine wp_region_spread (by kernel_rfl) (by kernel_rfl) ?_
    try simp only [List.append]
    repeat (first | go_big_quiet_skip | (go_big_quiet_want; go_big_quiet_op; (first | go_big_quiet_on | (apply Exists.intro; refine ⟨fun _ => ?_, ?_⟩; (· fail); go_big_quiet_on))))
    refine wpQuiet_nil ?_
    intro v4 hhv4
    have hv4 := Hd.gr_of_spread hhv4
    have cv4_0_0 : v4.cell? ⟨W.heap.size, 0, none⟩ = some (.int .i64 ax) := cell_gr hv4 (by go_simp)
    have cv4_0_1 : v4.cell? ⟨W.heap.size, 1, none⟩ = some (.int .i64 ay) := cell_gr hv4 (by go_simp)
    have zv4_0 : W.heap.size < v4.heap.size := World.block_lt_of_cell? _ _ cv4_0_0
    have cv4_1_0 : v4.cell? ⟨W.heap.size + 1, 0, none⟩ = some (.int .i64 bx) := cell_gr hv4 (by go_simp)
    have cv4_1_1 : v4.cell? ⟨W.heap.size + 1, 1, none⟩ = some (.int .i64 by') := cell_gr hv4 (by go_simp)
    have zv4_1 : W.heap.size + 1 < v4.heap.size := World.block_lt_of_cell? _ _ cv4_1_0
    have cv4_2_0 : v4.cell? ⟨W.heap.size + 1 + 1, 0, none⟩ = some (.int .i64 lx) := cell_gr hv4 (by go_simp)
    have cv4_2_1 : v4.cell? ⟨W.heap.size + 1 + 1, 1, none⟩ = some (.int .i64 ly) := cell_gr hv4 (by go_simp)
    have cv4_2_2 : v4.cell? ⟨W.heap.size + 1 + 1, 2, none⟩ = some (.int .i64 hx) := cell_gr hv4 (by go_simp)
    have cv4_2_3 : v4.cell? ⟨W.heap.size + 1 + 1, 3, none⟩ = some (.int .i64 hy) := cell_gr hv4 (by go_simp)
    have zv4_2 : W.heap.size + 1 + 1 < v4.heap.size := World.block_lt_of_cell? _ _ cv4_2_0
    have cv4_3_0 : v4.cell? ⟨w4.heap.size, 0, none⟩ = some (.int .i64 lx) := cell_gr hv4 (by go_simp)
    have cv4_3_1 : v4.cell? ⟨w4.heap.size, 1, none⟩ = some (.int .i64 ly) := cell_gr hv4 (by go_simp)
    have cv4_3_2 : v4.cell? ⟨w4.heap.size, 2, none⟩ = some (.int .i64 hx) := cell_gr hv4 (by go_simp)
    have cv4_3_3 : v4.cell? ⟨w4.heap.size, 3, none⟩ = some (.int .i64 ly) := cell_gr hv4 (by go_simp)
    have cv4_3_4 : v4.cell? ⟨w4.heap.size, 4, none⟩ = some (.int .i64 hx) := cell_gr hv4 (by go_simp)
    have cv4_3_5 : v4.cell? ⟨w4.heap.size, 5, none⟩ = some (.int .i64 hy) := cell_gr hv4 (by go_simp)
    have cv4_3_6 : v4.cell? ⟨w4.heap.size, 6, none⟩ = some (.int .i64 lx) := cell_gr hv4 (by go_simp)
    have cv4_3_7 : v4.cell? ⟨w4.heap.size, 7, none⟩ = some (.int .i64 hy) := cell_gr hv4 (by go_simp)
    have zv4_3 : w4.heap.size < v4.heap.size := World.block_lt_of_cell? _ _ cv4_3_0
    have gv4 : Gr W v4 := Gr.trans (by have gg := gv3; have gs := gg.size; go_grown) hv4
    clear hv4 hhv4 gv3 zv3_0 cv3_0_0 cv3_0_1 zv3_1 cv3_1_0 cv3_1_1 zv3_2 cv3_2_0 cv3_2_1 cv3_2_2 cv3_2_3 zv3_3 cv3_3_0 cv3_3_1 cv3_3_2 cv3_3_3 cv3_3_4 cv3_3_5 cv3_3_6 cv3_3_7
    go_wp2_with fail
    rw [rounds_succ]
    go_wp2_with fail
    refine wp_region_spread (by kernel_rfl) (by kernel_rfl) ?_
    try simp only [List.append]
    repeat (first | go_big_quiet_skip | (go_big_quiet_want; go_big_quiet_op; (first | go_big_quiet_on | (apply Exists.intro; refine ⟨fun _ => ?_, ?_⟩; (· (first | (go_at_call 28; first | ((with_reducible refine ((H6.out _)).mono ?_); rintro e w' ⟨rfl, hg⟩; exact ⟨rfl, spread_gr hg⟩) | ((with_reducible refine ((H7.out _)).mono ?_); rintro e w' ⟨rfl, hg⟩; exact ⟨rfl, spread_gr hg⟩)) | (go_at_call 22; first | ((with_reducible refine ((H8.out _)).mono ?_); rintro e w' ⟨rfl, hg⟩; exact ⟨rfl, spread_gr hg⟩)) | (go_at_call 32; first | ((with_reducible refine ((s4_awake _)).mono ?_); rintro e w' ⟨rfl, hg⟩; exact ⟨rfl, spread_gr hg⟩)))); go_big_quiet_on))))
    refine wpQuiet_nil ?_
    intro wr hr
    obtain ⟨mr, rfl⟩ := hr
    go_wp2_with fail
    go_ret
    exact ⟨rfl, Gr.trans (by have gg := gv4; have gs := gg.size; go_grown) (gr_spread _ _)⟩
set_option maxHeartbeats 8000000 in
set_option maxRecDepth 100000 in
theorem boxes_m2 (ax ay bx by' lx ly hx hy : Int) (on : Bool) (W : World)
    (A1 : ∀ w, Calls Try.prog 28 #[.agg #[.int .i64 ax, .int .i64 ay], .agg #[.int .i64 bx, .int .i64 by'], .agg #[.int .i64 lx, .int .i64 ly, .int .i64 hx, .int .i64 hy]] w fun e w' => e = .returned (.bool true) ∧ Gr w w')
    (A2 : ∀ w, Calls Try.prog 34 #[.agg #[.int .i64 lx, .int .i64 ly, .int .i64 hx, .int .i64 hy]] w fun e w' => e = .returned (.int .i64 0) ∧ Gr w w')
    (A3 : ∀ w, Calls Try.prog 14 #[.agg #[.int .i64 ax, .int .i64 ay]] w fun e w' => e = .returned (.bool true) ∧ Gr w w')
    (A4 : ∀ w, Calls Try.prog 14 #[.agg #[.int .i64 bx, .int .i64 by']] w fun e w' => e = .returned (.bool true) ∧ Gr w w')
    (A5 : ∀ w, Calls Try.prog 35 #[.agg #[.int .i64 lx, .int .i64 ly, .int .i64 hx, .int .i64 hy], .agg #[.int .i64 ax, .int .i64 ay]] w fun e w' => e = .returned (.bool false) ∧ Gr w w')
    (M0 : ∀ w, Calls Try.prog 24 #[.agg #[.int .i64 ax, .int .i64 ay], .agg #[.int .i64 bx, .int .i64 by'], .agg #[.int .i64 lx, .int .i64 ly], .agg #[.int .i64 hx, .int .i64 ly]] w fun e w' => e = .returned (.bool false) ∧ Gr w w')
    (M1 : ∀ w, Calls Try.prog 24 #[.agg #[.int .i64 ax, .int .i64 ay], .agg #[.int .i64 bx, .int .i64 by'], .agg #[.int .i64 hx, .int .i64 ly], .agg #[.int .i64 hx, .int .i64 hy]] w fun e w' => e = .returned (.bool false) ∧ Gr w w')
    (M2 : ∀ w, Calls Try.prog 24 #[.agg #[.int .i64 ax, .int .i64 ay], .agg #[.int .i64 bx, .int .i64 by'], .agg #[.int .i64 hx, .int .i64 hy], .agg #[.int .i64 lx, .int .i64 hy]] w fun e w' => e = .returned (.bool true) ∧ Gr w w')
    (A6 : ∀ w, Calls Try.prog 28 #[.agg #[.int .i64 bx, .int .i64 by'], .agg #[.int .i64 ax, .int .i64 ay], .agg #[.int .i64 lx, .int .i64 ly, .int .i64 hx, .int .i64 hy]] w fun e w' => e = .returned (.bool true) ∧ Gr w w')
    (A7 : ∀ w, Calls Try.prog 28 #[.agg #[.int .i64 ax, .int .i64 ay], .agg #[.int .i64 bx, .int .i64 by'], .agg #[.int .i64 lx, .int .i64 ly, .int .i64 lx, .int .i64 ly]] w fun e w' => e = .returned (.bool on) ∧ Gr w w')
    (A8 : ∀ w, Calls Try.prog 22 #[.agg #[.int .i64 ax, .int .i64 ay], .agg #[.int .i64 bx, .int .i64 by'], .agg #[.int .i64 lx, .int .i64 ly]] w fun e w' => e = .returned (.bool on) ∧ Gr w w') :
    Calls Try.prog 7 #[.agg #[.int .i64 ax, .int .i64 ay], .agg #[.int .i64 bx, .int .i64 by'], .agg #[.int .i64 lx, .int .i64 ly, .int .i64 hx, .int .i64 hy]] W fun e w' => e = .returned (.bool true) ∧ Gr W w' := by
  have H1 := Lib.hid A1
  have H2 := Lib.hid A2
  have H3 := Lib.hid A3
  have H4 := Lib.hid A4
  have H5 := Lib.hid A5
  have H6 := Lib.hid A6
  have H7 := Lib.hid A7
  have H8 := Lib.hid A8
  clear A1 A2 A3 A4 A5 A6 A7 A8
  have HM0 := Lib.hid M0
  have HM1 := Lib.hid M1
  have HM2 := Lib.hid M2
  clear M0 M1 M2
  cases on
  all_goals
    go_enter Try.func7, Try.ntmps7
    go_wp2_with fail
    go_at_call 28
    refine ((H1.out _)).mono ?_
    rintro e w1 ⟨rfl, hw1⟩
    have cw1_0_0 : w1.cell? ⟨W.heap.size, 0, none⟩ = some (.int .i64 ax) := cell_gr hw1 (by go_simp)
    have cw1_0_1 : w1.cell? ⟨W.heap.size, 1, none⟩ = some (.int .i64 ay) := cell_gr hw1 (by go_simp)
    have zw1_0 : W.heap.size < w1.heap.size := World.block_lt_of_cell? _ _ cw1_0_0
    have cw1_1_0 : w1.cell? ⟨W.heap.size + 1, 0, none⟩ = some (.int .i64 bx) := cell_gr hw1 (by go_simp)
    have cw1_1_1 : w1.cell? ⟨W.heap.size + 1, 1, none⟩ = some (.int .i64 by') := cell_gr hw1 (by go_simp)
    have zw1_1 : W.heap.size + 1 < w1.heap.size := World.block_lt_of_cell? _ _ cw1_1_0
    have cw1_2_0 : w1.cell? ⟨W.heap.size + 1 + 1, 0, none⟩ = some (.int .i64 lx) := cell_gr hw1 (by go_simp)
    have cw1_2_1 : w1.cell? ⟨W.heap.size + 1 + 1, 1, none⟩ = some (.int .i64 ly) := cell_gr hw1 (by go_simp)
    have cw1_2_2 : w1.cell? ⟨W.heap.size + 1 + 1, 2, none⟩ = some (.int .i64 hx) := cell_gr hw1 (by go_simp)
    have cw1_2_3 : w1.cell? ⟨W.heap.size + 1 + 1, 3, none⟩ = some (.int .i64 hy) := cell_gr hw1 (by go_simp)
    have zw1_2 : W.heap.size + 1 + 1 < w1.heap.size := World.block_lt_of_cell? _ _ cw1_2_0
    have gw1 : Gr W w1 := Gr.trans (by go_grown) hw1
    clear hw1
    go_wp2_with fail
    go_at_call 34
    refine ((H2.out _)).mono ?_
    rintro e w2 ⟨rfl, hw2⟩
    have cw2_0_0 : w2.cell? ⟨W.heap.size, 0, none⟩ = some (.int .i64 ax) := cell_gr hw2 (by go_simp)
    have cw2_0_1 : w2.cell? ⟨W.heap.size, 1, none⟩ = some (.int .i64 ay) := cell_gr hw2 (by go_simp)
    have zw2_0 : W.heap.size < w2.heap.size := World.block_lt_of_cell? _ _ cw2_0_0
    have cw2_1_0 : w2.cell? ⟨W.heap.size + 1, 0, none⟩ = some (.int .i64 bx) := cell_gr hw2 (by go_simp)
    have cw2_1_1 : w2.cell? ⟨W.heap.size + 1, 1, none⟩ = some (.int .i64 by') := cell_gr hw2 (by go_simp)
    have zw2_1 : W.heap.size + 1 < w2.heap.size := World.block_lt_of_cell? _ _ cw2_1_0
    have cw2_2_0 : w2.cell? ⟨W.heap.size + 1 + 1, 0, none⟩ = some (.int .i64 lx) := cell_gr hw2 (by go_simp)
    have cw2_2_1 : w2.cell? ⟨W.heap.size + 1 + 1, 1, none⟩ = some (.int .i64 ly) := cell_gr hw2 (by go_simp)
    have cw2_2_2 : w2.cell? ⟨W.heap.size + 1 + 1, 2, none⟩ = some (.int .i64 hx) := cell_gr hw2 (by go_simp)
    have cw2_2_3 : w2.cell? ⟨W.heap.size + 1 + 1, 3, none⟩ = some (.int .i64 hy) := cell_gr hw2 (by go_simp)
    have zw2_2 : W.heap.size + 1 + 1 < w2.heap.size := World.block_lt_of_cell? _ _ cw2_2_0
    have gw2 : Gr W w2 := Gr.trans (by have gg := gw1; have gs := gg.size; go_grown) hw2
    clear hw2 gw1 zw1_0 cw1_0_0 cw1_0_1 zw1_1 cw1_1_0 cw1_1_1 zw1_2 cw1_2_0 cw1_2_1 cw1_2_2 cw1_2_3
    go_wp2_with fail
    go_at_call 14
    refine ((H3.out _)).mono ?_
    rintro e w3 ⟨rfl, hw3⟩
    have cw3_0_0 : w3.cell? ⟨W.heap.size, 0, none⟩ = some (.int .i64 ax) := cell_gr hw3 (by go_simp)
    have cw3_0_1 : w3.cell? ⟨W.heap.size, 1, none⟩ = some (.int .i64 ay) := cell_gr hw3 (by go_simp)
    have zw3_0 : W.heap.size < w3.heap.size := World.block_lt_of_cell? _ _ cw3_0_0
    have cw3_1_0 : w3.cell? ⟨W.heap.size + 1, 0, none⟩ = some (.int .i64 bx) := cell_gr hw3 (by go_simp)
    have cw3_1_1 : w3.cell? ⟨W.heap.size + 1, 1, none⟩ = some (.int .i64 by') := cell_gr hw3 (by go_simp)
    have zw3_1 : W.heap.size + 1 < w3.heap.size := World.block_lt_of_cell? _ _ cw3_1_0
    have cw3_2_0 : w3.cell? ⟨W.heap.size + 1 + 1, 0, none⟩ = some (.int .i64 lx) := cell_gr hw3 (by go_simp)
    have cw3_2_1 : w3.cell? ⟨W.heap.size + 1 + 1, 1, none⟩ = some (.int .i64 ly) := cell_gr hw3 (by go_simp)
    have cw3_2_2 : w3.cell? ⟨W.heap.size + 1 + 1, 2, none⟩ = some (.int .i64 hx) := cell_gr hw3 (by go_simp)
    have cw3_2_3 : w3.cell? ⟨W.heap.size + 1 + 1, 3, none⟩ = some (.int .i64 hy) := cell_gr hw3 (by go_simp)
    have zw3_2 : W.heap.size + 1 + 1 < w3.heap.size := World.block_lt_of_cell? _ _ cw3_2_0
    have gw3 : Gr W w3 := Gr.trans (by have gg := gw2; have gs := gg.size; go_grown) hw3
    clear hw3 gw2 zw2_0 cw2_0_0 cw2_0_1 zw2_1 cw2_1_0 cw2_1_1 zw2_2 cw2_2_0 cw2_2_1 cw2_2_2 cw2_2_3
    go_wp2_with fail
    go_at_call 14
    refine ((H4.out _)).mono ?_
    rintro e w4 ⟨rfl, hw4⟩
    have cw4_0_0 : w4.cell? ⟨W.heap.size, 0, none⟩ = some (.int .i64 ax) := cell_gr hw4 (by go_simp)
    have cw4_0_1 : w4.cell? ⟨W.heap.size, 1, none⟩ = some (.int .i64 ay) := cell_gr hw4 (by go_simp)
    have zw4_0 : W.heap.size < w4.heap.size := World.block_lt_of_cell? _ _ cw4_0_0
    have cw4_1_0 : w4.cell? ⟨W.heap.size + 1, 0, none⟩ = some (.int .i64 bx) := cell_gr hw4 (by go_simp)
    have cw4_1_1 : w4.cell? ⟨W.heap.size + 1, 1, none⟩ = some (.int .i64 by') := cell_gr hw4 (by go_simp)
    have zw4_1 : W.heap.size + 1 < w4.heap.size := World.block_lt_of_cell? _ _ cw4_1_0
    have cw4_2_0 : w4.cell? ⟨W.heap.size + 1 + 1, 0, none⟩ = some (.int .i64 lx) := cell_gr hw4 (by go_simp)
    have cw4_2_1 : w4.cell? ⟨W.heap.size + 1 + 1, 1, none⟩ = some (.int .i64 ly) := cell_gr hw4 (by go_simp)
    have cw4_2_2 : w4.cell? ⟨W.heap.size + 1 + 1, 2, none⟩ = some (.int .i64 hx) := cell_gr hw4 (by go_simp)
    have cw4_2_3 : w4.cell? ⟨W.heap.size + 1 + 1, 3, none⟩ = some (.int .i64 hy) := cell_gr hw4 (by go_simp)
    have zw4_2 : W.heap.size + 1 + 1 < w4.heap.size := World.block_lt_of_cell? _ _ cw4_2_0
    have gw4 : Gr W w4 := Gr.trans (by have gg := gw3; have gs := gg.size; go_grown) hw4
    clear hw4 gw3 zw3_0 cw3_0_0 cw3_0_1 zw3_1 cw3_1_0 cw3_1_1 zw3_2 cw3_2_0 cw3_2_1 cw3_2_2 cw3_2_3
    go_wp2_with fail
    go_at_call 35
    refine ((H5.out _)).mono ?_
    rintro e w5 ⟨rfl, hw5⟩
    have cw5_0_0 : w5.cell? ⟨W.heap.size, 0, none⟩ = some (.int .i64 ax) := cell_gr hw5 (by go_simp)
    have cw5_0_1 : w5.cell? ⟨W.heap.size, 1, none⟩ = some (.int .i64 ay) := cell_gr hw5 (by go_simp)
    have zw5_0 : W.heap.size < w5.heap.size := World.block_lt_of_cell? _ _ cw5_0_0
    have cw5_1_0 : w5.cell? ⟨W.heap.size + 1, 0, none⟩ = some (.int .i64 bx) := cell_gr hw5 (by go_simp)
    have cw5_1_1 : w5.cell? ⟨W.heap.size + 1, 1, none⟩ = some (.int .i64 by') := cell_gr hw5 (by go_simp)
    have zw5_1 : W.heap.size + 1 < w5.heap.size := World.block_lt_of_cell? _ _ cw5_1_0
    have cw5_2_0 : w5.cell? ⟨W.heap.size + 1 + 1, 0, none⟩ = some (.int .i64 lx) := cell_gr hw5 (by go_simp)
    have cw5_2_1 : w5.cell? ⟨W.heap.size + 1 + 1, 1, none⟩ = some (.int .i64 ly) := cell_gr hw5 (by go_simp)
    have cw5_2_2 : w5.cell? ⟨W.heap.size + 1 + 1, 2, none⟩ = some (.int .i64 hx) := cell_gr hw5 (by go_simp)
    have cw5_2_3 : w5.cell? ⟨W.heap.size + 1 + 1, 3, none⟩ = some (.int .i64 hy) := cell_gr hw5 (by go_simp)
    have zw5_2 : W.heap.size + 1 + 1 < w5.heap.size := World.block_lt_of_cell? _ _ cw5_2_0
    have cw5_3_0 : w5.cell? ⟨w4.heap.size, 0, none⟩ = some (.int .i64 lx) := cell_gr hw5 (by go_simp)
    have cw5_3_1 : w5.cell? ⟨w4.heap.size, 1, none⟩ = some (.int .i64 ly) := cell_gr hw5 (by go_simp)
    have cw5_3_2 : w5.cell? ⟨w4.heap.size, 2, none⟩ = some (.int .i64 hx) := cell_gr hw5 (by go_simp)
    have cw5_3_3 : w5.cell? ⟨w4.heap.size, 3, none⟩ = some (.int .i64 ly) := cell_gr hw5 (by go_simp)
    have cw5_3_4 : w5.cell? ⟨w4.heap.size, 4, none⟩ = some (.int .i64 hx) := cell_gr hw5 (by go_simp)
    have cw5_3_5 : w5.cell? ⟨w4.heap.size, 5, none⟩ = some (.int .i64 hy) := cell_gr hw5 (by go_simp)
    have cw5_3_6 : w5.cell? ⟨w4.heap.size, 6, none⟩ = some (.int .i64 lx) := cell_gr hw5 (by go_simp)
    have cw5_3_7 : w5.cell? ⟨w4.heap.size, 7, none⟩ = some (.int .i64 hy) := cell_gr hw5 (by go_simp)
    have zw5_3 : w4.heap.size < w5.heap.size := World.block_lt_of_cell? _ _ cw5_3_0
    have gw5 : Gr W w5 := Gr.trans (by have gg := gw4; have gs := gg.size; go_grown) hw5
    clear hw5 gw4 zw4_0 cw4_0_0 cw4_0_1 zw4_1 cw4_1_0 cw4_1_1 zw4_2 cw4_2_0 cw4_2_1 cw4_2_2 cw4_2_3
    go_wp2_with fail
    refine wp_loop_rounds 5 ?_
    rw [rounds_succ]
    go_wp2_with fail
    go_wp2_with fail
    refine wp_region_spread (by kernel_rfl) (by kernel_rfl) ?_
    try simp only [List.append]
    repeat (first | go_big_quiet_skip | (go_big_quiet_want; go_big_quiet_op; (first | go_big_quiet_on | (apply Exists.intro; refine ⟨fun _ => ?_, ?_⟩; (· (first | (go_at_call 24; first | ((with_reducible refine ((HM0.out _)).mono ?_); rintro e w' ⟨rfl, hg⟩; exact ⟨rfl, spread_gr hg⟩)))); go_big_quiet_on))))
    refine wpQuiet_nil ?_
    intro v1 hhv1
    have hv1 := Hd.gr_of_spread hhv1
    have cv1_0_0 : v1.cell? ⟨W.heap.size, 0, none⟩ = some (.int .i64 ax) := cell_gr hv1 (by go_simp)
    have cv1_0_1 : v1.cell? ⟨W.heap.size, 1, none⟩ = some (.int .i64 ay) := cell_gr hv1 (by go_simp)
    have zv1_0 : W.heap.size < v1.heap.size := World.block_lt_of_cell? _ _ cv1_0_0
    have cv1_1_0 : v1.cell? ⟨W.heap.size + 1, 0, none⟩ = some (.int .i64 bx) := cell_gr hv1 (by go_simp)
    have cv1_1_1 : v1.cell? ⟨W.heap.size + 1, 1, none⟩ = some (.int .i64 by') := cell_gr hv1 (by go_simp)
    have zv1_1 : W.heap.size + 1 < v1.heap.size := World.block_lt_of_cell? _ _ cv1_1_0
    have cv1_2_0 : v1.cell? ⟨W.heap.size + 1 + 1, 0, none⟩ = some (.int .i64 lx) := cell_gr hv1 (by go_simp)
    have cv1_2_1 : v1.cell? ⟨W.heap.size + 1 + 1, 1, none⟩ = some (.int .i64 ly) := cell_gr hv1 (by go_simp)
    have cv1_2_2 : v1.cell? ⟨W.heap.size + 1 + 1, 2, none⟩ = some (.int .i64 hx) := cell_gr hv1 (by go_simp)
    have cv1_2_3 : v1.cell? ⟨W.heap.size + 1 + 1, 3, none⟩ = some (.int .i64 hy) := cell_gr hv1 (by go_simp)
    have zv1_2 : W.heap.size + 1 + 1 < v1.heap.size := World.block_lt_of_cell? _ _ cv1_2_0
    have cv1_3_0 : v1.cell? ⟨w4.heap.size, 0, none⟩ = some (.int .i64 lx) := cell_gr hv1 (by go_simp)
    have cv1_3_1 : v1.cell? ⟨w4.heap.size, 1, none⟩ = some (.int .i64 ly) := cell_gr hv1 (by go_simp)
    have cv1_3_2 : v1.cell? ⟨w4.heap.size, 2, none⟩ = some (.int .i64 hx) := cell_gr hv1 (by go_simp)
    have cv1_3_3 : v1.cell? ⟨w4.heap.size, 3, none⟩ = some (.int .i64 ly) := cell_gr hv1 (by go_simp)
    have cv1_3_4 : v1.cell? ⟨w4.heap.size, 4, none⟩ = some (.int .i64 hx) := cell_gr hv1 (by go_simp)
    have cv1_3_5 : v1.cell? ⟨w4.heap.size, 5, none⟩ = some (.int .i64 hy) := cell_gr hv1 (by go_simp)
    have cv1_3_6 : v1.cell? ⟨w4.heap.size, 6, none⟩ = some (.int .i64 lx) := cell_gr hv1 (by go_simp)
    have cv1_3_7 : v1.cell? ⟨w4.heap.size, 7, none⟩ = some (.int .i64 hy) := cell_gr hv1 (by go_simp)
    have zv1_3 : w4.heap.size < v1.heap.size := World.block_lt_of_cell? _ _ cv1_3_0
    have gv1 : Gr W v1 := Gr.trans (by have gg := gw5; have gs := gg.size; go_grown) hv1
    clear hv1 hhv1 gw5 zw5_0 cw5_0_0 cw5_0_1 zw5_1 cw5_1_0 cw5_1_1 zw5_2 cw5_2_0 cw5_2_1 cw5_2_2 cw5_2_3 zw5_3 cw5_3_0 cw5_3_1 cw5_3_2 cw5_3_3 cw5_3_4 cw5_3_5 cw5_3_6 cw5_3_7
    go_wp2_with fail
    rw [rounds_succ]
    go_wp2_with fail
    go_wp2_with fail
    refine wp_region_spread (by kernel_rfl) (by kernel_rfl) ?_
    try simp only [List.append]
    repeat (first | go_big_quiet_skip | (go_big_quiet_want; go_big_quiet_op; (first | go_big_quiet_on | (apply Exists.intro; refine ⟨fun _ => ?_, ?_⟩; (· (first | (go_at_call 24; first | ((with_reducible refine ((HM1.out _)).mono ?_); rintro e w' ⟨rfl, hg⟩; exact ⟨rfl, spread_gr hg⟩)))); go_big_quiet_on))))
    refine wpQuiet_nil ?_
    intro v2 hhv2
    have hv2 := Hd.gr_of_spread hhv2
    have cv2_0_0 : v2.cell? ⟨W.heap.size, 0, none⟩ = some (.int .i64 ax) := cell_gr hv2 (by go_simp)
    have cv2_0_1 : v2.cell? ⟨W.heap.size, 1, none⟩ = some (.int .i64 ay) := cell_gr hv2 (by go_simp)
    have zv2_0 : W.heap.size < v2.heap.size := World.block_lt_of_cell? _ _ cv2_0_0
    have cv2_1_0 : v2.cell? ⟨W.heap.size + 1, 0, none⟩ = some (.int .i64 bx) := cell_gr hv2 (by go_simp)
    have cv2_1_1 : v2.cell? ⟨W.heap.size + 1, 1, none⟩ = some (.int .i64 by') := cell_gr hv2 (by go_simp)
    have zv2_1 : W.heap.size + 1 < v2.heap.size := World.block_lt_of_cell? _ _ cv2_1_0
    have cv2_2_0 : v2.cell? ⟨W.heap.size + 1 + 1, 0, none⟩ = some (.int .i64 lx) := cell_gr hv2 (by go_simp)
    have cv2_2_1 : v2.cell? ⟨W.heap.size + 1 + 1, 1, none⟩ = some (.int .i64 ly) := cell_gr hv2 (by go_simp)
    have cv2_2_2 : v2.cell? ⟨W.heap.size + 1 + 1, 2, none⟩ = some (.int .i64 hx) := cell_gr hv2 (by go_simp)
    have cv2_2_3 : v2.cell? ⟨W.heap.size + 1 + 1, 3, none⟩ = some (.int .i64 hy) := cell_gr hv2 (by go_simp)
    have zv2_2 : W.heap.size + 1 + 1 < v2.heap.size := World.block_lt_of_cell? _ _ cv2_2_0
    have cv2_3_0 : v2.cell? ⟨w4.heap.size, 0, none⟩ = some (.int .i64 lx) := cell_gr hv2 (by go_simp)
    have cv2_3_1 : v2.cell? ⟨w4.heap.size, 1, none⟩ = some (.int .i64 ly) := cell_gr hv2 (by go_simp)
    have cv2_3_2 : v2.cell? ⟨w4.heap.size, 2, none⟩ = some (.int .i64 hx) := cell_gr hv2 (by go_simp)
    have cv2_3_3 : v2.cell? ⟨w4.heap.size, 3, none⟩ = some (.int .i64 ly) := cell_gr hv2 (by go_simp)
    have cv2_3_4 : v2.cell? ⟨w4.heap.size, 4, none⟩ = some (.int .i64 hx) := cell_gr hv2 (by go_simp)
    have cv2_3_5 : v2.cell? ⟨w4.heap.size, 5, none⟩ = some (.int .i64 hy) := cell_gr hv2 (by go_simp)
    have cv2_3_6 : v2.cell? ⟨w4.heap.size, 6, none⟩ = some (.int .i64 lx) := cell_gr hv2 (by go_simp)
    have cv2_3_7 : v2.cell? ⟨w4.heap.size, 7, none⟩ = some (.int .i64 hy) := cell_gr hv2 (by go_simp)
    have zv2_3 : w4.heap.size < v2.heap.size := World.block_lt_of_cell? _ _ cv2_3_0
    have gv2 : Gr W v2 := Gr.trans (by have gg := gv1; have gs := gg.size; go_grown) hv2
    clear hv2 hhv2 gv1 zv1_0 cv1_0_0 cv1_0_1 zv1_1 cv1_1_0 cv1_1_1 zv1_2 cv1_2_0 cv1_2_1 cv1_2_2 cv1_2_3 zv1_3 cv1_3_0 cv1_3_1 cv1_3_2 cv1_3_3 cv1_3_4 cv1_3_5 cv1_3_6 cv1_3_7
    go_wp2_with fail
    rw [rounds_succ]
    go_wp2_with fail
    go_wp2_with fail
    refine wp_region_spread (by kernel_rfl) (by kernel_rfl) ?_
    try simp only [List.append]
    repeat (first | go_big_quiet_skip | (go_big_quiet_want; go_big_quiet_op; (first | go_big_quiet_on | (apply Exists.intro; refine ⟨fun _ => ?_, ?_⟩; (· (first | (go_at_call 24; first | ((with_reducible refine ((HM2.out _)).mono ?_); rintro e w' ⟨rfl, hg⟩; exact ⟨rfl, spread_gr hg⟩)))); go_big_quiet_on))))
    refine wpQuiet_nil ?_
    intro v3 hhv3
    have hv3 := Hd.gr_of_spread hhv3
    have cv3_0_0 : v3.cell? ⟨W.heap.size, 0, none⟩ = some (.int .i64 ax) := cell_gr hv3 (by go_simp)
    have cv3_0_1 : v3.cell? ⟨W.heap.size, 1, none⟩ = some (.int .i64 ay) := cell_gr hv3 (by go_simp)
    have zv3_0 : W.heap.size < v3.heap.size := World.block_lt_of_cell? _ _ cv3_0_0
    have cv3_1_0 : v3.cell? ⟨W.heap.size + 1, 0, none⟩ = some (.int .i64 bx) := cell_gr hv3 (by go_simp)
    have cv3_1_1 : v3.cell? ⟨W.heap.size + 1, 1, none⟩ = some (.int .i64 by') := cell_gr hv3 (by go_simp)
    have zv3_1 : W.heap.size + 1 < v3.heap.size := World.block_lt_of_cell? _ _ cv3_1_0
    have cv3_2_0 : v3.cell? ⟨W.heap.size + 1 + 1, 0, none⟩ = some (.int .i64 lx) := cell_gr hv3 (by go_simp)
    have cv3_2_1 : v3.cell? ⟨W.heap.size + 1 + 1, 1, none⟩ = some (.int .i64 ly) := cell_gr hv3 (by go_simp)
    have cv3_2_2 : v3.cell? ⟨W.heap.size + 1 + 1, 2, none⟩ = some (.int .i64 hx) := cell_gr hv3 (by go_simp)
    have cv3_2_3 : v3.cell? ⟨W.heap.size + 1 + 1, 3, none⟩ = some (.int .i64 hy) := cell_gr hv3 (by go_simp)
    have zv3_2 : W.heap.size + 1 + 1 < v3.heap.size := World.block_lt_of_cell? _ _ cv3_2_0
    have cv3_3_0 : v3.cell? ⟨w4.heap.size, 0, none⟩ = some (.int .i64 lx) := cell_gr hv3 (by go_simp)
    have cv3_3_1 : v3.cell? ⟨w4.heap.size, 1, none⟩ = some (.int .i64 ly) := cell_gr hv3 (by go_simp)
    have cv3_3_2 : v3.cell? ⟨w4.heap.size, 2, none⟩ = some (.int .i64 hx) := cell_gr hv3 (by go_simp)
    have cv3_3_3 : v3.cell? ⟨w4.heap.size, 3, none⟩ = some (.int .i64 ly) := cell_gr hv3 (by go_simp)
    have cv3_3_4 : v3.cell? ⟨w4.heap.size, 4, none⟩ = some (.int .i64 hx) := cell_gr hv3 (by go_simp)
    have cv3_3_5 : v3.cell? ⟨w4.heap.size, 5, none⟩ = some (.int .i64 hy) := cell_gr hv3 (by go_simp)
    have cv3_3_6 : v3.cell? ⟨w4.heap.size, 6, none⟩ = some (.int .i64 lx) := cell_gr hv3 (by go_simp)
    have cv3_3_7 : v3.cell? ⟨w4.heap.size, 7, none⟩ = some (.int .i64 hy) := cell_gr hv3 (by go_simp)
    have zv3_3 : w4.heap.size < v3.heap.size := World.block_lt_of_cell? _ _ cv3_3_0
    have gv3 : Gr W v3 := Gr.trans (by have gg := gv2; have gs := gg.size; go_grown) hv3
    clear hv3 hhv3 gv2 zv2_0 cv2_0_0 cv2_0_1 zv2_1 cv2_1_0 cv2_1_1 zv2_2 cv2_2_0 cv2_2_1 cv2_2_2 cv2_2_3 zv2_3 cv2_3_0 cv2_3_1 cv2_3_2 cv2_3_3 cv2_3_4 cv2_3_5 cv2_3_6 cv2_3_7
    go_wp2_with fail
    rw [rounds_succ]
    go_wp2_with fail
    go_wp2_with fail
    refine wp_region_spread (by kernel_rfl) (by kernel_rfl) ?_
    try simp only [List.append]
    repeat (first | go_big_quiet_skip | (go_big_quiet_want; go_big_quiet_op; (first | go_big_quiet_on | (apply Exists.intro; refine ⟨fun _ => ?_, ?_⟩; (· fail); go_big_quiet_on))))
    refine wpQuiet_nil ?_
    intro v4 hhv4
    have hv4 := Hd.gr_of_spread hhv4
    have cv4_0_0 : v4.cell? ⟨W.heap.size, 0, none⟩ = some (.int .i64 ax) := cell_gr hv4 (by go_simp)
    have cv4_0_1 : v4.cell? ⟨W.heap.size, 1, none⟩ = some (.int .i64 ay) := cell_gr hv4 (by go_simp)
    have zv4_0 : W.heap.size < v4.heap.size := World.block_lt_of_cell? _ _ cv4_0_0
    have cv4_1_0 : v4.cell? ⟨W.heap.size + 1, 0, none⟩ = some (.int .i64 bx) := cell_gr hv4 (by go_simp)
    have cv4_1_1 : v4.cell? ⟨W.heap.size + 1, 1, none⟩ = some (.int .i64 by') := cell_gr hv4 (by go_simp)
    have zv4_1 : W.heap.size + 1 < v4.heap.size := World.block_lt_of_cell? _ _ cv4_1_0
    have cv4_2_0 : v4.cell? ⟨W.heap.size + 1 + 1, 0, none⟩ = some (.int .i64 lx) := cell_gr hv4 (by go_simp)
    have cv4_2_1 : v4.cell? ⟨W.heap.size + 1 + 1, 1, none⟩ = some (.int .i64 ly) := cell_gr hv4 (by go_simp)
    have cv4_2_2 : v4.cell? ⟨W.heap.size + 1 + 1, 2, none⟩ = some (.int .i64 hx) := cell_gr hv4 (by go_simp)
    have cv4_2_3 : v4.cell? ⟨W.heap.size + 1 + 1, 3, none⟩ = some (.int .i64 hy) := cell_gr hv4 (by go_simp)
    have zv4_2 : W.heap.size + 1 + 1 < v4.heap.size := World.block_lt_of_cell? _ _ cv4_2_0
    have cv4_3_0 : v4.cell? ⟨w4.heap.size, 0, none⟩ = some (.int .i64 lx) := cell_gr hv4 (by go_simp)
    have cv4_3_1 : v4.cell? ⟨w4.heap.size, 1, none⟩ = some (.int .i64 ly) := cell_gr hv4 (by go_simp)
    have cv4_3_2 : v4.cell? ⟨w4.heap.size, 2, none⟩ = some (.int .i64 hx) := cell_gr hv4 (by go_simp)
    have cv4_3_3 : v4.cell? ⟨w4.heap.size, 3, none⟩ = some (.int .i64 ly) := cell_gr hv4 (by go_simp)
    have cv4_3_4 : v4.cell? ⟨w4.heap.size, 4, none⟩ = some (.int .i64 hx) := cell_gr hv4 (by go_simp)
    have cv4_3_5 : v4.cell? ⟨w4.heap.size, 5, none⟩ = some (.int .i64 hy) := cell_gr hv4 (by go_simp)
    have cv4_3_6 : v4.cell? ⟨w4.heap.size, 6, none⟩ = some (.int .i64 lx) := cell_gr hv4 (by go_simp)
    have cv4_3_7 : v4.cell? ⟨w4.heap.size, 7, none⟩ = some (.int .i64 hy) := cell_gr hv4 (by go_simp)
    have zv4_3 : w4.heap.size < v4.heap.size := World.block_lt_of_cell? _ _ cv4_3_0
    have gv4 : Gr W v4 := Gr.trans (by have gg := gv3; have gs := gg.size; go_grown) hv4
    clear hv4 hhv4 gv3 zv3_0 cv3_0_0 cv3_0_1 zv3_1 cv3_1_0 cv3_1_1 zv3_2 cv3_2_0 cv3_2_1 cv3_2_2 cv3_2_3 zv3_3 cv3_3_0 cv3_3_1 cv3_3_2 cv3_3_3 cv3_3_4 cv3_3_5 cv3_3_6 cv3_3_7
    go_wp2_with fail
    rw [rounds_succ]
    go_wp2_with fail
    refine wp_region_spread (by kernel_rfl) (by kernel_rfl) ?_
    try simp only [List.append]
    repeat (first | go_big_quiet_skip | (go_big_quiet_want; go_big_quiet_op; (first | go_big_quiet_on | (apply Exists.intro; refine ⟨fun _ => ?_, ?_⟩; (· (first | (go_at_call 28; first | ((with_reducible refine ((H6.out _)).mono ?_); rintro e w' ⟨rfl, hg⟩; exact ⟨rfl, spread_gr hg⟩) | ((with_reducible refine ((H7.out _)).mono ?_); rintro e w' ⟨rfl, hg⟩; exact ⟨rfl, spread_gr hg⟩)) | (go_at_call 22; first | ((with_reducible refine ((H8.out _)).mono ?_); rintro e w' ⟨rfl, hg⟩; exact ⟨rfl, spread_gr hg⟩)) | (go_at_call 32; first | ((with_reducible refine ((s4_awake _)).mono ?_); rintro e w' ⟨rfl, hg⟩; exact ⟨rfl, spread_gr hg⟩)))); go_big_quiet_on))))
    refine wpQuiet_nil ?_
    intro wr hr
    obtain ⟨mr, rfl⟩ := hr
    go_wp2_with fail
    go_ret
    exact ⟨rfl, Gr.trans (by have gg := gv4; have gs := gg.size; go_grown) (gr_spread _ _)⟩
set_option maxHeartbeats 8000000 in
set_option maxRecDepth 100000 in
theorem boxes_m3 (ax ay bx by' lx ly hx hy : Int) (on : Bool) (W : World)
    (A1 : ∀ w, Calls Try.prog 28 #[.agg #[.int .i64 ax, .int .i64 ay], .agg #[.int .i64 bx, .int .i64 by'], .agg #[.int .i64 lx, .int .i64 ly, .int .i64 hx, .int .i64 hy]] w fun e w' => e = .returned (.bool true) ∧ Gr w w')
    (A2 : ∀ w, Calls Try.prog 34 #[.agg #[.int .i64 lx, .int .i64 ly, .int .i64 hx, .int .i64 hy]] w fun e w' => e = .returned (.int .i64 0) ∧ Gr w w')
    (A3 : ∀ w, Calls Try.prog 14 #[.agg #[.int .i64 ax, .int .i64 ay]] w fun e w' => e = .returned (.bool true) ∧ Gr w w')
    (A4 : ∀ w, Calls Try.prog 14 #[.agg #[.int .i64 bx, .int .i64 by']] w fun e w' => e = .returned (.bool true) ∧ Gr w w')
    (A5 : ∀ w, Calls Try.prog 35 #[.agg #[.int .i64 lx, .int .i64 ly, .int .i64 hx, .int .i64 hy], .agg #[.int .i64 ax, .int .i64 ay]] w fun e w' => e = .returned (.bool false) ∧ Gr w w')
    (M0 : ∀ w, Calls Try.prog 24 #[.agg #[.int .i64 ax, .int .i64 ay], .agg #[.int .i64 bx, .int .i64 by'], .agg #[.int .i64 lx, .int .i64 ly], .agg #[.int .i64 hx, .int .i64 ly]] w fun e w' => e = .returned (.bool false) ∧ Gr w w')
    (M1 : ∀ w, Calls Try.prog 24 #[.agg #[.int .i64 ax, .int .i64 ay], .agg #[.int .i64 bx, .int .i64 by'], .agg #[.int .i64 hx, .int .i64 ly], .agg #[.int .i64 hx, .int .i64 hy]] w fun e w' => e = .returned (.bool false) ∧ Gr w w')
    (M2 : ∀ w, Calls Try.prog 24 #[.agg #[.int .i64 ax, .int .i64 ay], .agg #[.int .i64 bx, .int .i64 by'], .agg #[.int .i64 hx, .int .i64 hy], .agg #[.int .i64 lx, .int .i64 hy]] w fun e w' => e = .returned (.bool false) ∧ Gr w w')
    (M3 : ∀ w, Calls Try.prog 24 #[.agg #[.int .i64 ax, .int .i64 ay], .agg #[.int .i64 bx, .int .i64 by'], .agg #[.int .i64 lx, .int .i64 hy], .agg #[.int .i64 lx, .int .i64 ly]] w fun e w' => e = .returned (.bool true) ∧ Gr w w')
    (A6 : ∀ w, Calls Try.prog 28 #[.agg #[.int .i64 bx, .int .i64 by'], .agg #[.int .i64 ax, .int .i64 ay], .agg #[.int .i64 lx, .int .i64 ly, .int .i64 hx, .int .i64 hy]] w fun e w' => e = .returned (.bool true) ∧ Gr w w')
    (A7 : ∀ w, Calls Try.prog 28 #[.agg #[.int .i64 ax, .int .i64 ay], .agg #[.int .i64 bx, .int .i64 by'], .agg #[.int .i64 lx, .int .i64 ly, .int .i64 lx, .int .i64 ly]] w fun e w' => e = .returned (.bool on) ∧ Gr w w')
    (A8 : ∀ w, Calls Try.prog 22 #[.agg #[.int .i64 ax, .int .i64 ay], .agg #[.int .i64 bx, .int .i64 by'], .agg #[.int .i64 lx, .int .i64 ly]] w fun e w' => e = .returned (.bool on) ∧ Gr w w') :
    Calls Try.prog 7 #[.agg #[.int .i64 ax, .int .i64 ay], .agg #[.int .i64 bx, .int .i64 by'], .agg #[.int .i64 lx, .int .i64 ly, .int .i64 hx, .int .i64 hy]] W fun e w' => e = .returned (.bool true) ∧ Gr W w' := by
  have H1 := Lib.hid A1
  have H2 := Lib.hid A2
  have H3 := Lib.hid A3
  have H4 := Lib.hid A4
  have H5 := Lib.hid A5
  have H6 := Lib.hid A6
  have H7 := Lib.hid A7
  have H8 := Lib.hid A8
  clear A1 A2 A3 A4 A5 A6 A7 A8
  have HM0 := Lib.hid M0
  have HM1 := Lib.hid M1
  have HM2 := Lib.hid M2
  have HM3 := Lib.hid M3
  clear M0 M1 M2 M3
  cases on
  all_goals
    go_enter Try.func7, Try.ntmps7
    go_wp2_with fail
    go_at_call 28
    refine ((H1.out _)).mono ?_
    rintro e w1 ⟨rfl, hw1⟩
    have cw1_0_0 : w1.cell? ⟨W.heap.size, 0, none⟩ = some (.int .i64 ax) := cell_gr hw1 (by go_simp)
    have cw1_0_1 : w1.cell? ⟨W.heap.size, 1, none⟩ = some (.int .i64 ay) := cell_gr hw1 (by go_simp)
    have zw1_0 : W.heap.size < w1.heap.size := World.block_lt_of_cell? _ _ cw1_0_0
    have cw1_1_0 : w1.cell? ⟨W.heap.size + 1, 0, none⟩ = some (.int .i64 bx) := cell_gr hw1 (by go_simp)
    have cw1_1_1 : w1.cell? ⟨W.heap.size + 1, 1, none⟩ = some (.int .i64 by') := cell_gr hw1 (by go_simp)
    have zw1_1 : W.heap.size + 1 < w1.heap.size := World.block_lt_of_cell? _ _ cw1_1_0
    have cw1_2_0 : w1.cell? ⟨W.heap.size + 1 + 1, 0, none⟩ = some (.int .i64 lx) := cell_gr hw1 (by go_simp)
    have cw1_2_1 : w1.cell? ⟨W.heap.size + 1 + 1, 1, none⟩ = some (.int .i64 ly) := cell_gr hw1 (by go_simp)
    have cw1_2_2 : w1.cell? ⟨W.heap.size + 1 + 1, 2, none⟩ = some (.int .i64 hx) := cell_gr hw1 (by go_simp)
    have cw1_2_3 : w1.cell? ⟨W.heap.size + 1 + 1, 3, none⟩ = some (.int .i64 hy) := cell_gr hw1 (by go_simp)
    have zw1_2 : W.heap.size + 1 + 1 < w1.heap.size := World.block_lt_of_cell? _ _ cw1_2_0
    have gw1 : Gr W w1 := Gr.trans (by go_grown) hw1
    clear hw1
    go_wp2_with fail
    go_at_call 34
    refine ((H2.out _)).mono ?_
    rintro e w2 ⟨rfl, hw2⟩
    have cw2_0_0 : w2.cell? ⟨W.heap.size, 0, none⟩ = some (.int .i64 ax) := cell_gr hw2 (by go_simp)
    have cw2_0_1 : w2.cell? ⟨W.heap.size, 1, none⟩ = some (.int .i64 ay) := cell_gr hw2 (by go_simp)
    have zw2_0 : W.heap.size < w2.heap.size := World.block_lt_of_cell? _ _ cw2_0_0
    have cw2_1_0 : w2.cell? ⟨W.heap.size + 1, 0, none⟩ = some (.int .i64 bx) := cell_gr hw2 (by go_simp)
    have cw2_1_1 : w2.cell? ⟨W.heap.size + 1, 1, none⟩ = some (.int .i64 by') := cell_gr hw2 (by go_simp)
    have zw2_1 : W.heap.size + 1 < w2.heap.size := World.block_lt_of_cell? _ _ cw2_1_0
    have cw2_2_0 : w2.cell? ⟨W.heap.size + 1 + 1, 0, none⟩ = some (.int .i64 lx) := cell_gr hw2 (by go_simp)
    have cw2_2_1 : w2.cell? ⟨W.heap.size + 1 + 1, 1, none⟩ = some (.int .i64 ly) := cell_gr hw2 (by go_simp)
    have cw2_2_2 : w2.cell? ⟨W.heap.size + 1 + 1, 2, none⟩ = some (.int .i64 hx) := cell_gr hw2 (by go_simp)
    have cw2_2_3 : w2.cell? ⟨W.heap.size + 1 + 1, 3, none⟩ = some (.int .i64 hy) := cell_gr hw2 (by go_simp)
    have zw2_2 : W.heap.size + 1 + 1 < w2.heap.size := World.block_lt_of_cell? _ _ cw2_2_0
    have gw2 : Gr W w2 := Gr.trans (by have gg := gw1; have gs := gg.size; go_grown) hw2
    clear hw2 gw1 zw1_0 cw1_0_0 cw1_0_1 zw1_1 cw1_1_0 cw1_1_1 zw1_2 cw1_2_0 cw1_2_1 cw1_2_2 cw1_2_3
    go_wp2_with fail
    go_at_call 14
    refine ((H3.out _)).mono ?_
    rintro e w3 ⟨rfl, hw3⟩
    have cw3_0_0 : w3.cell? ⟨W.heap.size, 0, none⟩ = some (.int .i64 ax) := cell_gr hw3 (by go_simp)
    have cw3_0_1 : w3.cell? ⟨W.heap.size, 1, none⟩ = some (.int .i64 ay) := cell_gr hw3 (by go_simp)
    have zw3_0 : W.heap.size < w3.heap.size := World.block_lt_of_cell? _ _ cw3_0_0
    have cw3_1_0 : w3.cell? ⟨W.heap.size + 1, 0, none⟩ = some (.int .i64 bx) := cell_gr hw3 (by go_simp)
    have cw3_1_1 : w3.cell? ⟨W.heap.size + 1, 1, none⟩ = some (.int .i64 by') := cell_gr hw3 (by go_simp)
    have zw3_1 : W.heap.size + 1 < w3.heap.size := World.block_lt_of_cell? _ _ cw3_1_0
    have cw3_2_0 : w3.cell? ⟨W.heap.size + 1 + 1, 0, none⟩ = some (.int .i64 lx) := cell_gr hw3 (by go_simp)
    have cw3_2_1 : w3.cell? ⟨W.heap.size + 1 + 1, 1, none⟩ = some (.int .i64 ly) := cell_gr hw3 (by go_simp)
    have cw3_2_2 : w3.cell? ⟨W.heap.size + 1 + 1, 2, none⟩ = some (.int .i64 hx) := cell_gr hw3 (by go_simp)
    have cw3_2_3 : w3.cell? ⟨W.heap.size + 1 + 1, 3, none⟩ = some (.int .i64 hy) := cell_gr hw3 (by go_simp)
    have zw3_2 : W.heap.size + 1 + 1 < w3.heap.size := World.block_lt_of_cell? _ _ cw3_2_0
    have gw3 : Gr W w3 := Gr.trans (by have gg := gw2; have gs := gg.size; go_grown) hw3
    clear hw3 gw2 zw2_0 cw2_0_0 cw2_0_1 zw2_1 cw2_1_0 cw2_1_1 zw2_2 cw2_2_0 cw2_2_1 cw2_2_2 cw2_2_3
    go_wp2_with fail
    go_at_call 14
    refine ((H4.out _)).mono ?_
    rintro e w4 ⟨rfl, hw4⟩
    have cw4_0_0 : w4.cell? ⟨W.heap.size, 0, none⟩ = some (.int .i64 ax) := cell_gr hw4 (by go_simp)
    have cw4_0_1 : w4.cell? ⟨W.heap.size, 1, none⟩ = some (.int .i64 ay) := cell_gr hw4 (by go_simp)
    have zw4_0 : W.heap.size < w4.heap.size := World.block_lt_of_cell? _ _ cw4_0_0
    have cw4_1_0 : w4.cell? ⟨W.heap.size + 1, 0, none⟩ = some (.int .i64 bx) := cell_gr hw4 (by go_simp)
    have cw4_1_1 : w4.cell? ⟨W.heap.size + 1, 1, none⟩ = some (.int .i64 by') := cell_gr hw4 (by go_simp)
    have zw4_1 : W.heap.size + 1 < w4.heap.size := World.block_lt_of_cell? _ _ cw4_1_0
    have cw4_2_0 : w4.cell? ⟨W.heap.size + 1 + 1, 0, none⟩ = some (.int .i64 lx) := cell_gr hw4 (by go_simp)
    have cw4_2_1 : w4.cell? ⟨W.heap.size + 1 + 1, 1, none⟩ = some (.int .i64 ly) := cell_gr hw4 (by go_simp)
    have cw4_2_2 : w4.cell? ⟨W.heap.size + 1 + 1, 2, none⟩ = some (.int .i64 hx) := cell_gr hw4 (by go_simp)
    have cw4_2_3 : w4.cell? ⟨W.heap.size + 1 + 1, 3, none⟩ = some (.int .i64 hy) := cell_gr hw4 (by go_simp)
    have zw4_2 : W.heap.size + 1 + 1 < w4.heap.size := World.block_lt_of_cell? _ _ cw4_2_0
    have gw4 : Gr W w4 := Gr.trans (by have gg := gw3; have gs := gg.size; go_grown) hw4
    clear hw4 gw3 zw3_0 cw3_0_0 cw3_0_1 zw3_1 cw3_1_0 cw3_1_1 zw3_2 cw3_2_0 cw3_2_1 cw3_2_2 cw3_2_3
    go_wp2_with fail
    go_at_call 35
    refine ((H5.out _)).mono ?_
    rintro e w5 ⟨rfl, hw5⟩
    have cw5_0_0 : w5.cell? ⟨W.heap.size, 0, none⟩ = some (.int .i64 ax) := cell_gr hw5 (by go_simp)
    have cw5_0_1 : w5.cell? ⟨W.heap.size, 1, none⟩ = some (.int .i64 ay) := cell_gr hw5 (by go_simp)
    have zw5_0 : W.heap.size < w5.heap.size := World.block_lt_of_cell? _ _ cw5_0_0
    have cw5_1_0 : w5.cell? ⟨W.heap.size + 1, 0, none⟩ = some (.int .i64 bx) := cell_gr hw5 (by go_simp)
    have cw5_1_1 : w5.cell? ⟨W.heap.size + 1, 1, none⟩ = some (.int .i64 by') := cell_gr hw5 (by go_simp)
    have zw5_1 : W.heap.size + 1 < w5.heap.size := World.block_lt_of_cell? _ _ cw5_1_0
    have cw5_2_0 : w5.cell? ⟨W.heap.size + 1 + 1, 0, none⟩ = some (.int .i64 lx) := cell_gr hw5 (by go_simp)
    have cw5_2_1 : w5.cell? ⟨W.heap.size + 1 + 1, 1, none⟩ = some (.int .i64 ly) := cell_gr hw5 (by go_simp)
    have cw5_2_2 : w5.cell? ⟨W.heap.size + 1 + 1, 2, none⟩ = some (.int .i64 hx) := cell_gr hw5 (by go_simp)
    have cw5_2_3 : w5.cell? ⟨W.heap.size + 1 + 1, 3, none⟩ = some (.int .i64 hy) := cell_gr hw5 (by go_simp)
    have zw5_2 : W.heap.size + 1 + 1 < w5.heap.size := World.block_lt_of_cell? _ _ cw5_2_0
    have cw5_3_0 : w5.cell? ⟨w4.heap.size, 0, none⟩ = some (.int .i64 lx) := cell_gr hw5 (by go_simp)
    have cw5_3_1 : w5.cell? ⟨w4.heap.size, 1, none⟩ = some (.int .i64 ly) := cell_gr hw5 (by go_simp)
    have cw5_3_2 : w5.cell? ⟨w4.heap.size, 2, none⟩ = some (.int .i64 hx) := cell_gr hw5 (by go_simp)
    have cw5_3_3 : w5.cell? ⟨w4.heap.size, 3, none⟩ = some (.int .i64 ly) := cell_gr hw5 (by go_simp)
    have cw5_3_4 : w5.cell? ⟨w4.heap.size, 4, none⟩ = some (.int .i64 hx) := cell_gr hw5 (by go_simp)
    have cw5_3_5 : w5.cell? ⟨w4.heap.size, 5, none⟩ = some (.int .i64 hy) := cell_gr hw5 (by go_simp)
    have cw5_3_6 : w5.cell? ⟨w4.heap.size, 6, none⟩ = some (.int .i64 lx) := cell_gr hw5 (by go_simp)
    have cw5_3_7 : w5.cell? ⟨w4.heap.size, 7, none⟩ = some (.int .i64 hy) := cell_gr hw5 (by go_simp)
    have zw5_3 : w4.heap.size < w5.heap.size := World.block_lt_of_cell? _ _ cw5_3_0
    have gw5 : Gr W w5 := Gr.trans (by have gg := gw4; have gs := gg.size; go_grown) hw5
    clear hw5 gw4 zw4_0 cw4_0_0 cw4_0_1 zw4_1 cw4_1_0 cw4_1_1 zw4_2 cw4_2_0 cw4_2_1 cw4_2_2 cw4_2_3
    go_wp2_with fail
    refine wp_loop_rounds 5 ?_
    rw [rounds_succ]
    go_wp2_with fail
    go_wp2_with fail
    refine wp_region_spread (by kernel_rfl) (by kernel_rfl) ?_
    try simp only [List.append]
    repeat (first | go_big_quiet_skip | (go_big_quiet_want; go_big_quiet_op; (first | go_big_quiet_on | (apply Exists.intro; refine ⟨fun _ => ?_, ?_⟩; (· (first | (go_at_call 24; first | ((with_reducible refine ((HM0.out _)).mono ?_); rintro e w' ⟨rfl, hg⟩; exact ⟨rfl, spread_gr hg⟩)))); go_big_quiet_on))))
    refine wpQuiet_nil ?_
    intro v1 hhv1
    have hv1 := Hd.gr_of_spread hhv1
    have cv1_0_0 : v1.cell? ⟨W.heap.size, 0, none⟩ = some (.int .i64 ax) := cell_gr hv1 (by go_simp)
    have cv1_0_1 : v1.cell? ⟨W.heap.size, 1, none⟩ = some (.int .i64 ay) := cell_gr hv1 (by go_simp)
    have zv1_0 : W.heap.size < v1.heap.size := World.block_lt_of_cell? _ _ cv1_0_0
    have cv1_1_0 : v1.cell? ⟨W.heap.size + 1, 0, none⟩ = some (.int .i64 bx) := cell_gr hv1 (by go_simp)
    have cv1_1_1 : v1.cell? ⟨W.heap.size + 1, 1, none⟩ = some (.int .i64 by') := cell_gr hv1 (by go_simp)
    have zv1_1 : W.heap.size + 1 < v1.heap.size := World.block_lt_of_cell? _ _ cv1_1_0
    have cv1_2_0 : v1.cell? ⟨W.heap.size + 1 + 1, 0, none⟩ = some (.int .i64 lx) := cell_gr hv1 (by go_simp)
    have cv1_2_1 : v1.cell? ⟨W.heap.size + 1 + 1, 1, none⟩ = some (.int .i64 ly) := cell_gr hv1 (by go_simp)
    have cv1_2_2 : v1.cell? ⟨W.heap.size + 1 + 1, 2, none⟩ = some (.int .i64 hx) := cell_gr hv1 (by go_simp)
    have cv1_2_3 : v1.cell? ⟨W.heap.size + 1 + 1, 3, none⟩ = some (.int .i64 hy) := cell_gr hv1 (by go_simp)
    have zv1_2 : W.heap.size + 1 + 1 < v1.heap.size := World.block_lt_of_cell? _ _ cv1_2_0
    have cv1_3_0 : v1.cell? ⟨w4.heap.size, 0, none⟩ = some (.int .i64 lx) := cell_gr hv1 (by go_simp)
    have cv1_3_1 : v1.cell? ⟨w4.heap.size, 1, none⟩ = some (.int .i64 ly) := cell_gr hv1 (by go_simp)
    have cv1_3_2 : v1.cell? ⟨w4.heap.size, 2, none⟩ = some (.int .i64 hx) := cell_gr hv1 (by go_simp)
    have cv1_3_3 : v1.cell? ⟨w4.heap.size, 3, none⟩ = some (.int .i64 ly) := cell_gr hv1 (by go_simp)
    have cv1_3_4 : v1.cell? ⟨w4.heap.size, 4, none⟩ = some (.int .i64 hx) := cell_gr hv1 (by go_simp)
    have cv1_3_5 : v1.cell? ⟨w4.heap.size, 5, none⟩ = some (.int .i64 hy) := cell_gr hv1 (by go_simp)
    have cv1_3_6 : v1.cell? ⟨w4.heap.size, 6, none⟩ = some (.int .i64 lx) := cell_gr hv1 (by go_simp)
    have cv1_3_7 : v1.cell? ⟨w4.heap.size, 7, none⟩ = some (.int .i64 hy) := cell_gr hv1 (by go_simp)
    have zv1_3 : w4.heap.size < v1.heap.size := World.block_lt_of_cell? _ _ cv1_3_0
    have gv1 : Gr W v1 := Gr.trans (by have gg := gw5; have gs := gg.size; go_grown) hv1
    clear hv1 hhv1 gw5 zw5_0 cw5_0_0 cw5_0_1 zw5_1 cw5_1_0 cw5_1_1 zw5_2 cw5_2_0 cw5_2_1 cw5_2_2 cw5_2_3 zw5_3 cw5_3_0 cw5_3_1 cw5_3_2 cw5_3_3 cw5_3_4 cw5_3_5 cw5_3_6 cw5_3_7
    go_wp2_with fail
    rw [rounds_succ]
    go_wp2_with fail
    go_wp2_with fail
    refine wp_region_spread (by kernel_rfl) (by kernel_rfl) ?_
    try simp only [List.append]
    repeat (first | go_big_quiet_skip | (go_big_quiet_want; go_big_quiet_op; (first | go_big_quiet_on | (apply Exists.intro; refine ⟨fun _ => ?_, ?_⟩; (· (first | (go_at_call 24; first | ((with_reducible refine ((HM1.out _)).mono ?_); rintro e w' ⟨rfl, hg⟩; exact ⟨rfl, spread_gr hg⟩)))); go_big_quiet_on))))
    refine wpQuiet_nil ?_
    intro v2 hhv2
    have hv2 := Hd.gr_of_spread hhv2
    have cv2_0_0 : v2.cell? ⟨W.heap.size, 0, none⟩ = some (.int .i64 ax) := cell_gr hv2 (by go_simp)
    have cv2_0_1 : v2.cell? ⟨W.heap.size, 1, none⟩ = some (.int .i64 ay) := cell_gr hv2 (by go_simp)
    have zv2_0 : W.heap.size < v2.heap.size := World.block_lt_of_cell? _ _ cv2_0_0
    have cv2_1_0 : v2.cell? ⟨W.heap.size + 1, 0, none⟩ = some (.int .i64 bx) := cell_gr hv2 (by go_simp)
    have cv2_1_1 : v2.cell? ⟨W.heap.size + 1, 1, none⟩ = some (.int .i64 by') := cell_gr hv2 (by go_simp)
    have zv2_1 : W.heap.size + 1 < v2.heap.size := World.block_lt_of_cell? _ _ cv2_1_0
    have cv2_2_0 : v2.cell? ⟨W.heap.size + 1 + 1, 0, none⟩ = some (.int .i64 lx) := cell_gr hv2 (by go_simp)
    have cv2_2_1 : v2.cell? ⟨W.heap.size + 1 + 1, 1, none⟩ = some (.int .i64 ly) := cell_gr hv2 (by go_simp)
    have cv2_2_2 : v2.cell? ⟨W.heap.size + 1 + 1, 2, none⟩ = some (.int .i64 hx) := cell_gr hv2 (by go_simp)
    have cv2_2_3 : v2.cell? ⟨W.heap.size + 1 + 1, 3, none⟩ = some (.int .i64 hy) := cell_gr hv2 (by go_simp)
    have zv2_2 : W.heap.size + 1 + 1 < v2.heap.size := World.block_lt_of_cell? _ _ cv2_2_0
    have cv2_3_0 : v2.cell? ⟨w4.heap.size, 0, none⟩ = some (.int .i64 lx) := cell_gr hv2 (by go_simp)
    have cv2_3_1 : v2.cell? ⟨w4.heap.size, 1, none⟩ = some (.int .i64 ly) := cell_gr hv2 (by go_simp)
    have cv2_3_2 : v2.cell? ⟨w4.heap.size, 2, none⟩ = some (.int .i64 hx) := cell_gr hv2 (by go_simp)
    have cv2_3_3 : v2.cell? ⟨w4.heap.size, 3, none⟩ = some (.int .i64 ly) := cell_gr hv2 (by go_simp)
    have cv2_3_4 : v2.cell? ⟨w4.heap.size, 4, none⟩ = some (.int .i64 hx) := cell_gr hv2 (by go_simp)
    have cv2_3_5 : v2.cell? ⟨w4.heap.size, 5, none⟩ = some (.int .i64 hy) := cell_gr hv2 (by go_simp)
    have cv2_3_6 : v2.cell? ⟨w4.heap.size, 6, none⟩ = some (.int .i64 lx) := cell_gr hv2 (by go_simp)
    have cv2_3_7 : v2.cell? ⟨w4.heap.size, 7, none⟩ = some (.int .i64 hy) := cell_gr hv2 (by go_simp)
    have zv2_3 : w4.heap.size < v2.heap.size := World.block_lt_of_cell? _ _ cv2_3_0
    have gv2 : Gr W v2 := Gr.trans (by have gg := gv1; have gs := gg.size; go_grown) hv2
    clear hv2 hhv2 gv1 zv1_0 cv1_0_0 cv1_0_1 zv1_1 cv1_1_0 cv1_1_1 zv1_2 cv1_2_0 cv1_2_1 cv1_2_2 cv1_2_3 zv1_3 cv1_3_0 cv1_3_1 cv1_3_2 cv1_3_3 cv1_3_4 cv1_3_5 cv1_3_6 cv1_3_7
    go_wp2_with fail
    rw [rounds_succ]
    go_wp2_with fail
    go_wp2_with fail
    refine wp_region_spread (by kernel_rfl) (by kernel_rfl) ?_
    try simp only [List.append]
    repeat (first | go_big_quiet_skip | (go_big_quiet_want; go_big_quiet_op; (first | go_big_quiet_on | (apply Exists.intro; refine ⟨fun _ => ?_, ?_⟩; (· (first | (go_at_call 24; first | ((with_reducible refine ((HM2.out _)).mono ?_); rintro e w' ⟨rfl, hg⟩; exact ⟨rfl, spread_gr hg⟩)))); go_big_quiet_on))))
    refine wpQuiet_nil ?_
    intro v3 hhv3
    have hv3 := Hd.gr_of_spread hhv3
    have cv3_0_0 : v3.cell? ⟨W.heap.size, 0, none⟩ = some (.int .i64 ax) := cell_gr hv3 (by go_simp)
    have cv3_0_1 : v3.cell? ⟨W.heap.size, 1, none⟩ = some (.int .i64 ay) := cell_gr hv3 (by go_simp)
    have zv3_0 : W.heap.size < v3.heap.size := World.block_lt_of_cell? _ _ cv3_0_0
    have cv3_1_0 : v3.cell? ⟨W.heap.size + 1, 0, none⟩ = some (.int .i64 bx) := cell_gr hv3 (by go_simp)
    have cv3_1_1 : v3.cell? ⟨W.heap.size + 1, 1, none⟩ = some (.int .i64 by') := cell_gr hv3 (by go_simp)
    have zv3_1 : W.heap.size + 1 < v3.heap.size := World.block_lt_of_cell? _ _ cv3_1_0
    have cv3_2_0 : v3.cell? ⟨W.heap.size + 1 + 1, 0, none⟩ = some (.int .i64 lx) := cell_gr hv3 (by go_simp)
    have cv3_2_1 : v3.cell? ⟨W.heap.size + 1 + 1, 1, none⟩ = some (.int .i64 ly) := cell_gr hv3 (by go_simp)
    have cv3_2_2 : v3.cell? ⟨W.heap.size + 1 + 1, 2, none⟩ = some (.int .i64 hx) := cell_gr hv3 (by go_simp)
    have cv3_2_3 : v3.cell? ⟨W.heap.size + 1 + 1, 3, none⟩ = some (.int .i64 hy) := cell_gr hv3 (by go_simp)
    have zv3_2 : W.heap.size + 1 + 1 < v3.heap.size := World.block_lt_of_cell? _ _ cv3_2_0
    have cv3_3_0 : v3.cell? ⟨w4.heap.size, 0, none⟩ = some (.int .i64 lx) := cell_gr hv3 (by go_simp)
    have cv3_3_1 : v3.cell? ⟨w4.heap.size, 1, none⟩ = some (.int .i64 ly) := cell_gr hv3 (by go_simp)
    have cv3_3_2 : v3.cell? ⟨w4.heap.size, 2, none⟩ = some (.int .i64 hx) := cell_gr hv3 (by go_simp)
    have cv3_3_3 : v3.cell? ⟨w4.heap.size, 3, none⟩ = some (.int .i64 ly) := cell_gr hv3 (by go_simp)
    have cv3_3_4 : v3.cell? ⟨w4.heap.size, 4, none⟩ = some (.int .i64 hx) := cell_gr hv3 (by go_simp)
    have cv3_3_5 : v3.cell? ⟨w4.heap.size, 5, none⟩ = some (.int .i64 hy) := cell_gr hv3 (by go_simp)
    have cv3_3_6 : v3.cell? ⟨w4.heap.size, 6, none⟩ = some (.int .i64 lx) := cell_gr hv3 (by go_simp)
    have cv3_3_7 : v3.cell? ⟨w4.heap.size, 7, none⟩ = some (.int .i64 hy) := cell_gr hv3 (by go_simp)
    have zv3_3 : w4.heap.size < v3.heap.size := World.block_lt_of_cell? _ _ cv3_3_0
    have gv3 : Gr W v3 := Gr.trans (by have gg := gv2; have gs := gg.size; go_grown) hv3
    clear hv3 hhv3 gv2 zv2_0 cv2_0_0 cv2_0_1 zv2_1 cv2_1_0 cv2_1_1 zv2_2 cv2_2_0 cv2_2_1 cv2_2_2 cv2_2_3 zv2_3 cv2_3_0 cv2_3_1 cv2_3_2 cv2_3_3 cv2_3_4 cv2_3_5 cv2_3_6 cv2_3_7
    go_wp2_with fail
    rw [rounds_succ]
    go_wp2_with fail
    go_wp2_with fail
    refine wp_region_spread (by kernel_rfl) (by kernel_rfl) ?_
    try simp only [List.append]
    repeat (first | go_big_quiet_skip | (go_big_quiet_want; go_big_quiet_op; (first | go_big_quiet_on | (apply Exists.intro; refine ⟨fun _ => ?_, ?_⟩; (· (first | (go_at_call 24; first | ((with_reducible refine ((HM3.out _)).mono ?_); rintro e w' ⟨rfl, hg⟩; exact ⟨rfl, spread_gr hg⟩)))); go_big_quiet_on))))
    refine wpQuiet_nil ?_
    intro v4 hhv4
    have hv4 := Hd.gr_of_spread hhv4
    have cv4_0_0 : v4.cell? ⟨W.heap.size, 0, none⟩ = some (.int .i64 ax) := cell_gr hv4 (by go_simp)
    have cv4_0_1 : v4.cell? ⟨W.heap.size, 1, none⟩ = some (.int .i64 ay) := cell_gr hv4 (by go_simp)
    have zv4_0 : W.heap.size < v4.heap.size := World.block_lt_of_cell? _ _ cv4_0_0
    have cv4_1_0 : v4.cell? ⟨W.heap.size + 1, 0, none⟩ = some (.int .i64 bx) := cell_gr hv4 (by go_simp)
    have cv4_1_1 : v4.cell? ⟨W.heap.size + 1, 1, none⟩ = some (.int .i64 by') := cell_gr hv4 (by go_simp)
    have zv4_1 : W.heap.size + 1 < v4.heap.size := World.block_lt_of_cell? _ _ cv4_1_0
    have cv4_2_0 : v4.cell? ⟨W.heap.size + 1 + 1, 0, none⟩ = some (.int .i64 lx) := cell_gr hv4 (by go_simp)
    have cv4_2_1 : v4.cell? ⟨W.heap.size + 1 + 1, 1, none⟩ = some (.int .i64 ly) := cell_gr hv4 (by go_simp)
    have cv4_2_2 : v4.cell? ⟨W.heap.size + 1 + 1, 2, none⟩ = some (.int .i64 hx) := cell_gr hv4 (by go_simp)
    have cv4_2_3 : v4.cell? ⟨W.heap.size + 1 + 1, 3, none⟩ = some (.int .i64 hy) := cell_gr hv4 (by go_simp)
    have zv4_2 : W.heap.size + 1 + 1 < v4.heap.size := World.block_lt_of_cell? _ _ cv4_2_0
    have cv4_3_0 : v4.cell? ⟨w4.heap.size, 0, none⟩ = some (.int .i64 lx) := cell_gr hv4 (by go_simp)
    have cv4_3_1 : v4.cell? ⟨w4.heap.size, 1, none⟩ = some (.int .i64 ly) := cell_gr hv4 (by go_simp)
    have cv4_3_2 : v4.cell? ⟨w4.heap.size, 2, none⟩ = some (.int .i64 hx) := cell_gr hv4 (by go_simp)
    have cv4_3_3 : v4.cell? ⟨w4.heap.size, 3, none⟩ = some (.int .i64 ly) := cell_gr hv4 (by go_simp)
    have cv4_3_4 : v4.cell? ⟨w4.heap.size, 4, none⟩ = some (.int .i64 hx) := cell_gr hv4 (by go_simp)
    have cv4_3_5 : v4.cell? ⟨w4.heap.size, 5, none⟩ = some (.int .i64 hy) := cell_gr hv4 (by go_simp)
    have cv4_3_6 : v4.cell? ⟨w4.heap.size, 6, none⟩ = some (.int .i64 lx) := cell_gr hv4 (by go_simp)
    have cv4_3_7 : v4.cell? ⟨w4.heap.size, 7, none⟩ = some (.int .i64 hy) := cell_gr hv4 (by go_simp)
    have zv4_3 : w4.heap.size < v4.heap.size := World.block_lt_of_cell? _ _ cv4_3_0
    have gv4 : Gr W v4 := Gr.trans (by have gg := gv3; have gs := gg.size; go_grown) hv4
    clear hv4 hhv4 gv3 zv3_0 cv3_0_0 cv3_0_1 zv3_1 cv3_1_0 cv3_1_1 zv3_2 cv3_2_0 cv3_2_1 cv3_2_2 cv3_2_3 zv3_3 cv3_3_0 cv3_3_1 cv3_3_2 cv3_3_3 cv3_3_4 cv3_3_5 cv3_3_6 cv3_3_7
    go_wp2_with fail
    rw [rounds_succ]
    go_wp2_with fail
    refine wp_region_spread (by kernel_rfl) (by kernel_rfl) ?_
    try simp only [List.append]
    repeat (first | go_big_quiet_skip | (go_big_quiet_want; go_big_quiet_op; (first | go_big_quiet_on | (apply Exists.intro; refine ⟨fun _ => ?_, ?_⟩; (· (first | (go_at_call 28; first | ((with_reducible refine ((H6.out _)).mono ?_); rintro e w' ⟨rfl, hg⟩; exact ⟨rfl, spread_gr hg⟩) | ((with_reducible refine ((H7.out _)).mono ?_); rintro e w' ⟨rfl, hg⟩; exact ⟨rfl, spread_gr hg⟩)) | (go_at_call 22; first | ((with_reducible refine ((H8.out _)).mono ?_); rintro e w' ⟨rfl, hg⟩; exact ⟨rfl, spread_gr hg⟩)) | (go_at_call 32; first | ((with_reducible refine ((s4_awake _)).mono ?_); rintro e w' ⟨rfl, hg⟩; exact ⟨rfl, spread_gr hg⟩)))); go_big_quiet_on))))
    refine wpQuiet_nil ?_
    intro wr hr
    obtain ⟨mr, rfl⟩ := hr
    go_wp2_with fail
    go_ret
    exact ⟨rfl, Gr.trans (by have gg := gv4; have gs := gg.size; go_grown) (gr_spread _ _)⟩
set_option maxHeartbeats 8000000 in
set_option maxRecDepth 100000 in
theorem boxes_m4 (ax ay bx by' lx ly hx hy : Int) (on : Bool) (W : World)
    (A1 : ∀ w, Calls Try.prog 28 #[.agg #[.int .i64 ax, .int .i64 ay], .agg #[.int .i64 bx, .int .i64 by'], .agg #[.int .i64 lx, .int .i64 ly, .int .i64 hx, .int .i64 hy]] w fun e w' => e = .returned (.bool false) ∧ Gr w w')
    (A2 : ∀ w, Calls Try.prog 34 #[.agg #[.int .i64 lx, .int .i64 ly, .int .i64 hx, .int .i64 hy]] w fun e w' => e = .returned (.int .i64 0) ∧ Gr w w')
    (A3 : ∀ w, Calls Try.prog 14 #[.agg #[.int .i64 ax, .int .i64 ay]] w fun e w' => e = .returned (.bool true) ∧ Gr w w')
    (A4 : ∀ w, Calls Try.prog 14 #[.agg #[.int .i64 bx, .int .i64 by']] w fun e w' => e = .returned (.bool true) ∧ Gr w w')
    (A5 : ∀ w, Calls Try.prog 35 #[.agg #[.int .i64 lx, .int .i64 ly, .int .i64 hx, .int .i64 hy], .agg #[.int .i64 ax, .int .i64 ay]] w fun e w' => e = .returned (.bool false) ∧ Gr w w')
    (M0 : ∀ w, Calls Try.prog 24 #[.agg #[.int .i64 ax, .int .i64 ay], .agg #[.int .i64 bx, .int .i64 by'], .agg #[.int .i64 lx, .int .i64 ly], .agg #[.int .i64 hx, .int .i64 ly]] w fun e w' => e = .returned (.bool false) ∧ Gr w w')
    (M1 : ∀ w, Calls Try.prog 24 #[.agg #[.int .i64 ax, .int .i64 ay], .agg #[.int .i64 bx, .int .i64 by'], .agg #[.int .i64 hx, .int .i64 ly], .agg #[.int .i64 hx, .int .i64 hy]] w fun e w' => e = .returned (.bool false) ∧ Gr w w')
    (M2 : ∀ w, Calls Try.prog 24 #[.agg #[.int .i64 ax, .int .i64 ay], .agg #[.int .i64 bx, .int .i64 by'], .agg #[.int .i64 hx, .int .i64 hy], .agg #[.int .i64 lx, .int .i64 hy]] w fun e w' => e = .returned (.bool false) ∧ Gr w w')
    (M3 : ∀ w, Calls Try.prog 24 #[.agg #[.int .i64 ax, .int .i64 ay], .agg #[.int .i64 bx, .int .i64 by'], .agg #[.int .i64 lx, .int .i64 hy], .agg #[.int .i64 lx, .int .i64 ly]] w fun e w' => e = .returned (.bool false) ∧ Gr w w')
    (A6 : ∀ w, Calls Try.prog 28 #[.agg #[.int .i64 bx, .int .i64 by'], .agg #[.int .i64 ax, .int .i64 ay], .agg #[.int .i64 lx, .int .i64 ly, .int .i64 hx, .int .i64 hy]] w fun e w' => e = .returned (.bool false) ∧ Gr w w')
    (A7 : ∀ w, Calls Try.prog 28 #[.agg #[.int .i64 ax, .int .i64 ay], .agg #[.int .i64 bx, .int .i64 by'], .agg #[.int .i64 lx, .int .i64 ly, .int .i64 lx, .int .i64 ly]] w fun e w' => e = .returned (.bool on) ∧ Gr w w')
    (A8 : ∀ w, Calls Try.prog 22 #[.agg #[.int .i64 ax, .int .i64 ay], .agg #[.int .i64 bx, .int .i64 by'], .agg #[.int .i64 lx, .int .i64 ly]] w fun e w' => e = .returned (.bool on) ∧ Gr w w') :
    Calls Try.prog 7 #[.agg #[.int .i64 ax, .int .i64 ay], .agg #[.int .i64 bx, .int .i64 by'], .agg #[.int .i64 lx, .int .i64 ly, .int .i64 hx, .int .i64 hy]] W fun e w' => e = .returned (.bool true) ∧ Gr W w' := by
  have H1 := Lib.hid A1
  have H2 := Lib.hid A2
  have H3 := Lib.hid A3
  have H4 := Lib.hid A4
  have H5 := Lib.hid A5
  have H6 := Lib.hid A6
  have H7 := Lib.hid A7
  have H8 := Lib.hid A8
  clear A1 A2 A3 A4 A5 A6 A7 A8
  have HM0 := Lib.hid M0
  have HM1 := Lib.hid M1
  have HM2 := Lib.hid M2
  have HM3 := Lib.hid M3
  clear M0 M1 M2 M3
  cases on
  all_goals
    go_enter Try.func7, Try.ntmps7
    go_wp2_with fail
    go_at_call 28
    refine ((H1.out _)).mono ?_
    rintro e w1 ⟨rfl, hw1⟩
    have cw1_0_0 : w1.cell? ⟨W.heap.size, 0, none⟩ = some (.int .i64 ax) := cell_gr hw1 (by go_simp)
    have cw1_0_1 : w1.cell? ⟨W.heap.size, 1, none⟩ = some (.int .i64 ay) := cell_gr hw1 (by go_simp)
    have zw1_0 : W.heap.size < w1.heap.size := World.block_lt_of_cell? _ _ cw1_0_0
    have cw1_1_0 : w1.cell? ⟨W.heap.size + 1, 0, none⟩ = some (.int .i64 bx) := cell_gr hw1 (by go_simp)
    have cw1_1_1 : w1.cell? ⟨W.heap.size + 1, 1, none⟩ = some (.int .i64 by') := cell_gr hw1 (by go_simp)
    have zw1_1 : W.heap.size + 1 < w1.heap.size := World.block_lt_of_cell? _ _ cw1_1_0
    have cw1_2_0 : w1.cell? ⟨W.heap.size + 1 + 1, 0, none⟩ = some (.int .i64 lx) := cell_gr hw1 (by go_simp)
    have cw1_2_1 : w1.cell? ⟨W.heap.size + 1 + 1, 1, none⟩ = some (.int .i64 ly) := cell_gr hw1 (by go_simp)
    have cw1_2_2 : w1.cell? ⟨W.heap.size + 1 + 1, 2, none⟩ = some (.int .i64 hx) := cell_gr hw1 (by go_simp)
    have cw1_2_3 : w1.cell? ⟨W.heap.size + 1 + 1, 3, none⟩ = some (.int .i64 hy) := cell_gr hw1 (by go_simp)
    have zw1_2 : W.heap.size + 1 + 1 < w1.heap.size := World.block_lt_of_cell? _ _ cw1_2_0
    have gw1 : Gr W w1 := Gr.trans (by go_grown) hw1
    clear hw1
    go_wp2_with fail
    go_at_call 34
    refine ((H2.out _)).mono ?_
    rintro e w2 ⟨rfl, hw2⟩
    have cw2_0_0 : w2.cell? ⟨W.heap.size, 0, none⟩ = some (.int .i64 ax) := cell_gr hw2 (by go_simp)
    have cw2_0_1 : w2.cell? ⟨W.heap.size, 1, none⟩ = some (.int .i64 ay) := cell_gr hw2 (by go_simp)
    have zw2_0 : W.heap.size < w2.heap.size := World.block_lt_of_cell? _ _ cw2_0_0
    have cw2_1_0 : w2.cell? ⟨W.heap.size + 1, 0, none⟩ = some (.int .i64 bx) := cell_gr hw2 (by go_simp)
    have cw2_1_1 : w2.cell? ⟨W.heap.size + 1, 1, none⟩ = some (.int .i64 by') := cell_gr hw2 (by go_simp)
    have zw2_1 : W.heap.size + 1 < w2.heap.size := World.block_lt_of_cell? _ _ cw2_1_0
    have cw2_2_0 : w2.cell? ⟨W.heap.size + 1 + 1, 0, none⟩ = some (.int .i64 lx) := cell_gr hw2 (by go_simp)
    have cw2_2_1 : w2.cell? ⟨W.heap.size + 1 + 1, 1, none⟩ = some (.int .i64 ly) := cell_gr hw2 (by go_simp)
    have cw2_2_2 : w2.cell? ⟨W.heap.size + 1 + 1, 2, none⟩ = some (.int .i64 hx) := cell_gr hw2 (by go_simp)
    have cw2_2_3 : w2.cell? ⟨W.heap.size + 1 + 1, 3, none⟩ = some (.int .i64 hy) := cell_gr hw2 (by go_simp)
    have zw2_2 : W.heap.size + 1 + 1 < w2.heap.size := World.block_lt_of_cell? _ _ cw2_2_0
    have gw2 : Gr W w2 := Gr.trans (by have gg := gw1; have gs := gg.size; go_grown) hw2
    clear hw2 gw1 zw1_0 cw1_0_0 cw1_0_1 zw1_1 cw1_1_0 cw1_1_1 zw1_2 cw1_2_0 cw1_2_1 cw1_2_2 cw1_2_3
    go_wp2_with fail
    go_at_call 14
    refine ((H3.out _)).mono ?_
    rintro e w3 ⟨rfl, hw3⟩
    have cw3_0_0 : w3.cell? ⟨W.heap.size, 0, none⟩ = some (.int .i64 ax) := cell_gr hw3 (by go_simp)
    have cw3_0_1 : w3.cell? ⟨W.heap.size, 1, none⟩ = some (.int .i64 ay) := cell_gr hw3 (by go_simp)
    have zw3_0 : W.heap.size < w3.heap.size := World.block_lt_of_cell? _ _ cw3_0_0
    have cw3_1_0 : w3.cell? ⟨W.heap.size + 1, 0, none⟩ = some (.int .i64 bx) := cell_gr hw3 (by go_simp)
    have cw3_1_1 : w3.cell? ⟨W.heap.size + 1, 1, none⟩ = some (.int .i64 by') := cell_gr hw3 (by go_simp)
    have zw3_1 : W.heap.size + 1 < w3.heap.size := World.block_lt_of_cell? _ _ cw3_1_0
    have cw3_2_0 : w3.cell? ⟨W.heap.size + 1 + 1, 0, none⟩ = some (.int .i64 lx) := cell_gr hw3 (by go_simp)
    have cw3_2_1 : w3.cell? ⟨W.heap.size + 1 + 1, 1, none⟩ = some (.int .i64 ly) := cell_gr hw3 (by go_simp)
    have cw3_2_2 : w3.cell? ⟨W.heap.size + 1 + 1, 2, none⟩ = some (.int .i64 hx) := cell_gr hw3 (by go_simp)
    have cw3_2_3 : w3.cell? ⟨W.heap.size + 1 + 1, 3, none⟩ = some (.int .i64 hy) := cell_gr hw3 (by go_simp)
    have zw3_2 : W.heap.size + 1 + 1 < w3.heap.size := World.block_lt_of_cell? _ _ cw3_2_0
    have gw3 : Gr W w3 := Gr.trans (by have gg := gw2; have gs := gg.size; go_grown) hw3
    clear hw3 gw2 zw2_0 cw2_0_0 cw2_0_1 zw2_1 cw2_1_0 cw2_1_1 zw2_2 cw2_2_0 cw2_2_1 cw2_2_2 cw2_2_3
    go_wp2_with fail
    go_at_call 14
    refine ((H4.out _)).mono ?_
    rintro e w4 ⟨rfl, hw4⟩
    have cw4_0_0 : w4.cell? ⟨W.heap.size, 0, none⟩ = some (.int .i64 ax) := cell_gr hw4 (by go_simp)
    have cw4_0_1 : w4.cell? ⟨W.heap.size, 1, none⟩ = some (.int .i64 ay) := cell_gr hw4 (by go_simp)
    have zw4_0 : W.heap.size < w4.heap.size := World.block_lt_of_cell? _ _ cw4_0_0
    have cw4_1_0 : w4.cell? ⟨W.heap.size + 1, 0, none⟩ = some (.int .i64 bx) := cell_gr hw4 (by go_simp)
    have cw4_1_1 : w4.cell? ⟨W.heap.size + 1, 1, none⟩ = some (.int .i64 by') := cell_gr hw4 (by go_simp)
    have zw4_1 : W.heap.size + 1 < w4.heap.size := World.block_lt_of_cell? _ _ cw4_1_0
    have cw4_2_0 : w4.cell? ⟨W.heap.size + 1 + 1, 0, none⟩ = some (.int .i64 lx) := cell_gr hw4 (by go_simp)
    have cw4_2_1 : w4.cell? ⟨W.heap.size + 1 + 1, 1, none⟩ = some (.int .i64 ly) := cell_gr hw4 (by go_simp)
    have cw4_2_2 : w4.cell? ⟨W.heap.size + 1 + 1, 2, none⟩ = some (.int .i64 hx) := cell_gr hw4 (by go_simp)
    have cw4_2_3 : w4.cell? ⟨W.heap.size + 1 + 1, 3, none⟩ = some (.int .i64 hy) := cell_gr hw4 (by go_simp)
    have zw4_2 : W.heap.size + 1 + 1 < w4.heap.size := World.block_lt_of_cell? _ _ cw4_2_0
    have gw4 : Gr W w4 := Gr.trans (by have gg := gw3; have gs := gg.size; go_grown) hw4
    clear hw4 gw3 zw3_0 cw3_0_0 cw3_0_1 zw3_1 cw3_1_0 cw3_1_1 zw3_2 cw3_2_0 cw3_2_1 cw3_2_2 cw3_2_3
    go_wp2_with fail
    go_at_call 35
    refine ((H5.out _)).mono ?_
    rintro e w5 ⟨rfl, hw5⟩
    have cw5_0_0 : w5.cell? ⟨W.heap.size, 0, none⟩ = some (.int .i64 ax) := cell_gr hw5 (by go_simp)
    have cw5_0_1 : w5.cell? ⟨W.heap.size, 1, none⟩ = some (.int .i64 ay) := cell_gr hw5 (by go_simp)
    have zw5_0 : W.heap.size < w5.heap.size := World.block_lt_of_cell? _ _ cw5_0_0
    have cw5_1_0 : w5.cell? ⟨W.heap.size + 1, 0, none⟩ = some (.int .i64 bx) := cell_gr hw5 (by go_simp)
    have cw5_1_1 : w5.cell? ⟨W.heap.size + 1, 1, none⟩ = some (.int .i64 by') := cell_gr hw5 (by go_simp)
    have zw5_1 : W.heap.size + 1 < w5.heap.size := World.block_lt_of_cell? _ _ cw5_1_0
    have cw5_2_0 : w5.cell? ⟨W.heap.size + 1 + 1, 0, none⟩ = some (.int .i64 lx) := cell_gr hw5 (by go_simp)
    have cw5_2_1 : w5.cell? ⟨W.heap.size + 1 + 1, 1, none⟩ = some (.int .i64 ly) := cell_gr hw5 (by go_simp)
    have cw5_2_2 : w5.cell? ⟨W.heap.size + 1 + 1, 2, none⟩ = some (.int .i64 hx) := cell_gr hw5 (by go_simp)
    have cw5_2_3 : w5.cell? ⟨W.heap.size + 1 + 1, 3, none⟩ = some (.int .i64 hy) := cell_gr hw5 (by go_simp)
    have zw5_2 : W.heap.size + 1 + 1 < w5.heap.size := World.block_lt_of_cell? _ _ cw5_2_0
    have cw5_3_0 : w5.cell? ⟨w4.heap.size, 0, none⟩ = some (.int .i64 lx) := cell_gr hw5 (by go_simp)
    have cw5_3_1 : w5.cell? ⟨w4.heap.size, 1, none⟩ = some (.int .i64 ly) := cell_gr hw5 (by go_simp)
    have cw5_3_2 : w5.cell? ⟨w4.heap.size, 2, none⟩ = some (.int .i64 hx) := cell_gr hw5 (by go_simp)
    have cw5_3_3 : w5.cell? ⟨w4.heap.size, 3, none⟩ = some (.int .i64 ly) := cell_gr hw5 (by go_simp)
    have cw5_3_4 : w5.cell? ⟨w4.heap.size, 4, none⟩ = some (.int .i64 hx) := cell_gr hw5 (by go_simp)
    have cw5_3_5 : w5.cell? ⟨w4.heap.size, 5, none⟩ = some (.int .i64 hy) := cell_gr hw5 (by go_simp)
    have cw5_3_6 : w5.cell? ⟨w4.heap.size, 6, none⟩ = some (.int .i64 lx) := cell_gr hw5 (by go_simp)
    have cw5_3_7 : w5.cell? ⟨w4.heap.size, 7, none⟩ = some (.int .i64 hy) := cell_gr hw5 (by go_simp)
    have zw5_3 : w4.heap.size < w5.heap.size := World.block_lt_of_cell? _ _ cw5_3_0
    have gw5 : Gr W w5 := Gr.trans (by have gg := gw4; have gs := gg.size; go_grown) hw5
    clear hw5 gw4 zw4_0 cw4_0_0 cw4_0_1 zw4_1 cw4_1_0 cw4_1_1 zw4_2 cw4_2_0 cw4_2_1 cw4_2_2 cw4_2_3
    go_wp2_with fail
    refine wp_loop_rounds 5 ?_
    rw [rounds_succ]
    go_wp2_with fail
    go_wp2_with fail
    refine wp_region_spread (by kernel_rfl) (by kernel_rfl) ?_
    try simp only [List.append]
    repeat (first | go_big_quiet_skip | (go_big_quiet_want; go_big_quiet_op; (first | go_big_quiet_on | (apply Exists.intro; refine ⟨fun _ => ?_, ?_⟩; (· (first | (go_at_call 24; first | ((with_reducible refine ((HM0.out _)).mono ?_); rintro e w' ⟨rfl, hg⟩; exact ⟨rfl, spread_gr hg⟩)))); go_big_quiet_on))))
    refine wpQuiet_nil ?_
    intro v1 hhv1
    have hv1 := Hd.gr_of_spread hhv1
    have cv1_0_0 : v1.cell? ⟨W.heap.size, 0, none⟩ = some (.int .i64 ax) := cell_gr hv1 (by go_simp)
    have cv1_0_1 : v1.cell? ⟨W.heap.size, 1, none⟩ = some (.int .i64 ay) := cell_gr hv1 (by go_simp)
    have zv1_0 : W.heap.size < v1.heap.size := World.block_lt_of_cell? _ _ cv1_0_0
    have cv1_1_0 : v1.cell? ⟨W.heap.size + 1, 0, none⟩ = some (.int .i64 bx) := cell_gr hv1 (by go_simp)
    have cv1_1_1 : v1.cell? ⟨W.heap.size + 1, 1, none⟩ = some (.int .i64 by') := cell_gr hv1 (by go_simp)
    have zv1_1 : W.heap.size + 1 < v1.heap.size := World.block_lt_of_cell? _ _ cv1_1_0
    have cv1_2_0 : v1.cell? ⟨W.heap.size + 1 + 1, 0, none⟩ = some (.int .i64 lx) := cell_gr hv1 (by go_simp)
    have cv1_2_1 : v1.cell? ⟨W.heap.size + 1 + 1, 1, none⟩ = some (.int .i64 ly) := cell_gr hv1 (by go_simp)
    have cv1_2_2 : v1.cell? ⟨W.heap.size + 1 + 1, 2, none⟩ = some (.int .i64 hx) := cell_gr hv1 (by go_simp)
    have cv1_2_3 : v1.cell? ⟨W.heap.size + 1 + 1, 3, none⟩ = some (.int .i64 hy) := cell_gr hv1 (by go_simp)
    have zv1_2 : W.heap.size + 1 + 1 < v1.heap.size := World.block_lt_of_cell? _ _ cv1_2_0
    have cv1_3_0 : v1.cell? ⟨w4.heap.size, 0, none⟩ = some (.int .i64 lx) := cell_gr hv1 (by go_simp)
    have cv1_3_1 : v1.cell? ⟨w4.heap.size, 1, none⟩ = some (.int .i64 ly) := cell_gr hv1 (by go_simp)
    have cv1_3_2 : v1.cell? ⟨w4.heap.size, 2, none⟩ = some (.int .i64 hx) := cell_gr hv1 (by go_simp)
    have cv1_3_3 : v1.cell? ⟨w4.heap.size, 3, none⟩ = some (.int .i64 ly) := cell_gr hv1 (by go_simp)
    have cv1_3_4 : v1.cell? ⟨w4.heap.size, 4, none⟩ = some (.int .i64 hx) := cell_gr hv1 (by go_simp)
    have cv1_3_5 : v1.cell? ⟨w4.heap.size, 5, none⟩ = some (.int .i64 hy) := cell_gr hv1 (by go_simp)
    have cv1_3_6 : v1.cell? ⟨w4.heap.size, 6, none⟩ = some (.int .i64 lx) := cell_gr hv1 (by go_simp)
    have cv1_3_7 : v1.cell? ⟨w4.heap.size, 7, none⟩ = some (.int .i64 hy) := cell_gr hv1 (by go_simp)
    have zv1_3 : w4.heap.size < v1.heap.size := World.block_lt_of_cell? _ _ cv1_3_0
    have gv1 : Gr W v1 := Gr.trans (by have gg := gw5; have gs := gg.size; go_grown) hv1
    clear hv1 hhv1 gw5 zw5_0 cw5_0_0 cw5_0_1 zw5_1 cw5_1_0 cw5_1_1 zw5_2 cw5_2_0 cw5_2_1 cw5_2_2 cw5_2_3 zw5_3 cw5_3_0 cw5_3_1 cw5_3_2 cw5_3_3 cw5_3_4 cw5_3_5 cw5_3_6 cw5_3_7
    go_wp2_with fail
    rw [rounds_succ]
    go_wp2_with fail
    go_wp2_with fail
    refine wp_region_spread (by kernel_rfl) (by kernel_rfl) ?_
    try simp only [List.append]
    repeat (first | go_big_quiet_skip | (go_big_quiet_want; go_big_quiet_op; (first | go_big_quiet_on | (apply Exists.intro; refine ⟨fun _ => ?_, ?_⟩; (· (first | (go_at_call 24; first | ((with_reducible refine ((HM1.out _)).mono ?_); rintro e w' ⟨rfl, hg⟩; exact ⟨rfl, spread_gr hg⟩)))); go_big_quiet_on))))
    refine wpQuiet_nil ?_
    intro v2 hhv2
    have hv2 := Hd.gr_of_spread hhv2
    have cv2_0_0 : v2.cell? ⟨W.heap.size, 0, none⟩ = some (.int .i64 ax) := cell_gr hv2 (by go_simp)
    have cv2_0_1 : v2.cell? ⟨W.heap.size, 1, none⟩ = some (.int .i64 ay) := cell_gr hv2 (by go_simp)
    have zv2_0 : W.heap.size < v2.heap.size := World.block_lt_of_cell? _ _ cv2_0_0
    have cv2_1_0 : v2.cell? ⟨W.heap.size + 1, 0, none⟩ = some (.int .i64 bx) := cell_gr hv2 (by go_simp)
    have cv2_1_1 : v2.cell? ⟨W.heap.size + 1, 1, none⟩ = some (.int .i64 by') := cell_gr hv2 (by go_simp)
    have zv2_1 : W.heap.size + 1 < v2.heap.size := World.block_lt_of_cell? _ _ cv2_1_0
    have cv2_2_0 : v2.cell? ⟨W.heap.size + 1 + 1, 0, none⟩ = some (.int .i64 lx) := cell_gr hv2 (by go_simp)
    have cv2_2_1 : v2.cell? ⟨W.heap.size + 1 + 1, 1, none⟩ = some (.int .i64 ly) := cell_gr hv2 (by go_simp)
    have cv2_2_2 : v2.cell? ⟨W.heap.size + 1 + 1, 2, none⟩ = some (.int .i64 hx) := cell_gr hv2 (by go_simp)
    have cv2_2_3 : v2.cell? ⟨W.heap.size + 1 + 1, 3, none⟩ = some (.int .i64 hy) := cell_gr hv2 (by go_simp)
    have zv2_2 : W.heap.size + 1 + 1 < v2.heap.size := World.block_lt_of_cell? _ _ cv2_2_0
    have cv2_3_0 : v2.cell? ⟨w4.heap.size, 0, none⟩ = some (.int .i64 lx) := cell_gr hv2 (by go_simp)
    have cv2_3_1 : v2.cell? ⟨w4.heap.size, 1, none⟩ = some (.int .i64 ly) := cell_gr hv2 (by go_simp)
    have cv2_3_2 : v2.cell? ⟨w4.heap.size, 2, none⟩ = some (.int .i64 hx) := cell_gr hv2 (by go_simp)
    have cv2_3_3 : v2.cell? ⟨w4.heap.size, 3, none⟩ = some (.int .i64 ly) := cell_gr hv2 (by go_simp)
    have cv2_3_4 : v2.cell? ⟨w4.heap.size, 4, none⟩ = some (.int .i64 hx) := cell_gr hv2 (by go_simp)
    have cv2_3_5 : v2.cell? ⟨w4.heap.size, 5, none⟩ = some (.int .i64 hy) := cell_gr hv2 (by go_simp)
    have cv2_3_6 : v2.cell? ⟨w4.heap.size, 6, none⟩ = some (.int .i64 lx) := cell_gr hv2 (by go_simp)
    have cv2_3_7 : v2.cell? ⟨w4.heap.size, 7, none⟩ = some (.int .i64 hy) := cell_gr hv2 (by go_simp)
    have zv2_3 : w4.heap.size < v2.heap.size := World.block_lt_of_cell? _ _ cv2_3_0
    have gv2 : Gr W v2 := Gr.trans (by have gg := gv1; have gs := gg.size; go_grown) hv2
    clear hv2 hhv2 gv1 zv1_0 cv1_0_0 cv1_0_1 zv1_1 cv1_1_0 cv1_1_1 zv1_2 cv1_2_0 cv1_2_1 cv1_2_2 cv1_2_3 zv1_3 cv1_3_0 cv1_3_1 cv1_3_2 cv1_3_3 cv1_3_4 cv1_3_5 cv1_3_6 cv1_3_7
    go_wp2_with fail
    rw [rounds_succ]
    go_wp2_with fail
    go_wp2_with fail
    refine wp_region_spread (by kernel_rfl) (by kernel_rfl) ?_
    try simp only [List.append]
    repeat (first | go_big_quiet_skip | (go_big_quiet_want; go_big_quiet_op; (first | go_big_quiet_on | (apply Exists.intro; refine ⟨fun _ => ?_, ?_⟩; (· (first | (go_at_call 24; first | ((with_reducible refine ((HM2.out _)).mono ?_); rintro e w' ⟨rfl, hg⟩; exact ⟨rfl, spread_gr hg⟩)))); go_big_quiet_on))))
    refine wpQuiet_nil ?_
    intro v3 hhv3
    have hv3 := Hd.gr_of_spread hhv3
    have cv3_0_0 : v3.cell? ⟨W.heap.size, 0, none⟩ = some (.int .i64 ax) := cell_gr hv3 (by go_simp)
    have cv3_0_1 : v3.cell? ⟨W.heap.size, 1, none⟩ = some (.int .i64 ay) := cell_gr hv3 (by go_simp)
    have zv3_0 : W.heap.size < v3.heap.size := World.block_lt_of_cell? _ _ cv3_0_0
    have cv3_1_0 : v3.cell? ⟨W.heap.size + 1, 0, none⟩ = some (.int .i64 bx) := cell_gr hv3 (by go_simp)
    have cv3_1_1 : v3.cell? ⟨W.heap.size + 1, 1, none⟩ = some (.int .i64 by') := cell_gr hv3 (by go_simp)
    have zv3_1 : W.heap.size + 1 < v3.heap.size := World.block_lt_of_cell? _ _ cv3_1_0
    have cv3_2_0 : v3.cell? ⟨W.heap.size + 1 + 1, 0, none⟩ = some (.int .i64 lx) := cell_gr hv3 (by go_simp)
    have cv3_2_1 : v3.cell? ⟨W.heap.size + 1 + 1, 1, none⟩ = some (.int .i64 ly) := cell_gr hv3 (by go_simp)
    have cv3_2_2 : v3.cell? ⟨W.heap.size + 1 + 1, 2, none⟩ = some (.int .i64 hx) := cell_gr hv3 (by go_simp)
    have cv3_2_3 : v3.cell? ⟨W.heap.size + 1 + 1, 3, none⟩ = some (.int .i64 hy) := cell_gr hv3 (by go_simp)
    have zv3_2 : W.heap.size + 1 + 1 < v3.heap.size := World.block_lt_of_cell? _ _ cv3_2_0
    have cv3_3_0 : v3.cell? ⟨w4.heap.size, 0, none⟩ = some (.int .i64 lx) := cell_gr hv3 (by go_simp)
    have cv3_3_1 : v3.cell? ⟨w4.heap.size, 1, none⟩ = some (.int .i64 ly) := cell_gr hv3 (by go_simp)
    have cv3_3_2 : v3.cell? ⟨w4.heap.size, 2, none⟩ = some (.int .i64 hx) := cell_gr hv3 (by go_simp)
    have cv3_3_3 : v3.cell? ⟨w4.heap.size, 3, none⟩ = some (.int .i64 ly) := cell_gr hv3 (by go_simp)
    have cv3_3_4 : v3.cell? ⟨w4.heap.size, 4, none⟩ = some (.int .i64 hx) := cell_gr hv3 (by go_simp)
    have cv3_3_5 : v3.cell? ⟨w4.heap.size, 5, none⟩ = some (.int .i64 hy) := cell_gr hv3 (by go_simp)
    have cv3_3_6 : v3.cell? ⟨w4.heap.size, 6, none⟩ = some (.int .i64 lx) := cell_gr hv3 (by go_simp)
    have cv3_3_7 : v3.cell? ⟨w4.heap.size, 7, none⟩ = some (.int .i64 hy) := cell_gr hv3 (by go_simp)
    have zv3_3 : w4.heap.size < v3.heap.size := World.block_lt_of_cell? _ _ cv3_3_0
    have gv3 : Gr W v3 := Gr.trans (by have gg := gv2; have gs := gg.size; go_grown) hv3
    clear hv3 hhv3 gv2 zv2_0 cv2_0_0 cv2_0_1 zv2_1 cv2_1_0 cv2_1_1 zv2_2 cv2_2_0 cv2_2_1 cv2_2_2 cv2_2_3 zv2_3 cv2_3_0 cv2_3_1 cv2_3_2 cv2_3_3 cv2_3_4 cv2_3_5 cv2_3_6 cv2_3_7
    go_wp2_with fail
    rw [rounds_succ]
    go_wp2_with fail
    go_wp2_with fail
    refine wp_region_spread (by kernel_rfl) (by kernel_rfl) ?_
    try simp only [List.append]
    repeat (first | go_big_quiet_skip | (go_big_quiet_want; go_big_quiet_op; (first | go_big_quiet_on | (apply Exists.intro; refine ⟨fun _ => ?_, ?_⟩; (· (first | (go_at_call 24; first | ((with_reducible refine ((HM3.out _)).mono ?_); rintro e w' ⟨rfl, hg⟩; exact ⟨rfl, spread_gr hg⟩)))); go_big_quiet_on))))
    refine wpQuiet_nil ?_
    intro v4 hhv4
    have hv4 := Hd.gr_of_spread hhv4
    have cv4_0_0 : v4.cell? ⟨W.heap.size, 0, none⟩ = some (.int .i64 ax) := cell_gr hv4 (by go_simp)
    have cv4_0_1 : v4.cell? ⟨W.heap.size, 1, none⟩ = some (.int .i64 ay) := cell_gr hv4 (by go_simp)
    have zv4_0 : W.heap.size < v4.heap.size := World.block_lt_of_cell? _ _ cv4_0_0
    have cv4_1_0 : v4.cell? ⟨W.heap.size + 1, 0, none⟩ = some (.int .i64 bx) := cell_gr hv4 (by go_simp)
    have cv4_1_1 : v4.cell? ⟨W.heap.size + 1, 1, none⟩ = some (.int .i64 by') := cell_gr hv4 (by go_simp)
    have zv4_1 : W.heap.size + 1 < v4.heap.size := World.block_lt_of_cell? _ _ cv4_1_0
    have cv4_2_0 : v4.cell? ⟨W.heap.size + 1 + 1, 0, none⟩ = some (.int .i64 lx) := cell_gr hv4 (by go_simp)
    have cv4_2_1 : v4.cell? ⟨W.heap.size + 1 + 1, 1, none⟩ = some (.int .i64 ly) := cell_gr hv4 (by go_simp)
    have cv4_2_2 : v4.cell? ⟨W.heap.size + 1 + 1, 2, none⟩ = some (.int .i64 hx) := cell_gr hv4 (by go_simp)
    have cv4_2_3 : v4.cell? ⟨W.heap.size + 1 + 1, 3, none⟩ = some (.int .i64 hy) := cell_gr hv4 (by go_simp)
    have zv4_2 : W.heap.size + 1 + 1 < v4.heap.size := World.block_lt_of_cell? _ _ cv4_2_0
    have cv4_3_0 : v4.cell? ⟨w4.heap.size, 0, none⟩ = some (.int .i64 lx) := cell_gr hv4 (by go_simp)
    have cv4_3_1 : v4.cell? ⟨w4.heap.size, 1, none⟩ = some (.int .i64 ly) := cell_gr hv4 (by go_simp)
    have cv4_3_2 : v4.cell? ⟨w4.heap.size, 2, none⟩ = some (.int .i64 hx) := cell_gr hv4 (by go_simp)
    have cv4_3_3 : v4.cell? ⟨w4.heap.size, 3, none⟩ = some (.int .i64 ly) := cell_gr hv4 (by go_simp)
    have cv4_3_4 : v4.cell? ⟨w4.heap.size, 4, none⟩ = some (.int .i64 hx) := cell_gr hv4 (by go_simp)
    have cv4_3_5 : v4.cell? ⟨w4.heap.size, 5, none⟩ = some (.int .i64 hy) := cell_gr hv4 (by go_simp)
    have cv4_3_6 : v4.cell? ⟨w4.heap.size, 6, none⟩ = some (.int .i64 lx) := cell_gr hv4 (by go_simp)
    have cv4_3_7 : v4.cell? ⟨w4.heap.size, 7, none⟩ = some (.int .i64 hy) := cell_gr hv4 (by go_simp)
    have zv4_3 : w4.heap.size < v4.heap.size := World.block_lt_of_cell? _ _ cv4_3_0
    have gv4 : Gr W v4 := Gr.trans (by have gg := gv3; have gs := gg.size; go_grown) hv4
    clear hv4 hhv4 gv3 zv3_0 cv3_0_0 cv3_0_1 zv3_1 cv3_1_0 cv3_1_1 zv3_2 cv3_2_0 cv3_2_1 cv3_2_2 cv3_2_3 zv3_3 cv3_3_0 cv3_3_1 cv3_3_2 cv3_3_3 cv3_3_4 cv3_3_5 cv3_3_6 cv3_3_7
    go_wp2_with fail
    rw [rounds_succ]
    go_wp2_with fail
    refine wp_region_spread (by kernel_rfl) (by kernel_rfl) ?_
    try simp only [List.append]
    repeat (first | go_big_quiet_skip | (go_big_quiet_want; go_big_quiet_op; (first | go_big_quiet_on | (apply Exists.intro; refine ⟨fun _ => ?_, ?_⟩; (· (first | (go_at_call 28; first | ((with_reducible refine ((H6.out _)).mono ?_); rintro e w' ⟨rfl, hg⟩; exact ⟨rfl, spread_gr hg⟩) | ((with_reducible refine ((H7.out _)).mono ?_); rintro e w' ⟨rfl, hg⟩; exact ⟨rfl, spread_gr hg⟩)) | (go_at_call 22; first | ((with_reducible refine ((H8.out _)).mono ?_); rintro e w' ⟨rfl, hg⟩; exact ⟨rfl, spread_gr hg⟩)) | (go_at_call 32; first | ((with_reducible refine ((s4_awake _)).mono ?_); rintro e w' ⟨rfl, hg⟩; exact ⟨rfl, spread_gr hg⟩)))); go_big_quiet_on))))
    refine wpQuiet_nil ?_
    intro wr hr
    obtain ⟨mr, rfl⟩ := hr
    go_wp2_with fail
    go_ret
    exact ⟨rfl, Gr.trans (by have gg := gv4; have gs := gg.size; go_grown) (gr_spread _ _)⟩
theorem mbG_flip (ax ay bx by' lx ly hx hy : Int) : mbG bx by' ax ay lx ly hx hy = mbG ax ay bx by' lx ly hx hy := by
  unfold mbG mbF ovB diF
  rw [meF_flip ax ay bx by', meF_flip ax ay bx by', min_comm' ax bx, max_comm' ax bx, min_comm' ay by', max_comm' ay by']
  cases nearB ax ay <;> cases nearB bx by' <;> cases inB lx ly hx hy ax ay <;> cases inB lx ly hx hy bx by' <;> rfl
theorem mbG_point (ax ay bx by' px py : Int) (n1 : nearB ax ay = true) (n2 : nearB bx by' = true) (n3 : nearB px py = true) : mbG ax ay bx by' px py px py = onG ax ay bx by' px py := by
  unfold mbG onG
  have hb : boxB px py px py = true := by rw [boxB_iff]; exact ⟨⟨n3, n3⟩, by omega, by omega⟩
  rw [n1, n2, n3, hb]
  simp only [Bool.and_self, Bool.true_and]
  unfold mbF diF
  rw [meF_point]
  have sO := on_self ax ay bx by'
  cases ho : onF ax ay bx by' px py
  · have i1 : inB px py px py ax ay = false := by
      rw [← Bool.not_eq_true, inB_P]
      intro g
      unfold inP at g
      have e1 : ax = px := by omega
      have e2 : ay = py := by omega
      rw [e1, e2] at sO
      rw [e1, e2, sO.1] at ho
      cases ho
    have i2 : inB px py px py bx by' = false := by
      rw [← Bool.not_eq_true, inB_P]
      intro g
      unfold inP at g
      have e1 : bx = px := by omega
      have e2 : by' = py := by omega
      rw [e1, e2] at sO
      rw [e1, e2, sO.2] at ho
      cases ho
    rw [i1, i2]
    simp
  · have hv : ovB px py px py ax ay bx by' = true := by
      rw [ovB_iff]
      have := btw_iff.1 (onF_iff.1 ho).1
      unfold ovP
      omega
    rw [hv]
    simp
theorem walk_SegmBoxes (ax ay bx by' lx ly hx hy : Int) (h1 : (-9223372036854775808 ≤ ax ∧ ax ≤ 9223372036854775807) ∧ (-9223372036854775808 ≤ ay ∧ ay ≤ 9223372036854775807)) (h2 : (-9223372036854775808 ≤ bx ∧ bx ≤ 9223372036854775807) ∧ (-9223372036854775808 ≤ by' ∧ by' ≤ 9223372036854775807)) (h3 : (-9223372036854775808 ≤ lx ∧ lx ≤ 9223372036854775807) ∧ (-9223372036854775808 ≤ ly ∧ ly ≤ 9223372036854775807) ∧ (-9223372036854775808 ≤ hx ∧ hx ≤ 9223372036854775807) ∧ (-9223372036854775808 ≤ hy ∧ hy ≤ 9223372036854775807)) (W : World) :
    Calls Try.prog 7 #[.agg #[.int .i64 ax, .int .i64 ay], .agg #[.int .i64 bx, .int .i64 by'], .agg #[.int .i64 lx, .int .i64 ly, .int .i64 hx, .int .i64 hy]] W fun e w' => e = .returned (.bool true) ∧ Gr W w' := by
  clear h1 h2 h3
  have A1 := c_gMeetsBox ax ay bx by' lx ly hx hy
  have A2 := c_rCheckBox lx ly hx hy
  have A3 := c_rPoint ax ay
  have A4 := c_rPoint bx by'
  have A5 := c_rBoxHas lx ly hx hy ax ay
  have A6 := c_gMeetsBox bx by' ax ay lx ly hx hy
  have A7 := c_gMeetsBox ax ay bx by' lx ly lx ly
  have A8 := c_gOn ax ay bx by' lx ly
  rw [mbG_flip] at A6
  have hz := boxCode_zero (lx := lx) (ly := ly) (hx := hx) (hy := hy)
  cases hb : boxB lx ly hx hy
  · rw [hb] at hz
    have e : mbG ax ay bx by' lx ly hx hy = false := by unfold mbG; rw [hb]; simp
    rw [e] at A1
    exact boxes_no ax ay bx by' lx ly hx hy _ _ _ W (Or.inl (by simpa using hz)) A1 A2 A3 A4
  · rw [hb] at hz
    have z0 : boxCode lx ly hx hy = 0 := by simpa using hz
    rw [z0] at A2
    cases n1 : nearB ax ay
    · have e : mbG ax ay bx by' lx ly hx hy = false := by unfold mbG; rw [n1]; simp
      rw [e] at A1
      rw [n1] at A3
      exact boxes_no ax ay bx by' lx ly hx hy _ _ _ W (Or.inr (Or.inl ⟨rfl, rfl⟩)) A1 A2 A3 A4
    · cases n2 : nearB bx by'
      · have e : mbG ax ay bx by' lx ly hx hy = false := by unfold mbG; rw [n2]; simp
        rw [e] at A1
        rw [n1] at A3
        rw [n2] at A4
        exact boxes_no ax ay bx by' lx ly hx hy _ _ _ W (Or.inr (Or.inr ⟨rfl, rfl, rfl⟩)) A1 A2 A3 A4
      · rw [n1] at A3
        rw [n2] at A4
        rw [hb, n1] at A5
        simp only [Bool.true_and] at A5
        have hbn := (boxB_iff.1 hb).1
        have hbl := (boxB_iff.1 hb).2
        have o1 := nearB_iff.1 hbn.1
        have o2 := nearB_iff.1 hbn.2
        have g1 : nearB lx hy = true := by rw [nearB_iff]; omega
        have g2 : nearB hx ly = true := by rw [nearB_iff]; omega
        rw [mbG_point ax ay bx by' lx ly n1 n2 hbn.1] at A7
        have M0 := c_gMeet ax ay bx by' lx ly hx ly
        have M1 := c_gMeet ax ay bx by' hx ly hx hy
        have M2 := c_gMeet ax ay bx by' hx hy lx hy
        have M3 := c_gMeet ax ay bx by' lx hy lx ly
        rw [show meG ax ay bx by' lx ly hx ly = meF ax ay bx by' lx ly hx ly by unfold meG all4; rw [n1, n2, hbn.1, g2]; rfl] at M0
        rw [show meG ax ay bx by' hx ly hx hy = meF ax ay bx by' hx ly hx hy by unfold meG all4; rw [n1, n2, hbn.2, g2]; rfl] at M1
        rw [show meG ax ay bx by' hx hy lx hy = meF ax ay bx by' hx hy lx hy by unfold meG all4; rw [n1, n2, hbn.2, g1]; rfl] at M2
        rw [show meG ax ay bx by' lx hy lx ly = meF ax ay bx by' lx hy lx ly by unfold meG all4; rw [n1, n2, hbn.1, g1]; rfl] at M3
        have ym : mbG ax ay bx by' lx ly hx hy = (inB lx ly hx hy ax ay || siF lx ly hx hy ax ay bx by') := by
          unfold mbG
          rw [n1, n2, hb]
          simp only [Bool.and_self, Bool.true_and]
          unfold mbF
          cases ha : inB lx ly hx hy ax ay
          · cases hb2 : inB lx ly hx hy bx by'
            · cases hv : ovB lx ly hx hy ax ay bx by'
              · cases hs : siF lx ly hx hy ax ay bx by'
                · rfl
                · have := ovB_iff.2 (si_ov hbl hs)
                  rw [this] at hv; cases hv
              · rw [sides_diag hbl (ovB_iff.1 hv) (by rw [← inB_P, ha]; simp) (by rw [← inB_P, hb2]; simp)]
                simp
            · rw [enters (inB_P.1 hb2) (by rw [← inB_P, ha]; simp)]
              have hv : ovB lx ly hx hy ax ay bx by' = true := by
                have := inB_P.1 hb2
                rw [ovB_iff]
                unfold inP at this
                unfold ovP
                omega
              rw [hv]
              rfl
          · have hv : ovB lx ly hx hy ax ay bx by' = true := by
              have := inB_P.1 ha
              rw [ovB_iff]
              unfold inP at this
              unfold ovP
              omega
            rw [hv]
            simp
        rw [ym] at A1 A6
        unfold siF at A1 A6
        generalize inB lx ly hx hy ax ay = y0 at *
        generalize meF ax ay bx by' lx ly hx ly = m0 at *
        generalize meF ax ay bx by' hx ly hx hy = m1 at *
        generalize meF ax ay bx by' hx hy lx hy = m2 at *
        generalize meF ax ay bx by' lx hy lx ly = m3 at *
        cases y0
        · cases m0
          · cases m1
            · cases m2
              · cases m3
                · exact boxes_m4 ax ay bx by' lx ly hx hy _ W A1 A2 A3 A4 A5 M0 M1 M2 M3 A6 A7 A8
                · exact boxes_m3 ax ay bx by' lx ly hx hy _ W A1 A2 A3 A4 A5 M0 M1 M2 M3 A6 A7 A8
              · simp only [Bool.or_true, Bool.true_or, Bool.false_or] at A1 A6
                exact boxes_m2 ax ay bx by' lx ly hx hy _ W A1 A2 A3 A4 A5 M0 M1 M2 A6 A7 A8
            · simp only [Bool.or_true, Bool.true_or] at A1 A6
              exact boxes_m1 ax ay bx by' lx ly hx hy _ W A1 A2 A3 A4 A5 M0 M1 A6 A7 A8
          · simp only [Bool.or_true, Bool.true_or] at A1 A6
            exact boxes_m0 ax ay bx by' lx ly hx hy _ W A1 A2 A3 A4 A5 M0 A6 A7 A8
        · simp only [Bool.true_or] at A1 A6
          exact boxes_h ax ay bx by' lx ly hx hy _ W A1 A2 A3 A4 A5 A6 A7 A8
end Go.Proofs.Ythjhhnolkiejpaa
