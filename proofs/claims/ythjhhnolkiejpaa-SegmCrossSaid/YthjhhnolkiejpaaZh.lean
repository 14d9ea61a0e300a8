/- SegmCross: the rest -/
import Derived.Test.YthjhhnolkiejpaaZg
namespace Go.Proofs.Ythjhhnolkiejpaa
set_option linter.unusedVariables false
open Go.ChangeShapes Go.WideShapes Go.ChangeAt Go.RowKit

set_option maxHeartbeats 4000000 in
set_option maxRecDepth 100000 in
theorem cross_n2a (ax ay bx by' cx cy dx dy k1 k2 k3 k4 p1 p2 : Int) (W : World) (e1 : wrap64 (k1 * k2) = p1) (e2 : IntKind.i64.wrap (k1 * k2) = p1) (e3 : wrap64 (k3 * k4) = p2) (e4 : IntKind.i64.wrap (k3 * k4) = p2)
    (t1 : (p1 == -1) = true) (t2 : (p2 == -1) = false)
    (A1 : ∀ w, Calls Try.prog 14 #[.agg #[.int .i64 ax, .int .i64 ay]] w fun e w' => e = .returned (.bool true) ∧ Gr w w')
    (A2 : ∀ w, Calls Try.prog 14 #[.agg #[.int .i64 bx, .int .i64 by']] w fun e w' => e = .returned (.bool true) ∧ Gr w w')
    (A3 : ∀ w, Calls Try.prog 14 #[.agg #[.int .i64 cx, .int .i64 cy]] w fun e w' => e = .returned (.bool true) ∧ Gr w w')
    (A4 : ∀ w, Calls Try.prog 14 #[.agg #[.int .i64 dx, .int .i64 dy]] w fun e w' => e = .returned (.bool true) ∧ Gr w w')
    (A5 : ∀ w, Calls Try.prog 24 #[.agg #[.int .i64 ax, .int .i64 ay], .agg #[.int .i64 bx, .int .i64 by'], .agg #[.int .i64 cx, .int .i64 cy], .agg #[.int .i64 dx, .int .i64 dy]] w fun e w' => e = .returned (.bool true) ∧ Gr w w')
    (A6 : ∀ w, Calls Try.prog 26 #[.agg #[.int .i64 ax, .int .i64 ay], .agg #[.int .i64 bx, .int .i64 by'], .agg #[.int .i64 cx, .int .i64 cy], .agg #[.int .i64 dx, .int .i64 dy]] w fun e w' => e = .returned (.bool false) ∧ Gr w w')
    (B1 : ∀ w, Calls Try.prog 22 #[.agg #[.int .i64 ax, .int .i64 ay], .agg #[.int .i64 bx, .int .i64 by'], .agg #[.int .i64 cx, .int .i64 cy]] w fun e w' => e = .returned (.bool true) ∧ Gr w w')
    (O1 : ∀ w, Calls Try.prog 36 #[.agg #[.int .i64 ax, .int .i64 ay], .agg #[.int .i64 bx, .int .i64 by'], .agg #[.int .i64 cx, .int .i64 cy]] w fun e w' => e = .returned (.int .i64 k1) ∧ Gr w w')
    (O2 : ∀ w, Calls Try.prog 36 #[.agg #[.int .i64 ax, .int .i64 ay], .agg #[.int .i64 bx, .int .i64 by'], .agg #[.int .i64 dx, .int .i64 dy]] w fun e w' => e = .returned (.int .i64 k2) ∧ Gr w w')
    (O3 : ∀ w, Calls Try.prog 36 #[.agg #[.int .i64 cx, .int .i64 cy], .agg #[.int .i64 dx, .int .i64 dy], .agg #[.int .i64 ax, .int .i64 ay]] w fun e w' => e = .returned (.int .i64 k3) ∧ Gr w w')
    (O4 : ∀ w, Calls Try.prog 36 #[.agg #[.int .i64 cx, .int .i64 cy], .agg #[.int .i64 dx, .int .i64 dy], .agg #[.int .i64 bx, .int .i64 by']] w fun e w' => e = .returned (.int .i64 k4) ∧ Gr w w') :
    Calls Try.prog 9 #[.agg #[.int .i64 ax, .int .i64 ay], .agg #[.int .i64 bx, .int .i64 by'], .agg #[.int .i64 cx, .int .i64 cy], .agg #[.int .i64 dx, .int .i64 dy]] W fun e w' => e = .returned (.bool true) ∧ Gr W w' := by
  have H1 := Lib.hid A1
  have H2 := Lib.hid A2
  have H3 := Lib.hid A3
  have H4 := Lib.hid A4
  have H5 := Lib.hid A5
  have H6 := Lib.hid A6
  clear A1 A2 A3 A4 A5 A6
  have HB1 := Lib.hid B1
  have HO1 := Lib.hid O1
  have HO2 := Lib.hid O2
  have HO3 := Lib.hid O3
  have HO4 := Lib.hid O4
  clear B1 O1 O2 O3 O4
  go_enter Try.func9, Try.ntmps9
  go_wp2_with fail
  refine wp_loop_rounds 5 ?_
  rw [rounds_succ]
  go_wp2_with fail
  go_at_call 14
  refine ((H1.out _)).mono ?_
  rintro e w1 ⟨rfl, hw1⟩
  have cw1_0_0 : w1.cell? ⟨W.heap.size, 0, none⟩ = some (.int .i64 ax) := cell_gr hw1 (by go_simp)
  have cw1_0_1 : w1.cell? ⟨W.heap.size, 1, none⟩ = some (.int .i64 ay) := cell_gr hw1 (by go_simp)
  have zw1_0 : W.heap.size < w1.heap.size := World.block_lt_of_cell? _ _ cw1_0_0
  have cw1_1_0 : w1.cell? ⟨W.heap.size + 1, 0, none⟩ = some (.int .i64 bx) := cell_gr hw1 (by go_simp)
  have cw1_1_1 : w1.cell? ⟨W.heap.size + 1, 1, none⟩ = some (.int .i64 by') := cell_gr hw1 (by go_simp)
  have zw1_1 : W.heap.size + 1 < w1.heap.size := World.block_lt_of_cell? _ _ cw1_1_0
  have cw1_2_0 : w1.cell? ⟨W.heap.size + 1 + 1, 0, none⟩ = some (.int .i64 cx) := cell_gr hw1 (by go_simp)
  have cw1_2_1 : w1.cell? ⟨W.heap.size + 1 + 1, 1, none⟩ = some (.int .i64 cy) := cell_gr hw1 (by go_simp)
  have zw1_2 : W.heap.size + 1 + 1 < w1.heap.size := World.block_lt_of_cell? _ _ cw1_2_0
  have cw1_3_0 : w1.cell? ⟨W.heap.size + 1 + 1 + 1, 0, none⟩ = some (.int .i64 dx) := cell_gr hw1 (by go_simp)
  have cw1_3_1 : w1.cell? ⟨W.heap.size + 1 + 1 + 1, 1, none⟩ = some (.int .i64 dy) := cell_gr hw1 (by go_simp)
  have zw1_3 : W.heap.size + 1 + 1 + 1 < w1.heap.size := World.block_lt_of_cell? _ _ cw1_3_0
  have cw1_4_0 : w1.cell? ⟨W.heap.size + 1 + 1 + 1 + 1, 0, none⟩ = some (.int .i64 ax) := cell_gr hw1 (by go_simp)
  have cw1_4_1 : w1.cell? ⟨W.heap.size + 1 + 1 + 1 + 1, 1, none⟩ = some (.int .i64 ay) := cell_gr hw1 (by go_simp)
  have cw1_4_2 : w1.cell? ⟨W.heap.size + 1 + 1 + 1 + 1, 2, none⟩ = some (.int .i64 bx) := cell_gr hw1 (by go_simp)
  have cw1_4_3 : w1.cell? ⟨W.heap.size + 1 + 1 + 1 + 1, 3, none⟩ = some (.int .i64 by') := cell_gr hw1 (by go_simp)
  have cw1_4_4 : w1.cell? ⟨W.heap.size + 1 + 1 + 1 + 1, 4, none⟩ = some (.int .i64 cx) := cell_gr hw1 (by go_simp)
  have cw1_4_5 : w1.cell? ⟨W.heap.size + 1 + 1 + 1 + 1, 5, none⟩ = some (.int .i64 cy) := cell_gr hw1 (by go_simp)
  have cw1_4_6 : w1.cell? ⟨W.heap.size + 1 + 1 + 1 + 1, 6, none⟩ = some (.int .i64 dx) := cell_gr hw1 (by go_simp)
  have cw1_4_7 : w1.cell? ⟨W.heap.size + 1 + 1 + 1 + 1, 7, none⟩ = some (.int .i64 dy) := cell_gr hw1 (by go_simp)
  have zw1_4 : W.heap.size + 1 + 1 + 1 + 1 < w1.heap.size := World.block_lt_of_cell? _ _ cw1_4_0
  have gw1 : Gr W w1 := Gr.trans (by go_grown) hw1
  clear hw1
  go_wp2_with fail
  rw [rounds_succ]
  go_wp2_with fail
  go_at_call 14
  refine ((H2.out _)).mono ?_
  rintro e w2 ⟨rfl, hw2⟩
  have cw2_0_0 : w2.cell? ⟨W.heap.size, 0, none⟩ = some (.int .i64 ax) := cell_gr hw2 (by go_simp)
  have cw2_0_1 : w2.cell? ⟨W.heap.size, 1, none⟩ = some (.int .i64 ay) := cell_gr hw2 (by go_simp)
  have zw2_0 : W.heap.size < w2.heap.size := World.block_lt_of_cell? _ _ cw2_0_0
  have cw2_1_0 : w2.cell? ⟨W.heap.size + 1, 0, none⟩ = some (.int .i64 bx) := cell_gr hw2 (by go_simp)
  have cw2_1_1 : w2.cell? ⟨W.heap.size + 1, 1, none⟩ = some (.int .i64 by') := cell_gr hw2 (by go_simp)
  have zw2_1 : W.heap.size + 1 < w2.heap.size := World.block_lt_of_cell? _ _ cw2_1_0
  have cw2_2_0 : w2.cell? ⟨W.heap.size + 1 + 1, 0, none⟩ = some (.int .i64 cx) := cell_gr hw2 (by go_simp)
  have cw2_2_1 : w2.cell? ⟨W.heap.size + 1 + 1, 1, none⟩ = some (.int .i64 cy) := cell_gr hw2 (by go_simp)
  have zw2_2 : W.heap.size + 1 + 1 < w2.heap.size := World.block_lt_of_cell? _ _ cw2_2_0
  have cw2_3_0 : w2.cell? ⟨W.heap.size + 1 + 1 + 1, 0, none⟩ = some (.int .i64 dx) := cell_gr hw2 (by go_simp)
  have cw2_3_1 : w2.cell? ⟨W.heap.size + 1 + 1 + 1, 1, none⟩ = some (.int .i64 dy) := cell_gr hw2 (by go_simp)
  have zw2_3 : W.heap.size + 1 + 1 + 1 < w2.heap.size := World.block_lt_of_cell? _ _ cw2_3_0
  have cw2_4_0 : w2.cell? ⟨W.heap.size + 1 + 1 + 1 + 1, 0, none⟩ = some (.int .i64 ax) := cell_gr hw2 (by go_simp)
  have cw2_4_1 : w2.cell? ⟨W.heap.size + 1 + 1 + 1 + 1, 1, none⟩ = some (.int .i64 ay) := cell_gr hw2 (by go_simp)
  have cw2_4_2 : w2.cell? ⟨W.heap.size + 1 + 1 + 1 + 1, 2, none⟩ = some (.int .i64 bx) := cell_gr hw2 (by go_simp)
  have cw2_4_3 : w2.cell? ⟨W.heap.size + 1 + 1 + 1 + 1, 3, none⟩ = some (.int .i64 by') := cell_gr hw2 (by go_simp)
  have cw2_4_4 : w2.cell? ⟨W.heap.size + 1 + 1 + 1 + 1, 4, none⟩ = some (.int .i64 cx) := cell_gr hw2 (by go_simp)
  have cw2_4_5 : w2.cell? ⟨W.heap.size + 1 + 1 + 1 + 1, 5, none⟩ = some (.int .i64 cy) := cell_gr hw2 (by go_simp)
  have cw2_4_6 : w2.cell? ⟨W.heap.size + 1 + 1 + 1 + 1, 6, none⟩ = some (.int .i64 dx) := cell_gr hw2 (by go_simp)
  have cw2_4_7 : w2.cell? ⟨W.heap.size + 1 + 1 + 1 + 1, 7, none⟩ = some (.int .i64 dy) := cell_gr hw2 (by go_simp)
  have zw2_4 : W.heap.size + 1 + 1 + 1 + 1 < w2.heap.size := World.block_lt_of_cell? _ _ cw2_4_0
  have gw2 : Gr W w2 := Gr.trans (by have gg := gw1; have gs := gg.size; go_grown) hw2
  clear hw2 gw1 zw1_0 cw1_0_0 cw1_0_1 zw1_1 cw1_1_0 cw1_1_1 zw1_2 cw1_2_0 cw1_2_1 zw1_3 cw1_3_0 cw1_3_1 zw1_4 cw1_4_0 cw1_4_1 cw1_4_2 cw1_4_3 cw1_4_4 cw1_4_5 cw1_4_6 cw1_4_7
  go_wp2_with fail
  rw [rounds_succ]
  go_wp2_with fail
  go_at_call 14
  refine ((H3.out _)).mono ?_
  rintro e w3 ⟨rfl, hw3⟩
  have cw3_0_0 : w3.cell? ⟨W.heap.size, 0, none⟩ = some (.int .i64 ax) := cell_gr hw3 (by go_simp)
  have cw3_0_1 : w3.cell? ⟨W.heap.size, 1, none⟩ = some (.int .i64 ay) := cell_gr hw3 (by go_simp)
  have zw3_0 : W.heap.size < w3.heap.size := World.block_lt_of_cell? _ _ cw3_0_0
  have cw3_1_0 : w3.cell? ⟨W.heap.size + 1, 0, none⟩ = some (.int .i64 bx) := cell_gr hw3 (by go_simp)
  have cw3_1_1 : w3.cell? ⟨W.heap.size + 1, 1, none⟩ = some (.int .i64 by') := cell_gr hw3 (by go_simp)
  have zw3_1 : W.heap.size + 1 < w3.heap.size := World.block_lt_of_cell? _ _ cw3_1_0
  have cw3_2_0 : w3.cell? ⟨W.heap.size + 1 + 1, 0, none⟩ = some (.int .i64 cx) := cell_gr hw3 (by go_simp)
  have cw3_2_1 : w3.cell? ⟨W.heap.size + 1 + 1, 1, none⟩ = some (.int .i64 cy) := cell_gr hw3 (by go_simp)
  have zw3_2 : W.heap.size + 1 + 1 < w3.heap.size := World.block_lt_of_cell? _ _ cw3_2_0
  have cw3_3_0 : w3.cell? ⟨W.heap.size + 1 + 1 + 1, 0, none⟩ = some (.int .i64 dx) := cell_gr hw3 (by go_simp)
  have cw3_3_1 : w3.cell? ⟨W.heap.size + 1 + 1 + 1, 1, none⟩ = some (.int .i64 dy) := cell_gr hw3 (by go_simp)
  have zw3_3 : W.heap.size + 1 + 1 + 1 < w3.heap.size := World.block_lt_of_cell? _ _ cw3_3_0
  have cw3_4_0 : w3.cell? ⟨W.heap.size + 1 + 1 + 1 + 1, 0, none⟩ = some (.int .i64 ax) := cell_gr hw3 (by go_simp)
  have cw3_4_1 : w3.cell? ⟨W.heap.size + 1 + 1 + 1 + 1, 1, none⟩ = some (.int .i64 ay) := cell_gr hw3 (by go_simp)
  have cw3_4_2 : w3.cell? ⟨W.heap.size + 1 + 1 + 1 + 1, 2, none⟩ = some (.int .i64 bx) := cell_gr hw3 (by go_simp)
  have cw3_4_3 : w3.cell? ⟨W.heap.size + 1 + 1 + 1 + 1, 3, none⟩ = some (.int .i64 by') := cell_gr hw3 (by go_simp)
  have cw3_4_4 : w3.cell? ⟨W.heap.size + 1 + 1 + 1 + 1, 4, none⟩ = some (.int .i64 cx) := cell_gr hw3 (by go_simp)
  have cw3_4_5 : w3.cell? ⟨W.heap.size + 1 + 1 + 1 + 1, 5, none⟩ = some (.int .i64 cy) := cell_gr hw3 (by go_simp)
  have cw3_4_6 : w3.cell? ⟨W.heap.size + 1 + 1 + 1 + 1, 6, none⟩ = some (.int .i64 dx) := cell_gr hw3 (by go_simp)
  have cw3_4_7 : w3.cell? ⟨W.heap.size + 1 + 1 + 1 + 1, 7, none⟩ = some (.int .i64 dy) := cell_gr hw3 (by go_simp)
  have zw3_4 : W.heap.size + 1 + 1 + 1 + 1 < w3.heap.size := World.block_lt_of_cell? _ _ cw3_4_0
  have gw3 : Gr W w3 := Gr.trans (by have gg := gw2; have gs := gg.size; go_grown) hw3
  clear hw3 gw2 zw2_0 cw2_0_0 cw2_0_1 zw2_1 cw2_1_0 cw2_1_1 zw2_2 cw2_2_0 cw2_2_1 zw2_3 cw2_3_0 cw2_3_1 zw2_4 cw2_4_0 cw2_4_1 cw2_4_2 cw2_4_3 cw2_4_4 cw2_4_5 cw2_4_6 cw2_4_7
  go_wp2_with fail
  rw [rounds_succ]
  go_wp2_with fail
  go_at_call 14
  refine ((H4.out _)).mono ?_
  rintro e w4 ⟨rfl, hw4⟩
  have cw4_0_0 : w4.cell? ⟨W.heap.size, 0, none⟩ = some (.int .i64 ax) := cell_gr hw4 (by go_simp)
  have cw4_0_1 : w4.cell? ⟨W.heap.size, 1, none⟩ = some (.int .i64 ay) := cell_gr hw4 (by go_simp)
  have zw4_0 : W.heap.size < w4.heap.size := World.block_lt_of_cell? _ _ cw4_0_0
  have cw4_1_0 : w4.cell? ⟨W.heap.size + 1, 0, none⟩ = some (.int .i64 bx) := cell_gr hw4 (by go_simp)
  have cw4_1_1 : w4.cell? ⟨W.heap.size + 1, 1, none⟩ = some (.int .i64 by') := cell_gr hw4 (by go_simp)
  have zw4_1 : W.heap.size + 1 < w4.heap.size := World.block_lt_of_cell? _ _ cw4_1_0
  have cw4_2_0 : w4.cell? ⟨W.heap.size + 1 + 1, 0, none⟩ = some (.int .i64 cx) := cell_gr hw4 (by go_simp)
  have cw4_2_1 : w4.cell? ⟨W.heap.size + 1 + 1, 1, none⟩ = some (.int .i64 cy) := cell_gr hw4 (by go_simp)
  have zw4_2 : W.heap.size + 1 + 1 < w4.heap.size := World.block_lt_of_cell? _ _ cw4_2_0
  have cw4_3_0 : w4.cell? ⟨W.heap.size + 1 + 1 + 1, 0, none⟩ = some (.int .i64 dx) := cell_gr hw4 (by go_simp)
  have cw4_3_1 : w4.cell? ⟨W.heap.size + 1 + 1 + 1, 1, none⟩ = some (.int .i64 dy) := cell_gr hw4 (by go_simp)
  have zw4_3 : W.heap.size + 1 + 1 + 1 < w4.heap.size := World.block_lt_of_cell? _ _ cw4_3_0
  have cw4_4_0 : w4.cell? ⟨W.heap.size + 1 + 1 + 1 + 1, 0, none⟩ = some (.int .i64 ax) := cell_gr hw4 (by go_simp)
  have cw4_4_1 : w4.cell? ⟨W.heap.size + 1 + 1 + 1 + 1, 1, none⟩ = some (.int .i64 ay) := cell_gr hw4 (by go_simp)
  have cw4_4_2 : w4.cell? ⟨W.heap.size + 1 + 1 + 1 + 1, 2, none⟩ = some (.int .i64 bx) := cell_gr hw4 (by go_simp)
  have cw4_4_3 : w4.cell? ⟨W.heap.size + 1 + 1 + 1 + 1, 3, none⟩ = some (.int .i64 by') := cell_gr hw4 (by go_simp)
  have cw4_4_4 : w4.cell? ⟨W.heap.size + 1 + 1 + 1 + 1, 4, none⟩ = some (.int .i64 cx) := cell_gr hw4 (by go_simp)
  have cw4_4_5 : w4.cell? ⟨W.heap.size + 1 + 1 + 1 + 1, 5, none⟩ = some (.int .i64 cy) := cell_gr hw4 (by go_simp)
  have cw4_4_6 : w4.cell? ⟨W.heap.size + 1 + 1 + 1 + 1, 6, none⟩ = some (.int .i64 dx) := cell_gr hw4 (by go_simp)
  have cw4_4_7 : w4.cell? ⟨W.heap.size + 1 + 1 + 1 + 1, 7, none⟩ = some (.int .i64 dy) := cell_gr hw4 (by go_simp)
  have zw4_4 : W.heap.size + 1 + 1 + 1 + 1 < w4.heap.size := World.block_lt_of_cell? _ _ cw4_4_0
  have gw4 : Gr W w4 := Gr.trans (by have gg := gw3; have gs := gg.size; go_grown) hw4
  clear hw4 gw3 zw3_0 cw3_0_0 cw3_0_1 zw3_1 cw3_1_0 cw3_1_1 zw3_2 cw3_2_0 cw3_2_1 zw3_3 cw3_3_0 cw3_3_1 zw3_4 cw3_4_0 cw3_4_1 cw3_4_2 cw3_4_3 cw3_4_4 cw3_4_5 cw3_4_6 cw3_4_7
  go_wp2_with fail
  rw [rounds_succ]
  go_wp2_with fail
  go_at_call 22
  refine ((HB1.out _)).mono ?_
  rintro e v1 ⟨rfl, hv1⟩
  have cv1_0_0 : v1.cell? ⟨W.heap.size, 0, none⟩ = some (.int .i64 ax) := cell_gr hv1 (by go_simp)
  have cv1_0_1 : v1.cell? ⟨W.heap.size, 1, none⟩ = some (.int .i64 ay) := cell_gr hv1 (by go_simp)
  have zv1_0 : W.heap.size < v1.heap.size := World.block_lt_of_cell? _ _ cv1_0_0
  have cv1_1_0 : v1.cell? ⟨W.heap.size + 1, 0, none⟩ = some (.int .i64 bx) := cell_gr hv1 (by go_simp)
  have cv1_1_1 : v1.cell? ⟨W.heap.size + 1, 1, none⟩ = some (.int .i64 by') := cell_gr hv1 (by go_simp)
  have zv1_1 : W.heap.size + 1 < v1.heap.size := World.block_lt_of_cell? _ _ cv1_1_0
  have cv1_2_0 : v1.cell? ⟨W.heap.size + 1 + 1, 0, none⟩ = some (.int .i64 cx) := cell_gr hv1 (by go_simp)
  have cv1_2_1 : v1.cell? ⟨W.heap.size + 1 + 1, 1, none⟩ = some (.int .i64 cy) := cell_gr hv1 (by go_simp)
  have zv1_2 : W.heap.size + 1 + 1 < v1.heap.size := World.block_lt_of_cell? _ _ cv1_2_0
  have cv1_3_0 : v1.cell? ⟨W.heap.size + 1 + 1 + 1, 0, none⟩ = some (.int .i64 dx) := cell_gr hv1 (by go_simp)
  have cv1_3_1 : v1.cell? ⟨W.heap.size + 1 + 1 + 1, 1, none⟩ = some (.int .i64 dy) := cell_gr hv1 (by go_simp)
  have zv1_3 : W.heap.size + 1 + 1 + 1 < v1.heap.size := World.block_lt_of_cell? _ _ cv1_3_0
  have cv1_4_0 : v1.cell? ⟨W.heap.size + 1 + 1 + 1 + 1, 0, none⟩ = some (.int .i64 ax) := cell_gr hv1 (by go_simp)
  have cv1_4_1 : v1.cell? ⟨W.heap.size + 1 + 1 + 1 + 1, 1, none⟩ = some (.int .i64 ay) := cell_gr hv1 (by go_simp)
  have cv1_4_2 : v1.cell? ⟨W.heap.size + 1 + 1 + 1 + 1, 2, none⟩ = some (.int .i64 bx) := cell_gr hv1 (by go_simp)
  have cv1_4_3 : v1.cell? ⟨W.heap.size + 1 + 1 + 1 + 1, 3, none⟩ = some (.int .i64 by') := cell_gr hv1 (by go_simp)
  have cv1_4_4 : v1.cell? ⟨W.heap.size + 1 + 1 + 1 + 1, 4, none⟩ = some (.int .i64 cx) := cell_gr hv1 (by go_simp)
  have cv1_4_5 : v1.cell? ⟨W.heap.size + 1 + 1 + 1 + 1, 5, none⟩ = some (.int .i64 cy) := cell_gr hv1 (by go_simp)
  have cv1_4_6 : v1.cell? ⟨W.heap.size + 1 + 1 + 1 + 1, 6, none⟩ = some (.int .i64 dx) := cell_gr hv1 (by go_simp)
  have cv1_4_7 : v1.cell? ⟨W.heap.size + 1 + 1 + 1 + 1, 7, none⟩ = some (.int .i64 dy) := cell_gr hv1 (by go_simp)
  have zv1_4 : W.heap.size + 1 + 1 + 1 + 1 < v1.heap.size := World.block_lt_of_cell? _ _ cv1_4_0
  have gv1 : Gr W v1 := Gr.trans (by have gg := gw4; have gs := gg.size; go_grown) hv1
  clear hv1 gw4 zw4_0 cw4_0_0 cw4_0_1 zw4_1 cw4_1_0 cw4_1_1 zw4_2 cw4_2_0 cw4_2_1 zw4_3 cw4_3_0 cw4_3_1 zw4_4 cw4_4_0 cw4_4_1 cw4_4_2 cw4_4_3 cw4_4_4 cw4_4_5 cw4_4_6 cw4_4_7
  go_wp2_with fail
  refine wp_region_spread (by kernel_rfl) (by kernel_rfl) ?_
  try simp only [List.append]
  repeat (first | go_big_quiet_skip | (go_big_quiet_want; go_big_quiet_op; (first | go_big_quiet_on | (apply Exists.intro; refine ⟨fun _ => ?_, ?_⟩; (· (first | (go_at_call 36; first | ((with_reducible refine ((HO1.out _)).mono ?_); rintro e w' ⟨rfl, hg⟩; exact ⟨rfl, spread_gr hg⟩) | ((with_reducible refine ((HO2.out _)).mono ?_); rintro e w' ⟨rfl, hg⟩; exact ⟨rfl, spread_gr hg⟩) | ((with_reducible refine ((HO3.out _)).mono ?_); rintro e w' ⟨rfl, hg⟩; exact ⟨rfl, spread_gr hg⟩) | ((with_reducible refine ((HO4.out _)).mono ?_); rintro e w' ⟨rfl, hg⟩; exact ⟨rfl, spread_gr hg⟩)))); go_big_quiet_on))))
  refine wpQuiet_nil ?_
  intro x1 hhx1
  have hx1 := Hd.gr_of_spread hhx1
  have cx1_0_0 : x1.cell? ⟨W.heap.size, 0, none⟩ = some (.int .i64 ax) := cell_gr hx1 (by go_simp)
  have cx1_0_1 : x1.cell? ⟨W.heap.size, 1, none⟩ = some (.int .i64 ay) := cell_gr hx1 (by go_simp)
  have zx1_0 : W.heap.size < x1.heap.size := World.block_lt_of_cell? _ _ cx1_0_0
  have cx1_1_0 : x1.cell? ⟨W.heap.size + 1, 0, none⟩ = some (.int .i64 bx) := cell_gr hx1 (by go_simp)
  have cx1_1_1 : x1.cell? ⟨W.heap.size + 1, 1, none⟩ = some (.int .i64 by') := cell_gr hx1 (by go_simp)
  have zx1_1 : W.heap.size + 1 < x1.heap.size := World.block_lt_of_cell? _ _ cx1_1_0
  have cx1_2_0 : x1.cell? ⟨W.heap.size + 1 + 1, 0, none⟩ = some (.int .i64 cx) := cell_gr hx1 (by go_simp)
  have cx1_2_1 : x1.cell? ⟨W.heap.size + 1 + 1, 1, none⟩ = some (.int .i64 cy) := cell_gr hx1 (by go_simp)
  have zx1_2 : W.heap.size + 1 + 1 < x1.heap.size := World.block_lt_of_cell? _ _ cx1_2_0
  have cx1_3_0 : x1.cell? ⟨W.heap.size + 1 + 1 + 1, 0, none⟩ = some (.int .i64 dx) := cell_gr hx1 (by go_simp)
  have cx1_3_1 : x1.cell? ⟨W.heap.size + 1 + 1 + 1, 1, none⟩ = some (.int .i64 dy) := cell_gr hx1 (by go_simp)
  have zx1_3 : W.heap.size + 1 + 1 + 1 < x1.heap.size := World.block_lt_of_cell? _ _ cx1_3_0
  have cx1_4_0 : x1.cell? ⟨W.heap.size + 1 + 1 + 1 + 1, 0, none⟩ = some (.int .i64 ax) := cell_gr hx1 (by go_simp)
  have cx1_4_1 : x1.cell? ⟨W.heap.size + 1 + 1 + 1 + 1, 1, none⟩ = some (.int .i64 ay) := cell_gr hx1 (by go_simp)
  have cx1_4_2 : x1.cell? ⟨W.heap.size + 1 + 1 + 1 + 1, 2, none⟩ = some (.int .i64 bx) := cell_gr hx1 (by go_simp)
  have cx1_4_3 : x1.cell? ⟨W.heap.size + 1 + 1 + 1 + 1, 3, none⟩ = some (.int .i64 by') := cell_gr hx1 (by go_simp)
  have cx1_4_4 : x1.cell? ⟨W.heap.size + 1 + 1 + 1 + 1, 4, none⟩ = some (.int .i64 cx) := cell_gr hx1 (by go_simp)
  have cx1_4_5 : x1.cell? ⟨W.heap.size + 1 + 1 + 1 + 1, 5, none⟩ = some (.int .i64 cy) := cell_gr hx1 (by go_simp)
  have cx1_4_6 : x1.cell? ⟨W.heap.size + 1 + 1 + 1 + 1, 6, none⟩ = some (.int .i64 dx) := cell_gr hx1 (by go_simp)
  have cx1_4_7 : x1.cell? ⟨W.heap.size + 1 + 1 + 1 + 1, 7, none⟩ = some (.int .i64 dy) := cell_gr hx1 (by go_simp)
  have zx1_4 : W.heap.size + 1 + 1 + 1 + 1 < x1.heap.size := World.block_lt_of_cell? _ _ cx1_4_0
  have gx1 : Gr W x1 := Gr.trans (by have gg := gv1; have gs := gg.size; go_grown) hx1
  clear hx1 hhx1 gv1 zv1_0 cv1_0_0 cv1_0_1 zv1_1 cv1_1_0 cv1_1_1 zv1_2 cv1_2_0 cv1_2_1 zv1_3 cv1_3_0 cv1_3_1 zv1_4 cv1_4_0 cv1_4_1 cv1_4_2 cv1_4_3 cv1_4_4 cv1_4_5 cv1_4_6 cv1_4_7
  go_wp2_with fail
  go_at_call 26
  refine ((H6.out _)).mono ?_
  rintro e x2 ⟨rfl, hx2⟩
  have cx2_0_0 : x2.cell? ⟨W.heap.size, 0, none⟩ = some (.int .i64 ax) := cell_gr hx2 (by go_simp)
  have cx2_0_1 : x2.cell? ⟨W.heap.size, 1, none⟩ = some (.int .i64 ay) := cell_gr hx2 (by go_simp)
  have zx2_0 : W.heap.size < x2.heap.size := World.block_lt_of_cell? _ _ cx2_0_0
  have cx2_1_0 : x2.cell? ⟨W.heap.size + 1, 0, none⟩ = some (.int .i64 bx) := cell_gr hx2 (by go_simp)
  have cx2_1_1 : x2.cell? ⟨W.heap.size + 1, 1, none⟩ = some (.int .i64 by') := cell_gr hx2 (by go_simp)
  have zx2_1 : W.heap.size + 1 < x2.heap.size := World.block_lt_of_cell? _ _ cx2_1_0
  have cx2_2_0 : x2.cell? ⟨W.heap.size + 1 + 1, 0, none⟩ = some (.int .i64 cx) := cell_gr hx2 (by go_simp)
  have cx2_2_1 : x2.cell? ⟨W.heap.size + 1 + 1, 1, none⟩ = some (.int .i64 cy) := cell_gr hx2 (by go_simp)
  have zx2_2 : W.heap.size + 1 + 1 < x2.heap.size := World.block_lt_of_cell? _ _ cx2_2_0
  have cx2_3_0 : x2.cell? ⟨W.heap.size + 1 + 1 + 1, 0, none⟩ = some (.int .i64 dx) := cell_gr hx2 (by go_simp)
  have cx2_3_1 : x2.cell? ⟨W.heap.size + 1 + 1 + 1, 1, none⟩ = some (.int .i64 dy) := cell_gr hx2 (by go_simp)
  have zx2_3 : W.heap.size + 1 + 1 + 1 < x2.heap.size := World.block_lt_of_cell? _ _ cx2_3_0
  have cx2_4_0 : x2.cell? ⟨W.heap.size + 1 + 1 + 1 + 1, 0, none⟩ = some (.int .i64 ax) := cell_gr hx2 (by go_simp)
  have cx2_4_1 : x2.cell? ⟨W.heap.size + 1 + 1 + 1 + 1, 1, none⟩ = some (.int .i64 ay) := cell_gr hx2 (by go_simp)
  have cx2_4_2 : x2.cell? ⟨W.heap.size + 1 + 1 + 1 + 1, 2, none⟩ = some (.int .i64 bx) := cell_gr hx2 (by go_simp)
  have cx2_4_3 : x2.cell? ⟨W.heap.size + 1 + 1 + 1 + 1, 3, none⟩ = some (.int .i64 by') := cell_gr hx2 (by go_simp)
  have cx2_4_4 : x2.cell? ⟨W.heap.size + 1 + 1 + 1 + 1, 4, none⟩ = some (.int .i64 cx) := cell_gr hx2 (by go_simp)
  have cx2_4_5 : x2.cell? ⟨W.heap.size + 1 + 1 + 1 + 1, 5, none⟩ = some (.int .i64 cy) := cell_gr hx2 (by go_simp)
  have cx2_4_6 : x2.cell? ⟨W.heap.size + 1 + 1 + 1 + 1, 6, none⟩ = some (.int .i64 dx) := cell_gr hx2 (by go_simp)
  have cx2_4_7 : x2.cell? ⟨W.heap.size + 1 + 1 + 1 + 1, 7, none⟩ = some (.int .i64 dy) := cell_gr hx2 (by go_simp)
  have zx2_4 : W.heap.size + 1 + 1 + 1 + 1 < x2.heap.size := World.block_lt_of_cell? _ _ cx2_4_0
  have gx2 : Gr W x2 := Gr.trans (by have gg := gx1; have gs := gg.size; go_grown) hx2
  clear hx2 gx1 zx1_0 cx1_0_0 cx1_0_1 zx1_1 cx1_1_0 cx1_1_1 zx1_2 cx1_2_0 cx1_2_1 zx1_3 cx1_3_0 cx1_3_1 zx1_4 cx1_4_0 cx1_4_1 cx1_4_2 cx1_4_3 cx1_4_4 cx1_4_5 cx1_4_6 cx1_4_7
  go_wp2_with fail
  go_at_call 24
  refine ((H5.out _)).mono ?_
  rintro e x3 ⟨rfl, hx3⟩
  have cx3_0_0 : x3.cell? ⟨W.heap.size, 0, none⟩ = some (.int .i64 ax) := cell_gr hx3 (by go_simp)
  have cx3_0_1 : x3.cell? ⟨W.heap.size, 1, none⟩ = some (.int .i64 ay) := cell_gr hx3 (by go_simp)
  have zx3_0 : W.heap.size < x3.heap.size := World.block_lt_of_cell? _ _ cx3_0_0
  have cx3_1_0 : x3.cell? ⟨W.heap.size + 1, 0, none⟩ = some (.int .i64 bx) := cell_gr hx3 (by go_simp)
  have cx3_1_1 : x3.cell? ⟨W.heap.size + 1, 1, none⟩ = some (.int .i64 by') := cell_gr hx3 (by go_simp)
  have zx3_1 : W.heap.size + 1 < x3.heap.size := World.block_lt_of_cell? _ _ cx3_1_0
  have cx3_2_0 : x3.cell? ⟨W.heap.size + 1 + 1, 0, none⟩ = some (.int .i64 cx) := cell_gr hx3 (by go_simp)
  have cx3_2_1 : x3.cell? ⟨W.heap.size + 1 + 1, 1, none⟩ = some (.int .i64 cy) := cell_gr hx3 (by go_simp)
  have zx3_2 : W.heap.size + 1 + 1 < x3.heap.size := World.block_lt_of_cell? _ _ cx3_2_0
  have cx3_3_0 : x3.cell? ⟨W.heap.size + 1 + 1 + 1, 0, none⟩ = some (.int .i64 dx) := cell_gr hx3 (by go_simp)
  have cx3_3_1 : x3.cell? ⟨W.heap.size + 1 + 1 + 1, 1, none⟩ = some (.int .i64 dy) := cell_gr hx3 (by go_simp)
  have zx3_3 : W.heap.size + 1 + 1 + 1 < x3.heap.size := World.block_lt_of_cell? _ _ cx3_3_0
  have cx3_4_0 : x3.cell? ⟨W.heap.size + 1 + 1 + 1 + 1, 0, none⟩ = some (.int .i64 ax) := cell_gr hx3 (by go_simp)
  have cx3_4_1 : x3.cell? ⟨W.heap.size + 1 + 1 + 1 + 1, 1, none⟩ = some (.int .i64 ay) := cell_gr hx3 (by go_simp)
  have cx3_4_2 : x3.cell? ⟨W.heap.size + 1 + 1 + 1 + 1, 2, none⟩ = some (.int .i64 bx) := cell_gr hx3 (by go_simp)
  have cx3_4_3 : x3.cell? ⟨W.heap.size + 1 + 1 + 1 + 1, 3, none⟩ = some (.int .i64 by') := cell_gr hx3 (by go_simp)
  have cx3_4_4 : x3.cell? ⟨W.heap.size + 1 + 1 + 1 + 1, 4, none⟩ = some (.int .i64 cx) := cell_gr hx3 (by go_simp)
  have cx3_4_5 : x3.cell? ⟨W.heap.size + 1 + 1 + 1 + 1, 5, none⟩ = some (.int .i64 cy) := cell_gr hx3 (by go_simp)
  have cx3_4_6 : x3.cell? ⟨W.heap.size + 1 + 1 + 1 + 1, 6, none⟩ = some (.int .i64 dx) := cell_gr hx3 (by go_simp)
  have cx3_4_7 : x3.cell? ⟨W.heap.size + 1 + 1 + 1 + 1, 7, none⟩ = some (.int .i64 dy) := cell_gr hx3 (by go_simp)
  have zx3_4 : W.heap.size + 1 + 1 + 1 + 1 < x3.heap.size := World.block_lt_of_cell? _ _ cx3_4_0
  have gx3 : Gr W x3 := Gr.trans (by have gg := gx2; have gs := gg.size; go_grown) hx3
  clear hx3 gx2 zx2_0 cx2_0_0 cx2_0_1 zx2_1 cx2_1_0 cx2_1_1 zx2_2 cx2_2_0 cx2_2_1 zx2_3 cx2_3_0 cx2_3_1 zx2_4 cx2_4_0 cx2_4_1 cx2_4_2 cx2_4_3 cx2_4_4 cx2_4_5 cx2_4_6 cx2_4_7
  go_wp2_with fail
  go_at_call 32
  refine ((s4_awake _)).mono ?_
  rintro e x4 ⟨rfl, hx4⟩
  have cx4_0_0 : x4.cell? ⟨W.heap.size, 0, none⟩ = some (.int .i64 ax) := cell_gr hx4 (by go_simp)
  have cx4_0_1 : x4.cell? ⟨W.heap.size, 1, none⟩ = some (.int .i64 ay) := cell_gr hx4 (by go_simp)
  have zx4_0 : W.heap.size < x4.heap.size := World.block_lt_of_cell? _ _ cx4_0_0
  have cx4_1_0 : x4.cell? ⟨W.heap.size + 1, 0, none⟩ = some (.int .i64 bx) := cell_gr hx4 (by go_simp)
  have cx4_1_1 : x4.cell? ⟨W.heap.size + 1, 1, none⟩ = some (.int .i64 by') := cell_gr hx4 (by go_simp)
  have zx4_1 : W.heap.size + 1 < x4.heap.size := World.block_lt_of_cell? _ _ cx4_1_0
  have cx4_2_0 : x4.cell? ⟨W.heap.size + 1 + 1, 0, none⟩ = some (.int .i64 cx) := cell_gr hx4 (by go_simp)
  have cx4_2_1 : x4.cell? ⟨W.heap.size + 1 + 1, 1, none⟩ = some (.int .i64 cy) := cell_gr hx4 (by go_simp)
  have zx4_2 : W.heap.size + 1 + 1 < x4.heap.size := World.block_lt_of_cell? _ _ cx4_2_0
  have cx4_3_0 : x4.cell? ⟨W.heap.size + 1 + 1 + 1, 0, none⟩ = some (.int .i64 dx) := cell_gr hx4 (by go_simp)
  have cx4_3_1 : x4.cell? ⟨W.heap.size + 1 + 1 + 1, 1, none⟩ = some (.int .i64 dy) := cell_gr hx4 (by go_simp)
  have zx4_3 : W.heap.size + 1 + 1 + 1 < x4.heap.size := World.block_lt_of_cell? _ _ cx4_3_0
  have cx4_4_0 : x4.cell? ⟨W.heap.size + 1 + 1 + 1 + 1, 0, none⟩ = some (.int .i64 ax) := cell_gr hx4 (by go_simp)
  have cx4_4_1 : x4.cell? ⟨W.heap.size + 1 + 1 + 1 + 1, 1, none⟩ = some (.int .i64 ay) := cell_gr hx4 (by go_simp)
  have cx4_4_2 : x4.cell? ⟨W.heap.size + 1 + 1 + 1 + 1, 2, none⟩ = some (.int .i64 bx) := cell_gr hx4 (by go_simp)
  have cx4_4_3 : x4.cell? ⟨W.heap.size + 1 + 1 + 1 + 1, 3, none⟩ = some (.int .i64 by') := cell_gr hx4 (by go_simp)
  have cx4_4_4 : x4.cell? ⟨W.heap.size + 1 + 1 + 1 + 1, 4, none⟩ = some (.int .i64 cx) := cell_gr hx4 (by go_simp)
  have cx4_4_5 : x4.cell? ⟨W.heap.size + 1 + 1 + 1 + 1, 5, none⟩ = some (.int .i64 cy) := cell_gr hx4 (by go_simp)
  have cx4_4_6 : x4.cell? ⟨W.heap.size + 1 + 1 + 1 + 1, 6, none⟩ = some (.int .i64 dx) := cell_gr hx4 (by go_simp)
  have cx4_4_7 : x4.cell? ⟨W.heap.size + 1 + 1 + 1 + 1, 7, none⟩ = some (.int .i64 dy) := cell_gr hx4 (by go_simp)
  have zx4_4 : W.heap.size + 1 + 1 + 1 + 1 < x4.heap.size := World.block_lt_of_cell? _ _ cx4_4_0
  have gx4 : Gr W x4 := Gr.trans (by have gg := gx3; have gs := gg.size; go_grown) hx4
  clear hx4 gx3 zx3_0 cx3_0_0 cx3_0_1 zx3_1 cx3_1_0 cx3_1_1 zx3_2 cx3_2_0 cx3_2_1 zx3_3 cx3_3_0 cx3_3_1 zx3_4 cx3_4_0 cx3_4_1 cx3_4_2 cx3_4_3 cx3_4_4 cx3_4_5 cx3_4_6 cx3_4_7
  go_wp2_with fail
  go_ret
  exact ⟨rfl, by go_grown⟩
set_option maxHeartbeats 4000000 in
set_option maxRecDepth 100000 in
theorem cross_n2b (ax ay bx by' cx cy dx dy k1 k2 k3 k4 p1 p2 : Int) (W : World) (e1 : wrap64 (k1 * k2) = p1) (e2 : IntKind.i64.wrap (k1 * k2) = p1) (e3 : wrap64 (k3 * k4) = p2) (e4 : IntKind.i64.wrap (k3 * k4) = p2)
    (t1 : (p1 == -1) = true) (t2 : (p2 == -1) = false)
    (A1 : ∀ w, Calls Try.prog 14 #[.agg #[.int .i64 ax, .int .i64 ay]] w fun e w' => e = .returned (.bool true) ∧ Gr w w')
    (A2 : ∀ w, Calls Try.prog 14 #[.agg #[.int .i64 bx, .int .i64 by']] w fun e w' => e = .returned (.bool true) ∧ Gr w w')
    (A3 : ∀ w, Calls Try.prog 14 #[.agg #[.int .i64 cx, .int .i64 cy]] w fun e w' => e = .returned (.bool true) ∧ Gr w w')
    (A4 : ∀ w, Calls Try.prog 14 #[.agg #[.int .i64 dx, .int .i64 dy]] w fun e w' => e = .returned (.bool true) ∧ Gr w w')
    (A5 : ∀ w, Calls Try.prog 24 #[.agg #[.int .i64 ax, .int .i64 ay], .agg #[.int .i64 bx, .int .i64 by'], .agg #[.int .i64 cx, .int .i64 cy], .agg #[.int .i64 dx, .int .i64 dy]] w fun e w' => e = .returned (.bool true) ∧ Gr w w')
    (A6 : ∀ w, Calls Try.prog 26 #[.agg #[.int .i64 ax, .int .i64 ay], .agg #[.int .i64 bx, .int .i64 by'], .agg #[.int .i64 cx, .int .i64 cy], .agg #[.int .i64 dx, .int .i64 dy]] w fun e w' => e = .returned (.bool false) ∧ Gr w w')
    (B1 : ∀ w, Calls Try.prog 22 #[.agg #[.int .i64 ax, .int .i64 ay], .agg #[.int .i64 bx, .int .i64 by'], .agg #[.int .i64 cx, .int .i64 cy]] w fun e w' => e = .returned (.bool false) ∧ Gr w w')
    (B2 : ∀ w, Calls Try.prog 22 #[.agg #[.int .i64 ax, .int .i64 ay], .agg #[.int .i64 bx, .int .i64 by'], .agg #[.int .i64 dx, .int .i64 dy]] w fun e w' => e = .returned (.bool true) ∧ Gr w w')
    (O1 : ∀ w, Calls Try.prog 36 #[.agg #[.int .i64 ax, .int .i64 ay], .agg #[.int .i64 bx, .int .i64 by'], .agg #[.int .i64 cx, .int .i64 cy]] w fun e w' => e = .returned (.int .i64 k1) ∧ Gr w w')
    (O2 : ∀ w, Calls Try.prog 36 #[.agg #[.int .i64 ax, .int .i64 ay], .agg #[.int .i64 bx, .int .i64 by'], .agg #[.int .i64 dx, .int .i64 dy]] w fun e w' => e = .returned (.int .i64 k2) ∧ Gr w w')
    (O3 : ∀ w, Calls Try.prog 36 #[.agg #[.int .i64 cx, .int .i64 cy], .agg #[.int .i64 dx, .int .i64 dy], .agg #[.int .i64 ax, .int .i64 ay]] w fun e w' => e = .returned (.int .i64 k3) ∧ Gr w w')
    (O4 : ∀ w, Calls Try.prog 36 #[.agg #[.int .i64 cx, .int .i64 cy], .agg #[.int .i64 dx, .int .i64 dy], .agg #[.int .i64 bx, .int .i64 by']] w fun e w' => e = .returned (.int .i64 k4) ∧ Gr w w') :
    Calls Try.prog 9 #[.agg #[.int .i64 ax, .int .i64 ay], .agg #[.int .i64 bx, .int .i64 by'], .agg #[.int .i64 cx, .int .i64 cy], .agg #[.int .i64 dx, .int .i64 dy]] W fun e w' => e = .returned (.bool true) ∧ Gr W w' := by
  have H1 := Lib.hid A1
  have H2 := Lib.hid A2
  have H3 := Lib.hid A3
  have H4 := Lib.hid A4
  have H5 := Lib.hid A5
  have H6 := Lib.hid A6
  clear A1 A2 A3 A4 A5 A6
  have HB1 := Lib.hid B1
  have HB2 := Lib.hid B2
  have HO1 := Lib.hid O1
  have HO2 := Lib.hid O2
  have HO3 := Lib.hid O3
  have HO4 := Lib.hid O4
  clear B1 B2 O1 O2 O3 O4
  go_enter Try.func9, Try.ntmps9
  go_wp2_with fail
  refine wp_loop_rounds 5 ?_
  rw [rounds_succ]
  go_wp2_with fail
  go_at_call 14
  refine ((H1.out _)).mono ?_
  rintro e w1 ⟨rfl, hw1⟩
  have cw1_0_0 : w1.cell? ⟨W.heap.size, 0, none⟩ = some (.int .i64 ax) := cell_gr hw1 (by go_simp)
  have cw1_0_1 : w1.cell? ⟨W.heap.size, 1, none⟩ = some (.int .i64 ay) := cell_gr hw1 (by go_simp)
  have zw1_0 : W.heap.size < w1.heap.size := World.block_lt_of_cell? _ _ cw1_0_0
  have cw1_1_0 : w1.cell? ⟨W.heap.size + 1, 0, none⟩ = some (.int .i64 bx) := cell_gr hw1 (by go_simp)
  have cw1_1_1 : w1.cell? ⟨W.heap.size + 1, 1, none⟩ = some (.int .i64 by') := cell_gr hw1 (by go_simp)
  have zw1_1 : W.heap.size + 1 < w1.heap.size := World.block_lt_of_cell? _ _ cw1_1_0
  have cw1_2_0 : w1.cell? ⟨W.heap.size + 1 + 1, 0, none⟩ = some (.int .i64 cx) := cell_gr hw1 (by go_simp)
  have cw1_2_1 : w1.cell? ⟨W.heap.size + 1 + 1, 1, none⟩ = some (.int .i64 cy) := cell_gr hw1 (by go_simp)
  have zw1_2 : W.heap.size + 1 + 1 < w1.heap.size := World.block_lt_of_cell? _ _ cw1_2_0
  have cw1_3_0 : w1.cell? ⟨W.heap.size + 1 + 1 + 1, 0, none⟩ = some (.int .i64 dx) := cell_gr hw1 (by go_simp)
  have cw1_3_1 : w1.cell? ⟨W.heap.size + 1 + 1 + 1, 1, none⟩ = some (.int .i64 dy) := cell_gr hw1 (by go_simp)
  have zw1_3 : W.heap.size + 1 + 1 + 1 < w1.heap.size := World.block_lt_of_cell? _ _ cw1_3_0
  have cw1_4_0 : w1.cell? ⟨W.heap.size + 1 + 1 + 1 + 1, 0, none⟩ = some (.int .i64 ax) := cell_gr hw1 (by go_simp)
  have cw1_4_1 : w1.cell? ⟨W.heap.size + 1 + 1 + 1 + 1, 1, none⟩ = some (.int .i64 ay) := cell_gr hw1 (by go_simp)
  have cw1_4_2 : w1.cell? ⟨W.heap.size + 1 + 1 + 1 + 1, 2, none⟩ = some (.int .i64 bx) := cell_gr hw1 (by go_simp)
  have cw1_4_3 : w1.cell? ⟨W.heap.size + 1 + 1 + 1 + 1, 3, none⟩ = some (.int .i64 by') := cell_gr hw1 (by go_simp)
  have cw1_4_4 : w1.cell? ⟨W.heap.size + 1 + 1 + 1 + 1, 4, none⟩ = some (.int .i64 cx) := cell_gr hw1 (by go_simp)
  have cw1_4_5 : w1.cell? ⟨W.heap.size + 1 + 1 + 1 + 1, 5, none⟩ = some (.int .i64 cy) := cell_gr hw1 (by go_simp)
  have cw1_4_6 : w1.cell? ⟨W.heap.size + 1 + 1 + 1 + 1, 6, none⟩ = some (.int .i64 dx) := cell_gr hw1 (by go_simp)
  have cw1_4_7 : w1.cell? ⟨W.heap.size + 1 + 1 + 1 + 1, 7, none⟩ = some (.int .i64 dy) := cell_gr hw1 (by go_simp)
  have zw1_4 : W.heap.size + 1 + 1 + 1 + 1 < w1.heap.size := World.block_lt_of_cell? _ _ cw1_4_0
  have gw1 : Gr W w1 := Gr.trans (by go_grown) hw1
  clear hw1
  go_wp2_with fail
  rw [rounds_succ]
  go_wp2_with fail
  go_at_call 14
  refine ((H2.out _)).mono ?_
  rintro e w2 ⟨rfl, hw2⟩
  have cw2_0_0 : w2.cell? ⟨W.heap.size, 0, none⟩ = some (.int .i64 ax) := cell_gr hw2 (by go_simp)
  have cw2_0_1 : w2.cell? ⟨W.heap.size, 1, none⟩ = some (.int .i64 ay) := cell_gr hw2 (by go_simp)
  have zw2_0 : W.heap.size < w2.heap.size := World.block_lt_of_cell? _ _ cw2_0_0
  have cw2_1_0 : w2.cell? ⟨W.heap.size + 1, 0, none⟩ = some (.int .i64 bx) := cell_gr hw2 (by go_simp)
  have cw2_1_1 : w2.cell? ⟨W.heap.size + 1, 1, none⟩ = some (.int .i64 by') := cell_gr hw2 (by go_simp)
  have zw2_1 : W.heap.size + 1 < w2.heap.size := World.block_lt_of_cell? _ _ cw2_1_0
  have cw2_2_0 : w2.cell? ⟨W.heap.size + 1 + 1, 0, none⟩ = some (.int .i64 cx) := cell_gr hw2 (by go_simp)
  have cw2_2_1 : w2.cell? ⟨W.heap.size + 1 + 1, 1, none⟩ = some (.int .i64 cy) := cell_gr hw2 (by go_simp)
  have zw2_2 : W.heap.size + 1 + 1 < w2.heap.size := World.block_lt_of_cell? _ _ cw2_2_0
  have cw2_3_0 : w2.cell? ⟨W.heap.size + 1 + 1 + 1, 0, none⟩ = some (.int .i64 dx) := cell_gr hw2 (by go_simp)
  have cw2_3_1 : w2.cell? ⟨W.heap.size + 1 + 1 + 1, 1, none⟩ = some (.int .i64 dy) := cell_gr hw2 (by go_simp)
  have zw2_3 : W.heap.size + 1 + 1 + 1 < w2.heap.size := World.block_lt_of_cell? _ _ cw2_3_0
  have cw2_4_0 : w2.cell? ⟨W.heap.size + 1 + 1 + 1 + 1, 0, none⟩ = some (.int .i64 ax) := cell_gr hw2 (by go_simp)
  have cw2_4_1 : w2.cell? ⟨W.heap.size + 1 + 1 + 1 + 1, 1, none⟩ = some (.int .i64 ay) := cell_gr hw2 (by go_simp)
  have cw2_4_2 : w2.cell? ⟨W.heap.size + 1 + 1 + 1 + 1, 2, none⟩ = some (.int .i64 bx) := cell_gr hw2 (by go_simp)
  have cw2_4_3 : w2.cell? ⟨W.heap.size + 1 + 1 + 1 + 1, 3, none⟩ = some (.int .i64 by') := cell_gr hw2 (by go_simp)
  have cw2_4_4 : w2.cell? ⟨W.heap.size + 1 + 1 + 1 + 1, 4, none⟩ = some (.int .i64 cx) := cell_gr hw2 (by go_simp)
  have cw2_4_5 : w2.cell? ⟨W.heap.size + 1 + 1 + 1 + 1, 5, none⟩ = some (.int .i64 cy) := cell_gr hw2 (by go_simp)
  have cw2_4_6 : w2.cell? ⟨W.heap.size + 1 + 1 + 1 + 1, 6, none⟩ = some (.int .i64 dx) := cell_gr hw2 (by go_simp)
  have cw2_4_7 : w2.cell? ⟨W.heap.size + 1 + 1 + 1 + 1, 7, none⟩ = some (.int .i64 dy) := cell_gr hw2 (by go_simp)
  have zw2_4 : W.heap.size + 1 + 1 + 1 + 1 < w2.heap.size := World.block_lt_of_cell? _ _ cw2_4_0
  have gw2 : Gr W w2 := Gr.trans (by have gg := gw1; have gs := gg.size; go_grown) hw2
  clear hw2 gw1 zw1_0 cw1_0_0 cw1_0_1 zw1_1 cw1_1_0 cw1_1_1 zw1_2 cw1_2_0 cw1_2_1 zw1_3 cw1_3_0 cw1_3_1 zw1_4 cw1_4_0 cw1_4_1 cw1_4_2 cw1_4_3 cw1_4_4 cw1_4_5 cw1_4_6 cw1_4_7
  go_wp2_with fail
  rw [rounds_succ]
  go_wp2_with fail
  go_at_call 14
  refine ((H3.out _)).mono ?_
  rintro e w3 ⟨rfl, hw3⟩
  have cw3_0_0 : w3.cell? ⟨W.heap.size, 0, none⟩ = some (.int .i64 ax) := cell_gr hw3 (by go_simp)
  have cw3_0_1 : w3.cell? ⟨W.heap.size, 1, none⟩ = some (.int .i64 ay) := cell_gr hw3 (by go_simp)
  have zw3_0 : W.heap.size < w3.heap.size := World.block_lt_of_cell? _ _ cw3_0_0
  have cw3_1_0 : w3.cell? ⟨W.heap.size + 1, 0, none⟩ = some (.int .i64 bx) := cell_gr hw3 (by go_simp)
  have cw3_1_1 : w3.cell? ⟨W.heap.size + 1, 1, none⟩ = some (.int .i64 by') := cell_gr hw3 (by go_simp)
  have zw3_1 : W.heap.size + 1 < w3.heap.size := World.block_lt_of_cell? _ _ cw3_1_0
  have cw3_2_0 : w3.cell? ⟨W.heap.size + 1 + 1, 0, none⟩ = some (.int .i64 cx) := cell_gr hw3 (by go_simp)
  have cw3_2_1 : w3.cell? ⟨W.heap.size + 1 + 1, 1, none⟩ = some (.int .i64 cy) := cell_gr hw3 (by go_simp)
  have zw3_2 : W.heap.size + 1 + 1 < w3.heap.size := World.block_lt_of_cell? _ _ cw3_2_0
  have cw3_3_0 : w3.cell? ⟨W.heap.size + 1 + 1 + 1, 0, none⟩ = some (.int .i64 dx) := cell_gr hw3 (by go_simp)
  have cw3_3_1 : w3.cell? ⟨W.heap.size + 1 + 1 + 1, 1, none⟩ = some (.int .i64 dy) := cell_gr hw3 (by go_simp)
  have zw3_3 : W.heap.size + 1 + 1 + 1 < w3.heap.size := World.block_lt_of_cell? _ _ cw3_3_0
  have cw3_4_0 : w3.cell? ⟨W.heap.size + 1 + 1 + 1 + 1, 0, none⟩ = some (.int .i64 ax) := cell_gr hw3 (by go_simp)
  have cw3_4_1 : w3.cell? ⟨W.heap.size + 1 + 1 + 1 + 1, 1, none⟩ = some (.int .i64 ay) := cell_gr hw3 (by go_simp)
  have cw3_4_2 : w3.cell? ⟨W.heap.size + 1 + 1 + 1 + 1, 2, none⟩ = some (.int .i64 bx) := cell_gr hw3 (by go_simp)
  have cw3_4_3 : w3.cell? ⟨W.heap.size + 1 + 1 + 1 + 1, 3, none⟩ = some (.int .i64 by') := cell_gr hw3 (by go_simp)
  have cw3_4_4 : w3.cell? ⟨W.heap.size + 1 + 1 + 1 + 1, 4, none⟩ = some (.int .i64 cx) := cell_gr hw3 (by go_simp)
  have cw3_4_5 : w3.cell? ⟨W.heap.size + 1 + 1 + 1 + 1, 5, none⟩ = some (.int .i64 cy) := cell_gr hw3 (by go_simp)
  have cw3_4_6 : w3.cell? ⟨W.heap.size + 1 + 1 + 1 + 1, 6, none⟩ = some (.int .i64 dx) := cell_gr hw3 (by go_simp)
  have cw3_4_7 : w3.cell? ⟨W.heap.size + 1 + 1 + 1 + 1, 7, none⟩ = some (.int .i64 dy) := cell_gr hw3 (by go_simp)
  have zw3_4 : W.heap.size + 1 + 1 + 1 + 1 < w3.heap.size := World.block_lt_of_cell? _ _ cw3_4_0
  have gw3 : Gr W w3 := Gr.trans (by have gg := gw2; have gs := gg.size; go_grown) hw3
  clear hw3 gw2 zw2_0 cw2_0_0 cw2_0_1 zw2_1 cw2_1_0 cw2_1_1 zw2_2 cw2_2_0 cw2_2_1 zw2_3 cw2_3_0 cw2_3_1 zw2_4 cw2_4_0 cw2_4_1 cw2_4_2 cw2_4_3 cw2_4_4 cw2_4_5 cw2_4_6 cw2_4_7
  go_wp2_with fail
  rw [rounds_succ]
  go_wp2_with fail
  go_at_call 14
  refine ((H4.out _)).mono ?_
  rintro e w4 ⟨rfl, hw4⟩
  have cw4_0_0 : w4.cell? ⟨W.heap.size, 0, none⟩ = some (.int .i64 ax) := cell_gr hw4 (by go_simp)
  have cw4_0_1 : w4.cell? ⟨W.heap.size, 1, none⟩ = some (.int .i64 ay) := cell_gr hw4 (by go_simp)
  have zw4_0 : W.heap.size < w4.heap.size := World.block_lt_of_cell? _ _ cw4_0_0
  have cw4_1_0 : w4.cell? ⟨W.heap.size + 1, 0, none⟩ = some (.int .i64 bx) := cell_gr hw4 (by go_simp)
  have cw4_1_1 : w4.cell? ⟨W.heap.size + 1, 1, none⟩ = some (.int .i64 by') := cell_gr hw4 (by go_simp)
  have zw4_1 : W.heap.size + 1 < w4.heap.size := World.block_lt_of_cell? _ _ cw4_1_0
  have cw4_2_0 : w4.cell? ⟨W.heap.size + 1 + 1, 0, none⟩ = some (.int .i64 cx) := cell_gr hw4 (by go_simp)
  have cw4_2_1 : w4.cell? ⟨W.heap.size + 1 + 1, 1, none⟩ = some (.int .i64 cy) := cell_gr hw4 (by go_simp)
  have zw4_2 : W.heap.size + 1 + 1 < w4.heap.size := World.block_lt_of_cell? _ _ cw4_2_0
  have cw4_3_0 : w4.cell? ⟨W.heap.size + 1 + 1 + 1, 0, none⟩ = some (.int .i64 dx) := cell_gr hw4 (by go_simp)
  have cw4_3_1 : w4.cell? ⟨W.heap.size + 1 + 1 + 1, 1, none⟩ = some (.int .i64 dy) := cell_gr hw4 (by go_simp)
  have zw4_3 : W.heap.size + 1 + 1 + 1 < w4.heap.size := World.block_lt_of_cell? _ _ cw4_3_0
  have cw4_4_0 : w4.cell? ⟨W.heap.size + 1 + 1 + 1 + 1, 0, none⟩ = some (.int .i64 ax) := cell_gr hw4 (by go_simp)
  have cw4_4_1 : w4.cell? ⟨W.heap.size + 1 + 1 + 1 + 1, 1, none⟩ = some (.int .i64 ay) := cell_gr hw4 (by go_simp)
  have cw4_4_2 : w4.cell? ⟨W.heap.size + 1 + 1 + 1 + 1, 2, none⟩ = some (.int .i64 bx) := cell_gr hw4 (by go_simp)
  have cw4_4_3 : w4.cell? ⟨W.heap.size + 1 + 1 + 1 + 1, 3, none⟩ = some (.int .i64 by') := cell_gr hw4 (by go_simp)
  have cw4_4_4 : w4.cell? ⟨W.heap.size + 1 + 1 + 1 + 1, 4, none⟩ = some (.int .i64 cx) := cell_gr hw4 (by go_simp)
  have cw4_4_5 : w4.cell? ⟨W.heap.size + 1 + 1 + 1 + 1, 5, none⟩ = some (.int .i64 cy) := cell_gr hw4 (by go_simp)
  have cw4_4_6 : w4.cell? ⟨W.heap.size + 1 + 1 + 1 + 1, 6, none⟩ = some (.int .i64 dx) := cell_gr hw4 (by go_simp)
  have cw4_4_7 : w4.cell? ⟨W.heap.size + 1 + 1 + 1 + 1, 7, none⟩ = some (.int .i64 dy) := cell_gr hw4 (by go_simp)
  have zw4_4 : W.heap.size + 1 + 1 + 1 + 1 < w4.heap.size := World.block_lt_of_cell? _ _ cw4_4_0
  have gw4 : Gr W w4 := Gr.trans (by have gg := gw3; have gs := gg.size; go_grown) hw4
  clear hw4 gw3 zw3_0 cw3_0_0 cw3_0_1 zw3_1 cw3_1_0 cw3_1_1 zw3_2 cw3_2_0 cw3_2_1 zw3_3 cw3_3_0 cw3_3_1 zw3_4 cw3_4_0 cw3_4_1 cw3_4_2 cw3_4_3 cw3_4_4 cw3_4_5 cw3_4_6 cw3_4_7
  go_wp2_with fail
  rw [rounds_succ]
  go_wp2_with fail
  go_at_call 22
  refine ((HB1.out _)).mono ?_
  rintro e v1 ⟨rfl, hv1⟩
  have cv1_0_0 : v1.cell? ⟨W.heap.size, 0, none⟩ = some (.int .i64 ax) := cell_gr hv1 (by go_simp)
  have cv1_0_1 : v1.cell? ⟨W.heap.size, 1, none⟩ = some (.int .i64 ay) := cell_gr hv1 (by go_simp)
  have zv1_0 : W.heap.size < v1.heap.size := World.block_lt_of_cell? _ _ cv1_0_0
  have cv1_1_0 : v1.cell? ⟨W.heap.size + 1, 0, none⟩ = some (.int .i64 bx) := cell_gr hv1 (by go_simp)
  have cv1_1_1 : v1.cell? ⟨W.heap.size + 1, 1, none⟩ = some (.int .i64 by') := cell_gr hv1 (by go_simp)
  have zv1_1 : W.heap.size + 1 < v1.heap.size := World.block_lt_of_cell? _ _ cv1_1_0
  have cv1_2_0 : v1.cell? ⟨W.heap.size + 1 + 1, 0, none⟩ = some (.int .i64 cx) := cell_gr hv1 (by go_simp)
  have cv1_2_1 : v1.cell? ⟨W.heap.size + 1 + 1, 1, none⟩ = some (.int .i64 cy) := cell_gr hv1 (by go_simp)
  have zv1_2 : W.heap.size + 1 + 1 < v1.heap.size := World.block_lt_of_cell? _ _ cv1_2_0
  have cv1_3_0 : v1.cell? ⟨W.heap.size + 1 + 1 + 1, 0, none⟩ = some (.int .i64 dx) := cell_gr hv1 (by go_simp)
  have cv1_3_1 : v1.cell? ⟨W.heap.size + 1 + 1 + 1, 1, none⟩ = some (.int .i64 dy) := cell_gr hv1 (by go_simp)
  have zv1_3 : W.heap.size + 1 + 1 + 1 < v1.heap.size := World.block_lt_of_cell? _ _ cv1_3_0
  have cv1_4_0 : v1.cell? ⟨W.heap.size + 1 + 1 + 1 + 1, 0, none⟩ = some (.int .i64 ax) := cell_gr hv1 (by go_simp)
  have cv1_4_1 : v1.cell? ⟨W.heap.size + 1 + 1 + 1 + 1, 1, none⟩ = some (.int .i64 ay) := cell_gr hv1 (by go_simp)
  have cv1_4_2 : v1.cell? ⟨W.heap.size + 1 + 1 + 1 + 1, 2, none⟩ = some (.int .i64 bx) := cell_gr hv1 (by go_simp)
  have cv1_4_3 : v1.cell? ⟨W.heap.size + 1 + 1 + 1 + 1, 3, none⟩ = some (.int .i64 by') := cell_gr hv1 (by go_simp)
  have cv1_4_4 : v1.cell? ⟨W.heap.size + 1 + 1 + 1 + 1, 4, none⟩ = some (.int .i64 cx) := cell_gr hv1 (by go_simp)
  have cv1_4_5 : v1.cell? ⟨W.heap.size + 1 + 1 + 1 + 1, 5, none⟩ = some (.int .i64 cy) := cell_gr hv1 (by go_simp)
  have cv1_4_6 : v1.cell? ⟨W.heap.size + 1 + 1 + 1 + 1, 6, none⟩ = some (.int .i64 dx) := cell_gr hv1 (by go_simp)
  have cv1_4_7 : v1.cell? ⟨W.heap.size + 1 + 1 + 1 + 1, 7, none⟩ = some (.int .i64 dy) := cell_gr hv1 (by go_simp)
  have zv1_4 : W.heap.size + 1 + 1 + 1 + 1 < v1.heap.size := World.block_lt_of_cell? _ _ cv1_4_0
  have gv1 : Gr W v1 := Gr.trans (by have gg := gw4; have gs := gg.size; go_grown) hv1
  clear hv1 gw4 zw4_0 cw4_0_0 cw4_0_1 zw4_1 cw4_1_0 cw4_1_1 zw4_2 cw4_2_0 cw4_2_1 zw4_3 cw4_3_0 cw4_3_1 zw4_4 cw4_4_0 cw4_4_1 cw4_4_2 cw4_4_3 cw4_4_4 cw4_4_5 cw4_4_6 cw4_4_7
  go_wp2_with fail
  go_at_call 22
  refine ((HB2.out _)).mono ?_
  rintro e v2 ⟨rfl, hv2⟩
  have cv2_0_0 : v2.cell? ⟨W.heap.size, 0, none⟩ = some (.int .i64 ax) := cell_gr hv2 (by go_simp)
  have cv2_0_1 : v2.cell? ⟨W.heap.size, 1, none⟩ = some (.int .i64 ay) := cell_gr hv2 (by go_simp)
  have zv2_0 : W.heap.size < v2.heap.size := World.block_lt_of_cell? _ _ cv2_0_0
  have cv2_1_0 : v2.cell? ⟨W.heap.size + 1, 0, none⟩ = some (.int .i64 bx) := cell_gr hv2 (by go_simp)
  have cv2_1_1 : v2.cell? ⟨W.heap.size + 1, 1, none⟩ = some (.int .i64 by') := cell_gr hv2 (by go_simp)
  have zv2_1 : W.heap.size + 1 < v2.heap.size := World.block_lt_of_cell? _ _ cv2_1_0
  have cv2_2_0 : v2.cell? ⟨W.heap.size + 1 + 1, 0, none⟩ = some (.int .i64 cx) := cell_gr hv2 (by go_simp)
  have cv2_2_1 : v2.cell? ⟨W.heap.size + 1 + 1, 1, none⟩ = some (.int .i64 cy) := cell_gr hv2 (by go_simp)
  have zv2_2 : W.heap.size + 1 + 1 < v2.heap.size := World.block_lt_of_cell? _ _ cv2_2_0
  have cv2_3_0 : v2.cell? ⟨W.heap.size + 1 + 1 + 1, 0, none⟩ = some (.int .i64 dx) := cell_gr hv2 (by go_simp)
  have cv2_3_1 : v2.cell? ⟨W.heap.size + 1 + 1 + 1, 1, none⟩ = some (.int .i64 dy) := cell_gr hv2 (by go_simp)
  have zv2_3 : W.heap.size + 1 + 1 + 1 < v2.heap.size := World.block_lt_of_cell? _ _ cv2_3_0
  have cv2_4_0 : v2.cell? ⟨W.heap.size + 1 + 1 + 1 + 1, 0, none⟩ = some (.int .i64 ax) := cell_gr hv2 (by go_simp)
  have cv2_4_1 : v2.cell? ⟨W.heap.size + 1 + 1 + 1 + 1, 1, none⟩ = some (.int .i64 ay) := cell_gr hv2 (by go_simp)
  have cv2_4_2 : v2.cell? ⟨W.heap.size + 1 + 1 + 1 + 1, 2, none⟩ = some (.int .i64 bx) := cell_gr hv2 (by go_simp)
  have cv2_4_3 : v2.cell? ⟨W.heap.size + 1 + 1 + 1 + 1, 3, none⟩ = some (.int .i64 by') := cell_gr hv2 (by go_simp)
  have cv2_4_4 : v2.cell? ⟨W.heap.size + 1 + 1 + 1 + 1, 4, none⟩ = some (.int .i64 cx) := cell_gr hv2 (by go_simp)
  have cv2_4_5 : v2.cell? ⟨W.heap.size + 1 + 1 + 1 + 1, 5, none⟩ = some (.int .i64 cy) := cell_gr hv2 (by go_simp)
  have cv2_4_6 : v2.cell? ⟨W.heap.size + 1 + 1 + 1 + 1, 6, none⟩ = some (.int .i64 dx) := cell_gr hv2 (by go_simp)
  have cv2_4_7 : v2.cell? ⟨W.heap.size + 1 + 1 + 1 + 1, 7, none⟩ = some (.int .i64 dy) := cell_gr hv2 (by go_simp)
  have zv2_4 : W.heap.size + 1 + 1 + 1 + 1 < v2.heap.size := World.block_lt_of_cell? _ _ cv2_4_0
  have gv2 : Gr W v2 := Gr.trans (by have gg := gv1; have gs := gg.size; go_grown) hv2
  clear hv2 gv1 zv1_0 cv1_0_0 cv1_0_1 zv1_1 cv1_1_0 cv1_1_1 zv1_2 cv1_2_0 cv1_2_1 zv1_3 cv1_3_0 cv1_3_1 zv1_4 cv1_4_0 cv1_4_1 cv1_4_2 cv1_4_3 cv1_4_4 cv1_4_5 cv1_4_6 cv1_4_7
  go_wp2_with fail
  refine wp_region_spread (by kernel_rfl) (by kernel_rfl) ?_
  try simp only [List.append]
  repeat (first | go_big_quiet_skip | (go_big_quiet_want; go_big_quiet_op; (first | go_big_quiet_on | (apply Exists.intro; refine ⟨fun _ => ?_, ?_⟩; (· (first | (go_at_call 36; first | ((with_reducible refine ((HO1.out _)).mono ?_); rintro e w' ⟨rfl, hg⟩; exact ⟨rfl, spread_gr hg⟩) | ((with_reducible refine ((HO2.out _)).mono ?_); rintro e w' ⟨rfl, hg⟩; exact ⟨rfl, spread_gr hg⟩) | ((with_reducible refine ((HO3.out _)).mono ?_); rintro e w' ⟨rfl, hg⟩; exact ⟨rfl, spread_gr hg⟩) | ((with_reducible refine ((HO4.out _)).mono ?_); rintro e w' ⟨rfl, hg⟩; exact ⟨rfl, spread_gr hg⟩)))); go_big_quiet_on))))
  refine wpQuiet_nil ?_
  intro x1 hhx1
  have hx1 := Hd.gr_of_spread hhx1
  have cx1_0_0 : x1.cell? ⟨W.heap.size, 0, none⟩ = some (.int .i64 ax) := cell_gr hx1 (by go_simp)
  have cx1_0_1 : x1.cell? ⟨W.heap.size, 1, none⟩ = some (.int .i64 ay) := cell_gr hx1 (by go_simp)
  have zx1_0 : W.heap.size < x1.heap.size := World.block_lt_of_cell? _ _ cx1_0_0
  have cx1_1_0 : x1.cell? ⟨W.heap.size + 1, 0, none⟩ = some (.int .i64 bx) := cell_gr hx1 (by go_simp)
  have cx1_1_1 : x1.cell? ⟨W.heap.size + 1, 1, none⟩ = some (.int .i64 by') := cell_gr hx1 (by go_simp)
  have zx1_1 : W.heap.size + 1 < x1.heap.size := World.block_lt_of_cell? _ _ cx1_1_0
  have cx1_2_0 : x1.cell? ⟨W.heap.size + 1 + 1, 0, none⟩ = some (.int .i64 cx) := cell_gr hx1 (by go_simp)
  have cx1_2_1 : x1.cell? ⟨W.heap.size + 1 + 1, 1, none⟩ = some (.int .i64 cy) := cell_gr hx1 (by go_simp)
  have zx1_2 : W.heap.size + 1 + 1 < x1.heap.size := World.block_lt_of_cell? _ _ cx1_2_0
  have cx1_3_0 : x1.cell? ⟨W.heap.size + 1 + 1 + 1, 0, none⟩ = some (.int .i64 dx) := cell_gr hx1 (by go_simp)
  have cx1_3_1 : x1.cell? ⟨W.heap.size + 1 + 1 + 1, 1, none⟩ = some (.int .i64 dy) := cell_gr hx1 (by go_simp)
  have zx1_3 : W.heap.size + 1 + 1 + 1 < x1.heap.size := World.block_lt_of_cell? _ _ cx1_3_0
  have cx1_4_0 : x1.cell? ⟨W.heap.size + 1 + 1 + 1 + 1, 0, none⟩ = some (.int .i64 ax) := cell_gr hx1 (by go_simp)
  have cx1_4_1 : x1.cell? ⟨W.heap.size + 1 + 1 + 1 + 1, 1, none⟩ = some (.int .i64 ay) := cell_gr hx1 (by go_simp)
  have cx1_4_2 : x1.cell? ⟨W.heap.size + 1 + 1 + 1 + 1, 2, none⟩ = some (.int .i64 bx) := cell_gr hx1 (by go_simp)
  have cx1_4_3 : x1.cell? ⟨W.heap.size + 1 + 1 + 1 + 1, 3, none⟩ = some (.int .i64 by') := cell_gr hx1 (by go_simp)
  have cx1_4_4 : x1.cell? ⟨W.heap.size + 1 + 1 + 1 + 1, 4, none⟩ = some (.int .i64 cx) := cell_gr hx1 (by go_simp)
  have cx1_4_5 : x1.cell? ⟨W.heap.size + 1 + 1 + 1 + 1, 5, none⟩ = some (.int .i64 cy) := cell_gr hx1 (by go_simp)
  have cx1_4_6 : x1.cell? ⟨W.heap.size + 1 + 1 + 1 + 1, 6, none⟩ = some (.int .i64 dx) := cell_gr hx1 (by go_simp)
  have cx1_4_7 : x1.cell? ⟨W.heap.size + 1 + 1 + 1 + 1, 7, none⟩ = some (.int .i64 dy) := cell_gr hx1 (by go_simp)
  have zx1_4 : W.heap.size + 1 + 1 + 1 + 1 < x1.heap.size := World.block_lt_of_cell? _ _ cx1_4_0
  have gx1 : Gr W x1 := Gr.trans (by have gg := gv2; have gs := gg.size; go_grown) hx1
  clear hx1 hhx1 gv2 zv2_0 cv2_0_0 cv2_0_1 zv2_1 cv2_1_0 cv2_1_1 zv2_2 cv2_2_0 cv2_2_1 zv2_3 cv2_3_0 cv2_3_1 zv2_4 cv2_4_0 cv2_4_1 cv2_4_2 cv2_4_3 cv2_4_4 cv2_4_5 cv2_4_6 cv2_4_7
  go_wp2_with fail
  go_at_call 26
  refine ((H6.out _)).mono ?_
  rintro e x2 ⟨rfl, hx2⟩
  have cx2_0_0 : x2.cell? ⟨W.heap.size, 0, none⟩ = some (.int .i64 ax) := cell_gr hx2 (by go_simp)
  have cx2_0_1 : x2.cell? ⟨W.heap.size, 1, none⟩ = some (.int .i64 ay) := cell_gr hx2 (by go_simp)
  have zx2_0 : W.heap.size < x2.heap.size := World.block_lt_of_cell? _ _ cx2_0_0
  have cx2_1_0 : x2.cell? ⟨W.heap.size + 1, 0, none⟩ = some (.int .i64 bx) := cell_gr hx2 (by go_simp)
  have cx2_1_1 : x2.cell? ⟨W.heap.size + 1, 1, none⟩ = some (.int .i64 by') := cell_gr hx2 (by go_simp)
  have zx2_1 : W.heap.size + 1 < x2.heap.size := World.block_lt_of_cell? _ _ cx2_1_0
  have cx2_2_0 : x2.cell? ⟨W.heap.size + 1 + 1, 0, none⟩ = some (.int .i64 cx) := cell_gr hx2 (by go_simp)
  have cx2_2_1 : x2.cell? ⟨W.heap.size + 1 + 1, 1, none⟩ = some (.int .i64 cy) := cell_gr hx2 (by go_simp)
  have zx2_2 : W.heap.size + 1 + 1 < x2.heap.size := World.block_lt_of_cell? _ _ cx2_2_0
  have cx2_3_0 : x2.cell? ⟨W.heap.size + 1 + 1 + 1, 0, none⟩ = some (.int .i64 dx) := cell_gr hx2 (by go_simp)
  have cx2_3_1 : x2.cell? ⟨W.heap.size + 1 + 1 + 1, 1, none⟩ = some (.int .i64 dy) := cell_gr hx2 (by go_simp)
  have zx2_3 : W.heap.size + 1 + 1 + 1 < x2.heap.size := World.block_lt_of_cell? _ _ cx2_3_0
  have cx2_4_0 : x2.cell? ⟨W.heap.size + 1 + 1 + 1 + 1, 0, none⟩ = some (.int .i64 ax) := cell_gr hx2 (by go_simp)
  have cx2_4_1 : x2.cell? ⟨W.heap.size + 1 + 1 + 1 + 1, 1, none⟩ = some (.int .i64 ay) := cell_gr hx2 (by go_simp)
  have cx2_4_2 : x2.cell? ⟨W.heap.size + 1 + 1 + 1 + 1, 2, none⟩ = some (.int .i64 bx) := cell_gr hx2 (by go_simp)
  have cx2_4_3 : x2.cell? ⟨W.heap.size + 1 + 1 + 1 + 1, 3, none⟩ = some (.int .i64 by') := cell_gr hx2 (by go_simp)
  have cx2_4_4 : x2.cell? ⟨W.heap.size + 1 + 1 + 1 + 1, 4, none⟩ = some (.int .i64 cx) := cell_gr hx2 (by go_simp)
  have cx2_4_5 : x2.cell? ⟨W.heap.size + 1 + 1 + 1 + 1, 5, none⟩ = some (.int .i64 cy) := cell_gr hx2 (by go_simp)
  have cx2_4_6 : x2.cell? ⟨W.heap.size + 1 + 1 + 1 + 1, 6, none⟩ = some (.int .i64 dx) := cell_gr hx2 (by go_simp)
  have cx2_4_7 : x2.cell? ⟨W.heap.size + 1 + 1 + 1 + 1, 7, none⟩ = some (.int .i64 dy) := cell_gr hx2 (by go_simp)
  have zx2_4 : W.heap.size + 1 + 1 + 1 + 1 < x2.heap.size := World.block_lt_of_cell? _ _ cx2_4_0
  have gx2 : Gr W x2 := Gr.trans (by have gg := gx1; have gs := gg.size; go_grown) hx2
  clear hx2 gx1 zx1_0 cx1_0_0 cx1_0_1 zx1_1 cx1_1_0 cx1_1_1 zx1_2 cx1_2_0 cx1_2_1 zx1_3 cx1_3_0 cx1_3_1 zx1_4 cx1_4_0 cx1_4_1 cx1_4_2 cx1_4_3 cx1_4_4 cx1_4_5 cx1_4_6 cx1_4_7
  go_wp2_with fail
  go_at_call 24
  refine ((H5.out _)).mono ?_
  rintro e x3 ⟨rfl, hx3⟩
  have cx3_0_0 : x3.cell? ⟨W.heap.size, 0, none⟩ = some (.int .i64 ax) := cell_gr hx3 (by go_simp)
  have cx3_0_1 : x3.cell? ⟨W.heap.size, 1, none⟩ = some (.int .i64 ay) := cell_gr hx3 (by go_simp)
  have zx3_0 : W.heap.size < x3.heap.size := World.block_lt_of_cell? _ _ cx3_0_0
  have cx3_1_0 : x3.cell? ⟨W.heap.size + 1, 0, none⟩ = some (.int .i64 bx) := cell_gr hx3 (by go_simp)
  have cx3_1_1 : x3.cell? ⟨W.heap.size + 1, 1, none⟩ = some (.int .i64 by') := cell_gr hx3 (by go_simp)
  have zx3_1 : W.heap.size + 1 < x3.heap.size := World.block_lt_of_cell? _ _ cx3_1_0
  have cx3_2_0 : x3.cell? ⟨W.heap.size + 1 + 1, 0, none⟩ = some (.int .i64 cx) := cell_gr hx3 (by go_simp)
  have cx3_2_1 : x3.cell? ⟨W.heap.size + 1 + 1, 1, none⟩ = some (.int .i64 cy) := cell_gr hx3 (by go_simp)
  have zx3_2 : W.heap.size + 1 + 1 < x3.heap.size := World.block_lt_of_cell? _ _ cx3_2_0
  have cx3_3_0 : x3.cell? ⟨W.heap.size + 1 + 1 + 1, 0, none⟩ = some (.int .i64 dx) := cell_gr hx3 (by go_simp)
  have cx3_3_1 : x3.cell? ⟨W.heap.size + 1 + 1 + 1, 1, none⟩ = some (.int .i64 dy) := cell_gr hx3 (by go_simp)
  have zx3_3 : W.heap.size + 1 + 1 + 1 < x3.heap.size := World.block_lt_of_cell? _ _ cx3_3_0
  have cx3_4_0 : x3.cell? ⟨W.heap.size + 1 + 1 + 1 + 1, 0, none⟩ = some (.int .i64 ax) := cell_gr hx3 (by go_simp)
  have cx3_4_1 : x3.cell? ⟨W.heap.size + 1 + 1 + 1 + 1, 1, none⟩ = some (.int .i64 ay) := cell_gr hx3 (by go_simp)
  have cx3_4_2 : x3.cell? ⟨W.heap.size + 1 + 1 + 1 + 1, 2, none⟩ = some (.int .i64 bx) := cell_gr hx3 (by go_simp)
  have cx3_4_3 : x3.cell? ⟨W.heap.size + 1 + 1 + 1 + 1, 3, none⟩ = some (.int .i64 by') := cell_gr hx3 (by go_simp)
  have cx3_4_4 : x3.cell? ⟨W.heap.size + 1 + 1 + 1 + 1, 4, none⟩ = some (.int .i64 cx) := cell_gr hx3 (by go_simp)
  have cx3_4_5 : x3.cell? ⟨W.heap.size + 1 + 1 + 1 + 1, 5, none⟩ = some (.int .i64 cy) := cell_gr hx3 (by go_simp)
  have cx3_4_6 : x3.cell? ⟨W.heap.size + 1 + 1 + 1 + 1, 6, none⟩ = some (.int .i64 dx) := cell_gr hx3 (by go_simp)
  have cx3_4_7 : x3.cell? ⟨W.heap.size + 1 + 1 + 1 + 1, 7, none⟩ = some (.int .i64 dy) := cell_gr hx3 (by go_simp)
  have zx3_4 : W.heap.size + 1 + 1 + 1 + 1 < x3.heap.size := World.block_lt_of_cell? _ _ cx3_4_0
  have gx3 : Gr W x3 := Gr.trans (by have gg := gx2; have gs := gg.size; go_grown) hx3
  clear hx3 gx2 zx2_0 cx2_0_0 cx2_0_1 zx2_1 cx2_1_0 cx2_1_1 zx2_2 cx2_2_0 cx2_2_1 zx2_3 cx2_3_0 cx2_3_1 zx2_4 cx2_4_0 cx2_4_1 cx2_4_2 cx2_4_3 cx2_4_4 cx2_4_5 cx2_4_6 cx2_4_7
  go_wp2_with fail
  go_at_call 32
  refine ((s4_awake _)).mono ?_
  rintro e x4 ⟨rfl, hx4⟩
  have cx4_0_0 : x4.cell? ⟨W.heap.size, 0, none⟩ = some (.int .i64 ax) := cell_gr hx4 (by go_simp)
  have cx4_0_1 : x4.cell? ⟨W.heap.size, 1, none⟩ = some (.int .i64 ay) := cell_gr hx4 (by go_simp)
  have zx4_0 : W.heap.size < x4.heap.size := World.block_lt_of_cell? _ _ cx4_0_0
  have cx4_1_0 : x4.cell? ⟨W.heap.size + 1, 0, none⟩ = some (.int .i64 bx) := cell_gr hx4 (by go_simp)
  have cx4_1_1 : x4.cell? ⟨W.heap.size + 1, 1, none⟩ = some (.int .i64 by') := cell_gr hx4 (by go_simp)
  have zx4_1 : W.heap.size + 1 < x4.heap.size := World.block_lt_of_cell? _ _ cx4_1_0
  have cx4_2_0 : x4.cell? ⟨W.heap.size + 1 + 1, 0, none⟩ = some (.int .i64 cx) := cell_gr hx4 (by go_simp)
  have cx4_2_1 : x4.cell? ⟨W.heap.size + 1 + 1, 1, none⟩ = some (.int .i64 cy) := cell_gr hx4 (by go_simp)
  have zx4_2 : W.heap.size + 1 + 1 < x4.heap.size := World.block_lt_of_cell? _ _ cx4_2_0
  have cx4_3_0 : x4.cell? ⟨W.heap.size + 1 + 1 + 1, 0, none⟩ = some (.int .i64 dx) := cell_gr hx4 (by go_simp)
  have cx4_3_1 : x4.cell? ⟨W.heap.size + 1 + 1 + 1, 1, none⟩ = some (.int .i64 dy) := cell_gr hx4 (by go_simp)
  have zx4_3 : W.heap.size + 1 + 1 + 1 < x4.heap.size := World.block_lt_of_cell? _ _ cx4_3_0
  have cx4_4_0 : x4.cell? ⟨W.heap.size + 1 + 1 + 1 + 1, 0, none⟩ = some (.int .i64 ax) := cell_gr hx4 (by go_simp)
  have cx4_4_1 : x4.cell? ⟨W.heap.size + 1 + 1 + 1 + 1, 1, none⟩ = some (.int .i64 ay) := cell_gr hx4 (by go_simp)
  have cx4_4_2 : x4.cell? ⟨W.heap.size + 1 + 1 + 1 + 1, 2, none⟩ = some (.int .i64 bx) := cell_gr hx4 (by go_simp)
  have cx4_4_3 : x4.cell? ⟨W.heap.size + 1 + 1 + 1 + 1, 3, none⟩ = some (.int .i64 by') := cell_gr hx4 (by go_simp)
  have cx4_4_4 : x4.cell? ⟨W.heap.size + 1 + 1 + 1 + 1, 4, none⟩ = some (.int .i64 cx) := cell_gr hx4 (by go_simp)
  have cx4_4_5 : x4.cell? ⟨W.heap.size + 1 + 1 + 1 + 1, 5, none⟩ = some (.int .i64 cy) := cell_gr hx4 (by go_simp)
  have cx4_4_6 : x4.cell? ⟨W.heap.size + 1 + 1 + 1 + 1, 6, none⟩ = some (.int .i64 dx) := cell_gr hx4 (by go_simp)
  have cx4_4_7 : x4.cell? ⟨W.heap.size + 1 + 1 + 1 + 1, 7, none⟩ = some (.int .i64 dy) := cell_gr hx4 (by go_simp)
  have zx4_4 : W.heap.size + 1 + 1 + 1 + 1 < x4.heap.size := World.block_lt_of_cell? _ _ cx4_4_0
  have gx4 : Gr W x4 := Gr.trans (by have gg := gx3; have gs := gg.size; go_grown) hx4
  clear hx4 gx3 zx3_0 cx3_0_0 cx3_0_1 zx3_1 cx3_1_0 cx3_1_1 zx3_2 cx3_2_0 cx3_2_1 zx3_3 cx3_3_0 cx3_3_1 zx3_4 cx3_4_0 cx3_4_1 cx3_4_2 cx3_4_3 cx3_4_4 cx3_4_5 cx3_4_6 cx3_4_7
  go_wp2_with fail
  go_ret
  exact ⟨rfl, by go_grown⟩
set_option maxHeartbeats 4000000 in
set_option maxRecDepth 100000 in
theorem cross_n2c (ax ay bx by' cx cy dx dy k1 k2 k3 k4 p1 p2 : Int) (W : World) (e1 : wrap64 (k1 * k2) = p1) (e2 : IntKind.i64.wrap (k1 * k2) = p1) (e3 : wrap64 (k3 * k4) = p2) (e4 : IntKind.i64.wrap (k3 * k4) = p2)
    (t1 : (p1 == -1) = true) (t2 : (p2 == -1) = false)
    (A1 : ∀ w, Calls Try.prog 14 #[.agg #[.int .i64 ax, .int .i64 ay]] w fun e w' => e = .returned (.bool true) ∧ Gr w w')
    (A2 : ∀ w, Calls Try.prog 14 #[.agg #[.int .i64 bx, .int .i64 by']] w fun e w' => e = .returned (.bool true) ∧ Gr w w')
    (A3 : ∀ w, Calls Try.prog 14 #[.agg #[.int .i64 cx, .int .i64 cy]] w fun e w' => e = .returned (.bool true) ∧ Gr w w')
    (A4 : ∀ w, Calls Try.prog 14 #[.agg #[.int .i64 dx, .int .i64 dy]] w fun e w' => e = .returned (.bool true) ∧ Gr w w')
    (A5 : ∀ w, Calls Try.prog 24 #[.agg #[.int .i64 ax, .int .i64 ay], .agg #[.int .i64 bx, .int .i64 by'], .agg #[.int .i64 cx, .int .i64 cy], .agg #[.int .i64 dx, .int .i64 dy]] w fun e w' => e = .returned (.bool true) ∧ Gr w w')
    (A6 : ∀ w, Calls Try.prog 26 #[.agg #[.int .i64 ax, .int .i64 ay], .agg #[.int .i64 bx, .int .i64 by'], .agg #[.int .i64 cx, .int .i64 cy], .agg #[.int .i64 dx, .int .i64 dy]] w fun e w' => e = .returned (.bool false) ∧ Gr w w')
    (B1 : ∀ w, Calls Try.prog 22 #[.agg #[.int .i64 ax, .int .i64 ay], .agg #[.int .i64 bx, .int .i64 by'], .agg #[.int .i64 cx, .int .i64 cy]] w fun e w' => e = .returned (.bool false) ∧ Gr w w')
    (B2 : ∀ w, Calls Try.prog 22 #[.agg #[.int .i64 ax, .int .i64 ay], .agg #[.int .i64 bx, .int .i64 by'], .agg #[.int .i64 dx, .int .i64 dy]] w fun e w' => e = .returned (.bool false) ∧ Gr w w')
    (B3 : ∀ w, Calls Try.prog 22 #[.agg #[.int .i64 cx, .int .i64 cy], .agg #[.int .i64 dx, .int .i64 dy], .agg #[.int .i64 ax, .int .i64 ay]] w fun e w' => e = .returned (.bool true) ∧ Gr w w')
    (O1 : ∀ w, Calls Try.prog 36 #[.agg #[.int .i64 ax, .int .i64 ay], .agg #[.int .i64 bx, .int .i64 by'], .agg #[.int .i64 cx, .int .i64 cy]] w fun e w' => e = .returned (.int .i64 k1) ∧ Gr w w')
    (O2 : ∀ w, Calls Try.prog 36 #[.agg #[.int .i64 ax, .int .i64 ay], .agg #[.int .i64 bx, .int .i64 by'], .agg #[.int .i64 dx, .int .i64 dy]] w fun e w' => e = .returned (.int .i64 k2) ∧ Gr w w')
    (O3 : ∀ w, Calls Try.prog 36 #[.agg #[.int .i64 cx, .int .i64 cy], .agg #[.int .i64 dx, .int .i64 dy], .agg #[.int .i64 ax, .int .i64 ay]] w fun e w' => e = .returned (.int .i64 k3) ∧ Gr w w')
    (O4 : ∀ w, Calls Try.prog 36 #[.agg #[.int .i64 cx, .int .i64 cy], .agg #[.int .i64 dx, .int .i64 dy], .agg #[.int .i64 bx, .int .i64 by']] w fun e w' => e = .returned (.int .i64 k4) ∧ Gr w w') :
    Calls Try.prog 9 #[.agg #[.int .i64 ax, .int .i64 ay], .agg #[.int .i64 bx, .int .i64 by'], .agg #[.int .i64 cx, .int .i64 cy], .agg #[.int .i64 dx, .int .i64 dy]] W fun e w' => e = .returned (.bool true) ∧ Gr W w' := by
  have H1 := Lib.hid A1
  have H2 := Lib.hid A2
  have H3 := Lib.hid A3
  have H4 := Lib.hid A4
  have H5 := Lib.hid A5
  have H6 := Lib.hid A6
  clear A1 A2 A3 A4 A5 A6
  have HB1 := Lib.hid B1
  have HB2 := Lib.hid B2
  have HB3 := Lib.hid B3
  have HO1 := Lib.hid O1
  have HO2 := Lib.hid O2
  have HO3 := Lib.hid O3
  have HO4 := Lib.hid O4
  clear B1 B2 B3 O1 O2 O3 O4
  go_enter Try.func9, Try.ntmps9
  go_wp2_with fail
  refine wp_loop_rounds 5 ?_
  rw [rounds_succ]
  go_wp2_with fail
  go_at_call 14
  refine ((H1.out _)).mono ?_
  rintro e w1 ⟨rfl, hw1⟩
  have cw1_0_0 : w1.cell? ⟨W.heap.size, 0, none⟩ = some (.int .i64 ax) := cell_gr hw1 (by go_simp)
  have cw1_0_1 : w1.cell? ⟨W.heap.size, 1, none⟩ = some (.int .i64 ay) := cell_gr hw1 (by go_simp)
  have zw1_0 : W.heap.size < w1.heap.size := World.block_lt_of_cell? _ _ cw1_0_0
  have cw1_1_0 : w1.cell? ⟨W.heap.size + 1, 0, none⟩ = some (.int .i64 bx) := cell_gr hw1 (by go_simp)
  have cw1_1_1 : w1.cell? ⟨W.heap.size + 1, 1, none⟩ = some (.int .i64 by') := cell_gr hw1 (by go_simp)
  have zw1_1 : W.heap.size + 1 < w1.heap.size := World.block_lt_of_cell? _ _ cw1_1_0
  have cw1_2_0 : w1.cell? ⟨W.heap.size + 1 + 1, 0, none⟩ = some (.int .i64 cx) := cell_gr hw1 (by go_simp)
  have cw1_2_1 : w1.cell? ⟨W.heap.size + 1 + 1, 1, none⟩ = some (.int .i64 cy) := cell_gr hw1 (by go_simp)
  have zw1_2 : W.heap.size + 1 + 1 < w1.heap.size := World.block_lt_of_cell? _ _ cw1_2_0
  have cw1_3_0 : w1.cell? ⟨W.heap.size + 1 + 1 + 1, 0, none⟩ = some (.int .i64 dx) := cell_gr hw1 (by go_simp)
  have cw1_3_1 : w1.cell? ⟨W.heap.size + 1 + 1 + 1, 1, none⟩ = some (.int .i64 dy) := cell_gr hw1 (by go_simp)
  have zw1_3 : W.heap.size + 1 + 1 + 1 < w1.heap.size := World.block_lt_of_cell? _ _ cw1_3_0
  have cw1_4_0 : w1.cell? ⟨W.heap.size + 1 + 1 + 1 + 1, 0, none⟩ = some (.int .i64 ax) := cell_gr hw1 (by go_simp)
  have cw1_4_1 : w1.cell? ⟨W.heap.size + 1 + 1 + 1 + 1, 1, none⟩ = some (.int .i64 ay) := cell_gr hw1 (by go_simp)
  have cw1_4_2 : w1.cell? ⟨W.heap.size + 1 + 1 + 1 + 1, 2, none⟩ = some (.int .i64 bx) := cell_gr hw1 (by go_simp)
  have cw1_4_3 : w1.cell? ⟨W.heap.size + 1 + 1 + 1 + 1, 3, none⟩ = some (.int .i64 by') := cell_gr hw1 (by go_simp)
  have cw1_4_4 : w1.cell? ⟨W.heap.size + 1 + 1 + 1 + 1, 4, none⟩ = some (.int .i64 cx) := cell_gr hw1 (by go_simp)
  have cw1_4_5 : w1.cell? ⟨W.heap.size + 1 + 1 + 1 + 1, 5, none⟩ = some (.int .i64 cy) := cell_gr hw1 (by go_simp)
  have cw1_4_6 : w1.cell? ⟨W.heap.size + 1 + 1 + 1 + 1, 6, none⟩ = some (.int .i64 dx) := cell_gr hw1 (by go_simp)
  have cw1_4_7 : w1.cell? ⟨W.heap.size + 1 + 1 + 1 + 1, 7, none⟩ = some (.int .i64 dy) := cell_gr hw1 (by go_simp)
  have zw1_4 : W.heap.size + 1 + 1 + 1 + 1 < w1.heap.size := World.block_lt_of_cell? _ _ cw1_4_0
  have gw1 : Gr W w1 := Gr.trans (by go_grown) hw1
  clear hw1
  go_wp2_with fail
  rw [rounds_succ]
  go_wp2_with fail
  go_at_call 14
  refine ((H2.out _)).mono ?_
  rintro e w2 ⟨rfl, hw2⟩
  have cw2_0_0 : w2.cell? ⟨W.heap.size, 0, none⟩ = some (.int .i64 ax) := cell_gr hw2 (by go_simp)
  have cw2_0_1 : w2.cell? ⟨W.heap.size, 1, none⟩ = some (.int .i64 ay) := cell_gr hw2 (by go_simp)
  have zw2_0 : W.heap.size < w2.heap.size := World.block_lt_of_cell? _ _ cw2_0_0
  have cw2_1_0 : w2.cell? ⟨W.heap.size + 1, 0, none⟩ = some (.int .i64 bx) := cell_gr hw2 (by go_simp)
  have cw2_1_1 : w2.cell? ⟨W.heap.size + 1, 1, none⟩ = some (.int .i64 by') := cell_gr hw2 (by go_simp)
  have zw2_1 : W.heap.size + 1 < w2.heap.size := World.block_lt_of_cell? _ _ cw2_1_0
  have cw2_2_0 : w2.cell? ⟨W.heap.size + 1 + 1, 0, none⟩ = some (.int .i64 cx) := cell_gr hw2 (by go_simp)
  have cw2_2_1 : w2.cell? ⟨W.heap.size + 1 + 1, 1, none⟩ = some (.int .i64 cy) := cell_gr hw2 (by go_simp)
  have zw2_2 : W.heap.size + 1 + 1 < w2.heap.size := World.block_lt_of_cell? _ _ cw2_2_0
  have cw2_3_0 : w2.cell? ⟨W.heap.size + 1 + 1 + 1, 0, none⟩ = some (.int .i64 dx) := cell_gr hw2 (by go_simp)
  have cw2_3_1 : w2.cell? ⟨W.heap.size + 1 + 1 + 1, 1, none⟩ = some (.int .i64 dy) := cell_gr hw2 (by go_simp)
  have zw2_3 : W.heap.size + 1 + 1 + 1 < w2.heap.size := World.block_lt_of_cell? _ _ cw2_3_0
  have cw2_4_0 : w2.cell? ⟨W.heap.size + 1 + 1 + 1 + 1, 0, none⟩ = some (.int .i64 ax) := cell_gr hw2 (by go_simp)
  have cw2_4_1 : w2.cell? ⟨W.heap.size + 1 + 1 + 1 + 1, 1, none⟩ = some (.int .i64 ay) := cell_gr hw2 (by go_simp)
  have cw2_4_2 : w2.cell? ⟨W.heap.size + 1 + 1 + 1 + 1, 2, none⟩ = some (.int .i64 bx) := cell_gr hw2 (by go_simp)
  have cw2_4_3 : w2.cell? ⟨W.heap.size + 1 + 1 + 1 + 1, 3, none⟩ = some (.int .i64 by') := cell_gr hw2 (by go_simp)
  have cw2_4_4 : w2.cell? ⟨W.heap.size + 1 + 1 + 1 + 1, 4, none⟩ = some (.int .i64 cx) := cell_gr hw2 (by go_simp)
  have cw2_4_5 : w2.cell? ⟨W.heap.size + 1 + 1 + 1 + 1, 5, none⟩ = some (.int .i64 cy) := cell_gr hw2 (by go_simp)
  have cw2_4_6 : w2.cell? ⟨W.heap.size + 1 + 1 + 1 + 1, 6, none⟩ = some (.int .i64 dx) := cell_gr hw2 (by go_simp)
  have cw2_4_7 : w2.cell? ⟨W.heap.size + 1 + 1 + 1 + 1, 7, none⟩ = some (.int .i64 dy) := cell_gr hw2 (by go_simp)
  have zw2_4 : W.heap.size + 1 + 1 + 1 + 1 < w2.heap.size := World.block_lt_of_cell? _ _ cw2_4_0
  have gw2 : Gr W w2 := Gr.trans (by have gg := gw1; have gs := gg.size; go_grown) hw2
  clear hw2 gw1 zw1_0 cw1_0_0 cw1_0_1 zw1_1 cw1_1_0 cw1_1_1 zw1_2 cw1_2_0 cw1_2_1 zw1_3 cw1_3_0 cw1_3_1 zw1_4 cw1_4_0 cw1_4_1 cw1_4_2 cw1_4_3 cw1_4_4 cw1_4_5 cw1_4_6 cw1_4_7
  go_wp2_with fail
  rw [rounds_succ]
  go_wp2_with fail
  go_at_call 14
  refine ((H3.out _)).mono ?_
  rintro e w3 ⟨rfl, hw3⟩
  have cw3_0_0 : w3.cell? ⟨W.heap.size, 0, none⟩ = some (.int .i64 ax) := cell_gr hw3 (by go_simp)
  have cw3_0_1 : w3.cell? ⟨W.heap.size, 1, none⟩ = some (.int .i64 ay) := cell_gr hw3 (by go_simp)
  have zw3_0 : W.heap.size < w3.heap.size := World.block_lt_of_cell? _ _ cw3_0_0
  have cw3_1_0 : w3.cell? ⟨W.heap.size + 1, 0, none⟩ = some (.int .i64 bx) := cell_gr hw3 (by go_simp)
  have cw3_1_1 : w3.cell? ⟨W.heap.size + 1, 1, none⟩ = some (.int .i64 by') := cell_gr hw3 (by go_simp)
  have zw3_1 : W.heap.size + 1 < w3.heap.size := World.block_lt_of_cell? _ _ cw3_1_0
  have cw3_2_0 : w3.cell? ⟨W.heap.size + 1 + 1, 0, none⟩ = some (.int .i64 cx) := cell_gr hw3 (by go_simp)
  have cw3_2_1 : w3.cell? ⟨W.heap.size + 1 + 1, 1, none⟩ = some (.int .i64 cy) := cell_gr hw3 (by go_simp)
  have zw3_2 : W.heap.size + 1 + 1 < w3.heap.size := World.block_lt_of_cell? _ _ cw3_2_0
  have cw3_3_0 : w3.cell? ⟨W.heap.size + 1 + 1 + 1, 0, none⟩ = some (.int .i64 dx) := cell_gr hw3 (by go_simp)
  have cw3_3_1 : w3.cell? ⟨W.heap.size + 1 + 1 + 1, 1, none⟩ = some (.int .i64 dy) := cell_gr hw3 (by go_simp)
  have zw3_3 : W.heap.size + 1 + 1 + 1 < w3.heap.size := World.block_lt_of_cell? _ _ cw3_3_0
  have cw3_4_0 : w3.cell? ⟨W.heap.size + 1 + 1 + 1 + 1, 0, none⟩ = some (.int .i64 ax) := cell_gr hw3 (by go_simp)
  have cw3_4_1 : w3.cell? ⟨W.heap.size + 1 + 1 + 1 + 1, 1, none⟩ = some (.int .i64 ay) := cell_gr hw3 (by go_simp)
  have cw3_4_2 : w3.cell? ⟨W.heap.size + 1 + 1 + 1 + 1, 2, none⟩ = some (.int .i64 bx) := cell_gr hw3 (by go_simp)
  have cw3_4_3 : w3.cell? ⟨W.heap.size + 1 + 1 + 1 + 1, 3, none⟩ = some (.int .i64 by') := cell_gr hw3 (by go_simp)
  have cw3_4_4 : w3.cell? ⟨W.heap.size + 1 + 1 + 1 + 1, 4, none⟩ = some (.int .i64 cx) := cell_gr hw3 (by go_simp)
  have cw3_4_5 : w3.cell? ⟨W.heap.size + 1 + 1 + 1 + 1, 5, none⟩ = some (.int .i64 cy) := cell_gr hw3 (by go_simp)
  have cw3_4_6 : w3.cell? ⟨W.heap.size + 1 + 1 + 1 + 1, 6, none⟩ = some (.int .i64 dx) := cell_gr hw3 (by go_simp)
  have cw3_4_7 : w3.cell? ⟨W.heap.size + 1 + 1 + 1 + 1, 7, none⟩ = some (.int .i64 dy) := cell_gr hw3 (by go_simp)
  have zw3_4 : W.heap.size + 1 + 1 + 1 + 1 < w3.heap.size := World.block_lt_of_cell? _ _ cw3_4_0
  have gw3 : Gr W w3 := Gr.trans (by have gg := gw2; have gs := gg.size; go_grown) hw3
  clear hw3 gw2 zw2_0 cw2_0_0 cw2_0_1 zw2_1 cw2_1_0 cw2_1_1 zw2_2 cw2_2_0 cw2_2_1 zw2_3 cw2_3_0 cw2_3_1 zw2_4 cw2_4_0 cw2_4_1 cw2_4_2 cw2_4_3 cw2_4_4 cw2_4_5 cw2_4_6 cw2_4_7
  go_wp2_with fail
  rw [rounds_succ]
  go_wp2_with fail
  go_at_call 14
  refine ((H4.out _)).mono ?_
  rintro e w4 ⟨rfl, hw4⟩
  have cw4_0_0 : w4.cell? ⟨W.heap.size, 0, none⟩ = some (.int .i64 ax) := cell_gr hw4 (by go_simp)
  have cw4_0_1 : w4.cell? ⟨W.heap.size, 1, none⟩ = some (.int .i64 ay) := cell_gr hw4 (by go_simp)
  have zw4_0 : W.heap.size < w4.heap.size := World.block_lt_of_cell? _ _ cw4_0_0
  have cw4_1_0 : w4.cell? ⟨W.heap.size + 1, 0, none⟩ = some (.int .i64 bx) := cell_gr hw4 (by go_simp)
  have cw4_1_1 : w4.cell? ⟨W.heap.size + 1, 1, none⟩ = some (.int .i64 by') := cell_gr hw4 (by go_simp)
  have zw4_1 : W.heap.size + 1 < w4.heap.size := World.block_lt_of_cell? _ _ cw4_1_0
  have cw4_2_0 : w4.cell? ⟨W.heap.size + 1 + 1, 0, none⟩ = some (.int .i64 cx) := cell_gr hw4 (by go_simp)
  have cw4_2_1 : w4.cell? ⟨W.heap.size + 1 + 1, 1, none⟩ = some (.int .i64 cy) := cell_gr hw4 (by go_simp)
  have zw4_2 : W.heap.size + 1 + 1 < w4.heap.size := World.block_lt_of_cell? _ _ cw4_2_0
  have cw4_3_0 : w4.cell? ⟨W.heap.size + 1 + 1 + 1, 0, none⟩ = some (.int .i64 dx) := cell_gr hw4 (by go_simp)
  have cw4_3_1 : w4.cell? ⟨W.heap.size + 1 + 1 + 1, 1, none⟩ = some (.int .i64 dy) := cell_gr hw4 (by go_simp)
  have zw4_3 : W.heap.size + 1 + 1 + 1 < w4.heap.size := World.block_lt_of_cell? _ _ cw4_3_0
  have cw4_4_0 : w4.cell? ⟨W.heap.size + 1 + 1 + 1 + 1, 0, none⟩ = some (.int .i64 ax) := cell_gr hw4 (by go_simp)
  have cw4_4_1 : w4.cell? ⟨W.heap.size + 1 + 1 + 1 + 1, 1, none⟩ = some (.int .i64 ay) := cell_gr hw4 (by go_simp)
  have cw4_4_2 : w4.cell? ⟨W.heap.size + 1 + 1 + 1 + 1, 2, none⟩ = some (.int .i64 bx) := cell_gr hw4 (by go_simp)
  have cw4_4_3 : w4.cell? ⟨W.heap.size + 1 + 1 + 1 + 1, 3, none⟩ = some (.int .i64 by') := cell_gr hw4 (by go_simp)
  have cw4_4_4 : w4.cell? ⟨W.heap.size + 1 + 1 + 1 + 1, 4, none⟩ = some (.int .i64 cx) := cell_gr hw4 (by go_simp)
  have cw4_4_5 : w4.cell? ⟨W.heap.size + 1 + 1 + 1 + 1, 5, none⟩ = some (.int .i64 cy) := cell_gr hw4 (by go_simp)
  have cw4_4_6 : w4.cell? ⟨W.heap.size + 1 + 1 + 1 + 1, 6, none⟩ = some (.int .i64 dx) := cell_gr hw4 (by go_simp)
  have cw4_4_7 : w4.cell? ⟨W.heap.size + 1 + 1 + 1 + 1, 7, none⟩ = some (.int .i64 dy) := cell_gr hw4 (by go_simp)
  have zw4_4 : W.heap.size + 1 + 1 + 1 + 1 < w4.heap.size := World.block_lt_of_cell? _ _ cw4_4_0
  have gw4 : Gr W w4 := Gr.trans (by have gg := gw3; have gs := gg.size; go_grown) hw4
  clear hw4 gw3 zw3_0 cw3_0_0 cw3_0_1 zw3_1 cw3_1_0 cw3_1_1 zw3_2 cw3_2_0 cw3_2_1 zw3_3 cw3_3_0 cw3_3_1 zw3_4 cw3_4_0 cw3_4_1 cw3_4_2 cw3_4_3 cw3_4_4 cw3_4_5 cw3_4_6 cw3_4_7
  go_wp2_with fail
  rw [rounds_succ]
  go_wp2_with fail
  go_at_call 22
  refine ((HB1.out _)).mono ?_
  rintro e v1 ⟨rfl, hv1⟩
  have cv1_0_0 : v1.cell? ⟨W.heap.size, 0, none⟩ = some (.int .i64 ax) := cell_gr hv1 (by go_simp)
  have cv1_0_1 : v1.cell? ⟨W.heap.size, 1, none⟩ = some (.int .i64 ay) := cell_gr hv1 (by go_simp)
  have zv1_0 : W.heap.size < v1.heap.size := World.block_lt_of_cell? _ _ cv1_0_0
  have cv1_1_0 : v1.cell? ⟨W.heap.size + 1, 0, none⟩ = some (.int .i64 bx) := cell_gr hv1 (by go_simp)
  have cv1_1_1 : v1.cell? ⟨W.heap.size + 1, 1, none⟩ = some (.int .i64 by') := cell_gr hv1 (by go_simp)
  have zv1_1 : W.heap.size + 1 < v1.heap.size := World.block_lt_of_cell? _ _ cv1_1_0
  have cv1_2_0 : v1.cell? ⟨W.heap.size + 1 + 1, 0, none⟩ = some (.int .i64 cx) := cell_gr hv1 (by go_simp)
  have cv1_2_1 : v1.cell? ⟨W.heap.size + 1 + 1, 1, none⟩ = some (.int .i64 cy) := cell_gr hv1 (by go_simp)
  have zv1_2 : W.heap.size + 1 + 1 < v1.heap.size := World.block_lt_of_cell? _ _ cv1_2_0
  have cv1_3_0 : v1.cell? ⟨W.heap.size + 1 + 1 + 1, 0, none⟩ = some (.int .i64 dx) := cell_gr hv1 (by go_simp)
  have cv1_3_1 : v1.cell? ⟨W.heap.size + 1 + 1 + 1, 1, none⟩ = some (.int .i64 dy) := cell_gr hv1 (by go_simp)
  have zv1_3 : W.heap.size + 1 + 1 + 1 < v1.heap.size := World.block_lt_of_cell? _ _ cv1_3_0
  have cv1_4_0 : v1.cell? ⟨W.heap.size + 1 + 1 + 1 + 1, 0, none⟩ = some (.int .i64 ax) := cell_gr hv1 (by go_simp)
  have cv1_4_1 : v1.cell? ⟨W.heap.size + 1 + 1 + 1 + 1, 1, none⟩ = some (.int .i64 ay) := cell_gr hv1 (by go_simp)
  have cv1_4_2 : v1.cell? ⟨W.heap.size + 1 + 1 + 1 + 1, 2, none⟩ = some (.int .i64 bx) := cell_gr hv1 (by go_simp)
  have cv1_4_3 : v1.cell? ⟨W.heap.size + 1 + 1 + 1 + 1, 3, none⟩ = some (.int .i64 by') := cell_gr hv1 (by go_simp)
  have cv1_4_4 : v1.cell? ⟨W.heap.size + 1 + 1 + 1 + 1, 4, none⟩ = some (.int .i64 cx) := cell_gr hv1 (by go_simp)
  have cv1_4_5 : v1.cell? ⟨W.heap.size + 1 + 1 + 1 + 1, 5, none⟩ = some (.int .i64 cy) := cell_gr hv1 (by go_simp)
  have cv1_4_6 : v1.cell? ⟨W.heap.size + 1 + 1 + 1 + 1, 6, none⟩ = some (.int .i64 dx) := cell_gr hv1 (by go_simp)
  have cv1_4_7 : v1.cell? ⟨W.heap.size + 1 + 1 + 1 + 1, 7, none⟩ = some (.int .i64 dy) := cell_gr hv1 (by go_simp)
  have zv1_4 : W.heap.size + 1 + 1 + 1 + 1 < v1.heap.size := World.block_lt_of_cell? _ _ cv1_4_0
  have gv1 : Gr W v1 := Gr.trans (by have gg := gw4; have gs := gg.size; go_grown) hv1
  clear hv1 gw4 zw4_0 cw4_0_0 cw4_0_1 zw4_1 cw4_1_0 cw4_1_1 zw4_2 cw4_2_0 cw4_2_1 zw4_3 cw4_3_0 cw4_3_1 zw4_4 cw4_4_0 cw4_4_1 cw4_4_2 cw4_4_3 cw4_4_4 cw4_4_5 cw4_4_6 cw4_4_7
  go_wp2_with fail
  go_at_call 22
  refine ((HB2.out _)).mono ?_
  rintro e v2 ⟨rfl, hv2⟩
  have cv2_0_0 : v2.cell? ⟨W.heap.size, 0, none⟩ = some (.int .i64 ax) := cell_gr hv2 (by go_simp)
  have cv2_0_1 : v2.cell? ⟨W.heap.size, 1, none⟩ = some (.int .i64 ay) := cell_gr hv2 (by go_simp)
  have zv2_0 : W.heap.size < v2.heap.size := World.block_lt_of_cell? _ _ cv2_0_0
  have cv2_1_0 : v2.cell? ⟨W.heap.size + 1, 0, none⟩ = some (.int .i64 bx) := cell_gr hv2 (by go_simp)
  have cv2_1_1 : v2.cell? ⟨W.heap.size + 1, 1, none⟩ = some (.int .i64 by') := cell_gr hv2 (by go_simp)
  have zv2_1 : W.heap.size + 1 < v2.heap.size := World.block_lt_of_cell? _ _ cv2_1_0
  have cv2_2_0 : v2.cell? ⟨W.heap.size + 1 + 1, 0, none⟩ = some (.int .i64 cx) := cell_gr hv2 (by go_simp)
  have cv2_2_1 : v2.cell? ⟨W.heap.size + 1 + 1, 1, none⟩ = some (.int .i64 cy) := cell_gr hv2 (by go_simp)
  have zv2_2 : W.heap.size + 1 + 1 < v2.heap.size := World.block_lt_of_cell? _ _ cv2_2_0
  have cv2_3_0 : v2.cell? ⟨W.heap.size + 1 + 1 + 1, 0, none⟩ = some (.int .i64 dx) := cell_gr hv2 (by go_simp)
  have cv2_3_1 : v2.cell? ⟨W.heap.size + 1 + 1 + 1, 1, none⟩ = some (.int .i64 dy) := cell_gr hv2 (by go_simp)
  have zv2_3 : W.heap.size + 1 + 1 + 1 < v2.heap.size := World.block_lt_of_cell? _ _ cv2_3_0
  have cv2_4_0 : v2.cell? ⟨W.heap.size + 1 + 1 + 1 + 1, 0, none⟩ = some (.int .i64 ax) := cell_gr hv2 (by go_simp)
  have cv2_4_1 : v2.cell? ⟨W.heap.size + 1 + 1 + 1 + 1, 1, none⟩ = some (.int .i64 ay) := cell_gr hv2 (by go_simp)
  have cv2_4_2 : v2.cell? ⟨W.heap.size + 1 + 1 + 1 + 1, 2, none⟩ = some (.int .i64 bx) := cell_gr hv2 (by go_simp)
  have cv2_4_3 : v2.cell? ⟨W.heap.size + 1 + 1 + 1 + 1, 3, none⟩ = some (.int .i64 by') := cell_gr hv2 (by go_simp)
  have cv2_4_4 : v2.cell? ⟨W.heap.size + 1 + 1 + 1 + 1, 4, none⟩ = some (.int .i64 cx) := cell_gr hv2 (by go_simp)
  have cv2_4_5 : v2.cell? ⟨W.heap.size + 1 + 1 + 1 + 1, 5, none⟩ = some (.int .i64 cy) := cell_gr hv2 (by go_simp)
  have cv2_4_6 : v2.cell? ⟨W.heap.size + 1 + 1 + 1 + 1, 6, none⟩ = some (.int .i64 dx) := cell_gr hv2 (by go_simp)
  have cv2_4_7 : v2.cell? ⟨W.heap.size + 1 + 1 + 1 + 1, 7, none⟩ = some (.int .i64 dy) := cell_gr hv2 (by go_simp)
  have zv2_4 : W.heap.size + 1 + 1 + 1 + 1 < v2.heap.size := World.block_lt_of_cell? _ _ cv2_4_0
  have gv2 : Gr W v2 := Gr.trans (by have gg := gv1; have gs := gg.size; go_grown) hv2
  clear hv2 gv1 zv1_0 cv1_0_0 cv1_0_1 zv1_1 cv1_1_0 cv1_1_1 zv1_2 cv1_2_0 cv1_2_1 zv1_3 cv1_3_0 cv1_3_1 zv1_4 cv1_4_0 cv1_4_1 cv1_4_2 cv1_4_3 cv1_4_4 cv1_4_5 cv1_4_6 cv1_4_7
  go_wp2_with fail
  go_at_call 22
  refine ((HB3.out _)).mono ?_
  rintro e v3 ⟨rfl, hv3⟩
  have cv3_0_0 : v3.cell? ⟨W.heap.size, 0, none⟩ = some (.int .i64 ax) := cell_gr hv3 (by go_simp)
  have cv3_0_1 : v3.cell? ⟨W.heap.size, 1, none⟩ = some (.int .i64 ay) := cell_gr hv3 (by go_simp)
  have zv3_0 : W.heap.size < v3.heap.size := World.block_lt_of_cell? _ _ cv3_0_0
  have cv3_1_0 : v3.cell? ⟨W.heap.size + 1, 0, none⟩ = some (.int .i64 bx) := cell_gr hv3 (by go_simp)
  have cv3_1_1 : v3.cell? ⟨W.heap.size + 1, 1, none⟩ = some (.int .i64 by') := cell_gr hv3 (by go_simp)
  have zv3_1 : W.heap.size + 1 < v3.heap.size := World.block_lt_of_cell? _ _ cv3_1_0
  have cv3_2_0 : v3.cell? ⟨W.heap.size + 1 + 1, 0, none⟩ = some (.int .i64 cx) := cell_gr hv3 (by go_simp)
  have cv3_2_1 : v3.cell? ⟨W.heap.size + 1 + 1, 1, none⟩ = some (.int .i64 cy) := cell_gr hv3 (by go_simp)
  have zv3_2 : W.heap.size + 1 + 1 < v3.heap.size := World.block_lt_of_cell? _ _ cv3_2_0
  have cv3_3_0 : v3.cell? ⟨W.heap.size + 1 + 1 + 1, 0, none⟩ = some (.int .i64 dx) := cell_gr hv3 (by go_simp)
  have cv3_3_1 : v3.cell? ⟨W.heap.size + 1 + 1 + 1, 1, none⟩ = some (.int .i64 dy) := cell_gr hv3 (by go_simp)
  have zv3_3 : W.heap.size + 1 + 1 + 1 < v3.heap.size := World.block_lt_of_cell? _ _ cv3_3_0
  have cv3_4_0 : v3.cell? ⟨W.heap.size + 1 + 1 + 1 + 1, 0, none⟩ = some (.int .i64 ax) := cell_gr hv3 (by go_simp)
  have cv3_4_1 : v3.cell? ⟨W.heap.size + 1 + 1 + 1 + 1, 1, none⟩ = some (.int .i64 ay) := cell_gr hv3 (by go_simp)
  have cv3_4_2 : v3.cell? ⟨W.heap.size + 1 + 1 + 1 + 1, 2, none⟩ = some (.int .i64 bx) := cell_gr hv3 (by go_simp)
  have cv3_4_3 : v3.cell? ⟨W.heap.size + 1 + 1 + 1 + 1, 3, none⟩ = some (.int .i64 by') := cell_gr hv3 (by go_simp)
  have cv3_4_4 : v3.cell? ⟨W.heap.size + 1 + 1 + 1 + 1, 4, none⟩ = some (.int .i64 cx) := cell_gr hv3 (by go_simp)
  have cv3_4_5 : v3.cell? ⟨W.heap.size + 1 + 1 + 1 + 1, 5, none⟩ = some (.int .i64 cy) := cell_gr hv3 (by go_simp)
  have cv3_4_6 : v3.cell? ⟨W.heap.size + 1 + 1 + 1 + 1, 6, none⟩ = some (.int .i64 dx) := cell_gr hv3 (by go_simp)
  have cv3_4_7 : v3.cell? ⟨W.heap.size + 1 + 1 + 1 + 1, 7, none⟩ = some (.int .i64 dy) := cell_gr hv3 (by go_simp)
  have zv3_4 : W.heap.size + 1 + 1 + 1 + 1 < v3.heap.size := World.block_lt_of_cell? _ _ cv3_4_0
  have gv3 : Gr W v3 := Gr.trans (by have gg := gv2; have gs := gg.size; go_grown) hv3
  clear hv3 gv2 zv2_0 cv2_0_0 cv2_0_1 zv2_1 cv2_1_0 cv2_1_1 zv2_2 cv2_2_0 cv2_2_1 zv2_3 cv2_3_0 cv2_3_1 zv2_4 cv2_4_0 cv2_4_1 cv2_4_2 cv2_4_3 cv2_4_4 cv2_4_5 cv2_4_6 cv2_4_7
  go_wp2_with fail
  refine wp_region_spread (by kernel_rfl) (by kernel_rfl) ?_
  try simp only [List.append]
  repeat (first | go_big_quiet_skip | (go_big_quiet_want; go_big_quiet_op; (first | go_big_quiet_on | (apply Exists.intro; refine ⟨fun _ => ?_, ?_⟩; (· (first | (go_at_call 36; first | ((with_reducible refine ((HO1.out _)).mono ?_); rintro e w' ⟨rfl, hg⟩; exact ⟨rfl, spread_gr hg⟩) | ((with_reducible refine ((HO2.out _)).mono ?_); rintro e w' ⟨rfl, hg⟩; exact ⟨rfl, spread_gr hg⟩) | ((with_reducible refine ((HO3.out _)).mono ?_); rintro e w' ⟨rfl, hg⟩; exact ⟨rfl, spread_gr hg⟩) | ((with_reducible refine ((HO4.out _)).mono ?_); rintro e w' ⟨rfl, hg⟩; exact ⟨rfl, spread_gr hg⟩)))); go_big_quiet_on))))
  refine wpQuiet_nil ?_
  intro x1 hhx1
  have hx1 := Hd.gr_of_spread hhx1
  have cx1_0_0 : x1.cell? ⟨W.heap.size, 0, none⟩ = some (.int .i64 ax) := cell_gr hx1 (by go_simp)
  have cx1_0_1 : x1.cell? ⟨W.heap.size, 1, none⟩ = some (.int .i64 ay) := cell_gr hx1 (by go_simp)
  have zx1_0 : W.heap.size < x1.heap.size := World.block_lt_of_cell? _ _ cx1_0_0
  have cx1_1_0 : x1.cell? ⟨W.heap.size + 1, 0, none⟩ = some (.int .i64 bx) := cell_gr hx1 (by go_simp)
  have cx1_1_1 : x1.cell? ⟨W.heap.size + 1, 1, none⟩ = some (.int .i64 by') := cell_gr hx1 (by go_simp)
  have zx1_1 : W.heap.size + 1 < x1.heap.size := World.block_lt_of_cell? _ _ cx1_1_0
  have cx1_2_0 : x1.cell? ⟨W.heap.size + 1 + 1, 0, none⟩ = some (.int .i64 cx) := cell_gr hx1 (by go_simp)
  have cx1_2_1 : x1.cell? ⟨W.heap.size + 1 + 1, 1, none⟩ = some (.int .i64 cy) := cell_gr hx1 (by go_simp)
  have zx1_2 : W.heap.size + 1 + 1 < x1.heap.size := World.block_lt_of_cell? _ _ cx1_2_0
  have cx1_3_0 : x1.cell? ⟨W.heap.size + 1 + 1 + 1, 0, none⟩ = some (.int .i64 dx) := cell_gr hx1 (by go_simp)
  have cx1_3_1 : x1.cell? ⟨W.heap.size + 1 + 1 + 1, 1, none⟩ = some (.int .i64 dy) := cell_gr hx1 (by go_simp)
  have zx1_3 : W.heap.size + 1 + 1 + 1 < x1.heap.size := World.block_lt_of_cell? _ _ cx1_3_0
  have cx1_4_0 : x1.cell? ⟨W.heap.size + 1 + 1 + 1 + 1, 0, none⟩ = some (.int .i64 ax) := cell_gr hx1 (by go_simp)
  have cx1_4_1 : x1.cell? ⟨W.heap.size + 1 + 1 + 1 + 1, 1, none⟩ = some (.int .i64 ay) := cell_gr hx1 (by go_simp)
  have cx1_4_2 : x1.cell? ⟨W.heap.size + 1 + 1 + 1 + 1, 2, none⟩ = some (.int .i64 bx) := cell_gr hx1 (by go_simp)
  have cx1_4_3 : x1.cell? ⟨W.heap.size + 1 + 1 + 1 + 1, 3, none⟩ = some (.int .i64 by') := cell_gr hx1 (by go_simp)
  have cx1_4_4 : x1.cell? ⟨W.heap.size + 1 + 1 + 1 + 1, 4, none⟩ = some (.int .i64 cx) := cell_gr hx1 (by go_simp)
  have cx1_4_5 : x1.cell? ⟨W.heap.size + 1 + 1 + 1 + 1, 5, none⟩ = some (.int .i64 cy) := cell_gr hx1 (by go_simp)
  have cx1_4_6 : x1.cell? ⟨W.heap.size + 1 + 1 + 1 + 1, 6, none⟩ = some (.int .i64 dx) := cell_gr hx1 (by go_simp)
  have cx1_4_7 : x1.cell? ⟨W.heap.size + 1 + 1 + 1 + 1, 7, none⟩ = some (.int .i64 dy) := cell_gr hx1 (by go_simp)
  have zx1_4 : W.heap.size + 1 + 1 + 1 + 1 < x1.heap.size := World.block_lt_of_cell? _ _ cx1_4_0
  have gx1 : Gr W x1 := Gr.trans (by have gg := gv3; have gs := gg.size; go_grown) hx1
  clear hx1 hhx1 gv3 zv3_0 cv3_0_0 cv3_0_1 zv3_1 cv3_1_0 cv3_1_1 zv3_2 cv3_2_0 cv3_2_1 zv3_3 cv3_3_0 cv3_3_1 zv3_4 cv3_4_0 cv3_4_1 cv3_4_2 cv3_4_3 cv3_4_4 cv3_4_5 cv3_4_6 cv3_4_7
  go_wp2_with fail
  go_at_call 26
  refine ((H6.out _)).mono ?_
  rintro e x2 ⟨rfl, hx2⟩
  have cx2_0_0 : x2.cell? ⟨W.heap.size, 0, none⟩ = some (.int .i64 ax) := cell_gr hx2 (by go_simp)
  have cx2_0_1 : x2.cell? ⟨W.heap.size, 1, none⟩ = some (.int .i64 ay) := cell_gr hx2 (by go_simp)
  have zx2_0 : W.heap.size < x2.heap.size := World.block_lt_of_cell? _ _ cx2_0_0
  have cx2_1_0 : x2.cell? ⟨W.heap.size + 1, 0, none⟩ = some (.int .i64 bx) := cell_gr hx2 (by go_simp)
  have cx2_1_1 : x2.cell? ⟨W.heap.size + 1, 1, none⟩ = some (.int .i64 by') := cell_gr hx2 (by go_simp)
  have zx2_1 : W.heap.size + 1 < x2.heap.size := World.block_lt_of_cell? _ _ cx2_1_0
  have cx2_2_0 : x2.cell? ⟨W.heap.size + 1 + 1, 0, none⟩ = some (.int .i64 cx) := cell_gr hx2 (by go_simp)
  have cx2_2_1 : x2.cell? ⟨W.heap.size + 1 + 1, 1, none⟩ = some (.int .i64 cy) := cell_gr hx2 (by go_simp)
  have zx2_2 : W.heap.size + 1 + 1 < x2.heap.size := World.block_lt_of_cell? _ _ cx2_2_0
  have cx2_3_0 : x2.cell? ⟨W.heap.size + 1 + 1 + 1, 0, none⟩ = some (.int .i64 dx) := cell_gr hx2 (by go_simp)
  have cx2_3_1 : x2.cell? ⟨W.heap.size + 1 + 1 + 1, 1, none⟩ = some (.int .i64 dy) := cell_gr hx2 (by go_simp)
  have zx2_3 : W.heap.size + 1 + 1 + 1 < x2.heap.size := World.block_lt_of_cell? _ _ cx2_3_0
  have cx2_4_0 : x2.cell? ⟨W.heap.size + 1 + 1 + 1 + 1, 0, none⟩ = some (.int .i64 ax) := cell_gr hx2 (by go_simp)
  have cx2_4_1 : x2.cell? ⟨W.heap.size + 1 + 1 + 1 + 1, 1, none⟩ = some (.int .i64 ay) := cell_gr hx2 (by go_simp)
  have cx2_4_2 : x2.cell? ⟨W.heap.size + 1 + 1 + 1 + 1, 2, none⟩ = some (.int .i64 bx) := cell_gr hx2 (by go_simp)
  have cx2_4_3 : x2.cell? ⟨W.heap.size + 1 + 1 + 1 + 1, 3, none⟩ = some (.int .i64 by') := cell_gr hx2 (by go_simp)
  have cx2_4_4 : x2.cell? ⟨W.heap.size + 1 + 1 + 1 + 1, 4, none⟩ = some (.int .i64 cx) := cell_gr hx2 (by go_simp)
  have cx2_4_5 : x2.cell? ⟨W.heap.size + 1 + 1 + 1 + 1, 5, none⟩ = some (.int .i64 cy) := cell_gr hx2 (by go_simp)
  have cx2_4_6 : x2.cell? ⟨W.heap.size + 1 + 1 + 1 + 1, 6, none⟩ = some (.int .i64 dx) := cell_gr hx2 (by go_simp)
  have cx2_4_7 : x2.cell? ⟨W.heap.size + 1 + 1 + 1 + 1, 7, none⟩ = some (.int .i64 dy) := cell_gr hx2 (by go_simp)
  have zx2_4 : W.heap.size + 1 + 1 + 1 + 1 < x2.heap.size := World.block_lt_of_cell? _ _ cx2_4_0
  have gx2 : Gr W x2 := Gr.trans (by have gg := gx1; have gs := gg.size; go_grown) hx2
  clear hx2 gx1 zx1_0 cx1_0_0 cx1_0_1 zx1_1 cx1_1_0 cx1_1_1 zx1_2 cx1_2_0 cx1_2_1 zx1_3 cx1_3_0 cx1_3_1 zx1_4 cx1_4_0 cx1_4_1 cx1_4_2 cx1_4_3 cx1_4_4 cx1_4_5 cx1_4_6 cx1_4_7
  go_wp2_with fail
  go_at_call 24
  refine ((H5.out _)).mono ?_
  rintro e x3 ⟨rfl, hx3⟩
  have cx3_0_0 : x3.cell? ⟨W.heap.size, 0, none⟩ = some (.int .i64 ax) := cell_gr hx3 (by go_simp)
  have cx3_0_1 : x3.cell? ⟨W.heap.size, 1, none⟩ = some (.int .i64 ay) := cell_gr hx3 (by go_simp)
  have zx3_0 : W.heap.size < x3.heap.size := World.block_lt_of_cell? _ _ cx3_0_0
  have cx3_1_0 : x3.cell? ⟨W.heap.size + 1, 0, none⟩ = some (.int .i64 bx) := cell_gr hx3 (by go_simp)
  have cx3_1_1 : x3.cell? ⟨W.heap.size + 1, 1, none⟩ = some (.int .i64 by') := cell_gr hx3 (by go_simp)
  have zx3_1 : W.heap.size + 1 < x3.heap.size := World.block_lt_of_cell? _ _ cx3_1_0
  have cx3_2_0 : x3.cell? ⟨W.heap.size + 1 + 1, 0, none⟩ = some (.int .i64 cx) := cell_gr hx3 (by go_simp)
  have cx3_2_1 : x3.cell? ⟨W.heap.size + 1 + 1, 1, none⟩ = some (.int .i64 cy) := cell_gr hx3 (by go_simp)
  have zx3_2 : W.heap.size + 1 + 1 < x3.heap.size := World.block_lt_of_cell? _ _ cx3_2_0
  have cx3_3_0 : x3.cell? ⟨W.heap.size + 1 + 1 + 1, 0, none⟩ = some (.int .i64 dx) := cell_gr hx3 (by go_simp)
  have cx3_3_1 : x3.cell? ⟨W.heap.size + 1 + 1 + 1, 1, none⟩ = some (.int .i64 dy) := cell_gr hx3 (by go_simp)
  have zx3_3 : W.heap.size + 1 + 1 + 1 < x3.heap.size := World.block_lt_of_cell? _ _ cx3_3_0
  have cx3_4_0 : x3.cell? ⟨W.heap.size + 1 + 1 + 1 + 1, 0, none⟩ = some (.int .i64 ax) := cell_gr hx3 (by go_simp)
  have cx3_4_1 : x3.cell? ⟨W.heap.size + 1 + 1 + 1 + 1, 1, none⟩ = some (.int .i64 ay) := cell_gr hx3 (by go_simp)
  have cx3_4_2 : x3.cell? ⟨W.heap.size + 1 + 1 + 1 + 1, 2, none⟩ = some (.int .i64 bx) := cell_gr hx3 (by go_simp)
  have cx3_4_3 : x3.cell? ⟨W.heap.size + 1 + 1 + 1 + 1, 3, none⟩ = some (.int .i64 by') := cell_gr hx3 (by go_simp)
  have cx3_4_4 : x3.cell? ⟨W.heap.size + 1 + 1 + 1 + 1, 4, none⟩ = some (.int .i64 cx) := cell_gr hx3 (by go_simp)
  have cx3_4_5 : x3.cell? ⟨W.heap.size + 1 + 1 + 1 + 1, 5, none⟩ = some (.int .i64 cy) := cell_gr hx3 (by go_simp)
  have cx3_4_6 : x3.cell? ⟨W.heap.size + 1 + 1 + 1 + 1, 6, none⟩ = some (.int .i64 dx) := cell_gr hx3 (by go_simp)
  have cx3_4_7 : x3.cell? ⟨W.heap.size + 1 + 1 + 1 + 1, 7, none⟩ = some (.int .i64 dy) := cell_gr hx3 (by go_simp)
  have zx3_4 : W.heap.size + 1 + 1 + 1 + 1 < x3.heap.size := World.block_lt_of_cell? _ _ cx3_4_0
  have gx3 : Gr W x3 := Gr.trans (by have gg := gx2; have gs := gg.size; go_grown) hx3
  clear hx3 gx2 zx2_0 cx2_0_0 cx2_0_1 zx2_1 cx2_1_0 cx2_1_1 zx2_2 cx2_2_0 cx2_2_1 zx2_3 cx2_3_0 cx2_3_1 zx2_4 cx2_4_0 cx2_4_1 cx2_4_2 cx2_4_3 cx2_4_4 cx2_4_5 cx2_4_6 cx2_4_7
  go_wp2_with fail
  go_at_call 32
  refine ((s4_awake _)).mono ?_
  rintro e x4 ⟨rfl, hx4⟩
  have cx4_0_0 : x4.cell? ⟨W.heap.size, 0, none⟩ = some (.int .i64 ax) := cell_gr hx4 (by go_simp)
  have cx4_0_1 : x4.cell? ⟨W.heap.size, 1, none⟩ = some (.int .i64 ay) := cell_gr hx4 (by go_simp)
  have zx4_0 : W.heap.size < x4.heap.size := World.block_lt_of_cell? _ _ cx4_0_0
  have cx4_1_0 : x4.cell? ⟨W.heap.size + 1, 0, none⟩ = some (.int .i64 bx) := cell_gr hx4 (by go_simp)
  have cx4_1_1 : x4.cell? ⟨W.heap.size + 1, 1, none⟩ = some (.int .i64 by') := cell_gr hx4 (by go_simp)
  have zx4_1 : W.heap.size + 1 < x4.heap.size := World.block_lt_of_cell? _ _ cx4_1_0
  have cx4_2_0 : x4.cell? ⟨W.heap.size + 1 + 1, 0, none⟩ = some (.int .i64 cx) := cell_gr hx4 (by go_simp)
  have cx4_2_1 : x4.cell? ⟨W.heap.size + 1 + 1, 1, none⟩ = some (.int .i64 cy) := cell_gr hx4 (by go_simp)
  have zx4_2 : W.heap.size + 1 + 1 < x4.heap.size := World.block_lt_of_cell? _ _ cx4_2_0
  have cx4_3_0 : x4.cell? ⟨W.heap.size + 1 + 1 + 1, 0, none⟩ = some (.int .i64 dx) := cell_gr hx4 (by go_simp)
  have cx4_3_1 : x4.cell? ⟨W.heap.size + 1 + 1 + 1, 1, none⟩ = some (.int .i64 dy) := cell_gr hx4 (by go_simp)
  have zx4_3 : W.heap.size + 1 + 1 + 1 < x4.heap.size := World.block_lt_of_cell? _ _ cx4_3_0
  have cx4_4_0 : x4.cell? ⟨W.heap.size + 1 + 1 + 1 + 1, 0, none⟩ = some (.int .i64 ax) := cell_gr hx4 (by go_simp)
  have cx4_4_1 : x4.cell? ⟨W.heap.size + 1 + 1 + 1 + 1, 1, none⟩ = some (.int .i64 ay) := cell_gr hx4 (by go_simp)
  have cx4_4_2 : x4.cell? ⟨W.heap.size + 1 + 1 + 1 + 1, 2, none⟩ = some (.int .i64 bx) := cell_gr hx4 (by go_simp)
  have cx4_4_3 : x4.cell? ⟨W.heap.size + 1 + 1 + 1 + 1, 3, none⟩ = some (.int .i64 by') := cell_gr hx4 (by go_simp)
  have cx4_4_4 : x4.cell? ⟨W.heap.size + 1 + 1 + 1 + 1, 4, none⟩ = some (.int .i64 cx) := cell_gr hx4 (by go_simp)
  have cx4_4_5 : x4.cell? ⟨W.heap.size + 1 + 1 + 1 + 1, 5, none⟩ = some (.int .i64 cy) := cell_gr hx4 (by go_simp)
  have cx4_4_6 : x4.cell? ⟨W.heap.size + 1 + 1 + 1 + 1, 6, none⟩ = some (.int .i64 dx) := cell_gr hx4 (by go_simp)
  have cx4_4_7 : x4.cell? ⟨W.heap.size + 1 + 1 + 1 + 1, 7, none⟩ = some (.int .i64 dy) := cell_gr hx4 (by go_simp)
  have zx4_4 : W.heap.size + 1 + 1 + 1 + 1 < x4.heap.size := World.block_lt_of_cell? _ _ cx4_4_0
  have gx4 : Gr W x4 := Gr.trans (by have gg := gx3; have gs := gg.size; go_grown) hx4
  clear hx4 gx3 zx3_0 cx3_0_0 cx3_0_1 zx3_1 cx3_1_0 cx3_1_1 zx3_2 cx3_2_0 cx3_2_1 zx3_3 cx3_3_0 cx3_3_1 zx3_4 cx3_4_0 cx3_4_1 cx3_4_2 cx3_4_3 cx3_4_4 cx3_4_5 cx3_4_6 cx3_4_7
  go_wp2_with fail
  go_ret
  exact ⟨rfl, by go_grown⟩
set_option maxHeartbeats 4000000 in
set_option maxRecDepth 100000 in
theorem cross_n2d (ax ay bx by' cx cy dx dy k1 k2 k3 k4 p1 p2 : Int) (W : World) (e1 : wrap64 (k1 * k2) = p1) (e2 : IntKind.i64.wrap (k1 * k2) = p1) (e3 : wrap64 (k3 * k4) = p2) (e4 : IntKind.i64.wrap (k3 * k4) = p2)
    (t1 : (p1 == -1) = true) (t2 : (p2 == -1) = false)
    (A1 : ∀ w, Calls Try.prog 14 #[.agg #[.int .i64 ax, .int .i64 ay]] w fun e w' => e = .returned (.bool true) ∧ Gr w w')
    (A2 : ∀ w, Calls Try.prog 14 #[.agg #[.int .i64 bx, .int .i64 by']] w fun e w' => e = .returned (.bool true) ∧ Gr w w')
    (A3 : ∀ w, Calls Try.prog 14 #[.agg #[.int .i64 cx, .int .i64 cy]] w fun e w' => e = .returned (.bool true) ∧ Gr w w')
    (A4 : ∀ w, Calls Try.prog 14 #[.agg #[.int .i64 dx, .int .i64 dy]] w fun e w' => e = .returned (.bool true) ∧ Gr w w')
    (A5 : ∀ w, Calls Try.prog 24 #[.agg #[.int .i64 ax, .int .i64 ay], .agg #[.int .i64 bx, .int .i64 by'], .agg #[.int .i64 cx, .int .i64 cy], .agg #[.int .i64 dx, .int .i64 dy]] w fun e w' => e = .returned (.bool true) ∧ Gr w w')
    (A6 : ∀ w, Calls Try.prog 26 #[.agg #[.int .i64 ax, .int .i64 ay], .agg #[.int .i64 bx, .int .i64 by'], .agg #[.int .i64 cx, .int .i64 cy], .agg #[.int .i64 dx, .int .i64 dy]] w fun e w' => e = .returned (.bool false) ∧ Gr w w')
    (B1 : ∀ w, Calls Try.prog 22 #[.agg #[.int .i64 ax, .int .i64 ay], .agg #[.int .i64 bx, .int .i64 by'], .agg #[.int .i64 cx, .int .i64 cy]] w fun e w' => e = .returned (.bool false) ∧ Gr w w')
    (B2 : ∀ w, Calls Try.prog 22 #[.agg #[.int .i64 ax, .int .i64 ay], .agg #[.int .i64 bx, .int .i64 by'], .agg #[.int .i64 dx, .int .i64 dy]] w fun e w' => e = .returned (.bool false) ∧ Gr w w')
    (B3 : ∀ w, Calls Try.prog 22 #[.agg #[.int .i64 cx, .int .i64 cy], .agg #[.int .i64 dx, .int .i64 dy], .agg #[.int .i64 ax, .int .i64 ay]] w fun e w' => e = .returned (.bool false) ∧ Gr w w')
    (B4 : ∀ w, Calls Try.prog 22 #[.agg #[.int .i64 cx, .int .i64 cy], .agg #[.int .i64 dx, .int .i64 dy], .agg #[.int .i64 bx, .int .i64 by']] w fun e w' => e = .returned (.bool true) ∧ Gr w w')
    (O1 : ∀ w, Calls Try.prog 36 #[.agg #[.int .i64 ax, .int .i64 ay], .agg #[.int .i64 bx, .int .i64 by'], .agg #[.int .i64 cx, .int .i64 cy]] w fun e w' => e = .returned (.int .i64 k1) ∧ Gr w w')
    (O2 : ∀ w, Calls Try.prog 36 #[.agg #[.int .i64 ax, .int .i64 ay], .agg #[.int .i64 bx, .int .i64 by'], .agg #[.int .i64 dx, .int .i64 dy]] w fun e w' => e = .returned (.int .i64 k2) ∧ Gr w w')
    (O3 : ∀ w, Calls Try.prog 36 #[.agg #[.int .i64 cx, .int .i64 cy], .agg #[.int .i64 dx, .int .i64 dy], .agg #[.int .i64 ax, .int .i64 ay]] w fun e w' => e = .returned (.int .i64 k3) ∧ Gr w w')
    (O4 : ∀ w, Calls Try.prog 36 #[.agg #[.int .i64 cx, .int .i64 cy], .agg #[.int .i64 dx, .int .i64 dy], .agg #[.int .i64 bx, .int .i64 by']] w fun e w' => e = .returned (.int .i64 k4) ∧ Gr w w') :
    Calls Try.prog 9 #[.agg #[.int .i64 ax, .int .i64 ay], .agg #[.int .i64 bx, .int .i64 by'], .agg #[.int .i64 cx, .int .i64 cy], .agg #[.int .i64 dx, .int .i64 dy]] W fun e w' => e = .returned (.bool true) ∧ Gr W w' := by
  have H1 := Lib.hid A1
  have H2 := Lib.hid A2
  have H3 := Lib.hid A3
  have H4 := Lib.hid A4
  have H5 := Lib.hid A5
  have H6 := Lib.hid A6
  clear A1 A2 A3 A4 A5 A6
  have HB1 := Lib.hid B1
  have HB2 := Lib.hid B2
  have HB3 := Lib.hid B3
  have HB4 := Lib.hid B4
  have HO1 := Lib.hid O1
  have HO2 := Lib.hid O2
  have HO3 := Lib.hid O3
  have HO4 := Lib.hid O4
  clear B1 B2 B3 B4 O1 O2 O3 O4
  go_enter Try.func9, Try.ntmps9
  go_wp2_with fail
  refine wp_loop_rounds 5 ?_
  rw [rounds_succ]
  go_wp2_with fail
  go_at_call 14
  refine ((H1.out _)).mono ?_
  rintro e w1 ⟨rfl, hw1⟩
  have cw1_0_0 : w1.cell? ⟨W.heap.size, 0, none⟩ = some (.int .i64 ax) := cell_gr hw1 (by go_simp)
  have cw1_0_1 : w1.cell? ⟨W.heap.size, 1, none⟩ = some (.int .i64 ay) := cell_gr hw1 (by go_simp)
  have zw1_0 : W.heap.size < w1.heap.size := World.block_lt_of_cell? _ _ cw1_0_0
  have cw1_1_0 : w1.cell? ⟨W.heap.size + 1, 0, none⟩ = some (.int .i64 bx) := cell_gr hw1 (by go_simp)
  have cw1_1_1 : w1.cell? ⟨W.heap.size + 1, 1, none⟩ = some (.int .i64 by') := cell_gr hw1 (by go_simp)
  have zw1_1 : W.heap.size + 1 < w1.heap.size := World.block_lt_of_cell? _ _ cw1_1_0
  have cw1_2_0 : w1.cell? ⟨W.heap.size + 1 + 1, 0, none⟩ = some (.int .i64 cx) := cell_gr hw1 (by go_simp)
  have cw1_2_1 : w1.cell? ⟨W.heap.size + 1 + 1, 1, none⟩ = some (.int .i64 cy) := cell_gr hw1 (by go_simp)
  have zw1_2 : W.heap.size + 1 + 1 < w1.heap.size := World.block_lt_of_cell? _ _ cw1_2_0
  have cw1_3_0 : w1.cell? ⟨W.heap.size + 1 + 1 + 1, 0, none⟩ = some (.int .i64 dx) := cell_gr hw1 (by go_simp)
  have cw1_3_1 : w1.cell? ⟨W.heap.size + 1 + 1 + 1, 1, none⟩ = some (.int .i64 dy) := cell_gr hw1 (by go_simp)
  have zw1_3 : W.heap.size + 1 + 1 + 1 < w1.heap.size := World.block_lt_of_cell? _ _ cw1_3_0
  have cw1_4_0 : w1.cell? ⟨W.heap.size + 1 + 1 + 1 + 1, 0, none⟩ = some (.int .i64 ax) := cell_gr hw1 (by go_simp)
  have cw1_4_1 : w1.cell? ⟨W.heap.size + 1 + 1 + 1 + 1, 1, none⟩ = some (.int .i64 ay) := cell_gr hw1 (by go_simp)
  have cw1_4_2 : w1.cell? ⟨W.heap.size + 1 + 1 + 1 + 1, 2, none⟩ = some (.int .i64 bx) := cell_gr hw1 (by go_simp)
  have cw1_4_3 : w1.cell? ⟨W.heap.size + 1 + 1 + 1 + 1, 3, none⟩ = some (.int .i64 by') := cell_gr hw1 (by go_simp)
  have cw1_4_4 : w1.cell? ⟨W.heap.size + 1 + 1 + 1 + 1, 4, none⟩ = some (.int .i64 cx) := cell_gr hw1 (by go_simp)
  have cw1_4_5 : w1.cell? ⟨W.heap.size + 1 + 1 + 1 + 1, 5, none⟩ = some (.int .i64 cy) := cell_gr hw1 (by go_simp)
  have cw1_4_6 : w1.cell? ⟨W.heap.size + 1 + 1 + 1 + 1, 6, none⟩ = some (.int .i64 dx) := cell_gr hw1 (by go_simp)
  have cw1_4_7 : w1.cell? ⟨W.heap.size + 1 + 1 + 1 + 1, 7, none⟩ = some (.int .i64 dy) := cell_gr hw1 (by go_simp)
  have zw1_4 : W.heap.size + 1 + 1 + 1 + 1 < w1.heap.size := World.block_lt_of_cell? _ _ cw1_4_0
  have gw1 : Gr W w1 := Gr.trans (by go_grown) hw1
  clear hw1
  go_wp2_with fail
  rw [rounds_succ]
  go_wp2_with fail
  go_at_call 14
  refine ((H2.out _)).mono ?_
  rintro e w2 ⟨rfl, hw2⟩
  have cw2_0_0 : w2.cell? ⟨W.heap.size, 0, none⟩ = some (.int .i64 ax) := cell_gr hw2 (by go_simp)
  have cw2_0_1 : w2.cell? ⟨W.heap.size, 1, none⟩ = some (.int .i64 ay) := cell_gr hw2 (by go_simp)
  have zw2_0 : W.heap.size < w2.heap.size := World.block_lt_of_cell? _ _ cw2_0_0
  have cw2_1_0 : w2.cell? ⟨W.heap.size + 1, 0, none⟩ = some (.int .i64 bx) := cell_gr hw2 (by go_simp)
  have cw2_1_1 : w2.cell? ⟨W.heap.size + 1, 1, none⟩ = some (.int .i64 by') := cell_gr hw2 (by go_simp)
  have zw2_1 : W.heap.size + 1 < w2.heap.size := World.block_lt_of_cell? _ _ cw2_1_0
  have cw2_2_0 : w2.cell? ⟨W.heap.size + 1 + 1, 0, none⟩ = some (.int .i64 cx) := cell_gr hw2 (by go_simp)
  have cw2_2_1 : w2.cell? ⟨W.heap.size + 1 + 1, 1, none⟩ = some (.int .i64 cy) := cell_gr hw2 (by go_simp)
  have zw2_2 : W.heap.size + 1 + 1 < w2.heap.size := World.block_lt_of_cell? _ _ cw2_2_0
  have cw2_3_0 : w2.cell? ⟨W.heap.size + 1 + 1 + 1, 0, none⟩ = some (.int .i64 dx) := cell_gr hw2 (by go_simp)
  have cw2_3_1 : w2.cell? ⟨W.heap.size + 1 + 1 + 1, 1, none⟩ = some (.int .i64 dy) := cell_gr hw2 (by go_simp)
  have zw2_3 : W.heap.size + 1 + 1 + 1 < w2.heap.size := World.block_lt_of_cell? _ _ cw2_3_0
  have cw2_4_0 : w2.cell? ⟨W.heap.size + 1 + 1 + 1 + 1, 0, none⟩ = some (.int .i64 ax) := cell_gr hw2 (by go_simp)
  have cw2_4_1 : w2.cell? ⟨W.heap.size + 1 + 1 + 1 + 1, 1, none⟩ = some (.int .i64 ay) := cell_gr hw2 (by go_simp)
  have cw2_4_2 : w2.cell? ⟨W.heap.size + 1 + 1 + 1 + 1, 2, none⟩ = some (.int .i64 bx) := cell_gr hw2 (by go_simp)
  have cw2_4_3 : w2.cell? ⟨W.heap.size + 1 + 1 + 1 + 1, 3, none⟩ = some (.int .i64 by') := cell_gr hw2 (by go_simp)
  have cw2_4_4 : w2.cell? ⟨W.heap.size + 1 + 1 + 1 + 1, 4, none⟩ = some (.int .i64 cx) := cell_gr hw2 (by go_simp)
  have cw2_4_5 : w2.cell? ⟨W.heap.size + 1 + 1 + 1 + 1, 5, none⟩ = some (.int .i64 cy) := cell_gr hw2 (by go_simp)
  have cw2_4_6 : w2.cell? ⟨W.heap.size + 1 + 1 + 1 + 1, 6, none⟩ = some (.int .i64 dx) := cell_gr hw2 (by go_simp)
  have cw2_4_7 : w2.cell? ⟨W.heap.size + 1 + 1 + 1 + 1, 7, none⟩ = some (.int .i64 dy) := cell_gr hw2 (by go_simp)
  have zw2_4 : W.heap.size + 1 + 1 + 1 + 1 < w2.heap.size := World.block_lt_of_cell? _ _ cw2_4_0
  have gw2 : Gr W w2 := Gr.trans (by have gg := gw1; have gs := gg.size; go_grown) hw2
  clear hw2 gw1 zw1_0 cw1_0_0 cw1_0_1 zw1_1 cw1_1_0 cw1_1_1 zw1_2 cw1_2_0 cw1_2_1 zw1_3 cw1_3_0 cw1_3_1 zw1_4 cw1_4_0 cw1_4_1 cw1_4_2 cw1_4_3 cw1_4_4 cw1_4_5 cw1_4_6 cw1_4_7
  go_wp2_with fail
  rw [rounds_succ]
  go_wp2_with fail
  go_at_call 14
  refine ((H3.out _)).mono ?_
  rintro e w3 ⟨rfl, hw3⟩
  have cw3_0_0 : w3.cell? ⟨W.heap.size, 0, none⟩ = some (.int .i64 ax) := cell_gr hw3 (by go_simp)
  have cw3_0_1 : w3.cell? ⟨W.heap.size, 1, none⟩ = some (.int .i64 ay) := cell_gr hw3 (by go_simp)
  have zw3_0 : W.heap.size < w3.heap.size := World.block_lt_of_cell? _ _ cw3_0_0
  have cw3_1_0 : w3.cell? ⟨W.heap.size + 1, 0, none⟩ = some (.int .i64 bx) := cell_gr hw3 (by go_simp)
  have cw3_1_1 : w3.cell? ⟨W.heap.size + 1, 1, none⟩ = some (.int .i64 by') := cell_gr hw3 (by go_simp)
  have zw3_1 : W.heap.size + 1 < w3.heap.size := World.block_lt_of_cell? _ _ cw3_1_0
  have cw3_2_0 : w3.cell? ⟨W.heap.size + 1 + 1, 0, none⟩ = some (.int .i64 cx) := cell_gr hw3 (by go_simp)
  have cw3_2_1 : w3.cell? ⟨W.heap.size + 1 + 1, 1, none⟩ = some (.int .i64 cy) := cell_gr hw3 (by go_simp)
  have zw3_2 : W.heap.size + 1 + 1 < w3.heap.size := World.block_lt_of_cell? _ _ cw3_2_0
  have cw3_3_0 : w3.cell? ⟨W.heap.size + 1 + 1 + 1, 0, none⟩ = some (.int .i64 dx) := cell_gr hw3 (by go_simp)
  have cw3_3_1 : w3.cell? ⟨W.heap.size + 1 + 1 + 1, 1, none⟩ = some (.int .i64 dy) := cell_gr hw3 (by go_simp)
  have zw3_3 : W.heap.size + 1 + 1 + 1 < w3.heap.size := World.block_lt_of_cell? _ _ cw3_3_0
  have cw3_4_0 : w3.cell? ⟨W.heap.size + 1 + 1 + 1 + 1, 0, none⟩ = some (.int .i64 ax) := cell_gr hw3 (by go_simp)
  have cw3_4_1 : w3.cell? ⟨W.heap.size + 1 + 1 + 1 + 1, 1, none⟩ = some (.int .i64 ay) := cell_gr hw3 (by go_simp)
  have cw3_4_2 : w3.cell? ⟨W.heap.size + 1 + 1 + 1 + 1, 2, none⟩ = some (.int .i64 bx) := cell_gr hw3 (by go_simp)
  have cw3_4_3 : w3.cell? ⟨W.heap.size + 1 + 1 + 1 + 1, 3, none⟩ = some (.int .i64 by') := cell_gr hw3 (by go_simp)
  have cw3_4_4 : w3.cell? ⟨W.heap.size + 1 + 1 + 1 + 1, 4, none⟩ = some (.int .i64 cx) := cell_gr hw3 (by go_simp)
  have cw3_4_5 : w3.cell? ⟨W.heap.size + 1 + 1 + 1 + 1, 5, none⟩ = some (.int .i64 cy) := cell_gr hw3 (by go_simp)
  have cw3_4_6 : w3.cell? ⟨W.heap.size + 1 + 1 + 1 + 1, 6, none⟩ = some (.int .i64 dx) := cell_gr hw3 (by go_simp)
  have cw3_4_7 : w3.cell? ⟨W.heap.size + 1 + 1 + 1 + 1, 7, none⟩ = some (.int .i64 dy) := cell_gr hw3 (by go_simp)
  have zw3_4 : W.heap.size + 1 + 1 + 1 + 1 < w3.heap.size := World.block_lt_of_cell? _ _ cw3_4_0
  have gw3 : Gr W w3 := Gr.trans (by have gg := gw2; have gs := gg.size; go_grown) hw3
  clear hw3 gw2 zw2_0 cw2_0_0 cw2_0_1 zw2_1 cw2_1_0 cw2_1_1 zw2_2 cw2_2_0 cw2_2_1 zw2_3 cw2_3_0 cw2_3_1 zw2_4 cw2_4_0 cw2_4_1 cw2_4_2 cw2_4_3 cw2_4_4 cw2_4_5 cw2_4_6 cw2_4_7
  go_wp2_with fail
  rw [rounds_succ]
  go_wp2_with fail
  go_at_call 14
  refine ((H4.out _)).mono ?_
  rintro e w4 ⟨rfl, hw4⟩
  have cw4_0_0 : w4.cell? ⟨W.heap.size, 0, none⟩ = some (.int .i64 ax) := cell_gr hw4 (by go_simp)
  have cw4_0_1 : w4.cell? ⟨W.heap.size, 1, none⟩ = some (.int .i64 ay) := cell_gr hw4 (by go_simp)
  have zw4_0 : W.heap.size < w4.heap.size := World.block_lt_of_cell? _ _ cw4_0_0
  have cw4_1_0 : w4.cell? ⟨W.heap.size + 1, 0, none⟩ = some (.int .i64 bx) := cell_gr hw4 (by go_simp)
  have cw4_1_1 : w4.cell? ⟨W.heap.size + 1, 1, none⟩ = some (.int .i64 by') := cell_gr hw4 (by go_simp)
  have zw4_1 : W.heap.size + 1 < w4.heap.size := World.block_lt_of_cell? _ _ cw4_1_0
  have cw4_2_0 : w4.cell? ⟨W.heap.size + 1 + 1, 0, none⟩ = some (.int .i64 cx) := cell_gr hw4 (by go_simp)
  have cw4_2_1 : w4.cell? ⟨W.heap.size + 1 + 1, 1, none⟩ = some (.int .i64 cy) := cell_gr hw4 (by go_simp)
  have zw4_2 : W.heap.size + 1 + 1 < w4.heap.size := World.block_lt_of_cell? _ _ cw4_2_0
  have cw4_3_0 : w4.cell? ⟨W.heap.size + 1 + 1 + 1, 0, none⟩ = some (.int .i64 dx) := cell_gr hw4 (by go_simp)
  have cw4_3_1 : w4.cell? ⟨W.heap.size + 1 + 1 + 1, 1, none⟩ = some (.int .i64 dy) := cell_gr hw4 (by go_simp)
  have zw4_3 : W.heap.size + 1 + 1 + 1 < w4.heap.size := World.block_lt_of_cell? _ _ cw4_3_0
  have cw4_4_0 : w4.cell? ⟨W.heap.size + 1 + 1 + 1 + 1, 0, none⟩ = some (.int .i64 ax) := cell_gr hw4 (by go_simp)
  have cw4_4_1 : w4.cell? ⟨W.heap.size + 1 + 1 + 1 + 1, 1, none⟩ = some (.int .i64 ay) := cell_gr hw4 (by go_simp)
  have cw4_4_2 : w4.cell? ⟨W.heap.size + 1 + 1 + 1 + 1, 2, none⟩ = some (.int .i64 bx) := cell_gr hw4 (by go_simp)
  have cw4_4_3 : w4.cell? ⟨W.heap.size + 1 + 1 + 1 + 1, 3, none⟩ = some (.int .i64 by') := cell_gr hw4 (by go_simp)
  have cw4_4_4 : w4.cell? ⟨W.heap.size + 1 + 1 + 1 + 1, 4, none⟩ = some (.int .i64 cx) := cell_gr hw4 (by go_simp)
  have cw4_4_5 : w4.cell? ⟨W.heap.size + 1 + 1 + 1 + 1, 5, none⟩ = some (.int .i64 cy) := cell_gr hw4 (by go_simp)
  have cw4_4_6 : w4.cell? ⟨W.heap.size + 1 + 1 + 1 + 1, 6, none⟩ = some (.int .i64 dx) := cell_gr hw4 (by go_simp)
  have cw4_4_7 : w4.cell? ⟨W.heap.size + 1 + 1 + 1 + 1, 7, none⟩ = some (.int .i64 dy) := cell_gr hw4 (by go_simp)
  have zw4_4 : W.heap.size + 1 + 1 + 1 + 1 < w4.heap.size := World.block_lt_of_cell? _ _ cw4_4_0
  have gw4 : Gr W w4 := Gr.trans (by have gg := gw3; have gs := gg.size; go_grown) hw4
  clear hw4 gw3 zw3_0 cw3_0_0 cw3_0_1 zw3_1 cw3_1_0 cw3_1_1 zw3_2 cw3_2_0 cw3_2_1 zw3_3 cw3_3_0 cw3_3_1 zw3_4 cw3_4_0 cw3_4_1 cw3_4_2 cw3_4_3 cw3_4_4 cw3_4_5 cw3_4_6 cw3_4_7
  go_wp2_with fail
  rw [rounds_succ]
  go_wp2_with fail
  go_at_call 22
  refine ((HB1.out _)).mono ?_
  rintro e v1 ⟨rfl, hv1⟩
  have cv1_0_0 : v1.cell? ⟨W.heap.size, 0, none⟩ = some (.int .i64 ax) := cell_gr hv1 (by go_simp)
  have cv1_0_1 : v1.cell? ⟨W.heap.size, 1, none⟩ = some (.int .i64 ay) := cell_gr hv1 (by go_simp)
  have zv1_0 : W.heap.size < v1.heap.size := World.block_lt_of_cell? _ _ cv1_0_0
  have cv1_1_0 : v1.cell? ⟨W.heap.size + 1, 0, none⟩ = some (.int .i64 bx) := cell_gr hv1 (by go_simp)
  have cv1_1_1 : v1.cell? ⟨W.heap.size + 1, 1, none⟩ = some (.int .i64 by') := cell_gr hv1 (by go_simp)
  have zv1_1 : W.heap.size + 1 < v1.heap.size := World.block_lt_of_cell? _ _ cv1_1_0
  have cv1_2_0 : v1.cell? ⟨W.heap.size + 1 + 1, 0, none⟩ = some (.int .i64 cx) := cell_gr hv1 (by go_simp)
  have cv1_2_1 : v1.cell? ⟨W.heap.size + 1 + 1, 1, none⟩ = some (.int .i64 cy) := cell_gr hv1 (by go_simp)
  have zv1_2 : W.heap.size + 1 + 1 < v1.heap.size := World.block_lt_of_cell? _ _ cv1_2_0
  have cv1_3_0 : v1.cell? ⟨W.heap.size + 1 + 1 + 1, 0, none⟩ = some (.int .i64 dx) := cell_gr hv1 (by go_simp)
  have cv1_3_1 : v1.cell? ⟨W.heap.size + 1 + 1 + 1, 1, none⟩ = some (.int .i64 dy) := cell_gr hv1 (by go_simp)
  have zv1_3 : W.heap.size + 1 + 1 + 1 < v1.heap.size := World.block_lt_of_cell? _ _ cv1_3_0
  have cv1_4_0 : v1.cell? ⟨W.heap.size + 1 + 1 + 1 + 1, 0, none⟩ = some (.int .i64 ax) := cell_gr hv1 (by go_simp)
  have cv1_4_1 : v1.cell? ⟨W.heap.size + 1 + 1 + 1 + 1, 1, none⟩ = some (.int .i64 ay) := cell_gr hv1 (by go_simp)
  have cv1_4_2 : v1.cell? ⟨W.heap.size + 1 + 1 + 1 + 1, 2, none⟩ = some (.int .i64 bx) := cell_gr hv1 (by go_simp)
  have cv1_4_3 : v1.cell? ⟨W.heap.size + 1 + 1 + 1 + 1, 3, none⟩ = some (.int .i64 by') := cell_gr hv1 (by go_simp)
  have cv1_4_4 : v1.cell? ⟨W.heap.size + 1 + 1 + 1 + 1, 4, none⟩ = some (.int .i64 cx) := cell_gr hv1 (by go_simp)
  have cv1_4_5 : v1.cell? ⟨W.heap.size + 1 + 1 + 1 + 1, 5, none⟩ = some (.int .i64 cy) := cell_gr hv1 (by go_simp)
  have cv1_4_6 : v1.cell? ⟨W.heap.size + 1 + 1 + 1 + 1, 6, none⟩ = some (.int .i64 dx) := cell_gr hv1 (by go_simp)
  have cv1_4_7 : v1.cell? ⟨W.heap.size + 1 + 1 + 1 + 1, 7, none⟩ = some (.int .i64 dy) := cell_gr hv1 (by go_simp)
  have zv1_4 : W.heap.size + 1 + 1 + 1 + 1 < v1.heap.size := World.block_lt_of_cell? _ _ cv1_4_0
  have gv1 : Gr W v1 := Gr.trans (by have gg := gw4; have gs := gg.size; go_grown) hv1
  clear hv1 gw4 zw4_0 cw4_0_0 cw4_0_1 zw4_1 cw4_1_0 cw4_1_1 zw4_2 cw4_2_0 cw4_2_1 zw4_3 cw4_3_0 cw4_3_1 zw4_4 cw4_4_0 cw4_4_1 cw4_4_2 cw4_4_3 cw4_4_4 cw4_4_5 cw4_4_6 cw4_4_7
  go_wp2_with fail
  go_at_call 22
  refine ((HB2.out _)).mono ?_
  rintro e v2 ⟨rfl, hv2⟩
  have cv2_0_0 : v2.cell? ⟨W.heap.size, 0, none⟩ = some (.int .i64 ax) := cell_gr hv2 (by go_simp)
  have cv2_0_1 : v2.cell? ⟨W.heap.size, 1, none⟩ = some (.int .i64 ay) := cell_gr hv2 (by go_simp)
  have zv2_0 : W.heap.size < v2.heap.size := World.block_lt_of_cell? _ _ cv2_0_0
  have cv2_1_0 : v2.cell? ⟨W.heap.size + 1, 0, none⟩ = some (.int .i64 bx) := cell_gr hv2 (by go_simp)
  have cv2_1_1 : v2.cell? ⟨W.heap.size + 1, 1, none⟩ = some (.int .i64 by') := cell_gr hv2 (by go_simp)
  have zv2_1 : W.heap.size + 1 < v2.heap.size := World.block_lt_of_cell? _ _ cv2_1_0
  have cv2_2_0 : v2.cell? ⟨W.heap.size + 1 + 1, 0, none⟩ = some (.int .i64 cx) := cell_gr hv2 (by go_simp)
  have cv2_2_1 : v2.cell? ⟨W.heap.size + 1 + 1, 1, none⟩ = some (.int .i64 cy) := cell_gr hv2 (by go_simp)
  have zv2_2 : W.heap.size + 1 + 1 < v2.heap.size := World.block_lt_of_cell? _ _ cv2_2_0
  have cv2_3_0 : v2.cell? ⟨W.heap.size + 1 + 1 + 1, 0, none⟩ = some (.int .i64 dx) := cell_gr hv2 (by go_simp)
  have cv2_3_1 : v2.cell? ⟨W.heap.size + 1 + 1 + 1, 1, none⟩ = some (.int .i64 dy) := cell_gr hv2 (by go_simp)
  have zv2_3 : W.heap.size + 1 + 1 + 1 < v2.heap.size := World.block_lt_of_cell? _ _ cv2_3_0
  have cv2_4_0 : v2.cell? ⟨W.heap.size + 1 + 1 + 1 + 1, 0, none⟩ = some (.int .i64 ax) := cell_gr hv2 (by go_simp)
  have cv2_4_1 : v2.cell? ⟨W.heap.size + 1 + 1 + 1 + 1, 1, none⟩ = some (.int .i64 ay) := cell_gr hv2 (by go_simp)
  have cv2_4_2 : v2.cell? ⟨W.heap.size + 1 + 1 + 1 + 1, 2, none⟩ = some (.int .i64 bx) := cell_gr hv2 (by go_simp)
  have cv2_4_3 : v2.cell? ⟨W.heap.size + 1 + 1 + 1 + 1, 3, none⟩ = some (.int .i64 by') := cell_gr hv2 (by go_simp)
  have cv2_4_4 : v2.cell? ⟨W.heap.size + 1 + 1 + 1 + 1, 4, none⟩ = some (.int .i64 cx) := cell_gr hv2 (by go_simp)
  have cv2_4_5 : v2.cell? ⟨W.heap.size + 1 + 1 + 1 + 1, 5, none⟩ = some (.int .i64 cy) := cell_gr hv2 (by go_simp)
  have cv2_4_6 : v2.cell? ⟨W.heap.size + 1 + 1 + 1 + 1, 6, none⟩ = some (.int .i64 dx) := cell_gr hv2 (by go_simp)
  have cv2_4_7 : v2.cell? ⟨W.heap.size + 1 + 1 + 1 + 1, 7, none⟩ = some (.int .i64 dy) := cell_gr hv2 (by go_simp)
  have zv2_4 : W.heap.size + 1 + 1 + 1 + 1 < v2.heap.size := World.block_lt_of_cell? _ _ cv2_4_0
  have gv2 : Gr W v2 := Gr.trans (by have gg := gv1; have gs := gg.size; go_grown) hv2
  clear hv2 gv1 zv1_0 cv1_0_0 cv1_0_1 zv1_1 cv1_1_0 cv1_1_1 zv1_2 cv1_2_0 cv1_2_1 zv1_3 cv1_3_0 cv1_3_1 zv1_4 cv1_4_0 cv1_4_1 cv1_4_2 cv1_4_3 cv1_4_4 cv1_4_5 cv1_4_6 cv1_4_7
  go_wp2_with fail
  go_at_call 22
  refine ((HB3.out _)).mono ?_
  rintro e v3 ⟨rfl, hv3⟩
  have cv3_0_0 : v3.cell? ⟨W.heap.size, 0, none⟩ = some (.int .i64 ax) := cell_gr hv3 (by go_simp)
  have cv3_0_1 : v3.cell? ⟨W.heap.size, 1, none⟩ = some (.int .i64 ay) := cell_gr hv3 (by go_simp)
  have zv3_0 : W.heap.size < v3.heap.size := World.block_lt_of_cell? _ _ cv3_0_0
  have cv3_1_0 : v3.cell? ⟨W.heap.size + 1, 0, none⟩ = some (.int .i64 bx) := cell_gr hv3 (by go_simp)
  have cv3_1_1 : v3.cell? ⟨W.heap.size + 1, 1, none⟩ = some (.int .i64 by') := cell_gr hv3 (by go_simp)
  have zv3_1 : W.heap.size + 1 < v3.heap.size := World.block_lt_of_cell? _ _ cv3_1_0
  have cv3_2_0 : v3.cell? ⟨W.heap.size + 1 + 1, 0, none⟩ = some (.int .i64 cx) := cell_gr hv3 (by go_simp)
  have cv3_2_1 : v3.cell? ⟨W.heap.size + 1 + 1, 1, none⟩ = some (.int .i64 cy) := cell_gr hv3 (by go_simp)
  have zv3_2 : W.heap.size + 1 + 1 < v3.heap.size := World.block_lt_of_cell? _ _ cv3_2_0
  have cv3_3_0 : v3.cell? ⟨W.heap.size + 1 + 1 + 1, 0, none⟩ = some (.int .i64 dx) := cell_gr hv3 (by go_simp)
  have cv3_3_1 : v3.cell? ⟨W.heap.size + 1 + 1 + 1, 1, none⟩ = some (.int .i64 dy) := cell_gr hv3 (by go_simp)
  have zv3_3 : W.heap.size + 1 + 1 + 1 < v3.heap.size := World.block_lt_of_cell? _ _ cv3_3_0
  have cv3_4_0 : v3.cell? ⟨W.heap.size + 1 + 1 + 1 + 1, 0, none⟩ = some (.int .i64 ax) := cell_gr hv3 (by go_simp)
  have cv3_4_1 : v3.cell? ⟨W.heap.size + 1 + 1 + 1 + 1, 1, none⟩ = some (.int .i64 ay) := cell_gr hv3 (by go_simp)
  have cv3_4_2 : v3.cell? ⟨W.heap.size + 1 + 1 + 1 + 1, 2, none⟩ = some (.int .i64 bx) := cell_gr hv3 (by go_simp)
  have cv3_4_3 : v3.cell? ⟨W.heap.size + 1 + 1 + 1 + 1, 3, none⟩ = some (.int .i64 by') := cell_gr hv3 (by go_simp)
  have cv3_4_4 : v3.cell? ⟨W.heap.size + 1 + 1 + 1 + 1, 4, none⟩ = some (.int .i64 cx) := cell_gr hv3 (by go_simp)
  have cv3_4_5 : v3.cell? ⟨W.heap.size + 1 + 1 + 1 + 1, 5, none⟩ = some (.int .i64 cy) := cell_gr hv3 (by go_simp)
  have cv3_4_6 : v3.cell? ⟨W.heap.size + 1 + 1 + 1 + 1, 6, none⟩ = some (.int .i64 dx) := cell_gr hv3 (by go_simp)
  have cv3_4_7 : v3.cell? ⟨W.heap.size + 1 + 1 + 1 + 1, 7, none⟩ = some (.int .i64 dy) := cell_gr hv3 (by go_simp)
  have zv3_4 : W.heap.size + 1 + 1 + 1 + 1 < v3.heap.size := World.block_lt_of_cell? _ _ cv3_4_0
  have gv3 : Gr W v3 := Gr.trans (by have gg := gv2; have gs := gg.size; go_grown) hv3
  clear hv3 gv2 zv2_0 cv2_0_0 cv2_0_1 zv2_1 cv2_1_0 cv2_1_1 zv2_2 cv2_2_0 cv2_2_1 zv2_3 cv2_3_0 cv2_3_1 zv2_4 cv2_4_0 cv2_4_1 cv2_4_2 cv2_4_3 cv2_4_4 cv2_4_5 cv2_4_6 cv2_4_7
  go_wp2_with fail
  go_at_call 22
  refine ((HB4.out _)).mono ?_
  rintro e v4 ⟨rfl, hv4⟩
  have cv4_0_0 : v4.cell? ⟨W.heap.size, 0, none⟩ = some (.int .i64 ax) := cell_gr hv4 (by go_simp)
  have cv4_0_1 : v4.cell? ⟨W.heap.size, 1, none⟩ = some (.int .i64 ay) := cell_gr hv4 (by go_simp)
  have zv4_0 : W.heap.size < v4.heap.size := World.block_lt_of_cell? _ _ cv4_0_0
  have cv4_1_0 : v4.cell? ⟨W.heap.size + 1, 0, none⟩ = some (.int .i64 bx) := cell_gr hv4 (by go_simp)
  have cv4_1_1 : v4.cell? ⟨W.heap.size + 1, 1, none⟩ = some (.int .i64 by') := cell_gr hv4 (by go_simp)
  have zv4_1 : W.heap.size + 1 < v4.heap.size := World.block_lt_of_cell? _ _ cv4_1_0
  have cv4_2_0 : v4.cell? ⟨W.heap.size + 1 + 1, 0, none⟩ = some (.int .i64 cx) := cell_gr hv4 (by go_simp)
  have cv4_2_1 : v4.cell? ⟨W.heap.size + 1 + 1, 1, none⟩ = some (.int .i64 cy) := cell_gr hv4 (by go_simp)
  have zv4_2 : W.heap.size + 1 + 1 < v4.heap.size := World.block_lt_of_cell? _ _ cv4_2_0
  have cv4_3_0 : v4.cell? ⟨W.heap.size + 1 + 1 + 1, 0, none⟩ = some (.int .i64 dx) := cell_gr hv4 (by go_simp)
  have cv4_3_1 : v4.cell? ⟨W.heap.size + 1 + 1 + 1, 1, none⟩ = some (.int .i64 dy) := cell_gr hv4 (by go_simp)
  have zv4_3 : W.heap.size + 1 + 1 + 1 < v4.heap.size := World.block_lt_of_cell? _ _ cv4_3_0
  have cv4_4_0 : v4.cell? ⟨W.heap.size + 1 + 1 + 1 + 1, 0, none⟩ = some (.int .i64 ax) := cell_gr hv4 (by go_simp)
  have cv4_4_1 : v4.cell? ⟨W.heap.size + 1 + 1 + 1 + 1, 1, none⟩ = some (.int .i64 ay) := cell_gr hv4 (by go_simp)
  have cv4_4_2 : v4.cell? ⟨W.heap.size + 1 + 1 + 1 + 1, 2, none⟩ = some (.int .i64 bx) := cell_gr hv4 (by go_simp)
  have cv4_4_3 : v4.cell? ⟨W.heap.size + 1 + 1 + 1 + 1, 3, none⟩ = some (.int .i64 by') := cell_gr hv4 (by go_simp)
  have cv4_4_4 : v4.cell? ⟨W.heap.size + 1 + 1 + 1 + 1, 4, none⟩ = some (.int .i64 cx) := cell_gr hv4 (by go_simp)
  have cv4_4_5 : v4.cell? ⟨W.heap.size + 1 + 1 + 1 + 1, 5, none⟩ = some (.int .i64 cy) := cell_gr hv4 (by go_simp)
  have cv4_4_6 : v4.cell? ⟨W.heap.size + 1 + 1 + 1 + 1, 6, none⟩ = some (.int .i64 dx) := cell_gr hv4 (by go_simp)
  have cv4_4_7 : v4.cell? ⟨W.heap.size + 1 + 1 + 1 + 1, 7, none⟩ = some (.int .i64 dy) := cell_gr hv4 (by go_simp)
  have zv4_4 : W.heap.size + 1 + 1 + 1 + 1 < v4.heap.size := World.block_lt_of_cell? _ _ cv4_4_0
  have gv4 : Gr W v4 := Gr.trans (by have gg := gv3; have gs := gg.size; go_grown) hv4
  clear hv4 gv3 zv3_0 cv3_0_0 cv3_0_1 zv3_1 cv3_1_0 cv3_1_1 zv3_2 cv3_2_0 cv3_2_1 zv3_3 cv3_3_0 cv3_3_1 zv3_4 cv3_4_0 cv3_4_1 cv3_4_2 cv3_4_3 cv3_4_4 cv3_4_5 cv3_4_6 cv3_4_7
  go_wp2_with fail
  refine wp_region_spread (by kernel_rfl) (by kernel_rfl) ?_
  try simp only [List.append]
  repeat (first | go_big_quiet_skip | (go_big_quiet_want; go_big_quiet_op; (first | go_big_quiet_on | (apply Exists.intro; refine ⟨fun _ => ?_, ?_⟩; (· (first | (go_at_call 36; first | ((with_reducible refine ((HO1.out _)).mono ?_); rintro e w' ⟨rfl, hg⟩; exact ⟨rfl, spread_gr hg⟩) | ((with_reducible refine ((HO2.out _)).mono ?_); rintro e w' ⟨rfl, hg⟩; exact ⟨rfl, spread_gr hg⟩) | ((with_reducible refine ((HO3.out _)).mono ?_); rintro e w' ⟨rfl, hg⟩; exact ⟨rfl, spread_gr hg⟩) | ((with_reducible refine ((HO4.out _)).mono ?_); rintro e w' ⟨rfl, hg⟩; exact ⟨rfl, spread_gr hg⟩)))); go_big_quiet_on))))
  refine wpQuiet_nil ?_
  intro x1 hhx1
  have hx1 := Hd.gr_of_spread hhx1
  have cx1_0_0 : x1.cell? ⟨W.heap.size, 0, none⟩ = some (.int .i64 ax) := cell_gr hx1 (by go_simp)
  have cx1_0_1 : x1.cell? ⟨W.heap.size, 1, none⟩ = some (.int .i64 ay) := cell_gr hx1 (by go_simp)
  have zx1_0 : W.heap.size < x1.heap.size := World.block_lt_of_cell? _ _ cx1_0_0
  have cx1_1_0 : x1.cell? ⟨W.heap.size + 1, 0, none⟩ = some (.int .i64 bx) := cell_gr hx1 (by go_simp)
  have cx1_1_1 : x1.cell? ⟨W.heap.size + 1, 1, none⟩ = some (.int .i64 by') := cell_gr hx1 (by go_simp)
  have zx1_1 : W.heap.size + 1 < x1.heap.size := World.block_lt_of_cell? _ _ cx1_1_0
  have cx1_2_0 : x1.cell? ⟨W.heap.size + 1 + 1, 0, none⟩ = some (.int .i64 cx) := cell_gr hx1 (by go_simp)
  have cx1_2_1 : x1.cell? ⟨W.heap.size + 1 + 1, 1, none⟩ = some (.int .i64 cy) := cell_gr hx1 (by go_simp)
  have zx1_2 : W.heap.size + 1 + 1 < x1.heap.size := World.block_lt_of_cell? _ _ cx1_2_0
  have cx1_3_0 : x1.cell? ⟨W.heap.size + 1 + 1 + 1, 0, none⟩ = some (.int .i64 dx) := cell_gr hx1 (by go_simp)
  have cx1_3_1 : x1.cell? ⟨W.heap.size + 1 + 1 + 1, 1, none⟩ = some (.int .i64 dy) := cell_gr hx1 (by go_simp)
  have zx1_3 : W.heap.size + 1 + 1 + 1 < x1.heap.size := World.block_lt_of_cell? _ _ cx1_3_0
  have cx1_4_0 : x1.cell? ⟨W.heap.size + 1 + 1 + 1 + 1, 0, none⟩ = some (.int .i64 ax) := cell_gr hx1 (by go_simp)
  have cx1_4_1 : x1.cell? ⟨W.heap.size + 1 + 1 + 1 + 1, 1, none⟩ = some (.int .i64 ay) := cell_gr hx1 (by go_simp)
  have cx1_4_2 : x1.cell? ⟨W.heap.size + 1 + 1 + 1 + 1, 2, none⟩ = some (.int .i64 bx) := cell_gr hx1 (by go_simp)
  have cx1_4_3 : x1.cell? ⟨W.heap.size + 1 + 1 + 1 + 1, 3, none⟩ = some (.int .i64 by') := cell_gr hx1 (by go_simp)
  have cx1_4_4 : x1.cell? ⟨W.heap.size + 1 + 1 + 1 + 1, 4, none⟩ = some (.int .i64 cx) := cell_gr hx1 (by go_simp)
  have cx1_4_5 : x1.cell? ⟨W.heap.size + 1 + 1 + 1 + 1, 5, none⟩ = some (.int .i64 cy) := cell_gr hx1 (by go_simp)
  have cx1_4_6 : x1.cell? ⟨W.heap.size + 1 + 1 + 1 + 1, 6, none⟩ = some (.int .i64 dx) := cell_gr hx1 (by go_simp)
  have cx1_4_7 : x1.cell? ⟨W.heap.size + 1 + 1 + 1 + 1, 7, none⟩ = some (.int .i64 dy) := cell_gr hx1 (by go_simp)
  have zx1_4 : W.heap.size + 1 + 1 + 1 + 1 < x1.heap.size := World.block_lt_of_cell? _ _ cx1_4_0
  have gx1 : Gr W x1 := Gr.trans (by have gg := gv4; have gs := gg.size; go_grown) hx1
  clear hx1 hhx1 gv4 zv4_0 cv4_0_0 cv4_0_1 zv4_1 cv4_1_0 cv4_1_1 zv4_2 cv4_2_0 cv4_2_1 zv4_3 cv4_3_0 cv4_3_1 zv4_4 cv4_4_0 cv4_4_1 cv4_4_2 cv4_4_3 cv4_4_4 cv4_4_5 cv4_4_6 cv4_4_7
  go_wp2_with fail
  go_at_call 26
  refine ((H6.out _)).mono ?_
  rintro e x2 ⟨rfl, hx2⟩
  have cx2_0_0 : x2.cell? ⟨W.heap.size, 0, none⟩ = some (.int .i64 ax) := cell_gr hx2 (by go_simp)
  have cx2_0_1 : x2.cell? ⟨W.heap.size, 1, none⟩ = some (.int .i64 ay) := cell_gr hx2 (by go_simp)
  have zx2_0 : W.heap.size < x2.heap.size := World.block_lt_of_cell? _ _ cx2_0_0
  have cx2_1_0 : x2.cell? ⟨W.heap.size + 1, 0, none⟩ = some (.int .i64 bx) := cell_gr hx2 (by go_simp)
  have cx2_1_1 : x2.cell? ⟨W.heap.size + 1, 1, none⟩ = some (.int .i64 by') := cell_gr hx2 (by go_simp)
  have zx2_1 : W.heap.size + 1 < x2.heap.size := World.block_lt_of_cell? _ _ cx2_1_0
  have cx2_2_0 : x2.cell? ⟨W.heap.size + 1 + 1, 0, none⟩ = some (.int .i64 cx) := cell_gr hx2 (by go_simp)
  have cx2_2_1 : x2.cell? ⟨W.heap.size + 1 + 1, 1, none⟩ = some (.int .i64 cy) := cell_gr hx2 (by go_simp)
  have zx2_2 : W.heap.size + 1 + 1 < x2.heap.size := World.block_lt_of_cell? _ _ cx2_2_0
  have cx2_3_0 : x2.cell? ⟨W.heap.size + 1 + 1 + 1, 0, none⟩ = some (.int .i64 dx) := cell_gr hx2 (by go_simp)
  have cx2_3_1 : x2.cell? ⟨W.heap.size + 1 + 1 + 1, 1, none⟩ = some (.int .i64 dy) := cell_gr hx2 (by go_simp)
  have zx2_3 : W.heap.size + 1 + 1 + 1 < x2.heap.size := World.block_lt_of_cell? _ _ cx2_3_0
  have cx2_4_0 : x2.cell? ⟨W.heap.size + 1 + 1 + 1 + 1, 0, none⟩ = some (.int .i64 ax) := cell_gr hx2 (by go_simp)
  have cx2_4_1 : x2.cell? ⟨W.heap.size + 1 + 1 + 1 + 1, 1, none⟩ = some (.int .i64 ay) := cell_gr hx2 (by go_simp)
  have cx2_4_2 : x2.cell? ⟨W.heap.size + 1 + 1 + 1 + 1, 2, none⟩ = some (.int .i64 bx) := cell_gr hx2 (by go_simp)
  have cx2_4_3 : x2.cell? ⟨W.heap.size + 1 + 1 + 1 + 1, 3, none⟩ = some (.int .i64 by') := cell_gr hx2 (by go_simp)
  have cx2_4_4 : x2.cell? ⟨W.heap.size + 1 + 1 + 1 + 1, 4, none⟩ = some (.int .i64 cx) := cell_gr hx2 (by go_simp)
  have cx2_4_5 : x2.cell? ⟨W.heap.size + 1 + 1 + 1 + 1, 5, none⟩ = some (.int .i64 cy) := cell_gr hx2 (by go_simp)
  have cx2_4_6 : x2.cell? ⟨W.heap.size + 1 + 1 + 1 + 1, 6, none⟩ = some (.int .i64 dx) := cell_gr hx2 (by go_simp)
  have cx2_4_7 : x2.cell? ⟨W.heap.size + 1 + 1 + 1 + 1, 7, none⟩ = some (.int .i64 dy) := cell_gr hx2 (by go_simp)
  have zx2_4 : W.heap.size + 1 + 1 + 1 + 1 < x2.heap.size := World.block_lt_of_cell? _ _ cx2_4_0
  have gx2 : Gr W x2 := Gr.trans (by have gg := gx1; have gs := gg.size; go_grown) hx2
  clear hx2 gx1 zx1_0 cx1_0_0 cx1_0_1 zx1_1 cx1_1_0 cx1_1_1 zx1_2 cx1_2_0 cx1_2_1 zx1_3 cx1_3_0 cx1_3_1 zx1_4 cx1_4_0 cx1_4_1 cx1_4_2 cx1_4_3 cx1_4_4 cx1_4_5 cx1_4_6 cx1_4_7
  go_wp2_with fail
  go_at_call 24
  refine ((H5.out _)).mono ?_
  rintro e x3 ⟨rfl, hx3⟩
  have cx3_0_0 : x3.cell? ⟨W.heap.size, 0, none⟩ = some (.int .i64 ax) := cell_gr hx3 (by go_simp)
  have cx3_0_1 : x3.cell? ⟨W.heap.size, 1, none⟩ = some (.int .i64 ay) := cell_gr hx3 (by go_simp)
  have zx3_0 : W.heap.size < x3.heap.size := World.block_lt_of_cell? _ _ cx3_0_0
  have cx3_1_0 : x3.cell? ⟨W.heap.size + 1, 0, none⟩ = some (.int .i64 bx) := cell_gr hx3 (by go_simp)
  have cx3_1_1 : x3.cell? ⟨W.heap.size + 1, 1, none⟩ = some (.int .i64 by') := cell_gr hx3 (by go_simp)
  have zx3_1 : W.heap.size + 1 < x3.heap.size := World.block_lt_of_cell? _ _ cx3_1_0
  have cx3_2_0 : x3.cell? ⟨W.heap.size + 1 + 1, 0, none⟩ = some (.int .i64 cx) := cell_gr hx3 (by go_simp)
  have cx3_2_1 : x3.cell? ⟨W.heap.size + 1 + 1, 1, none⟩ = some (.int .i64 cy) := cell_gr hx3 (by go_simp)
  have zx3_2 : W.heap.size + 1 + 1 < x3.heap.size := World.block_lt_of_cell? _ _ cx3_2_0
  have cx3_3_0 : x3.cell? ⟨W.heap.size + 1 + 1 + 1, 0, none⟩ = some (.int .i64 dx) := cell_gr hx3 (by go_simp)
  have cx3_3_1 : x3.cell? ⟨W.heap.size + 1 + 1 + 1, 1, none⟩ = some (.int .i64 dy) := cell_gr hx3 (by go_simp)
  have zx3_3 : W.heap.size + 1 + 1 + 1 < x3.heap.size := World.block_lt_of_cell? _ _ cx3_3_0
  have cx3_4_0 : x3.cell? ⟨W.heap.size + 1 + 1 + 1 + 1, 0, none⟩ = some (.int .i64 ax) := cell_gr hx3 (by go_simp)
  have cx3_4_1 : x3.cell? ⟨W.heap.size + 1 + 1 + 1 + 1, 1, none⟩ = some (.int .i64 ay) := cell_gr hx3 (by go_simp)
  have cx3_4_2 : x3.cell? ⟨W.heap.size + 1 + 1 + 1 + 1, 2, none⟩ = some (.int .i64 bx) := cell_gr hx3 (by go_simp)
  have cx3_4_3 : x3.cell? ⟨W.heap.size + 1 + 1 + 1 + 1, 3, none⟩ = some (.int .i64 by') := cell_gr hx3 (by go_simp)
  have cx3_4_4 : x3.cell? ⟨W.heap.size + 1 + 1 + 1 + 1, 4, none⟩ = some (.int .i64 cx) := cell_gr hx3 (by go_simp)
  have cx3_4_5 : x3.cell? ⟨W.heap.size + 1 + 1 + 1 + 1, 5, none⟩ = some (.int .i64 cy) := cell_gr hx3 (by go_simp)
  have cx3_4_6 : x3.cell? ⟨W.heap.size + 1 + 1 + 1 + 1, 6, none⟩ = some (.int .i64 dx) := cell_gr hx3 (by go_simp)
  have cx3_4_7 : x3.cell? ⟨W.heap.size + 1 + 1 + 1 + 1, 7, none⟩ = some (.int .i64 dy) := cell_gr hx3 (by go_simp)
  have zx3_4 : W.heap.size + 1 + 1 + 1 + 1 < x3.heap.size := World.block_lt_of_cell? _ _ cx3_4_0
  have gx3 : Gr W x3 := Gr.trans (by have gg := gx2; have gs := gg.size; go_grown) hx3
  clear hx3 gx2 zx2_0 cx2_0_0 cx2_0_1 zx2_1 cx2_1_0 cx2_1_1 zx2_2 cx2_2_0 cx2_2_1 zx2_3 cx2_3_0 cx2_3_1 zx2_4 cx2_4_0 cx2_4_1 cx2_4_2 cx2_4_3 cx2_4_4 cx2_4_5 cx2_4_6 cx2_4_7
  go_wp2_with fail
  go_at_call 32
  refine ((s4_awake _)).mono ?_
  rintro e x4 ⟨rfl, hx4⟩
  have cx4_0_0 : x4.cell? ⟨W.heap.size, 0, none⟩ = some (.int .i64 ax) := cell_gr hx4 (by go_simp)
  have cx4_0_1 : x4.cell? ⟨W.heap.size, 1, none⟩ = some (.int .i64 ay) := cell_gr hx4 (by go_simp)
  have zx4_0 : W.heap.size < x4.heap.size := World.block_lt_of_cell? _ _ cx4_0_0
  have cx4_1_0 : x4.cell? ⟨W.heap.size + 1, 0, none⟩ = some (.int .i64 bx) := cell_gr hx4 (by go_simp)
  have cx4_1_1 : x4.cell? ⟨W.heap.size + 1, 1, none⟩ = some (.int .i64 by') := cell_gr hx4 (by go_simp)
  have zx4_1 : W.heap.size + 1 < x4.heap.size := World.block_lt_of_cell? _ _ cx4_1_0
  have cx4_2_0 : x4.cell? ⟨W.heap.size + 1 + 1, 0, none⟩ = some (.int .i64 cx) := cell_gr hx4 (by go_simp)
  have cx4_2_1 : x4.cell? ⟨W.heap.size + 1 + 1, 1, none⟩ = some (.int .i64 cy) := cell_gr hx4 (by go_simp)
  have zx4_2 : W.heap.size + 1 + 1 < x4.heap.size := World.block_lt_of_cell? _ _ cx4_2_0
  have cx4_3_0 : x4.cell? ⟨W.heap.size + 1 + 1 + 1, 0, none⟩ = some (.int .i64 dx) := cell_gr hx4 (by go_simp)
  have cx4_3_1 : x4.cell? ⟨W.heap.size + 1 + 1 + 1, 1, none⟩ = some (.int .i64 dy) := cell_gr hx4 (by go_simp)
  have zx4_3 : W.heap.size + 1 + 1 + 1 < x4.heap.size := World.block_lt_of_cell? _ _ cx4_3_0
  have cx4_4_0 : x4.cell? ⟨W.heap.size + 1 + 1 + 1 + 1, 0, none⟩ = some (.int .i64 ax) := cell_gr hx4 (by go_simp)
  have cx4_4_1 : x4.cell? ⟨W.heap.size + 1 + 1 + 1 + 1, 1, none⟩ = some (.int .i64 ay) := cell_gr hx4 (by go_simp)
  have cx4_4_2 : x4.cell? ⟨W.heap.size + 1 + 1 + 1 + 1, 2, none⟩ = some (.int .i64 bx) := cell_gr hx4 (by go_simp)
  have cx4_4_3 : x4.cell? ⟨W.heap.size + 1 + 1 + 1 + 1, 3, none⟩ = some (.int .i64 by') := cell_gr hx4 (by go_simp)
  have cx4_4_4 : x4.cell? ⟨W.heap.size + 1 + 1 + 1 + 1, 4, none⟩ = some (.int .i64 cx) := cell_gr hx4 (by go_simp)
  have cx4_4_5 : x4.cell? ⟨W.heap.size + 1 + 1 + 1 + 1, 5, none⟩ = some (.int .i64 cy) := cell_gr hx4 (by go_simp)
  have cx4_4_6 : x4.cell? ⟨W.heap.size + 1 + 1 + 1 + 1, 6, none⟩ = some (.int .i64 dx) := cell_gr hx4 (by go_simp)
  have cx4_4_7 : x4.cell? ⟨W.heap.size + 1 + 1 + 1 + 1, 7, none⟩ = some (.int .i64 dy) := cell_gr hx4 (by go_simp)
  have zx4_4 : W.heap.size + 1 + 1 + 1 + 1 < x4.heap.size := World.block_lt_of_cell? _ _ cx4_4_0
  have gx4 : Gr W x4 := Gr.trans (by have gg := gx3; have gs := gg.size; go_grown) hx4
  clear hx4 gx3 zx3_0 cx3_0_0 cx3_0_1 zx3_1 cx3_1_0 cx3_1_1 zx3_2 cx3_2_0 cx3_2_1 zx3_3 cx3_3_0 cx3_3_1 zx3_4 cx3_4_0 cx3_4_1 cx3_4_2 cx3_4_3 cx3_4_4 cx3_4_5 cx3_4_6 cx3_4_7
  go_wp2_with fail
  go_ret
  exact ⟨rfl, by go_grown⟩
set_option maxHeartbeats 4000000 in
set_option maxRecDepth 100000 in
theorem cross_n2e (ax ay bx by' cx cy dx dy k1 k2 k3 k4 p1 p2 : Int) (W : World) (e1 : wrap64 (k1 * k2) = p1) (e2 : IntKind.i64.wrap (k1 * k2) = p1) (e3 : wrap64 (k3 * k4) = p2) (e4 : IntKind.i64.wrap (k3 * k4) = p2)
    (t1 : (p1 == -1) = true) (t2 : (p2 == -1) = false)
    (A1 : ∀ w, Calls Try.prog 14 #[.agg #[.int .i64 ax, .int .i64 ay]] w fun e w' => e = .returned (.bool true) ∧ Gr w w')
    (A2 : ∀ w, Calls Try.prog 14 #[.agg #[.int .i64 bx, .int .i64 by']] w fun e w' => e = .returned (.bool true) ∧ Gr w w')
    (A3 : ∀ w, Calls Try.prog 14 #[.agg #[.int .i64 cx, .int .i64 cy]] w fun e w' => e = .returned (.bool true) ∧ Gr w w')
    (A4 : ∀ w, Calls Try.prog 14 #[.agg #[.int .i64 dx, .int .i64 dy]] w fun e w' => e = .returned (.bool true) ∧ Gr w w')
    (A5 : ∀ w, Calls Try.prog 24 #[.agg #[.int .i64 ax, .int .i64 ay], .agg #[.int .i64 bx, .int .i64 by'], .agg #[.int .i64 cx, .int .i64 cy], .agg #[.int .i64 dx, .int .i64 dy]] w fun e w' => e = .returned (.bool false) ∧ Gr w w')
    (A6 : ∀ w, Calls Try.prog 26 #[.agg #[.int .i64 ax, .int .i64 ay], .agg #[.int .i64 bx, .int .i64 by'], .agg #[.int .i64 cx, .int .i64 cy], .agg #[.int .i64 dx, .int .i64 dy]] w fun e w' => e = .returned (.bool false) ∧ Gr w w')
    (B1 : ∀ w, Calls Try.prog 22 #[.agg #[.int .i64 ax, .int .i64 ay], .agg #[.int .i64 bx, .int .i64 by'], .agg #[.int .i64 cx, .int .i64 cy]] w fun e w' => e = .returned (.bool false) ∧ Gr w w')
    (B2 : ∀ w, Calls Try.prog 22 #[.agg #[.int .i64 ax, .int .i64 ay], .agg #[.int .i64 bx, .int .i64 by'], .agg #[.int .i64 dx, .int .i64 dy]] w fun e w' => e = .returned (.bool false) ∧ Gr w w')
    (B3 : ∀ w, Calls Try.prog 22 #[.agg #[.int .i64 cx, .int .i64 cy], .agg #[.int .i64 dx, .int .i64 dy], .agg #[.int .i64 ax, .int .i64 ay]] w fun e w' => e = .returned (.bool false) ∧ Gr w w')
    (B4 : ∀ w, Calls Try.prog 22 #[.agg #[.int .i64 cx, .int .i64 cy], .agg #[.int .i64 dx, .int .i64 dy], .agg #[.int .i64 bx, .int .i64 by']] w fun e w' => e = .returned (.bool false) ∧ Gr w w')
    (O1 : ∀ w, Calls Try.prog 36 #[.agg #[.int .i64 ax, .int .i64 ay], .agg #[.int .i64 bx, .int .i64 by'], .agg #[.int .i64 cx, .int .i64 cy]] w fun e w' => e = .returned (.int .i64 k1) ∧ Gr w w')
    (O2 : ∀ w, Calls Try.prog 36 #[.agg #[.int .i64 ax, .int .i64 ay], .agg #[.int .i64 bx, .int .i64 by'], .agg #[.int .i64 dx, .int .i64 dy]] w fun e w' => e = .returned (.int .i64 k2) ∧ Gr w w')
    (O3 : ∀ w, Calls Try.prog 36 #[.agg #[.int .i64 cx, .int .i64 cy], .agg #[.int .i64 dx, .int .i64 dy], .agg #[.int .i64 ax, .int .i64 ay]] w fun e w' => e = .returned (.int .i64 k3) ∧ Gr w w')
    (O4 : ∀ w, Calls Try.prog 36 #[.agg #[.int .i64 cx, .int .i64 cy], .agg #[.int .i64 dx, .int .i64 dy], .agg #[.int .i64 bx, .int .i64 by']] w fun e w' => e = .returned (.int .i64 k4) ∧ Gr w w') :
    Calls Try.prog 9 #[.agg #[.int .i64 ax, .int .i64 ay], .agg #[.int .i64 bx, .int .i64 by'], .agg #[.int .i64 cx, .int .i64 cy], .agg #[.int .i64 dx, .int .i64 dy]] W fun e w' => e = .returned (.bool true) ∧ Gr W w' := by
  have H1 := Lib.hid A1
  have H2 := Lib.hid A2
  have H3 := Lib.hid A3
  have H4 := Lib.hid A4
  have H5 := Lib.hid A5
  have H6 := Lib.hid A6
  clear A1 A2 A3 A4 A5 A6
  have HB1 := Lib.hid B1
  have HB2 := Lib.hid B2
  have HB3 := Lib.hid B3
  have HB4 := Lib.hid B4
  have HO1 := Lib.hid O1
  have HO2 := Lib.hid O2
  have HO3 := Lib.hid O3
  have HO4 := Lib.hid O4
  clear B1 B2 B3 B4 O1 O2 O3 O4
  go_enter Try.func9, Try.ntmps9
  go_wp2_with fail
  refine wp_loop_rounds 5 ?_
  rw [rounds_succ]
  go_wp2_with fail
  go_at_call 14
  refine ((H1.out _)).mono ?_
  rintro e w1 ⟨rfl, hw1⟩
  have cw1_0_0 : w1.cell? ⟨W.heap.size, 0, none⟩ = some (.int .i64 ax) := cell_gr hw1 (by go_simp)
  have cw1_0_1 : w1.cell? ⟨W.heap.size, 1, none⟩ = some (.int .i64 ay) := cell_gr hw1 (by go_simp)
  have zw1_0 : W.heap.size < w1.heap.size := World.block_lt_of_cell? _ _ cw1_0_0
  have cw1_1_0 : w1.cell? ⟨W.heap.size + 1, 0, none⟩ = some (.int .i64 bx) := cell_gr hw1 (by go_simp)
  have cw1_1_1 : w1.cell? ⟨W.heap.size + 1, 1, none⟩ = some (.int .i64 by') := cell_gr hw1 (by go_simp)
  have zw1_1 : W.heap.size + 1 < w1.heap.size := World.block_lt_of_cell? _ _ cw1_1_0
  have cw1_2_0 : w1.cell? ⟨W.heap.size + 1 + 1, 0, none⟩ = some (.int .i64 cx) := cell_gr hw1 (by go_simp)
  have cw1_2_1 : w1.cell? ⟨W.heap.size + 1 + 1, 1, none⟩ = some (.int .i64 cy) := cell_gr hw1 (by go_simp)
  have zw1_2 : W.heap.size + 1 + 1 < w1.heap.size := World.block_lt_of_cell? _ _ cw1_2_0
  have cw1_3_0 : w1.cell? ⟨W.heap.size + 1 + 1 + 1, 0, none⟩ = some (.int .i64 dx) := cell_gr hw1 (by go_simp)
  have cw1_3_1 : w1.cell? ⟨W.heap.size + 1 + 1 + 1, 1, none⟩ = some (.int .i64 dy) := cell_gr hw1 (by go_simp)
  have zw1_3 : W.heap.size + 1 + 1 + 1 < w1.heap.size := World.block_lt_of_cell? _ _ cw1_3_0
  have cw1_4_0 : w1.cell? ⟨W.heap.size + 1 + 1 + 1 + 1, 0, none⟩ = some (.int .i64 ax) := cell_gr hw1 (by go_simp)
  have cw1_4_1 : w1.cell? ⟨W.heap.size + 1 + 1 + 1 + 1, 1, none⟩ = some (.int .i64 ay) := cell_gr hw1 (by go_simp)
  have cw1_4_2 : w1.cell? ⟨W.heap.size + 1 + 1 + 1 + 1, 2, none⟩ = some (.int .i64 bx) := cell_gr hw1 (by go_simp)
  have cw1_4_3 : w1.cell? ⟨W.heap.size + 1 + 1 + 1 + 1, 3, none⟩ = some (.int .i64 by') := cell_gr hw1 (by go_simp)
  have cw1_4_4 : w1.cell? ⟨W.heap.size + 1 + 1 + 1 + 1, 4, none⟩ = some (.int .i64 cx) := cell_gr hw1 (by go_simp)
  have cw1_4_5 : w1.cell? ⟨W.heap.size + 1 + 1 + 1 + 1, 5, none⟩ = some (.int .i64 cy) := cell_gr hw1 (by go_simp)
  have cw1_4_6 : w1.cell? ⟨W.heap.size + 1 + 1 + 1 + 1, 6, none⟩ = some (.int .i64 dx) := cell_gr hw1 (by go_simp)
  have cw1_4_7 : w1.cell? ⟨W.heap.size + 1 + 1 + 1 + 1, 7, none⟩ = some (.int .i64 dy) := cell_gr hw1 (by go_simp)
  have zw1_4 : W.heap.size + 1 + 1 + 1 + 1 < w1.heap.size := World.block_lt_of_cell? _ _ cw1_4_0
  have gw1 : Gr W w1 := Gr.trans (by go_grown) hw1
  clear hw1
  go_wp2_with fail
  rw [rounds_succ]
  go_wp2_with fail
  go_at_call 14
  refine ((H2.out _)).mono ?_
  rintro e w2 ⟨rfl, hw2⟩
  have cw2_0_0 : w2.cell? ⟨W.heap.size, 0, none⟩ = some (.int .i64 ax) := cell_gr hw2 (by go_simp)
  have cw2_0_1 : w2.cell? ⟨W.heap.size, 1, none⟩ = some (.int .i64 ay) := cell_gr hw2 (by go_simp)
  have zw2_0 : W.heap.size < w2.heap.size := World.block_lt_of_cell? _ _ cw2_0_0
  have cw2_1_0 : w2.cell? ⟨W.heap.size + 1, 0, none⟩ = some (.int .i64 bx) := cell_gr hw2 (by go_simp)
  have cw2_1_1 : w2.cell? ⟨W.heap.size + 1, 1, none⟩ = some (.int .i64 by') := cell_gr hw2 (by go_simp)
  have zw2_1 : W.heap.size + 1 < w2.heap.size := World.block_lt_of_cell? _ _ cw2_1_0
  have cw2_2_0 : w2.cell? ⟨W.heap.size + 1 + 1, 0, none⟩ = some (.int .i64 cx) := cell_gr hw2 (by go_simp)
  have cw2_2_1 : w2.cell? ⟨W.heap.size + 1 + 1, 1, none⟩ = some (.int .i64 cy) := cell_gr hw2 (by go_simp)
  have zw2_2 : W.heap.size + 1 + 1 < w2.heap.size := World.block_lt_of_cell? _ _ cw2_2_0
  have cw2_3_0 : w2.cell? ⟨W.heap.size + 1 + 1 + 1, 0, none⟩ = some (.int .i64 dx) := cell_gr hw2 (by go_simp)
  have cw2_3_1 : w2.cell? ⟨W.heap.size + 1 + 1 + 1, 1, none⟩ = some (.int .i64 dy) := cell_gr hw2 (by go_simp)
  have zw2_3 : W.heap.size + 1 + 1 + 1 < w2.heap.size := World.block_lt_of_cell? _ _ cw2_3_0
  have cw2_4_0 : w2.cell? ⟨W.heap.size + 1 + 1 + 1 + 1, 0, none⟩ = some (.int .i64 ax) := cell_gr hw2 (by go_simp)
  have cw2_4_1 : w2.cell? ⟨W.heap.size + 1 + 1 + 1 + 1, 1, none⟩ = some (.int .i64 ay) := cell_gr hw2 (by go_simp)
  have cw2_4_2 : w2.cell? ⟨W.heap.size + 1 + 1 + 1 + 1, 2, none⟩ = some (.int .i64 bx) := cell_gr hw2 (by go_simp)
  have cw2_4_3 : w2.cell? ⟨W.heap.size + 1 + 1 + 1 + 1, 3, none⟩ = some (.int .i64 by') := cell_gr hw2 (by go_simp)
  have cw2_4_4 : w2.cell? ⟨W.heap.size + 1 + 1 + 1 + 1, 4, none⟩ = some (.int .i64 cx) := cell_gr hw2 (by go_simp)
  have cw2_4_5 : w2.cell? ⟨W.heap.size + 1 + 1 + 1 + 1, 5, none⟩ = some (.int .i64 cy) := cell_gr hw2 (by go_simp)
  have cw2_4_6 : w2.cell? ⟨W.heap.size + 1 + 1 + 1 + 1, 6, none⟩ = some (.int .i64 dx) := cell_gr hw2 (by go_simp)
  have cw2_4_7 : w2.cell? ⟨W.heap.size + 1 + 1 + 1 + 1, 7, none⟩ = some (.int .i64 dy) := cell_gr hw2 (by go_simp)
  have zw2_4 : W.heap.size + 1 + 1 + 1 + 1 < w2.heap.size := World.block_lt_of_cell? _ _ cw2_4_0
  have gw2 : Gr W w2 := Gr.trans (by have gg := gw1; have gs := gg.size; go_grown) hw2
  clear hw2 gw1 zw1_0 cw1_0_0 cw1_0_1 zw1_1 cw1_1_0 cw1_1_1 zw1_2 cw1_2_0 cw1_2_1 zw1_3 cw1_3_0 cw1_3_1 zw1_4 cw1_4_0 cw1_4_1 cw1_4_2 cw1_4_3 cw1_4_4 cw1_4_5 cw1_4_6 cw1_4_7
  go_wp2_with fail
  rw [rounds_succ]
  go_wp2_with fail
  go_at_call 14
  refine ((H3.out _)).mono ?_
  rintro e w3 ⟨rfl, hw3⟩
  have cw3_0_0 : w3.cell? ⟨W.heap.size, 0, none⟩ = some (.int .i64 ax) := cell_gr hw3 (by go_simp)
  have cw3_0_1 : w3.cell? ⟨W.heap.size, 1, none⟩ = some (.int .i64 ay) := cell_gr hw3 (by go_simp)
  have zw3_0 : W.heap.size < w3.heap.size := World.block_lt_of_cell? _ _ cw3_0_0
  have cw3_1_0 : w3.cell? ⟨W.heap.size + 1, 0, none⟩ = some (.int .i64 bx) := cell_gr hw3 (by go_simp)
  have cw3_1_1 : w3.cell? ⟨W.heap.size + 1, 1, none⟩ = some (.int .i64 by') := cell_gr hw3 (by go_simp)
  have zw3_1 : W.heap.size + 1 < w3.heap.size := World.block_lt_of_cell? _ _ cw3_1_0
  have cw3_2_0 : w3.cell? ⟨W.heap.size + 1 + 1, 0, none⟩ = some (.int .i64 cx) := cell_gr hw3 (by go_simp)
  have cw3_2_1 : w3.cell? ⟨W.heap.size + 1 + 1, 1, none⟩ = some (.int .i64 cy) := cell_gr hw3 (by go_simp)
  have zw3_2 : W.heap.size + 1 + 1 < w3.heap.size := World.block_lt_of_cell? _ _ cw3_2_0
  have cw3_3_0 : w3.cell? ⟨W.heap.size + 1 + 1 + 1, 0, none⟩ = some (.int .i64 dx) := cell_gr hw3 (by go_simp)
  have cw3_3_1 : w3.cell? ⟨W.heap.size + 1 + 1 + 1, 1, none⟩ = some (.int .i64 dy) := cell_gr hw3 (by go_simp)
  have zw3_3 : W.heap.size + 1 + 1 + 1 < w3.heap.size := World.block_lt_of_cell? _ _ cw3_3_0
  have cw3_4_0 : w3.cell? ⟨W.heap.size + 1 + 1 + 1 + 1, 0, none⟩ = some (.int .i64 ax) := cell_gr hw3 (by go_simp)
  have cw3_4_1 : w3.cell? ⟨W.heap.size + 1 + 1 + 1 + 1, 1, none⟩ = some (.int .i64 ay) := cell_gr hw3 (by go_simp)
  have cw3_4_2 : w3.cell? ⟨W.heap.size + 1 + 1 + 1 + 1, 2, none⟩ = some (.int .i64 bx) := cell_gr hw3 (by go_simp)
  have cw3_4_3 : w3.cell? ⟨W.heap.size + 1 + 1 + 1 + 1, 3, none⟩ = some (.int .i64 by') := cell_gr hw3 (by go_simp)
  have cw3_4_4 : w3.cell? ⟨W.heap.size + 1 + 1 + 1 + 1, 4, none⟩ = some (.int .i64 cx) := cell_gr hw3 (by go_simp)
  have cw3_4_5 : w3.cell? ⟨W.heap.size + 1 + 1 + 1 + 1, 5, none⟩ = some (.int .i64 cy) := cell_gr hw3 (by go_simp)
  have cw3_4_6 : w3.cell? ⟨W.heap.size + 1 + 1 + 1 + 1, 6, none⟩ = some (.int .i64 dx) := cell_gr hw3 (by go_simp)
  have cw3_4_7 : w3.cell? ⟨W.heap.size + 1 + 1 + 1 + 1, 7, none⟩ = some (.int .i64 dy) := cell_gr hw3 (by go_simp)
  have zw3_4 : W.heap.size + 1 + 1 + 1 + 1 < w3.heap.size := World.block_lt_of_cell? _ _ cw3_4_0
  have gw3 : Gr W w3 := Gr.trans (by have gg := gw2; have gs := gg.size; go_grown) hw3
  clear hw3 gw2 zw2_0 cw2_0_0 cw2_0_1 zw2_1 cw2_1_0 cw2_1_1 zw2_2 cw2_2_0 cw2_2_1 zw2_3 cw2_3_0 cw2_3_1 zw2_4 cw2_4_0 cw2_4_1 cw2_4_2 cw2_4_3 cw2_4_4 cw2_4_5 cw2_4_6 cw2_4_7
  go_wp2_with fail
  rw [rounds_succ]
  go_wp2_with fail
  go_at_call 14
  refine ((H4.out _)).mono ?_
  rintro e w4 ⟨rfl, hw4⟩
  have cw4_0_0 : w4.cell? ⟨W.heap.size, 0, none⟩ = some (.int .i64 ax) := cell_gr hw4 (by go_simp)
  have cw4_0_1 : w4.cell? ⟨W.heap.size, 1, none⟩ = some (.int .i64 ay) := cell_gr hw4 (by go_simp)
  have zw4_0 : W.heap.size < w4.heap.size := World.block_lt_of_cell? _ _ cw4_0_0
  have cw4_1_0 : w4.cell? ⟨W.heap.size + 1, 0, none⟩ = some (.int .i64 bx) := cell_gr hw4 (by go_simp)
  have cw4_1_1 : w4.cell? ⟨W.heap.size + 1, 1, none⟩ = some (.int .i64 by') := cell_gr hw4 (by go_simp)
  have zw4_1 : W.heap.size + 1 < w4.heap.size := World.block_lt_of_cell? _ _ cw4_1_0
  have cw4_2_0 : w4.cell? ⟨W.heap.size + 1 + 1, 0, none⟩ = some (.int .i64 cx) := cell_gr hw4 (by go_simp)
  have cw4_2_1 : w4.cell? ⟨W.heap.size + 1 + 1, 1, none⟩ = some (.int .i64 cy) := cell_gr hw4 (by go_simp)
  have zw4_2 : W.heap.size + 1 + 1 < w4.heap.size := World.block_lt_of_cell? _ _ cw4_2_0
  have cw4_3_0 : w4.cell? ⟨W.heap.size + 1 + 1 + 1, 0, none⟩ = some (.int .i64 dx) := cell_gr hw4 (by go_simp)
  have cw4_3_1 : w4.cell? ⟨W.heap.size + 1 + 1 + 1, 1, none⟩ = some (.int .i64 dy) := cell_gr hw4 (by go_simp)
  have zw4_3 : W.heap.size + 1 + 1 + 1 < w4.heap.size := World.block_lt_of_cell? _ _ cw4_3_0
  have cw4_4_0 : w4.cell? ⟨W.heap.size + 1 + 1 + 1 + 1, 0, none⟩ = some (.int .i64 ax) := cell_gr hw4 (by go_simp)
  have cw4_4_1 : w4.cell? ⟨W.heap.size + 1 + 1 + 1 + 1, 1, none⟩ = some (.int .i64 ay) := cell_gr hw4 (by go_simp)
  have cw4_4_2 : w4.cell? ⟨W.heap.size + 1 + 1 + 1 + 1, 2, none⟩ = some (.int .i64 bx) := cell_gr hw4 (by go_simp)
  have cw4_4_3 : w4.cell? ⟨W.heap.size + 1 + 1 + 1 + 1, 3, none⟩ = some (.int .i64 by') := cell_gr hw4 (by go_simp)
  have cw4_4_4 : w4.cell? ⟨W.heap.size + 1 + 1 + 1 + 1, 4, none⟩ = some (.int .i64 cx) := cell_gr hw4 (by go_simp)
  have cw4_4_5 : w4.cell? ⟨W.heap.size + 1 + 1 + 1 + 1, 5, none⟩ = some (.int .i64 cy) := cell_gr hw4 (by go_simp)
  have cw4_4_6 : w4.cell? ⟨W.heap.size + 1 + 1 + 1 + 1, 6, none⟩ = some (.int .i64 dx) := cell_gr hw4 (by go_simp)
  have cw4_4_7 : w4.cell? ⟨W.heap.size + 1 + 1 + 1 + 1, 7, none⟩ = some (.int .i64 dy) := cell_gr hw4 (by go_simp)
  have zw4_4 : W.heap.size + 1 + 1 + 1 + 1 < w4.heap.size := World.block_lt_of_cell? _ _ cw4_4_0
  have gw4 : Gr W w4 := Gr.trans (by have gg := gw3; have gs := gg.size; go_grown) hw4
  clear hw4 gw3 zw3_0 cw3_0_0 cw3_0_1 zw3_1 cw3_1_0 cw3_1_1 zw3_2 cw3_2_0 cw3_2_1 zw3_3 cw3_3_0 cw3_3_1 zw3_4 cw3_4_0 cw3_4_1 cw3_4_2 cw3_4_3 cw3_4_4 cw3_4_5 cw3_4_6 cw3_4_7
  go_wp2_with fail
  rw [rounds_succ]
  go_wp2_with fail
  go_at_call 22
  refine ((HB1.out _)).mono ?_
  rintro e v1 ⟨rfl, hv1⟩
  have cv1_0_0 : v1.cell? ⟨W.heap.size, 0, none⟩ = some (.int .i64 ax) := cell_gr hv1 (by go_simp)
  have cv1_0_1 : v1.cell? ⟨W.heap.size, 1, none⟩ = some (.int .i64 ay) := cell_gr hv1 (by go_simp)
  have zv1_0 : W.heap.size < v1.heap.size := World.block_lt_of_cell? _ _ cv1_0_0
  have cv1_1_0 : v1.cell? ⟨W.heap.size + 1, 0, none⟩ = some (.int .i64 bx) := cell_gr hv1 (by go_simp)
  have cv1_1_1 : v1.cell? ⟨W.heap.size + 1, 1, none⟩ = some (.int .i64 by') := cell_gr hv1 (by go_simp)
  have zv1_1 : W.heap.size + 1 < v1.heap.size := World.block_lt_of_cell? _ _ cv1_1_0
  have cv1_2_0 : v1.cell? ⟨W.heap.size + 1 + 1, 0, none⟩ = some (.int .i64 cx) := cell_gr hv1 (by go_simp)
  have cv1_2_1 : v1.cell? ⟨W.heap.size + 1 + 1, 1, none⟩ = some (.int .i64 cy) := cell_gr hv1 (by go_simp)
  have zv1_2 : W.heap.size + 1 + 1 < v1.heap.size := World.block_lt_of_cell? _ _ cv1_2_0
  have cv1_3_0 : v1.cell? ⟨W.heap.size + 1 + 1 + 1, 0, none⟩ = some (.int .i64 dx) := cell_gr hv1 (by go_simp)
  have cv1_3_1 : v1.cell? ⟨W.heap.size + 1 + 1 + 1, 1, none⟩ = some (.int .i64 dy) := cell_gr hv1 (by go_simp)
  have zv1_3 : W.heap.size + 1 + 1 + 1 < v1.heap.size := World.block_lt_of_cell? _ _ cv1_3_0
  have cv1_4_0 : v1.cell? ⟨W.heap.size + 1 + 1 + 1 + 1, 0, none⟩ = some (.int .i64 ax) := cell_gr hv1 (by go_simp)
  have cv1_4_1 : v1.cell? ⟨W.heap.size + 1 + 1 + 1 + 1, 1, none⟩ = some (.int .i64 ay) := cell_gr hv1 (by go_simp)
  have cv1_4_2 : v1.cell? ⟨W.heap.size + 1 + 1 + 1 + 1, 2, none⟩ = some (.int .i64 bx) := cell_gr hv1 (by go_simp)
  have cv1_4_3 : v1.cell? ⟨W.heap.size + 1 + 1 + 1 + 1, 3, none⟩ = some (.int .i64 by') := cell_gr hv1 (by go_simp)
  have cv1_4_4 : v1.cell? ⟨W.heap.size + 1 + 1 + 1 + 1, 4, none⟩ = some (.int .i64 cx) := cell_gr hv1 (by go_simp)
  have cv1_4_5 : v1.cell? ⟨W.heap.size + 1 + 1 + 1 + 1, 5, none⟩ = some (.int .i64 cy) := cell_gr hv1 (by go_simp)
  have cv1_4_6 : v1.cell? ⟨W.heap.size + 1 + 1 + 1 + 1, 6, none⟩ = some (.int .i64 dx) := cell_gr hv1 (by go_simp)
  have cv1_4_7 : v1.cell? ⟨W.heap.size + 1 + 1 + 1 + 1, 7, none⟩ = some (.int .i64 dy) := cell_gr hv1 (by go_simp)
  have zv1_4 : W.heap.size + 1 + 1 + 1 + 1 < v1.heap.size := World.block_lt_of_cell? _ _ cv1_4_0
  have gv1 : Gr W v1 := Gr.trans (by have gg := gw4; have gs := gg.size; go_grown) hv1
  clear hv1 gw4 zw4_0 cw4_0_0 cw4_0_1 zw4_1 cw4_1_0 cw4_1_1 zw4_2 cw4_2_0 cw4_2_1 zw4_3 cw4_3_0 cw4_3_1 zw4_4 cw4_4_0 cw4_4_1 cw4_4_2 cw4_4_3 cw4_4_4 cw4_4_5 cw4_4_6 cw4_4_7
  go_wp2_with fail
  go_at_call 22
  refine ((HB2.out _)).mono ?_
  rintro e v2 ⟨rfl, hv2⟩
  have cv2_0_0 : v2.cell? ⟨W.heap.size, 0, none⟩ = some (.int .i64 ax) := cell_gr hv2 (by go_simp)
  have cv2_0_1 : v2.cell? ⟨W.heap.size, 1, none⟩ = some (.int .i64 ay) := cell_gr hv2 (by go_simp)
  have zv2_0 : W.heap.size < v2.heap.size := World.block_lt_of_cell? _ _ cv2_0_0
  have cv2_1_0 : v2.cell? ⟨W.heap.size + 1, 0, none⟩ = some (.int .i64 bx) := cell_gr hv2 (by go_simp)
  have cv2_1_1 : v2.cell? ⟨W.heap.size + 1, 1, none⟩ = some (.int .i64 by') := cell_gr hv2 (by go_simp)
  have zv2_1 : W.heap.size + 1 < v2.heap.size := World.block_lt_of_cell? _ _ cv2_1_0
  have cv2_2_0 : v2.cell? ⟨W.heap.size + 1 + 1, 0, none⟩ = some (.int .i64 cx) := cell_gr hv2 (by go_simp)
  have cv2_2_1 : v2.cell? ⟨W.heap.size + 1 + 1, 1, none⟩ = some (.int .i64 cy) := cell_gr hv2 (by go_simp)
  have zv2_2 : W.heap.size + 1 + 1 < v2.heap.size := World.block_lt_of_cell? _ _ cv2_2_0
  have cv2_3_0 : v2.cell? ⟨W.heap.size + 1 + 1 + 1, 0, none⟩ = some (.int .i64 dx) := cell_gr hv2 (by go_simp)
  have cv2_3_1 : v2.cell? ⟨W.heap.size + 1 + 1 + 1, 1, none⟩ = some (.int .i64 dy) := cell_gr hv2 (by go_simp)
  have zv2_3 : W.heap.size + 1 + 1 + 1 < v2.heap.size := World.block_lt_of_cell? _ _ cv2_3_0
  have cv2_4_0 : v2.cell? ⟨W.heap.size + 1 + 1 + 1 + 1, 0, none⟩ = some (.int .i64 ax) := cell_gr hv2 (by go_simp)
  have cv2_4_1 : v2.cell? ⟨W.heap.size + 1 + 1 + 1 + 1, 1, none⟩ = some (.int .i64 ay) := cell_gr hv2 (by go_simp)
  have cv2_4_2 : v2.cell? ⟨W.heap.size + 1 + 1 + 1 + 1, 2, none⟩ = some (.int .i64 bx) := cell_gr hv2 (by go_simp)
  have cv2_4_3 : v2.cell? ⟨W.heap.size + 1 + 1 + 1 + 1, 3, none⟩ = some (.int .i64 by') := cell_gr hv2 (by go_simp)
  have cv2_4_4 : v2.cell? ⟨W.heap.size + 1 + 1 + 1 + 1, 4, none⟩ = some (.int .i64 cx) := cell_gr hv2 (by go_simp)
  have cv2_4_5 : v2.cell? ⟨W.heap.size + 1 + 1 + 1 + 1, 5, none⟩ = some (.int .i64 cy) := cell_gr hv2 (by go_simp)
  have cv2_4_6 : v2.cell? ⟨W.heap.size + 1 + 1 + 1 + 1, 6, none⟩ = some (.int .i64 dx) := cell_gr hv2 (by go_simp)
  have cv2_4_7 : v2.cell? ⟨W.heap.size + 1 + 1 + 1 + 1, 7, none⟩ = some (.int .i64 dy) := cell_gr hv2 (by go_simp)
  have zv2_4 : W.heap.size + 1 + 1 + 1 + 1 < v2.heap.size := World.block_lt_of_cell? _ _ cv2_4_0
  have gv2 : Gr W v2 := Gr.trans (by have gg := gv1; have gs := gg.size; go_grown) hv2
  clear hv2 gv1 zv1_0 cv1_0_0 cv1_0_1 zv1_1 cv1_1_0 cv1_1_1 zv1_2 cv1_2_0 cv1_2_1 zv1_3 cv1_3_0 cv1_3_1 zv1_4 cv1_4_0 cv1_4_1 cv1_4_2 cv1_4_3 cv1_4_4 cv1_4_5 cv1_4_6 cv1_4_7
  go_wp2_with fail
  go_at_call 22
  refine ((HB3.out _)).mono ?_
  rintro e v3 ⟨rfl, hv3⟩
  have cv3_0_0 : v3.cell? ⟨W.heap.size, 0, none⟩ = some (.int .i64 ax) := cell_gr hv3 (by go_simp)
  have cv3_0_1 : v3.cell? ⟨W.heap.size, 1, none⟩ = some (.int .i64 ay) := cell_gr hv3 (by go_simp)
  have zv3_0 : W.heap.size < v3.heap.size := World.block_lt_of_cell? _ _ cv3_0_0
  have cv3_1_0 : v3.cell? ⟨W.heap.size + 1, 0, none⟩ = some (.int .i64 bx) := cell_gr hv3 (by go_simp)
  have cv3_1_1 : v3.cell? ⟨W.heap.size + 1, 1, none⟩ = some (.int .i64 by') := cell_gr hv3 (by go_simp)
  have zv3_1 : W.heap.size + 1 < v3.heap.size := World.block_lt_of_cell? _ _ cv3_1_0
  have cv3_2_0 : v3.cell? ⟨W.heap.size + 1 + 1, 0, none⟩ = some (.int .i64 cx) := cell_gr hv3 (by go_simp)
  have cv3_2_1 : v3.cell? ⟨W.heap.size + 1 + 1, 1, none⟩ = some (.int .i64 cy) := cell_gr hv3 (by go_simp)
  have zv3_2 : W.heap.size + 1 + 1 < v3.heap.size := World.block_lt_of_cell? _ _ cv3_2_0
  have cv3_3_0 : v3.cell? ⟨W.heap.size + 1 + 1 + 1, 0, none⟩ = some (.int .i64 dx) := cell_gr hv3 (by go_simp)
  have cv3_3_1 : v3.cell? ⟨W.heap.size + 1 + 1 + 1, 1, none⟩ = some (.int .i64 dy) := cell_gr hv3 (by go_simp)
  have zv3_3 : W.heap.size + 1 + 1 + 1 < v3.heap.size := World.block_lt_of_cell? _ _ cv3_3_0
  have cv3_4_0 : v3.cell? ⟨W.heap.size + 1 + 1 + 1 + 1, 0, none⟩ = some (.int .i64 ax) := cell_gr hv3 (by go_simp)
  have cv3_4_1 : v3.cell? ⟨W.heap.size + 1 + 1 + 1 + 1, 1, none⟩ = some (.int .i64 ay) := cell_gr hv3 (by go_simp)
  have cv3_4_2 : v3.cell? ⟨W.heap.size + 1 + 1 + 1 + 1, 2, none⟩ = some (.int .i64 bx) := cell_gr hv3 (by go_simp)
  have cv3_4_3 : v3.cell? ⟨W.heap.size + 1 + 1 + 1 + 1, 3, none⟩ = some (.int .i64 by') := cell_gr hv3 (by go_simp)
  have cv3_4_4 : v3.cell? ⟨W.heap.size + 1 + 1 + 1 + 1, 4, none⟩ = some (.int .i64 cx) := cell_gr hv3 (by go_simp)
  have cv3_4_5 : v3.cell? ⟨W.heap.size + 1 + 1 + 1 + 1, 5, none⟩ = some (.int .i64 cy) := cell_gr hv3 (by go_simp)
  have cv3_4_6 : v3.cell? ⟨W.heap.size + 1 + 1 + 1 + 1, 6, none⟩ = some (.int .i64 dx) := cell_gr hv3 (by go_simp)
  have cv3_4_7 : v3.cell? ⟨W.heap.size + 1 + 1 + 1 + 1, 7, none⟩ = some (.int .i64 dy) := cell_gr hv3 (by go_simp)
  have zv3_4 : W.heap.size + 1 + 1 + 1 + 1 < v3.heap.size := World.block_lt_of_cell? _ _ cv3_4_0
  have gv3 : Gr W v3 := Gr.trans (by have gg := gv2; have gs := gg.size; go_grown) hv3
  clear hv3 gv2 zv2_0 cv2_0_0 cv2_0_1 zv2_1 cv2_1_0 cv2_1_1 zv2_2 cv2_2_0 cv2_2_1 zv2_3 cv2_3_0 cv2_3_1 zv2_4 cv2_4_0 cv2_4_1 cv2_4_2 cv2_4_3 cv2_4_4 cv2_4_5 cv2_4_6 cv2_4_7
  go_wp2_with fail
  go_at_call 22
  refine ((HB4.out _)).mono ?_
  rintro e v4 ⟨rfl, hv4⟩
  have cv4_0_0 : v4.cell? ⟨W.heap.size, 0, none⟩ = some (.int .i64 ax) := cell_gr hv4 (by go_simp)
  have cv4_0_1 : v4.cell? ⟨W.heap.size, 1, none⟩ = some (.int .i64 ay) := cell_gr hv4 (by go_simp)
  have zv4_0 : W.heap.size < v4.heap.size := World.block_lt_of_cell? _ _ cv4_0_0
  have cv4_1_0 : v4.cell? ⟨W.heap.size + 1, 0, none⟩ = some (.int .i64 bx) := cell_gr hv4 (by go_simp)
  have cv4_1_1 : v4.cell? ⟨W.heap.size + 1, 1, none⟩ = some (.int .i64 by') := cell_gr hv4 (by go_simp)
  have zv4_1 : W.heap.size + 1 < v4.heap.size := World.block_lt_of_cell? _ _ cv4_1_0
  have cv4_2_0 : v4.cell? ⟨W.heap.size + 1 + 1, 0, none⟩ = some (.int .i64 cx) := cell_gr hv4 (by go_simp)
  have cv4_2_1 : v4.cell? ⟨W.heap.size + 1 + 1, 1, none⟩ = some (.int .i64 cy) := cell_gr hv4 (by go_simp)
  have zv4_2 : W.heap.size + 1 + 1 < v4.heap.size := World.block_lt_of_cell? _ _ cv4_2_0
  have cv4_3_0 : v4.cell? ⟨W.heap.size + 1 + 1 + 1, 0, none⟩ = some (.int .i64 dx) := cell_gr hv4 (by go_simp)
  have cv4_3_1 : v4.cell? ⟨W.heap.size + 1 + 1 + 1, 1, none⟩ = some (.int .i64 dy) := cell_gr hv4 (by go_simp)
  have zv4_3 : W.heap.size + 1 + 1 + 1 < v4.heap.size := World.block_lt_of_cell? _ _ cv4_3_0
  have cv4_4_0 : v4.cell? ⟨W.heap.size + 1 + 1 + 1 + 1, 0, none⟩ = some (.int .i64 ax) := cell_gr hv4 (by go_simp)
  have cv4_4_1 : v4.cell? ⟨W.heap.size + 1 + 1 + 1 + 1, 1, none⟩ = some (.int .i64 ay) := cell_gr hv4 (by go_simp)
  have cv4_4_2 : v4.cell? ⟨W.heap.size + 1 + 1 + 1 + 1, 2, none⟩ = some (.int .i64 bx) := cell_gr hv4 (by go_simp)
  have cv4_4_3 : v4.cell? ⟨W.heap.size + 1 + 1 + 1 + 1, 3, none⟩ = some (.int .i64 by') := cell_gr hv4 (by go_simp)
  have cv4_4_4 : v4.cell? ⟨W.heap.size + 1 + 1 + 1 + 1, 4, none⟩ = some (.int .i64 cx) := cell_gr hv4 (by go_simp)
  have cv4_4_5 : v4.cell? ⟨W.heap.size + 1 + 1 + 1 + 1, 5, none⟩ = some (.int .i64 cy) := cell_gr hv4 (by go_simp)
  have cv4_4_6 : v4.cell? ⟨W.heap.size + 1 + 1 + 1 + 1, 6, none⟩ = some (.int .i64 dx) := cell_gr hv4 (by go_simp)
  have cv4_4_7 : v4.cell? ⟨W.heap.size + 1 + 1 + 1 + 1, 7, none⟩ = some (.int .i64 dy) := cell_gr hv4 (by go_simp)
  have zv4_4 : W.heap.size + 1 + 1 + 1 + 1 < v4.heap.size := World.block_lt_of_cell? _ _ cv4_4_0
  have gv4 : Gr W v4 := Gr.trans (by have gg := gv3; have gs := gg.size; go_grown) hv4
  clear hv4 gv3 zv3_0 cv3_0_0 cv3_0_1 zv3_1 cv3_1_0 cv3_1_1 zv3_2 cv3_2_0 cv3_2_1 zv3_3 cv3_3_0 cv3_3_1 zv3_4 cv3_4_0 cv3_4_1 cv3_4_2 cv3_4_3 cv3_4_4 cv3_4_5 cv3_4_6 cv3_4_7
  go_wp2_with fail
  refine wp_region_spread (by kernel_rfl) (by kernel_rfl) ?_
  try simp only [List.append]
  repeat (first | go_big_quiet_skip | (go_big_quiet_want; go_big_quiet_op; (first | go_big_quiet_on | (apply Exists.intro; refine ⟨fun _ => ?_, ?_⟩; (· (first | (go_at_call 36; first | ((with_reducible refine ((HO1.out _)).mono ?_); rintro e w' ⟨rfl, hg⟩; exact ⟨rfl, spread_gr hg⟩) | ((with_reducible refine ((HO2.out _)).mono ?_); rintro e w' ⟨rfl, hg⟩; exact ⟨rfl, spread_gr hg⟩) | ((with_reducible refine ((HO3.out _)).mono ?_); rintro e w' ⟨rfl, hg⟩; exact ⟨rfl, spread_gr hg⟩) | ((with_reducible refine ((HO4.out _)).mono ?_); rintro e w' ⟨rfl, hg⟩; exact ⟨rfl, spread_gr hg⟩)))); go_big_quiet_on))))
  refine wpQuiet_nil ?_
  intro x1 hhx1
  have hx1 := Hd.gr_of_spread hhx1
  have cx1_0_0 : x1.cell? ⟨W.heap.size, 0, none⟩ = some (.int .i64 ax) := cell_gr hx1 (by go_simp)
  have cx1_0_1 : x1.cell? ⟨W.heap.size, 1, none⟩ = some (.int .i64 ay) := cell_gr hx1 (by go_simp)
  have zx1_0 : W.heap.size < x1.heap.size := World.block_lt_of_cell? _ _ cx1_0_0
  have cx1_1_0 : x1.cell? ⟨W.heap.size + 1, 0, none⟩ = some (.int .i64 bx) := cell_gr hx1 (by go_simp)
  have cx1_1_1 : x1.cell? ⟨W.heap.size + 1, 1, none⟩ = some (.int .i64 by') := cell_gr hx1 (by go_simp)
  have zx1_1 : W.heap.size + 1 < x1.heap.size := World.block_lt_of_cell? _ _ cx1_1_0
  have cx1_2_0 : x1.cell? ⟨W.heap.size + 1 + 1, 0, none⟩ = some (.int .i64 cx) := cell_gr hx1 (by go_simp)
  have cx1_2_1 : x1.cell? ⟨W.heap.size + 1 + 1, 1, none⟩ = some (.int .i64 cy) := cell_gr hx1 (by go_simp)
  have zx1_2 : W.heap.size + 1 + 1 < x1.heap.size := World.block_lt_of_cell? _ _ cx1_2_0
  have cx1_3_0 : x1.cell? ⟨W.heap.size + 1 + 1 + 1, 0, none⟩ = some (.int .i64 dx) := cell_gr hx1 (by go_simp)
  have cx1_3_1 : x1.cell? ⟨W.heap.size + 1 + 1 + 1, 1, none⟩ = some (.int .i64 dy) := cell_gr hx1 (by go_simp)
  have zx1_3 : W.heap.size + 1 + 1 + 1 < x1.heap.size := World.block_lt_of_cell? _ _ cx1_3_0
  have cx1_4_0 : x1.cell? ⟨W.heap.size + 1 + 1 + 1 + 1, 0, none⟩ = some (.int .i64 ax) := cell_gr hx1 (by go_simp)
  have cx1_4_1 : x1.cell? ⟨W.heap.size + 1 + 1 + 1 + 1, 1, none⟩ = some (.int .i64 ay) := cell_gr hx1 (by go_simp)
  have cx1_4_2 : x1.cell? ⟨W.heap.size + 1 + 1 + 1 + 1, 2, none⟩ = some (.int .i64 bx) := cell_gr hx1 (by go_simp)
  have cx1_4_3 : x1.cell? ⟨W.heap.size + 1 + 1 + 1 + 1, 3, none⟩ = some (.int .i64 by') := cell_gr hx1 (by go_simp)
  have cx1_4_4 : x1.cell? ⟨W.heap.size + 1 + 1 + 1 + 1, 4, none⟩ = some (.int .i64 cx) := cell_gr hx1 (by go_simp)
  have cx1_4_5 : x1.cell? ⟨W.heap.size + 1 + 1 + 1 + 1, 5, none⟩ = some (.int .i64 cy) := cell_gr hx1 (by go_simp)
  have cx1_4_6 : x1.cell? ⟨W.heap.size + 1 + 1 + 1 + 1, 6, none⟩ = some (.int .i64 dx) := cell_gr hx1 (by go_simp)
  have cx1_4_7 : x1.cell? ⟨W.heap.size + 1 + 1 + 1 + 1, 7, none⟩ = some (.int .i64 dy) := cell_gr hx1 (by go_simp)
  have zx1_4 : W.heap.size + 1 + 1 + 1 + 1 < x1.heap.size := World.block_lt_of_cell? _ _ cx1_4_0
  have gx1 : Gr W x1 := Gr.trans (by have gg := gv4; have gs := gg.size; go_grown) hx1
  clear hx1 hhx1 gv4 zv4_0 cv4_0_0 cv4_0_1 zv4_1 cv4_1_0 cv4_1_1 zv4_2 cv4_2_0 cv4_2_1 zv4_3 cv4_3_0 cv4_3_1 zv4_4 cv4_4_0 cv4_4_1 cv4_4_2 cv4_4_3 cv4_4_4 cv4_4_5 cv4_4_6 cv4_4_7
  go_wp2_with fail
  go_at_call 26
  refine ((H6.out _)).mono ?_
  rintro e x2 ⟨rfl, hx2⟩
  have cx2_0_0 : x2.cell? ⟨W.heap.size, 0, none⟩ = some (.int .i64 ax) := cell_gr hx2 (by go_simp)
  have cx2_0_1 : x2.cell? ⟨W.heap.size, 1, none⟩ = some (.int .i64 ay) := cell_gr hx2 (by go_simp)
  have zx2_0 : W.heap.size < x2.heap.size := World.block_lt_of_cell? _ _ cx2_0_0
  have cx2_1_0 : x2.cell? ⟨W.heap.size + 1, 0, none⟩ = some (.int .i64 bx) := cell_gr hx2 (by go_simp)
  have cx2_1_1 : x2.cell? ⟨W.heap.size + 1, 1, none⟩ = some (.int .i64 by') := cell_gr hx2 (by go_simp)
  have zx2_1 : W.heap.size + 1 < x2.heap.size := World.block_lt_of_cell? _ _ cx2_1_0
  have cx2_2_0 : x2.cell? ⟨W.heap.size + 1 + 1, 0, none⟩ = some (.int .i64 cx) := cell_gr hx2 (by go_simp)
  have cx2_2_1 : x2.cell? ⟨W.heap.size + 1 + 1, 1, none⟩ = some (.int .i64 cy) := cell_gr hx2 (by go_simp)
  have zx2_2 : W.heap.size + 1 + 1 < x2.heap.size := World.block_lt_of_cell? _ _ cx2_2_0
  have cx2_3_0 : x2.cell? ⟨W.heap.size + 1 + 1 + 1, 0, none⟩ = some (.int .i64 dx) := cell_gr hx2 (by go_simp)
  have cx2_3_1 : x2.cell? ⟨W.heap.size + 1 + 1 + 1, 1, none⟩ = some (.int .i64 dy) := cell_gr hx2 (by go_simp)
  have zx2_3 : W.heap.size + 1 + 1 + 1 < x2.heap.size := World.block_lt_of_cell? _ _ cx2_3_0
  have cx2_4_0 : x2.cell? ⟨W.heap.size + 1 + 1 + 1 + 1, 0, none⟩ = some (.int .i64 ax) := cell_gr hx2 (by go_simp)
  have cx2_4_1 : x2.cell? ⟨W.heap.size + 1 + 1 + 1 + 1, 1, none⟩ = some (.int .i64 ay) := cell_gr hx2 (by go_simp)
  have cx2_4_2 : x2.cell? ⟨W.heap.size + 1 + 1 + 1 + 1, 2, none⟩ = some (.int .i64 bx) := cell_gr hx2 (by go_simp)
  have cx2_4_3 : x2.cell? ⟨W.heap.size + 1 + 1 + 1 + 1, 3, none⟩ = some (.int .i64 by') := cell_gr hx2 (by go_simp)
  have cx2_4_4 : x2.cell? ⟨W.heap.size + 1 + 1 + 1 + 1, 4, none⟩ = some (.int .i64 cx) := cell_gr hx2 (by go_simp)
  have cx2_4_5 : x2.cell? ⟨W.heap.size + 1 + 1 + 1 + 1, 5, none⟩ = some (.int .i64 cy) := cell_gr hx2 (by go_simp)
  have cx2_4_6 : x2.cell? ⟨W.heap.size + 1 + 1 + 1 + 1, 6, none⟩ = some (.int .i64 dx) := cell_gr hx2 (by go_simp)
  have cx2_4_7 : x2.cell? ⟨W.heap.size + 1 + 1 + 1 + 1, 7, none⟩ = some (.int .i64 dy) := cell_gr hx2 (by go_simp)
  have zx2_4 : W.heap.size + 1 + 1 + 1 + 1 < x2.heap.size := World.block_lt_of_cell? _ _ cx2_4_0
  have gx2 : Gr W x2 := Gr.trans (by have gg := gx1; have gs := gg.size; go_grown) hx2
  clear hx2 gx1 zx1_0 cx1_0_0 cx1_0_1 zx1_1 cx1_1_0 cx1_1_1 zx1_2 cx1_2_0 cx1_2_1 zx1_3 cx1_3_0 cx1_3_1 zx1_4 cx1_4_0 cx1_4_1 cx1_4_2 cx1_4_3 cx1_4_4 cx1_4_5 cx1_4_6 cx1_4_7
  go_wp2_with fail
  go_at_call 24
  refine ((H5.out _)).mono ?_
  rintro e x3 ⟨rfl, hx3⟩
  have cx3_0_0 : x3.cell? ⟨W.heap.size, 0, none⟩ = some (.int .i64 ax) := cell_gr hx3 (by go_simp)
  have cx3_0_1 : x3.cell? ⟨W.heap.size, 1, none⟩ = some (.int .i64 ay) := cell_gr hx3 (by go_simp)
  have zx3_0 : W.heap.size < x3.heap.size := World.block_lt_of_cell? _ _ cx3_0_0
  have cx3_1_0 : x3.cell? ⟨W.heap.size + 1, 0, none⟩ = some (.int .i64 bx) := cell_gr hx3 (by go_simp)
  have cx3_1_1 : x3.cell? ⟨W.heap.size + 1, 1, none⟩ = some (.int .i64 by') := cell_gr hx3 (by go_simp)
  have zx3_1 : W.heap.size + 1 < x3.heap.size := World.block_lt_of_cell? _ _ cx3_1_0
  have cx3_2_0 : x3.cell? ⟨W.heap.size + 1 + 1, 0, none⟩ = some (.int .i64 cx) := cell_gr hx3 (by go_simp)
  have cx3_2_1 : x3.cell? ⟨W.heap.size + 1 + 1, 1, none⟩ = some (.int .i64 cy) := cell_gr hx3 (by go_simp)
  have zx3_2 : W.heap.size + 1 + 1 < x3.heap.size := World.block_lt_of_cell? _ _ cx3_2_0
  have cx3_3_0 : x3.cell? ⟨W.heap.size + 1 + 1 + 1, 0, none⟩ = some (.int .i64 dx) := cell_gr hx3 (by go_simp)
  have cx3_3_1 : x3.cell? ⟨W.heap.size + 1 + 1 + 1, 1, none⟩ = some (.int .i64 dy) := cell_gr hx3 (by go_simp)
  have zx3_3 : W.heap.size + 1 + 1 + 1 < x3.heap.size := World.block_lt_of_cell? _ _ cx3_3_0
  have cx3_4_0 : x3.cell? ⟨W.heap.size + 1 + 1 + 1 + 1, 0, none⟩ = some (.int .i64 ax) := cell_gr hx3 (by go_simp)
  have cx3_4_1 : x3.cell? ⟨W.heap.size + 1 + 1 + 1 + 1, 1, none⟩ = some (.int .i64 ay) := cell_gr hx3 (by go_simp)
  have cx3_4_2 : x3.cell? ⟨W.heap.size + 1 + 1 + 1 + 1, 2, none⟩ = some (.int .i64 bx) := cell_gr hx3 (by go_simp)
  have cx3_4_3 : x3.cell? ⟨W.heap.size + 1 + 1 + 1 + 1, 3, none⟩ = some (.int .i64 by') := cell_gr hx3 (by go_simp)
  have cx3_4_4 : x3.cell? ⟨W.heap.size + 1 + 1 + 1 + 1, 4, none⟩ = some (.int .i64 cx) := cell_gr hx3 (by go_simp)
  have cx3_4_5 : x3.cell? ⟨W.heap.size + 1 + 1 + 1 + 1, 5, none⟩ = some (.int .i64 cy) := cell_gr hx3 (by go_simp)
  have cx3_4_6 : x3.cell? ⟨W.heap.size + 1 + 1 + 1 + 1, 6, none⟩ = some (.int .i64 dx) := cell_gr hx3 (by go_simp)
  have cx3_4_7 : x3.cell? ⟨W.heap.size + 1 + 1 + 1 + 1, 7, none⟩ = some (.int .i64 dy) := cell_gr hx3 (by go_simp)
  have zx3_4 : W.heap.size + 1 + 1 + 1 + 1 < x3.heap.size := World.block_lt_of_cell? _ _ cx3_4_0
  have gx3 : Gr W x3 := Gr.trans (by have gg := gx2; have gs := gg.size; go_grown) hx3
  clear hx3 gx2 zx2_0 cx2_0_0 cx2_0_1 zx2_1 cx2_1_0 cx2_1_1 zx2_2 cx2_2_0 cx2_2_1 zx2_3 cx2_3_0 cx2_3_1 zx2_4 cx2_4_0 cx2_4_1 cx2_4_2 cx2_4_3 cx2_4_4 cx2_4_5 cx2_4_6 cx2_4_7
  go_wp2_with fail
  go_at_call 32
  refine ((s4_awake _)).mono ?_
  rintro e x4 ⟨rfl, hx4⟩
  have cx4_0_0 : x4.cell? ⟨W.heap.size, 0, none⟩ = some (.int .i64 ax) := cell_gr hx4 (by go_simp)
  have cx4_0_1 : x4.cell? ⟨W.heap.size, 1, none⟩ = some (.int .i64 ay) := cell_gr hx4 (by go_simp)
  have zx4_0 : W.heap.size < x4.heap.size := World.block_lt_of_cell? _ _ cx4_0_0
  have cx4_1_0 : x4.cell? ⟨W.heap.size + 1, 0, none⟩ = some (.int .i64 bx) := cell_gr hx4 (by go_simp)
  have cx4_1_1 : x4.cell? ⟨W.heap.size + 1, 1, none⟩ = some (.int .i64 by') := cell_gr hx4 (by go_simp)
  have zx4_1 : W.heap.size + 1 < x4.heap.size := World.block_lt_of_cell? _ _ cx4_1_0
  have cx4_2_0 : x4.cell? ⟨W.heap.size + 1 + 1, 0, none⟩ = some (.int .i64 cx) := cell_gr hx4 (by go_simp)
  have cx4_2_1 : x4.cell? ⟨W.heap.size + 1 + 1, 1, none⟩ = some (.int .i64 cy) := cell_gr hx4 (by go_simp)
  have zx4_2 : W.heap.size + 1 + 1 < x4.heap.size := World.block_lt_of_cell? _ _ cx4_2_0
  have cx4_3_0 : x4.cell? ⟨W.heap.size + 1 + 1 + 1, 0, none⟩ = some (.int .i64 dx) := cell_gr hx4 (by go_simp)
  have cx4_3_1 : x4.cell? ⟨W.heap.size + 1 + 1 + 1, 1, none⟩ = some (.int .i64 dy) := cell_gr hx4 (by go_simp)
  have zx4_3 : W.heap.size + 1 + 1 + 1 < x4.heap.size := World.block_lt_of_cell? _ _ cx4_3_0
  have cx4_4_0 : x4.cell? ⟨W.heap.size + 1 + 1 + 1 + 1, 0, none⟩ = some (.int .i64 ax) := cell_gr hx4 (by go_simp)
  have cx4_4_1 : x4.cell? ⟨W.heap.size + 1 + 1 + 1 + 1, 1, none⟩ = some (.int .i64 ay) := cell_gr hx4 (by go_simp)
  have cx4_4_2 : x4.cell? ⟨W.heap.size + 1 + 1 + 1 + 1, 2, none⟩ = some (.int .i64 bx) := cell_gr hx4 (by go_simp)
  have cx4_4_3 : x4.cell? ⟨W.heap.size + 1 + 1 + 1 + 1, 3, none⟩ = some (.int .i64 by') := cell_gr hx4 (by go_simp)
  have cx4_4_4 : x4.cell? ⟨W.heap.size + 1 + 1 + 1 + 1, 4, none⟩ = some (.int .i64 cx) := cell_gr hx4 (by go_simp)
  have cx4_4_5 : x4.cell? ⟨W.heap.size + 1 + 1 + 1 + 1, 5, none⟩ = some (.int .i64 cy) := cell_gr hx4 (by go_simp)
  have cx4_4_6 : x4.cell? ⟨W.heap.size + 1 + 1 + 1 + 1, 6, none⟩ = some (.int .i64 dx) := cell_gr hx4 (by go_simp)
  have cx4_4_7 : x4.cell? ⟨W.heap.size + 1 + 1 + 1 + 1, 7, none⟩ = some (.int .i64 dy) := cell_gr hx4 (by go_simp)
  have zx4_4 : W.heap.size + 1 + 1 + 1 + 1 < x4.heap.size := World.block_lt_of_cell? _ _ cx4_4_0
  have gx4 : Gr W x4 := Gr.trans (by have gg := gx3; have gs := gg.size; go_grown) hx4
  clear hx4 gx3 zx3_0 cx3_0_0 cx3_0_1 zx3_1 cx3_1_0 cx3_1_1 zx3_2 cx3_2_0 cx3_2_1 zx3_3 cx3_3_0 cx3_3_1 zx3_4 cx3_4_0 cx3_4_1 cx3_4_2 cx3_4_3 cx3_4_4 cx3_4_5 cx3_4_6 cx3_4_7
  go_wp2_with fail
  go_ret
  exact ⟨rfl, by go_grown⟩
set_option maxHeartbeats 4000000 in
set_option maxRecDepth 100000 in
theorem cross_ye (ax ay bx by' cx cy dx dy k1 k2 k3 k4 p1 p2 : Int) (W : World) (e1 : wrap64 (k1 * k2) = p1) (e2 : IntKind.i64.wrap (k1 * k2) = p1) (e3 : wrap64 (k3 * k4) = p2) (e4 : IntKind.i64.wrap (k3 * k4) = p2)
    (t1 : (p1 == -1) = true) (t2 : (p2 == -1) = true)
    (A1 : ∀ w, Calls Try.prog 14 #[.agg #[.int .i64 ax, .int .i64 ay]] w fun e w' => e = .returned (.bool true) ∧ Gr w w')
    (A2 : ∀ w, Calls Try.prog 14 #[.agg #[.int .i64 bx, .int .i64 by']] w fun e w' => e = .returned (.bool true) ∧ Gr w w')
    (A3 : ∀ w, Calls Try.prog 14 #[.agg #[.int .i64 cx, .int .i64 cy]] w fun e w' => e = .returned (.bool true) ∧ Gr w w')
    (A4 : ∀ w, Calls Try.prog 14 #[.agg #[.int .i64 dx, .int .i64 dy]] w fun e w' => e = .returned (.bool true) ∧ Gr w w')
    (A5 : ∀ w, Calls Try.prog 24 #[.agg #[.int .i64 ax, .int .i64 ay], .agg #[.int .i64 bx, .int .i64 by'], .agg #[.int .i64 cx, .int .i64 cy], .agg #[.int .i64 dx, .int .i64 dy]] w fun e w' => e = .returned (.bool true) ∧ Gr w w')
    (A6 : ∀ w, Calls Try.prog 26 #[.agg #[.int .i64 ax, .int .i64 ay], .agg #[.int .i64 bx, .int .i64 by'], .agg #[.int .i64 cx, .int .i64 cy], .agg #[.int .i64 dx, .int .i64 dy]] w fun e w' => e = .returned (.bool true) ∧ Gr w w')
    (B1 : ∀ w, Calls Try.prog 22 #[.agg #[.int .i64 ax, .int .i64 ay], .agg #[.int .i64 bx, .int .i64 by'], .agg #[.int .i64 cx, .int .i64 cy]] w fun e w' => e = .returned (.bool false) ∧ Gr w w')
    (B2 : ∀ w, Calls Try.prog 22 #[.agg #[.int .i64 ax, .int .i64 ay], .agg #[.int .i64 bx, .int .i64 by'], .agg #[.int .i64 dx, .int .i64 dy]] w fun e w' => e = .returned (.bool false) ∧ Gr w w')
    (B3 : ∀ w, Calls Try.prog 22 #[.agg #[.int .i64 cx, .int .i64 cy], .agg #[.int .i64 dx, .int .i64 dy], .agg #[.int .i64 ax, .int .i64 ay]] w fun e w' => e = .returned (.bool false) ∧ Gr w w')
    (B4 : ∀ w, Calls Try.prog 22 #[.agg #[.int .i64 cx, .int .i64 cy], .agg #[.int .i64 dx, .int .i64 dy], .agg #[.int .i64 bx, .int .i64 by']] w fun e w' => e = .returned (.bool false) ∧ Gr w w')
    (O1 : ∀ w, Calls Try.prog 36 #[.agg #[.int .i64 ax, .int .i64 ay], .agg #[.int .i64 bx, .int .i64 by'], .agg #[.int .i64 cx, .int .i64 cy]] w fun e w' => e = .returned (.int .i64 k1) ∧ Gr w w')
    (O2 : ∀ w, Calls Try.prog 36 #[.agg #[.int .i64 ax, .int .i64 ay], .agg #[.int .i64 bx, .int .i64 by'], .agg #[.int .i64 dx, .int .i64 dy]] w fun e w' => e = .returned (.int .i64 k2) ∧ Gr w w')
    (O3 : ∀ w, Calls Try.prog 36 #[.agg #[.int .i64 cx, .int .i64 cy], .agg #[.int .i64 dx, .int .i64 dy], .agg #[.int .i64 ax, .int .i64 ay]] w fun e w' => e = .returned (.int .i64 k3) ∧ Gr w w')
    (O4 : ∀ w, Calls Try.prog 36 #[.agg #[.int .i64 cx, .int .i64 cy], .agg #[.int .i64 dx, .int .i64 dy], .agg #[.int .i64 bx, .int .i64 by']] w fun e w' => e = .returned (.int .i64 k4) ∧ Gr w w') :
    Calls Try.prog 9 #[.agg #[.int .i64 ax, .int .i64 ay], .agg #[.int .i64 bx, .int .i64 by'], .agg #[.int .i64 cx, .int .i64 cy], .agg #[.int .i64 dx, .int .i64 dy]] W fun e w' => e = .returned (.bool true) ∧ Gr W w' := by
  have H1 := Lib.hid A1
  have H2 := Lib.hid A2
  have H3 := Lib.hid A3
  have H4 := Lib.hid A4
  have H5 := Lib.hid A5
  have H6 := Lib.hid A6
  clear A1 A2 A3 A4 A5 A6
  have HB1 := Lib.hid B1
  have HB2 := Lib.hid B2
  have HB3 := Lib.hid B3
  have HB4 := Lib.hid B4
  have HO1 := Lib.hid O1
  have HO2 := Lib.hid O2
  have HO3 := Lib.hid O3
  have HO4 := Lib.hid O4
  clear B1 B2 B3 B4 O1 O2 O3 O4
  go_enter Try.func9, Try.ntmps9
  go_wp2_with fail
  refine wp_loop_rounds 5 ?_
  rw [rounds_succ]
  go_wp2_with fail
  go_at_call 14
  refine ((H1.out _)).mono ?_
  rintro e w1 ⟨rfl, hw1⟩
  have cw1_0_0 : w1.cell? ⟨W.heap.size, 0, none⟩ = some (.int .i64 ax) := cell_gr hw1 (by go_simp)
  have cw1_0_1 : w1.cell? ⟨W.heap.size, 1, none⟩ = some (.int .i64 ay) := cell_gr hw1 (by go_simp)
  have zw1_0 : W.heap.size < w1.heap.size := World.block_lt_of_cell? _ _ cw1_0_0
  have cw1_1_0 : w1.cell? ⟨W.heap.size + 1, 0, none⟩ = some (.int .i64 bx) := cell_gr hw1 (by go_simp)
  have cw1_1_1 : w1.cell? ⟨W.heap.size + 1, 1, none⟩ = some (.int .i64 by') := cell_gr hw1 (by go_simp)
  have zw1_1 : W.heap.size + 1 < w1.heap.size := World.block_lt_of_cell? _ _ cw1_1_0
  have cw1_2_0 : w1.cell? ⟨W.heap.size + 1 + 1, 0, none⟩ = some (.int .i64 cx) := cell_gr hw1 (by go_simp)
  have cw1_2_1 : w1.cell? ⟨W.heap.size + 1 + 1, 1, none⟩ = some (.int .i64 cy) := cell_gr hw1 (by go_simp)
  have zw1_2 : W.heap.size + 1 + 1 < w1.heap.size := World.block_lt_of_cell? _ _ cw1_2_0
  have cw1_3_0 : w1.cell? ⟨W.heap.size + 1 + 1 + 1, 0, none⟩ = some (.int .i64 dx) := cell_gr hw1 (by go_simp)
  have cw1_3_1 : w1.cell? ⟨W.heap.size + 1 + 1 + 1, 1, none⟩ = some (.int .i64 dy) := cell_gr hw1 (by go_simp)
  have zw1_3 : W.heap.size + 1 + 1 + 1 < w1.heap.size := World.block_lt_of_cell? _ _ cw1_3_0
  have cw1_4_0 : w1.cell? ⟨W.heap.size + 1 + 1 + 1 + 1, 0, none⟩ = some (.int .i64 ax) := cell_gr hw1 (by go_simp)
  have cw1_4_1 : w1.cell? ⟨W.heap.size + 1 + 1 + 1 + 1, 1, none⟩ = some (.int .i64 ay) := cell_gr hw1 (by go_simp)
  have cw1_4_2 : w1.cell? ⟨W.heap.size + 1 + 1 + 1 + 1, 2, none⟩ = some (.int .i64 bx) := cell_gr hw1 (by go_simp)
  have cw1_4_3 : w1.cell? ⟨W.heap.size + 1 + 1 + 1 + 1, 3, none⟩ = some (.int .i64 by') := cell_gr hw1 (by go_simp)
  have cw1_4_4 : w1.cell? ⟨W.heap.size + 1 + 1 + 1 + 1, 4, none⟩ = some (.int .i64 cx) := cell_gr hw1 (by go_simp)
  have cw1_4_5 : w1.cell? ⟨W.heap.size + 1 + 1 + 1 + 1, 5, none⟩ = some (.int .i64 cy) := cell_gr hw1 (by go_simp)
  have cw1_4_6 : w1.cell? ⟨W.heap.size + 1 + 1 + 1 + 1, 6, none⟩ = some (.int .i64 dx) := cell_gr hw1 (by go_simp)
  have cw1_4_7 : w1.cell? ⟨W.heap.size + 1 + 1 + 1 + 1, 7, none⟩ = some (.int .i64 dy) := cell_gr hw1 (by go_simp)
  have zw1_4 : W.heap.size + 1 + 1 + 1 + 1 < w1.heap.size := World.block_lt_of_cell? _ _ cw1_4_0
  have gw1 : Gr W w1 := Gr.trans (by go_grown) hw1
  clear hw1
  go_wp2_with fail
  rw [rounds_succ]
  go_wp2_with fail
  go_at_call 14
  refine ((H2.out _)).mono ?_
  rintro e w2 ⟨rfl, hw2⟩
  have cw2_0_0 : w2.cell? ⟨W.heap.size, 0, none⟩ = some (.int .i64 ax) := cell_gr hw2 (by go_simp)
  have cw2_0_1 : w2.cell? ⟨W.heap.size, 1, none⟩ = some (.int .i64 ay) := cell_gr hw2 (by go_simp)
  have zw2_0 : W.heap.size < w2.heap.size := World.block_lt_of_cell? _ _ cw2_0_0
  have cw2_1_0 : w2.cell? ⟨W.heap.size + 1, 0, none⟩ = some (.int .i64 bx) := cell_gr hw2 (by go_simp)
  have cw2_1_1 : w2.cell? ⟨W.heap.size + 1, 1, none⟩ = some (.int .i64 by') := cell_gr hw2 (by go_simp)
  have zw2_1 : W.heap.size + 1 < w2.heap.size := World.block_lt_of_cell? _ _ cw2_1_0
  have cw2_2_0 : w2.cell? ⟨W.heap.size + 1 + 1, 0, none⟩ = some (.int .i64 cx) := cell_gr hw2 (by go_simp)
  have cw2_2_1 : w2.cell? ⟨W.heap.size + 1 + 1, 1, none⟩ = some (.int .i64 cy) := cell_gr hw2 (by go_simp)
  have zw2_2 : W.heap.size + 1 + 1 < w2.heap.size := World.block_lt_of_cell? _ _ cw2_2_0
  have cw2_3_0 : w2.cell? ⟨W.heap.size + 1 + 1 + 1, 0, none⟩ = some (.int .i64 dx) := cell_gr hw2 (by go_simp)
  have cw2_3_1 : w2.cell? ⟨W.heap.size + 1 + 1 + 1, 1, none⟩ = some (.int .i64 dy) := cell_gr hw2 (by go_simp)
  have zw2_3 : W.heap.size + 1 + 1 + 1 < w2.heap.size := World.block_lt_of_cell? _ _ cw2_3_0
  have cw2_4_0 : w2.cell? ⟨W.heap.size + 1 + 1 + 1 + 1, 0, none⟩ = some (.int .i64 ax) := cell_gr hw2 (by go_simp)
  have cw2_4_1 : w2.cell? ⟨W.heap.size + 1 + 1 + 1 + 1, 1, none⟩ = some (.int .i64 ay) := cell_gr hw2 (by go_simp)
  have cw2_4_2 : w2.cell? ⟨W.heap.size + 1 + 1 + 1 + 1, 2, none⟩ = some (.int .i64 bx) := cell_gr hw2 (by go_simp)
  have cw2_4_3 : w2.cell? ⟨W.heap.size + 1 + 1 + 1 + 1, 3, none⟩ = some (.int .i64 by') := cell_gr hw2 (by go_simp)
  have cw2_4_4 : w2.cell? ⟨W.heap.size + 1 + 1 + 1 + 1, 4, none⟩ = some (.int .i64 cx) := cell_gr hw2 (by go_simp)
  have cw2_4_5 : w2.cell? ⟨W.heap.size + 1 + 1 + 1 + 1, 5, none⟩ = some (.int .i64 cy) := cell_gr hw2 (by go_simp)
  have cw2_4_6 : w2.cell? ⟨W.heap.size + 1 + 1 + 1 + 1, 6, none⟩ = some (.int .i64 dx) := cell_gr hw2 (by go_simp)
  have cw2_4_7 : w2.cell? ⟨W.heap.size + 1 + 1 + 1 + 1, 7, none⟩ = some (.int .i64 dy) := cell_gr hw2 (by go_simp)
  have zw2_4 : W.heap.size + 1 + 1 + 1 + 1 < w2.heap.size := World.block_lt_of_cell? _ _ cw2_4_0
  have gw2 : Gr W w2 := Gr.trans (by have gg := gw1; have gs := gg.size; go_grown) hw2
  clear hw2 gw1 zw1_0 cw1_0_0 cw1_0_1 zw1_1 cw1_1_0 cw1_1_1 zw1_2 cw1_2_0 cw1_2_1 zw1_3 cw1_3_0 cw1_3_1 zw1_4 cw1_4_0 cw1_4_1 cw1_4_2 cw1_4_3 cw1_4_4 cw1_4_5 cw1_4_6 cw1_4_7
  go_wp2_with fail
  rw [rounds_succ]
  go_wp2_with fail
  go_at_call 14
  refine ((H3.out _)).mono ?_
  rintro e w3 ⟨rfl, hw3⟩
  have cw3_0_0 : w3.cell? ⟨W.heap.size, 0, none⟩ = some (.int .i64 ax) := cell_gr hw3 (by go_simp)
  have cw3_0_1 : w3.cell? ⟨W.heap.size, 1, none⟩ = some (.int .i64 ay) := cell_gr hw3 (by go_simp)
  have zw3_0 : W.heap.size < w3.heap.size := World.block_lt_of_cell? _ _ cw3_0_0
  have cw3_1_0 : w3.cell? ⟨W.heap.size + 1, 0, none⟩ = some (.int .i64 bx) := cell_gr hw3 (by go_simp)
  have cw3_1_1 : w3.cell? ⟨W.heap.size + 1, 1, none⟩ = some (.int .i64 by') := cell_gr hw3 (by go_simp)
  have zw3_1 : W.heap.size + 1 < w3.heap.size := World.block_lt_of_cell? _ _ cw3_1_0
  have cw3_2_0 : w3.cell? ⟨W.heap.size + 1 + 1, 0, none⟩ = some (.int .i64 cx) := cell_gr hw3 (by go_simp)
  have cw3_2_1 : w3.cell? ⟨W.heap.size + 1 + 1, 1, none⟩ = some (.int .i64 cy) := cell_gr hw3 (by go_simp)
  have zw3_2 : W.heap.size + 1 + 1 < w3.heap.size := World.block_lt_of_cell? _ _ cw3_2_0
  have cw3_3_0 : w3.cell? ⟨W.heap.size + 1 + 1 + 1, 0, none⟩ = some (.int .i64 dx) := cell_gr hw3 (by go_simp)
  have cw3_3_1 : w3.cell? ⟨W.heap.size + 1 + 1 + 1, 1, none⟩ = some (.int .i64 dy) := cell_gr hw3 (by go_simp)
  have zw3_3 : W.heap.size + 1 + 1 + 1 < w3.heap.size := World.block_lt_of_cell? _ _ cw3_3_0
  have cw3_4_0 : w3.cell? ⟨W.heap.size + 1 + 1 + 1 + 1, 0, none⟩ = some (.int .i64 ax) := cell_gr hw3 (by go_simp)
  have cw3_4_1 : w3.cell? ⟨W.heap.size + 1 + 1 + 1 + 1, 1, none⟩ = some (.int .i64 ay) := cell_gr hw3 (by go_simp)
  have cw3_4_2 : w3.cell? ⟨W.heap.size + 1 + 1 + 1 + 1, 2, none⟩ = some (.int .i64 bx) := cell_gr hw3 (by go_simp)
  have cw3_4_3 : w3.cell? ⟨W.heap.size + 1 + 1 + 1 + 1, 3, none⟩ = some (.int .i64 by') := cell_gr hw3 (by go_simp)
  have cw3_4_4 : w3.cell? ⟨W.heap.size + 1 + 1 + 1 + 1, 4, none⟩ = some (.int .i64 cx) := cell_gr hw3 (by go_simp)
  have cw3_4_5 : w3.cell? ⟨W.heap.size + 1 + 1 + 1 + 1, 5, none⟩ = some (.int .i64 cy) := cell_gr hw3 (by go_simp)
  have cw3_4_6 : w3.cell? ⟨W.heap.size + 1 + 1 + 1 + 1, 6, none⟩ = some (.int .i64 dx) := cell_gr hw3 (by go_simp)
  have cw3_4_7 : w3.cell? ⟨W.heap.size + 1 + 1 + 1 + 1, 7, none⟩ = some (.int .i64 dy) := cell_gr hw3 (by go_simp)
  have zw3_4 : W.heap.size + 1 + 1 + 1 + 1 < w3.heap.size := World.block_lt_of_cell? _ _ cw3_4_0
  have gw3 : Gr W w3 := Gr.trans (by have gg := gw2; have gs := gg.size; go_grown) hw3
  clear hw3 gw2 zw2_0 cw2_0_0 cw2_0_1 zw2_1 cw2_1_0 cw2_1_1 zw2_2 cw2_2_0 cw2_2_1 zw2_3 cw2_3_0 cw2_3_1 zw2_4 cw2_4_0 cw2_4_1 cw2_4_2 cw2_4_3 cw2_4_4 cw2_4_5 cw2_4_6 cw2_4_7
  go_wp2_with fail
  rw [rounds_succ]
  go_wp2_with fail
  go_at_call 14
  refine ((H4.out _)).mono ?_
  rintro e w4 ⟨rfl, hw4⟩
  have cw4_0_0 : w4.cell? ⟨W.heap.size, 0, none⟩ = some (.int .i64 ax) := cell_gr hw4 (by go_simp)
  have cw4_0_1 : w4.cell? ⟨W.heap.size, 1, none⟩ = some (.int .i64 ay) := cell_gr hw4 (by go_simp)
  have zw4_0 : W.heap.size < w4.heap.size := World.block_lt_of_cell? _ _ cw4_0_0
  have cw4_1_0 : w4.cell? ⟨W.heap.size + 1, 0, none⟩ = some (.int .i64 bx) := cell_gr hw4 (by go_simp)
  have cw4_1_1 : w4.cell? ⟨W.heap.size + 1, 1, none⟩ = some (.int .i64 by') := cell_gr hw4 (by go_simp)
  have zw4_1 : W.heap.size + 1 < w4.heap.size := World.block_lt_of_cell? _ _ cw4_1_0
  have cw4_2_0 : w4.cell? ⟨W.heap.size + 1 + 1, 0, none⟩ = some (.int .i64 cx) := cell_gr hw4 (by go_simp)
  have cw4_2_1 : w4.cell? ⟨W.heap.size + 1 + 1, 1, none⟩ = some (.int .i64 cy) := cell_gr hw4 (by go_simp)
  have zw4_2 : W.heap.size + 1 + 1 < w4.heap.size := World.block_lt_of_cell? _ _ cw4_2_0
  have cw4_3_0 : w4.cell? ⟨W.heap.size + 1 + 1 + 1, 0, none⟩ = some (.int .i64 dx) := cell_gr hw4 (by go_simp)
  have cw4_3_1 : w4.cell? ⟨W.heap.size + 1 + 1 + 1, 1, none⟩ = some (.int .i64 dy) := cell_gr hw4 (by go_simp)
  have zw4_3 : W.heap.size + 1 + 1 + 1 < w4.heap.size := World.block_lt_of_cell? _ _ cw4_3_0
  have cw4_4_0 : w4.cell? ⟨W.heap.size + 1 + 1 + 1 + 1, 0, none⟩ = some (.int .i64 ax) := cell_gr hw4 (by go_simp)
  have cw4_4_1 : w4.cell? ⟨W.heap.size + 1 + 1 + 1 + 1, 1, none⟩ = some (.int .i64 ay) := cell_gr hw4 (by go_simp)
  have cw4_4_2 : w4.cell? ⟨W.heap.size + 1 + 1 + 1 + 1, 2, none⟩ = some (.int .i64 bx) := cell_gr hw4 (by go_simp)
  have cw4_4_3 : w4.cell? ⟨W.heap.size + 1 + 1 + 1 + 1, 3, none⟩ = some (.int .i64 by') := cell_gr hw4 (by go_simp)
  have cw4_4_4 : w4.cell? ⟨W.heap.size + 1 + 1 + 1 + 1, 4, none⟩ = some (.int .i64 cx) := cell_gr hw4 (by go_simp)
  have cw4_4_5 : w4.cell? ⟨W.heap.size + 1 + 1 + 1 + 1, 5, none⟩ = some (.int .i64 cy) := cell_gr hw4 (by go_simp)
  have cw4_4_6 : w4.cell? ⟨W.heap.size + 1 + 1 + 1 + 1, 6, none⟩ = some (.int .i64 dx) := cell_gr hw4 (by go_simp)
  have cw4_4_7 : w4.cell? ⟨W.heap.size + 1 + 1 + 1 + 1, 7, none⟩ = some (.int .i64 dy) := cell_gr hw4 (by go_simp)
  have zw4_4 : W.heap.size + 1 + 1 + 1 + 1 < w4.heap.size := World.block_lt_of_cell? _ _ cw4_4_0
  have gw4 : Gr W w4 := Gr.trans (by have gg := gw3; have gs := gg.size; go_grown) hw4
  clear hw4 gw3 zw3_0 cw3_0_0 cw3_0_1 zw3_1 cw3_1_0 cw3_1_1 zw3_2 cw3_2_0 cw3_2_1 zw3_3 cw3_3_0 cw3_3_1 zw3_4 cw3_4_0 cw3_4_1 cw3_4_2 cw3_4_3 cw3_4_4 cw3_4_5 cw3_4_6 cw3_4_7
  go_wp2_with fail
  rw [rounds_succ]
  go_wp2_with fail
  go_at_call 22
  refine ((HB1.out _)).mono ?_
  rintro e v1 ⟨rfl, hv1⟩
  have cv1_0_0 : v1.cell? ⟨W.heap.size, 0, none⟩ = some (.int .i64 ax) := cell_gr hv1 (by go_simp)
  have cv1_0_1 : v1.cell? ⟨W.heap.size, 1, none⟩ = some (.int .i64 ay) := cell_gr hv1 (by go_simp)
  have zv1_0 : W.heap.size < v1.heap.size := World.block_lt_of_cell? _ _ cv1_0_0
  have cv1_1_0 : v1.cell? ⟨W.heap.size + 1, 0, none⟩ = some (.int .i64 bx) := cell_gr hv1 (by go_simp)
  have cv1_1_1 : v1.cell? ⟨W.heap.size + 1, 1, none⟩ = some (.int .i64 by') := cell_gr hv1 (by go_simp)
  have zv1_1 : W.heap.size + 1 < v1.heap.size := World.block_lt_of_cell? _ _ cv1_1_0
  have cv1_2_0 : v1.cell? ⟨W.heap.size + 1 + 1, 0, none⟩ = some (.int .i64 cx) := cell_gr hv1 (by go_simp)
  have cv1_2_1 : v1.cell? ⟨W.heap.size + 1 + 1, 1, none⟩ = some (.int .i64 cy) := cell_gr hv1 (by go_simp)
  have zv1_2 : W.heap.size + 1 + 1 < v1.heap.size := World.block_lt_of_cell? _ _ cv1_2_0
  have cv1_3_0 : v1.cell? ⟨W.heap.size + 1 + 1 + 1, 0, none⟩ = some (.int .i64 dx) := cell_gr hv1 (by go_simp)
  have cv1_3_1 : v1.cell? ⟨W.heap.size + 1 + 1 + 1, 1, none⟩ = some (.int .i64 dy) := cell_gr hv1 (by go_simp)
  have zv1_3 : W.heap.size + 1 + 1 + 1 < v1.heap.size := World.block_lt_of_cell? _ _ cv1_3_0
  have cv1_4_0 : v1.cell? ⟨W.heap.size + 1 + 1 + 1 + 1, 0, none⟩ = some (.int .i64 ax) := cell_gr hv1 (by go_simp)
  have cv1_4_1 : v1.cell? ⟨W.heap.size + 1 + 1 + 1 + 1, 1, none⟩ = some (.int .i64 ay) := cell_gr hv1 (by go_simp)
  have cv1_4_2 : v1.cell? ⟨W.heap.size + 1 + 1 + 1 + 1, 2, none⟩ = some (.int .i64 bx) := cell_gr hv1 (by go_simp)
  have cv1_4_3 : v1.cell? ⟨W.heap.size + 1 + 1 + 1 + 1, 3, none⟩ = some (.int .i64 by') := cell_gr hv1 (by go_simp)
  have cv1_4_4 : v1.cell? ⟨W.heap.size + 1 + 1 + 1 + 1, 4, none⟩ = some (.int .i64 cx) := cell_gr hv1 (by go_simp)
  have cv1_4_5 : v1.cell? ⟨W.heap.size + 1 + 1 + 1 + 1, 5, none⟩ = some (.int .i64 cy) := cell_gr hv1 (by go_simp)
  have cv1_4_6 : v1.cell? ⟨W.heap.size + 1 + 1 + 1 + 1, 6, none⟩ = some (.int .i64 dx) := cell_gr hv1 (by go_simp)
  have cv1_4_7 : v1.cell? ⟨W.heap.size + 1 + 1 + 1 + 1, 7, none⟩ = some (.int .i64 dy) := cell_gr hv1 (by go_simp)
  have zv1_4 : W.heap.size + 1 + 1 + 1 + 1 < v1.heap.size := World.block_lt_of_cell? _ _ cv1_4_0
  have gv1 : Gr W v1 := Gr.trans (by have gg := gw4; have gs := gg.size; go_grown) hv1
  clear hv1 gw4 zw4_0 cw4_0_0 cw4_0_1 zw4_1 cw4_1_0 cw4_1_1 zw4_2 cw4_2_0 cw4_2_1 zw4_3 cw4_3_0 cw4_3_1 zw4_4 cw4_4_0 cw4_4_1 cw4_4_2 cw4_4_3 cw4_4_4 cw4_4_5 cw4_4_6 cw4_4_7
  go_wp2_with fail
  go_at_call 22
  refine ((HB2.out _)).mono ?_
  rintro e v2 ⟨rfl, hv2⟩
  have cv2_0_0 : v2.cell? ⟨W.heap.size, 0, none⟩ = some (.int .i64 ax) := cell_gr hv2 (by go_simp)
  have cv2_0_1 : v2.cell? ⟨W.heap.size, 1, none⟩ = some (.int .i64 ay) := cell_gr hv2 (by go_simp)
  have zv2_0 : W.heap.size < v2.heap.size := World.block_lt_of_cell? _ _ cv2_0_0
  have cv2_1_0 : v2.cell? ⟨W.heap.size + 1, 0, none⟩ = some (.int .i64 bx) := cell_gr hv2 (by go_simp)
  have cv2_1_1 : v2.cell? ⟨W.heap.size + 1, 1, none⟩ = some (.int .i64 by') := cell_gr hv2 (by go_simp)
  have zv2_1 : W.heap.size + 1 < v2.heap.size := World.block_lt_of_cell? _ _ cv2_1_0
  have cv2_2_0 : v2.cell? ⟨W.heap.size + 1 + 1, 0, none⟩ = some (.int .i64 cx) := cell_gr hv2 (by go_simp)
  have cv2_2_1 : v2.cell? ⟨W.heap.size + 1 + 1, 1, none⟩ = some (.int .i64 cy) := cell_gr hv2 (by go_simp)
  have zv2_2 : W.heap.size + 1 + 1 < v2.heap.size := World.block_lt_of_cell? _ _ cv2_2_0
  have cv2_3_0 : v2.cell? ⟨W.heap.size + 1 + 1 + 1, 0, none⟩ = some (.int .i64 dx) := cell_gr hv2 (by go_simp)
  have cv2_3_1 : v2.cell? ⟨W.heap.size + 1 + 1 + 1, 1, none⟩ = some (.int .i64 dy) := cell_gr hv2 (by go_simp)
  have zv2_3 : W.heap.size + 1 + 1 + 1 < v2.heap.size := World.block_lt_of_cell? _ _ cv2_3_0
  have cv2_4_0 : v2.cell? ⟨W.heap.size + 1 + 1 + 1 + 1, 0, none⟩ = some (.int .i64 ax) := cell_gr hv2 (by go_simp)
  have cv2_4_1 : v2.cell? ⟨W.heap.size + 1 + 1 + 1 + 1, 1, none⟩ = some (.int .i64 ay) := cell_gr hv2 (by go_simp)
  have cv2_4_2 : v2.cell? ⟨W.heap.size + 1 + 1 + 1 + 1, 2, none⟩ = some (.int .i64 bx) := cell_gr hv2 (by go_simp)
  have cv2_4_3 : v2.cell? ⟨W.heap.size + 1 + 1 + 1 + 1, 3, none⟩ = some (.int .i64 by') := cell_gr hv2 (by go_simp)
  have cv2_4_4 : v2.cell? ⟨W.heap.size + 1 + 1 + 1 + 1, 4, none⟩ = some (.int .i64 cx) := cell_gr hv2 (by go_simp)
  have cv2_4_5 : v2.cell? ⟨W.heap.size + 1 + 1 + 1 + 1, 5, none⟩ = some (.int .i64 cy) := cell_gr hv2 (by go_simp)
  have cv2_4_6 : v2.cell? ⟨W.heap.size + 1 + 1 + 1 + 1, 6, none⟩ = some (.int .i64 dx) := cell_gr hv2 (by go_simp)
  have cv2_4_7 : v2.cell? ⟨W.heap.size + 1 + 1 + 1 + 1, 7, none⟩ = some (.int .i64 dy) := cell_gr hv2 (by go_simp)
  have zv2_4 : W.heap.size + 1 + 1 + 1 + 1 < v2.heap.size := World.block_lt_of_cell? _ _ cv2_4_0
  have gv2 : Gr W v2 := Gr.trans (by have gg := gv1; have gs := gg.size; go_grown) hv2
  clear hv2 gv1 zv1_0 cv1_0_0 cv1_0_1 zv1_1 cv1_1_0 cv1_1_1 zv1_2 cv1_2_0 cv1_2_1 zv1_3 cv1_3_0 cv1_3_1 zv1_4 cv1_4_0 cv1_4_1 cv1_4_2 cv1_4_3 cv1_4_4 cv1_4_5 cv1_4_6 cv1_4_7
  go_wp2_with fail
  go_at_call 22
  refine ((HB3.out _)).mono ?_
  rintro e v3 ⟨rfl, hv3⟩
  have cv3_0_0 : v3.cell? ⟨W.heap.size, 0, none⟩ = some (.int .i64 ax) := cell_gr hv3 (by go_simp)
  have cv3_0_1 : v3.cell? ⟨W.heap.size, 1, none⟩ = some (.int .i64 ay) := cell_gr hv3 (by go_simp)
  have zv3_0 : W.heap.size < v3.heap.size := World.block_lt_of_cell? _ _ cv3_0_0
  have cv3_1_0 : v3.cell? ⟨W.heap.size + 1, 0, none⟩ = some (.int .i64 bx) := cell_gr hv3 (by go_simp)
  have cv3_1_1 : v3.cell? ⟨W.heap.size + 1, 1, none⟩ = some (.int .i64 by') := cell_gr hv3 (by go_simp)
  have zv3_1 : W.heap.size + 1 < v3.heap.size := World.block_lt_of_cell? _ _ cv3_1_0
  have cv3_2_0 : v3.cell? ⟨W.heap.size + 1 + 1, 0, none⟩ = some (.int .i64 cx) := cell_gr hv3 (by go_simp)
  have cv3_2_1 : v3.cell? ⟨W.heap.size + 1 + 1, 1, none⟩ = some (.int .i64 cy) := cell_gr hv3 (by go_simp)
  have zv3_2 : W.heap.size + 1 + 1 < v3.heap.size := World.block_lt_of_cell? _ _ cv3_2_0
  have cv3_3_0 : v3.cell? ⟨W.heap.size + 1 + 1 + 1, 0, none⟩ = some (.int .i64 dx) := cell_gr hv3 (by go_simp)
  have cv3_3_1 : v3.cell? ⟨W.heap.size + 1 + 1 + 1, 1, none⟩ = some (.int .i64 dy) := cell_gr hv3 (by go_simp)
  have zv3_3 : W.heap.size + 1 + 1 + 1 < v3.heap.size := World.block_lt_of_cell? _ _ cv3_3_0
  have cv3_4_0 : v3.cell? ⟨W.heap.size + 1 + 1 + 1 + 1, 0, none⟩ = some (.int .i64 ax) := cell_gr hv3 (by go_simp)
  have cv3_4_1 : v3.cell? ⟨W.heap.size + 1 + 1 + 1 + 1, 1, none⟩ = some (.int .i64 ay) := cell_gr hv3 (by go_simp)
  have cv3_4_2 : v3.cell? ⟨W.heap.size + 1 + 1 + 1 + 1, 2, none⟩ = some (.int .i64 bx) := cell_gr hv3 (by go_simp)
  have cv3_4_3 : v3.cell? ⟨W.heap.size + 1 + 1 + 1 + 1, 3, none⟩ = some (.int .i64 by') := cell_gr hv3 (by go_simp)
  have cv3_4_4 : v3.cell? ⟨W.heap.size + 1 + 1 + 1 + 1, 4, none⟩ = some (.int .i64 cx) := cell_gr hv3 (by go_simp)
  have cv3_4_5 : v3.cell? ⟨W.heap.size + 1 + 1 + 1 + 1, 5, none⟩ = some (.int .i64 cy) := cell_gr hv3 (by go_simp)
  have cv3_4_6 : v3.cell? ⟨W.heap.size + 1 + 1 + 1 + 1, 6, none⟩ = some (.int .i64 dx) := cell_gr hv3 (by go_simp)
  have cv3_4_7 : v3.cell? ⟨W.heap.size + 1 + 1 + 1 + 1, 7, none⟩ = some (.int .i64 dy) := cell_gr hv3 (by go_simp)
  have zv3_4 : W.heap.size + 1 + 1 + 1 + 1 < v3.heap.size := World.block_lt_of_cell? _ _ cv3_4_0
  have gv3 : Gr W v3 := Gr.trans (by have gg := gv2; have gs := gg.size; go_grown) hv3
  clear hv3 gv2 zv2_0 cv2_0_0 cv2_0_1 zv2_1 cv2_1_0 cv2_1_1 zv2_2 cv2_2_0 cv2_2_1 zv2_3 cv2_3_0 cv2_3_1 zv2_4 cv2_4_0 cv2_4_1 cv2_4_2 cv2_4_3 cv2_4_4 cv2_4_5 cv2_4_6 cv2_4_7
  go_wp2_with fail
  go_at_call 22
  refine ((HB4.out _)).mono ?_
  rintro e v4 ⟨rfl, hv4⟩
  have cv4_0_0 : v4.cell? ⟨W.heap.size, 0, none⟩ = some (.int .i64 ax) := cell_gr hv4 (by go_simp)
  have cv4_0_1 : v4.cell? ⟨W.heap.size, 1, none⟩ = some (.int .i64 ay) := cell_gr hv4 (by go_simp)
  have zv4_0 : W.heap.size < v4.heap.size := World.block_lt_of_cell? _ _ cv4_0_0
  have cv4_1_0 : v4.cell? ⟨W.heap.size + 1, 0, none⟩ = some (.int .i64 bx) := cell_gr hv4 (by go_simp)
  have cv4_1_1 : v4.cell? ⟨W.heap.size + 1, 1, none⟩ = some (.int .i64 by') := cell_gr hv4 (by go_simp)
  have zv4_1 : W.heap.size + 1 < v4.heap.size := World.block_lt_of_cell? _ _ cv4_1_0
  have cv4_2_0 : v4.cell? ⟨W.heap.size + 1 + 1, 0, none⟩ = some (.int .i64 cx) := cell_gr hv4 (by go_simp)
  have cv4_2_1 : v4.cell? ⟨W.heap.size + 1 + 1, 1, none⟩ = some (.int .i64 cy) := cell_gr hv4 (by go_simp)
  have zv4_2 : W.heap.size + 1 + 1 < v4.heap.size := World.block_lt_of_cell? _ _ cv4_2_0
  have cv4_3_0 : v4.cell? ⟨W.heap.size + 1 + 1 + 1, 0, none⟩ = some (.int .i64 dx) := cell_gr hv4 (by go_simp)
  have cv4_3_1 : v4.cell? ⟨W.heap.size + 1 + 1 + 1, 1, none⟩ = some (.int .i64 dy) := cell_gr hv4 (by go_simp)
  have zv4_3 : W.heap.size + 1 + 1 + 1 < v4.heap.size := World.block_lt_of_cell? _ _ cv4_3_0
  have cv4_4_0 : v4.cell? ⟨W.heap.size + 1 + 1 + 1 + 1, 0, none⟩ = some (.int .i64 ax) := cell_gr hv4 (by go_simp)
  have cv4_4_1 : v4.cell? ⟨W.heap.size + 1 + 1 + 1 + 1, 1, none⟩ = some (.int .i64 ay) := cell_gr hv4 (by go_simp)
  have cv4_4_2 : v4.cell? ⟨W.heap.size + 1 + 1 + 1 + 1, 2, none⟩ = some (.int .i64 bx) := cell_gr hv4 (by go_simp)
  have cv4_4_3 : v4.cell? ⟨W.heap.size + 1 + 1 + 1 + 1, 3, none⟩ = some (.int .i64 by') := cell_gr hv4 (by go_simp)
  have cv4_4_4 : v4.cell? ⟨W.heap.size + 1 + 1 + 1 + 1, 4, none⟩ = some (.int .i64 cx) := cell_gr hv4 (by go_simp)
  have cv4_4_5 : v4.cell? ⟨W.heap.size + 1 + 1 + 1 + 1, 5, none⟩ = some (.int .i64 cy) := cell_gr hv4 (by go_simp)
  have cv4_4_6 : v4.cell? ⟨W.heap.size + 1 + 1 + 1 + 1, 6, none⟩ = some (.int .i64 dx) := cell_gr hv4 (by go_simp)
  have cv4_4_7 : v4.cell? ⟨W.heap.size + 1 + 1 + 1 + 1, 7, none⟩ = some (.int .i64 dy) := cell_gr hv4 (by go_simp)
  have zv4_4 : W.heap.size + 1 + 1 + 1 + 1 < v4.heap.size := World.block_lt_of_cell? _ _ cv4_4_0
  have gv4 : Gr W v4 := Gr.trans (by have gg := gv3; have gs := gg.size; go_grown) hv4
  clear hv4 gv3 zv3_0 cv3_0_0 cv3_0_1 zv3_1 cv3_1_0 cv3_1_1 zv3_2 cv3_2_0 cv3_2_1 zv3_3 cv3_3_0 cv3_3_1 zv3_4 cv3_4_0 cv3_4_1 cv3_4_2 cv3_4_3 cv3_4_4 cv3_4_5 cv3_4_6 cv3_4_7
  go_wp2_with fail
  refine wp_region_spread (by kernel_rfl) (by kernel_rfl) ?_
  try simp only [List.append]
  repeat (first | go_big_quiet_skip | (go_big_quiet_want; go_big_quiet_op; (first | go_big_quiet_on | (apply Exists.intro; refine ⟨fun _ => ?_, ?_⟩; (· (first | (go_at_call 36; first | ((with_reducible refine ((HO1.out _)).mono ?_); rintro e w' ⟨rfl, hg⟩; exact ⟨rfl, spread_gr hg⟩) | ((with_reducible refine ((HO2.out _)).mono ?_); rintro e w' ⟨rfl, hg⟩; exact ⟨rfl, spread_gr hg⟩) | ((with_reducible refine ((HO3.out _)).mono ?_); rintro e w' ⟨rfl, hg⟩; exact ⟨rfl, spread_gr hg⟩) | ((with_reducible refine ((HO4.out _)).mono ?_); rintro e w' ⟨rfl, hg⟩; exact ⟨rfl, spread_gr hg⟩)))); go_big_quiet_on))))
  refine wpQuiet_nil ?_
  intro x1 hhx1
  have hx1 := Hd.gr_of_spread hhx1
  have cx1_0_0 : x1.cell? ⟨W.heap.size, 0, none⟩ = some (.int .i64 ax) := cell_gr hx1 (by go_simp)
  have cx1_0_1 : x1.cell? ⟨W.heap.size, 1, none⟩ = some (.int .i64 ay) := cell_gr hx1 (by go_simp)
  have zx1_0 : W.heap.size < x1.heap.size := World.block_lt_of_cell? _ _ cx1_0_0
  have cx1_1_0 : x1.cell? ⟨W.heap.size + 1, 0, none⟩ = some (.int .i64 bx) := cell_gr hx1 (by go_simp)
  have cx1_1_1 : x1.cell? ⟨W.heap.size + 1, 1, none⟩ = some (.int .i64 by') := cell_gr hx1 (by go_simp)
  have zx1_1 : W.heap.size + 1 < x1.heap.size := World.block_lt_of_cell? _ _ cx1_1_0
  have cx1_2_0 : x1.cell? ⟨W.heap.size + 1 + 1, 0, none⟩ = some (.int .i64 cx) := cell_gr hx1 (by go_simp)
  have cx1_2_1 : x1.cell? ⟨W.heap.size + 1 + 1, 1, none⟩ = some (.int .i64 cy) := cell_gr hx1 (by go_simp)
  have zx1_2 : W.heap.size + 1 + 1 < x1.heap.size := World.block_lt_of_cell? _ _ cx1_2_0
  have cx1_3_0 : x1.cell? ⟨W.heap.size + 1 + 1 + 1, 0, none⟩ = some (.int .i64 dx) := cell_gr hx1 (by go_simp)
  have cx1_3_1 : x1.cell? ⟨W.heap.size + 1 + 1 + 1, 1, none⟩ = some (.int .i64 dy) := cell_gr hx1 (by go_simp)
  have zx1_3 : W.heap.size + 1 + 1 + 1 < x1.heap.size := World.block_lt_of_cell? _ _ cx1_3_0
  have cx1_4_0 : x1.cell? ⟨W.heap.size + 1 + 1 + 1 + 1, 0, none⟩ = some (.int .i64 ax) := cell_gr hx1 (by go_simp)
  have cx1_4_1 : x1.cell? ⟨W.heap.size + 1 + 1 + 1 + 1, 1, none⟩ = some (.int .i64 ay) := cell_gr hx1 (by go_simp)
  have cx1_4_2 : x1.cell? ⟨W.heap.size + 1 + 1 + 1 + 1, 2, none⟩ = some (.int .i64 bx) := cell_gr hx1 (by go_simp)
  have cx1_4_3 : x1.cell? ⟨W.heap.size + 1 + 1 + 1 + 1, 3, none⟩ = some (.int .i64 by') := cell_gr hx1 (by go_simp)
  have cx1_4_4 : x1.cell? ⟨W.heap.size + 1 + 1 + 1 + 1, 4, none⟩ = some (.int .i64 cx) := cell_gr hx1 (by go_simp)
  have cx1_4_5 : x1.cell? ⟨W.heap.size + 1 + 1 + 1 + 1, 5, none⟩ = some (.int .i64 cy) := cell_gr hx1 (by go_simp)
  have cx1_4_6 : x1.cell? ⟨W.heap.size + 1 + 1 + 1 + 1, 6, none⟩ = some (.int .i64 dx) := cell_gr hx1 (by go_simp)
  have cx1_4_7 : x1.cell? ⟨W.heap.size + 1 + 1 + 1 + 1, 7, none⟩ = some (.int .i64 dy) := cell_gr hx1 (by go_simp)
  have zx1_4 : W.heap.size + 1 + 1 + 1 + 1 < x1.heap.size := World.block_lt_of_cell? _ _ cx1_4_0
  have gx1 : Gr W x1 := Gr.trans (by have gg := gv4; have gs := gg.size; go_grown) hx1
  clear hx1 hhx1 gv4 zv4_0 cv4_0_0 cv4_0_1 zv4_1 cv4_1_0 cv4_1_1 zv4_2 cv4_2_0 cv4_2_1 zv4_3 cv4_3_0 cv4_3_1 zv4_4 cv4_4_0 cv4_4_1 cv4_4_2 cv4_4_3 cv4_4_4 cv4_4_5 cv4_4_6 cv4_4_7
  go_wp2_with fail
  go_at_call 26
  refine ((H6.out _)).mono ?_
  rintro e x2 ⟨rfl, hx2⟩
  have cx2_0_0 : x2.cell? ⟨W.heap.size, 0, none⟩ = some (.int .i64 ax) := cell_gr hx2 (by go_simp)
  have cx2_0_1 : x2.cell? ⟨W.heap.size, 1, none⟩ = some (.int .i64 ay) := cell_gr hx2 (by go_simp)
  have zx2_0 : W.heap.size < x2.heap.size := World.block_lt_of_cell? _ _ cx2_0_0
  have cx2_1_0 : x2.cell? ⟨W.heap.size + 1, 0, none⟩ = some (.int .i64 bx) := cell_gr hx2 (by go_simp)
  have cx2_1_1 : x2.cell? ⟨W.heap.size + 1, 1, none⟩ = some (.int .i64 by') := cell_gr hx2 (by go_simp)
  have zx2_1 : W.heap.size + 1 < x2.heap.size := World.block_lt_of_cell? _ _ cx2_1_0
  have cx2_2_0 : x2.cell? ⟨W.heap.size + 1 + 1, 0, none⟩ = some (.int .i64 cx) := cell_gr hx2 (by go_simp)
  have cx2_2_1 : x2.cell? ⟨W.heap.size + 1 + 1, 1, none⟩ = some (.int .i64 cy) := cell_gr hx2 (by go_simp)
  have zx2_2 : W.heap.size + 1 + 1 < x2.heap.size := World.block_lt_of_cell? _ _ cx2_2_0
  have cx2_3_0 : x2.cell? ⟨W.heap.size + 1 + 1 + 1, 0, none⟩ = some (.int .i64 dx) := cell_gr hx2 (by go_simp)
  have cx2_3_1 : x2.cell? ⟨W.heap.size + 1 + 1 + 1, 1, none⟩ = some (.int .i64 dy) := cell_gr hx2 (by go_simp)
  have zx2_3 : W.heap.size + 1 + 1 + 1 < x2.heap.size := World.block_lt_of_cell? _ _ cx2_3_0
  have cx2_4_0 : x2.cell? ⟨W.heap.size + 1 + 1 + 1 + 1, 0, none⟩ = some (.int .i64 ax) := cell_gr hx2 (by go_simp)
  have cx2_4_1 : x2.cell? ⟨W.heap.size + 1 + 1 + 1 + 1, 1, none⟩ = some (.int .i64 ay) := cell_gr hx2 (by go_simp)
  have cx2_4_2 : x2.cell? ⟨W.heap.size + 1 + 1 + 1 + 1, 2, none⟩ = some (.int .i64 bx) := cell_gr hx2 (by go_simp)
  have cx2_4_3 : x2.cell? ⟨W.heap.size + 1 + 1 + 1 + 1, 3, none⟩ = some (.int .i64 by') := cell_gr hx2 (by go_simp)
  have cx2_4_4 : x2.cell? ⟨W.heap.size + 1 + 1 + 1 + 1, 4, none⟩ = some (.int .i64 cx) := cell_gr hx2 (by go_simp)
  have cx2_4_5 : x2.cell? ⟨W.heap.size + 1 + 1 + 1 + 1, 5, none⟩ = some (.int .i64 cy) := cell_gr hx2 (by go_simp)
  have cx2_4_6 : x2.cell? ⟨W.heap.size + 1 + 1 + 1 + 1, 6, none⟩ = some (.int .i64 dx) := cell_gr hx2 (by go_simp)
  have cx2_4_7 : x2.cell? ⟨W.heap.size + 1 + 1 + 1 + 1, 7, none⟩ = some (.int .i64 dy) := cell_gr hx2 (by go_simp)
  have zx2_4 : W.heap.size + 1 + 1 + 1 + 1 < x2.heap.size := World.block_lt_of_cell? _ _ cx2_4_0
  have gx2 : Gr W x2 := Gr.trans (by have gg := gx1; have gs := gg.size; go_grown) hx2
  clear hx2 gx1 zx1_0 cx1_0_0 cx1_0_1 zx1_1 cx1_1_0 cx1_1_1 zx1_2 cx1_2_0 cx1_2_1 zx1_3 cx1_3_0 cx1_3_1 zx1_4 cx1_4_0 cx1_4_1 cx1_4_2 cx1_4_3 cx1_4_4 cx1_4_5 cx1_4_6 cx1_4_7
  go_wp2_with fail
  go_at_call 24
  refine ((H5.out _)).mono ?_
  rintro e x3 ⟨rfl, hx3⟩
  have cx3_0_0 : x3.cell? ⟨W.heap.size, 0, none⟩ = some (.int .i64 ax) := cell_gr hx3 (by go_simp)
  have cx3_0_1 : x3.cell? ⟨W.heap.size, 1, none⟩ = some (.int .i64 ay) := cell_gr hx3 (by go_simp)
  have zx3_0 : W.heap.size < x3.heap.size := World.block_lt_of_cell? _ _ cx3_0_0
  have cx3_1_0 : x3.cell? ⟨W.heap.size + 1, 0, none⟩ = some (.int .i64 bx) := cell_gr hx3 (by go_simp)
  have cx3_1_1 : x3.cell? ⟨W.heap.size + 1, 1, none⟩ = some (.int .i64 by') := cell_gr hx3 (by go_simp)
  have zx3_1 : W.heap.size + 1 < x3.heap.size := World.block_lt_of_cell? _ _ cx3_1_0
  have cx3_2_0 : x3.cell? ⟨W.heap.size + 1 + 1, 0, none⟩ = some (.int .i64 cx) := cell_gr hx3 (by go_simp)
  have cx3_2_1 : x3.cell? ⟨W.heap.size + 1 + 1, 1, none⟩ = some (.int .i64 cy) := cell_gr hx3 (by go_simp)
  have zx3_2 : W.heap.size + 1 + 1 < x3.heap.size := World.block_lt_of_cell? _ _ cx3_2_0
  have cx3_3_0 : x3.cell? ⟨W.heap.size + 1 + 1 + 1, 0, none⟩ = some (.int .i64 dx) := cell_gr hx3 (by go_simp)
  have cx3_3_1 : x3.cell? ⟨W.heap.size + 1 + 1 + 1, 1, none⟩ = some (.int .i64 dy) := cell_gr hx3 (by go_simp)
  have zx3_3 : W.heap.size + 1 + 1 + 1 < x3.heap.size := World.block_lt_of_cell? _ _ cx3_3_0
  have cx3_4_0 : x3.cell? ⟨W.heap.size + 1 + 1 + 1 + 1, 0, none⟩ = some (.int .i64 ax) := cell_gr hx3 (by go_simp)
  have cx3_4_1 : x3.cell? ⟨W.heap.size + 1 + 1 + 1 + 1, 1, none⟩ = some (.int .i64 ay) := cell_gr hx3 (by go_simp)
  have cx3_4_2 : x3.cell? ⟨W.heap.size + 1 + 1 + 1 + 1, 2, none⟩ = some (.int .i64 bx) := cell_gr hx3 (by go_simp)
  have cx3_4_3 : x3.cell? ⟨W.heap.size + 1 + 1 + 1 + 1, 3, none⟩ = some (.int .i64 by') := cell_gr hx3 (by go_simp)
  have cx3_4_4 : x3.cell? ⟨W.heap.size + 1 + 1 + 1 + 1, 4, none⟩ = some (.int .i64 cx) := cell_gr hx3 (by go_simp)
  have cx3_4_5 : x3.cell? ⟨W.heap.size + 1 + 1 + 1 + 1, 5, none⟩ = some (.int .i64 cy) := cell_gr hx3 (by go_simp)
  have cx3_4_6 : x3.cell? ⟨W.heap.size + 1 + 1 + 1 + 1, 6, none⟩ = some (.int .i64 dx) := cell_gr hx3 (by go_simp)
  have cx3_4_7 : x3.cell? ⟨W.heap.size + 1 + 1 + 1 + 1, 7, none⟩ = some (.int .i64 dy) := cell_gr hx3 (by go_simp)
  have zx3_4 : W.heap.size + 1 + 1 + 1 + 1 < x3.heap.size := World.block_lt_of_cell? _ _ cx3_4_0
  have gx3 : Gr W x3 := Gr.trans (by have gg := gx2; have gs := gg.size; go_grown) hx3
  clear hx3 gx2 zx2_0 cx2_0_0 cx2_0_1 zx2_1 cx2_1_0 cx2_1_1 zx2_2 cx2_2_0 cx2_2_1 zx2_3 cx2_3_0 cx2_3_1 zx2_4 cx2_4_0 cx2_4_1 cx2_4_2 cx2_4_3 cx2_4_4 cx2_4_5 cx2_4_6 cx2_4_7
  go_wp2_with fail
  go_at_call 32
  refine ((s4_awake _)).mono ?_
  rintro e x4 ⟨rfl, hx4⟩
  have cx4_0_0 : x4.cell? ⟨W.heap.size, 0, none⟩ = some (.int .i64 ax) := cell_gr hx4 (by go_simp)
  have cx4_0_1 : x4.cell? ⟨W.heap.size, 1, none⟩ = some (.int .i64 ay) := cell_gr hx4 (by go_simp)
  have zx4_0 : W.heap.size < x4.heap.size := World.block_lt_of_cell? _ _ cx4_0_0
  have cx4_1_0 : x4.cell? ⟨W.heap.size + 1, 0, none⟩ = some (.int .i64 bx) := cell_gr hx4 (by go_simp)
  have cx4_1_1 : x4.cell? ⟨W.heap.size + 1, 1, none⟩ = some (.int .i64 by') := cell_gr hx4 (by go_simp)
  have zx4_1 : W.heap.size + 1 < x4.heap.size := World.block_lt_of_cell? _ _ cx4_1_0
  have cx4_2_0 : x4.cell? ⟨W.heap.size + 1 + 1, 0, none⟩ = some (.int .i64 cx) := cell_gr hx4 (by go_simp)
  have cx4_2_1 : x4.cell? ⟨W.heap.size + 1 + 1, 1, none⟩ = some (.int .i64 cy) := cell_gr hx4 (by go_simp)
  have zx4_2 : W.heap.size + 1 + 1 < x4.heap.size := World.block_lt_of_cell? _ _ cx4_2_0
  have cx4_3_0 : x4.cell? ⟨W.heap.size + 1 + 1 + 1, 0, none⟩ = some (.int .i64 dx) := cell_gr hx4 (by go_simp)
  have cx4_3_1 : x4.cell? ⟨W.heap.size + 1 + 1 + 1, 1, none⟩ = some (.int .i64 dy) := cell_gr hx4 (by go_simp)
  have zx4_3 : W.heap.size + 1 + 1 + 1 < x4.heap.size := World.block_lt_of_cell? _ _ cx4_3_0
  have cx4_4_0 : x4.cell? ⟨W.heap.size + 1 + 1 + 1 + 1, 0, none⟩ = some (.int .i64 ax) := cell_gr hx4 (by go_simp)
  have cx4_4_1 : x4.cell? ⟨W.heap.size + 1 + 1 + 1 + 1, 1, none⟩ = some (.int .i64 ay) := cell_gr hx4 (by go_simp)
  have cx4_4_2 : x4.cell? ⟨W.heap.size + 1 + 1 + 1 + 1, 2, none⟩ = some (.int .i64 bx) := cell_gr hx4 (by go_simp)
  have cx4_4_3 : x4.cell? ⟨W.heap.size + 1 + 1 + 1 + 1, 3, none⟩ = some (.int .i64 by') := cell_gr hx4 (by go_simp)
  have cx4_4_4 : x4.cell? ⟨W.heap.size + 1 + 1 + 1 + 1, 4, none⟩ = some (.int .i64 cx) := cell_gr hx4 (by go_simp)
  have cx4_4_5 : x4.cell? ⟨W.heap.size + 1 + 1 + 1 + 1, 5, none⟩ = some (.int .i64 cy) := cell_gr hx4 (by go_simp)
  have cx4_4_6 : x4.cell? ⟨W.heap.size + 1 + 1 + 1 + 1, 6, none⟩ = some (.int .i64 dx) := cell_gr hx4 (by go_simp)
  have cx4_4_7 : x4.cell? ⟨W.heap.size + 1 + 1 + 1 + 1, 7, none⟩ = some (.int .i64 dy) := cell_gr hx4 (by go_simp)
  have zx4_4 : W.heap.size + 1 + 1 + 1 + 1 < x4.heap.size := World.block_lt_of_cell? _ _ cx4_4_0
  have gx4 : Gr W x4 := Gr.trans (by have gg := gx3; have gs := gg.size; go_grown) hx4
  clear hx4 gx3 zx3_0 cx3_0_0 cx3_0_1 zx3_1 cx3_1_0 cx3_1_1 zx3_2 cx3_2_0 cx3_2_1 zx3_3 cx3_3_0 cx3_3_1 zx3_4 cx3_4_0 cx3_4_1 cx3_4_2 cx3_4_3 cx3_4_4 cx3_4_5 cx3_4_6 cx3_4_7
  go_wp2_with fail
  go_ret
  exact ⟨rfl, by go_grown⟩
theorem walk_SegmCross (ax ay bx by' cx cy dx dy : Int) (h1 : (-9223372036854775808 ≤ ax ∧ ax ≤ 9223372036854775807) ∧ (-9223372036854775808 ≤ ay ∧ ay ≤ 9223372036854775807)) (h2 : (-9223372036854775808 ≤ bx ∧ bx ≤ 9223372036854775807) ∧ (-9223372036854775808 ≤ by' ∧ by' ≤ 9223372036854775807)) (h3 : (-9223372036854775808 ≤ cx ∧ cx ≤ 9223372036854775807) ∧ (-9223372036854775808 ≤ cy ∧ cy ≤ 9223372036854775807)) (h4 : (-9223372036854775808 ≤ dx ∧ dx ≤ 9223372036854775807) ∧ (-9223372036854775808 ≤ dy ∧ dy ≤ 9223372036854775807)) (W : World) :
    Calls Try.prog 9 #[.agg #[.int .i64 ax, .int .i64 ay], .agg #[.int .i64 bx, .int .i64 by'], .agg #[.int .i64 cx, .int .i64 cy], .agg #[.int .i64 dx, .int .i64 dy]] W fun e w' => e = .returned (.bool true) ∧ Gr W w' := by
  clear h1 h2 h3 h4
  have Q1 := c_rPoint ax ay
  have Q2 := c_rPoint bx by'
  have Q3 := c_rPoint cx cy
  have Q4 := c_rPoint dx dy
  have M := c_gMeet ax ay bx by' cx cy dx dy
  have R := c_gProper ax ay bx by' cx cy dx dy
  cases hq : all4 ax ay bx by' cx cy dx dy
  · have m : meG ax ay bx by' cx cy dx dy = false := by unfold meG; rw [hq]; rfl
    have r : prG ax ay bx by' cx cy dx dy = false := by unfold prG; rw [hq]; rfl
    rw [m] at M
    rw [r] at R
    refine cross_no ax ay bx by' cx cy dx dy _ _ _ _ W ?_ Q1 Q2 Q3 Q4 M R
    unfold all4 at hq
    cases g1 : nearB ax ay <;> cases g2 : nearB bx by' <;> cases g3 : nearB cx cy <;> cases g4 : nearB dx dy <;> simp_all
  · have hn : nearB ax ay = true ∧ nearB bx by' = true ∧ nearB cx cy = true ∧ nearB dx dy = true := by
      unfold all4 at hq
      simpa [and_assoc] using hq
    obtain ⟨n1, n2, n3, n4⟩ := hn
    have m : meG ax ay bx by' cx cy dx dy = meF ax ay bx by' cx cy dx dy := by unfold meG; rw [hq]; rfl
    have r : prG ax ay bx by' cx cy dx dy = prF ax ay bx by' cx cy dx dy := by unfold prG; rw [hq]; rfl
    rw [m] at M
    rw [r] at R
    have O1 := c_gOn ax ay bx by' cx cy
    have O2 := c_gOn ax ay bx by' dx dy
    have O3 := c_gOn cx cy dx dy ax ay
    have O4 := c_gOn cx cy dx dy bx by'
    unfold onG at O1 O2 O3 O4
    rw [n1, n2, n3] at O1
    rw [n1, n2, n4] at O2
    rw [n3, n4, n1] at O3
    rw [n3, n4, n2] at O4
    simp only [Bool.and_self, Bool.true_and] at O1 O2 O3 O4
    have K1 := c_rOrient ax ay bx by' cx cy
    have K2 := c_rOrient ax ay bx by' dx dy
    have K3 := c_rOrient cx cy dx dy ax ay
    have K4 := c_rOrient cx cy dx dy bx by'
    have f1 : cmpZ (crossZ ax ay bx by' cx cy) 0 = sg ax ay bx by' cx cy := orZ_sg ⟨n1, n2, n3⟩
    have f2 : cmpZ (crossZ ax ay bx by' dx dy) 0 = sg ax ay bx by' dx dy := orZ_sg ⟨n1, n2, n4⟩
    have f3 : cmpZ (crossZ cx cy dx dy ax ay) 0 = sg cx cy dx dy ax ay := orZ_sg ⟨n3, n4, n1⟩
    have f4 : cmpZ (crossZ cx cy dx dy bx by') 0 = sg cx cy dx dy bx by' := orZ_sg ⟨n3, n4, n2⟩
    rw [f1] at K1
    rw [f2] at K2
    rw [f3] at K3
    rw [f4] at K4
    have hs : ∀ a b c d e f, sg a b c d e f = -1 ∨ sg a b c d e f = 0 ∨ sg a b c d e f = 1 := fun a b c d e f => by
      rcases sg_cases a b c d e f with h | h | h <;> simp [h.1]
    have b1 := mul3 (hs ax ay bx by' cx cy) (hs ax ay bx by' dx dy)
    have b2 := mul3 (hs cx cy dx dy ax ay) (hs cx cy dx dy bx by')
    rw [n1] at Q1
    rw [n2] at Q2
    rw [n3] at Q3
    rw [n4] at Q4
    have pe := @pr_en ax ay bx by' cx cy dx dy
    have me : meF ax ay bx by' cx cy dx dy = (prF ax ay bx by' cx cy dx dy || enF ax ay bx by' cx cy dx dy) := rfl
    have pd : prF ax ay bx by' cx cy dx dy = ((sg ax ay bx by' cx cy * sg ax ay bx by' dx dy == -1) && (sg cx cy dx dy ax ay * sg cx cy dx dy bx by' == -1)) := rfl
    have ed : enF ax ay bx by' cx cy dx dy = (onF ax ay bx by' cx cy || onF ax ay bx by' dx dy || onF cx cy dx dy ax ay || onF cx cy dx dy bx by') := rfl
    generalize meF ax ay bx by' cx cy dx dy = mm at *
    generalize prF ax ay bx by' cx cy dx dy = pp at *
    generalize enF ax ay bx by' cx cy dx dy = ee at *
    generalize onF ax ay bx by' cx cy = o1 at *
    generalize onF ax ay bx by' dx dy = o2 at *
    generalize onF cx cy dx dy ax ay = o3 at *
    generalize onF cx cy dx dy bx by' = o4 at *
    generalize sg ax ay bx by' cx cy = k1 at *
    generalize sg ax ay bx by' dx dy = k2 at *
    generalize sg cx cy dx dy ax ay = k3 at *
    generalize sg cx cy dx dy bx by' = k4 at *
    have w1 : wrap64 (k1 * k2) = k1 * k2 := IntWalk.wrap64_in _ (by omega)
    have w2 : IntKind.i64.wrap (k1 * k2) = k1 * k2 := IntWalk.i64_in _ (by omega)
    have w3 : wrap64 (k3 * k4) = k3 * k4 := IntWalk.wrap64_in _ (by omega)
    have w4 : IntKind.i64.wrap (k3 * k4) = k3 * k4 := IntWalk.i64_in _ (by omega)
    cases t1 : (k1 * k2 == -1)
    · rw [t1, Bool.false_and] at pd
      subst pd
      rw [Bool.false_or] at me
      subst me
      cases o1
      · cases o2
        · cases o3
          · cases o4
            · obtain rfl : mm = false := ed
              exact cross_n1e ax ay bx by' cx cy dx dy k1 k2 k3 k4 _ _ W w1 w2 w3 w4 t1 Q1 Q2 Q3 Q4 M R O1 O2 O3 O4 K1 K2 K3 K4
            · obtain rfl : mm = true := ed
              exact cross_n1d ax ay bx by' cx cy dx dy k1 k2 k3 k4 _ _ W w1 w2 w3 w4 t1 Q1 Q2 Q3 Q4 M R O1 O2 O3 O4 K1 K2 K3 K4
          · obtain rfl : mm = true := by rw [ed]; rfl
            exact cross_n1c ax ay bx by' cx cy dx dy k1 k2 k3 k4 _ _ W w1 w2 w3 w4 t1 Q1 Q2 Q3 Q4 M R O1 O2 O3 K1 K2 K3 K4
        · obtain rfl : mm = true := by rw [ed]; rfl
          exact cross_n1b ax ay bx by' cx cy dx dy k1 k2 k3 k4 _ _ W w1 w2 w3 w4 t1 Q1 Q2 Q3 Q4 M R O1 O2 K1 K2 K3 K4
      · obtain rfl : mm = true := by rw [ed]; rfl
        exact cross_n1a ax ay bx by' cx cy dx dy k1 k2 k3 k4 _ _ W w1 w2 w3 w4 t1 Q1 Q2 Q3 Q4 M R O1 K1 K2 K3 K4
    · cases t2 : (k3 * k4 == -1)
      · rw [t1, t2, Bool.and_false] at pd
        subst pd
        rw [Bool.false_or] at me
        subst me
        cases o1
        · cases o2
          · cases o3
            · cases o4
              · obtain rfl : mm = false := ed
                exact cross_n2e ax ay bx by' cx cy dx dy k1 k2 k3 k4 _ _ W w1 w2 w3 w4 t1 t2 Q1 Q2 Q3 Q4 M R O1 O2 O3 O4 K1 K2 K3 K4
              · obtain rfl : mm = true := ed
                exact cross_n2d ax ay bx by' cx cy dx dy k1 k2 k3 k4 _ _ W w1 w2 w3 w4 t1 t2 Q1 Q2 Q3 Q4 M R O1 O2 O3 O4 K1 K2 K3 K4
            · obtain rfl : mm = true := by rw [ed]; rfl
              exact cross_n2c ax ay bx by' cx cy dx dy k1 k2 k3 k4 _ _ W w1 w2 w3 w4 t1 t2 Q1 Q2 Q3 Q4 M R O1 O2 O3 K1 K2 K3 K4
          · obtain rfl : mm = true := by rw [ed]; rfl
            exact cross_n2b ax ay bx by' cx cy dx dy k1 k2 k3 k4 _ _ W w1 w2 w3 w4 t1 t2 Q1 Q2 Q3 Q4 M R O1 O2 K1 K2 K3 K4
        · obtain rfl : mm = true := by rw [ed]; rfl
          exact cross_n2a ax ay bx by' cx cy dx dy k1 k2 k3 k4 _ _ W w1 w2 w3 w4 t1 t2 Q1 Q2 Q3 Q4 M R O1 K1 K2 K3 K4
      · rw [t1, t2, Bool.and_self] at pd
        subst pd
        rw [Bool.true_or] at me
        subst me
        have e0 := pe rfl
        rw [ed] at e0
        obtain ⟨rfl, rfl, rfl, rfl⟩ : o1 = false ∧ o2 = false ∧ o3 = false ∧ o4 = false := by simpa [and_assoc] using e0
        exact cross_ye ax ay bx by' cx cy dx dy k1 k2 k3 k4 _ _ W w1 w2 w3 w4 t1 t2 Q1 Q2 Q3 Q4 M R O1 O2 O3 O4 K1 K2 K3 K4
end Go.Proofs.Ythjhhnolkiejpaa
