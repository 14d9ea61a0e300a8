/- RelKinds -/
import Derived.Test.YtagbodamehejmaaGreatDoorUg
import Derived.Test.YtagbodamehejmaaGreatDoorOb
namespace Go.Proofs.YtagbodamehejmaaGreatDoor
set_option linter.unusedVariables false
set_option linter.unusedSimpArgs false
open Go.ChangeShapes Go.WideShapes Go.ChangeAt Go.RowKit

set_option maxHeartbeats 16000000 in
set_option maxRecDepth 100000 in
theorem kinds_ok (x kq lx ly hx hy px py z : Int) (bd : Option Addr) (m bcap c : Nat) (q : Bool) (W : World) (hm : m ≤ 64)
    (A1 : ∀ w k v, Gr W w → BL w k v x 0 x 0 → Calls Tryz.prog 5 #[.agg #[.int .i64 k, v], qryV kq lx ly hx hy (.slice bd m bcap)] w fun e w' => e = .returned (.bool q) ∧ Gr w w')
    (A2 : ∀ w k v, Gr W w → BL w k v x 0 x 0 → Calls Tryz.prog 6 #[.agg #[.int .i64 k, v], .agg #[.int .i64 px, .int .i64 py]] w fun e w' => e = .returned (.agg #[.int .u64 0, .int .u64 z, .int .u64 1]) ∧ Gr w w')
    (A3 : ∀ w k v, BL w k v x 0 x 0 → Calls Tryz.prog 7 #[.agg #[.int .i64 k, v]] w fun e w' => e = .returned (.int .i64 (0 : Nat)) ∧ Gr w w')
    (A4 : ∀ w, Calls Tryz.prog 8 #[.agg #[.int .i64 px, .int .i64 py]] w fun e w' => e = .returned (.bool true) ∧ Gr w w')
    (A5 : ∀ w, Gr W w → Calls Tryz.prog 4 #[] w fun e w' => e = .returned (.bool true) ∧ Gr w w') :
    Calls Tryz.prog 3 #[.int .i64 x, qryV kq lx ly hx hy (.slice bd m bcap), .agg #[.int .i64 px, .int .i64 py]] W fun e w' => e = .returned (.bool true) ∧ Gr W w' := by
  have t1 : decide ((64 : Int) < (m : Int)) = false := decide_eq_false (by omega)
  have t2 : decide (64 < m) = false := decide_eq_false (by omega)
  have t3 : (q == q) = true := by simp
  have t4 : decide (q = q) = true := by simp
  have hD : ∀ w, (binOp .eql 35 (.agg #[.int .u64 0, .int .u64 z, .int .u64 1]) (.agg #[.int .u64 0, .int .u64 z, .int .u64 1])).run Tryz.prog w = .ok (.bool true) w := fun w => by rw [eqDist]; simp
  have H1 := Lib.hid A1
  have H2 := Lib.hid A2
  have H3 := Lib.hid A3
  have H4 := Lib.hid A4
  have H5 := Lib.hid A5
  clear A1 A2 A3 A4 A5
  clear hm
  go_enter Tryz.func3, Tryz.ntmps3
  go_wp2_with fail
  go_at_call 5
  refine ((H1.out _ _ _ (by go_grown) (bl_1 (by go_simp) (by go_simp)))).mono ?_
  rintro e w1 ⟨rfl, hw1⟩
  have cw1_0_0 : w1.cell? ⟨W.heap.size, 0, none⟩ = some (.int .i64 kq) := cell_gr hw1 (by go_simp)
  have cw1_0_1 : w1.cell? ⟨W.heap.size, 1, none⟩ = some (.int .i64 lx) := cell_gr hw1 (by go_simp)
  have cw1_0_2 : w1.cell? ⟨W.heap.size, 2, none⟩ = some (.int .i64 ly) := cell_gr hw1 (by go_simp)
  have cw1_0_3 : w1.cell? ⟨W.heap.size, 3, none⟩ = some (.int .i64 hx) := cell_gr hw1 (by go_simp)
  have cw1_0_4 : w1.cell? ⟨W.heap.size, 4, none⟩ = some (.int .i64 hy) := cell_gr hw1 (by go_simp)
  have cw1_0_5 : w1.cell? ⟨W.heap.size, 5, none⟩ = some (.slice bd m bcap) := cell_gr hw1 (by go_simp)
  have zw1_0 : W.heap.size < w1.heap.size := World.block_lt_of_cell? _ _ cw1_0_0
  have cw1_1_0 : w1.cell? ⟨W.heap.size + 1, 0, none⟩ = some (.int .i64 px) := cell_gr hw1 (by go_simp)
  have cw1_1_1 : w1.cell? ⟨W.heap.size + 1, 1, none⟩ = some (.int .i64 py) := cell_gr hw1 (by go_simp)
  have zw1_1 : W.heap.size + 1 < w1.heap.size := World.block_lt_of_cell? _ _ cw1_1_0
  have cw1_2_0 : w1.cell? ⟨W.heap.size + 1 + 1, 0, none⟩ = some (.int .i64 x) := cell_gr hw1 (by go_simp)
  have cw1_2_1 : w1.cell? ⟨W.heap.size + 1 + 1, 1, none⟩ = some (.int .i64 0) := cell_gr hw1 (by go_simp)
  have zw1_2 : W.heap.size + 1 + 1 < w1.heap.size := World.block_lt_of_cell? _ _ cw1_2_0
  have cw1_3_0 : w1.cell? ⟨W.heap.size + 1 + 1 + 1, 0, none⟩ = some (.int .i64 1) := cell_gr hw1 (by go_simp)
  have cw1_3_1 : w1.cell? ⟨W.heap.size + 1 + 1 + 1, 1, none⟩ = some (.slice (some ⟨W.heap.size + 1 + 1, 0, none⟩) 1 1) := cell_gr hw1 (by go_simp)
  have zw1_3 : W.heap.size + 1 + 1 + 1 < w1.heap.size := World.block_lt_of_cell? _ _ cw1_3_0
  have cw1_4_0 : w1.cell? ⟨W.heap.size + 1 + 1 + 1 + 1, 0, none⟩ = some (.int .i64 x) := cell_gr hw1 (by go_simp)
  have cw1_4_1 : w1.cell? ⟨W.heap.size + 1 + 1 + 1 + 1, 1, none⟩ = some (.int .i64 x) := cell_gr hw1 (by go_simp)
  have zw1_4 : W.heap.size + 1 + 1 + 1 + 1 < w1.heap.size := World.block_lt_of_cell? _ _ cw1_4_0
  have cw1_5_0 : w1.cell? ⟨W.heap.size + 1 + 1 + 1 + 1 + 1, 0, none⟩ = some (.int .i64 2) := cell_gr hw1 (by go_simp)
  have cw1_5_1 : w1.cell? ⟨W.heap.size + 1 + 1 + 1 + 1 + 1, 1, none⟩ = some (.slice (some ⟨W.heap.size + 1 + 1 + 1 + 1, 0, none⟩) 1 1) := cell_gr hw1 (by go_simp)
  have zw1_5 : W.heap.size + 1 + 1 + 1 + 1 + 1 < w1.heap.size := World.block_lt_of_cell? _ _ cw1_5_0
  have cw1_6_0 : w1.cell? ⟨W.heap.size + 1 + 1 + 1 + 1 + 1 + 1, 0, none⟩ = some (.int .i64 x) := cell_gr hw1 (by go_simp)
  have cw1_6_1 : w1.cell? ⟨W.heap.size + 1 + 1 + 1 + 1 + 1 + 1, 1, none⟩ = some (.int .i64 0) := cell_gr hw1 (by go_simp)
  have cw1_6_2 : w1.cell? ⟨W.heap.size + 1 + 1 + 1 + 1 + 1 + 1, 2, none⟩ = some (.int .i64 x) := cell_gr hw1 (by go_simp)
  have cw1_6_3 : w1.cell? ⟨W.heap.size + 1 + 1 + 1 + 1 + 1 + 1, 3, none⟩ = some (.int .i64 0) := cell_gr hw1 (by go_simp)
  have zw1_6 : W.heap.size + 1 + 1 + 1 + 1 + 1 + 1 < w1.heap.size := World.block_lt_of_cell? _ _ cw1_6_0
  have cw1_7_0 : w1.cell? ⟨W.heap.size + 1 + 1 + 1 + 1 + 1 + 1 + 1, 0, none⟩ = some (.int .i64 3) := cell_gr hw1 (by go_simp)
  have cw1_7_1 : w1.cell? ⟨W.heap.size + 1 + 1 + 1 + 1 + 1 + 1 + 1, 1, none⟩ = some (.slice (some ⟨W.heap.size + 1 + 1 + 1 + 1 + 1 + 1, 0, none⟩) 2 2) := cell_gr hw1 (by go_simp)
  have zw1_7 : W.heap.size + 1 + 1 + 1 + 1 + 1 + 1 + 1 < w1.heap.size := World.block_lt_of_cell? _ _ cw1_7_0
  have gw1 : Gr W w1 := Gr.trans (by go_grown) hw1
  clear hw1
  go_wp2_with fail
  go_at_call 6
  refine ((H2.out _ _ _ (by have gg := gw1; have gs := gg.size; go_grown) (bl_1 (by go_simp) (by go_simp)))).mono ?_
  rintro e w2 ⟨rfl, hw2⟩
  have cw2_0_0 : w2.cell? ⟨W.heap.size, 0, none⟩ = some (.int .i64 kq) := cell_gr hw2 (by go_simp)
  have cw2_0_1 : w2.cell? ⟨W.heap.size, 1, none⟩ = some (.int .i64 lx) := cell_gr hw2 (by go_simp)
  have cw2_0_2 : w2.cell? ⟨W.heap.size, 2, none⟩ = some (.int .i64 ly) := cell_gr hw2 (by go_simp)
  have cw2_0_3 : w2.cell? ⟨W.heap.size, 3, none⟩ = some (.int .i64 hx) := cell_gr hw2 (by go_simp)
  have cw2_0_4 : w2.cell? ⟨W.heap.size, 4, none⟩ = some (.int .i64 hy) := cell_gr hw2 (by go_simp)
  have cw2_0_5 : w2.cell? ⟨W.heap.size, 5, none⟩ = some (.slice bd m bcap) := cell_gr hw2 (by go_simp)
  have zw2_0 : W.heap.size < w2.heap.size := World.block_lt_of_cell? _ _ cw2_0_0
  have cw2_1_0 : w2.cell? ⟨W.heap.size + 1, 0, none⟩ = some (.int .i64 px) := cell_gr hw2 (by go_simp)
  have cw2_1_1 : w2.cell? ⟨W.heap.size + 1, 1, none⟩ = some (.int .i64 py) := cell_gr hw2 (by go_simp)
  have zw2_1 : W.heap.size + 1 < w2.heap.size := World.block_lt_of_cell? _ _ cw2_1_0
  have cw2_2_0 : w2.cell? ⟨W.heap.size + 1 + 1, 0, none⟩ = some (.int .i64 x) := cell_gr hw2 (by go_simp)
  have cw2_2_1 : w2.cell? ⟨W.heap.size + 1 + 1, 1, none⟩ = some (.int .i64 0) := cell_gr hw2 (by go_simp)
  have zw2_2 : W.heap.size + 1 + 1 < w2.heap.size := World.block_lt_of_cell? _ _ cw2_2_0
  have cw2_3_0 : w2.cell? ⟨W.heap.size + 1 + 1 + 1, 0, none⟩ = some (.int .i64 1) := cell_gr hw2 (by go_simp)
  have cw2_3_1 : w2.cell? ⟨W.heap.size + 1 + 1 + 1, 1, none⟩ = some (.slice (some ⟨W.heap.size + 1 + 1, 0, none⟩) 1 1) := cell_gr hw2 (by go_simp)
  have zw2_3 : W.heap.size + 1 + 1 + 1 < w2.heap.size := World.block_lt_of_cell? _ _ cw2_3_0
  have cw2_4_0 : w2.cell? ⟨W.heap.size + 1 + 1 + 1 + 1, 0, none⟩ = some (.int .i64 x) := cell_gr hw2 (by go_simp)
  have cw2_4_1 : w2.cell? ⟨W.heap.size + 1 + 1 + 1 + 1, 1, none⟩ = some (.int .i64 x) := cell_gr hw2 (by go_simp)
  have zw2_4 : W.heap.size + 1 + 1 + 1 + 1 < w2.heap.size := World.block_lt_of_cell? _ _ cw2_4_0
  have cw2_5_0 : w2.cell? ⟨W.heap.size + 1 + 1 + 1 + 1 + 1, 0, none⟩ = some (.int .i64 2) := cell_gr hw2 (by go_simp)
  have cw2_5_1 : w2.cell? ⟨W.heap.size + 1 + 1 + 1 + 1 + 1, 1, none⟩ = some (.slice (some ⟨W.heap.size + 1 + 1 + 1 + 1, 0, none⟩) 1 1) := cell_gr hw2 (by go_simp)
  have zw2_5 : W.heap.size + 1 + 1 + 1 + 1 + 1 < w2.heap.size := World.block_lt_of_cell? _ _ cw2_5_0
  have cw2_6_0 : w2.cell? ⟨W.heap.size + 1 + 1 + 1 + 1 + 1 + 1, 0, none⟩ = some (.int .i64 x) := cell_gr hw2 (by go_simp)
  have cw2_6_1 : w2.cell? ⟨W.heap.size + 1 + 1 + 1 + 1 + 1 + 1, 1, none⟩ = some (.int .i64 0) := cell_gr hw2 (by go_simp)
  have cw2_6_2 : w2.cell? ⟨W.heap.size + 1 + 1 + 1 + 1 + 1 + 1, 2, none⟩ = some (.int .i64 x) := cell_gr hw2 (by go_simp)
  have cw2_6_3 : w2.cell? ⟨W.heap.size + 1 + 1 + 1 + 1 + 1 + 1, 3, none⟩ = some (.int .i64 0) := cell_gr hw2 (by go_simp)
  have zw2_6 : W.heap.size + 1 + 1 + 1 + 1 + 1 + 1 < w2.heap.size := World.block_lt_of_cell? _ _ cw2_6_0
  have cw2_7_0 : w2.cell? ⟨W.heap.size + 1 + 1 + 1 + 1 + 1 + 1 + 1, 0, none⟩ = some (.int .i64 3) := cell_gr hw2 (by go_simp)
  have cw2_7_1 : w2.cell? ⟨W.heap.size + 1 + 1 + 1 + 1 + 1 + 1 + 1, 1, none⟩ = some (.slice (some ⟨W.heap.size + 1 + 1 + 1 + 1 + 1 + 1, 0, none⟩) 2 2) := cell_gr hw2 (by go_simp)
  have zw2_7 : W.heap.size + 1 + 1 + 1 + 1 + 1 + 1 + 1 < w2.heap.size := World.block_lt_of_cell? _ _ cw2_7_0
  have gw2 : Gr W w2 := Gr.trans (by have gg := gw1; have gs := gg.size; go_grown) hw2
  clear hw2 gw1 zw1_0 cw1_0_0 cw1_0_1 cw1_0_2 cw1_0_3 cw1_0_4 cw1_0_5 zw1_1 cw1_1_0 cw1_1_1 zw1_2 cw1_2_0 cw1_2_1 zw1_3 cw1_3_0 cw1_3_1 zw1_4 cw1_4_0 cw1_4_1 zw1_5 cw1_5_0 cw1_5_1 zw1_6 cw1_6_0 cw1_6_1 cw1_6_2 cw1_6_3 zw1_7 cw1_7_0 cw1_7_1
  go_wp2_with fail
  try simp only [List.append]
  refine Od.wp_region_ord [(0, false), (1, false), (3, false), (2, true), (4, false), (5, false), (6, false), (7, false), (9, false), (8, true), (10, false), (11, false), (12, false), (13, false), (14, false), (16, false), (15, true), (17, false), (18, false), (19, false), (20, false), (21, false), (23, false), (22, true), (24, false), (25, false), (26, false), (27, false), (28, false), (29, false), (30, false), (31, true), (32, false), (33, false), (34, false), (35, true), (36, false), (37, false), (38, false), (39, false), (40, false), (41, true), (42, false), (43, false)] (by kernel_rfl) (by kernel_rfl) ?_
  intro w3 hw3 KQ hKQ
  have cw3_0_0 : w3.cell? ⟨W.heap.size, 0, none⟩ = some (.int .i64 kq) := cell_gr hw3 (by go_simp)
  have cw3_0_1 : w3.cell? ⟨W.heap.size, 1, none⟩ = some (.int .i64 lx) := cell_gr hw3 (by go_simp)
  have cw3_0_2 : w3.cell? ⟨W.heap.size, 2, none⟩ = some (.int .i64 ly) := cell_gr hw3 (by go_simp)
  have cw3_0_3 : w3.cell? ⟨W.heap.size, 3, none⟩ = some (.int .i64 hx) := cell_gr hw3 (by go_simp)
  have cw3_0_4 : w3.cell? ⟨W.heap.size, 4, none⟩ = some (.int .i64 hy) := cell_gr hw3 (by go_simp)
  have cw3_0_5 : w3.cell? ⟨W.heap.size, 5, none⟩ = some (.slice bd m bcap) := cell_gr hw3 (by go_simp)
  have zw3_0 : W.heap.size < w3.heap.size := World.block_lt_of_cell? _ _ cw3_0_0
  have cw3_1_0 : w3.cell? ⟨W.heap.size + 1, 0, none⟩ = some (.int .i64 px) := cell_gr hw3 (by go_simp)
  have cw3_1_1 : w3.cell? ⟨W.heap.size + 1, 1, none⟩ = some (.int .i64 py) := cell_gr hw3 (by go_simp)
  have zw3_1 : W.heap.size + 1 < w3.heap.size := World.block_lt_of_cell? _ _ cw3_1_0
  have cw3_2_0 : w3.cell? ⟨W.heap.size + 1 + 1, 0, none⟩ = some (.int .i64 x) := cell_gr hw3 (by go_simp)
  have cw3_2_1 : w3.cell? ⟨W.heap.size + 1 + 1, 1, none⟩ = some (.int .i64 0) := cell_gr hw3 (by go_simp)
  have zw3_2 : W.heap.size + 1 + 1 < w3.heap.size := World.block_lt_of_cell? _ _ cw3_2_0
  have cw3_3_0 : w3.cell? ⟨W.heap.size + 1 + 1 + 1, 0, none⟩ = some (.int .i64 1) := cell_gr hw3 (by go_simp)
  have cw3_3_1 : w3.cell? ⟨W.heap.size + 1 + 1 + 1, 1, none⟩ = some (.slice (some ⟨W.heap.size + 1 + 1, 0, none⟩) 1 1) := cell_gr hw3 (by go_simp)
  have zw3_3 : W.heap.size + 1 + 1 + 1 < w3.heap.size := World.block_lt_of_cell? _ _ cw3_3_0
  have cw3_4_0 : w3.cell? ⟨W.heap.size + 1 + 1 + 1 + 1, 0, none⟩ = some (.int .i64 x) := cell_gr hw3 (by go_simp)
  have cw3_4_1 : w3.cell? ⟨W.heap.size + 1 + 1 + 1 + 1, 1, none⟩ = some (.int .i64 x) := cell_gr hw3 (by go_simp)
  have zw3_4 : W.heap.size + 1 + 1 + 1 + 1 < w3.heap.size := World.block_lt_of_cell? _ _ cw3_4_0
  have cw3_5_0 : w3.cell? ⟨W.heap.size + 1 + 1 + 1 + 1 + 1, 0, none⟩ = some (.int .i64 2) := cell_gr hw3 (by go_simp)
  have cw3_5_1 : w3.cell? ⟨W.heap.size + 1 + 1 + 1 + 1 + 1, 1, none⟩ = some (.slice (some ⟨W.heap.size + 1 + 1 + 1 + 1, 0, none⟩) 1 1) := cell_gr hw3 (by go_simp)
  have zw3_5 : W.heap.size + 1 + 1 + 1 + 1 + 1 < w3.heap.size := World.block_lt_of_cell? _ _ cw3_5_0
  have cw3_6_0 : w3.cell? ⟨W.heap.size + 1 + 1 + 1 + 1 + 1 + 1, 0, none⟩ = some (.int .i64 x) := cell_gr hw3 (by go_simp)
  have cw3_6_1 : w3.cell? ⟨W.heap.size + 1 + 1 + 1 + 1 + 1 + 1, 1, none⟩ = some (.int .i64 0) := cell_gr hw3 (by go_simp)
  have cw3_6_2 : w3.cell? ⟨W.heap.size + 1 + 1 + 1 + 1 + 1 + 1, 2, none⟩ = some (.int .i64 x) := cell_gr hw3 (by go_simp)
  have cw3_6_3 : w3.cell? ⟨W.heap.size + 1 + 1 + 1 + 1 + 1 + 1, 3, none⟩ = some (.int .i64 0) := cell_gr hw3 (by go_simp)
  have zw3_6 : W.heap.size + 1 + 1 + 1 + 1 + 1 + 1 < w3.heap.size := World.block_lt_of_cell? _ _ cw3_6_0
  have cw3_7_0 : w3.cell? ⟨W.heap.size + 1 + 1 + 1 + 1 + 1 + 1 + 1, 0, none⟩ = some (.int .i64 3) := cell_gr hw3 (by go_simp)
  have cw3_7_1 : w3.cell? ⟨W.heap.size + 1 + 1 + 1 + 1 + 1 + 1 + 1, 1, none⟩ = some (.slice (some ⟨W.heap.size + 1 + 1 + 1 + 1 + 1 + 1, 0, none⟩) 2 2) := cell_gr hw3 (by go_simp)
  have zw3_7 : W.heap.size + 1 + 1 + 1 + 1 + 1 + 1 + 1 < w3.heap.size := World.block_lt_of_cell? _ _ cw3_7_0
  have cw3_8_0 : w3.cell? ⟨w2.heap.size, 0, none⟩ = some (.int .u64 0) := cell_gr hw3 (by go_simp)
  have cw3_8_1 : w3.cell? ⟨w2.heap.size, 1, none⟩ = some (.int .u64 z) := cell_gr hw3 (by go_simp)
  have cw3_8_2 : w3.cell? ⟨w2.heap.size, 2, none⟩ = some (.int .u64 1) := cell_gr hw3 (by go_simp)
  have zw3_8 : w2.heap.size < w3.heap.size := World.block_lt_of_cell? _ _ cw3_8_0
  have gw3 : Gr W w3 := Gr.trans (by have gg := gw2; have gs := gg.size; go_grown) hw3
  clear gw2 zw2_0 cw2_0_0 cw2_0_1 cw2_0_2 cw2_0_3 cw2_0_4 cw2_0_5 zw2_1 cw2_1_0 cw2_1_1 zw2_2 cw2_2_0 cw2_2_1 zw2_3 cw2_3_0 cw2_3_1 zw2_4 cw2_4_0 cw2_4_1 zw2_5 cw2_5_0 cw2_5_1 zw2_6 cw2_6_0 cw2_6_1 cw2_6_2 cw2_6_3 zw2_7 cw2_7_0 cw2_7_1
  clear hw3
  repeat (first | (refine Od.wpO_skip (by simp only [List.getElem?_toArray, List.getElem?_cons_succ, List.getElem?_cons_zero] <;> rfl) rfl ?_; simp only [Act.put, List.setIfInBounds_toArray, List.set_cons_zero, List.set_cons_succ]) | (refine Od.wpO_pure (by simp only [List.getElem?_toArray, List.getElem?_cons_succ, List.getElem?_cons_zero] <;> rfl) rfl ?_; apply Exists.intro; refine ⟨?_, ?_⟩; (· intro wx gx; obtain ⟨mx, rfl⟩ := spread_of_gr gx; clear gx; all_goals (apply Od.pAt_of_quiet; intro K hK; go_big_quiet_op; first | exact hK _ rfl | (apply Exists.intro; refine ⟨fun _ => ?_, ?_⟩; (· fail); exact hK _ rfl))); try simp only [Act.put, List.setIfInBounds_toArray, List.set_cons_zero, List.set_cons_succ]))
  refine Od.wpO_call (by simp only [List.getElem?_toArray, List.getElem?_cons_succ, List.getElem?_cons_zero] <;> rfl) rfl ?_
  intro QS hQS
  go_wp2_with fail
  go_at_call 5
  (with_reducible refine ((H1.out _ _ _ gw3 (bl_2 cw3_4_0 cw3_4_1))).mono ?_)
  rintro e w4 ⟨rfl, hw4⟩
  go_wp2_with fail
  apply Exists.intro
  refine ⟨?_, hw4, ?_⟩
  · simp only [Act.put, List.setIfInBounds_toArray, List.set_cons_zero, List.set_cons_succ]; rfl
  have cw4_0_0 : w4.cell? ⟨W.heap.size, 0, none⟩ = some (.int .i64 kq) := cell_gr hw4 (by go_simp)
  have cw4_0_1 : w4.cell? ⟨W.heap.size, 1, none⟩ = some (.int .i64 lx) := cell_gr hw4 (by go_simp)
  have cw4_0_2 : w4.cell? ⟨W.heap.size, 2, none⟩ = some (.int .i64 ly) := cell_gr hw4 (by go_simp)
  have cw4_0_3 : w4.cell? ⟨W.heap.size, 3, none⟩ = some (.int .i64 hx) := cell_gr hw4 (by go_simp)
  have cw4_0_4 : w4.cell? ⟨W.heap.size, 4, none⟩ = some (.int .i64 hy) := cell_gr hw4 (by go_simp)
  have cw4_0_5 : w4.cell? ⟨W.heap.size, 5, none⟩ = some (.slice bd m bcap) := cell_gr hw4 (by go_simp)
  have zw4_0 : W.heap.size < w4.heap.size := World.block_lt_of_cell? _ _ cw4_0_0
  have cw4_1_0 : w4.cell? ⟨W.heap.size + 1, 0, none⟩ = some (.int .i64 px) := cell_gr hw4 (by go_simp)
  have cw4_1_1 : w4.cell? ⟨W.heap.size + 1, 1, none⟩ = some (.int .i64 py) := cell_gr hw4 (by go_simp)
  have zw4_1 : W.heap.size + 1 < w4.heap.size := World.block_lt_of_cell? _ _ cw4_1_0
  have cw4_2_0 : w4.cell? ⟨W.heap.size + 1 + 1, 0, none⟩ = some (.int .i64 x) := cell_gr hw4 (by go_simp)
  have cw4_2_1 : w4.cell? ⟨W.heap.size + 1 + 1, 1, none⟩ = some (.int .i64 0) := cell_gr hw4 (by go_simp)
  have zw4_2 : W.heap.size + 1 + 1 < w4.heap.size := World.block_lt_of_cell? _ _ cw4_2_0
  have cw4_3_0 : w4.cell? ⟨W.heap.size + 1 + 1 + 1, 0, none⟩ = some (.int .i64 1) := cell_gr hw4 (by go_simp)
  have cw4_3_1 : w4.cell? ⟨W.heap.size + 1 + 1 + 1, 1, none⟩ = some (.slice (some ⟨W.heap.size + 1 + 1, 0, none⟩) 1 1) := cell_gr hw4 (by go_simp)
  have zw4_3 : W.heap.size + 1 + 1 + 1 < w4.heap.size := World.block_lt_of_cell? _ _ cw4_3_0
  have cw4_4_0 : w4.cell? ⟨W.heap.size + 1 + 1 + 1 + 1, 0, none⟩ = some (.int .i64 x) := cell_gr hw4 (by go_simp)
  have cw4_4_1 : w4.cell? ⟨W.heap.size + 1 + 1 + 1 + 1, 1, none⟩ = some (.int .i64 x) := cell_gr hw4 (by go_simp)
  have zw4_4 : W.heap.size + 1 + 1 + 1 + 1 < w4.heap.size := World.block_lt_of_cell? _ _ cw4_4_0
  have cw4_5_0 : w4.cell? ⟨W.heap.size + 1 + 1 + 1 + 1 + 1, 0, none⟩ = some (.int .i64 2) := cell_gr hw4 (by go_simp)
  have cw4_5_1 : w4.cell? ⟨W.heap.size + 1 + 1 + 1 + 1 + 1, 1, none⟩ = some (.slice (some ⟨W.heap.size + 1 + 1 + 1 + 1, 0, none⟩) 1 1) := cell_gr hw4 (by go_simp)
  have zw4_5 : W.heap.size + 1 + 1 + 1 + 1 + 1 < w4.heap.size := World.block_lt_of_cell? _ _ cw4_5_0
  have cw4_6_0 : w4.cell? ⟨W.heap.size + 1 + 1 + 1 + 1 + 1 + 1, 0, none⟩ = some (.int .i64 x) := cell_gr hw4 (by go_simp)
  have cw4_6_1 : w4.cell? ⟨W.heap.size + 1 + 1 + 1 + 1 + 1 + 1, 1, none⟩ = some (.int .i64 0) := cell_gr hw4 (by go_simp)
  have cw4_6_2 : w4.cell? ⟨W.heap.size + 1 + 1 + 1 + 1 + 1 + 1, 2, none⟩ = some (.int .i64 x) := cell_gr hw4 (by go_simp)
  have cw4_6_3 : w4.cell? ⟨W.heap.size + 1 + 1 + 1 + 1 + 1 + 1, 3, none⟩ = some (.int .i64 0) := cell_gr hw4 (by go_simp)
  have zw4_6 : W.heap.size + 1 + 1 + 1 + 1 + 1 + 1 < w4.heap.size := World.block_lt_of_cell? _ _ cw4_6_0
  have cw4_7_0 : w4.cell? ⟨W.heap.size + 1 + 1 + 1 + 1 + 1 + 1 + 1, 0, none⟩ = some (.int .i64 3) := cell_gr hw4 (by go_simp)
  have cw4_7_1 : w4.cell? ⟨W.heap.size + 1 + 1 + 1 + 1 + 1 + 1 + 1, 1, none⟩ = some (.slice (some ⟨W.heap.size + 1 + 1 + 1 + 1 + 1 + 1, 0, none⟩) 2 2) := cell_gr hw4 (by go_simp)
  have zw4_7 : W.heap.size + 1 + 1 + 1 + 1 + 1 + 1 + 1 < w4.heap.size := World.block_lt_of_cell? _ _ cw4_7_0
  have cw4_8_0 : w4.cell? ⟨w2.heap.size, 0, none⟩ = some (.int .u64 0) := cell_gr hw4 (by go_simp)
  have cw4_8_1 : w4.cell? ⟨w2.heap.size, 1, none⟩ = some (.int .u64 z) := cell_gr hw4 (by go_simp)
  have cw4_8_2 : w4.cell? ⟨w2.heap.size, 2, none⟩ = some (.int .u64 1) := cell_gr hw4 (by go_simp)
  have zw4_8 : w2.heap.size < w4.heap.size := World.block_lt_of_cell? _ _ cw4_8_0
  have gw4 : Gr W w4 := Gr.trans (by have gg := gw3; have gs := gg.size; go_grown) hw4
  clear gw3 zw3_0 cw3_0_0 cw3_0_1 cw3_0_2 cw3_0_3 cw3_0_4 cw3_0_5 zw3_1 cw3_1_0 cw3_1_1 zw3_2 cw3_2_0 cw3_2_1 zw3_3 cw3_3_0 cw3_3_1 zw3_4 cw3_4_0 cw3_4_1 zw3_5 cw3_5_0 cw3_5_1 zw3_6 cw3_6_0 cw3_6_1 cw3_6_2 cw3_6_3 zw3_7 cw3_7_0 cw3_7_1 zw3_8 cw3_8_0 cw3_8_1 cw3_8_2
  clear hw4
  try simp only [Act.put, List.setIfInBounds_toArray, List.set_cons_zero, List.set_cons_succ]
  repeat (first | (refine Od.wpO_skip (by simp only [List.getElem?_toArray, List.getElem?_cons_succ, List.getElem?_cons_zero] <;> rfl) rfl ?_; simp only [Act.put, List.setIfInBounds_toArray, List.set_cons_zero, List.set_cons_succ]) | (refine Od.wpO_pure (by simp only [List.getElem?_toArray, List.getElem?_cons_succ, List.getElem?_cons_zero] <;> rfl) rfl ?_; apply Exists.intro; refine ⟨?_, ?_⟩; (· intro wx gx; obtain ⟨mx, rfl⟩ := spread_of_gr gx; clear gx; all_goals (apply Od.pAt_of_quiet; intro K hK; go_big_quiet_op; first | exact hK _ rfl | (apply Exists.intro; refine ⟨fun _ => ?_, ?_⟩; (· fail); exact hK _ rfl))); try simp only [Act.put, List.setIfInBounds_toArray, List.set_cons_zero, List.set_cons_succ]))
  refine Od.wpO_call (by simp only [List.getElem?_toArray, List.getElem?_cons_succ, List.getElem?_cons_zero] <;> rfl) rfl ?_
  intro QS hQS
  go_wp2_with fail
  go_at_call 5
  (with_reducible refine ((H1.out _ _ _ gw4 (bl_3 cw4_6_0 cw4_6_1 cw4_6_2 cw4_6_3))).mono ?_)
  rintro e w5 ⟨rfl, hw5⟩
  go_wp2_with fail
  apply Exists.intro
  refine ⟨?_, hw5, ?_⟩
  · simp only [Act.put, List.setIfInBounds_toArray, List.set_cons_zero, List.set_cons_succ]; rfl
  have cw5_0_0 : w5.cell? ⟨W.heap.size, 0, none⟩ = some (.int .i64 kq) := cell_gr hw5 (by go_simp)
  have cw5_0_1 : w5.cell? ⟨W.heap.size, 1, none⟩ = some (.int .i64 lx) := cell_gr hw5 (by go_simp)
  have cw5_0_2 : w5.cell? ⟨W.heap.size, 2, none⟩ = some (.int .i64 ly) := cell_gr hw5 (by go_simp)
  have cw5_0_3 : w5.cell? ⟨W.heap.size, 3, none⟩ = some (.int .i64 hx) := cell_gr hw5 (by go_simp)
  have cw5_0_4 : w5.cell? ⟨W.heap.size, 4, none⟩ = some (.int .i64 hy) := cell_gr hw5 (by go_simp)
  have cw5_0_5 : w5.cell? ⟨W.heap.size, 5, none⟩ = some (.slice bd m bcap) := cell_gr hw5 (by go_simp)
  have zw5_0 : W.heap.size < w5.heap.size := World.block_lt_of_cell? _ _ cw5_0_0
  have cw5_1_0 : w5.cell? ⟨W.heap.size + 1, 0, none⟩ = some (.int .i64 px) := cell_gr hw5 (by go_simp)
  have cw5_1_1 : w5.cell? ⟨W.heap.size + 1, 1, none⟩ = some (.int .i64 py) := cell_gr hw5 (by go_simp)
  have zw5_1 : W.heap.size + 1 < w5.heap.size := World.block_lt_of_cell? _ _ cw5_1_0
  have cw5_2_0 : w5.cell? ⟨W.heap.size + 1 + 1, 0, none⟩ = some (.int .i64 x) := cell_gr hw5 (by go_simp)
  have cw5_2_1 : w5.cell? ⟨W.heap.size + 1 + 1, 1, none⟩ = some (.int .i64 0) := cell_gr hw5 (by go_simp)
  have zw5_2 : W.heap.size + 1 + 1 < w5.heap.size := World.block_lt_of_cell? _ _ cw5_2_0
  have cw5_3_0 : w5.cell? ⟨W.heap.size + 1 + 1 + 1, 0, none⟩ = some (.int .i64 1) := cell_gr hw5 (by go_simp)
  have cw5_3_1 : w5.cell? ⟨W.heap.size + 1 + 1 + 1, 1, none⟩ = some (.slice (some ⟨W.heap.size + 1 + 1, 0, none⟩) 1 1) := cell_gr hw5 (by go_simp)
  have zw5_3 : W.heap.size + 1 + 1 + 1 < w5.heap.size := World.block_lt_of_cell? _ _ cw5_3_0
  have cw5_4_0 : w5.cell? ⟨W.heap.size + 1 + 1 + 1 + 1, 0, none⟩ = some (.int .i64 x) := cell_gr hw5 (by go_simp)
  have cw5_4_1 : w5.cell? ⟨W.heap.size + 1 + 1 + 1 + 1, 1, none⟩ = some (.int .i64 x) := cell_gr hw5 (by go_simp)
  have zw5_4 : W.heap.size + 1 + 1 + 1 + 1 < w5.heap.size := World.block_lt_of_cell? _ _ cw5_4_0
  have cw5_5_0 : w5.cell? ⟨W.heap.size + 1 + 1 + 1 + 1 + 1, 0, none⟩ = some (.int .i64 2) := cell_gr hw5 (by go_simp)
  have cw5_5_1 : w5.cell? ⟨W.heap.size + 1 + 1 + 1 + 1 + 1, 1, none⟩ = some (.slice (some ⟨W.heap.size + 1 + 1 + 1 + 1, 0, none⟩) 1 1) := cell_gr hw5 (by go_simp)
  have zw5_5 : W.heap.size + 1 + 1 + 1 + 1 + 1 < w5.heap.size := World.block_lt_of_cell? _ _ cw5_5_0
  have cw5_6_0 : w5.cell? ⟨W.heap.size + 1 + 1 + 1 + 1 + 1 + 1, 0, none⟩ = some (.int .i64 x) := cell_gr hw5 (by go_simp)
  have cw5_6_1 : w5.cell? ⟨W.heap.size + 1 + 1 + 1 + 1 + 1 + 1, 1, none⟩ = some (.int .i64 0) := cell_gr hw5 (by go_simp)
  have cw5_6_2 : w5.cell? ⟨W.heap.size + 1 + 1 + 1 + 1 + 1 + 1, 2, none⟩ = some (.int .i64 x) := cell_gr hw5 (by go_simp)
  have cw5_6_3 : w5.cell? ⟨W.heap.size + 1 + 1 + 1 + 1 + 1 + 1, 3, none⟩ = some (.int .i64 0) := cell_gr hw5 (by go_simp)
  have zw5_6 : W.heap.size + 1 + 1 + 1 + 1 + 1 + 1 < w5.heap.size := World.block_lt_of_cell? _ _ cw5_6_0
  have cw5_7_0 : w5.cell? ⟨W.heap.size + 1 + 1 + 1 + 1 + 1 + 1 + 1, 0, none⟩ = some (.int .i64 3) := cell_gr hw5 (by go_simp)
  have cw5_7_1 : w5.cell? ⟨W.heap.size + 1 + 1 + 1 + 1 + 1 + 1 + 1, 1, none⟩ = some (.slice (some ⟨W.heap.size + 1 + 1 + 1 + 1 + 1 + 1, 0, none⟩) 2 2) := cell_gr hw5 (by go_simp)
  have zw5_7 : W.heap.size + 1 + 1 + 1 + 1 + 1 + 1 + 1 < w5.heap.size := World.block_lt_of_cell? _ _ cw5_7_0
  have cw5_8_0 : w5.cell? ⟨w2.heap.size, 0, none⟩ = some (.int .u64 0) := cell_gr hw5 (by go_simp)
  have cw5_8_1 : w5.cell? ⟨w2.heap.size, 1, none⟩ = some (.int .u64 z) := cell_gr hw5 (by go_simp)
  have cw5_8_2 : w5.cell? ⟨w2.heap.size, 2, none⟩ = some (.int .u64 1) := cell_gr hw5 (by go_simp)
  have zw5_8 : w2.heap.size < w5.heap.size := World.block_lt_of_cell? _ _ cw5_8_0
  have gw5 : Gr W w5 := Gr.trans (by have gg := gw4; have gs := gg.size; go_grown) hw5
  clear gw4 zw4_0 cw4_0_0 cw4_0_1 cw4_0_2 cw4_0_3 cw4_0_4 cw4_0_5 zw4_1 cw4_1_0 cw4_1_1 zw4_2 cw4_2_0 cw4_2_1 zw4_3 cw4_3_0 cw4_3_1 zw4_4 cw4_4_0 cw4_4_1 zw4_5 cw4_5_0 cw4_5_1 zw4_6 cw4_6_0 cw4_6_1 cw4_6_2 cw4_6_3 zw4_7 cw4_7_0 cw4_7_1 zw4_8 cw4_8_0 cw4_8_1 cw4_8_2
  clear hw5
  try simp only [Act.put, List.setIfInBounds_toArray, List.set_cons_zero, List.set_cons_succ]
  repeat (first | (refine Od.wpO_skip (by simp only [List.getElem?_toArray, List.getElem?_cons_succ, List.getElem?_cons_zero] <;> rfl) rfl ?_; simp only [Act.put, List.setIfInBounds_toArray, List.set_cons_zero, List.set_cons_succ]) | (refine Od.wpO_pure (by simp only [List.getElem?_toArray, List.getElem?_cons_succ, List.getElem?_cons_zero] <;> rfl) rfl ?_; apply Exists.intro; refine ⟨?_, ?_⟩; (· intro wx gx; obtain ⟨mx, rfl⟩ := spread_of_gr gx; clear gx; all_goals (apply Od.pAt_of_quiet; intro K hK; go_big_quiet_op; first | exact hK _ rfl | (apply Exists.intro; refine ⟨fun _ => ?_, ?_⟩; (· fail); exact hK _ rfl))); try simp only [Act.put, List.setIfInBounds_toArray, List.set_cons_zero, List.set_cons_succ]))
  refine Od.wpO_call (by simp only [List.getElem?_toArray, List.getElem?_cons_succ, List.getElem?_cons_zero] <;> rfl) rfl ?_
  intro QS hQS
  go_wp2_with fail
  go_at_call 6
  (with_reducible refine ((H2.out _ _ _ gw5 (bl_2 cw5_4_0 cw5_4_1))).mono ?_)
  rintro e w6 ⟨rfl, hw6⟩
  go_wp2_with fail
  apply Exists.intro
  refine ⟨?_, hw6, ?_⟩
  · simp only [Act.put, List.setIfInBounds_toArray, List.set_cons_zero, List.set_cons_succ]; rfl
  have cw6_0_0 : w6.cell? ⟨W.heap.size, 0, none⟩ = some (.int .i64 kq) := cell_gr hw6 (by go_simp)
  have cw6_0_1 : w6.cell? ⟨W.heap.size, 1, none⟩ = some (.int .i64 lx) := cell_gr hw6 (by go_simp)
  have cw6_0_2 : w6.cell? ⟨W.heap.size, 2, none⟩ = some (.int .i64 ly) := cell_gr hw6 (by go_simp)
  have cw6_0_3 : w6.cell? ⟨W.heap.size, 3, none⟩ = some (.int .i64 hx) := cell_gr hw6 (by go_simp)
  have cw6_0_4 : w6.cell? ⟨W.heap.size, 4, none⟩ = some (.int .i64 hy) := cell_gr hw6 (by go_simp)
  have cw6_0_5 : w6.cell? ⟨W.heap.size, 5, none⟩ = some (.slice bd m bcap) := cell_gr hw6 (by go_simp)
  have zw6_0 : W.heap.size < w6.heap.size := World.block_lt_of_cell? _ _ cw6_0_0
  have cw6_1_0 : w6.cell? ⟨W.heap.size + 1, 0, none⟩ = some (.int .i64 px) := cell_gr hw6 (by go_simp)
  have cw6_1_1 : w6.cell? ⟨W.heap.size + 1, 1, none⟩ = some (.int .i64 py) := cell_gr hw6 (by go_simp)
  have zw6_1 : W.heap.size + 1 < w6.heap.size := World.block_lt_of_cell? _ _ cw6_1_0
  have cw6_2_0 : w6.cell? ⟨W.heap.size + 1 + 1, 0, none⟩ = some (.int .i64 x) := cell_gr hw6 (by go_simp)
  have cw6_2_1 : w6.cell? ⟨W.heap.size + 1 + 1, 1, none⟩ = some (.int .i64 0) := cell_gr hw6 (by go_simp)
  have zw6_2 : W.heap.size + 1 + 1 < w6.heap.size := World.block_lt_of_cell? _ _ cw6_2_0
  have cw6_3_0 : w6.cell? ⟨W.heap.size + 1 + 1 + 1, 0, none⟩ = some (.int .i64 1) := cell_gr hw6 (by go_simp)
  have cw6_3_1 : w6.cell? ⟨W.heap.size + 1 + 1 + 1, 1, none⟩ = some (.slice (some ⟨W.heap.size + 1 + 1, 0, none⟩) 1 1) := cell_gr hw6 (by go_simp)
  have zw6_3 : W.heap.size + 1 + 1 + 1 < w6.heap.size := World.block_lt_of_cell? _ _ cw6_3_0
  have cw6_4_0 : w6.cell? ⟨W.heap.size + 1 + 1 + 1 + 1, 0, none⟩ = some (.int .i64 x) := cell_gr hw6 (by go_simp)
  have cw6_4_1 : w6.cell? ⟨W.heap.size + 1 + 1 + 1 + 1, 1, none⟩ = some (.int .i64 x) := cell_gr hw6 (by go_simp)
  have zw6_4 : W.heap.size + 1 + 1 + 1 + 1 < w6.heap.size := World.block_lt_of_cell? _ _ cw6_4_0
  have cw6_5_0 : w6.cell? ⟨W.heap.size + 1 + 1 + 1 + 1 + 1, 0, none⟩ = some (.int .i64 2) := cell_gr hw6 (by go_simp)
  have cw6_5_1 : w6.cell? ⟨W.heap.size + 1 + 1 + 1 + 1 + 1, 1, none⟩ = some (.slice (some ⟨W.heap.size + 1 + 1 + 1 + 1, 0, none⟩) 1 1) := cell_gr hw6 (by go_simp)
  have zw6_5 : W.heap.size + 1 + 1 + 1 + 1 + 1 < w6.heap.size := World.block_lt_of_cell? _ _ cw6_5_0
  have cw6_6_0 : w6.cell? ⟨W.heap.size + 1 + 1 + 1 + 1 + 1 + 1, 0, none⟩ = some (.int .i64 x) := cell_gr hw6 (by go_simp)
  have cw6_6_1 : w6.cell? ⟨W.heap.size + 1 + 1 + 1 + 1 + 1 + 1, 1, none⟩ = some (.int .i64 0) := cell_gr hw6 (by go_simp)
  have cw6_6_2 : w6.cell? ⟨W.heap.size + 1 + 1 + 1 + 1 + 1 + 1, 2, none⟩ = some (.int .i64 x) := cell_gr hw6 (by go_simp)
  have cw6_6_3 : w6.cell? ⟨W.heap.size + 1 + 1 + 1 + 1 + 1 + 1, 3, none⟩ = some (.int .i64 0) := cell_gr hw6 (by go_simp)
  have zw6_6 : W.heap.size + 1 + 1 + 1 + 1 + 1 + 1 < w6.heap.size := World.block_lt_of_cell? _ _ cw6_6_0
  have cw6_7_0 : w6.cell? ⟨W.heap.size + 1 + 1 + 1 + 1 + 1 + 1 + 1, 0, none⟩ = some (.int .i64 3) := cell_gr hw6 (by go_simp)
  have cw6_7_1 : w6.cell? ⟨W.heap.size + 1 + 1 + 1 + 1 + 1 + 1 + 1, 1, none⟩ = some (.slice (some ⟨W.heap.size + 1 + 1 + 1 + 1 + 1 + 1, 0, none⟩) 2 2) := cell_gr hw6 (by go_simp)
  have zw6_7 : W.heap.size + 1 + 1 + 1 + 1 + 1 + 1 + 1 < w6.heap.size := World.block_lt_of_cell? _ _ cw6_7_0
  have cw6_8_0 : w6.cell? ⟨w2.heap.size, 0, none⟩ = some (.int .u64 0) := cell_gr hw6 (by go_simp)
  have cw6_8_1 : w6.cell? ⟨w2.heap.size, 1, none⟩ = some (.int .u64 z) := cell_gr hw6 (by go_simp)
  have cw6_8_2 : w6.cell? ⟨w2.heap.size, 2, none⟩ = some (.int .u64 1) := cell_gr hw6 (by go_simp)
  have zw6_8 : w2.heap.size < w6.heap.size := World.block_lt_of_cell? _ _ cw6_8_0
  have gw6 : Gr W w6 := Gr.trans (by have gg := gw5; have gs := gg.size; go_grown) hw6
  clear gw5 zw5_0 cw5_0_0 cw5_0_1 cw5_0_2 cw5_0_3 cw5_0_4 cw5_0_5 zw5_1 cw5_1_0 cw5_1_1 zw5_2 cw5_2_0 cw5_2_1 zw5_3 cw5_3_0 cw5_3_1 zw5_4 cw5_4_0 cw5_4_1 zw5_5 cw5_5_0 cw5_5_1 zw5_6 cw5_6_0 cw5_6_1 cw5_6_2 cw5_6_3 zw5_7 cw5_7_0 cw5_7_1 zw5_8 cw5_8_0 cw5_8_1 cw5_8_2
  clear hw6
  try simp only [Act.put, List.setIfInBounds_toArray, List.set_cons_zero, List.set_cons_succ]
  repeat (first | (refine Od.wpO_skip (by simp only [List.getElem?_toArray, List.getElem?_cons_succ, List.getElem?_cons_zero] <;> rfl) rfl ?_; simp only [Act.put, List.setIfInBounds_toArray, List.set_cons_zero, List.set_cons_succ]) | (refine Od.wpO_pure (by simp only [List.getElem?_toArray, List.getElem?_cons_succ, List.getElem?_cons_zero] <;> rfl) rfl ?_; apply Exists.intro; refine ⟨?_, ?_⟩; (· intro wx gx; obtain ⟨mx, rfl⟩ := spread_of_gr gx; clear gx; all_goals (apply Od.pAt_of_quiet; intro K hK; go_big_quiet_op; first | exact hK _ rfl | (apply Exists.intro; refine ⟨fun _ => ?_, ?_⟩; (· fail); exact hK _ rfl))); try simp only [Act.put, List.setIfInBounds_toArray, List.set_cons_zero, List.set_cons_succ]))
  refine Od.wpO_call (by simp only [List.getElem?_toArray, List.getElem?_cons_succ, List.getElem?_cons_zero] <;> rfl) rfl ?_
  intro QS hQS
  go_wp2_with fail
  go_at_call 6
  (with_reducible refine ((H2.out _ _ _ gw6 (bl_3 cw6_6_0 cw6_6_1 cw6_6_2 cw6_6_3))).mono ?_)
  rintro e w7 ⟨rfl, hw7⟩
  go_wp2_with fail
  apply Exists.intro
  refine ⟨?_, hw7, ?_⟩
  · simp only [Act.put, List.setIfInBounds_toArray, List.set_cons_zero, List.set_cons_succ]; rfl
  have cw7_0_0 : w7.cell? ⟨W.heap.size, 0, none⟩ = some (.int .i64 kq) := cell_gr hw7 (by go_simp)
  have cw7_0_1 : w7.cell? ⟨W.heap.size, 1, none⟩ = some (.int .i64 lx) := cell_gr hw7 (by go_simp)
  have cw7_0_2 : w7.cell? ⟨W.heap.size, 2, none⟩ = some (.int .i64 ly) := cell_gr hw7 (by go_simp)
  have cw7_0_3 : w7.cell? ⟨W.heap.size, 3, none⟩ = some (.int .i64 hx) := cell_gr hw7 (by go_simp)
  have cw7_0_4 : w7.cell? ⟨W.heap.size, 4, none⟩ = some (.int .i64 hy) := cell_gr hw7 (by go_simp)
  have cw7_0_5 : w7.cell? ⟨W.heap.size, 5, none⟩ = some (.slice bd m bcap) := cell_gr hw7 (by go_simp)
  have zw7_0 : W.heap.size < w7.heap.size := World.block_lt_of_cell? _ _ cw7_0_0
  have cw7_1_0 : w7.cell? ⟨W.heap.size + 1, 0, none⟩ = some (.int .i64 px) := cell_gr hw7 (by go_simp)
  have cw7_1_1 : w7.cell? ⟨W.heap.size + 1, 1, none⟩ = some (.int .i64 py) := cell_gr hw7 (by go_simp)
  have zw7_1 : W.heap.size + 1 < w7.heap.size := World.block_lt_of_cell? _ _ cw7_1_0
  have cw7_2_0 : w7.cell? ⟨W.heap.size + 1 + 1, 0, none⟩ = some (.int .i64 x) := cell_gr hw7 (by go_simp)
  have cw7_2_1 : w7.cell? ⟨W.heap.size + 1 + 1, 1, none⟩ = some (.int .i64 0) := cell_gr hw7 (by go_simp)
  have zw7_2 : W.heap.size + 1 + 1 < w7.heap.size := World.block_lt_of_cell? _ _ cw7_2_0
  have cw7_3_0 : w7.cell? ⟨W.heap.size + 1 + 1 + 1, 0, none⟩ = some (.int .i64 1) := cell_gr hw7 (by go_simp)
  have cw7_3_1 : w7.cell? ⟨W.heap.size + 1 + 1 + 1, 1, none⟩ = some (.slice (some ⟨W.heap.size + 1 + 1, 0, none⟩) 1 1) := cell_gr hw7 (by go_simp)
  have zw7_3 : W.heap.size + 1 + 1 + 1 < w7.heap.size := World.block_lt_of_cell? _ _ cw7_3_0
  have cw7_4_0 : w7.cell? ⟨W.heap.size + 1 + 1 + 1 + 1, 0, none⟩ = some (.int .i64 x) := cell_gr hw7 (by go_simp)
  have cw7_4_1 : w7.cell? ⟨W.heap.size + 1 + 1 + 1 + 1, 1, none⟩ = some (.int .i64 x) := cell_gr hw7 (by go_simp)
  have zw7_4 : W.heap.size + 1 + 1 + 1 + 1 < w7.heap.size := World.block_lt_of_cell? _ _ cw7_4_0
  have cw7_5_0 : w7.cell? ⟨W.heap.size + 1 + 1 + 1 + 1 + 1, 0, none⟩ = some (.int .i64 2) := cell_gr hw7 (by go_simp)
  have cw7_5_1 : w7.cell? ⟨W.heap.size + 1 + 1 + 1 + 1 + 1, 1, none⟩ = some (.slice (some ⟨W.heap.size + 1 + 1 + 1 + 1, 0, none⟩) 1 1) := cell_gr hw7 (by go_simp)
  have zw7_5 : W.heap.size + 1 + 1 + 1 + 1 + 1 < w7.heap.size := World.block_lt_of_cell? _ _ cw7_5_0
  have cw7_6_0 : w7.cell? ⟨W.heap.size + 1 + 1 + 1 + 1 + 1 + 1, 0, none⟩ = some (.int .i64 x) := cell_gr hw7 (by go_simp)
  have cw7_6_1 : w7.cell? ⟨W.heap.size + 1 + 1 + 1 + 1 + 1 + 1, 1, none⟩ = some (.int .i64 0) := cell_gr hw7 (by go_simp)
  have cw7_6_2 : w7.cell? ⟨W.heap.size + 1 + 1 + 1 + 1 + 1 + 1, 2, none⟩ = some (.int .i64 x) := cell_gr hw7 (by go_simp)
  have cw7_6_3 : w7.cell? ⟨W.heap.size + 1 + 1 + 1 + 1 + 1 + 1, 3, none⟩ = some (.int .i64 0) := cell_gr hw7 (by go_simp)
  have zw7_6 : W.heap.size + 1 + 1 + 1 + 1 + 1 + 1 < w7.heap.size := World.block_lt_of_cell? _ _ cw7_6_0
  have cw7_7_0 : w7.cell? ⟨W.heap.size + 1 + 1 + 1 + 1 + 1 + 1 + 1, 0, none⟩ = some (.int .i64 3) := cell_gr hw7 (by go_simp)
  have cw7_7_1 : w7.cell? ⟨W.heap.size + 1 + 1 + 1 + 1 + 1 + 1 + 1, 1, none⟩ = some (.slice (some ⟨W.heap.size + 1 + 1 + 1 + 1 + 1 + 1, 0, none⟩) 2 2) := cell_gr hw7 (by go_simp)
  have zw7_7 : W.heap.size + 1 + 1 + 1 + 1 + 1 + 1 + 1 < w7.heap.size := World.block_lt_of_cell? _ _ cw7_7_0
  have cw7_8_0 : w7.cell? ⟨w2.heap.size, 0, none⟩ = some (.int .u64 0) := cell_gr hw7 (by go_simp)
  have cw7_8_1 : w7.cell? ⟨w2.heap.size, 1, none⟩ = some (.int .u64 z) := cell_gr hw7 (by go_simp)
  have cw7_8_2 : w7.cell? ⟨w2.heap.size, 2, none⟩ = some (.int .u64 1) := cell_gr hw7 (by go_simp)
  have zw7_8 : w2.heap.size < w7.heap.size := World.block_lt_of_cell? _ _ cw7_8_0
  have gw7 : Gr W w7 := Gr.trans (by have gg := gw6; have gs := gg.size; go_grown) hw7
  clear gw6 zw6_0 cw6_0_0 cw6_0_1 cw6_0_2 cw6_0_3 cw6_0_4 cw6_0_5 zw6_1 cw6_1_0 cw6_1_1 zw6_2 cw6_2_0 cw6_2_1 zw6_3 cw6_3_0 cw6_3_1 zw6_4 cw6_4_0 cw6_4_1 zw6_5 cw6_5_0 cw6_5_1 zw6_6 cw6_6_0 cw6_6_1 cw6_6_2 cw6_6_3 zw6_7 cw6_7_0 cw6_7_1 zw6_8 cw6_8_0 cw6_8_1 cw6_8_2
  clear hw7
  try simp only [Act.put, List.setIfInBounds_toArray, List.set_cons_zero, List.set_cons_succ]
  repeat (first | (refine Od.wpO_skip (by simp only [List.getElem?_toArray, List.getElem?_cons_succ, List.getElem?_cons_zero] <;> rfl) rfl ?_; simp only [Act.put, List.setIfInBounds_toArray, List.set_cons_zero, List.set_cons_succ]) | (refine Od.wpO_pure (by simp only [List.getElem?_toArray, List.getElem?_cons_succ, List.getElem?_cons_zero] <;> rfl) rfl ?_; apply Exists.intro; refine ⟨?_, ?_⟩; (· intro wx gx; obtain ⟨mx, rfl⟩ := spread_of_gr gx; clear gx; all_goals (apply Od.pAt_of_quiet; intro K hK; go_big_quiet_op; first | exact hK _ rfl | (apply Exists.intro; refine ⟨fun _ => ?_, ?_⟩; (· fail); exact hK _ rfl))); try simp only [Act.put, List.setIfInBounds_toArray, List.set_cons_zero, List.set_cons_succ]))
  refine Od.wpO_call (by simp only [List.getElem?_toArray, List.getElem?_cons_succ, List.getElem?_cons_zero] <;> rfl) rfl ?_
  intro QS hQS
  go_wp2_with fail
  go_at_call 7
  (with_reducible refine ((H3.out _ _ _ (bl_1 cw7_2_0 cw7_2_1))).mono ?_)
  rintro e w8 ⟨rfl, hw8⟩
  go_wp2_with fail
  apply Exists.intro
  refine ⟨?_, hw8, ?_⟩
  · simp only [Act.put, List.setIfInBounds_toArray, List.set_cons_zero, List.set_cons_succ]; rfl
  have cw8_0_0 : w8.cell? ⟨W.heap.size, 0, none⟩ = some (.int .i64 kq) := cell_gr hw8 (by go_simp)
  have cw8_0_1 : w8.cell? ⟨W.heap.size, 1, none⟩ = some (.int .i64 lx) := cell_gr hw8 (by go_simp)
  have cw8_0_2 : w8.cell? ⟨W.heap.size, 2, none⟩ = some (.int .i64 ly) := cell_gr hw8 (by go_simp)
  have cw8_0_3 : w8.cell? ⟨W.heap.size, 3, none⟩ = some (.int .i64 hx) := cell_gr hw8 (by go_simp)
  have cw8_0_4 : w8.cell? ⟨W.heap.size, 4, none⟩ = some (.int .i64 hy) := cell_gr hw8 (by go_simp)
  have cw8_0_5 : w8.cell? ⟨W.heap.size, 5, none⟩ = some (.slice bd m bcap) := cell_gr hw8 (by go_simp)
  have zw8_0 : W.heap.size < w8.heap.size := World.block_lt_of_cell? _ _ cw8_0_0
  have cw8_1_0 : w8.cell? ⟨W.heap.size + 1, 0, none⟩ = some (.int .i64 px) := cell_gr hw8 (by go_simp)
  have cw8_1_1 : w8.cell? ⟨W.heap.size + 1, 1, none⟩ = some (.int .i64 py) := cell_gr hw8 (by go_simp)
  have zw8_1 : W.heap.size + 1 < w8.heap.size := World.block_lt_of_cell? _ _ cw8_1_0
  have cw8_2_0 : w8.cell? ⟨W.heap.size + 1 + 1, 0, none⟩ = some (.int .i64 x) := cell_gr hw8 (by go_simp)
  have cw8_2_1 : w8.cell? ⟨W.heap.size + 1 + 1, 1, none⟩ = some (.int .i64 0) := cell_gr hw8 (by go_simp)
  have zw8_2 : W.heap.size + 1 + 1 < w8.heap.size := World.block_lt_of_cell? _ _ cw8_2_0
  have cw8_3_0 : w8.cell? ⟨W.heap.size + 1 + 1 + 1, 0, none⟩ = some (.int .i64 1) := cell_gr hw8 (by go_simp)
  have cw8_3_1 : w8.cell? ⟨W.heap.size + 1 + 1 + 1, 1, none⟩ = some (.slice (some ⟨W.heap.size + 1 + 1, 0, none⟩) 1 1) := cell_gr hw8 (by go_simp)
  have zw8_3 : W.heap.size + 1 + 1 + 1 < w8.heap.size := World.block_lt_of_cell? _ _ cw8_3_0
  have cw8_4_0 : w8.cell? ⟨W.heap.size + 1 + 1 + 1 + 1, 0, none⟩ = some (.int .i64 x) := cell_gr hw8 (by go_simp)
  have cw8_4_1 : w8.cell? ⟨W.heap.size + 1 + 1 + 1 + 1, 1, none⟩ = some (.int .i64 x) := cell_gr hw8 (by go_simp)
  have zw8_4 : W.heap.size + 1 + 1 + 1 + 1 < w8.heap.size := World.block_lt_of_cell? _ _ cw8_4_0
  have cw8_5_0 : w8.cell? ⟨W.heap.size + 1 + 1 + 1 + 1 + 1, 0, none⟩ = some (.int .i64 2) := cell_gr hw8 (by go_simp)
  have cw8_5_1 : w8.cell? ⟨W.heap.size + 1 + 1 + 1 + 1 + 1, 1, none⟩ = some (.slice (some ⟨W.heap.size + 1 + 1 + 1 + 1, 0, none⟩) 1 1) := cell_gr hw8 (by go_simp)
  have zw8_5 : W.heap.size + 1 + 1 + 1 + 1 + 1 < w8.heap.size := World.block_lt_of_cell? _ _ cw8_5_0
  have cw8_6_0 : w8.cell? ⟨W.heap.size + 1 + 1 + 1 + 1 + 1 + 1, 0, none⟩ = some (.int .i64 x) := cell_gr hw8 (by go_simp)
  have cw8_6_1 : w8.cell? ⟨W.heap.size + 1 + 1 + 1 + 1 + 1 + 1, 1, none⟩ = some (.int .i64 0) := cell_gr hw8 (by go_simp)
  have cw8_6_2 : w8.cell? ⟨W.heap.size + 1 + 1 + 1 + 1 + 1 + 1, 2, none⟩ = some (.int .i64 x) := cell_gr hw8 (by go_simp)
  have cw8_6_3 : w8.cell? ⟨W.heap.size + 1 + 1 + 1 + 1 + 1 + 1, 3, none⟩ = some (.int .i64 0) := cell_gr hw8 (by go_simp)
  have zw8_6 : W.heap.size + 1 + 1 + 1 + 1 + 1 + 1 < w8.heap.size := World.block_lt_of_cell? _ _ cw8_6_0
  have cw8_7_0 : w8.cell? ⟨W.heap.size + 1 + 1 + 1 + 1 + 1 + 1 + 1, 0, none⟩ = some (.int .i64 3) := cell_gr hw8 (by go_simp)
  have cw8_7_1 : w8.cell? ⟨W.heap.size + 1 + 1 + 1 + 1 + 1 + 1 + 1, 1, none⟩ = some (.slice (some ⟨W.heap.size + 1 + 1 + 1 + 1 + 1 + 1, 0, none⟩) 2 2) := cell_gr hw8 (by go_simp)
  have zw8_7 : W.heap.size + 1 + 1 + 1 + 1 + 1 + 1 + 1 < w8.heap.size := World.block_lt_of_cell? _ _ cw8_7_0
  have cw8_8_0 : w8.cell? ⟨w2.heap.size, 0, none⟩ = some (.int .u64 0) := cell_gr hw8 (by go_simp)
  have cw8_8_1 : w8.cell? ⟨w2.heap.size, 1, none⟩ = some (.int .u64 z) := cell_gr hw8 (by go_simp)
  have cw8_8_2 : w8.cell? ⟨w2.heap.size, 2, none⟩ = some (.int .u64 1) := cell_gr hw8 (by go_simp)
  have zw8_8 : w2.heap.size < w8.heap.size := World.block_lt_of_cell? _ _ cw8_8_0
  have gw8 : Gr W w8 := Gr.trans (by have gg := gw7; have gs := gg.size; go_grown) hw8
  clear gw7 zw7_0 cw7_0_0 cw7_0_1 cw7_0_2 cw7_0_3 cw7_0_4 cw7_0_5 zw7_1 cw7_1_0 cw7_1_1 zw7_2 cw7_2_0 cw7_2_1 zw7_3 cw7_3_0 cw7_3_1 zw7_4 cw7_4_0 cw7_4_1 zw7_5 cw7_5_0 cw7_5_1 zw7_6 cw7_6_0 cw7_6_1 cw7_6_2 cw7_6_3 zw7_7 cw7_7_0 cw7_7_1 zw7_8 cw7_8_0 cw7_8_1 cw7_8_2
  clear hw8
  try simp only [Act.put, List.setIfInBounds_toArray, List.set_cons_zero, List.set_cons_succ]
  repeat (first | (refine Od.wpO_skip (by simp only [List.getElem?_toArray, List.getElem?_cons_succ, List.getElem?_cons_zero] <;> rfl) rfl ?_; simp only [Act.put, List.setIfInBounds_toArray, List.set_cons_zero, List.set_cons_succ]) | (refine Od.wpO_pure (by simp only [List.getElem?_toArray, List.getElem?_cons_succ, List.getElem?_cons_zero] <;> rfl) rfl ?_; apply Exists.intro; refine ⟨?_, ?_⟩; (· intro wx gx; obtain ⟨mx, rfl⟩ := spread_of_gr gx; clear gx; all_goals (apply Od.pAt_of_quiet; intro K hK; go_big_quiet_op; first | exact hK _ rfl | (apply Exists.intro; refine ⟨fun _ => ?_, ?_⟩; (· fail); exact hK _ rfl))); try simp only [Act.put, List.setIfInBounds_toArray, List.set_cons_zero, List.set_cons_succ]))
  refine Od.wpO_call (by simp only [List.getElem?_toArray, List.getElem?_cons_succ, List.getElem?_cons_zero] <;> rfl) rfl ?_
  intro QS hQS
  go_wp2_with fail
  go_at_call 8
  (with_reducible refine ((H4.out _)).mono ?_)
  rintro e w9 ⟨rfl, hw9⟩
  go_wp2_with fail
  apply Exists.intro
  refine ⟨?_, hw9, ?_⟩
  · simp only [Act.put, List.setIfInBounds_toArray, List.set_cons_zero, List.set_cons_succ]; rfl
  have cw9_0_0 : w9.cell? ⟨W.heap.size, 0, none⟩ = some (.int .i64 kq) := cell_gr hw9 (by go_simp)
  have cw9_0_1 : w9.cell? ⟨W.heap.size, 1, none⟩ = some (.int .i64 lx) := cell_gr hw9 (by go_simp)
  have cw9_0_2 : w9.cell? ⟨W.heap.size, 2, none⟩ = some (.int .i64 ly) := cell_gr hw9 (by go_simp)
  have cw9_0_3 : w9.cell? ⟨W.heap.size, 3, none⟩ = some (.int .i64 hx) := cell_gr hw9 (by go_simp)
  have cw9_0_4 : w9.cell? ⟨W.heap.size, 4, none⟩ = some (.int .i64 hy) := cell_gr hw9 (by go_simp)
  have cw9_0_5 : w9.cell? ⟨W.heap.size, 5, none⟩ = some (.slice bd m bcap) := cell_gr hw9 (by go_simp)
  have zw9_0 : W.heap.size < w9.heap.size := World.block_lt_of_cell? _ _ cw9_0_0
  have cw9_1_0 : w9.cell? ⟨W.heap.size + 1, 0, none⟩ = some (.int .i64 px) := cell_gr hw9 (by go_simp)
  have cw9_1_1 : w9.cell? ⟨W.heap.size + 1, 1, none⟩ = some (.int .i64 py) := cell_gr hw9 (by go_simp)
  have zw9_1 : W.heap.size + 1 < w9.heap.size := World.block_lt_of_cell? _ _ cw9_1_0
  have cw9_2_0 : w9.cell? ⟨W.heap.size + 1 + 1, 0, none⟩ = some (.int .i64 x) := cell_gr hw9 (by go_simp)
  have cw9_2_1 : w9.cell? ⟨W.heap.size + 1 + 1, 1, none⟩ = some (.int .i64 0) := cell_gr hw9 (by go_simp)
  have zw9_2 : W.heap.size + 1 + 1 < w9.heap.size := World.block_lt_of_cell? _ _ cw9_2_0
  have cw9_3_0 : w9.cell? ⟨W.heap.size + 1 + 1 + 1, 0, none⟩ = some (.int .i64 1) := cell_gr hw9 (by go_simp)
  have cw9_3_1 : w9.cell? ⟨W.heap.size + 1 + 1 + 1, 1, none⟩ = some (.slice (some ⟨W.heap.size + 1 + 1, 0, none⟩) 1 1) := cell_gr hw9 (by go_simp)
  have zw9_3 : W.heap.size + 1 + 1 + 1 < w9.heap.size := World.block_lt_of_cell? _ _ cw9_3_0
  have cw9_4_0 : w9.cell? ⟨W.heap.size + 1 + 1 + 1 + 1, 0, none⟩ = some (.int .i64 x) := cell_gr hw9 (by go_simp)
  have cw9_4_1 : w9.cell? ⟨W.heap.size + 1 + 1 + 1 + 1, 1, none⟩ = some (.int .i64 x) := cell_gr hw9 (by go_simp)
  have zw9_4 : W.heap.size + 1 + 1 + 1 + 1 < w9.heap.size := World.block_lt_of_cell? _ _ cw9_4_0
  have cw9_5_0 : w9.cell? ⟨W.heap.size + 1 + 1 + 1 + 1 + 1, 0, none⟩ = some (.int .i64 2) := cell_gr hw9 (by go_simp)
  have cw9_5_1 : w9.cell? ⟨W.heap.size + 1 + 1 + 1 + 1 + 1, 1, none⟩ = some (.slice (some ⟨W.heap.size + 1 + 1 + 1 + 1, 0, none⟩) 1 1) := cell_gr hw9 (by go_simp)
  have zw9_5 : W.heap.size + 1 + 1 + 1 + 1 + 1 < w9.heap.size := World.block_lt_of_cell? _ _ cw9_5_0
  have cw9_6_0 : w9.cell? ⟨W.heap.size + 1 + 1 + 1 + 1 + 1 + 1, 0, none⟩ = some (.int .i64 x) := cell_gr hw9 (by go_simp)
  have cw9_6_1 : w9.cell? ⟨W.heap.size + 1 + 1 + 1 + 1 + 1 + 1, 1, none⟩ = some (.int .i64 0) := cell_gr hw9 (by go_simp)
  have cw9_6_2 : w9.cell? ⟨W.heap.size + 1 + 1 + 1 + 1 + 1 + 1, 2, none⟩ = some (.int .i64 x) := cell_gr hw9 (by go_simp)
  have cw9_6_3 : w9.cell? ⟨W.heap.size + 1 + 1 + 1 + 1 + 1 + 1, 3, none⟩ = some (.int .i64 0) := cell_gr hw9 (by go_simp)
  have zw9_6 : W.heap.size + 1 + 1 + 1 + 1 + 1 + 1 < w9.heap.size := World.block_lt_of_cell? _ _ cw9_6_0
  have cw9_7_0 : w9.cell? ⟨W.heap.size + 1 + 1 + 1 + 1 + 1 + 1 + 1, 0, none⟩ = some (.int .i64 3) := cell_gr hw9 (by go_simp)
  have cw9_7_1 : w9.cell? ⟨W.heap.size + 1 + 1 + 1 + 1 + 1 + 1 + 1, 1, none⟩ = some (.slice (some ⟨W.heap.size + 1 + 1 + 1 + 1 + 1 + 1, 0, none⟩) 2 2) := cell_gr hw9 (by go_simp)
  have zw9_7 : W.heap.size + 1 + 1 + 1 + 1 + 1 + 1 + 1 < w9.heap.size := World.block_lt_of_cell? _ _ cw9_7_0
  have cw9_8_0 : w9.cell? ⟨w2.heap.size, 0, none⟩ = some (.int .u64 0) := cell_gr hw9 (by go_simp)
  have cw9_8_1 : w9.cell? ⟨w2.heap.size, 1, none⟩ = some (.int .u64 z) := cell_gr hw9 (by go_simp)
  have cw9_8_2 : w9.cell? ⟨w2.heap.size, 2, none⟩ = some (.int .u64 1) := cell_gr hw9 (by go_simp)
  have zw9_8 : w2.heap.size < w9.heap.size := World.block_lt_of_cell? _ _ cw9_8_0
  have gw9 : Gr W w9 := Gr.trans (by have gg := gw8; have gs := gg.size; go_grown) hw9
  clear gw8 zw8_0 cw8_0_0 cw8_0_1 cw8_0_2 cw8_0_3 cw8_0_4 cw8_0_5 zw8_1 cw8_1_0 cw8_1_1 zw8_2 cw8_2_0 cw8_2_1 zw8_3 cw8_3_0 cw8_3_1 zw8_4 cw8_4_0 cw8_4_1 zw8_5 cw8_5_0 cw8_5_1 zw8_6 cw8_6_0 cw8_6_1 cw8_6_2 cw8_6_3 zw8_7 cw8_7_0 cw8_7_1 zw8_8 cw8_8_0 cw8_8_1 cw8_8_2
  clear hw9
  try simp only [Act.put, List.setIfInBounds_toArray, List.set_cons_zero, List.set_cons_succ]
  repeat (first | (refine Od.wpO_skip (by simp only [List.getElem?_toArray, List.getElem?_cons_succ, List.getElem?_cons_zero] <;> rfl) rfl ?_; simp only [Act.put, List.setIfInBounds_toArray, List.set_cons_zero, List.set_cons_succ]) | (refine Od.wpO_pure (by simp only [List.getElem?_toArray, List.getElem?_cons_succ, List.getElem?_cons_zero] <;> rfl) rfl ?_; apply Exists.intro; refine ⟨?_, ?_⟩; (· intro wx gx; obtain ⟨mx, rfl⟩ := spread_of_gr gx; clear gx; all_goals (apply Od.pAt_of_quiet; intro K hK; go_big_quiet_op; first | exact hK _ rfl | (apply Exists.intro; refine ⟨fun _ => ?_, ?_⟩; (· fail); exact hK _ rfl))); try simp only [Act.put, List.setIfInBounds_toArray, List.set_cons_zero, List.set_cons_succ]))
  refine Od.wpO_call (by simp only [List.getElem?_toArray, List.getElem?_cons_succ, List.getElem?_cons_zero] <;> rfl) rfl ?_
  intro QS hQS
  go_wp2_with fail
  go_at_call 4
  (with_reducible refine ((H5.out _ gw9)).mono ?_)
  rintro e wa ⟨rfl, hwa⟩
  go_wp2_with fail
  apply Exists.intro
  refine ⟨?_, hwa, ?_⟩
  · simp only [Act.put, List.setIfInBounds_toArray, List.set_cons_zero, List.set_cons_succ]; rfl
  have cwa_0_0 : wa.cell? ⟨W.heap.size, 0, none⟩ = some (.int .i64 kq) := cell_gr hwa (by go_simp)
  have cwa_0_1 : wa.cell? ⟨W.heap.size, 1, none⟩ = some (.int .i64 lx) := cell_gr hwa (by go_simp)
  have cwa_0_2 : wa.cell? ⟨W.heap.size, 2, none⟩ = some (.int .i64 ly) := cell_gr hwa (by go_simp)
  have cwa_0_3 : wa.cell? ⟨W.heap.size, 3, none⟩ = some (.int .i64 hx) := cell_gr hwa (by go_simp)
  have cwa_0_4 : wa.cell? ⟨W.heap.size, 4, none⟩ = some (.int .i64 hy) := cell_gr hwa (by go_simp)
  have cwa_0_5 : wa.cell? ⟨W.heap.size, 5, none⟩ = some (.slice bd m bcap) := cell_gr hwa (by go_simp)
  have zwa_0 : W.heap.size < wa.heap.size := World.block_lt_of_cell? _ _ cwa_0_0
  have cwa_1_0 : wa.cell? ⟨W.heap.size + 1, 0, none⟩ = some (.int .i64 px) := cell_gr hwa (by go_simp)
  have cwa_1_1 : wa.cell? ⟨W.heap.size + 1, 1, none⟩ = some (.int .i64 py) := cell_gr hwa (by go_simp)
  have zwa_1 : W.heap.size + 1 < wa.heap.size := World.block_lt_of_cell? _ _ cwa_1_0
  have cwa_2_0 : wa.cell? ⟨W.heap.size + 1 + 1, 0, none⟩ = some (.int .i64 x) := cell_gr hwa (by go_simp)
  have cwa_2_1 : wa.cell? ⟨W.heap.size + 1 + 1, 1, none⟩ = some (.int .i64 0) := cell_gr hwa (by go_simp)
  have zwa_2 : W.heap.size + 1 + 1 < wa.heap.size := World.block_lt_of_cell? _ _ cwa_2_0
  have cwa_3_0 : wa.cell? ⟨W.heap.size + 1 + 1 + 1, 0, none⟩ = some (.int .i64 1) := cell_gr hwa (by go_simp)
  have cwa_3_1 : wa.cell? ⟨W.heap.size + 1 + 1 + 1, 1, none⟩ = some (.slice (some ⟨W.heap.size + 1 + 1, 0, none⟩) 1 1) := cell_gr hwa (by go_simp)
  have zwa_3 : W.heap.size + 1 + 1 + 1 < wa.heap.size := World.block_lt_of_cell? _ _ cwa_3_0
  have cwa_4_0 : wa.cell? ⟨W.heap.size + 1 + 1 + 1 + 1, 0, none⟩ = some (.int .i64 x) := cell_gr hwa (by go_simp)
  have cwa_4_1 : wa.cell? ⟨W.heap.size + 1 + 1 + 1 + 1, 1, none⟩ = some (.int .i64 x) := cell_gr hwa (by go_simp)
  have zwa_4 : W.heap.size + 1 + 1 + 1 + 1 < wa.heap.size := World.block_lt_of_cell? _ _ cwa_4_0
  have cwa_5_0 : wa.cell? ⟨W.heap.size + 1 + 1 + 1 + 1 + 1, 0, none⟩ = some (.int .i64 2) := cell_gr hwa (by go_simp)
  have cwa_5_1 : wa.cell? ⟨W.heap.size + 1 + 1 + 1 + 1 + 1, 1, none⟩ = some (.slice (some ⟨W.heap.size + 1 + 1 + 1 + 1, 0, none⟩) 1 1) := cell_gr hwa (by go_simp)
  have zwa_5 : W.heap.size + 1 + 1 + 1 + 1 + 1 < wa.heap.size := World.block_lt_of_cell? _ _ cwa_5_0
  have cwa_6_0 : wa.cell? ⟨W.heap.size + 1 + 1 + 1 + 1 + 1 + 1, 0, none⟩ = some (.int .i64 x) := cell_gr hwa (by go_simp)
  have cwa_6_1 : wa.cell? ⟨W.heap.size + 1 + 1 + 1 + 1 + 1 + 1, 1, none⟩ = some (.int .i64 0) := cell_gr hwa (by go_simp)
  have cwa_6_2 : wa.cell? ⟨W.heap.size + 1 + 1 + 1 + 1 + 1 + 1, 2, none⟩ = some (.int .i64 x) := cell_gr hwa (by go_simp)
  have cwa_6_3 : wa.cell? ⟨W.heap.size + 1 + 1 + 1 + 1 + 1 + 1, 3, none⟩ = some (.int .i64 0) := cell_gr hwa (by go_simp)
  have zwa_6 : W.heap.size + 1 + 1 + 1 + 1 + 1 + 1 < wa.heap.size := World.block_lt_of_cell? _ _ cwa_6_0
  have cwa_7_0 : wa.cell? ⟨W.heap.size + 1 + 1 + 1 + 1 + 1 + 1 + 1, 0, none⟩ = some (.int .i64 3) := cell_gr hwa (by go_simp)
  have cwa_7_1 : wa.cell? ⟨W.heap.size + 1 + 1 + 1 + 1 + 1 + 1 + 1, 1, none⟩ = some (.slice (some ⟨W.heap.size + 1 + 1 + 1 + 1 + 1 + 1, 0, none⟩) 2 2) := cell_gr hwa (by go_simp)
  have zwa_7 : W.heap.size + 1 + 1 + 1 + 1 + 1 + 1 + 1 < wa.heap.size := World.block_lt_of_cell? _ _ cwa_7_0
  have cwa_8_0 : wa.cell? ⟨w2.heap.size, 0, none⟩ = some (.int .u64 0) := cell_gr hwa (by go_simp)
  have cwa_8_1 : wa.cell? ⟨w2.heap.size, 1, none⟩ = some (.int .u64 z) := cell_gr hwa (by go_simp)
  have cwa_8_2 : wa.cell? ⟨w2.heap.size, 2, none⟩ = some (.int .u64 1) := cell_gr hwa (by go_simp)
  have zwa_8 : w2.heap.size < wa.heap.size := World.block_lt_of_cell? _ _ cwa_8_0
  have gwa : Gr W wa := Gr.trans (by have gg := gw9; have gs := gg.size; go_grown) hwa
  clear gw9 zw9_0 cw9_0_0 cw9_0_1 cw9_0_2 cw9_0_3 cw9_0_4 cw9_0_5 zw9_1 cw9_1_0 cw9_1_1 zw9_2 cw9_2_0 cw9_2_1 zw9_3 cw9_3_0 cw9_3_1 zw9_4 cw9_4_0 cw9_4_1 zw9_5 cw9_5_0 cw9_5_1 zw9_6 cw9_6_0 cw9_6_1 cw9_6_2 cw9_6_3 zw9_7 cw9_7_0 cw9_7_1 zw9_8 cw9_8_0 cw9_8_1 cw9_8_2
  clear hwa
  try simp only [Act.put, List.setIfInBounds_toArray, List.set_cons_zero, List.set_cons_succ]
  repeat (first | (refine Od.wpO_skip (by simp only [List.getElem?_toArray, List.getElem?_cons_succ, List.getElem?_cons_zero] <;> rfl) rfl ?_; simp only [Act.put, List.setIfInBounds_toArray, List.set_cons_zero, List.set_cons_succ]) | (refine Od.wpO_pure (by simp only [List.getElem?_toArray, List.getElem?_cons_succ, List.getElem?_cons_zero] <;> rfl) rfl ?_; apply Exists.intro; refine ⟨?_, ?_⟩; (· intro wx gx; obtain ⟨mx, rfl⟩ := spread_of_gr gx; clear gx; all_goals (apply Od.pAt_of_quiet; intro K hK; go_big_quiet_op; first | exact hK _ rfl | (apply Exists.intro; refine ⟨fun _ => ?_, ?_⟩; (· fail); exact hK _ rfl))); try simp only [Act.put, List.setIfInBounds_toArray, List.set_cons_zero, List.set_cons_succ]))
  refine Od.wpO_nil (hKQ _ _ ?_)
  clear hKQ KQ
  go_wp2_with fail
  go_ret
  exact ⟨rfl, gwa⟩
set_option maxHeartbeats 16000000 in
set_option maxRecDepth 100000 in
theorem kinds_no (x kq lx ly hx hy px py z : Int) (bd : Option Addr) (m bcap c : Nat) (q b : Bool) (W : World) (hm : m ≤ 64) (hc : c ≠ 0)
    (A1 : ∀ w k v, Gr W w → BL w k v x 0 x 0 → Calls Tryz.prog 5 #[.agg #[.int .i64 k, v], qryV kq lx ly hx hy (.slice bd m bcap)] w fun e w' => e = .returned (.bool q) ∧ Gr w w')
    (A2 : ∀ w k v, Gr W w → BL w k v x 0 x 0 → Calls Tryz.prog 6 #[.agg #[.int .i64 k, v], .agg #[.int .i64 px, .int .i64 py]] w fun e w' => e = .returned (.agg #[.int .u64 0, .int .u64 0, .int .u64 0]) ∧ Gr w w')
    (A3 : ∀ w k v, BL w k v x 0 x 0 → Calls Tryz.prog 7 #[.agg #[.int .i64 k, v]] w fun e w' => e = .returned (.int .i64 (c : Nat)) ∧ Gr w w')
    (A4 : ∀ w, Calls Tryz.prog 8 #[.agg #[.int .i64 px, .int .i64 py]] w fun e w' => e = .returned (.bool b) ∧ Gr w w')
    (A5 : ∀ w, Gr W w → Calls Tryz.prog 4 #[] w fun e w' => e = .returned (.bool true) ∧ Gr w w') :
    Calls Tryz.prog 3 #[.int .i64 x, qryV kq lx ly hx hy (.slice bd m bcap), .agg #[.int .i64 px, .int .i64 py]] W fun e w' => e = .returned (.bool true) ∧ Gr W w' := by
  have t1 : decide ((64 : Int) < (m : Int)) = false := decide_eq_false (by omega)
  have t2 : decide (64 < m) = false := decide_eq_false (by omega)
  have t3 : (q == q) = true := by simp
  have t4 : decide (q = q) = true := by simp
  have hD : ∀ w, (binOp .eql 35 (.agg #[.int .u64 0, .int .u64 0, .int .u64 0]) (.agg #[.int .u64 0, .int .u64 0, .int .u64 0])).run Tryz.prog w = .ok (.bool true) w := fun w => by kernel_rfl
  have t5 : ((c : Int) != 0) = true := by simp; omega
  have t6 : (c != 0) = true := by simp; omega
  have H1 := Lib.hid A1
  have H2 := Lib.hid A2
  have H3 := Lib.hid A3
  have H4 := Lib.hid A4
  have H5 := Lib.hid A5
  clear A1 A2 A3 A4 A5
  clear hm
  go_enter Tryz.func3, Tryz.ntmps3
  go_wp2_with fail
  go_at_call 5
  refine ((H1.out _ _ _ (by go_grown) (bl_1 (by go_simp) (by go_simp)))).mono ?_
  rintro e w1 ⟨rfl, hw1⟩
  have cw1_0_0 : w1.cell? ⟨W.heap.size, 0, none⟩ = some (.int .i64 kq) := cell_gr hw1 (by go_simp)
  have cw1_0_1 : w1.cell? ⟨W.heap.size, 1, none⟩ = some (.int .i64 lx) := cell_gr hw1 (by go_simp)
  have cw1_0_2 : w1.cell? ⟨W.heap.size, 2, none⟩ = some (.int .i64 ly) := cell_gr hw1 (by go_simp)
  have cw1_0_3 : w1.cell? ⟨W.heap.size, 3, none⟩ = some (.int .i64 hx) := cell_gr hw1 (by go_simp)
  have cw1_0_4 : w1.cell? ⟨W.heap.size, 4, none⟩ = some (.int .i64 hy) := cell_gr hw1 (by go_simp)
  have cw1_0_5 : w1.cell? ⟨W.heap.size, 5, none⟩ = some (.slice bd m bcap) := cell_gr hw1 (by go_simp)
  have zw1_0 : W.heap.size < w1.heap.size := World.block_lt_of_cell? _ _ cw1_0_0
  have cw1_1_0 : w1.cell? ⟨W.heap.size + 1, 0, none⟩ = some (.int .i64 px) := cell_gr hw1 (by go_simp)
  have cw1_1_1 : w1.cell? ⟨W.heap.size + 1, 1, none⟩ = some (.int .i64 py) := cell_gr hw1 (by go_simp)
  have zw1_1 : W.heap.size + 1 < w1.heap.size := World.block_lt_of_cell? _ _ cw1_1_0
  have cw1_2_0 : w1.cell? ⟨W.heap.size + 1 + 1, 0, none⟩ = some (.int .i64 x) := cell_gr hw1 (by go_simp)
  have cw1_2_1 : w1.cell? ⟨W.heap.size + 1 + 1, 1, none⟩ = some (.int .i64 0) := cell_gr hw1 (by go_simp)
  have zw1_2 : W.heap.size + 1 + 1 < w1.heap.size := World.block_lt_of_cell? _ _ cw1_2_0
  have cw1_3_0 : w1.cell? ⟨W.heap.size + 1 + 1 + 1, 0, none⟩ = some (.int .i64 1) := cell_gr hw1 (by go_simp)
  have cw1_3_1 : w1.cell? ⟨W.heap.size + 1 + 1 + 1, 1, none⟩ = some (.slice (some ⟨W.heap.size + 1 + 1, 0, none⟩) 1 1) := cell_gr hw1 (by go_simp)
  have zw1_3 : W.heap.size + 1 + 1 + 1 < w1.heap.size := World.block_lt_of_cell? _ _ cw1_3_0
  have cw1_4_0 : w1.cell? ⟨W.heap.size + 1 + 1 + 1 + 1, 0, none⟩ = some (.int .i64 x) := cell_gr hw1 (by go_simp)
  have cw1_4_1 : w1.cell? ⟨W.heap.size + 1 + 1 + 1 + 1, 1, none⟩ = some (.int .i64 x) := cell_gr hw1 (by go_simp)
  have zw1_4 : W.heap.size + 1 + 1 + 1 + 1 < w1.heap.size := World.block_lt_of_cell? _ _ cw1_4_0
  have cw1_5_0 : w1.cell? ⟨W.heap.size + 1 + 1 + 1 + 1 + 1, 0, none⟩ = some (.int .i64 2) := cell_gr hw1 (by go_simp)
  have cw1_5_1 : w1.cell? ⟨W.heap.size + 1 + 1 + 1 + 1 + 1, 1, none⟩ = some (.slice (some ⟨W.heap.size + 1 + 1 + 1 + 1, 0, none⟩) 1 1) := cell_gr hw1 (by go_simp)
  have zw1_5 : W.heap.size + 1 + 1 + 1 + 1 + 1 < w1.heap.size := World.block_lt_of_cell? _ _ cw1_5_0
  have cw1_6_0 : w1.cell? ⟨W.heap.size + 1 + 1 + 1 + 1 + 1 + 1, 0, none⟩ = some (.int .i64 x) := cell_gr hw1 (by go_simp)
  have cw1_6_1 : w1.cell? ⟨W.heap.size + 1 + 1 + 1 + 1 + 1 + 1, 1, none⟩ = some (.int .i64 0) := cell_gr hw1 (by go_simp)
  have cw1_6_2 : w1.cell? ⟨W.heap.size + 1 + 1 + 1 + 1 + 1 + 1, 2, none⟩ = some (.int .i64 x) := cell_gr hw1 (by go_simp)
  have cw1_6_3 : w1.cell? ⟨W.heap.size + 1 + 1 + 1 + 1 + 1 + 1, 3, none⟩ = some (.int .i64 0) := cell_gr hw1 (by go_simp)
  have zw1_6 : W.heap.size + 1 + 1 + 1 + 1 + 1 + 1 < w1.heap.size := World.block_lt_of_cell? _ _ cw1_6_0
  have cw1_7_0 : w1.cell? ⟨W.heap.size + 1 + 1 + 1 + 1 + 1 + 1 + 1, 0, none⟩ = some (.int .i64 3) := cell_gr hw1 (by go_simp)
  have cw1_7_1 : w1.cell? ⟨W.heap.size + 1 + 1 + 1 + 1 + 1 + 1 + 1, 1, none⟩ = some (.slice (some ⟨W.heap.size + 1 + 1 + 1 + 1 + 1 + 1, 0, none⟩) 2 2) := cell_gr hw1 (by go_simp)
  have zw1_7 : W.heap.size + 1 + 1 + 1 + 1 + 1 + 1 + 1 < w1.heap.size := World.block_lt_of_cell? _ _ cw1_7_0
  have gw1 : Gr W w1 := Gr.trans (by go_grown) hw1
  clear hw1
  go_wp2_with fail
  go_at_call 6
  refine ((H2.out _ _ _ (by have gg := gw1; have gs := gg.size; go_grown) (bl_1 (by go_simp) (by go_simp)))).mono ?_
  rintro e w2 ⟨rfl, hw2⟩
  have cw2_0_0 : w2.cell? ⟨W.heap.size, 0, none⟩ = some (.int .i64 kq) := cell_gr hw2 (by go_simp)
  have cw2_0_1 : w2.cell? ⟨W.heap.size, 1, none⟩ = some (.int .i64 lx) := cell_gr hw2 (by go_simp)
  have cw2_0_2 : w2.cell? ⟨W.heap.size, 2, none⟩ = some (.int .i64 ly) := cell_gr hw2 (by go_simp)
  have cw2_0_3 : w2.cell? ⟨W.heap.size, 3, none⟩ = some (.int .i64 hx) := cell_gr hw2 (by go_simp)
  have cw2_0_4 : w2.cell? ⟨W.heap.size, 4, none⟩ = some (.int .i64 hy) := cell_gr hw2 (by go_simp)
  have cw2_0_5 : w2.cell? ⟨W.heap.size, 5, none⟩ = some (.slice bd m bcap) := cell_gr hw2 (by go_simp)
  have zw2_0 : W.heap.size < w2.heap.size := World.block_lt_of_cell? _ _ cw2_0_0
  have cw2_1_0 : w2.cell? ⟨W.heap.size + 1, 0, none⟩ = some (.int .i64 px) := cell_gr hw2 (by go_simp)
  have cw2_1_1 : w2.cell? ⟨W.heap.size + 1, 1, none⟩ = some (.int .i64 py) := cell_gr hw2 (by go_simp)
  have zw2_1 : W.heap.size + 1 < w2.heap.size := World.block_lt_of_cell? _ _ cw2_1_0
  have cw2_2_0 : w2.cell? ⟨W.heap.size + 1 + 1, 0, none⟩ = some (.int .i64 x) := cell_gr hw2 (by go_simp)
  have cw2_2_1 : w2.cell? ⟨W.heap.size + 1 + 1, 1, none⟩ = some (.int .i64 0) := cell_gr hw2 (by go_simp)
  have zw2_2 : W.heap.size + 1 + 1 < w2.heap.size := World.block_lt_of_cell? _ _ cw2_2_0
  have cw2_3_0 : w2.cell? ⟨W.heap.size + 1 + 1 + 1, 0, none⟩ = some (.int .i64 1) := cell_gr hw2 (by go_simp)
  have cw2_3_1 : w2.cell? ⟨W.heap.size + 1 + 1 + 1, 1, none⟩ = some (.slice (some ⟨W.heap.size + 1 + 1, 0, none⟩) 1 1) := cell_gr hw2 (by go_simp)
  have zw2_3 : W.heap.size + 1 + 1 + 1 < w2.heap.size := World.block_lt_of_cell? _ _ cw2_3_0
  have cw2_4_0 : w2.cell? ⟨W.heap.size + 1 + 1 + 1 + 1, 0, none⟩ = some (.int .i64 x) := cell_gr hw2 (by go_simp)
  have cw2_4_1 : w2.cell? ⟨W.heap.size + 1 + 1 + 1 + 1, 1, none⟩ = some (.int .i64 x) := cell_gr hw2 (by go_simp)
  have zw2_4 : W.heap.size + 1 + 1 + 1 + 1 < w2.heap.size := World.block_lt_of_cell? _ _ cw2_4_0
  have cw2_5_0 : w2.cell? ⟨W.heap.size + 1 + 1 + 1 + 1 + 1, 0, none⟩ = some (.int .i64 2) := cell_gr hw2 (by go_simp)
  have cw2_5_1 : w2.cell? ⟨W.heap.size + 1 + 1 + 1 + 1 + 1, 1, none⟩ = some (.slice (some ⟨W.heap.size + 1 + 1 + 1 + 1, 0, none⟩) 1 1) := cell_gr hw2 (by go_simp)
  have zw2_5 : W.heap.size + 1 + 1 + 1 + 1 + 1 < w2.heap.size := World.block_lt_of_cell? _ _ cw2_5_0
  have cw2_6_0 : w2.cell? ⟨W.heap.size + 1 + 1 + 1 + 1 + 1 + 1, 0, none⟩ = some (.int .i64 x) := cell_gr hw2 (by go_simp)
  have cw2_6_1 : w2.cell? ⟨W.heap.size + 1 + 1 + 1 + 1 + 1 + 1, 1, none⟩ = some (.int .i64 0) := cell_gr hw2 (by go_simp)
  have cw2_6_2 : w2.cell? ⟨W.heap.size + 1 + 1 + 1 + 1 + 1 + 1, 2, none⟩ = some (.int .i64 x) := cell_gr hw2 (by go_simp)
  have cw2_6_3 : w2.cell? ⟨W.heap.size + 1 + 1 + 1 + 1 + 1 + 1, 3, none⟩ = some (.int .i64 0) := cell_gr hw2 (by go_simp)
  have zw2_6 : W.heap.size + 1 + 1 + 1 + 1 + 1 + 1 < w2.heap.size := World.block_lt_of_cell? _ _ cw2_6_0
  have cw2_7_0 : w2.cell? ⟨W.heap.size + 1 + 1 + 1 + 1 + 1 + 1 + 1, 0, none⟩ = some (.int .i64 3) := cell_gr hw2 (by go_simp)
  have cw2_7_1 : w2.cell? ⟨W.heap.size + 1 + 1 + 1 + 1 + 1 + 1 + 1, 1, none⟩ = some (.slice (some ⟨W.heap.size + 1 + 1 + 1 + 1 + 1 + 1, 0, none⟩) 2 2) := cell_gr hw2 (by go_simp)
  have zw2_7 : W.heap.size + 1 + 1 + 1 + 1 + 1 + 1 + 1 < w2.heap.size := World.block_lt_of_cell? _ _ cw2_7_0
  have gw2 : Gr W w2 := Gr.trans (by have gg := gw1; have gs := gg.size; go_grown) hw2
  clear hw2 gw1 zw1_0 cw1_0_0 cw1_0_1 cw1_0_2 cw1_0_3 cw1_0_4 cw1_0_5 zw1_1 cw1_1_0 cw1_1_1 zw1_2 cw1_2_0 cw1_2_1 zw1_3 cw1_3_0 cw1_3_1 zw1_4 cw1_4_0 cw1_4_1 zw1_5 cw1_5_0 cw1_5_1 zw1_6 cw1_6_0 cw1_6_1 cw1_6_2 cw1_6_3 zw1_7 cw1_7_0 cw1_7_1
  go_wp2_with fail
  try simp only [List.append]
  refine Od.wp_region_ord [(0, false), (1, false), (3, false), (2, true), (4, false), (5, false), (6, false), (7, false), (9, false), (8, true), (10, false), (11, false), (12, false), (13, false), (14, false), (16, false), (15, true), (17, false), (18, false), (19, false), (20, false), (21, false), (23, false), (22, true), (24, false), (25, false), (26, false), (27, false), (28, false), (29, false), (30, false), (31, true), (32, false), (33, false), (34, false), (35, true), (36, false), (37, false), (38, false), (39, false), (40, false), (41, true), (42, false), (43, false)] (by kernel_rfl) (by kernel_rfl) ?_
  intro w3 hw3 KQ hKQ
  have cw3_0_0 : w3.cell? ⟨W.heap.size, 0, none⟩ = some (.int .i64 kq) := cell_gr hw3 (by go_simp)
  have cw3_0_1 : w3.cell? ⟨W.heap.size, 1, none⟩ = some (.int .i64 lx) := cell_gr hw3 (by go_simp)
  have cw3_0_2 : w3.cell? ⟨W.heap.size, 2, none⟩ = some (.int .i64 ly) := cell_gr hw3 (by go_simp)
  have cw3_0_3 : w3.cell? ⟨W.heap.size, 3, none⟩ = some (.int .i64 hx) := cell_gr hw3 (by go_simp)
  have cw3_0_4 : w3.cell? ⟨W.heap.size, 4, none⟩ = some (.int .i64 hy) := cell_gr hw3 (by go_simp)
  have cw3_0_5 : w3.cell? ⟨W.heap.size, 5, none⟩ = some (.slice bd m bcap) := cell_gr hw3 (by go_simp)
  have zw3_0 : W.heap.size < w3.heap.size := World.block_lt_of_cell? _ _ cw3_0_0
  have cw3_1_0 : w3.cell? ⟨W.heap.size + 1, 0, none⟩ = some (.int .i64 px) := cell_gr hw3 (by go_simp)
  have cw3_1_1 : w3.cell? ⟨W.heap.size + 1, 1, none⟩ = some (.int .i64 py) := cell_gr hw3 (by go_simp)
  have zw3_1 : W.heap.size + 1 < w3.heap.size := World.block_lt_of_cell? _ _ cw3_1_0
  have cw3_2_0 : w3.cell? ⟨W.heap.size + 1 + 1, 0, none⟩ = some (.int .i64 x) := cell_gr hw3 (by go_simp)
  have cw3_2_1 : w3.cell? ⟨W.heap.size + 1 + 1, 1, none⟩ = some (.int .i64 0) := cell_gr hw3 (by go_simp)
  have zw3_2 : W.heap.size + 1 + 1 < w3.heap.size := World.block_lt_of_cell? _ _ cw3_2_0
  have cw3_3_0 : w3.cell? ⟨W.heap.size + 1 + 1 + 1, 0, none⟩ = some (.int .i64 1) := cell_gr hw3 (by go_simp)
  have cw3_3_1 : w3.cell? ⟨W.heap.size + 1 + 1 + 1, 1, none⟩ = some (.slice (some ⟨W.heap.size + 1 + 1, 0, none⟩) 1 1) := cell_gr hw3 (by go_simp)
  have zw3_3 : W.heap.size + 1 + 1 + 1 < w3.heap.size := World.block_lt_of_cell? _ _ cw3_3_0
  have cw3_4_0 : w3.cell? ⟨W.heap.size + 1 + 1 + 1 + 1, 0, none⟩ = some (.int .i64 x) := cell_gr hw3 (by go_simp)
  have cw3_4_1 : w3.cell? ⟨W.heap.size + 1 + 1 + 1 + 1, 1, none⟩ = some (.int .i64 x) := cell_gr hw3 (by go_simp)
  have zw3_4 : W.heap.size + 1 + 1 + 1 + 1 < w3.heap.size := World.block_lt_of_cell? _ _ cw3_4_0
  have cw3_5_0 : w3.cell? ⟨W.heap.size + 1 + 1 + 1 + 1 + 1, 0, none⟩ = some (.int .i64 2) := cell_gr hw3 (by go_simp)
  have cw3_5_1 : w3.cell? ⟨W.heap.size + 1 + 1 + 1 + 1 + 1, 1, none⟩ = some (.slice (some ⟨W.heap.size + 1 + 1 + 1 + 1, 0, none⟩) 1 1) := cell_gr hw3 (by go_simp)
  have zw3_5 : W.heap.size + 1 + 1 + 1 + 1 + 1 < w3.heap.size := World.block_lt_of_cell? _ _ cw3_5_0
  have cw3_6_0 : w3.cell? ⟨W.heap.size + 1 + 1 + 1 + 1 + 1 + 1, 0, none⟩ = some (.int .i64 x) := cell_gr hw3 (by go_simp)
  have cw3_6_1 : w3.cell? ⟨W.heap.size + 1 + 1 + 1 + 1 + 1 + 1, 1, none⟩ = some (.int .i64 0) := cell_gr hw3 (by go_simp)
  have cw3_6_2 : w3.cell? ⟨W.heap.size + 1 + 1 + 1 + 1 + 1 + 1, 2, none⟩ = some (.int .i64 x) := cell_gr hw3 (by go_simp)
  have cw3_6_3 : w3.cell? ⟨W.heap.size + 1 + 1 + 1 + 1 + 1 + 1, 3, none⟩ = some (.int .i64 0) := cell_gr hw3 (by go_simp)
  have zw3_6 : W.heap.size + 1 + 1 + 1 + 1 + 1 + 1 < w3.heap.size := World.block_lt_of_cell? _ _ cw3_6_0
  have cw3_7_0 : w3.cell? ⟨W.heap.size + 1 + 1 + 1 + 1 + 1 + 1 + 1, 0, none⟩ = some (.int .i64 3) := cell_gr hw3 (by go_simp)
  have cw3_7_1 : w3.cell? ⟨W.heap.size + 1 + 1 + 1 + 1 + 1 + 1 + 1, 1, none⟩ = some (.slice (some ⟨W.heap.size + 1 + 1 + 1 + 1 + 1 + 1, 0, none⟩) 2 2) := cell_gr hw3 (by go_simp)
  have zw3_7 : W.heap.size + 1 + 1 + 1 + 1 + 1 + 1 + 1 < w3.heap.size := World.block_lt_of_cell? _ _ cw3_7_0
  have cw3_8_0 : w3.cell? ⟨w2.heap.size, 0, none⟩ = some (.int .u64 0) := cell_gr hw3 (by go_simp)
  have cw3_8_1 : w3.cell? ⟨w2.heap.size, 1, none⟩ = some (.int .u64 0) := cell_gr hw3 (by go_simp)
  have cw3_8_2 : w3.cell? ⟨w2.heap.size, 2, none⟩ = some (.int .u64 0) := cell_gr hw3 (by go_simp)
  have zw3_8 : w2.heap.size < w3.heap.size := World.block_lt_of_cell? _ _ cw3_8_0
  have gw3 : Gr W w3 := Gr.trans (by have gg := gw2; have gs := gg.size; go_grown) hw3
  clear gw2 zw2_0 cw2_0_0 cw2_0_1 cw2_0_2 cw2_0_3 cw2_0_4 cw2_0_5 zw2_1 cw2_1_0 cw2_1_1 zw2_2 cw2_2_0 cw2_2_1 zw2_3 cw2_3_0 cw2_3_1 zw2_4 cw2_4_0 cw2_4_1 zw2_5 cw2_5_0 cw2_5_1 zw2_6 cw2_6_0 cw2_6_1 cw2_6_2 cw2_6_3 zw2_7 cw2_7_0 cw2_7_1
  clear hw3
  repeat (first | (refine Od.wpO_skip (by simp only [List.getElem?_toArray, List.getElem?_cons_succ, List.getElem?_cons_zero] <;> rfl) rfl ?_; simp only [Act.put, List.setIfInBounds_toArray, List.set_cons_zero, List.set_cons_succ]) | (refine Od.wpO_pure (by simp only [List.getElem?_toArray, List.getElem?_cons_succ, List.getElem?_cons_zero] <;> rfl) rfl ?_; apply Exists.intro; refine ⟨?_, ?_⟩; (· intro wx gx; obtain ⟨mx, rfl⟩ := spread_of_gr gx; clear gx; all_goals (apply Od.pAt_of_quiet; intro K hK; go_big_quiet_op; first | exact hK _ rfl | (apply Exists.intro; refine ⟨fun _ => ?_, ?_⟩; (· fail); exact hK _ rfl))); try simp only [Act.put, List.setIfInBounds_toArray, List.set_cons_zero, List.set_cons_succ]))
  refine Od.wpO_call (by simp only [List.getElem?_toArray, List.getElem?_cons_succ, List.getElem?_cons_zero] <;> rfl) rfl ?_
  intro QS hQS
  go_wp2_with fail
  go_at_call 5
  (with_reducible refine ((H1.out _ _ _ gw3 (bl_2 cw3_4_0 cw3_4_1))).mono ?_)
  rintro e w4 ⟨rfl, hw4⟩
  go_wp2_with fail
  apply Exists.intro
  refine ⟨?_, hw4, ?_⟩
  · simp only [Act.put, List.setIfInBounds_toArray, List.set_cons_zero, List.set_cons_succ]; rfl
  have cw4_0_0 : w4.cell? ⟨W.heap.size, 0, none⟩ = some (.int .i64 kq) := cell_gr hw4 (by go_simp)
  have cw4_0_1 : w4.cell? ⟨W.heap.size, 1, none⟩ = some (.int .i64 lx) := cell_gr hw4 (by go_simp)
  have cw4_0_2 : w4.cell? ⟨W.heap.size, 2, none⟩ = some (.int .i64 ly) := cell_gr hw4 (by go_simp)
  have cw4_0_3 : w4.cell? ⟨W.heap.size, 3, none⟩ = some (.int .i64 hx) := cell_gr hw4 (by go_simp)
  have cw4_0_4 : w4.cell? ⟨W.heap.size, 4, none⟩ = some (.int .i64 hy) := cell_gr hw4 (by go_simp)
  have cw4_0_5 : w4.cell? ⟨W.heap.size, 5, none⟩ = some (.slice bd m bcap) := cell_gr hw4 (by go_simp)
  have zw4_0 : W.heap.size < w4.heap.size := World.block_lt_of_cell? _ _ cw4_0_0
  have cw4_1_0 : w4.cell? ⟨W.heap.size + 1, 0, none⟩ = some (.int .i64 px) := cell_gr hw4 (by go_simp)
  have cw4_1_1 : w4.cell? ⟨W.heap.size + 1, 1, none⟩ = some (.int .i64 py) := cell_gr hw4 (by go_simp)
  have zw4_1 : W.heap.size + 1 < w4.heap.size := World.block_lt_of_cell? _ _ cw4_1_0
  have cw4_2_0 : w4.cell? ⟨W.heap.size + 1 + 1, 0, none⟩ = some (.int .i64 x) := cell_gr hw4 (by go_simp)
  have cw4_2_1 : w4.cell? ⟨W.heap.size + 1 + 1, 1, none⟩ = some (.int .i64 0) := cell_gr hw4 (by go_simp)
  have zw4_2 : W.heap.size + 1 + 1 < w4.heap.size := World.block_lt_of_cell? _ _ cw4_2_0
  have cw4_3_0 : w4.cell? ⟨W.heap.size + 1 + 1 + 1, 0, none⟩ = some (.int .i64 1) := cell_gr hw4 (by go_simp)
  have cw4_3_1 : w4.cell? ⟨W.heap.size + 1 + 1 + 1, 1, none⟩ = some (.slice (some ⟨W.heap.size + 1 + 1, 0, none⟩) 1 1) := cell_gr hw4 (by go_simp)
  have zw4_3 : W.heap.size + 1 + 1 + 1 < w4.heap.size := World.block_lt_of_cell? _ _ cw4_3_0
  have cw4_4_0 : w4.cell? ⟨W.heap.size + 1 + 1 + 1 + 1, 0, none⟩ = some (.int .i64 x) := cell_gr hw4 (by go_simp)
  have cw4_4_1 : w4.cell? ⟨W.heap.size + 1 + 1 + 1 + 1, 1, none⟩ = some (.int .i64 x) := cell_gr hw4 (by go_simp)
  have zw4_4 : W.heap.size + 1 + 1 + 1 + 1 < w4.heap.size := World.block_lt_of_cell? _ _ cw4_4_0
  have cw4_5_0 : w4.cell? ⟨W.heap.size + 1 + 1 + 1 + 1 + 1, 0, none⟩ = some (.int .i64 2) := cell_gr hw4 (by go_simp)
  have cw4_5_1 : w4.cell? ⟨W.heap.size + 1 + 1 + 1 + 1 + 1, 1, none⟩ = some (.slice (some ⟨W.heap.size + 1 + 1 + 1 + 1, 0, none⟩) 1 1) := cell_gr hw4 (by go_simp)
  have zw4_5 : W.heap.size + 1 + 1 + 1 + 1 + 1 < w4.heap.size := World.block_lt_of_cell? _ _ cw4_5_0
  have cw4_6_0 : w4.cell? ⟨W.heap.size + 1 + 1 + 1 + 1 + 1 + 1, 0, none⟩ = some (.int .i64 x) := cell_gr hw4 (by go_simp)
  have cw4_6_1 : w4.cell? ⟨W.heap.size + 1 + 1 + 1 + 1 + 1 + 1, 1, none⟩ = some (.int .i64 0) := cell_gr hw4 (by go_simp)
  have cw4_6_2 : w4.cell? ⟨W.heap.size + 1 + 1 + 1 + 1 + 1 + 1, 2, none⟩ = some (.int .i64 x) := cell_gr hw4 (by go_simp)
  have cw4_6_3 : w4.cell? ⟨W.heap.size + 1 + 1 + 1 + 1 + 1 + 1, 3, none⟩ = some (.int .i64 0) := cell_gr hw4 (by go_simp)
  have zw4_6 : W.heap.size + 1 + 1 + 1 + 1 + 1 + 1 < w4.heap.size := World.block_lt_of_cell? _ _ cw4_6_0
  have cw4_7_0 : w4.cell? ⟨W.heap.size + 1 + 1 + 1 + 1 + 1 + 1 + 1, 0, none⟩ = some (.int .i64 3) := cell_gr hw4 (by go_simp)
  have cw4_7_1 : w4.cell? ⟨W.heap.size + 1 + 1 + 1 + 1 + 1 + 1 + 1, 1, none⟩ = some (.slice (some ⟨W.heap.size + 1 + 1 + 1 + 1 + 1 + 1, 0, none⟩) 2 2) := cell_gr hw4 (by go_simp)
  have zw4_7 : W.heap.size + 1 + 1 + 1 + 1 + 1 + 1 + 1 < w4.heap.size := World.block_lt_of_cell? _ _ cw4_7_0
  have cw4_8_0 : w4.cell? ⟨w2.heap.size, 0, none⟩ = some (.int .u64 0) := cell_gr hw4 (by go_simp)
  have cw4_8_1 : w4.cell? ⟨w2.heap.size, 1, none⟩ = some (.int .u64 0) := cell_gr hw4 (by go_simp)
  have cw4_8_2 : w4.cell? ⟨w2.heap.size, 2, none⟩ = some (.int .u64 0) := cell_gr hw4 (by go_simp)
  have zw4_8 : w2.heap.size < w4.heap.size := World.block_lt_of_cell? _ _ cw4_8_0
  have gw4 : Gr W w4 := Gr.trans (by have gg := gw3; have gs := gg.size; go_grown) hw4
  clear gw3 zw3_0 cw3_0_0 cw3_0_1 cw3_0_2 cw3_0_3 cw3_0_4 cw3_0_5 zw3_1 cw3_1_0 cw3_1_1 zw3_2 cw3_2_0 cw3_2_1 zw3_3 cw3_3_0 cw3_3_1 zw3_4 cw3_4_0 cw3_4_1 zw3_5 cw3_5_0 cw3_5_1 zw3_6 cw3_6_0 cw3_6_1 cw3_6_2 cw3_6_3 zw3_7 cw3_7_0 cw3_7_1 zw3_8 cw3_8_0 cw3_8_1 cw3_8_2
  clear hw4
  try simp only [Act.put, List.setIfInBounds_toArray, List.set_cons_zero, List.set_cons_succ]
  repeat (first | (refine Od.wpO_skip (by simp only [List.getElem?_toArray, List.getElem?_cons_succ, List.getElem?_cons_zero] <;> rfl) rfl ?_; simp only [Act.put, List.setIfInBounds_toArray, List.set_cons_zero, List.set_cons_succ]) | (refine Od.wpO_pure (by simp only [List.getElem?_toArray, List.getElem?_cons_succ, List.getElem?_cons_zero] <;> rfl) rfl ?_; apply Exists.intro; refine ⟨?_, ?_⟩; (· intro wx gx; obtain ⟨mx, rfl⟩ := spread_of_gr gx; clear gx; all_goals (apply Od.pAt_of_quiet; intro K hK; go_big_quiet_op; first | exact hK _ rfl | (apply Exists.intro; refine ⟨fun _ => ?_, ?_⟩; (· fail); exact hK _ rfl))); try simp only [Act.put, List.setIfInBounds_toArray, List.set_cons_zero, List.set_cons_succ]))
  refine Od.wpO_call (by simp only [List.getElem?_toArray, List.getElem?_cons_succ, List.getElem?_cons_zero] <;> rfl) rfl ?_
  intro QS hQS
  go_wp2_with fail
  go_at_call 5
  (with_reducible refine ((H1.out _ _ _ gw4 (bl_3 cw4_6_0 cw4_6_1 cw4_6_2 cw4_6_3))).mono ?_)
  rintro e w5 ⟨rfl, hw5⟩
  go_wp2_with fail
  apply Exists.intro
  refine ⟨?_, hw5, ?_⟩
  · simp only [Act.put, List.setIfInBounds_toArray, List.set_cons_zero, List.set_cons_succ]; rfl
  have cw5_0_0 : w5.cell? ⟨W.heap.size, 0, none⟩ = some (.int .i64 kq) := cell_gr hw5 (by go_simp)
  have cw5_0_1 : w5.cell? ⟨W.heap.size, 1, none⟩ = some (.int .i64 lx) := cell_gr hw5 (by go_simp)
  have cw5_0_2 : w5.cell? ⟨W.heap.size, 2, none⟩ = some (.int .i64 ly) := cell_gr hw5 (by go_simp)
  have cw5_0_3 : w5.cell? ⟨W.heap.size, 3, none⟩ = some (.int .i64 hx) := cell_gr hw5 (by go_simp)
  have cw5_0_4 : w5.cell? ⟨W.heap.size, 4, none⟩ = some (.int .i64 hy) := cell_gr hw5 (by go_simp)
  have cw5_0_5 : w5.cell? ⟨W.heap.size, 5, none⟩ = some (.slice bd m bcap) := cell_gr hw5 (by go_simp)
  have zw5_0 : W.heap.size < w5.heap.size := World.block_lt_of_cell? _ _ cw5_0_0
  have cw5_1_0 : w5.cell? ⟨W.heap.size + 1, 0, none⟩ = some (.int .i64 px) := cell_gr hw5 (by go_simp)
  have cw5_1_1 : w5.cell? ⟨W.heap.size + 1, 1, none⟩ = some (.int .i64 py) := cell_gr hw5 (by go_simp)
  have zw5_1 : W.heap.size + 1 < w5.heap.size := World.block_lt_of_cell? _ _ cw5_1_0
  have cw5_2_0 : w5.cell? ⟨W.heap.size + 1 + 1, 0, none⟩ = some (.int .i64 x) := cell_gr hw5 (by go_simp)
  have cw5_2_1 : w5.cell? ⟨W.heap.size + 1 + 1, 1, none⟩ = some (.int .i64 0) := cell_gr hw5 (by go_simp)
  have zw5_2 : W.heap.size + 1 + 1 < w5.heap.size := World.block_lt_of_cell? _ _ cw5_2_0
  have cw5_3_0 : w5.cell? ⟨W.heap.size + 1 + 1 + 1, 0, none⟩ = some (.int .i64 1) := cell_gr hw5 (by go_simp)
  have cw5_3_1 : w5.cell? ⟨W.heap.size + 1 + 1 + 1, 1, none⟩ = some (.slice (some ⟨W.heap.size + 1 + 1, 0, none⟩) 1 1) := cell_gr hw5 (by go_simp)
  have zw5_3 : W.heap.size + 1 + 1 + 1 < w5.heap.size := World.block_lt_of_cell? _ _ cw5_3_0
  have cw5_4_0 : w5.cell? ⟨W.heap.size + 1 + 1 + 1 + 1, 0, none⟩ = some (.int .i64 x) := cell_gr hw5 (by go_simp)
  have cw5_4_1 : w5.cell? ⟨W.heap.size + 1 + 1 + 1 + 1, 1, none⟩ = some (.int .i64 x) := cell_gr hw5 (by go_simp)
  have zw5_4 : W.heap.size + 1 + 1 + 1 + 1 < w5.heap.size := World.block_lt_of_cell? _ _ cw5_4_0
  have cw5_5_0 : w5.cell? ⟨W.heap.size + 1 + 1 + 1 + 1 + 1, 0, none⟩ = some (.int .i64 2) := cell_gr hw5 (by go_simp)
  have cw5_5_1 : w5.cell? ⟨W.heap.size + 1 + 1 + 1 + 1 + 1, 1, none⟩ = some (.slice (some ⟨W.heap.size + 1 + 1 + 1 + 1, 0, none⟩) 1 1) := cell_gr hw5 (by go_simp)
  have zw5_5 : W.heap.size + 1 + 1 + 1 + 1 + 1 < w5.heap.size := World.block_lt_of_cell? _ _ cw5_5_0
  have cw5_6_0 : w5.cell? ⟨W.heap.size + 1 + 1 + 1 + 1 + 1 + 1, 0, none⟩ = some (.int .i64 x) := cell_gr hw5 (by go_simp)
  have cw5_6_1 : w5.cell? ⟨W.heap.size + 1 + 1 + 1 + 1 + 1 + 1, 1, none⟩ = some (.int .i64 0) := cell_gr hw5 (by go_simp)
  have cw5_6_2 : w5.cell? ⟨W.heap.size + 1 + 1 + 1 + 1 + 1 + 1, 2, none⟩ = some (.int .i64 x) := cell_gr hw5 (by go_simp)
  have cw5_6_3 : w5.cell? ⟨W.heap.size + 1 + 1 + 1 + 1 + 1 + 1, 3, none⟩ = some (.int .i64 0) := cell_gr hw5 (by go_simp)
  have zw5_6 : W.heap.size + 1 + 1 + 1 + 1 + 1 + 1 < w5.heap.size := World.block_lt_of_cell? _ _ cw5_6_0
  have cw5_7_0 : w5.cell? ⟨W.heap.size + 1 + 1 + 1 + 1 + 1 + 1 + 1, 0, none⟩ = some (.int .i64 3) := cell_gr hw5 (by go_simp)
  have cw5_7_1 : w5.cell? ⟨W.heap.size + 1 + 1 + 1 + 1 + 1 + 1 + 1, 1, none⟩ = some (.slice (some ⟨W.heap.size + 1 + 1 + 1 + 1 + 1 + 1, 0, none⟩) 2 2) := cell_gr hw5 (by go_simp)
  have zw5_7 : W.heap.size + 1 + 1 + 1 + 1 + 1 + 1 + 1 < w5.heap.size := World.block_lt_of_cell? _ _ cw5_7_0
  have cw5_8_0 : w5.cell? ⟨w2.heap.size, 0, none⟩ = some (.int .u64 0) := cell_gr hw5 (by go_simp)
  have cw5_8_1 : w5.cell? ⟨w2.heap.size, 1, none⟩ = some (.int .u64 0) := cell_gr hw5 (by go_simp)
  have cw5_8_2 : w5.cell? ⟨w2.heap.size, 2, none⟩ = some (.int .u64 0) := cell_gr hw5 (by go_simp)
  have zw5_8 : w2.heap.size < w5.heap.size := World.block_lt_of_cell? _ _ cw5_8_0
  have gw5 : Gr W w5 := Gr.trans (by have gg := gw4; have gs := gg.size; go_grown) hw5
  clear gw4 zw4_0 cw4_0_0 cw4_0_1 cw4_0_2 cw4_0_3 cw4_0_4 cw4_0_5 zw4_1 cw4_1_0 cw4_1_1 zw4_2 cw4_2_0 cw4_2_1 zw4_3 cw4_3_0 cw4_3_1 zw4_4 cw4_4_0 cw4_4_1 zw4_5 cw4_5_0 cw4_5_1 zw4_6 cw4_6_0 cw4_6_1 cw4_6_2 cw4_6_3 zw4_7 cw4_7_0 cw4_7_1 zw4_8 cw4_8_0 cw4_8_1 cw4_8_2
  clear hw5
  try simp only [Act.put, List.setIfInBounds_toArray, List.set_cons_zero, List.set_cons_succ]
  repeat (first | (refine Od.wpO_skip (by simp only [List.getElem?_toArray, List.getElem?_cons_succ, List.getElem?_cons_zero] <;> rfl) rfl ?_; simp only [Act.put, List.setIfInBounds_toArray, List.set_cons_zero, List.set_cons_succ]) | (refine Od.wpO_pure (by simp only [List.getElem?_toArray, List.getElem?_cons_succ, List.getElem?_cons_zero] <;> rfl) rfl ?_; apply Exists.intro; refine ⟨?_, ?_⟩; (· intro wx gx; obtain ⟨mx, rfl⟩ := spread_of_gr gx; clear gx; all_goals (apply Od.pAt_of_quiet; intro K hK; go_big_quiet_op; first | exact hK _ rfl | (apply Exists.intro; refine ⟨fun _ => ?_, ?_⟩; (· fail); exact hK _ rfl))); try simp only [Act.put, List.setIfInBounds_toArray, List.set_cons_zero, List.set_cons_succ]))
  refine Od.wpO_call (by simp only [List.getElem?_toArray, List.getElem?_cons_succ, List.getElem?_cons_zero] <;> rfl) rfl ?_
  intro QS hQS
  go_wp2_with fail
  go_at_call 6
  (with_reducible refine ((H2.out _ _ _ gw5 (bl_2 cw5_4_0 cw5_4_1))).mono ?_)
  rintro e w6 ⟨rfl, hw6⟩
  go_wp2_with fail
  apply Exists.intro
  refine ⟨?_, hw6, ?_⟩
  · simp only [Act.put, List.setIfInBounds_toArray, List.set_cons_zero, List.set_cons_succ]; rfl
  have cw6_0_0 : w6.cell? ⟨W.heap.size, 0, none⟩ = some (.int .i64 kq) := cell_gr hw6 (by go_simp)
  have cw6_0_1 : w6.cell? ⟨W.heap.size, 1, none⟩ = some (.int .i64 lx) := cell_gr hw6 (by go_simp)
  have cw6_0_2 : w6.cell? ⟨W.heap.size, 2, none⟩ = some (.int .i64 ly) := cell_gr hw6 (by go_simp)
  have cw6_0_3 : w6.cell? ⟨W.heap.size, 3, none⟩ = some (.int .i64 hx) := cell_gr hw6 (by go_simp)
  have cw6_0_4 : w6.cell? ⟨W.heap.size, 4, none⟩ = some (.int .i64 hy) := cell_gr hw6 (by go_simp)
  have cw6_0_5 : w6.cell? ⟨W.heap.size, 5, none⟩ = some (.slice bd m bcap) := cell_gr hw6 (by go_simp)
  have zw6_0 : W.heap.size < w6.heap.size := World.block_lt_of_cell? _ _ cw6_0_0
  have cw6_1_0 : w6.cell? ⟨W.heap.size + 1, 0, none⟩ = some (.int .i64 px) := cell_gr hw6 (by go_simp)
  have cw6_1_1 : w6.cell? ⟨W.heap.size + 1, 1, none⟩ = some (.int .i64 py) := cell_gr hw6 (by go_simp)
  have zw6_1 : W.heap.size + 1 < w6.heap.size := World.block_lt_of_cell? _ _ cw6_1_0
  have cw6_2_0 : w6.cell? ⟨W.heap.size + 1 + 1, 0, none⟩ = some (.int .i64 x) := cell_gr hw6 (by go_simp)
  have cw6_2_1 : w6.cell? ⟨W.heap.size + 1 + 1, 1, none⟩ = some (.int .i64 0) := cell_gr hw6 (by go_simp)
  have zw6_2 : W.heap.size + 1 + 1 < w6.heap.size := World.block_lt_of_cell? _ _ cw6_2_0
  have cw6_3_0 : w6.cell? ⟨W.heap.size + 1 + 1 + 1, 0, none⟩ = some (.int .i64 1) := cell_gr hw6 (by go_simp)
  have cw6_3_1 : w6.cell? ⟨W.heap.size + 1 + 1 + 1, 1, none⟩ = some (.slice (some ⟨W.heap.size + 1 + 1, 0, none⟩) 1 1) := cell_gr hw6 (by go_simp)
  have zw6_3 : W.heap.size + 1 + 1 + 1 < w6.heap.size := World.block_lt_of_cell? _ _ cw6_3_0
  have cw6_4_0 : w6.cell? ⟨W.heap.size + 1 + 1 + 1 + 1, 0, none⟩ = some (.int .i64 x) := cell_gr hw6 (by go_simp)
  have cw6_4_1 : w6.cell? ⟨W.heap.size + 1 + 1 + 1 + 1, 1, none⟩ = some (.int .i64 x) := cell_gr hw6 (by go_simp)
  have zw6_4 : W.heap.size + 1 + 1 + 1 + 1 < w6.heap.size := World.block_lt_of_cell? _ _ cw6_4_0
  have cw6_5_0 : w6.cell? ⟨W.heap.size + 1 + 1 + 1 + 1 + 1, 0, none⟩ = some (.int .i64 2) := cell_gr hw6 (by go_simp)
  have cw6_5_1 : w6.cell? ⟨W.heap.size + 1 + 1 + 1 + 1 + 1, 1, none⟩ = some (.slice (some ⟨W.heap.size + 1 + 1 + 1 + 1, 0, none⟩) 1 1) := cell_gr hw6 (by go_simp)
  have zw6_5 : W.heap.size + 1 + 1 + 1 + 1 + 1 < w6.heap.size := World.block_lt_of_cell? _ _ cw6_5_0
  have cw6_6_0 : w6.cell? ⟨W.heap.size + 1 + 1 + 1 + 1 + 1 + 1, 0, none⟩ = some (.int .i64 x) := cell_gr hw6 (by go_simp)
  have cw6_6_1 : w6.cell? ⟨W.heap.size + 1 + 1 + 1 + 1 + 1 + 1, 1, none⟩ = some (.int .i64 0) := cell_gr hw6 (by go_simp)
  have cw6_6_2 : w6.cell? ⟨W.heap.size + 1 + 1 + 1 + 1 + 1 + 1, 2, none⟩ = some (.int .i64 x) := cell_gr hw6 (by go_simp)
  have cw6_6_3 : w6.cell? ⟨W.heap.size + 1 + 1 + 1 + 1 + 1 + 1, 3, none⟩ = some (.int .i64 0) := cell_gr hw6 (by go_simp)
  have zw6_6 : W.heap.size + 1 + 1 + 1 + 1 + 1 + 1 < w6.heap.size := World.block_lt_of_cell? _ _ cw6_6_0
  have cw6_7_0 : w6.cell? ⟨W.heap.size + 1 + 1 + 1 + 1 + 1 + 1 + 1, 0, none⟩ = some (.int .i64 3) := cell_gr hw6 (by go_simp)
  have cw6_7_1 : w6.cell? ⟨W.heap.size + 1 + 1 + 1 + 1 + 1 + 1 + 1, 1, none⟩ = some (.slice (some ⟨W.heap.size + 1 + 1 + 1 + 1 + 1 + 1, 0, none⟩) 2 2) := cell_gr hw6 (by go_simp)
  have zw6_7 : W.heap.size + 1 + 1 + 1 + 1 + 1 + 1 + 1 < w6.heap.size := World.block_lt_of_cell? _ _ cw6_7_0
  have cw6_8_0 : w6.cell? ⟨w2.heap.size, 0, none⟩ = some (.int .u64 0) := cell_gr hw6 (by go_simp)
  have cw6_8_1 : w6.cell? ⟨w2.heap.size, 1, none⟩ = some (.int .u64 0) := cell_gr hw6 (by go_simp)
  have cw6_8_2 : w6.cell? ⟨w2.heap.size, 2, none⟩ = some (.int .u64 0) := cell_gr hw6 (by go_simp)
  have zw6_8 : w2.heap.size < w6.heap.size := World.block_lt_of_cell? _ _ cw6_8_0
  have gw6 : Gr W w6 := Gr.trans (by have gg := gw5; have gs := gg.size; go_grown) hw6
  clear gw5 zw5_0 cw5_0_0 cw5_0_1 cw5_0_2 cw5_0_3 cw5_0_4 cw5_0_5 zw5_1 cw5_1_0 cw5_1_1 zw5_2 cw5_2_0 cw5_2_1 zw5_3 cw5_3_0 cw5_3_1 zw5_4 cw5_4_0 cw5_4_1 zw5_5 cw5_5_0 cw5_5_1 zw5_6 cw5_6_0 cw5_6_1 cw5_6_2 cw5_6_3 zw5_7 cw5_7_0 cw5_7_1 zw5_8 cw5_8_0 cw5_8_1 cw5_8_2
  clear hw6
  try simp only [Act.put, List.setIfInBounds_toArray, List.set_cons_zero, List.set_cons_succ]
  repeat (first | (refine Od.wpO_skip (by simp only [List.getElem?_toArray, List.getElem?_cons_succ, List.getElem?_cons_zero] <;> rfl) rfl ?_; simp only [Act.put, List.setIfInBounds_toArray, List.set_cons_zero, List.set_cons_succ]) | (refine Od.wpO_pure (by simp only [List.getElem?_toArray, List.getElem?_cons_succ, List.getElem?_cons_zero] <;> rfl) rfl ?_; apply Exists.intro; refine ⟨?_, ?_⟩; (· intro wx gx; obtain ⟨mx, rfl⟩ := spread_of_gr gx; clear gx; all_goals (apply Od.pAt_of_quiet; intro K hK; go_big_quiet_op; first | exact hK _ rfl | (apply Exists.intro; refine ⟨fun _ => ?_, ?_⟩; (· fail); exact hK _ rfl))); try simp only [Act.put, List.setIfInBounds_toArray, List.set_cons_zero, List.set_cons_succ]))
  refine Od.wpO_call (by simp only [List.getElem?_toArray, List.getElem?_cons_succ, List.getElem?_cons_zero] <;> rfl) rfl ?_
  intro QS hQS
  go_wp2_with fail
  go_at_call 6
  (with_reducible refine ((H2.out _ _ _ gw6 (bl_3 cw6_6_0 cw6_6_1 cw6_6_2 cw6_6_3))).mono ?_)
  rintro e w7 ⟨rfl, hw7⟩
  go_wp2_with fail
  apply Exists.intro
  refine ⟨?_, hw7, ?_⟩
  · simp only [Act.put, List.setIfInBounds_toArray, List.set_cons_zero, List.set_cons_succ]; rfl
  have cw7_0_0 : w7.cell? ⟨W.heap.size, 0, none⟩ = some (.int .i64 kq) := cell_gr hw7 (by go_simp)
  have cw7_0_1 : w7.cell? ⟨W.heap.size, 1, none⟩ = some (.int .i64 lx) := cell_gr hw7 (by go_simp)
  have cw7_0_2 : w7.cell? ⟨W.heap.size, 2, none⟩ = some (.int .i64 ly) := cell_gr hw7 (by go_simp)
  have cw7_0_3 : w7.cell? ⟨W.heap.size, 3, none⟩ = some (.int .i64 hx) := cell_gr hw7 (by go_simp)
  have cw7_0_4 : w7.cell? ⟨W.heap.size, 4, none⟩ = some (.int .i64 hy) := cell_gr hw7 (by go_simp)
  have cw7_0_5 : w7.cell? ⟨W.heap.size, 5, none⟩ = some (.slice bd m bcap) := cell_gr hw7 (by go_simp)
  have zw7_0 : W.heap.size < w7.heap.size := World.block_lt_of_cell? _ _ cw7_0_0
  have cw7_1_0 : w7.cell? ⟨W.heap.size + 1, 0, none⟩ = some (.int .i64 px) := cell_gr hw7 (by go_simp)
  have cw7_1_1 : w7.cell? ⟨W.heap.size + 1, 1, none⟩ = some (.int .i64 py) := cell_gr hw7 (by go_simp)
  have zw7_1 : W.heap.size + 1 < w7.heap.size := World.block_lt_of_cell? _ _ cw7_1_0
  have cw7_2_0 : w7.cell? ⟨W.heap.size + 1 + 1, 0, none⟩ = some (.int .i64 x) := cell_gr hw7 (by go_simp)
  have cw7_2_1 : w7.cell? ⟨W.heap.size + 1 + 1, 1, none⟩ = some (.int .i64 0) := cell_gr hw7 (by go_simp)
  have zw7_2 : W.heap.size + 1 + 1 < w7.heap.size := World.block_lt_of_cell? _ _ cw7_2_0
  have cw7_3_0 : w7.cell? ⟨W.heap.size + 1 + 1 + 1, 0, none⟩ = some (.int .i64 1) := cell_gr hw7 (by go_simp)
  have cw7_3_1 : w7.cell? ⟨W.heap.size + 1 + 1 + 1, 1, none⟩ = some (.slice (some ⟨W.heap.size + 1 + 1, 0, none⟩) 1 1) := cell_gr hw7 (by go_simp)
  have zw7_3 : W.heap.size + 1 + 1 + 1 < w7.heap.size := World.block_lt_of_cell? _ _ cw7_3_0
  have cw7_4_0 : w7.cell? ⟨W.heap.size + 1 + 1 + 1 + 1, 0, none⟩ = some (.int .i64 x) := cell_gr hw7 (by go_simp)
  have cw7_4_1 : w7.cell? ⟨W.heap.size + 1 + 1 + 1 + 1, 1, none⟩ = some (.int .i64 x) := cell_gr hw7 (by go_simp)
  have zw7_4 : W.heap.size + 1 + 1 + 1 + 1 < w7.heap.size := World.block_lt_of_cell? _ _ cw7_4_0
  have cw7_5_0 : w7.cell? ⟨W.heap.size + 1 + 1 + 1 + 1 + 1, 0, none⟩ = some (.int .i64 2) := cell_gr hw7 (by go_simp)
  have cw7_5_1 : w7.cell? ⟨W.heap.size + 1 + 1 + 1 + 1 + 1, 1, none⟩ = some (.slice (some ⟨W.heap.size + 1 + 1 + 1 + 1, 0, none⟩) 1 1) := cell_gr hw7 (by go_simp)
  have zw7_5 : W.heap.size + 1 + 1 + 1 + 1 + 1 < w7.heap.size := World.block_lt_of_cell? _ _ cw7_5_0
  have cw7_6_0 : w7.cell? ⟨W.heap.size + 1 + 1 + 1 + 1 + 1 + 1, 0, none⟩ = some (.int .i64 x) := cell_gr hw7 (by go_simp)
  have cw7_6_1 : w7.cell? ⟨W.heap.size + 1 + 1 + 1 + 1 + 1 + 1, 1, none⟩ = some (.int .i64 0) := cell_gr hw7 (by go_simp)
  have cw7_6_2 : w7.cell? ⟨W.heap.size + 1 + 1 + 1 + 1 + 1 + 1, 2, none⟩ = some (.int .i64 x) := cell_gr hw7 (by go_simp)
  have cw7_6_3 : w7.cell? ⟨W.heap.size + 1 + 1 + 1 + 1 + 1 + 1, 3, none⟩ = some (.int .i64 0) := cell_gr hw7 (by go_simp)
  have zw7_6 : W.heap.size + 1 + 1 + 1 + 1 + 1 + 1 < w7.heap.size := World.block_lt_of_cell? _ _ cw7_6_0
  have cw7_7_0 : w7.cell? ⟨W.heap.size + 1 + 1 + 1 + 1 + 1 + 1 + 1, 0, none⟩ = some (.int .i64 3) := cell_gr hw7 (by go_simp)
  have cw7_7_1 : w7.cell? ⟨W.heap.size + 1 + 1 + 1 + 1 + 1 + 1 + 1, 1, none⟩ = some (.slice (some ⟨W.heap.size + 1 + 1 + 1 + 1 + 1 + 1, 0, none⟩) 2 2) := cell_gr hw7 (by go_simp)
  have zw7_7 : W.heap.size + 1 + 1 + 1 + 1 + 1 + 1 + 1 < w7.heap.size := World.block_lt_of_cell? _ _ cw7_7_0
  have cw7_8_0 : w7.cell? ⟨w2.heap.size, 0, none⟩ = some (.int .u64 0) := cell_gr hw7 (by go_simp)
  have cw7_8_1 : w7.cell? ⟨w2.heap.size, 1, none⟩ = some (.int .u64 0) := cell_gr hw7 (by go_simp)
  have cw7_8_2 : w7.cell? ⟨w2.heap.size, 2, none⟩ = some (.int .u64 0) := cell_gr hw7 (by go_simp)
  have zw7_8 : w2.heap.size < w7.heap.size := World.block_lt_of_cell? _ _ cw7_8_0
  have gw7 : Gr W w7 := Gr.trans (by have gg := gw6; have gs := gg.size; go_grown) hw7
  clear gw6 zw6_0 cw6_0_0 cw6_0_1 cw6_0_2 cw6_0_3 cw6_0_4 cw6_0_5 zw6_1 cw6_1_0 cw6_1_1 zw6_2 cw6_2_0 cw6_2_1 zw6_3 cw6_3_0 cw6_3_1 zw6_4 cw6_4_0 cw6_4_1 zw6_5 cw6_5_0 cw6_5_1 zw6_6 cw6_6_0 cw6_6_1 cw6_6_2 cw6_6_3 zw6_7 cw6_7_0 cw6_7_1 zw6_8 cw6_8_0 cw6_8_1 cw6_8_2
  clear hw7
  try simp only [Act.put, List.setIfInBounds_toArray, List.set_cons_zero, List.set_cons_succ]
  repeat (first | (refine Od.wpO_skip (by simp only [List.getElem?_toArray, List.getElem?_cons_succ, List.getElem?_cons_zero] <;> rfl) rfl ?_; simp only [Act.put, List.setIfInBounds_toArray, List.set_cons_zero, List.set_cons_succ]) | (refine Od.wpO_pure (by simp only [List.getElem?_toArray, List.getElem?_cons_succ, List.getElem?_cons_zero] <;> rfl) rfl ?_; apply Exists.intro; refine ⟨?_, ?_⟩; (· intro wx gx; obtain ⟨mx, rfl⟩ := spread_of_gr gx; clear gx; all_goals (apply Od.pAt_of_quiet; intro K hK; go_big_quiet_op; first | exact hK _ rfl | (apply Exists.intro; refine ⟨fun _ => ?_, ?_⟩; (· fail); exact hK _ rfl))); try simp only [Act.put, List.setIfInBounds_toArray, List.set_cons_zero, List.set_cons_succ]))
  refine Od.wpO_call (by simp only [List.getElem?_toArray, List.getElem?_cons_succ, List.getElem?_cons_zero] <;> rfl) rfl ?_
  intro QS hQS
  go_wp2_with fail
  go_at_call 7
  (with_reducible refine ((H3.out _ _ _ (bl_1 cw7_2_0 cw7_2_1))).mono ?_)
  rintro e w8 ⟨rfl, hw8⟩
  go_wp2_with fail
  apply Exists.intro
  refine ⟨?_, hw8, ?_⟩
  · simp only [Act.put, List.setIfInBounds_toArray, List.set_cons_zero, List.set_cons_succ]; rfl
  have cw8_0_0 : w8.cell? ⟨W.heap.size, 0, none⟩ = some (.int .i64 kq) := cell_gr hw8 (by go_simp)
  have cw8_0_1 : w8.cell? ⟨W.heap.size, 1, none⟩ = some (.int .i64 lx) := cell_gr hw8 (by go_simp)
  have cw8_0_2 : w8.cell? ⟨W.heap.size, 2, none⟩ = some (.int .i64 ly) := cell_gr hw8 (by go_simp)
  have cw8_0_3 : w8.cell? ⟨W.heap.size, 3, none⟩ = some (.int .i64 hx) := cell_gr hw8 (by go_simp)
  have cw8_0_4 : w8.cell? ⟨W.heap.size, 4, none⟩ = some (.int .i64 hy) := cell_gr hw8 (by go_simp)
  have cw8_0_5 : w8.cell? ⟨W.heap.size, 5, none⟩ = some (.slice bd m bcap) := cell_gr hw8 (by go_simp)
  have zw8_0 : W.heap.size < w8.heap.size := World.block_lt_of_cell? _ _ cw8_0_0
  have cw8_1_0 : w8.cell? ⟨W.heap.size + 1, 0, none⟩ = some (.int .i64 px) := cell_gr hw8 (by go_simp)
  have cw8_1_1 : w8.cell? ⟨W.heap.size + 1, 1, none⟩ = some (.int .i64 py) := cell_gr hw8 (by go_simp)
  have zw8_1 : W.heap.size + 1 < w8.heap.size := World.block_lt_of_cell? _ _ cw8_1_0
  have cw8_2_0 : w8.cell? ⟨W.heap.size + 1 + 1, 0, none⟩ = some (.int .i64 x) := cell_gr hw8 (by go_simp)
  have cw8_2_1 : w8.cell? ⟨W.heap.size + 1 + 1, 1, none⟩ = some (.int .i64 0) := cell_gr hw8 (by go_simp)
  have zw8_2 : W.heap.size + 1 + 1 < w8.heap.size := World.block_lt_of_cell? _ _ cw8_2_0
  have cw8_3_0 : w8.cell? ⟨W.heap.size + 1 + 1 + 1, 0, none⟩ = some (.int .i64 1) := cell_gr hw8 (by go_simp)
  have cw8_3_1 : w8.cell? ⟨W.heap.size + 1 + 1 + 1, 1, none⟩ = some (.slice (some ⟨W.heap.size + 1 + 1, 0, none⟩) 1 1) := cell_gr hw8 (by go_simp)
  have zw8_3 : W.heap.size + 1 + 1 + 1 < w8.heap.size := World.block_lt_of_cell? _ _ cw8_3_0
  have cw8_4_0 : w8.cell? ⟨W.heap.size + 1 + 1 + 1 + 1, 0, none⟩ = some (.int .i64 x) := cell_gr hw8 (by go_simp)
  have cw8_4_1 : w8.cell? ⟨W.heap.size + 1 + 1 + 1 + 1, 1, none⟩ = some (.int .i64 x) := cell_gr hw8 (by go_simp)
  have zw8_4 : W.heap.size + 1 + 1 + 1 + 1 < w8.heap.size := World.block_lt_of_cell? _ _ cw8_4_0
  have cw8_5_0 : w8.cell? ⟨W.heap.size + 1 + 1 + 1 + 1 + 1, 0, none⟩ = some (.int .i64 2) := cell_gr hw8 (by go_simp)
  have cw8_5_1 : w8.cell? ⟨W.heap.size + 1 + 1 + 1 + 1 + 1, 1, none⟩ = some (.slice (some ⟨W.heap.size + 1 + 1 + 1 + 1, 0, none⟩) 1 1) := cell_gr hw8 (by go_simp)
  have zw8_5 : W.heap.size + 1 + 1 + 1 + 1 + 1 < w8.heap.size := World.block_lt_of_cell? _ _ cw8_5_0
  have cw8_6_0 : w8.cell? ⟨W.heap.size + 1 + 1 + 1 + 1 + 1 + 1, 0, none⟩ = some (.int .i64 x) := cell_gr hw8 (by go_simp)
  have cw8_6_1 : w8.cell? ⟨W.heap.size + 1 + 1 + 1 + 1 + 1 + 1, 1, none⟩ = some (.int .i64 0) := cell_gr hw8 (by go_simp)
  have cw8_6_2 : w8.cell? ⟨W.heap.size + 1 + 1 + 1 + 1 + 1 + 1, 2, none⟩ = some (.int .i64 x) := cell_gr hw8 (by go_simp)
  have cw8_6_3 : w8.cell? ⟨W.heap.size + 1 + 1 + 1 + 1 + 1 + 1, 3, none⟩ = some (.int .i64 0) := cell_gr hw8 (by go_simp)
  have zw8_6 : W.heap.size + 1 + 1 + 1 + 1 + 1 + 1 < w8.heap.size := World.block_lt_of_cell? _ _ cw8_6_0
  have cw8_7_0 : w8.cell? ⟨W.heap.size + 1 + 1 + 1 + 1 + 1 + 1 + 1, 0, none⟩ = some (.int .i64 3) := cell_gr hw8 (by go_simp)
  have cw8_7_1 : w8.cell? ⟨W.heap.size + 1 + 1 + 1 + 1 + 1 + 1 + 1, 1, none⟩ = some (.slice (some ⟨W.heap.size + 1 + 1 + 1 + 1 + 1 + 1, 0, none⟩) 2 2) := cell_gr hw8 (by go_simp)
  have zw8_7 : W.heap.size + 1 + 1 + 1 + 1 + 1 + 1 + 1 < w8.heap.size := World.block_lt_of_cell? _ _ cw8_7_0
  have cw8_8_0 : w8.cell? ⟨w2.heap.size, 0, none⟩ = some (.int .u64 0) := cell_gr hw8 (by go_simp)
  have cw8_8_1 : w8.cell? ⟨w2.heap.size, 1, none⟩ = some (.int .u64 0) := cell_gr hw8 (by go_simp)
  have cw8_8_2 : w8.cell? ⟨w2.heap.size, 2, none⟩ = some (.int .u64 0) := cell_gr hw8 (by go_simp)
  have zw8_8 : w2.heap.size < w8.heap.size := World.block_lt_of_cell? _ _ cw8_8_0
  have gw8 : Gr W w8 := Gr.trans (by have gg := gw7; have gs := gg.size; go_grown) hw8
  clear gw7 zw7_0 cw7_0_0 cw7_0_1 cw7_0_2 cw7_0_3 cw7_0_4 cw7_0_5 zw7_1 cw7_1_0 cw7_1_1 zw7_2 cw7_2_0 cw7_2_1 zw7_3 cw7_3_0 cw7_3_1 zw7_4 cw7_4_0 cw7_4_1 zw7_5 cw7_5_0 cw7_5_1 zw7_6 cw7_6_0 cw7_6_1 cw7_6_2 cw7_6_3 zw7_7 cw7_7_0 cw7_7_1 zw7_8 cw7_8_0 cw7_8_1 cw7_8_2
  clear hw8
  try simp only [Act.put, List.setIfInBounds_toArray, List.set_cons_zero, List.set_cons_succ]
  repeat (first | (refine Od.wpO_skip (by simp only [List.getElem?_toArray, List.getElem?_cons_succ, List.getElem?_cons_zero] <;> rfl) rfl ?_; simp only [Act.put, List.setIfInBounds_toArray, List.set_cons_zero, List.set_cons_succ]) | (refine Od.wpO_pure (by simp only [List.getElem?_toArray, List.getElem?_cons_succ, List.getElem?_cons_zero] <;> rfl) rfl ?_; apply Exists.intro; refine ⟨?_, ?_⟩; (· intro wx gx; obtain ⟨mx, rfl⟩ := spread_of_gr gx; clear gx; all_goals (apply Od.pAt_of_quiet; intro K hK; go_big_quiet_op; first | exact hK _ rfl | (apply Exists.intro; refine ⟨fun _ => ?_, ?_⟩; (· fail); exact hK _ rfl))); try simp only [Act.put, List.setIfInBounds_toArray, List.set_cons_zero, List.set_cons_succ]))
  refine Od.wpO_call (by simp only [List.getElem?_toArray, List.getElem?_cons_succ, List.getElem?_cons_zero] <;> rfl) rfl ?_
  intro QS hQS
  go_wp2_with fail
  go_at_call 4
  (with_reducible refine ((H5.out _ gw8)).mono ?_)
  rintro e wa ⟨rfl, hwa⟩
  go_wp2_with fail
  apply Exists.intro
  refine ⟨?_, hwa, ?_⟩
  · simp only [Act.put, List.setIfInBounds_toArray, List.set_cons_zero, List.set_cons_succ]; rfl
  have cwa_0_0 : wa.cell? ⟨W.heap.size, 0, none⟩ = some (.int .i64 kq) := cell_gr hwa (by go_simp)
  have cwa_0_1 : wa.cell? ⟨W.heap.size, 1, none⟩ = some (.int .i64 lx) := cell_gr hwa (by go_simp)
  have cwa_0_2 : wa.cell? ⟨W.heap.size, 2, none⟩ = some (.int .i64 ly) := cell_gr hwa (by go_simp)
  have cwa_0_3 : wa.cell? ⟨W.heap.size, 3, none⟩ = some (.int .i64 hx) := cell_gr hwa (by go_simp)
  have cwa_0_4 : wa.cell? ⟨W.heap.size, 4, none⟩ = some (.int .i64 hy) := cell_gr hwa (by go_simp)
  have cwa_0_5 : wa.cell? ⟨W.heap.size, 5, none⟩ = some (.slice bd m bcap) := cell_gr hwa (by go_simp)
  have zwa_0 : W.heap.size < wa.heap.size := World.block_lt_of_cell? _ _ cwa_0_0
  have cwa_1_0 : wa.cell? ⟨W.heap.size + 1, 0, none⟩ = some (.int .i64 px) := cell_gr hwa (by go_simp)
  have cwa_1_1 : wa.cell? ⟨W.heap.size + 1, 1, none⟩ = some (.int .i64 py) := cell_gr hwa (by go_simp)
  have zwa_1 : W.heap.size + 1 < wa.heap.size := World.block_lt_of_cell? _ _ cwa_1_0
  have cwa_2_0 : wa.cell? ⟨W.heap.size + 1 + 1, 0, none⟩ = some (.int .i64 x) := cell_gr hwa (by go_simp)
  have cwa_2_1 : wa.cell? ⟨W.heap.size + 1 + 1, 1, none⟩ = some (.int .i64 0) := cell_gr hwa (by go_simp)
  have zwa_2 : W.heap.size + 1 + 1 < wa.heap.size := World.block_lt_of_cell? _ _ cwa_2_0
  have cwa_3_0 : wa.cell? ⟨W.heap.size + 1 + 1 + 1, 0, none⟩ = some (.int .i64 1) := cell_gr hwa (by go_simp)
  have cwa_3_1 : wa.cell? ⟨W.heap.size + 1 + 1 + 1, 1, none⟩ = some (.slice (some ⟨W.heap.size + 1 + 1, 0, none⟩) 1 1) := cell_gr hwa (by go_simp)
  have zwa_3 : W.heap.size + 1 + 1 + 1 < wa.heap.size := World.block_lt_of_cell? _ _ cwa_3_0
  have cwa_4_0 : wa.cell? ⟨W.heap.size + 1 + 1 + 1 + 1, 0, none⟩ = some (.int .i64 x) := cell_gr hwa (by go_simp)
  have cwa_4_1 : wa.cell? ⟨W.heap.size + 1 + 1 + 1 + 1, 1, none⟩ = some (.int .i64 x) := cell_gr hwa (by go_simp)
  have zwa_4 : W.heap.size + 1 + 1 + 1 + 1 < wa.heap.size := World.block_lt_of_cell? _ _ cwa_4_0
  have cwa_5_0 : wa.cell? ⟨W.heap.size + 1 + 1 + 1 + 1 + 1, 0, none⟩ = some (.int .i64 2) := cell_gr hwa (by go_simp)
  have cwa_5_1 : wa.cell? ⟨W.heap.size + 1 + 1 + 1 + 1 + 1, 1, none⟩ = some (.slice (some ⟨W.heap.size + 1 + 1 + 1 + 1, 0, none⟩) 1 1) := cell_gr hwa (by go_simp)
  have zwa_5 : W.heap.size + 1 + 1 + 1 + 1 + 1 < wa.heap.size := World.block_lt_of_cell? _ _ cwa_5_0
  have cwa_6_0 : wa.cell? ⟨W.heap.size + 1 + 1 + 1 + 1 + 1 + 1, 0, none⟩ = some (.int .i64 x) := cell_gr hwa (by go_simp)
  have cwa_6_1 : wa.cell? ⟨W.heap.size + 1 + 1 + 1 + 1 + 1 + 1, 1, none⟩ = some (.int .i64 0) := cell_gr hwa (by go_simp)
  have cwa_6_2 : wa.cell? ⟨W.heap.size + 1 + 1 + 1 + 1 + 1 + 1, 2, none⟩ = some (.int .i64 x) := cell_gr hwa (by go_simp)
  have cwa_6_3 : wa.cell? ⟨W.heap.size + 1 + 1 + 1 + 1 + 1 + 1, 3, none⟩ = some (.int .i64 0) := cell_gr hwa (by go_simp)
  have zwa_6 : W.heap.size + 1 + 1 + 1 + 1 + 1 + 1 < wa.heap.size := World.block_lt_of_cell? _ _ cwa_6_0
  have cwa_7_0 : wa.cell? ⟨W.heap.size + 1 + 1 + 1 + 1 + 1 + 1 + 1, 0, none⟩ = some (.int .i64 3) := cell_gr hwa (by go_simp)
  have cwa_7_1 : wa.cell? ⟨W.heap.size + 1 + 1 + 1 + 1 + 1 + 1 + 1, 1, none⟩ = some (.slice (some ⟨W.heap.size + 1 + 1 + 1 + 1 + 1 + 1, 0, none⟩) 2 2) := cell_gr hwa (by go_simp)
  have zwa_7 : W.heap.size + 1 + 1 + 1 + 1 + 1 + 1 + 1 < wa.heap.size := World.block_lt_of_cell? _ _ cwa_7_0
  have cwa_8_0 : wa.cell? ⟨w2.heap.size, 0, none⟩ = some (.int .u64 0) := cell_gr hwa (by go_simp)
  have cwa_8_1 : wa.cell? ⟨w2.heap.size, 1, none⟩ = some (.int .u64 0) := cell_gr hwa (by go_simp)
  have cwa_8_2 : wa.cell? ⟨w2.heap.size, 2, none⟩ = some (.int .u64 0) := cell_gr hwa (by go_simp)
  have zwa_8 : w2.heap.size < wa.heap.size := World.block_lt_of_cell? _ _ cwa_8_0
  have gwa : Gr W wa := Gr.trans (by have gg := gw8; have gs := gg.size; go_grown) hwa
  clear gw8 zw8_0 cw8_0_0 cw8_0_1 cw8_0_2 cw8_0_3 cw8_0_4 cw8_0_5 zw8_1 cw8_1_0 cw8_1_1 zw8_2 cw8_2_0 cw8_2_1 zw8_3 cw8_3_0 cw8_3_1 zw8_4 cw8_4_0 cw8_4_1 zw8_5 cw8_5_0 cw8_5_1 zw8_6 cw8_6_0 cw8_6_1 cw8_6_2 cw8_6_3 zw8_7 cw8_7_0 cw8_7_1 zw8_8 cw8_8_0 cw8_8_1 cw8_8_2
  clear hwa
  try simp only [Act.put, List.setIfInBounds_toArray, List.set_cons_zero, List.set_cons_succ]
  repeat (first | (refine Od.wpO_skip (by simp only [List.getElem?_toArray, List.getElem?_cons_succ, List.getElem?_cons_zero] <;> rfl) rfl ?_; simp only [Act.put, List.setIfInBounds_toArray, List.set_cons_zero, List.set_cons_succ]) | (refine Od.wpO_pure (by simp only [List.getElem?_toArray, List.getElem?_cons_succ, List.getElem?_cons_zero] <;> rfl) rfl ?_; apply Exists.intro; refine ⟨?_, ?_⟩; (· intro wx gx; obtain ⟨mx, rfl⟩ := spread_of_gr gx; clear gx; all_goals (apply Od.pAt_of_quiet; intro K hK; go_big_quiet_op; first | exact hK _ rfl | (apply Exists.intro; refine ⟨fun _ => ?_, ?_⟩; (· fail); exact hK _ rfl))); try simp only [Act.put, List.setIfInBounds_toArray, List.set_cons_zero, List.set_cons_succ]))
  refine Od.wpO_nil (hKQ _ _ ?_)
  clear hKQ KQ
  go_wp2_with fail
  go_ret
  exact ⟨rfl, gwa⟩
set_option maxHeartbeats 16000000 in
set_option maxRecDepth 100000 in
theorem kinds_far (x kq lx ly hx hy px py z : Int) (bd : Option Addr) (m bcap c : Nat) (q : Bool) (W : World) (hm : m ≤ 64)
    (A1 : ∀ w k v, Gr W w → BL w k v x 0 x 0 → Calls Tryz.prog 5 #[.agg #[.int .i64 k, v], qryV kq lx ly hx hy (.slice bd m bcap)] w fun e w' => e = .returned (.bool q) ∧ Gr w w')
    (A2 : ∀ w k v, Gr W w → BL w k v x 0 x 0 → Calls Tryz.prog 6 #[.agg #[.int .i64 k, v], .agg #[.int .i64 px, .int .i64 py]] w fun e w' => e = .returned (.agg #[.int .u64 0, .int .u64 0, .int .u64 0]) ∧ Gr w w')
    (A3 : ∀ w k v, BL w k v x 0 x 0 → Calls Tryz.prog 7 #[.agg #[.int .i64 k, v]] w fun e w' => e = .returned (.int .i64 (0 : Nat)) ∧ Gr w w')
    (A4 : ∀ w, Calls Tryz.prog 8 #[.agg #[.int .i64 px, .int .i64 py]] w fun e w' => e = .returned (.bool false) ∧ Gr w w')
    (A5 : ∀ w, Gr W w → Calls Tryz.prog 4 #[] w fun e w' => e = .returned (.bool true) ∧ Gr w w') :
    Calls Tryz.prog 3 #[.int .i64 x, qryV kq lx ly hx hy (.slice bd m bcap), .agg #[.int .i64 px, .int .i64 py]] W fun e w' => e = .returned (.bool true) ∧ Gr W w' := by
  have t1 : decide ((64 : Int) < (m : Int)) = false := decide_eq_false (by omega)
  have t2 : decide (64 < m) = false := decide_eq_false (by omega)
  have t3 : (q == q) = true := by simp
  have t4 : decide (q = q) = true := by simp
  have hD : ∀ w, (binOp .eql 35 (.agg #[.int .u64 0, .int .u64 0, .int .u64 0]) (.agg #[.int .u64 0, .int .u64 0, .int .u64 0])).run Tryz.prog w = .ok (.bool true) w := fun w => by kernel_rfl
  have H1 := Lib.hid A1
  have H2 := Lib.hid A2
  have H3 := Lib.hid A3
  have H4 := Lib.hid A4
  have H5 := Lib.hid A5
  clear A1 A2 A3 A4 A5
  clear hm
  go_enter Tryz.func3, Tryz.ntmps3
  go_wp2_with fail
  go_at_call 5
  refine ((H1.out _ _ _ (by go_grown) (bl_1 (by go_simp) (by go_simp)))).mono ?_
  rintro e w1 ⟨rfl, hw1⟩
  have cw1_0_0 : w1.cell? ⟨W.heap.size, 0, none⟩ = some (.int .i64 kq) := cell_gr hw1 (by go_simp)
  have cw1_0_1 : w1.cell? ⟨W.heap.size, 1, none⟩ = some (.int .i64 lx) := cell_gr hw1 (by go_simp)
  have cw1_0_2 : w1.cell? ⟨W.heap.size, 2, none⟩ = some (.int .i64 ly) := cell_gr hw1 (by go_simp)
  have cw1_0_3 : w1.cell? ⟨W.heap.size, 3, none⟩ = some (.int .i64 hx) := cell_gr hw1 (by go_simp)
  have cw1_0_4 : w1.cell? ⟨W.heap.size, 4, none⟩ = some (.int .i64 hy) := cell_gr hw1 (by go_simp)
  have cw1_0_5 : w1.cell? ⟨W.heap.size, 5, none⟩ = some (.slice bd m bcap) := cell_gr hw1 (by go_simp)
  have zw1_0 : W.heap.size < w1.heap.size := World.block_lt_of_cell? _ _ cw1_0_0
  have cw1_1_0 : w1.cell? ⟨W.heap.size + 1, 0, none⟩ = some (.int .i64 px) := cell_gr hw1 (by go_simp)
  have cw1_1_1 : w1.cell? ⟨W.heap.size + 1, 1, none⟩ = some (.int .i64 py) := cell_gr hw1 (by go_simp)
  have zw1_1 : W.heap.size + 1 < w1.heap.size := World.block_lt_of_cell? _ _ cw1_1_0
  have cw1_2_0 : w1.cell? ⟨W.heap.size + 1 + 1, 0, none⟩ = some (.int .i64 x) := cell_gr hw1 (by go_simp)
  have cw1_2_1 : w1.cell? ⟨W.heap.size + 1 + 1, 1, none⟩ = some (.int .i64 0) := cell_gr hw1 (by go_simp)
  have zw1_2 : W.heap.size + 1 + 1 < w1.heap.size := World.block_lt_of_cell? _ _ cw1_2_0
  have cw1_3_0 : w1.cell? ⟨W.heap.size + 1 + 1 + 1, 0, none⟩ = some (.int .i64 1) := cell_gr hw1 (by go_simp)
  have cw1_3_1 : w1.cell? ⟨W.heap.size + 1 + 1 + 1, 1, none⟩ = some (.slice (some ⟨W.heap.size + 1 + 1, 0, none⟩) 1 1) := cell_gr hw1 (by go_simp)
  have zw1_3 : W.heap.size + 1 + 1 + 1 < w1.heap.size := World.block_lt_of_cell? _ _ cw1_3_0
  have cw1_4_0 : w1.cell? ⟨W.heap.size + 1 + 1 + 1 + 1, 0, none⟩ = some (.int .i64 x) := cell_gr hw1 (by go_simp)
  have cw1_4_1 : w1.cell? ⟨W.heap.size + 1 + 1 + 1 + 1, 1, none⟩ = some (.int .i64 x) := cell_gr hw1 (by go_simp)
  have zw1_4 : W.heap.size + 1 + 1 + 1 + 1 < w1.heap.size := World.block_lt_of_cell? _ _ cw1_4_0
  have cw1_5_0 : w1.cell? ⟨W.heap.size + 1 + 1 + 1 + 1 + 1, 0, none⟩ = some (.int .i64 2) := cell_gr hw1 (by go_simp)
  have cw1_5_1 : w1.cell? ⟨W.heap.size + 1 + 1 + 1 + 1 + 1, 1, none⟩ = some (.slice (some ⟨W.heap.size + 1 + 1 + 1 + 1, 0, none⟩) 1 1) := cell_gr hw1 (by go_simp)
  have zw1_5 : W.heap.size + 1 + 1 + 1 + 1 + 1 < w1.heap.size := World.block_lt_of_cell? _ _ cw1_5_0
  have cw1_6_0 : w1.cell? ⟨W.heap.size + 1 + 1 + 1 + 1 + 1 + 1, 0, none⟩ = some (.int .i64 x) := cell_gr hw1 (by go_simp)
  have cw1_6_1 : w1.cell? ⟨W.heap.size + 1 + 1 + 1 + 1 + 1 + 1, 1, none⟩ = some (.int .i64 0) := cell_gr hw1 (by go_simp)
  have cw1_6_2 : w1.cell? ⟨W.heap.size + 1 + 1 + 1 + 1 + 1 + 1, 2, none⟩ = some (.int .i64 x) := cell_gr hw1 (by go_simp)
  have cw1_6_3 : w1.cell? ⟨W.heap.size + 1 + 1 + 1 + 1 + 1 + 1, 3, none⟩ = some (.int .i64 0) := cell_gr hw1 (by go_simp)
  have zw1_6 : W.heap.size + 1 + 1 + 1 + 1 + 1 + 1 < w1.heap.size := World.block_lt_of_cell? _ _ cw1_6_0
  have cw1_7_0 : w1.cell? ⟨W.heap.size + 1 + 1 + 1 + 1 + 1 + 1 + 1, 0, none⟩ = some (.int .i64 3) := cell_gr hw1 (by go_simp)
  have cw1_7_1 : w1.cell? ⟨W.heap.size + 1 + 1 + 1 + 1 + 1 + 1 + 1, 1, none⟩ = some (.slice (some ⟨W.heap.size + 1 + 1 + 1 + 1 + 1 + 1, 0, none⟩) 2 2) := cell_gr hw1 (by go_simp)
  have zw1_7 : W.heap.size + 1 + 1 + 1 + 1 + 1 + 1 + 1 < w1.heap.size := World.block_lt_of_cell? _ _ cw1_7_0
  have gw1 : Gr W w1 := Gr.trans (by go_grown) hw1
  clear hw1
  go_wp2_with fail
  go_at_call 6
  refine ((H2.out _ _ _ (by have gg := gw1; have gs := gg.size; go_grown) (bl_1 (by go_simp) (by go_simp)))).mono ?_
  rintro e w2 ⟨rfl, hw2⟩
  have cw2_0_0 : w2.cell? ⟨W.heap.size, 0, none⟩ = some (.int .i64 kq) := cell_gr hw2 (by go_simp)
  have cw2_0_1 : w2.cell? ⟨W.heap.size, 1, none⟩ = some (.int .i64 lx) := cell_gr hw2 (by go_simp)
  have cw2_0_2 : w2.cell? ⟨W.heap.size, 2, none⟩ = some (.int .i64 ly) := cell_gr hw2 (by go_simp)
  have cw2_0_3 : w2.cell? ⟨W.heap.size, 3, none⟩ = some (.int .i64 hx) := cell_gr hw2 (by go_simp)
  have cw2_0_4 : w2.cell? ⟨W.heap.size, 4, none⟩ = some (.int .i64 hy) := cell_gr hw2 (by go_simp)
  have cw2_0_5 : w2.cell? ⟨W.heap.size, 5, none⟩ = some (.slice bd m bcap) := cell_gr hw2 (by go_simp)
  have zw2_0 : W.heap.size < w2.heap.size := World.block_lt_of_cell? _ _ cw2_0_0
  have cw2_1_0 : w2.cell? ⟨W.heap.size + 1, 0, none⟩ = some (.int .i64 px) := cell_gr hw2 (by go_simp)
  have cw2_1_1 : w2.cell? ⟨W.heap.size + 1, 1, none⟩ = some (.int .i64 py) := cell_gr hw2 (by go_simp)
  have zw2_1 : W.heap.size + 1 < w2.heap.size := World.block_lt_of_cell? _ _ cw2_1_0
  have cw2_2_0 : w2.cell? ⟨W.heap.size + 1 + 1, 0, none⟩ = some (.int .i64 x) := cell_gr hw2 (by go_simp)
  have cw2_2_1 : w2.cell? ⟨W.heap.size + 1 + 1, 1, none⟩ = some (.int .i64 0) := cell_gr hw2 (by go_simp)
  have zw2_2 : W.heap.size + 1 + 1 < w2.heap.size := World.block_lt_of_cell? _ _ cw2_2_0
  have cw2_3_0 : w2.cell? ⟨W.heap.size + 1 + 1 + 1, 0, none⟩ = some (.int .i64 1) := cell_gr hw2 (by go_simp)
  have cw2_3_1 : w2.cell? ⟨W.heap.size + 1 + 1 + 1, 1, none⟩ = some (.slice (some ⟨W.heap.size + 1 + 1, 0, none⟩) 1 1) := cell_gr hw2 (by go_simp)
  have zw2_3 : W.heap.size + 1 + 1 + 1 < w2.heap.size := World.block_lt_of_cell? _ _ cw2_3_0
  have cw2_4_0 : w2.cell? ⟨W.heap.size + 1 + 1 + 1 + 1, 0, none⟩ = some (.int .i64 x) := cell_gr hw2 (by go_simp)
  have cw2_4_1 : w2.cell? ⟨W.heap.size + 1 + 1 + 1 + 1, 1, none⟩ = some (.int .i64 x) := cell_gr hw2 (by go_simp)
  have zw2_4 : W.heap.size + 1 + 1 + 1 + 1 < w2.heap.size := World.block_lt_of_cell? _ _ cw2_4_0
  have cw2_5_0 : w2.cell? ⟨W.heap.size + 1 + 1 + 1 + 1 + 1, 0, none⟩ = some (.int .i64 2) := cell_gr hw2 (by go_simp)
  have cw2_5_1 : w2.cell? ⟨W.heap.size + 1 + 1 + 1 + 1 + 1, 1, none⟩ = some (.slice (some ⟨W.heap.size + 1 + 1 + 1 + 1, 0, none⟩) 1 1) := cell_gr hw2 (by go_simp)
  have zw2_5 : W.heap.size + 1 + 1 + 1 + 1 + 1 < w2.heap.size := World.block_lt_of_cell? _ _ cw2_5_0
  have cw2_6_0 : w2.cell? ⟨W.heap.size + 1 + 1 + 1 + 1 + 1 + 1, 0, none⟩ = some (.int .i64 x) := cell_gr hw2 (by go_simp)
  have cw2_6_1 : w2.cell? ⟨W.heap.size + 1 + 1 + 1 + 1 + 1 + 1, 1, none⟩ = some (.int .i64 0) := cell_gr hw2 (by go_simp)
  have cw2_6_2 : w2.cell? ⟨W.heap.size + 1 + 1 + 1 + 1 + 1 + 1, 2, none⟩ = some (.int .i64 x) := cell_gr hw2 (by go_simp)
  have cw2_6_3 : w2.cell? ⟨W.heap.size + 1 + 1 + 1 + 1 + 1 + 1, 3, none⟩ = some (.int .i64 0) := cell_gr hw2 (by go_simp)
  have zw2_6 : W.heap.size + 1 + 1 + 1 + 1 + 1 + 1 < w2.heap.size := World.block_lt_of_cell? _ _ cw2_6_0
  have cw2_7_0 : w2.cell? ⟨W.heap.size + 1 + 1 + 1 + 1 + 1 + 1 + 1, 0, none⟩ = some (.int .i64 3) := cell_gr hw2 (by go_simp)
  have cw2_7_1 : w2.cell? ⟨W.heap.size + 1 + 1 + 1 + 1 + 1 + 1 + 1, 1, none⟩ = some (.slice (some ⟨W.heap.size + 1 + 1 + 1 + 1 + 1 + 1, 0, none⟩) 2 2) := cell_gr hw2 (by go_simp)
  have zw2_7 : W.heap.size + 1 + 1 + 1 + 1 + 1 + 1 + 1 < w2.heap.size := World.block_lt_of_cell? _ _ cw2_7_0
  have gw2 : Gr W w2 := Gr.trans (by have gg := gw1; have gs := gg.size; go_grown) hw2
  clear hw2 gw1 zw1_0 cw1_0_0 cw1_0_1 cw1_0_2 cw1_0_3 cw1_0_4 cw1_0_5 zw1_1 cw1_1_0 cw1_1_1 zw1_2 cw1_2_0 cw1_2_1 zw1_3 cw1_3_0 cw1_3_1 zw1_4 cw1_4_0 cw1_4_1 zw1_5 cw1_5_0 cw1_5_1 zw1_6 cw1_6_0 cw1_6_1 cw1_6_2 cw1_6_3 zw1_7 cw1_7_0 cw1_7_1
  go_wp2_with fail
  try simp only [List.append]
  refine Od.wp_region_ord [(0, false), (1, false), (3, false), (2, true), (4, false), (5, false), (6, false), (7, false), (9, false), (8, true), (10, false), (11, false), (12, false), (13, false), (14, false), (16, false), (15, true), (17, false), (18, false), (19, false), (20, false), (21, false), (23, false), (22, true), (24, false), (25, false), (26, false), (27, false), (28, false), (29, false), (30, false), (31, true), (32, false), (33, false), (34, false), (35, true), (36, false), (37, false), (38, false), (39, false), (40, false), (41, true), (42, false), (43, false)] (by kernel_rfl) (by kernel_rfl) ?_
  intro w3 hw3 KQ hKQ
  have cw3_0_0 : w3.cell? ⟨W.heap.size, 0, none⟩ = some (.int .i64 kq) := cell_gr hw3 (by go_simp)
  have cw3_0_1 : w3.cell? ⟨W.heap.size, 1, none⟩ = some (.int .i64 lx) := cell_gr hw3 (by go_simp)
  have cw3_0_2 : w3.cell? ⟨W.heap.size, 2, none⟩ = some (.int .i64 ly) := cell_gr hw3 (by go_simp)
  have cw3_0_3 : w3.cell? ⟨W.heap.size, 3, none⟩ = some (.int .i64 hx) := cell_gr hw3 (by go_simp)
  have cw3_0_4 : w3.cell? ⟨W.heap.size, 4, none⟩ = some (.int .i64 hy) := cell_gr hw3 (by go_simp)
  have cw3_0_5 : w3.cell? ⟨W.heap.size, 5, none⟩ = some (.slice bd m bcap) := cell_gr hw3 (by go_simp)
  have zw3_0 : W.heap.size < w3.heap.size := World.block_lt_of_cell? _ _ cw3_0_0
  have cw3_1_0 : w3.cell? ⟨W.heap.size + 1, 0, none⟩ = some (.int .i64 px) := cell_gr hw3 (by go_simp)
  have cw3_1_1 : w3.cell? ⟨W.heap.size + 1, 1, none⟩ = some (.int .i64 py) := cell_gr hw3 (by go_simp)
  have zw3_1 : W.heap.size + 1 < w3.heap.size := World.block_lt_of_cell? _ _ cw3_1_0
  have cw3_2_0 : w3.cell? ⟨W.heap.size + 1 + 1, 0, none⟩ = some (.int .i64 x) := cell_gr hw3 (by go_simp)
  have cw3_2_1 : w3.cell? ⟨W.heap.size + 1 + 1, 1, none⟩ = some (.int .i64 0) := cell_gr hw3 (by go_simp)
  have zw3_2 : W.heap.size + 1 + 1 < w3.heap.size := World.block_lt_of_cell? _ _ cw3_2_0
  have cw3_3_0 : w3.cell? ⟨W.heap.size + 1 + 1 + 1, 0, none⟩ = some (.int .i64 1) := cell_gr hw3 (by go_simp)
  have cw3_3_1 : w3.cell? ⟨W.heap.size + 1 + 1 + 1, 1, none⟩ = some (.slice (some ⟨W.heap.size + 1 + 1, 0, none⟩) 1 1) := cell_gr hw3 (by go_simp)
  have zw3_3 : W.heap.size + 1 + 1 + 1 < w3.heap.size := World.block_lt_of_cell? _ _ cw3_3_0
  have cw3_4_0 : w3.cell? ⟨W.heap.size + 1 + 1 + 1 + 1, 0, none⟩ = some (.int .i64 x) := cell_gr hw3 (by go_simp)
  have cw3_4_1 : w3.cell? ⟨W.heap.size + 1 + 1 + 1 + 1, 1, none⟩ = some (.int .i64 x) := cell_gr hw3 (by go_simp)
  have zw3_4 : W.heap.size + 1 + 1 + 1 + 1 < w3.heap.size := World.block_lt_of_cell? _ _ cw3_4_0
  have cw3_5_0 : w3.cell? ⟨W.heap.size + 1 + 1 + 1 + 1 + 1, 0, none⟩ = some (.int .i64 2) := cell_gr hw3 (by go_simp)
  have cw3_5_1 : w3.cell? ⟨W.heap.size + 1 + 1 + 1 + 1 + 1, 1, none⟩ = some (.slice (some ⟨W.heap.size + 1 + 1 + 1 + 1, 0, none⟩) 1 1) := cell_gr hw3 (by go_simp)
  have zw3_5 : W.heap.size + 1 + 1 + 1 + 1 + 1 < w3.heap.size := World.block_lt_of_cell? _ _ cw3_5_0
  have cw3_6_0 : w3.cell? ⟨W.heap.size + 1 + 1 + 1 + 1 + 1 + 1, 0, none⟩ = some (.int .i64 x) := cell_gr hw3 (by go_simp)
  have cw3_6_1 : w3.cell? ⟨W.heap.size + 1 + 1 + 1 + 1 + 1 + 1, 1, none⟩ = some (.int .i64 0) := cell_gr hw3 (by go_simp)
  have cw3_6_2 : w3.cell? ⟨W.heap.size + 1 + 1 + 1 + 1 + 1 + 1, 2, none⟩ = some (.int .i64 x) := cell_gr hw3 (by go_simp)
  have cw3_6_3 : w3.cell? ⟨W.heap.size + 1 + 1 + 1 + 1 + 1 + 1, 3, none⟩ = some (.int .i64 0) := cell_gr hw3 (by go_simp)
  have zw3_6 : W.heap.size + 1 + 1 + 1 + 1 + 1 + 1 < w3.heap.size := World.block_lt_of_cell? _ _ cw3_6_0
  have cw3_7_0 : w3.cell? ⟨W.heap.size + 1 + 1 + 1 + 1 + 1 + 1 + 1, 0, none⟩ = some (.int .i64 3) := cell_gr hw3 (by go_simp)
  have cw3_7_1 : w3.cell? ⟨W.heap.size + 1 + 1 + 1 + 1 + 1 + 1 + 1, 1, none⟩ = some (.slice (some ⟨W.heap.size + 1 + 1 + 1 + 1 + 1 + 1, 0, none⟩) 2 2) := cell_gr hw3 (by go_simp)
  have zw3_7 : W.heap.size + 1 + 1 + 1 + 1 + 1 + 1 + 1 < w3.heap.size := World.block_lt_of_cell? _ _ cw3_7_0
  have cw3_8_0 : w3.cell? ⟨w2.heap.size, 0, none⟩ = some (.int .u64 0) := cell_gr hw3 (by go_simp)
  have cw3_8_1 : w3.cell? ⟨w2.heap.size, 1, none⟩ = some (.int .u64 0) := cell_gr hw3 (by go_simp)
  have cw3_8_2 : w3.cell? ⟨w2.heap.size, 2, none⟩ = some (.int .u64 0) := cell_gr hw3 (by go_simp)
  have zw3_8 : w2.heap.size < w3.heap.size := World.block_lt_of_cell? _ _ cw3_8_0
  have gw3 : Gr W w3 := Gr.trans (by have gg := gw2; have gs := gg.size; go_grown) hw3
  clear gw2 zw2_0 cw2_0_0 cw2_0_1 cw2_0_2 cw2_0_3 cw2_0_4 cw2_0_5 zw2_1 cw2_1_0 cw2_1_1 zw2_2 cw2_2_0 cw2_2_1 zw2_3 cw2_3_0 cw2_3_1 zw2_4 cw2_4_0 cw2_4_1 zw2_5 cw2_5_0 cw2_5_1 zw2_6 cw2_6_0 cw2_6_1 cw2_6_2 cw2_6_3 zw2_7 cw2_7_0 cw2_7_1
  clear hw3
  repeat (first | (refine Od.wpO_skip (by simp only [List.getElem?_toArray, List.getElem?_cons_succ, List.getElem?_cons_zero] <;> rfl) rfl ?_; simp only [Act.put, List.setIfInBounds_toArray, List.set_cons_zero, List.set_cons_succ]) | (refine Od.wpO_pure (by simp only [List.getElem?_toArray, List.getElem?_cons_succ, List.getElem?_cons_zero] <;> rfl) rfl ?_; apply Exists.intro; refine ⟨?_, ?_⟩; (· intro wx gx; obtain ⟨mx, rfl⟩ := spread_of_gr gx; clear gx; all_goals (apply Od.pAt_of_quiet; intro K hK; go_big_quiet_op; first | exact hK _ rfl | (apply Exists.intro; refine ⟨fun _ => ?_, ?_⟩; (· fail); exact hK _ rfl))); try simp only [Act.put, List.setIfInBounds_toArray, List.set_cons_zero, List.set_cons_succ]))
  refine Od.wpO_call (by simp only [List.getElem?_toArray, List.getElem?_cons_succ, List.getElem?_cons_zero] <;> rfl) rfl ?_
  intro QS hQS
  go_wp2_with fail
  go_at_call 5
  (with_reducible refine ((H1.out _ _ _ gw3 (bl_2 cw3_4_0 cw3_4_1))).mono ?_)
  rintro e w4 ⟨rfl, hw4⟩
  go_wp2_with fail
  apply Exists.intro
  refine ⟨?_, hw4, ?_⟩
  · simp only [Act.put, List.setIfInBounds_toArray, List.set_cons_zero, List.set_cons_succ]; rfl
  have cw4_0_0 : w4.cell? ⟨W.heap.size, 0, none⟩ = some (.int .i64 kq) := cell_gr hw4 (by go_simp)
  have cw4_0_1 : w4.cell? ⟨W.heap.size, 1, none⟩ = some (.int .i64 lx) := cell_gr hw4 (by go_simp)
  have cw4_0_2 : w4.cell? ⟨W.heap.size, 2, none⟩ = some (.int .i64 ly) := cell_gr hw4 (by go_simp)
  have cw4_0_3 : w4.cell? ⟨W.heap.size, 3, none⟩ = some (.int .i64 hx) := cell_gr hw4 (by go_simp)
  have cw4_0_4 : w4.cell? ⟨W.heap.size, 4, none⟩ = some (.int .i64 hy) := cell_gr hw4 (by go_simp)
  have cw4_0_5 : w4.cell? ⟨W.heap.size, 5, none⟩ = some (.slice bd m bcap) := cell_gr hw4 (by go_simp)
  have zw4_0 : W.heap.size < w4.heap.size := World.block_lt_of_cell? _ _ cw4_0_0
  have cw4_1_0 : w4.cell? ⟨W.heap.size + 1, 0, none⟩ = some (.int .i64 px) := cell_gr hw4 (by go_simp)
  have cw4_1_1 : w4.cell? ⟨W.heap.size + 1, 1, none⟩ = some (.int .i64 py) := cell_gr hw4 (by go_simp)
  have zw4_1 : W.heap.size + 1 < w4.heap.size := World.block_lt_of_cell? _ _ cw4_1_0
  have cw4_2_0 : w4.cell? ⟨W.heap.size + 1 + 1, 0, none⟩ = some (.int .i64 x) := cell_gr hw4 (by go_simp)
  have cw4_2_1 : w4.cell? ⟨W.heap.size + 1 + 1, 1, none⟩ = some (.int .i64 0) := cell_gr hw4 (by go_simp)
  have zw4_2 : W.heap.size + 1 + 1 < w4.heap.size := World.block_lt_of_cell? _ _ cw4_2_0
  have cw4_3_0 : w4.cell? ⟨W.heap.size + 1 + 1 + 1, 0, none⟩ = some (.int .i64 1) := cell_gr hw4 (by go_simp)
  have cw4_3_1 : w4.cell? ⟨W.heap.size + 1 + 1 + 1, 1, none⟩ = some (.slice (some ⟨W.heap.size + 1 + 1, 0, none⟩) 1 1) := cell_gr hw4 (by go_simp)
  have zw4_3 : W.heap.size + 1 + 1 + 1 < w4.heap.size := World.block_lt_of_cell? _ _ cw4_3_0
  have cw4_4_0 : w4.cell? ⟨W.heap.size + 1 + 1 + 1 + 1, 0, none⟩ = some (.int .i64 x) := cell_gr hw4 (by go_simp)
  have cw4_4_1 : w4.cell? ⟨W.heap.size + 1 + 1 + 1 + 1, 1, none⟩ = some (.int .i64 x) := cell_gr hw4 (by go_simp)
  have zw4_4 : W.heap.size + 1 + 1 + 1 + 1 < w4.heap.size := World.block_lt_of_cell? _ _ cw4_4_0
  have cw4_5_0 : w4.cell? ⟨W.heap.size + 1 + 1 + 1 + 1 + 1, 0, none⟩ = some (.int .i64 2) := cell_gr hw4 (by go_simp)
  have cw4_5_1 : w4.cell? ⟨W.heap.size + 1 + 1 + 1 + 1 + 1, 1, none⟩ = some (.slice (some ⟨W.heap.size + 1 + 1 + 1 + 1, 0, none⟩) 1 1) := cell_gr hw4 (by go_simp)
  have zw4_5 : W.heap.size + 1 + 1 + 1 + 1 + 1 < w4.heap.size := World.block_lt_of_cell? _ _ cw4_5_0
  have cw4_6_0 : w4.cell? ⟨W.heap.size + 1 + 1 + 1 + 1 + 1 + 1, 0, none⟩ = some (.int .i64 x) := cell_gr hw4 (by go_simp)
  have cw4_6_1 : w4.cell? ⟨W.heap.size + 1 + 1 + 1 + 1 + 1 + 1, 1, none⟩ = some (.int .i64 0) := cell_gr hw4 (by go_simp)
  have cw4_6_2 : w4.cell? ⟨W.heap.size + 1 + 1 + 1 + 1 + 1 + 1, 2, none⟩ = some (.int .i64 x) := cell_gr hw4 (by go_simp)
  have cw4_6_3 : w4.cell? ⟨W.heap.size + 1 + 1 + 1 + 1 + 1 + 1, 3, none⟩ = some (.int .i64 0) := cell_gr hw4 (by go_simp)
  have zw4_6 : W.heap.size + 1 + 1 + 1 + 1 + 1 + 1 < w4.heap.size := World.block_lt_of_cell? _ _ cw4_6_0
  have cw4_7_0 : w4.cell? ⟨W.heap.size + 1 + 1 + 1 + 1 + 1 + 1 + 1, 0, none⟩ = some (.int .i64 3) := cell_gr hw4 (by go_simp)
  have cw4_7_1 : w4.cell? ⟨W.heap.size + 1 + 1 + 1 + 1 + 1 + 1 + 1, 1, none⟩ = some (.slice (some ⟨W.heap.size + 1 + 1 + 1 + 1 + 1 + 1, 0, none⟩) 2 2) := cell_gr hw4 (by go_simp)
  have zw4_7 : W.heap.size + 1 + 1 + 1 + 1 + 1 + 1 + 1 < w4.heap.size := World.block_lt_of_cell? _ _ cw4_7_0
  have cw4_8_0 : w4.cell? ⟨w2.heap.size, 0, none⟩ = some (.int .u64 0) := cell_gr hw4 (by go_simp)
  have cw4_8_1 : w4.cell? ⟨w2.heap.size, 1, none⟩ = some (.int .u64 0) := cell_gr hw4 (by go_simp)
  have cw4_8_2 : w4.cell? ⟨w2.heap.size, 2, none⟩ = some (.int .u64 0) := cell_gr hw4 (by go_simp)
  have zw4_8 : w2.heap.size < w4.heap.size := World.block_lt_of_cell? _ _ cw4_8_0
  have gw4 : Gr W w4 := Gr.trans (by have gg := gw3; have gs := gg.size; go_grown) hw4
  clear gw3 zw3_0 cw3_0_0 cw3_0_1 cw3_0_2 cw3_0_3 cw3_0_4 cw3_0_5 zw3_1 cw3_1_0 cw3_1_1 zw3_2 cw3_2_0 cw3_2_1 zw3_3 cw3_3_0 cw3_3_1 zw3_4 cw3_4_0 cw3_4_1 zw3_5 cw3_5_0 cw3_5_1 zw3_6 cw3_6_0 cw3_6_1 cw3_6_2 cw3_6_3 zw3_7 cw3_7_0 cw3_7_1 zw3_8 cw3_8_0 cw3_8_1 cw3_8_2
  clear hw4
  try simp only [Act.put, List.setIfInBounds_toArray, List.set_cons_zero, List.set_cons_succ]
  repeat (first | (refine Od.wpO_skip (by simp only [List.getElem?_toArray, List.getElem?_cons_succ, List.getElem?_cons_zero] <;> rfl) rfl ?_; simp only [Act.put, List.setIfInBounds_toArray, List.set_cons_zero, List.set_cons_succ]) | (refine Od.wpO_pure (by simp only [List.getElem?_toArray, List.getElem?_cons_succ, List.getElem?_cons_zero] <;> rfl) rfl ?_; apply Exists.intro; refine ⟨?_, ?_⟩; (· intro wx gx; obtain ⟨mx, rfl⟩ := spread_of_gr gx; clear gx; all_goals (apply Od.pAt_of_quiet; intro K hK; go_big_quiet_op; first | exact hK _ rfl | (apply Exists.intro; refine ⟨fun _ => ?_, ?_⟩; (· fail); exact hK _ rfl))); try simp only [Act.put, List.setIfInBounds_toArray, List.set_cons_zero, List.set_cons_succ]))
  refine Od.wpO_call (by simp only [List.getElem?_toArray, List.getElem?_cons_succ, List.getElem?_cons_zero] <;> rfl) rfl ?_
  intro QS hQS
  go_wp2_with fail
  go_at_call 5
  (with_reducible refine ((H1.out _ _ _ gw4 (bl_3 cw4_6_0 cw4_6_1 cw4_6_2 cw4_6_3))).mono ?_)
  rintro e w5 ⟨rfl, hw5⟩
  go_wp2_with fail
  apply Exists.intro
  refine ⟨?_, hw5, ?_⟩
  · simp only [Act.put, List.setIfInBounds_toArray, List.set_cons_zero, List.set_cons_succ]; rfl
  have cw5_0_0 : w5.cell? ⟨W.heap.size, 0, none⟩ = some (.int .i64 kq) := cell_gr hw5 (by go_simp)
  have cw5_0_1 : w5.cell? ⟨W.heap.size, 1, none⟩ = some (.int .i64 lx) := cell_gr hw5 (by go_simp)
  have cw5_0_2 : w5.cell? ⟨W.heap.size, 2, none⟩ = some (.int .i64 ly) := cell_gr hw5 (by go_simp)
  have cw5_0_3 : w5.cell? ⟨W.heap.size, 3, none⟩ = some (.int .i64 hx) := cell_gr hw5 (by go_simp)
  have cw5_0_4 : w5.cell? ⟨W.heap.size, 4, none⟩ = some (.int .i64 hy) := cell_gr hw5 (by go_simp)
  have cw5_0_5 : w5.cell? ⟨W.heap.size, 5, none⟩ = some (.slice bd m bcap) := cell_gr hw5 (by go_simp)
  have zw5_0 : W.heap.size < w5.heap.size := World.block_lt_of_cell? _ _ cw5_0_0
  have cw5_1_0 : w5.cell? ⟨W.heap.size + 1, 0, none⟩ = some (.int .i64 px) := cell_gr hw5 (by go_simp)
  have cw5_1_1 : w5.cell? ⟨W.heap.size + 1, 1, none⟩ = some (.int .i64 py) := cell_gr hw5 (by go_simp)
  have zw5_1 : W.heap.size + 1 < w5.heap.size := World.block_lt_of_cell? _ _ cw5_1_0
  have cw5_2_0 : w5.cell? ⟨W.heap.size + 1 + 1, 0, none⟩ = some (.int .i64 x) := cell_gr hw5 (by go_simp)
  have cw5_2_1 : w5.cell? ⟨W.heap.size + 1 + 1, 1, none⟩ = some (.int .i64 0) := cell_gr hw5 (by go_simp)
  have zw5_2 : W.heap.size + 1 + 1 < w5.heap.size := World.block_lt_of_cell? _ _ cw5_2_0
  have cw5_3_0 : w5.cell? ⟨W.heap.size + 1 + 1 + 1, 0, none⟩ = some (.int .i64 1) := cell_gr hw5 (by go_simp)
  have cw5_3_1 : w5.cell? ⟨W.heap.size + 1 + 1 + 1, 1, none⟩ = some (.slice (some ⟨W.heap.size + 1 + 1, 0, none⟩) 1 1) := cell_gr hw5 (by go_simp)
  have zw5_3 : W.heap.size + 1 + 1 + 1 < w5.heap.size := World.block_lt_of_cell? _ _ cw5_3_0
  have cw5_4_0 : w5.cell? ⟨W.heap.size + 1 + 1 + 1 + 1, 0, none⟩ = some (.int .i64 x) := cell_gr hw5 (by go_simp)
  have cw5_4_1 : w5.cell? ⟨W.heap.size + 1 + 1 + 1 + 1, 1, none⟩ = some (.int .i64 x) := cell_gr hw5 (by go_simp)
  have zw5_4 : W.heap.size + 1 + 1 + 1 + 1 < w5.heap.size := World.block_lt_of_cell? _ _ cw5_4_0
  have cw5_5_0 : w5.cell? ⟨W.heap.size + 1 + 1 + 1 + 1 + 1, 0, none⟩ = some (.int .i64 2) := cell_gr hw5 (by go_simp)
  have cw5_5_1 : w5.cell? ⟨W.heap.size + 1 + 1 + 1 + 1 + 1, 1, none⟩ = some (.slice (some ⟨W.heap.size + 1 + 1 + 1 + 1, 0, none⟩) 1 1) := cell_gr hw5 (by go_simp)
  have zw5_5 : W.heap.size + 1 + 1 + 1 + 1 + 1 < w5.heap.size := World.block_lt_of_cell? _ _ cw5_5_0
  have cw5_6_0 : w5.cell? ⟨W.heap.size + 1 + 1 + 1 + 1 + 1 + 1, 0, none⟩ = some (.int .i64 x) := cell_gr hw5 (by go_simp)
  have cw5_6_1 : w5.cell? ⟨W.heap.size + 1 + 1 + 1 + 1 + 1 + 1, 1, none⟩ = some (.int .i64 0) := cell_gr hw5 (by go_simp)
  have cw5_6_2 : w5.cell? ⟨W.heap.size + 1 + 1 + 1 + 1 + 1 + 1, 2, none⟩ = some (.int .i64 x) := cell_gr hw5 (by go_simp)
  have cw5_6_3 : w5.cell? ⟨W.heap.size + 1 + 1 + 1 + 1 + 1 + 1, 3, none⟩ = some (.int .i64 0) := cell_gr hw5 (by go_simp)
  have zw5_6 : W.heap.size + 1 + 1 + 1 + 1 + 1 + 1 < w5.heap.size := World.block_lt_of_cell? _ _ cw5_6_0
  have cw5_7_0 : w5.cell? ⟨W.heap.size + 1 + 1 + 1 + 1 + 1 + 1 + 1, 0, none⟩ = some (.int .i64 3) := cell_gr hw5 (by go_simp)
  have cw5_7_1 : w5.cell? ⟨W.heap.size + 1 + 1 + 1 + 1 + 1 + 1 + 1, 1, none⟩ = some (.slice (some ⟨W.heap.size + 1 + 1 + 1 + 1 + 1 + 1, 0, none⟩) 2 2) := cell_gr hw5 (by go_simp)
  have zw5_7 : W.heap.size + 1 + 1 + 1 + 1 + 1 + 1 + 1 < w5.heap.size := World.block_lt_of_cell? _ _ cw5_7_0
  have cw5_8_0 : w5.cell? ⟨w2.heap.size, 0, none⟩ = some (.int .u64 0) := cell_gr hw5 (by go_simp)
  have cw5_8_1 : w5.cell? ⟨w2.heap.size, 1, none⟩ = some (.int .u64 0) := cell_gr hw5 (by go_simp)
  have cw5_8_2 : w5.cell? ⟨w2.heap.size, 2, none⟩ = some (.int .u64 0) := cell_gr hw5 (by go_simp)
  have zw5_8 : w2.heap.size < w5.heap.size := World.block_lt_of_cell? _ _ cw5_8_0
  have gw5 : Gr W w5 := Gr.trans (by have gg := gw4; have gs := gg.size; go_grown) hw5
  clear gw4 zw4_0 cw4_0_0 cw4_0_1 cw4_0_2 cw4_0_3 cw4_0_4 cw4_0_5 zw4_1 cw4_1_0 cw4_1_1 zw4_2 cw4_2_0 cw4_2_1 zw4_3 cw4_3_0 cw4_3_1 zw4_4 cw4_4_0 cw4_4_1 zw4_5 cw4_5_0 cw4_5_1 zw4_6 cw4_6_0 cw4_6_1 cw4_6_2 cw4_6_3 zw4_7 cw4_7_0 cw4_7_1 zw4_8 cw4_8_0 cw4_8_1 cw4_8_2
  clear hw5
  try simp only [Act.put, List.setIfInBounds_toArray, List.set_cons_zero, List.set_cons_succ]
  repeat (first | (refine Od.wpO_skip (by simp only [List.getElem?_toArray, List.getElem?_cons_succ, List.getElem?_cons_zero] <;> rfl) rfl ?_; simp only [Act.put, List.setIfInBounds_toArray, List.set_cons_zero, List.set_cons_succ]) | (refine Od.wpO_pure (by simp only [List.getElem?_toArray, List.getElem?_cons_succ, List.getElem?_cons_zero] <;> rfl) rfl ?_; apply Exists.intro; refine ⟨?_, ?_⟩; (· intro wx gx; obtain ⟨mx, rfl⟩ := spread_of_gr gx; clear gx; all_goals (apply Od.pAt_of_quiet; intro K hK; go_big_quiet_op; first | exact hK _ rfl | (apply Exists.intro; refine ⟨fun _ => ?_, ?_⟩; (· fail); exact hK _ rfl))); try simp only [Act.put, List.setIfInBounds_toArray, List.set_cons_zero, List.set_cons_succ]))
  refine Od.wpO_call (by simp only [List.getElem?_toArray, List.getElem?_cons_succ, List.getElem?_cons_zero] <;> rfl) rfl ?_
  intro QS hQS
  go_wp2_with fail
  go_at_call 6
  (with_reducible refine ((H2.out _ _ _ gw5 (bl_2 cw5_4_0 cw5_4_1))).mono ?_)
  rintro e w6 ⟨rfl, hw6⟩
  go_wp2_with fail
  apply Exists.intro
  refine ⟨?_, hw6, ?_⟩
  · simp only [Act.put, List.setIfInBounds_toArray, List.set_cons_zero, List.set_cons_succ]; rfl
  have cw6_0_0 : w6.cell? ⟨W.heap.size, 0, none⟩ = some (.int .i64 kq) := cell_gr hw6 (by go_simp)
  have cw6_0_1 : w6.cell? ⟨W.heap.size, 1, none⟩ = some (.int .i64 lx) := cell_gr hw6 (by go_simp)
  have cw6_0_2 : w6.cell? ⟨W.heap.size, 2, none⟩ = some (.int .i64 ly) := cell_gr hw6 (by go_simp)
  have cw6_0_3 : w6.cell? ⟨W.heap.size, 3, none⟩ = some (.int .i64 hx) := cell_gr hw6 (by go_simp)
  have cw6_0_4 : w6.cell? ⟨W.heap.size, 4, none⟩ = some (.int .i64 hy) := cell_gr hw6 (by go_simp)
  have cw6_0_5 : w6.cell? ⟨W.heap.size, 5, none⟩ = some (.slice bd m bcap) := cell_gr hw6 (by go_simp)
  have zw6_0 : W.heap.size < w6.heap.size := World.block_lt_of_cell? _ _ cw6_0_0
  have cw6_1_0 : w6.cell? ⟨W.heap.size + 1, 0, none⟩ = some (.int .i64 px) := cell_gr hw6 (by go_simp)
  have cw6_1_1 : w6.cell? ⟨W.heap.size + 1, 1, none⟩ = some (.int .i64 py) := cell_gr hw6 (by go_simp)
  have zw6_1 : W.heap.size + 1 < w6.heap.size := World.block_lt_of_cell? _ _ cw6_1_0
  have cw6_2_0 : w6.cell? ⟨W.heap.size + 1 + 1, 0, none⟩ = some (.int .i64 x) := cell_gr hw6 (by go_simp)
  have cw6_2_1 : w6.cell? ⟨W.heap.size + 1 + 1, 1, none⟩ = some (.int .i64 0) := cell_gr hw6 (by go_simp)
  have zw6_2 : W.heap.size + 1 + 1 < w6.heap.size := World.block_lt_of_cell? _ _ cw6_2_0
  have cw6_3_0 : w6.cell? ⟨W.heap.size + 1 + 1 + 1, 0, none⟩ = some (.int .i64 1) := cell_gr hw6 (by go_simp)
  have cw6_3_1 : w6.cell? ⟨W.heap.size + 1 + 1 + 1, 1, none⟩ = some (.slice (some ⟨W.heap.size + 1 + 1, 0, none⟩) 1 1) := cell_gr hw6 (by go_simp)
  have zw6_3 : W.heap.size + 1 + 1 + 1 < w6.heap.size := World.block_lt_of_cell? _ _ cw6_3_0
  have cw6_4_0 : w6.cell? ⟨W.heap.size + 1 + 1 + 1 + 1, 0, none⟩ = some (.int .i64 x) := cell_gr hw6 (by go_simp)
  have cw6_4_1 : w6.cell? ⟨W.heap.size + 1 + 1 + 1 + 1, 1, none⟩ = some (.int .i64 x) := cell_gr hw6 (by go_simp)
  have zw6_4 : W.heap.size + 1 + 1 + 1 + 1 < w6.heap.size := World.block_lt_of_cell? _ _ cw6_4_0
  have cw6_5_0 : w6.cell? ⟨W.heap.size + 1 + 1 + 1 + 1 + 1, 0, none⟩ = some (.int .i64 2) := cell_gr hw6 (by go_simp)
  have cw6_5_1 : w6.cell? ⟨W.heap.size + 1 + 1 + 1 + 1 + 1, 1, none⟩ = some (.slice (some ⟨W.heap.size + 1 + 1 + 1 + 1, 0, none⟩) 1 1) := cell_gr hw6 (by go_simp)
  have zw6_5 : W.heap.size + 1 + 1 + 1 + 1 + 1 < w6.heap.size := World.block_lt_of_cell? _ _ cw6_5_0
  have cw6_6_0 : w6.cell? ⟨W.heap.size + 1 + 1 + 1 + 1 + 1 + 1, 0, none⟩ = some (.int .i64 x) := cell_gr hw6 (by go_simp)
  have cw6_6_1 : w6.cell? ⟨W.heap.size + 1 + 1 + 1 + 1 + 1 + 1, 1, none⟩ = some (.int .i64 0) := cell_gr hw6 (by go_simp)
  have cw6_6_2 : w6.cell? ⟨W.heap.size + 1 + 1 + 1 + 1 + 1 + 1, 2, none⟩ = some (.int .i64 x) := cell_gr hw6 (by go_simp)
  have cw6_6_3 : w6.cell? ⟨W.heap.size + 1 + 1 + 1 + 1 + 1 + 1, 3, none⟩ = some (.int .i64 0) := cell_gr hw6 (by go_simp)
  have zw6_6 : W.heap.size + 1 + 1 + 1 + 1 + 1 + 1 < w6.heap.size := World.block_lt_of_cell? _ _ cw6_6_0
  have cw6_7_0 : w6.cell? ⟨W.heap.size + 1 + 1 + 1 + 1 + 1 + 1 + 1, 0, none⟩ = some (.int .i64 3) := cell_gr hw6 (by go_simp)
  have cw6_7_1 : w6.cell? ⟨W.heap.size + 1 + 1 + 1 + 1 + 1 + 1 + 1, 1, none⟩ = some (.slice (some ⟨W.heap.size + 1 + 1 + 1 + 1 + 1 + 1, 0, none⟩) 2 2) := cell_gr hw6 (by go_simp)
  have zw6_7 : W.heap.size + 1 + 1 + 1 + 1 + 1 + 1 + 1 < w6.heap.size := World.block_lt_of_cell? _ _ cw6_7_0
  have cw6_8_0 : w6.cell? ⟨w2.heap.size, 0, none⟩ = some (.int .u64 0) := cell_gr hw6 (by go_simp)
  have cw6_8_1 : w6.cell? ⟨w2.heap.size, 1, none⟩ = some (.int .u64 0) := cell_gr hw6 (by go_simp)
  have cw6_8_2 : w6.cell? ⟨w2.heap.size, 2, none⟩ = some (.int .u64 0) := cell_gr hw6 (by go_simp)
  have zw6_8 : w2.heap.size < w6.heap.size := World.block_lt_of_cell? _ _ cw6_8_0
  have gw6 : Gr W w6 := Gr.trans (by have gg := gw5; have gs := gg.size; go_grown) hw6
  clear gw5 zw5_0 cw5_0_0 cw5_0_1 cw5_0_2 cw5_0_3 cw5_0_4 cw5_0_5 zw5_1 cw5_1_0 cw5_1_1 zw5_2 cw5_2_0 cw5_2_1 zw5_3 cw5_3_0 cw5_3_1 zw5_4 cw5_4_0 cw5_4_1 zw5_5 cw5_5_0 cw5_5_1 zw5_6 cw5_6_0 cw5_6_1 cw5_6_2 cw5_6_3 zw5_7 cw5_7_0 cw5_7_1 zw5_8 cw5_8_0 cw5_8_1 cw5_8_2
  clear hw6
  try simp only [Act.put, List.setIfInBounds_toArray, List.set_cons_zero, List.set_cons_succ]
  repeat (first | (refine Od.wpO_skip (by simp only [List.getElem?_toArray, List.getElem?_cons_succ, List.getElem?_cons_zero] <;> rfl) rfl ?_; simp only [Act.put, List.setIfInBounds_toArray, List.set_cons_zero, List.set_cons_succ]) | (refine Od.wpO_pure (by simp only [List.getElem?_toArray, List.getElem?_cons_succ, List.getElem?_cons_zero] <;> rfl) rfl ?_; apply Exists.intro; refine ⟨?_, ?_⟩; (· intro wx gx; obtain ⟨mx, rfl⟩ := spread_of_gr gx; clear gx; all_goals (apply Od.pAt_of_quiet; intro K hK; go_big_quiet_op; first | exact hK _ rfl | (apply Exists.intro; refine ⟨fun _ => ?_, ?_⟩; (· fail); exact hK _ rfl))); try simp only [Act.put, List.setIfInBounds_toArray, List.set_cons_zero, List.set_cons_succ]))
  refine Od.wpO_call (by simp only [List.getElem?_toArray, List.getElem?_cons_succ, List.getElem?_cons_zero] <;> rfl) rfl ?_
  intro QS hQS
  go_wp2_with fail
  go_at_call 6
  (with_reducible refine ((H2.out _ _ _ gw6 (bl_3 cw6_6_0 cw6_6_1 cw6_6_2 cw6_6_3))).mono ?_)
  rintro e w7 ⟨rfl, hw7⟩
  go_wp2_with fail
  apply Exists.intro
  refine ⟨?_, hw7, ?_⟩
  · simp only [Act.put, List.setIfInBounds_toArray, List.set_cons_zero, List.set_cons_succ]; rfl
  have cw7_0_0 : w7.cell? ⟨W.heap.size, 0, none⟩ = some (.int .i64 kq) := cell_gr hw7 (by go_simp)
  have cw7_0_1 : w7.cell? ⟨W.heap.size, 1, none⟩ = some (.int .i64 lx) := cell_gr hw7 (by go_simp)
  have cw7_0_2 : w7.cell? ⟨W.heap.size, 2, none⟩ = some (.int .i64 ly) := cell_gr hw7 (by go_simp)
  have cw7_0_3 : w7.cell? ⟨W.heap.size, 3, none⟩ = some (.int .i64 hx) := cell_gr hw7 (by go_simp)
  have cw7_0_4 : w7.cell? ⟨W.heap.size, 4, none⟩ = some (.int .i64 hy) := cell_gr hw7 (by go_simp)
  have cw7_0_5 : w7.cell? ⟨W.heap.size, 5, none⟩ = some (.slice bd m bcap) := cell_gr hw7 (by go_simp)
  have zw7_0 : W.heap.size < w7.heap.size := World.block_lt_of_cell? _ _ cw7_0_0
  have cw7_1_0 : w7.cell? ⟨W.heap.size + 1, 0, none⟩ = some (.int .i64 px) := cell_gr hw7 (by go_simp)
  have cw7_1_1 : w7.cell? ⟨W.heap.size + 1, 1, none⟩ = some (.int .i64 py) := cell_gr hw7 (by go_simp)
  have zw7_1 : W.heap.size + 1 < w7.heap.size := World.block_lt_of_cell? _ _ cw7_1_0
  have cw7_2_0 : w7.cell? ⟨W.heap.size + 1 + 1, 0, none⟩ = some (.int .i64 x) := cell_gr hw7 (by go_simp)
  have cw7_2_1 : w7.cell? ⟨W.heap.size + 1 + 1, 1, none⟩ = some (.int .i64 0) := cell_gr hw7 (by go_simp)
  have zw7_2 : W.heap.size + 1 + 1 < w7.heap.size := World.block_lt_of_cell? _ _ cw7_2_0
  have cw7_3_0 : w7.cell? ⟨W.heap.size + 1 + 1 + 1, 0, none⟩ = some (.int .i64 1) := cell_gr hw7 (by go_simp)
  have cw7_3_1 : w7.cell? ⟨W.heap.size + 1 + 1 + 1, 1, none⟩ = some (.slice (some ⟨W.heap.size + 1 + 1, 0, none⟩) 1 1) := cell_gr hw7 (by go_simp)
  have zw7_3 : W.heap.size + 1 + 1 + 1 < w7.heap.size := World.block_lt_of_cell? _ _ cw7_3_0
  have cw7_4_0 : w7.cell? ⟨W.heap.size + 1 + 1 + 1 + 1, 0, none⟩ = some (.int .i64 x) := cell_gr hw7 (by go_simp)
  have cw7_4_1 : w7.cell? ⟨W.heap.size + 1 + 1 + 1 + 1, 1, none⟩ = some (.int .i64 x) := cell_gr hw7 (by go_simp)
  have zw7_4 : W.heap.size + 1 + 1 + 1 + 1 < w7.heap.size := World.block_lt_of_cell? _ _ cw7_4_0
  have cw7_5_0 : w7.cell? ⟨W.heap.size + 1 + 1 + 1 + 1 + 1, 0, none⟩ = some (.int .i64 2) := cell_gr hw7 (by go_simp)
  have cw7_5_1 : w7.cell? ⟨W.heap.size + 1 + 1 + 1 + 1 + 1, 1, none⟩ = some (.slice (some ⟨W.heap.size + 1 + 1 + 1 + 1, 0, none⟩) 1 1) := cell_gr hw7 (by go_simp)
  have zw7_5 : W.heap.size + 1 + 1 + 1 + 1 + 1 < w7.heap.size := World.block_lt_of_cell? _ _ cw7_5_0
  have cw7_6_0 : w7.cell? ⟨W.heap.size + 1 + 1 + 1 + 1 + 1 + 1, 0, none⟩ = some (.int .i64 x) := cell_gr hw7 (by go_simp)
  have cw7_6_1 : w7.cell? ⟨W.heap.size + 1 + 1 + 1 + 1 + 1 + 1, 1, none⟩ = some (.int .i64 0) := cell_gr hw7 (by go_simp)
  have cw7_6_2 : w7.cell? ⟨W.heap.size + 1 + 1 + 1 + 1 + 1 + 1, 2, none⟩ = some (.int .i64 x) := cell_gr hw7 (by go_simp)
  have cw7_6_3 : w7.cell? ⟨W.heap.size + 1 + 1 + 1 + 1 + 1 + 1, 3, none⟩ = some (.int .i64 0) := cell_gr hw7 (by go_simp)
  have zw7_6 : W.heap.size + 1 + 1 + 1 + 1 + 1 + 1 < w7.heap.size := World.block_lt_of_cell? _ _ cw7_6_0
  have cw7_7_0 : w7.cell? ⟨W.heap.size + 1 + 1 + 1 + 1 + 1 + 1 + 1, 0, none⟩ = some (.int .i64 3) := cell_gr hw7 (by go_simp)
  have cw7_7_1 : w7.cell? ⟨W.heap.size + 1 + 1 + 1 + 1 + 1 + 1 + 1, 1, none⟩ = some (.slice (some ⟨W.heap.size + 1 + 1 + 1 + 1 + 1 + 1, 0, none⟩) 2 2) := cell_gr hw7 (by go_simp)
  have zw7_7 : W.heap.size + 1 + 1 + 1 + 1 + 1 + 1 + 1 < w7.heap.size := World.block_lt_of_cell? _ _ cw7_7_0
  have cw7_8_0 : w7.cell? ⟨w2.heap.size, 0, none⟩ = some (.int .u64 0) := cell_gr hw7 (by go_simp)
  have cw7_8_1 : w7.cell? ⟨w2.heap.size, 1, none⟩ = some (.int .u64 0) := cell_gr hw7 (by go_simp)
  have cw7_8_2 : w7.cell? ⟨w2.heap.size, 2, none⟩ = some (.int .u64 0) := cell_gr hw7 (by go_simp)
  have zw7_8 : w2.heap.size < w7.heap.size := World.block_lt_of_cell? _ _ cw7_8_0
  have gw7 : Gr W w7 := Gr.trans (by have gg := gw6; have gs := gg.size; go_grown) hw7
  clear gw6 zw6_0 cw6_0_0 cw6_0_1 cw6_0_2 cw6_0_3 cw6_0_4 cw6_0_5 zw6_1 cw6_1_0 cw6_1_1 zw6_2 cw6_2_0 cw6_2_1 zw6_3 cw6_3_0 cw6_3_1 zw6_4 cw6_4_0 cw6_4_1 zw6_5 cw6_5_0 cw6_5_1 zw6_6 cw6_6_0 cw6_6_1 cw6_6_2 cw6_6_3 zw6_7 cw6_7_0 cw6_7_1 zw6_8 cw6_8_0 cw6_8_1 cw6_8_2
  clear hw7
  try simp only [Act.put, List.setIfInBounds_toArray, List.set_cons_zero, List.set_cons_succ]
  repeat (first | (refine Od.wpO_skip (by simp only [List.getElem?_toArray, List.getElem?_cons_succ, List.getElem?_cons_zero] <;> rfl) rfl ?_; simp only [Act.put, List.setIfInBounds_toArray, List.set_cons_zero, List.set_cons_succ]) | (refine Od.wpO_pure (by simp only [List.getElem?_toArray, List.getElem?_cons_succ, List.getElem?_cons_zero] <;> rfl) rfl ?_; apply Exists.intro; refine ⟨?_, ?_⟩; (· intro wx gx; obtain ⟨mx, rfl⟩ := spread_of_gr gx; clear gx; all_goals (apply Od.pAt_of_quiet; intro K hK; go_big_quiet_op; first | exact hK _ rfl | (apply Exists.intro; refine ⟨fun _ => ?_, ?_⟩; (· fail); exact hK _ rfl))); try simp only [Act.put, List.setIfInBounds_toArray, List.set_cons_zero, List.set_cons_succ]))
  refine Od.wpO_call (by simp only [List.getElem?_toArray, List.getElem?_cons_succ, List.getElem?_cons_zero] <;> rfl) rfl ?_
  intro QS hQS
  go_wp2_with fail
  go_at_call 7
  (with_reducible refine ((H3.out _ _ _ (bl_1 cw7_2_0 cw7_2_1))).mono ?_)
  rintro e w8 ⟨rfl, hw8⟩
  go_wp2_with fail
  apply Exists.intro
  refine ⟨?_, hw8, ?_⟩
  · simp only [Act.put, List.setIfInBounds_toArray, List.set_cons_zero, List.set_cons_succ]; rfl
  have cw8_0_0 : w8.cell? ⟨W.heap.size, 0, none⟩ = some (.int .i64 kq) := cell_gr hw8 (by go_simp)
  have cw8_0_1 : w8.cell? ⟨W.heap.size, 1, none⟩ = some (.int .i64 lx) := cell_gr hw8 (by go_simp)
  have cw8_0_2 : w8.cell? ⟨W.heap.size, 2, none⟩ = some (.int .i64 ly) := cell_gr hw8 (by go_simp)
  have cw8_0_3 : w8.cell? ⟨W.heap.size, 3, none⟩ = some (.int .i64 hx) := cell_gr hw8 (by go_simp)
  have cw8_0_4 : w8.cell? ⟨W.heap.size, 4, none⟩ = some (.int .i64 hy) := cell_gr hw8 (by go_simp)
  have cw8_0_5 : w8.cell? ⟨W.heap.size, 5, none⟩ = some (.slice bd m bcap) := cell_gr hw8 (by go_simp)
  have zw8_0 : W.heap.size < w8.heap.size := World.block_lt_of_cell? _ _ cw8_0_0
  have cw8_1_0 : w8.cell? ⟨W.heap.size + 1, 0, none⟩ = some (.int .i64 px) := cell_gr hw8 (by go_simp)
  have cw8_1_1 : w8.cell? ⟨W.heap.size + 1, 1, none⟩ = some (.int .i64 py) := cell_gr hw8 (by go_simp)
  have zw8_1 : W.heap.size + 1 < w8.heap.size := World.block_lt_of_cell? _ _ cw8_1_0
  have cw8_2_0 : w8.cell? ⟨W.heap.size + 1 + 1, 0, none⟩ = some (.int .i64 x) := cell_gr hw8 (by go_simp)
  have cw8_2_1 : w8.cell? ⟨W.heap.size + 1 + 1, 1, none⟩ = some (.int .i64 0) := cell_gr hw8 (by go_simp)
  have zw8_2 : W.heap.size + 1 + 1 < w8.heap.size := World.block_lt_of_cell? _ _ cw8_2_0
  have cw8_3_0 : w8.cell? ⟨W.heap.size + 1 + 1 + 1, 0, none⟩ = some (.int .i64 1) := cell_gr hw8 (by go_simp)
  have cw8_3_1 : w8.cell? ⟨W.heap.size + 1 + 1 + 1, 1, none⟩ = some (.slice (some ⟨W.heap.size + 1 + 1, 0, none⟩) 1 1) := cell_gr hw8 (by go_simp)
  have zw8_3 : W.heap.size + 1 + 1 + 1 < w8.heap.size := World.block_lt_of_cell? _ _ cw8_3_0
  have cw8_4_0 : w8.cell? ⟨W.heap.size + 1 + 1 + 1 + 1, 0, none⟩ = some (.int .i64 x) := cell_gr hw8 (by go_simp)
  have cw8_4_1 : w8.cell? ⟨W.heap.size + 1 + 1 + 1 + 1, 1, none⟩ = some (.int .i64 x) := cell_gr hw8 (by go_simp)
  have zw8_4 : W.heap.size + 1 + 1 + 1 + 1 < w8.heap.size := World.block_lt_of_cell? _ _ cw8_4_0
  have cw8_5_0 : w8.cell? ⟨W.heap.size + 1 + 1 + 1 + 1 + 1, 0, none⟩ = some (.int .i64 2) := cell_gr hw8 (by go_simp)
  have cw8_5_1 : w8.cell? ⟨W.heap.size + 1 + 1 + 1 + 1 + 1, 1, none⟩ = some (.slice (some ⟨W.heap.size + 1 + 1 + 1 + 1, 0, none⟩) 1 1) := cell_gr hw8 (by go_simp)
  have zw8_5 : W.heap.size + 1 + 1 + 1 + 1 + 1 < w8.heap.size := World.block_lt_of_cell? _ _ cw8_5_0
  have cw8_6_0 : w8.cell? ⟨W.heap.size + 1 + 1 + 1 + 1 + 1 + 1, 0, none⟩ = some (.int .i64 x) := cell_gr hw8 (by go_simp)
  have cw8_6_1 : w8.cell? ⟨W.heap.size + 1 + 1 + 1 + 1 + 1 + 1, 1, none⟩ = some (.int .i64 0) := cell_gr hw8 (by go_simp)
  have cw8_6_2 : w8.cell? ⟨W.heap.size + 1 + 1 + 1 + 1 + 1 + 1, 2, none⟩ = some (.int .i64 x) := cell_gr hw8 (by go_simp)
  have cw8_6_3 : w8.cell? ⟨W.heap.size + 1 + 1 + 1 + 1 + 1 + 1, 3, none⟩ = some (.int .i64 0) := cell_gr hw8 (by go_simp)
  have zw8_6 : W.heap.size + 1 + 1 + 1 + 1 + 1 + 1 < w8.heap.size := World.block_lt_of_cell? _ _ cw8_6_0
  have cw8_7_0 : w8.cell? ⟨W.heap.size + 1 + 1 + 1 + 1 + 1 + 1 + 1, 0, none⟩ = some (.int .i64 3) := cell_gr hw8 (by go_simp)
  have cw8_7_1 : w8.cell? ⟨W.heap.size + 1 + 1 + 1 + 1 + 1 + 1 + 1, 1, none⟩ = some (.slice (some ⟨W.heap.size + 1 + 1 + 1 + 1 + 1 + 1, 0, none⟩) 2 2) := cell_gr hw8 (by go_simp)
  have zw8_7 : W.heap.size + 1 + 1 + 1 + 1 + 1 + 1 + 1 < w8.heap.size := World.block_lt_of_cell? _ _ cw8_7_0
  have cw8_8_0 : w8.cell? ⟨w2.heap.size, 0, none⟩ = some (.int .u64 0) := cell_gr hw8 (by go_simp)
  have cw8_8_1 : w8.cell? ⟨w2.heap.size, 1, none⟩ = some (.int .u64 0) := cell_gr hw8 (by go_simp)
  have cw8_8_2 : w8.cell? ⟨w2.heap.size, 2, none⟩ = some (.int .u64 0) := cell_gr hw8 (by go_simp)
  have zw8_8 : w2.heap.size < w8.heap.size := World.block_lt_of_cell? _ _ cw8_8_0
  have gw8 : Gr W w8 := Gr.trans (by have gg := gw7; have gs := gg.size; go_grown) hw8
  clear gw7 zw7_0 cw7_0_0 cw7_0_1 cw7_0_2 cw7_0_3 cw7_0_4 cw7_0_5 zw7_1 cw7_1_0 cw7_1_1 zw7_2 cw7_2_0 cw7_2_1 zw7_3 cw7_3_0 cw7_3_1 zw7_4 cw7_4_0 cw7_4_1 zw7_5 cw7_5_0 cw7_5_1 zw7_6 cw7_6_0 cw7_6_1 cw7_6_2 cw7_6_3 zw7_7 cw7_7_0 cw7_7_1 zw7_8 cw7_8_0 cw7_8_1 cw7_8_2
  clear hw8
  try simp only [Act.put, List.setIfInBounds_toArray, List.set_cons_zero, List.set_cons_succ]
  repeat (first | (refine Od.wpO_skip (by simp only [List.getElem?_toArray, List.getElem?_cons_succ, List.getElem?_cons_zero] <;> rfl) rfl ?_; simp only [Act.put, List.setIfInBounds_toArray, List.set_cons_zero, List.set_cons_succ]) | (refine Od.wpO_pure (by simp only [List.getElem?_toArray, List.getElem?_cons_succ, List.getElem?_cons_zero] <;> rfl) rfl ?_; apply Exists.intro; refine ⟨?_, ?_⟩; (· intro wx gx; obtain ⟨mx, rfl⟩ := spread_of_gr gx; clear gx; all_goals (apply Od.pAt_of_quiet; intro K hK; go_big_quiet_op; first | exact hK _ rfl | (apply Exists.intro; refine ⟨fun _ => ?_, ?_⟩; (· fail); exact hK _ rfl))); try simp only [Act.put, List.setIfInBounds_toArray, List.set_cons_zero, List.set_cons_succ]))
  refine Od.wpO_call (by simp only [List.getElem?_toArray, List.getElem?_cons_succ, List.getElem?_cons_zero] <;> rfl) rfl ?_
  intro QS hQS
  go_wp2_with fail
  go_at_call 8
  (with_reducible refine ((H4.out _)).mono ?_)
  rintro e w9 ⟨rfl, hw9⟩
  go_wp2_with fail
  apply Exists.intro
  refine ⟨?_, hw9, ?_⟩
  · simp only [Act.put, List.setIfInBounds_toArray, List.set_cons_zero, List.set_cons_succ]; rfl
  have cw9_0_0 : w9.cell? ⟨W.heap.size, 0, none⟩ = some (.int .i64 kq) := cell_gr hw9 (by go_simp)
  have cw9_0_1 : w9.cell? ⟨W.heap.size, 1, none⟩ = some (.int .i64 lx) := cell_gr hw9 (by go_simp)
  have cw9_0_2 : w9.cell? ⟨W.heap.size, 2, none⟩ = some (.int .i64 ly) := cell_gr hw9 (by go_simp)
  have cw9_0_3 : w9.cell? ⟨W.heap.size, 3, none⟩ = some (.int .i64 hx) := cell_gr hw9 (by go_simp)
  have cw9_0_4 : w9.cell? ⟨W.heap.size, 4, none⟩ = some (.int .i64 hy) := cell_gr hw9 (by go_simp)
  have cw9_0_5 : w9.cell? ⟨W.heap.size, 5, none⟩ = some (.slice bd m bcap) := cell_gr hw9 (by go_simp)
  have zw9_0 : W.heap.size < w9.heap.size := World.block_lt_of_cell? _ _ cw9_0_0
  have cw9_1_0 : w9.cell? ⟨W.heap.size + 1, 0, none⟩ = some (.int .i64 px) := cell_gr hw9 (by go_simp)
  have cw9_1_1 : w9.cell? ⟨W.heap.size + 1, 1, none⟩ = some (.int .i64 py) := cell_gr hw9 (by go_simp)
  have zw9_1 : W.heap.size + 1 < w9.heap.size := World.block_lt_of_cell? _ _ cw9_1_0
  have cw9_2_0 : w9.cell? ⟨W.heap.size + 1 + 1, 0, none⟩ = some (.int .i64 x) := cell_gr hw9 (by go_simp)
  have cw9_2_1 : w9.cell? ⟨W.heap.size + 1 + 1, 1, none⟩ = some (.int .i64 0) := cell_gr hw9 (by go_simp)
  have zw9_2 : W.heap.size + 1 + 1 < w9.heap.size := World.block_lt_of_cell? _ _ cw9_2_0
  have cw9_3_0 : w9.cell? ⟨W.heap.size + 1 + 1 + 1, 0, none⟩ = some (.int .i64 1) := cell_gr hw9 (by go_simp)
  have cw9_3_1 : w9.cell? ⟨W.heap.size + 1 + 1 + 1, 1, none⟩ = some (.slice (some ⟨W.heap.size + 1 + 1, 0, none⟩) 1 1) := cell_gr hw9 (by go_simp)
  have zw9_3 : W.heap.size + 1 + 1 + 1 < w9.heap.size := World.block_lt_of_cell? _ _ cw9_3_0
  have cw9_4_0 : w9.cell? ⟨W.heap.size + 1 + 1 + 1 + 1, 0, none⟩ = some (.int .i64 x) := cell_gr hw9 (by go_simp)
  have cw9_4_1 : w9.cell? ⟨W.heap.size + 1 + 1 + 1 + 1, 1, none⟩ = some (.int .i64 x) := cell_gr hw9 (by go_simp)
  have zw9_4 : W.heap.size + 1 + 1 + 1 + 1 < w9.heap.size := World.block_lt_of_cell? _ _ cw9_4_0
  have cw9_5_0 : w9.cell? ⟨W.heap.size + 1 + 1 + 1 + 1 + 1, 0, none⟩ = some (.int .i64 2) := cell_gr hw9 (by go_simp)
  have cw9_5_1 : w9.cell? ⟨W.heap.size + 1 + 1 + 1 + 1 + 1, 1, none⟩ = some (.slice (some ⟨W.heap.size + 1 + 1 + 1 + 1, 0, none⟩) 1 1) := cell_gr hw9 (by go_simp)
  have zw9_5 : W.heap.size + 1 + 1 + 1 + 1 + 1 < w9.heap.size := World.block_lt_of_cell? _ _ cw9_5_0
  have cw9_6_0 : w9.cell? ⟨W.heap.size + 1 + 1 + 1 + 1 + 1 + 1, 0, none⟩ = some (.int .i64 x) := cell_gr hw9 (by go_simp)
  have cw9_6_1 : w9.cell? ⟨W.heap.size + 1 + 1 + 1 + 1 + 1 + 1, 1, none⟩ = some (.int .i64 0) := cell_gr hw9 (by go_simp)
  have cw9_6_2 : w9.cell? ⟨W.heap.size + 1 + 1 + 1 + 1 + 1 + 1, 2, none⟩ = some (.int .i64 x) := cell_gr hw9 (by go_simp)
  have cw9_6_3 : w9.cell? ⟨W.heap.size + 1 + 1 + 1 + 1 + 1 + 1, 3, none⟩ = some (.int .i64 0) := cell_gr hw9 (by go_simp)
  have zw9_6 : W.heap.size + 1 + 1 + 1 + 1 + 1 + 1 < w9.heap.size := World.block_lt_of_cell? _ _ cw9_6_0
  have cw9_7_0 : w9.cell? ⟨W.heap.size + 1 + 1 + 1 + 1 + 1 + 1 + 1, 0, none⟩ = some (.int .i64 3) := cell_gr hw9 (by go_simp)
  have cw9_7_1 : w9.cell? ⟨W.heap.size + 1 + 1 + 1 + 1 + 1 + 1 + 1, 1, none⟩ = some (.slice (some ⟨W.heap.size + 1 + 1 + 1 + 1 + 1 + 1, 0, none⟩) 2 2) := cell_gr hw9 (by go_simp)
  have zw9_7 : W.heap.size + 1 + 1 + 1 + 1 + 1 + 1 + 1 < w9.heap.size := World.block_lt_of_cell? _ _ cw9_7_0
  have cw9_8_0 : w9.cell? ⟨w2.heap.size, 0, none⟩ = some (.int .u64 0) := cell_gr hw9 (by go_simp)
  have cw9_8_1 : w9.cell? ⟨w2.heap.size, 1, none⟩ = some (.int .u64 0) := cell_gr hw9 (by go_simp)
  have cw9_8_2 : w9.cell? ⟨w2.heap.size, 2, none⟩ = some (.int .u64 0) := cell_gr hw9 (by go_simp)
  have zw9_8 : w2.heap.size < w9.heap.size := World.block_lt_of_cell? _ _ cw9_8_0
  have gw9 : Gr W w9 := Gr.trans (by have gg := gw8; have gs := gg.size; go_grown) hw9
  clear gw8 zw8_0 cw8_0_0 cw8_0_1 cw8_0_2 cw8_0_3 cw8_0_4 cw8_0_5 zw8_1 cw8_1_0 cw8_1_1 zw8_2 cw8_2_0 cw8_2_1 zw8_3 cw8_3_0 cw8_3_1 zw8_4 cw8_4_0 cw8_4_1 zw8_5 cw8_5_0 cw8_5_1 zw8_6 cw8_6_0 cw8_6_1 cw8_6_2 cw8_6_3 zw8_7 cw8_7_0 cw8_7_1 zw8_8 cw8_8_0 cw8_8_1 cw8_8_2
  clear hw9
  try simp only [Act.put, List.setIfInBounds_toArray, List.set_cons_zero, List.set_cons_succ]
  repeat (first | (refine Od.wpO_skip (by simp only [List.getElem?_toArray, List.getElem?_cons_succ, List.getElem?_cons_zero] <;> rfl) rfl ?_; simp only [Act.put, List.setIfInBounds_toArray, List.set_cons_zero, List.set_cons_succ]) | (refine Od.wpO_pure (by simp only [List.getElem?_toArray, List.getElem?_cons_succ, List.getElem?_cons_zero] <;> rfl) rfl ?_; apply Exists.intro; refine ⟨?_, ?_⟩; (· intro wx gx; obtain ⟨mx, rfl⟩ := spread_of_gr gx; clear gx; all_goals (apply Od.pAt_of_quiet; intro K hK; go_big_quiet_op; first | exact hK _ rfl | (apply Exists.intro; refine ⟨fun _ => ?_, ?_⟩; (· fail); exact hK _ rfl))); try simp only [Act.put, List.setIfInBounds_toArray, List.set_cons_zero, List.set_cons_succ]))
  refine Od.wpO_call (by simp only [List.getElem?_toArray, List.getElem?_cons_succ, List.getElem?_cons_zero] <;> rfl) rfl ?_
  intro QS hQS
  go_wp2_with fail
  go_at_call 4
  (with_reducible refine ((H5.out _ gw9)).mono ?_)
  rintro e wa ⟨rfl, hwa⟩
  go_wp2_with fail
  apply Exists.intro
  refine ⟨?_, hwa, ?_⟩
  · simp only [Act.put, List.setIfInBounds_toArray, List.set_cons_zero, List.set_cons_succ]; rfl
  have cwa_0_0 : wa.cell? ⟨W.heap.size, 0, none⟩ = some (.int .i64 kq) := cell_gr hwa (by go_simp)
  have cwa_0_1 : wa.cell? ⟨W.heap.size, 1, none⟩ = some (.int .i64 lx) := cell_gr hwa (by go_simp)
  have cwa_0_2 : wa.cell? ⟨W.heap.size, 2, none⟩ = some (.int .i64 ly) := cell_gr hwa (by go_simp)
  have cwa_0_3 : wa.cell? ⟨W.heap.size, 3, none⟩ = some (.int .i64 hx) := cell_gr hwa (by go_simp)
  have cwa_0_4 : wa.cell? ⟨W.heap.size, 4, none⟩ = some (.int .i64 hy) := cell_gr hwa (by go_simp)
  have cwa_0_5 : wa.cell? ⟨W.heap.size, 5, none⟩ = some (.slice bd m bcap) := cell_gr hwa (by go_simp)
  have zwa_0 : W.heap.size < wa.heap.size := World.block_lt_of_cell? _ _ cwa_0_0
  have cwa_1_0 : wa.cell? ⟨W.heap.size + 1, 0, none⟩ = some (.int .i64 px) := cell_gr hwa (by go_simp)
  have cwa_1_1 : wa.cell? ⟨W.heap.size + 1, 1, none⟩ = some (.int .i64 py) := cell_gr hwa (by go_simp)
  have zwa_1 : W.heap.size + 1 < wa.heap.size := World.block_lt_of_cell? _ _ cwa_1_0
  have cwa_2_0 : wa.cell? ⟨W.heap.size + 1 + 1, 0, none⟩ = some (.int .i64 x) := cell_gr hwa (by go_simp)
  have cwa_2_1 : wa.cell? ⟨W.heap.size + 1 + 1, 1, none⟩ = some (.int .i64 0) := cell_gr hwa (by go_simp)
  have zwa_2 : W.heap.size + 1 + 1 < wa.heap.size := World.block_lt_of_cell? _ _ cwa_2_0
  have cwa_3_0 : wa.cell? ⟨W.heap.size + 1 + 1 + 1, 0, none⟩ = some (.int .i64 1) := cell_gr hwa (by go_simp)
  have cwa_3_1 : wa.cell? ⟨W.heap.size + 1 + 1 + 1, 1, none⟩ = some (.slice (some ⟨W.heap.size + 1 + 1, 0, none⟩) 1 1) := cell_gr hwa (by go_simp)
  have zwa_3 : W.heap.size + 1 + 1 + 1 < wa.heap.size := World.block_lt_of_cell? _ _ cwa_3_0
  have cwa_4_0 : wa.cell? ⟨W.heap.size + 1 + 1 + 1 + 1, 0, none⟩ = some (.int .i64 x) := cell_gr hwa (by go_simp)
  have cwa_4_1 : wa.cell? ⟨W.heap.size + 1 + 1 + 1 + 1, 1, none⟩ = some (.int .i64 x) := cell_gr hwa (by go_simp)
  have zwa_4 : W.heap.size + 1 + 1 + 1 + 1 < wa.heap.size := World.block_lt_of_cell? _ _ cwa_4_0
  have cwa_5_0 : wa.cell? ⟨W.heap.size + 1 + 1 + 1 + 1 + 1, 0, none⟩ = some (.int .i64 2) := cell_gr hwa (by go_simp)
  have cwa_5_1 : wa.cell? ⟨W.heap.size + 1 + 1 + 1 + 1 + 1, 1, none⟩ = some (.slice (some ⟨W.heap.size + 1 + 1 + 1 + 1, 0, none⟩) 1 1) := cell_gr hwa (by go_simp)
  have zwa_5 : W.heap.size + 1 + 1 + 1 + 1 + 1 < wa.heap.size := World.block_lt_of_cell? _ _ cwa_5_0
  have cwa_6_0 : wa.cell? ⟨W.heap.size + 1 + 1 + 1 + 1 + 1 + 1, 0, none⟩ = some (.int .i64 x) := cell_gr hwa (by go_simp)
  have cwa_6_1 : wa.cell? ⟨W.heap.size + 1 + 1 + 1 + 1 + 1 + 1, 1, none⟩ = some (.int .i64 0) := cell_gr hwa (by go_simp)
  have cwa_6_2 : wa.cell? ⟨W.heap.size + 1 + 1 + 1 + 1 + 1 + 1, 2, none⟩ = some (.int .i64 x) := cell_gr hwa (by go_simp)
  have cwa_6_3 : wa.cell? ⟨W.heap.size + 1 + 1 + 1 + 1 + 1 + 1, 3, none⟩ = some (.int .i64 0) := cell_gr hwa (by go_simp)
  have zwa_6 : W.heap.size + 1 + 1 + 1 + 1 + 1 + 1 < wa.heap.size := World.block_lt_of_cell? _ _ cwa_6_0
  have cwa_7_0 : wa.cell? ⟨W.heap.size + 1 + 1 + 1 + 1 + 1 + 1 + 1, 0, none⟩ = some (.int .i64 3) := cell_gr hwa (by go_simp)
  have cwa_7_1 : wa.cell? ⟨W.heap.size + 1 + 1 + 1 + 1 + 1 + 1 + 1, 1, none⟩ = some (.slice (some ⟨W.heap.size + 1 + 1 + 1 + 1 + 1 + 1, 0, none⟩) 2 2) := cell_gr hwa (by go_simp)
  have zwa_7 : W.heap.size + 1 + 1 + 1 + 1 + 1 + 1 + 1 < wa.heap.size := World.block_lt_of_cell? _ _ cwa_7_0
  have cwa_8_0 : wa.cell? ⟨w2.heap.size, 0, none⟩ = some (.int .u64 0) := cell_gr hwa (by go_simp)
  have cwa_8_1 : wa.cell? ⟨w2.heap.size, 1, none⟩ = some (.int .u64 0) := cell_gr hwa (by go_simp)
  have cwa_8_2 : wa.cell? ⟨w2.heap.size, 2, none⟩ = some (.int .u64 0) := cell_gr hwa (by go_simp)
  have zwa_8 : w2.heap.size < wa.heap.size := World.block_lt_of_cell? _ _ cwa_8_0
  have gwa : Gr W wa := Gr.trans (by have gg := gw9; have gs := gg.size; go_grown) hwa
  clear gw9 zw9_0 cw9_0_0 cw9_0_1 cw9_0_2 cw9_0_3 cw9_0_4 cw9_0_5 zw9_1 cw9_1_0 cw9_1_1 zw9_2 cw9_2_0 cw9_2_1 zw9_3 cw9_3_0 cw9_3_1 zw9_4 cw9_4_0 cw9_4_1 zw9_5 cw9_5_0 cw9_5_1 zw9_6 cw9_6_0 cw9_6_1 cw9_6_2 cw9_6_3 zw9_7 cw9_7_0 cw9_7_1 zw9_8 cw9_8_0 cw9_8_1 cw9_8_2
  clear hwa
  try simp only [Act.put, List.setIfInBounds_toArray, List.set_cons_zero, List.set_cons_succ]
  repeat (first | (refine Od.wpO_skip (by simp only [List.getElem?_toArray, List.getElem?_cons_succ, List.getElem?_cons_zero] <;> rfl) rfl ?_; simp only [Act.put, List.setIfInBounds_toArray, List.set_cons_zero, List.set_cons_succ]) | (refine Od.wpO_pure (by simp only [List.getElem?_toArray, List.getElem?_cons_succ, List.getElem?_cons_zero] <;> rfl) rfl ?_; apply Exists.intro; refine ⟨?_, ?_⟩; (· intro wx gx; obtain ⟨mx, rfl⟩ := spread_of_gr gx; clear gx; all_goals (apply Od.pAt_of_quiet; intro K hK; go_big_quiet_op; first | exact hK _ rfl | (apply Exists.intro; refine ⟨fun _ => ?_, ?_⟩; (· fail); exact hK _ rfl))); try simp only [Act.put, List.setIfInBounds_toArray, List.set_cons_zero, List.set_cons_succ]))
  refine Od.wpO_nil (hKQ _ _ ?_)
  clear hKQ KQ
  go_wp2_with fail
  go_ret
  exact ⟨rfl, gwa⟩
set_option maxHeartbeats 4000000 in
set_option maxRecDepth 100000 in
theorem walk_RelKinds (W : World) (x kq lx ly hx hy : Int) (u : Value) (px py : Int) (B0 : -9223372036854775808 ≤ x ∧ x ≤ 9223372036854775807) (hu : ∃ (n : Nat) (X Y : Nat → Int), Pts W u n X Y) (B2 : (-9223372036854775808 ≤ px ∧ px ≤ 9223372036854775807) ∧ (-9223372036854775808 ≤ py ∧ py ≤ 9223372036854775807)) (hE : ErrT W) :
    Calls Tryz.prog 3 #[.int .i64 x, qryV kq lx ly hx hy u, .agg #[.int .i64 px, .int .i64 py]] W fun e w' => e = .returned (.bool true) ∧ Gr W w' := by
  obtain ⟨m, P, Q, hu⟩ := hu
  have A1 : ∀ w k v, Gr W w → BL w k v x 0 x 0 → Calls Tryz.prog 5 #[.agg #[.int .i64 k, v], qryV kq lx ly hx hy u] w fun e w' => e = .returned (.bool (maV x 0 x 0 kq lx ly hx hy m P Q)) ∧ Gr w w' := fun w k v g h => c_MatchO kq lx ly hx hy w (errT_gr hE g) h (pts_gr hu g)
  have A2 : ∀ w k v, Gr W w → BL w k v x 0 x 0 → Calls Tryz.prog 6 #[.agg #[.int .i64 k, v], .agg #[.int .i64 px, .int .i64 py]] w fun e w' => e = .returned (diV (decide (boxN x 0 x 0 = 0) && nearB px py) (distZ x 0 x 0 px py)) ∧ Gr w w' := fun w k v g h => c_DistO px py w (errT_gr hE g) h
  have A3 : ∀ w k v, BL w k v x 0 x 0 → Calls Tryz.prog 7 #[.agg #[.int .i64 k, v]] w fun e w' => e = .returned (.int .i64 (boxN x 0 x 0 : Nat)) ∧ Gr w w' := fun w k v h => c_rCheckO w h
  have A4 := c_rPoint px py
  have A5 : ∀ w, Gr W w → Calls Tryz.prog 4 #[] w fun e w' => e = .returned (.bool true) ∧ Gr w w' := fun w g => p6_awake w (errT_gr hE g)
  generalize maV x 0 x 0 kq lx ly hx hy m P Q = q at A1
  generalize distZ x 0 x 0 px py = z at A2
  obtain ⟨bd, bcap, _, _, rfl, -⟩ := hu
  by_cases hm : m ≤ 64
  · generalize boxN x 0 x 0 = c at A2 A3
    by_cases hc : c = 0
    · subst hc
      cases hp : nearB px py
      · rw [hp] at A2 A4
        exact kinds_far x kq lx ly hx hy px py z bd m bcap 0 q W hm A1 A2 A3 A4 A5
      · rw [hp] at A2 A4
        exact kinds_ok x kq lx ly hx hy px py z bd m bcap 0 q W hm A1 A2 A3 A4 A5
    · rw [decide_eq_false hc] at A2
      generalize nearB px py = b at A4
      exact kinds_no x kq lx ly hx hy px py z bd m bcap c q b W hm hc A1 A2 A3 A4 A5
  · have t1 : decide ((64 : Int) < (m : Int)) = true := decide_eq_true (by omega)
    have t2 : decide (64 < m) = true := decide_eq_true (by omega)
    have H5 := Lib.hid A5
    clear A5
    clear A1 A2 A3 A4 hE hm
    go_enter Tryz.func3, Tryz.ntmps3
    go_wp2_with fail
    go_at_call 4
    refine ((H5.out _ (by go_grown))).mono ?_
    rintro e w1 ⟨rfl, hw1⟩
    have gw1 : Gr W w1 := Gr.trans (by go_grown) hw1
    clear hw1
    go_wp2_with fail
    go_ret
    exact ⟨rfl, gw1⟩
end Go.Proofs.YtagbodamehejmaaGreatDoor
