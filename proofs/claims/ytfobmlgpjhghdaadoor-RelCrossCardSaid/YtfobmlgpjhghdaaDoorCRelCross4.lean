/- What RelCross leans on: Im Qs -/
import Derived.Test.YtfobmlgpjhghdaaDoorCRelCross3
import Derived.Test.YtfobmlgpjhghdaaDoorRows
import Derived.JoinedCond
import Derived.ProofKit
namespace Go.Proofs.YtfobmlgpjhghdaaDoor
set_option linter.unusedVariables false
set_option linter.unusedSimpArgs false
open Go.ChangeShapes Go.WideShapes Go.ChangeAt Go.RowKit
set_option maxHeartbeats 8000000 in
set_option maxRecDepth 100000 in
theorem cross_1 {m cap bcap c9 B off : Nat} {bd : Option Addr} {x y : Int} (z : Bool) (W : World) (hm : m ≤ 64) (p0 : W.cell? ⟨B, off, none⟩ = some (.int .i64 x)) (p1 : W.cell? ⟨B, off + 1, none⟩ = some (.int .i64 y))
    (A1 : ∀ w, Gr W w → Calls Tryd.prog 5 #[.agg #[.int .i64 1, .slice (some ⟨B, off, none⟩) 1 cap]] w fun e w' => e = .returned (.bool true) ∧ Gr w w')
    (A2 : ∀ w, Gr W w → Calls Tryd.prog 15 #[.slice bd m bcap] w fun e w' => e = .returned (.tuple #[.int .i64 0, .int .i64 (c9 : Nat)]) ∧ Gr w w')
    (A3 : ∀ w, Gr W w → Calls Tryd.prog 10 #[.agg #[.int .i64 1, .slice (some ⟨B, off, none⟩) 1 cap], qryV 4 0 0 0 0 (.slice bd m bcap)] w fun e w' => e = .returned (.bool z) ∧ Gr w w')
    (A4 : ∀ w, Gr W w → Calls Tryd.prog 16 #[.agg #[.int .i64 1, .slice (some ⟨B, off, none⟩) 1 cap], .agg #[.int .i64 4, .slice bd m bcap]] w fun e w' => e = .returned (.bool z) ∧ Gr w w')
    (A5 : ∀ w, Gr W w → Calls Tryd.prog 10 #[.agg #[.int .i64 4, .slice bd m bcap], qryV 4 0 0 0 0 (.slice bd m bcap)] w fun e w' => e = .returned (.bool true) ∧ Gr w w')
    (A6 : ∀ w, Gr W w → Calls Tryd.prog 10 #[.agg #[.int .i64 4, .slice bd m bcap], qryV 3 x y 0 0 (.slice none 0 0)] w fun e w' => e = .returned (.bool z) ∧ Gr w w')
    (A7 : ∀ w, Gr W w → Calls Tryd.prog 7 #[] w fun e w' => e = .returned (.bool true) ∧ Gr w w') :
    Calls Tryd.prog 4 #[.slice bd m bcap, .agg #[.int .i64 1, .slice (some ⟨B, off, none⟩) 1 cap]] W fun e w' => e = .returned (.bool true) ∧ Gr W w' := by
  have t1 : (z == z) = true := by simp
  have t2 : decide (z = z) = true := by simp
  have t3 : decide ((64 : Int) < (m : Int)) = false := decide_eq_false (by omega)
  have t4 : decide (64 < m) = false := decide_eq_false (by omega)
  have zB : B < W.heap.size := World.block_lt_of_cell? _ _ p0
  have nB : ¬ B = W.heap.size := by omega
  have H1 := Lib.hid A1
  have H2 := Lib.hid A2
  have H3 := Lib.hid A3
  have H4 := Lib.hid A4
  have H5 := Lib.hid A5
  have H6 := Lib.hid A6
  have H7 := Lib.hid A7
  clear A1 A2 A3 A4 A5 A6 A7
  clear hm
  go_enter Tryd.func4, Tryd.ntmps4
  go_wp2_with fail
  go_at_call 5
  refine ((H1.out _ (by go_grown))).mono ?_
  rintro e w1 ⟨rfl, hw1⟩
  have cw1_0_0 : w1.cell? ⟨W.heap.size, 0, none⟩ = some (.int .i64 1) := cell_gr hw1 (by go_simp)
  have cw1_0_1 : w1.cell? ⟨W.heap.size, 1, none⟩ = some (.slice (some ⟨B, off, none⟩) 1 cap) := cell_gr hw1 (by go_simp)
  have zw1_0 : W.heap.size < w1.heap.size := World.block_lt_of_cell? _ _ cw1_0_0
  have cw1_1_0 : w1.cell? ⟨B, off, none⟩ = some (.int .i64 x) := cell_gr hw1 (by go_simp)
  have cw1_1_1 : w1.cell? ⟨B, off + 1, none⟩ = some (.int .i64 y) := cell_gr hw1 (by go_simp)
  have zw1_1 : B < w1.heap.size := World.block_lt_of_cell? _ _ cw1_1_0
  have gw1 : Gr W w1 := Gr.trans (by go_grown) hw1
  clear hw1
  go_wp2_with fail
  go_at_call 15
  refine ((H2.out _ gw1)).mono ?_
  rintro e w2 ⟨rfl, hw2⟩
  have cw2_0_0 : w2.cell? ⟨W.heap.size, 0, none⟩ = some (.int .i64 1) := cell_gr hw2 (by go_simp)
  have cw2_0_1 : w2.cell? ⟨W.heap.size, 1, none⟩ = some (.slice (some ⟨B, off, none⟩) 1 cap) := cell_gr hw2 (by go_simp)
  have zw2_0 : W.heap.size < w2.heap.size := World.block_lt_of_cell? _ _ cw2_0_0
  have cw2_1_0 : w2.cell? ⟨B, off, none⟩ = some (.int .i64 x) := cell_gr hw2 (by go_simp)
  have cw2_1_1 : w2.cell? ⟨B, off + 1, none⟩ = some (.int .i64 y) := cell_gr hw2 (by go_simp)
  have zw2_1 : B < w2.heap.size := World.block_lt_of_cell? _ _ cw2_1_0
  have gw2 : Gr W w2 := Gr.trans (by have gg := gw1; have gs := gg.size; go_grown) hw2
  clear hw2 gw1 zw1_0 cw1_0_0 cw1_0_1 zw1_1 cw1_1_0 cw1_1_1
  go_wp2_with fail
  generalize hhw3 : (w2.alloc (.cells #[.int .i64 4, .slice bd m bcap] 24)) = w3
  have cw3_0_0 : w3.cell? ⟨W.heap.size, 0, none⟩ = some (.int .i64 1) := by subst hhw3; go_simp
  have cw3_0_1 : w3.cell? ⟨W.heap.size, 1, none⟩ = some (.slice (some ⟨B, off, none⟩) 1 cap) := by subst hhw3; go_simp
  have zw3_0 : W.heap.size < w3.heap.size := World.block_lt_of_cell? _ _ cw3_0_0
  have cw3_1_0 : w3.cell? ⟨B, off, none⟩ = some (.int .i64 x) := by subst hhw3; go_simp
  have cw3_1_1 : w3.cell? ⟨B, off + 1, none⟩ = some (.int .i64 y) := by subst hhw3; go_simp
  have zw3_1 : B < w3.heap.size := World.block_lt_of_cell? _ _ cw3_1_0
  have cw3_2_0 : w3.cell? ⟨w2.heap.size, 0, none⟩ = some (.int .i64 4) := by subst hhw3; go_simp
  have cw3_2_1 : w3.cell? ⟨w2.heap.size, 1, none⟩ = some (.slice bd m bcap) := by subst hhw3; go_simp
  have zw3_2 : w2.heap.size < w3.heap.size := World.block_lt_of_cell? _ _ cw3_2_0
  have gw3 : Gr W w3 := by subst hhw3; have gg := gw2; have gs := gg.size; go_grown
  clear hhw3 gw2 zw2_0 cw2_0_0 cw2_0_1 zw2_1 cw2_1_0 cw2_1_1
  go_wp2_with fail
  go_at_call 10
  refine ((H3.out _ gw3)).mono ?_
  rintro e w4 ⟨rfl, hw4⟩
  have cw4_0_0 : w4.cell? ⟨W.heap.size, 0, none⟩ = some (.int .i64 1) := cell_gr hw4 (by go_simp)
  have cw4_0_1 : w4.cell? ⟨W.heap.size, 1, none⟩ = some (.slice (some ⟨B, off, none⟩) 1 cap) := cell_gr hw4 (by go_simp)
  have zw4_0 : W.heap.size < w4.heap.size := World.block_lt_of_cell? _ _ cw4_0_0
  have cw4_1_0 : w4.cell? ⟨B, off, none⟩ = some (.int .i64 x) := cell_gr hw4 (by go_simp)
  have cw4_1_1 : w4.cell? ⟨B, off + 1, none⟩ = some (.int .i64 y) := cell_gr hw4 (by go_simp)
  have zw4_1 : B < w4.heap.size := World.block_lt_of_cell? _ _ cw4_1_0
  have cw4_2_0 : w4.cell? ⟨w2.heap.size, 0, none⟩ = some (.int .i64 4) := cell_gr hw4 (by go_simp)
  have cw4_2_1 : w4.cell? ⟨w2.heap.size, 1, none⟩ = some (.slice bd m bcap) := cell_gr hw4 (by go_simp)
  have zw4_2 : w2.heap.size < w4.heap.size := World.block_lt_of_cell? _ _ cw4_2_0
  have gw4 : Gr W w4 := Gr.trans (by have gg := gw3; have gs := gg.size; go_grown) hw4
  clear hw4 gw3 zw3_0 cw3_0_0 cw3_0_1 zw3_1 cw3_1_0 cw3_1_1 zw3_2 cw3_2_0 cw3_2_1
  go_wp2_with fail
  try simp only [List.append]
  refine Od.wp_region_ord [(0, false), (1, false), (2, false), (3, true), (4, false), (5, false), (6, false), (7, false), (8, false), (9, true), (10, false), (11, false), (12, false), (13, false), (14, false), (15, false), (16, false), (17, false), (18, false), (19, false), (20, false), (21, true), (22, false), (23, false), (24, false), (25, false), (26, false), (27, false), (28, false), (29, false), (30, false), (31, false), (32, false), (33, false), (34, false), (35, false), (36, false), (37, false), (38, true), (39, false), (40, false), (41, false), (42, false), (43, false), (44, false), (45, false), (46, false), (47, false), (48, false), (49, false), (50, false), (51, false), (52, false), (53, false), (54, false), (55, false), (56, false), (57, false), (58, false), (59, true), (60, false), (61, false), (62, false), (63, false), (64, true), (65, false), (66, false)] (by kernel_rfl) (by kernel_rfl) ?_
  intro w5 hw5 KQ hKQ
  have cw5_0_0 : w5.cell? ⟨W.heap.size, 0, none⟩ = some (.int .i64 1) := cell_gr hw5 (by go_simp)
  have cw5_0_1 : w5.cell? ⟨W.heap.size, 1, none⟩ = some (.slice (some ⟨B, off, none⟩) 1 cap) := cell_gr hw5 (by go_simp)
  have zw5_0 : W.heap.size < w5.heap.size := World.block_lt_of_cell? _ _ cw5_0_0
  have cw5_1_0 : w5.cell? ⟨B, off, none⟩ = some (.int .i64 x) := cell_gr hw5 (by go_simp)
  have cw5_1_1 : w5.cell? ⟨B, off + 1, none⟩ = some (.int .i64 y) := cell_gr hw5 (by go_simp)
  have zw5_1 : B < w5.heap.size := World.block_lt_of_cell? _ _ cw5_1_0
  have cw5_2_0 : w5.cell? ⟨w2.heap.size, 0, none⟩ = some (.int .i64 4) := cell_gr hw5 (by go_simp)
  have cw5_2_1 : w5.cell? ⟨w2.heap.size, 1, none⟩ = some (.slice bd m bcap) := cell_gr hw5 (by go_simp)
  have zw5_2 : w2.heap.size < w5.heap.size := World.block_lt_of_cell? _ _ cw5_2_0
  have gw5 : Gr W w5 := Gr.trans (by have gg := gw4; have gs := gg.size; go_grown) hw5
  clear gw4 zw4_0 cw4_0_0 cw4_0_1 zw4_1 cw4_1_0 cw4_1_1 zw4_2 cw4_2_0 cw4_2_1
  clear hw5
  repeat (first | (refine Od.wpO_skip (by simp only [List.getElem?_toArray, List.getElem?_cons_succ, List.getElem?_cons_zero] <;> rfl) rfl ?_; simp only [Act.put, List.setIfInBounds_toArray, List.set_cons_zero, List.set_cons_succ]) | (refine Od.wpO_pure (by simp only [List.getElem?_toArray, List.getElem?_cons_succ, List.getElem?_cons_zero] <;> rfl) rfl ?_; apply Exists.intro; refine ⟨?_, ?_⟩; (· intro wx gx; obtain ⟨mx, rfl⟩ := spread_of_gr gx; clear gx; all_goals (apply Od.pAt_of_quiet; intro K hK; go_big_quiet_op; first | exact hK _ rfl | (apply Exists.intro; refine ⟨fun _ => ?_, ?_⟩; (· fail); exact hK _ rfl))); try simp only [Act.put, List.setIfInBounds_toArray, List.set_cons_zero, List.set_cons_succ]))
  refine Od.wpO_call (by simp only [List.getElem?_toArray, List.getElem?_cons_succ, List.getElem?_cons_zero] <;> rfl) rfl ?_
  intro QS hQS
  go_wp2_with fail
  go_at_call 16
  (with_reducible refine ((H4.out _ gw5)).mono ?_)
  rintro e w6 ⟨rfl, hw6⟩
  go_wp2_with fail
  apply Exists.intro
  refine ⟨?_, hw6, ?_⟩
  · simp only [Act.put, List.setIfInBounds_toArray, List.set_cons_zero, List.set_cons_succ]; rfl
  have cw6_0_0 : w6.cell? ⟨W.heap.size, 0, none⟩ = some (.int .i64 1) := cell_gr hw6 (by go_simp)
  have cw6_0_1 : w6.cell? ⟨W.heap.size, 1, none⟩ = some (.slice (some ⟨B, off, none⟩) 1 cap) := cell_gr hw6 (by go_simp)
  have zw6_0 : W.heap.size < w6.heap.size := World.block_lt_of_cell? _ _ cw6_0_0
  have cw6_1_0 : w6.cell? ⟨B, off, none⟩ = some (.int .i64 x) := cell_gr hw6 (by go_simp)
  have cw6_1_1 : w6.cell? ⟨B, off + 1, none⟩ = some (.int .i64 y) := cell_gr hw6 (by go_simp)
  have zw6_1 : B < w6.heap.size := World.block_lt_of_cell? _ _ cw6_1_0
  have cw6_2_0 : w6.cell? ⟨w2.heap.size, 0, none⟩ = some (.int .i64 4) := cell_gr hw6 (by go_simp)
  have cw6_2_1 : w6.cell? ⟨w2.heap.size, 1, none⟩ = some (.slice bd m bcap) := cell_gr hw6 (by go_simp)
  have zw6_2 : w2.heap.size < w6.heap.size := World.block_lt_of_cell? _ _ cw6_2_0
  have gw6 : Gr W w6 := Gr.trans (by have gg := gw5; have gs := gg.size; go_grown) hw6
  clear gw5 zw5_0 cw5_0_0 cw5_0_1 zw5_1 cw5_1_0 cw5_1_1 zw5_2 cw5_2_0 cw5_2_1
  clear hw6
  try simp only [Act.put, List.setIfInBounds_toArray, List.set_cons_zero, List.set_cons_succ]
  repeat (first | (refine Od.wpO_skip (by simp only [List.getElem?_toArray, List.getElem?_cons_succ, List.getElem?_cons_zero] <;> rfl) rfl ?_; simp only [Act.put, List.setIfInBounds_toArray, List.set_cons_zero, List.set_cons_succ]) | (refine Od.wpO_pure (by simp only [List.getElem?_toArray, List.getElem?_cons_succ, List.getElem?_cons_zero] <;> rfl) rfl ?_; apply Exists.intro; refine ⟨?_, ?_⟩; (· intro wx gx; obtain ⟨mx, rfl⟩ := spread_of_gr gx; clear gx; all_goals (apply Od.pAt_of_quiet; intro K hK; go_big_quiet_op; first | exact hK _ rfl | (apply Exists.intro; refine ⟨fun _ => ?_, ?_⟩; (· fail); exact hK _ rfl))); try simp only [Act.put, List.setIfInBounds_toArray, List.set_cons_zero, List.set_cons_succ]))
  refine Od.wpO_call (by simp only [List.getElem?_toArray, List.getElem?_cons_succ, List.getElem?_cons_zero] <;> rfl) rfl ?_
  intro QS hQS
  go_wp2_with fail
  go_at_call 10
  (with_reducible refine ((H5.out _ gw6)).mono ?_)
  rintro e w7 ⟨rfl, hw7⟩
  go_wp2_with fail
  apply Exists.intro
  refine ⟨?_, hw7, ?_⟩
  · simp only [Act.put, List.setIfInBounds_toArray, List.set_cons_zero, List.set_cons_succ]; rfl
  have cw7_0_0 : w7.cell? ⟨W.heap.size, 0, none⟩ = some (.int .i64 1) := cell_gr hw7 (by go_simp)
  have cw7_0_1 : w7.cell? ⟨W.heap.size, 1, none⟩ = some (.slice (some ⟨B, off, none⟩) 1 cap) := cell_gr hw7 (by go_simp)
  have zw7_0 : W.heap.size < w7.heap.size := World.block_lt_of_cell? _ _ cw7_0_0
  have cw7_1_0 : w7.cell? ⟨B, off, none⟩ = some (.int .i64 x) := cell_gr hw7 (by go_simp)
  have cw7_1_1 : w7.cell? ⟨B, off + 1, none⟩ = some (.int .i64 y) := cell_gr hw7 (by go_simp)
  have zw7_1 : B < w7.heap.size := World.block_lt_of_cell? _ _ cw7_1_0
  have cw7_2_0 : w7.cell? ⟨w2.heap.size, 0, none⟩ = some (.int .i64 4) := cell_gr hw7 (by go_simp)
  have cw7_2_1 : w7.cell? ⟨w2.heap.size, 1, none⟩ = some (.slice bd m bcap) := cell_gr hw7 (by go_simp)
  have zw7_2 : w2.heap.size < w7.heap.size := World.block_lt_of_cell? _ _ cw7_2_0
  have gw7 : Gr W w7 := Gr.trans (by have gg := gw6; have gs := gg.size; go_grown) hw7
  clear gw6 zw6_0 cw6_0_0 cw6_0_1 zw6_1 cw6_1_0 cw6_1_1 zw6_2 cw6_2_0 cw6_2_1
  clear hw7
  try simp only [Act.put, List.setIfInBounds_toArray, List.set_cons_zero, List.set_cons_succ]
  repeat (first | (refine Od.wpO_skip (by simp only [List.getElem?_toArray, List.getElem?_cons_succ, List.getElem?_cons_zero] <;> rfl) rfl ?_; simp only [Act.put, List.setIfInBounds_toArray, List.set_cons_zero, List.set_cons_succ]) | (refine Od.wpO_pure (by simp only [List.getElem?_toArray, List.getElem?_cons_succ, List.getElem?_cons_zero] <;> rfl) rfl ?_; apply Exists.intro; refine ⟨?_, ?_⟩; (· intro wx gx; obtain ⟨mx, rfl⟩ := spread_of_gr gx; clear gx; all_goals (apply Od.pAt_of_quiet; intro K hK; go_big_quiet_op; first | exact hK _ rfl | (apply Exists.intro; refine ⟨fun _ => ?_, ?_⟩; (· fail); exact hK _ rfl))); try simp only [Act.put, List.setIfInBounds_toArray, List.set_cons_zero, List.set_cons_succ]))
  refine Od.wpO_call (by simp only [List.getElem?_toArray, List.getElem?_cons_succ, List.getElem?_cons_zero] <;> rfl) rfl ?_
  intro QS hQS
  go_wp2_with fail
  go_at_call 10
  (with_reducible refine ((H6.out _ gw7)).mono ?_)
  rintro e w8 ⟨rfl, hw8⟩
  go_wp2_with fail
  apply Exists.intro
  refine ⟨?_, hw8, ?_⟩
  · simp only [Act.put, List.setIfInBounds_toArray, List.set_cons_zero, List.set_cons_succ]; rfl
  have cw8_0_0 : w8.cell? ⟨W.heap.size, 0, none⟩ = some (.int .i64 1) := cell_gr hw8 (by go_simp)
  have cw8_0_1 : w8.cell? ⟨W.heap.size, 1, none⟩ = some (.slice (some ⟨B, off, none⟩) 1 cap) := cell_gr hw8 (by go_simp)
  have zw8_0 : W.heap.size < w8.heap.size := World.block_lt_of_cell? _ _ cw8_0_0
  have cw8_1_0 : w8.cell? ⟨B, off, none⟩ = some (.int .i64 x) := cell_gr hw8 (by go_simp)
  have cw8_1_1 : w8.cell? ⟨B, off + 1, none⟩ = some (.int .i64 y) := cell_gr hw8 (by go_simp)
  have zw8_1 : B < w8.heap.size := World.block_lt_of_cell? _ _ cw8_1_0
  have cw8_2_0 : w8.cell? ⟨w2.heap.size, 0, none⟩ = some (.int .i64 4) := cell_gr hw8 (by go_simp)
  have cw8_2_1 : w8.cell? ⟨w2.heap.size, 1, none⟩ = some (.slice bd m bcap) := cell_gr hw8 (by go_simp)
  have zw8_2 : w2.heap.size < w8.heap.size := World.block_lt_of_cell? _ _ cw8_2_0
  have gw8 : Gr W w8 := Gr.trans (by have gg := gw7; have gs := gg.size; go_grown) hw8
  clear gw7 zw7_0 cw7_0_0 cw7_0_1 zw7_1 cw7_1_0 cw7_1_1 zw7_2 cw7_2_0 cw7_2_1
  clear hw8
  try simp only [Act.put, List.setIfInBounds_toArray, List.set_cons_zero, List.set_cons_succ]
  repeat (first | (refine Od.wpO_skip (by simp only [List.getElem?_toArray, List.getElem?_cons_succ, List.getElem?_cons_zero] <;> rfl) rfl ?_; simp only [Act.put, List.setIfInBounds_toArray, List.set_cons_zero, List.set_cons_succ]) | (refine Od.wpO_pure (by simp only [List.getElem?_toArray, List.getElem?_cons_succ, List.getElem?_cons_zero] <;> rfl) rfl ?_; apply Exists.intro; refine ⟨?_, ?_⟩; (· intro wx gx; obtain ⟨mx, rfl⟩ := spread_of_gr gx; clear gx; all_goals (apply Od.pAt_of_quiet; intro K hK; go_big_quiet_op; first | exact hK _ rfl | (apply Exists.intro; refine ⟨fun _ => ?_, ?_⟩; (· fail); exact hK _ rfl))); try simp only [Act.put, List.setIfInBounds_toArray, List.set_cons_zero, List.set_cons_succ]))
  refine Od.wpO_call (by simp only [List.getElem?_toArray, List.getElem?_cons_succ, List.getElem?_cons_zero] <;> rfl) rfl ?_
  intro QS hQS
  go_wp2_with fail
  go_at_call 7
  (with_reducible refine ((H7.out _ gw8)).mono ?_)
  rintro e w9 ⟨rfl, hw9⟩
  go_wp2_with fail
  apply Exists.intro
  refine ⟨?_, hw9, ?_⟩
  · simp only [Act.put, List.setIfInBounds_toArray, List.set_cons_zero, List.set_cons_succ]; rfl
  have cw9_0_0 : w9.cell? ⟨W.heap.size, 0, none⟩ = some (.int .i64 1) := cell_gr hw9 (by go_simp)
  have cw9_0_1 : w9.cell? ⟨W.heap.size, 1, none⟩ = some (.slice (some ⟨B, off, none⟩) 1 cap) := cell_gr hw9 (by go_simp)
  have zw9_0 : W.heap.size < w9.heap.size := World.block_lt_of_cell? _ _ cw9_0_0
  have cw9_1_0 : w9.cell? ⟨B, off, none⟩ = some (.int .i64 x) := cell_gr hw9 (by go_simp)
  have cw9_1_1 : w9.cell? ⟨B, off + 1, none⟩ = some (.int .i64 y) := cell_gr hw9 (by go_simp)
  have zw9_1 : B < w9.heap.size := World.block_lt_of_cell? _ _ cw9_1_0
  have cw9_2_0 : w9.cell? ⟨w2.heap.size, 0, none⟩ = some (.int .i64 4) := cell_gr hw9 (by go_simp)
  have cw9_2_1 : w9.cell? ⟨w2.heap.size, 1, none⟩ = some (.slice bd m bcap) := cell_gr hw9 (by go_simp)
  have zw9_2 : w2.heap.size < w9.heap.size := World.block_lt_of_cell? _ _ cw9_2_0
  have gw9 : Gr W w9 := Gr.trans (by have gg := gw8; have gs := gg.size; go_grown) hw9
  clear gw8 zw8_0 cw8_0_0 cw8_0_1 zw8_1 cw8_1_0 cw8_1_1 zw8_2 cw8_2_0 cw8_2_1
  clear hw9
  try simp only [Act.put, List.setIfInBounds_toArray, List.set_cons_zero, List.set_cons_succ]
  repeat (first | (refine Od.wpO_skip (by simp only [List.getElem?_toArray, List.getElem?_cons_succ, List.getElem?_cons_zero] <;> rfl) rfl ?_; simp only [Act.put, List.setIfInBounds_toArray, List.set_cons_zero, List.set_cons_succ]) | (refine Od.wpO_pure (by simp only [List.getElem?_toArray, List.getElem?_cons_succ, List.getElem?_cons_zero] <;> rfl) rfl ?_; apply Exists.intro; refine ⟨?_, ?_⟩; (· intro wx gx; obtain ⟨mx, rfl⟩ := spread_of_gr gx; clear gx; all_goals (apply Od.pAt_of_quiet; intro K hK; go_big_quiet_op; first | exact hK _ rfl | (apply Exists.intro; refine ⟨fun _ => ?_, ?_⟩; (· fail); exact hK _ rfl))); try simp only [Act.put, List.setIfInBounds_toArray, List.set_cons_zero, List.set_cons_succ]))
  refine Od.wpO_nil (hKQ _ _ ?_)
  clear hKQ KQ
  go_wp2_with fail
  go_ret
  exact ⟨rfl, gw9⟩
set_option maxHeartbeats 8000000 in
set_option maxRecDepth 100000 in
theorem cross_2 {m cap bcap c9 : Nat} {ad bd : Option Addr} (z : Bool) (W : World) (hm : m ≤ 64)
    (A1 : ∀ w, Gr W w → Calls Tryd.prog 5 #[.agg #[.int .i64 2, .slice ad 1 cap]] w fun e w' => e = .returned (.bool true) ∧ Gr w w')
    (A2 : ∀ w, Gr W w → Calls Tryd.prog 15 #[.slice bd m bcap] w fun e w' => e = .returned (.tuple #[.int .i64 0, .int .i64 (c9 : Nat)]) ∧ Gr w w')
    (A3 : ∀ w, Gr W w → Calls Tryd.prog 10 #[.agg #[.int .i64 2, .slice ad 1 cap], qryV 4 0 0 0 0 (.slice bd m bcap)] w fun e w' => e = .returned (.bool z) ∧ Gr w w')
    (A4 : ∀ w, Gr W w → Calls Tryd.prog 16 #[.agg #[.int .i64 2, .slice ad 1 cap], .agg #[.int .i64 4, .slice bd m bcap]] w fun e w' => e = .returned (.bool z) ∧ Gr w w')
    (A5 : ∀ w, Gr W w → Calls Tryd.prog 10 #[.agg #[.int .i64 4, .slice bd m bcap], qryV 4 0 0 0 0 (.slice bd m bcap)] w fun e w' => e = .returned (.bool true) ∧ Gr w w')
    (A7 : ∀ w, Gr W w → Calls Tryd.prog 7 #[] w fun e w' => e = .returned (.bool true) ∧ Gr w w') :
    Calls Tryd.prog 4 #[.slice bd m bcap, .agg #[.int .i64 2, .slice ad 1 cap]] W fun e w' => e = .returned (.bool true) ∧ Gr W w' := by
  have t1 : (z == z) = true := by simp
  have t2 : decide (z = z) = true := by simp
  have t3 : decide ((64 : Int) < (m : Int)) = false := decide_eq_false (by omega)
  have t4 : decide (64 < m) = false := decide_eq_false (by omega)
  have H1 := Lib.hid A1
  have H2 := Lib.hid A2
  have H3 := Lib.hid A3
  have H4 := Lib.hid A4
  have H5 := Lib.hid A5
  have H7 := Lib.hid A7
  clear A1 A2 A3 A4 A5 A7
  clear hm
  go_enter Tryd.func4, Tryd.ntmps4
  go_wp2_with fail
  go_at_call 5
  refine ((H1.out _ (by go_grown))).mono ?_
  rintro e w1 ⟨rfl, hw1⟩
  have cw1_0_0 : w1.cell? ⟨W.heap.size, 0, none⟩ = some (.int .i64 2) := cell_gr hw1 (by go_simp)
  have cw1_0_1 : w1.cell? ⟨W.heap.size, 1, none⟩ = some (.slice ad 1 cap) := cell_gr hw1 (by go_simp)
  have zw1_0 : W.heap.size < w1.heap.size := World.block_lt_of_cell? _ _ cw1_0_0
  have gw1 : Gr W w1 := Gr.trans (by go_grown) hw1
  clear hw1
  go_wp2_with fail
  go_at_call 15
  refine ((H2.out _ gw1)).mono ?_
  rintro e w2 ⟨rfl, hw2⟩
  have cw2_0_0 : w2.cell? ⟨W.heap.size, 0, none⟩ = some (.int .i64 2) := cell_gr hw2 (by go_simp)
  have cw2_0_1 : w2.cell? ⟨W.heap.size, 1, none⟩ = some (.slice ad 1 cap) := cell_gr hw2 (by go_simp)
  have zw2_0 : W.heap.size < w2.heap.size := World.block_lt_of_cell? _ _ cw2_0_0
  have gw2 : Gr W w2 := Gr.trans (by have gg := gw1; have gs := gg.size; go_grown) hw2
  clear hw2 gw1 zw1_0 cw1_0_0 cw1_0_1
  go_wp2_with fail
  generalize hhw3 : (w2.alloc (.cells #[.int .i64 4, .slice bd m bcap] 24)) = w3
  have cw3_0_0 : w3.cell? ⟨W.heap.size, 0, none⟩ = some (.int .i64 2) := by subst hhw3; go_simp
  have cw3_0_1 : w3.cell? ⟨W.heap.size, 1, none⟩ = some (.slice ad 1 cap) := by subst hhw3; go_simp
  have zw3_0 : W.heap.size < w3.heap.size := World.block_lt_of_cell? _ _ cw3_0_0
  have cw3_1_0 : w3.cell? ⟨w2.heap.size, 0, none⟩ = some (.int .i64 4) := by subst hhw3; go_simp
  have cw3_1_1 : w3.cell? ⟨w2.heap.size, 1, none⟩ = some (.slice bd m bcap) := by subst hhw3; go_simp
  have zw3_1 : w2.heap.size < w3.heap.size := World.block_lt_of_cell? _ _ cw3_1_0
  have gw3 : Gr W w3 := by subst hhw3; have gg := gw2; have gs := gg.size; go_grown
  clear hhw3 gw2 zw2_0 cw2_0_0 cw2_0_1
  go_wp2_with fail
  go_at_call 10
  refine ((H3.out _ gw3)).mono ?_
  rintro e w4 ⟨rfl, hw4⟩
  have cw4_0_0 : w4.cell? ⟨W.heap.size, 0, none⟩ = some (.int .i64 2) := cell_gr hw4 (by go_simp)
  have cw4_0_1 : w4.cell? ⟨W.heap.size, 1, none⟩ = some (.slice ad 1 cap) := cell_gr hw4 (by go_simp)
  have zw4_0 : W.heap.size < w4.heap.size := World.block_lt_of_cell? _ _ cw4_0_0
  have cw4_1_0 : w4.cell? ⟨w2.heap.size, 0, none⟩ = some (.int .i64 4) := cell_gr hw4 (by go_simp)
  have cw4_1_1 : w4.cell? ⟨w2.heap.size, 1, none⟩ = some (.slice bd m bcap) := cell_gr hw4 (by go_simp)
  have zw4_1 : w2.heap.size < w4.heap.size := World.block_lt_of_cell? _ _ cw4_1_0
  have gw4 : Gr W w4 := Gr.trans (by have gg := gw3; have gs := gg.size; go_grown) hw4
  clear hw4 gw3 zw3_0 cw3_0_0 cw3_0_1 zw3_1 cw3_1_0 cw3_1_1
  go_wp2_with fail
  try simp only [List.append]
  refine Od.wp_region_ord [(0, false), (1, false), (2, false), (3, true), (4, false), (5, false), (6, false), (7, false), (8, false), (9, true), (10, false), (11, false), (12, false), (13, false), (14, false), (15, false), (16, false), (17, false), (18, false), (19, false), (20, false), (21, true), (22, false), (23, false), (24, false), (25, false), (26, false), (27, false), (28, false), (29, false), (30, false), (31, false), (32, false), (33, false), (34, false), (35, false), (36, false), (37, false), (38, true), (39, false), (40, false), (41, false), (42, false), (43, false), (44, false), (45, false), (46, false), (47, false), (48, false), (49, false), (50, false), (51, false), (52, false), (53, false), (54, false), (55, false), (56, false), (57, false), (58, false), (59, true), (60, false), (61, false), (62, false), (63, false), (64, true), (65, false), (66, false)] (by kernel_rfl) (by kernel_rfl) ?_
  intro w5 hw5 KQ hKQ
  have cw5_0_0 : w5.cell? ⟨W.heap.size, 0, none⟩ = some (.int .i64 2) := cell_gr hw5 (by go_simp)
  have cw5_0_1 : w5.cell? ⟨W.heap.size, 1, none⟩ = some (.slice ad 1 cap) := cell_gr hw5 (by go_simp)
  have zw5_0 : W.heap.size < w5.heap.size := World.block_lt_of_cell? _ _ cw5_0_0
  have cw5_1_0 : w5.cell? ⟨w2.heap.size, 0, none⟩ = some (.int .i64 4) := cell_gr hw5 (by go_simp)
  have cw5_1_1 : w5.cell? ⟨w2.heap.size, 1, none⟩ = some (.slice bd m bcap) := cell_gr hw5 (by go_simp)
  have zw5_1 : w2.heap.size < w5.heap.size := World.block_lt_of_cell? _ _ cw5_1_0
  have gw5 : Gr W w5 := Gr.trans (by have gg := gw4; have gs := gg.size; go_grown) hw5
  clear gw4 zw4_0 cw4_0_0 cw4_0_1 zw4_1 cw4_1_0 cw4_1_1
  clear hw5
  repeat (first | (refine Od.wpO_skip (by simp only [List.getElem?_toArray, List.getElem?_cons_succ, List.getElem?_cons_zero] <;> rfl) rfl ?_; simp only [Act.put, List.setIfInBounds_toArray, List.set_cons_zero, List.set_cons_succ]) | (refine Od.wpO_pure (by simp only [List.getElem?_toArray, List.getElem?_cons_succ, List.getElem?_cons_zero] <;> rfl) rfl ?_; apply Exists.intro; refine ⟨?_, ?_⟩; (· intro wx gx; obtain ⟨mx, rfl⟩ := spread_of_gr gx; clear gx; all_goals (apply Od.pAt_of_quiet; intro K hK; go_big_quiet_op; first | exact hK _ rfl | (apply Exists.intro; refine ⟨fun _ => ?_, ?_⟩; (· fail); exact hK _ rfl))); try simp only [Act.put, List.setIfInBounds_toArray, List.set_cons_zero, List.set_cons_succ]))
  refine Od.wpO_call (by simp only [List.getElem?_toArray, List.getElem?_cons_succ, List.getElem?_cons_zero] <;> rfl) rfl ?_
  intro QS hQS
  go_wp2_with fail
  go_at_call 16
  (with_reducible refine ((H4.out _ gw5)).mono ?_)
  rintro e w6 ⟨rfl, hw6⟩
  go_wp2_with fail
  apply Exists.intro
  refine ⟨?_, hw6, ?_⟩
  · simp only [Act.put, List.setIfInBounds_toArray, List.set_cons_zero, List.set_cons_succ]; rfl
  have cw6_0_0 : w6.cell? ⟨W.heap.size, 0, none⟩ = some (.int .i64 2) := cell_gr hw6 (by go_simp)
  have cw6_0_1 : w6.cell? ⟨W.heap.size, 1, none⟩ = some (.slice ad 1 cap) := cell_gr hw6 (by go_simp)
  have zw6_0 : W.heap.size < w6.heap.size := World.block_lt_of_cell? _ _ cw6_0_0
  have cw6_1_0 : w6.cell? ⟨w2.heap.size, 0, none⟩ = some (.int .i64 4) := cell_gr hw6 (by go_simp)
  have cw6_1_1 : w6.cell? ⟨w2.heap.size, 1, none⟩ = some (.slice bd m bcap) := cell_gr hw6 (by go_simp)
  have zw6_1 : w2.heap.size < w6.heap.size := World.block_lt_of_cell? _ _ cw6_1_0
  have gw6 : Gr W w6 := Gr.trans (by have gg := gw5; have gs := gg.size; go_grown) hw6
  clear gw5 zw5_0 cw5_0_0 cw5_0_1 zw5_1 cw5_1_0 cw5_1_1
  clear hw6
  try simp only [Act.put, List.setIfInBounds_toArray, List.set_cons_zero, List.set_cons_succ]
  repeat (first | (refine Od.wpO_skip (by simp only [List.getElem?_toArray, List.getElem?_cons_succ, List.getElem?_cons_zero] <;> rfl) rfl ?_; simp only [Act.put, List.setIfInBounds_toArray, List.set_cons_zero, List.set_cons_succ]) | (refine Od.wpO_pure (by simp only [List.getElem?_toArray, List.getElem?_cons_succ, List.getElem?_cons_zero] <;> rfl) rfl ?_; apply Exists.intro; refine ⟨?_, ?_⟩; (· intro wx gx; obtain ⟨mx, rfl⟩ := spread_of_gr gx; clear gx; all_goals (apply Od.pAt_of_quiet; intro K hK; go_big_quiet_op; first | exact hK _ rfl | (apply Exists.intro; refine ⟨fun _ => ?_, ?_⟩; (· fail); exact hK _ rfl))); try simp only [Act.put, List.setIfInBounds_toArray, List.set_cons_zero, List.set_cons_succ]))
  refine Od.wpO_call (by simp only [List.getElem?_toArray, List.getElem?_cons_succ, List.getElem?_cons_zero] <;> rfl) rfl ?_
  intro QS hQS
  go_wp2_with fail
  go_at_call 10
  (with_reducible refine ((H5.out _ gw6)).mono ?_)
  rintro e w7 ⟨rfl, hw7⟩
  go_wp2_with fail
  apply Exists.intro
  refine ⟨?_, hw7, ?_⟩
  · simp only [Act.put, List.setIfInBounds_toArray, List.set_cons_zero, List.set_cons_succ]; rfl
  have cw7_0_0 : w7.cell? ⟨W.heap.size, 0, none⟩ = some (.int .i64 2) := cell_gr hw7 (by go_simp)
  have cw7_0_1 : w7.cell? ⟨W.heap.size, 1, none⟩ = some (.slice ad 1 cap) := cell_gr hw7 (by go_simp)
  have zw7_0 : W.heap.size < w7.heap.size := World.block_lt_of_cell? _ _ cw7_0_0
  have cw7_1_0 : w7.cell? ⟨w2.heap.size, 0, none⟩ = some (.int .i64 4) := cell_gr hw7 (by go_simp)
  have cw7_1_1 : w7.cell? ⟨w2.heap.size, 1, none⟩ = some (.slice bd m bcap) := cell_gr hw7 (by go_simp)
  have zw7_1 : w2.heap.size < w7.heap.size := World.block_lt_of_cell? _ _ cw7_1_0
  have gw7 : Gr W w7 := Gr.trans (by have gg := gw6; have gs := gg.size; go_grown) hw7
  clear gw6 zw6_0 cw6_0_0 cw6_0_1 zw6_1 cw6_1_0 cw6_1_1
  clear hw7
  try simp only [Act.put, List.setIfInBounds_toArray, List.set_cons_zero, List.set_cons_succ]
  repeat (first | (refine Od.wpO_skip (by simp only [List.getElem?_toArray, List.getElem?_cons_succ, List.getElem?_cons_zero] <;> rfl) rfl ?_; simp only [Act.put, List.setIfInBounds_toArray, List.set_cons_zero, List.set_cons_succ]) | (refine Od.wpO_pure (by simp only [List.getElem?_toArray, List.getElem?_cons_succ, List.getElem?_cons_zero] <;> rfl) rfl ?_; apply Exists.intro; refine ⟨?_, ?_⟩; (· intro wx gx; obtain ⟨mx, rfl⟩ := spread_of_gr gx; clear gx; all_goals (apply Od.pAt_of_quiet; intro K hK; go_big_quiet_op; first | exact hK _ rfl | (apply Exists.intro; refine ⟨fun _ => ?_, ?_⟩; (· fail); exact hK _ rfl))); try simp only [Act.put, List.setIfInBounds_toArray, List.set_cons_zero, List.set_cons_succ]))
  refine Od.wpO_call (by simp only [List.getElem?_toArray, List.getElem?_cons_succ, List.getElem?_cons_zero] <;> rfl) rfl ?_
  intro QS hQS
  go_wp2_with fail
  go_at_call 7
  (with_reducible refine ((H7.out _ gw7)).mono ?_)
  rintro e w9 ⟨rfl, hw9⟩
  go_wp2_with fail
  apply Exists.intro
  refine ⟨?_, hw9, ?_⟩
  · simp only [Act.put, List.setIfInBounds_toArray, List.set_cons_zero, List.set_cons_succ]; rfl
  have cw9_0_0 : w9.cell? ⟨W.heap.size, 0, none⟩ = some (.int .i64 2) := cell_gr hw9 (by go_simp)
  have cw9_0_1 : w9.cell? ⟨W.heap.size, 1, none⟩ = some (.slice ad 1 cap) := cell_gr hw9 (by go_simp)
  have zw9_0 : W.heap.size < w9.heap.size := World.block_lt_of_cell? _ _ cw9_0_0
  have cw9_1_0 : w9.cell? ⟨w2.heap.size, 0, none⟩ = some (.int .i64 4) := cell_gr hw9 (by go_simp)
  have cw9_1_1 : w9.cell? ⟨w2.heap.size, 1, none⟩ = some (.slice bd m bcap) := cell_gr hw9 (by go_simp)
  have zw9_1 : w2.heap.size < w9.heap.size := World.block_lt_of_cell? _ _ cw9_1_0
  have gw9 : Gr W w9 := Gr.trans (by have gg := gw7; have gs := gg.size; go_grown) hw9
  clear gw7 zw7_0 cw7_0_0 cw7_0_1 zw7_1 cw7_1_0 cw7_1_1
  clear hw9
  try simp only [Act.put, List.setIfInBounds_toArray, List.set_cons_zero, List.set_cons_succ]
  repeat (first | (refine Od.wpO_skip (by simp only [List.getElem?_toArray, List.getElem?_cons_succ, List.getElem?_cons_zero] <;> rfl) rfl ?_; simp only [Act.put, List.setIfInBounds_toArray, List.set_cons_zero, List.set_cons_succ]) | (refine Od.wpO_pure (by simp only [List.getElem?_toArray, List.getElem?_cons_succ, List.getElem?_cons_zero] <;> rfl) rfl ?_; apply Exists.intro; refine ⟨?_, ?_⟩; (· intro wx gx; obtain ⟨mx, rfl⟩ := spread_of_gr gx; clear gx; all_goals (apply Od.pAt_of_quiet; intro K hK; go_big_quiet_op; first | exact hK _ rfl | (apply Exists.intro; refine ⟨fun _ => ?_, ?_⟩; (· fail); exact hK _ rfl))); try simp only [Act.put, List.setIfInBounds_toArray, List.set_cons_zero, List.set_cons_succ]))
  refine Od.wpO_nil (hKQ _ _ ?_)
  clear hKQ KQ
  go_wp2_with fail
  go_ret
  exact ⟨rfl, gw9⟩
set_option maxHeartbeats 8000000 in
set_option maxRecDepth 100000 in
theorem cross_3 {m cap bcap c9 B off : Nat} {bd : Option Addr} {x y x2 y2 : Int} (z : Bool) (W : World) (hm : m ≤ 64) (p0 : W.cell? ⟨B, off, none⟩ = some (.int .i64 x)) (p1 : W.cell? ⟨B, off + 1, none⟩ = some (.int .i64 y)) (p2 : W.cell? ⟨B, off + 2, none⟩ = some (.int .i64 x2)) (p3 : W.cell? ⟨B, off + 2 + 1, none⟩ = some (.int .i64 y2))
    (A1 : ∀ w, Gr W w → Calls Tryd.prog 5 #[.agg #[.int .i64 3, .slice (some ⟨B, off, none⟩) 2 cap]] w fun e w' => e = .returned (.bool true) ∧ Gr w w')
    (A2 : ∀ w, Gr W w → Calls Tryd.prog 15 #[.slice bd m bcap] w fun e w' => e = .returned (.tuple #[.int .i64 0, .int .i64 (c9 : Nat)]) ∧ Gr w w')
    (A3 : ∀ w, Gr W w → Calls Tryd.prog 10 #[.agg #[.int .i64 3, .slice (some ⟨B, off, none⟩) 2 cap], qryV 4 0 0 0 0 (.slice bd m bcap)] w fun e w' => e = .returned (.bool z) ∧ Gr w w')
    (A4 : ∀ w, Gr W w → Calls Tryd.prog 16 #[.agg #[.int .i64 3, .slice (some ⟨B, off, none⟩) 2 cap], .agg #[.int .i64 4, .slice bd m bcap]] w fun e w' => e = .returned (.bool z) ∧ Gr w w')
    (A5 : ∀ w, Gr W w → Calls Tryd.prog 10 #[.agg #[.int .i64 4, .slice bd m bcap], qryV 4 0 0 0 0 (.slice bd m bcap)] w fun e w' => e = .returned (.bool true) ∧ Gr w w')
    (A6 : ∀ w, Gr W w → Calls Tryd.prog 10 #[.agg #[.int .i64 4, .slice bd m bcap], qryV 1 x y x2 y2 (.slice none 0 0)] w fun e w' => e = .returned (.bool z) ∧ Gr w w')
    (A7 : ∀ w, Gr W w → Calls Tryd.prog 7 #[] w fun e w' => e = .returned (.bool true) ∧ Gr w w') :
    Calls Tryd.prog 4 #[.slice bd m bcap, .agg #[.int .i64 3, .slice (some ⟨B, off, none⟩) 2 cap]] W fun e w' => e = .returned (.bool true) ∧ Gr W w' := by
  have t1 : (z == z) = true := by simp
  have t2 : decide (z = z) = true := by simp
  have t3 : decide ((64 : Int) < (m : Int)) = false := decide_eq_false (by omega)
  have t4 : decide (64 < m) = false := decide_eq_false (by omega)
  have zB : B < W.heap.size := World.block_lt_of_cell? _ _ p0
  have nB : ¬ B = W.heap.size := by omega
  have H1 := Lib.hid A1
  have H2 := Lib.hid A2
  have H3 := Lib.hid A3
  have H4 := Lib.hid A4
  have H5 := Lib.hid A5
  have H6 := Lib.hid A6
  have H7 := Lib.hid A7
  clear A1 A2 A3 A4 A5 A6 A7
  clear hm
  go_enter Tryd.func4, Tryd.ntmps4
  go_wp2_with fail
  go_at_call 5
  refine ((H1.out _ (by go_grown))).mono ?_
  rintro e w1 ⟨rfl, hw1⟩
  have cw1_0_0 : w1.cell? ⟨W.heap.size, 0, none⟩ = some (.int .i64 3) := cell_gr hw1 (by go_simp)
  have cw1_0_1 : w1.cell? ⟨W.heap.size, 1, none⟩ = some (.slice (some ⟨B, off, none⟩) 2 cap) := cell_gr hw1 (by go_simp)
  have zw1_0 : W.heap.size < w1.heap.size := World.block_lt_of_cell? _ _ cw1_0_0
  have cw1_1_0 : w1.cell? ⟨B, off, none⟩ = some (.int .i64 x) := cell_gr hw1 (by go_simp)
  have cw1_1_1 : w1.cell? ⟨B, off + 1, none⟩ = some (.int .i64 y) := cell_gr hw1 (by go_simp)
  have cw1_1_2 : w1.cell? ⟨B, off + 2, none⟩ = some (.int .i64 x2) := cell_gr hw1 (by go_simp)
  have cw1_1_3 : w1.cell? ⟨B, off + 2 + 1, none⟩ = some (.int .i64 y2) := cell_gr hw1 (by go_simp)
  have zw1_1 : B < w1.heap.size := World.block_lt_of_cell? _ _ cw1_1_0
  have gw1 : Gr W w1 := Gr.trans (by go_grown) hw1
  clear hw1
  go_wp2_with fail
  go_at_call 15
  refine ((H2.out _ gw1)).mono ?_
  rintro e w2 ⟨rfl, hw2⟩
  have cw2_0_0 : w2.cell? ⟨W.heap.size, 0, none⟩ = some (.int .i64 3) := cell_gr hw2 (by go_simp)
  have cw2_0_1 : w2.cell? ⟨W.heap.size, 1, none⟩ = some (.slice (some ⟨B, off, none⟩) 2 cap) := cell_gr hw2 (by go_simp)
  have zw2_0 : W.heap.size < w2.heap.size := World.block_lt_of_cell? _ _ cw2_0_0
  have cw2_1_0 : w2.cell? ⟨B, off, none⟩ = some (.int .i64 x) := cell_gr hw2 (by go_simp)
  have cw2_1_1 : w2.cell? ⟨B, off + 1, none⟩ = some (.int .i64 y) := cell_gr hw2 (by go_simp)
  have cw2_1_2 : w2.cell? ⟨B, off + 2, none⟩ = some (.int .i64 x2) := cell_gr hw2 (by go_simp)
  have cw2_1_3 : w2.cell? ⟨B, off + 2 + 1, none⟩ = some (.int .i64 y2) := cell_gr hw2 (by go_simp)
  have zw2_1 : B < w2.heap.size := World.block_lt_of_cell? _ _ cw2_1_0
  have gw2 : Gr W w2 := Gr.trans (by have gg := gw1; have gs := gg.size; go_grown) hw2
  clear hw2 gw1 zw1_0 cw1_0_0 cw1_0_1 zw1_1 cw1_1_0 cw1_1_1 cw1_1_2 cw1_1_3
  go_wp2_with fail
  generalize hhw3 : (w2.alloc (.cells #[.int .i64 4, .slice bd m bcap] 24)) = w3
  have cw3_0_0 : w3.cell? ⟨W.heap.size, 0, none⟩ = some (.int .i64 3) := by subst hhw3; go_simp
  have cw3_0_1 : w3.cell? ⟨W.heap.size, 1, none⟩ = some (.slice (some ⟨B, off, none⟩) 2 cap) := by subst hhw3; go_simp
  have zw3_0 : W.heap.size < w3.heap.size := World.block_lt_of_cell? _ _ cw3_0_0
  have cw3_1_0 : w3.cell? ⟨B, off, none⟩ = some (.int .i64 x) := by subst hhw3; go_simp
  have cw3_1_1 : w3.cell? ⟨B, off + 1, none⟩ = some (.int .i64 y) := by subst hhw3; go_simp
  have cw3_1_2 : w3.cell? ⟨B, off + 2, none⟩ = some (.int .i64 x2) := by subst hhw3; go_simp
  have cw3_1_3 : w3.cell? ⟨B, off + 2 + 1, none⟩ = some (.int .i64 y2) := by subst hhw3; go_simp
  have zw3_1 : B < w3.heap.size := World.block_lt_of_cell? _ _ cw3_1_0
  have cw3_2_0 : w3.cell? ⟨w2.heap.size, 0, none⟩ = some (.int .i64 4) := by subst hhw3; go_simp
  have cw3_2_1 : w3.cell? ⟨w2.heap.size, 1, none⟩ = some (.slice bd m bcap) := by subst hhw3; go_simp
  have zw3_2 : w2.heap.size < w3.heap.size := World.block_lt_of_cell? _ _ cw3_2_0
  have gw3 : Gr W w3 := by subst hhw3; have gg := gw2; have gs := gg.size; go_grown
  clear hhw3 gw2 zw2_0 cw2_0_0 cw2_0_1 zw2_1 cw2_1_0 cw2_1_1 cw2_1_2 cw2_1_3
  go_wp2_with fail
  go_at_call 10
  refine ((H3.out _ gw3)).mono ?_
  rintro e w4 ⟨rfl, hw4⟩
  have cw4_0_0 : w4.cell? ⟨W.heap.size, 0, none⟩ = some (.int .i64 3) := cell_gr hw4 (by go_simp)
  have cw4_0_1 : w4.cell? ⟨W.heap.size, 1, none⟩ = some (.slice (some ⟨B, off, none⟩) 2 cap) := cell_gr hw4 (by go_simp)
  have zw4_0 : W.heap.size < w4.heap.size := World.block_lt_of_cell? _ _ cw4_0_0
  have cw4_1_0 : w4.cell? ⟨B, off, none⟩ = some (.int .i64 x) := cell_gr hw4 (by go_simp)
  have cw4_1_1 : w4.cell? ⟨B, off + 1, none⟩ = some (.int .i64 y) := cell_gr hw4 (by go_simp)
  have cw4_1_2 : w4.cell? ⟨B, off + 2, none⟩ = some (.int .i64 x2) := cell_gr hw4 (by go_simp)
  have cw4_1_3 : w4.cell? ⟨B, off + 2 + 1, none⟩ = some (.int .i64 y2) := cell_gr hw4 (by go_simp)
  have zw4_1 : B < w4.heap.size := World.block_lt_of_cell? _ _ cw4_1_0
  have cw4_2_0 : w4.cell? ⟨w2.heap.size, 0, none⟩ = some (.int .i64 4) := cell_gr hw4 (by go_simp)
  have cw4_2_1 : w4.cell? ⟨w2.heap.size, 1, none⟩ = some (.slice bd m bcap) := cell_gr hw4 (by go_simp)
  have zw4_2 : w2.heap.size < w4.heap.size := World.block_lt_of_cell? _ _ cw4_2_0
  have gw4 : Gr W w4 := Gr.trans (by have gg := gw3; have gs := gg.size; go_grown) hw4
  clear hw4 gw3 zw3_0 cw3_0_0 cw3_0_1 zw3_1 cw3_1_0 cw3_1_1 cw3_1_2 cw3_1_3 zw3_2 cw3_2_0 cw3_2_1
  go_wp2_with fail
  try simp only [List.append]
  refine Od.wp_region_ord [(0, false), (1, false), (2, false), (3, true), (4, false), (5, false), (6, false), (7, false), (8, false), (9, true), (10, false), (11, false), (12, false), (13, false), (14, false), (15, false), (16, false), (17, false), (18, false), (19, false), (20, false), (21, true), (22, false), (23, false), (24, false), (25, false), (26, false), (27, false), (28, false), (29, false), (30, false), (31, false), (32, false), (33, false), (34, false), (35, false), (36, false), (37, false), (38, true), (39, false), (40, false), (41, false), (42, false), (43, false), (44, false), (45, false), (46, false), (47, false), (48, false), (49, false), (50, false), (51, false), (52, false), (53, false), (54, false), (55, false), (56, false), (57, false), (58, false), (59, true), (60, false), (61, false), (62, false), (63, false), (64, true), (65, false), (66, false)] (by kernel_rfl) (by kernel_rfl) ?_
  intro w5 hw5 KQ hKQ
  have cw5_0_0 : w5.cell? ⟨W.heap.size, 0, none⟩ = some (.int .i64 3) := cell_gr hw5 (by go_simp)
  have cw5_0_1 : w5.cell? ⟨W.heap.size, 1, none⟩ = some (.slice (some ⟨B, off, none⟩) 2 cap) := cell_gr hw5 (by go_simp)
  have zw5_0 : W.heap.size < w5.heap.size := World.block_lt_of_cell? _ _ cw5_0_0
  have cw5_1_0 : w5.cell? ⟨B, off, none⟩ = some (.int .i64 x) := cell_gr hw5 (by go_simp)
  have cw5_1_1 : w5.cell? ⟨B, off + 1, none⟩ = some (.int .i64 y) := cell_gr hw5 (by go_simp)
  have cw5_1_2 : w5.cell? ⟨B, off + 2, none⟩ = some (.int .i64 x2) := cell_gr hw5 (by go_simp)
  have cw5_1_3 : w5.cell? ⟨B, off + 2 + 1, none⟩ = some (.int .i64 y2) := cell_gr hw5 (by go_simp)
  have zw5_1 : B < w5.heap.size := World.block_lt_of_cell? _ _ cw5_1_0
  have cw5_2_0 : w5.cell? ⟨w2.heap.size, 0, none⟩ = some (.int .i64 4) := cell_gr hw5 (by go_simp)
  have cw5_2_1 : w5.cell? ⟨w2.heap.size, 1, none⟩ = some (.slice bd m bcap) := cell_gr hw5 (by go_simp)
  have zw5_2 : w2.heap.size < w5.heap.size := World.block_lt_of_cell? _ _ cw5_2_0
  have gw5 : Gr W w5 := Gr.trans (by have gg := gw4; have gs := gg.size; go_grown) hw5
  clear gw4 zw4_0 cw4_0_0 cw4_0_1 zw4_1 cw4_1_0 cw4_1_1 cw4_1_2 cw4_1_3 zw4_2 cw4_2_0 cw4_2_1
  clear hw5
  repeat (first | (refine Od.wpO_skip (by simp only [List.getElem?_toArray, List.getElem?_cons_succ, List.getElem?_cons_zero] <;> rfl) rfl ?_; simp only [Act.put, List.setIfInBounds_toArray, List.set_cons_zero, List.set_cons_succ]) | (refine Od.wpO_pure (by simp only [List.getElem?_toArray, List.getElem?_cons_succ, List.getElem?_cons_zero] <;> rfl) rfl ?_; apply Exists.intro; refine ⟨?_, ?_⟩; (· intro wx gx; obtain ⟨mx, rfl⟩ := spread_of_gr gx; clear gx; all_goals (apply Od.pAt_of_quiet; intro K hK; go_big_quiet_op; first | exact hK _ rfl | (apply Exists.intro; refine ⟨fun _ => ?_, ?_⟩; (· fail); exact hK _ rfl))); try simp only [Act.put, List.setIfInBounds_toArray, List.set_cons_zero, List.set_cons_succ]))
  refine Od.wpO_call (by simp only [List.getElem?_toArray, List.getElem?_cons_succ, List.getElem?_cons_zero] <;> rfl) rfl ?_
  intro QS hQS
  go_wp2_with fail
  go_at_call 16
  (with_reducible refine ((H4.out _ gw5)).mono ?_)
  rintro e w6 ⟨rfl, hw6⟩
  go_wp2_with fail
  apply Exists.intro
  refine ⟨?_, hw6, ?_⟩
  · simp only [Act.put, List.setIfInBounds_toArray, List.set_cons_zero, List.set_cons_succ]; rfl
  have cw6_0_0 : w6.cell? ⟨W.heap.size, 0, none⟩ = some (.int .i64 3) := cell_gr hw6 (by go_simp)
  have cw6_0_1 : w6.cell? ⟨W.heap.size, 1, none⟩ = some (.slice (some ⟨B, off, none⟩) 2 cap) := cell_gr hw6 (by go_simp)
  have zw6_0 : W.heap.size < w6.heap.size := World.block_lt_of_cell? _ _ cw6_0_0
  have cw6_1_0 : w6.cell? ⟨B, off, none⟩ = some (.int .i64 x) := cell_gr hw6 (by go_simp)
  have cw6_1_1 : w6.cell? ⟨B, off + 1, none⟩ = some (.int .i64 y) := cell_gr hw6 (by go_simp)
  have cw6_1_2 : w6.cell? ⟨B, off + 2, none⟩ = some (.int .i64 x2) := cell_gr hw6 (by go_simp)
  have cw6_1_3 : w6.cell? ⟨B, off + 2 + 1, none⟩ = some (.int .i64 y2) := cell_gr hw6 (by go_simp)
  have zw6_1 : B < w6.heap.size := World.block_lt_of_cell? _ _ cw6_1_0
  have cw6_2_0 : w6.cell? ⟨w2.heap.size, 0, none⟩ = some (.int .i64 4) := cell_gr hw6 (by go_simp)
  have cw6_2_1 : w6.cell? ⟨w2.heap.size, 1, none⟩ = some (.slice bd m bcap) := cell_gr hw6 (by go_simp)
  have zw6_2 : w2.heap.size < w6.heap.size := World.block_lt_of_cell? _ _ cw6_2_0
  have gw6 : Gr W w6 := Gr.trans (by have gg := gw5; have gs := gg.size; go_grown) hw6
  clear gw5 zw5_0 cw5_0_0 cw5_0_1 zw5_1 cw5_1_0 cw5_1_1 cw5_1_2 cw5_1_3 zw5_2 cw5_2_0 cw5_2_1
  clear hw6
  try simp only [Act.put, List.setIfInBounds_toArray, List.set_cons_zero, List.set_cons_succ]
  repeat (first | (refine Od.wpO_skip (by simp only [List.getElem?_toArray, List.getElem?_cons_succ, List.getElem?_cons_zero] <;> rfl) rfl ?_; simp only [Act.put, List.setIfInBounds_toArray, List.set_cons_zero, List.set_cons_succ]) | (refine Od.wpO_pure (by simp only [List.getElem?_toArray, List.getElem?_cons_succ, List.getElem?_cons_zero] <;> rfl) rfl ?_; apply Exists.intro; refine ⟨?_, ?_⟩; (· intro wx gx; obtain ⟨mx, rfl⟩ := spread_of_gr gx; clear gx; all_goals (apply Od.pAt_of_quiet; intro K hK; go_big_quiet_op; first | exact hK _ rfl | (apply Exists.intro; refine ⟨fun _ => ?_, ?_⟩; (· fail); exact hK _ rfl))); try simp only [Act.put, List.setIfInBounds_toArray, List.set_cons_zero, List.set_cons_succ]))
  refine Od.wpO_call (by simp only [List.getElem?_toArray, List.getElem?_cons_succ, List.getElem?_cons_zero] <;> rfl) rfl ?_
  intro QS hQS
  go_wp2_with fail
  go_at_call 10
  (with_reducible refine ((H5.out _ gw6)).mono ?_)
  rintro e w7 ⟨rfl, hw7⟩
  go_wp2_with fail
  apply Exists.intro
  refine ⟨?_, hw7, ?_⟩
  · simp only [Act.put, List.setIfInBounds_toArray, List.set_cons_zero, List.set_cons_succ]; rfl
  have cw7_0_0 : w7.cell? ⟨W.heap.size, 0, none⟩ = some (.int .i64 3) := cell_gr hw7 (by go_simp)
  have cw7_0_1 : w7.cell? ⟨W.heap.size, 1, none⟩ = some (.slice (some ⟨B, off, none⟩) 2 cap) := cell_gr hw7 (by go_simp)
  have zw7_0 : W.heap.size < w7.heap.size := World.block_lt_of_cell? _ _ cw7_0_0
  have cw7_1_0 : w7.cell? ⟨B, off, none⟩ = some (.int .i64 x) := cell_gr hw7 (by go_simp)
  have cw7_1_1 : w7.cell? ⟨B, off + 1, none⟩ = some (.int .i64 y) := cell_gr hw7 (by go_simp)
  have cw7_1_2 : w7.cell? ⟨B, off + 2, none⟩ = some (.int .i64 x2) := cell_gr hw7 (by go_simp)
  have cw7_1_3 : w7.cell? ⟨B, off + 2 + 1, none⟩ = some (.int .i64 y2) := cell_gr hw7 (by go_simp)
  have zw7_1 : B < w7.heap.size := World.block_lt_of_cell? _ _ cw7_1_0
  have cw7_2_0 : w7.cell? ⟨w2.heap.size, 0, none⟩ = some (.int .i64 4) := cell_gr hw7 (by go_simp)
  have cw7_2_1 : w7.cell? ⟨w2.heap.size, 1, none⟩ = some (.slice bd m bcap) := cell_gr hw7 (by go_simp)
  have zw7_2 : w2.heap.size < w7.heap.size := World.block_lt_of_cell? _ _ cw7_2_0
  have gw7 : Gr W w7 := Gr.trans (by have gg := gw6; have gs := gg.size; go_grown) hw7
  clear gw6 zw6_0 cw6_0_0 cw6_0_1 zw6_1 cw6_1_0 cw6_1_1 cw6_1_2 cw6_1_3 zw6_2 cw6_2_0 cw6_2_1
  clear hw7
  try simp only [Act.put, List.setIfInBounds_toArray, List.set_cons_zero, List.set_cons_succ]
  repeat (first | (refine Od.wpO_skip (by simp only [List.getElem?_toArray, List.getElem?_cons_succ, List.getElem?_cons_zero] <;> rfl) rfl ?_; simp only [Act.put, List.setIfInBounds_toArray, List.set_cons_zero, List.set_cons_succ]) | (refine Od.wpO_pure (by simp only [List.getElem?_toArray, List.getElem?_cons_succ, List.getElem?_cons_zero] <;> rfl) rfl ?_; apply Exists.intro; refine ⟨?_, ?_⟩; (· intro wx gx; obtain ⟨mx, rfl⟩ := spread_of_gr gx; clear gx; all_goals (apply Od.pAt_of_quiet; intro K hK; go_big_quiet_op; first | exact hK _ rfl | (apply Exists.intro; refine ⟨fun _ => ?_, ?_⟩; (· fail); exact hK _ rfl))); try simp only [Act.put, List.setIfInBounds_toArray, List.set_cons_zero, List.set_cons_succ]))
  refine Od.wpO_call (by simp only [List.getElem?_toArray, List.getElem?_cons_succ, List.getElem?_cons_zero] <;> rfl) rfl ?_
  intro QS hQS
  go_wp2_with fail
  go_at_call 10
  (with_reducible refine ((H6.out _ gw7)).mono ?_)
  rintro e w8 ⟨rfl, hw8⟩
  go_wp2_with fail
  apply Exists.intro
  refine ⟨?_, hw8, ?_⟩
  · simp only [Act.put, List.setIfInBounds_toArray, List.set_cons_zero, List.set_cons_succ]; rfl
  have cw8_0_0 : w8.cell? ⟨W.heap.size, 0, none⟩ = some (.int .i64 3) := cell_gr hw8 (by go_simp)
  have cw8_0_1 : w8.cell? ⟨W.heap.size, 1, none⟩ = some (.slice (some ⟨B, off, none⟩) 2 cap) := cell_gr hw8 (by go_simp)
  have zw8_0 : W.heap.size < w8.heap.size := World.block_lt_of_cell? _ _ cw8_0_0
  have cw8_1_0 : w8.cell? ⟨B, off, none⟩ = some (.int .i64 x) := cell_gr hw8 (by go_simp)
  have cw8_1_1 : w8.cell? ⟨B, off + 1, none⟩ = some (.int .i64 y) := cell_gr hw8 (by go_simp)
  have cw8_1_2 : w8.cell? ⟨B, off + 2, none⟩ = some (.int .i64 x2) := cell_gr hw8 (by go_simp)
  have cw8_1_3 : w8.cell? ⟨B, off + 2 + 1, none⟩ = some (.int .i64 y2) := cell_gr hw8 (by go_simp)
  have zw8_1 : B < w8.heap.size := World.block_lt_of_cell? _ _ cw8_1_0
  have cw8_2_0 : w8.cell? ⟨w2.heap.size, 0, none⟩ = some (.int .i64 4) := cell_gr hw8 (by go_simp)
  have cw8_2_1 : w8.cell? ⟨w2.heap.size, 1, none⟩ = some (.slice bd m bcap) := cell_gr hw8 (by go_simp)
  have zw8_2 : w2.heap.size < w8.heap.size := World.block_lt_of_cell? _ _ cw8_2_0
  have gw8 : Gr W w8 := Gr.trans (by have gg := gw7; have gs := gg.size; go_grown) hw8
  clear gw7 zw7_0 cw7_0_0 cw7_0_1 zw7_1 cw7_1_0 cw7_1_1 cw7_1_2 cw7_1_3 zw7_2 cw7_2_0 cw7_2_1
  clear hw8
  try simp only [Act.put, List.setIfInBounds_toArray, List.set_cons_zero, List.set_cons_succ]
  repeat (first | (refine Od.wpO_skip (by simp only [List.getElem?_toArray, List.getElem?_cons_succ, List.getElem?_cons_zero] <;> rfl) rfl ?_; simp only [Act.put, List.setIfInBounds_toArray, List.set_cons_zero, List.set_cons_succ]) | (refine Od.wpO_pure (by simp only [List.getElem?_toArray, List.getElem?_cons_succ, List.getElem?_cons_zero] <;> rfl) rfl ?_; apply Exists.intro; refine ⟨?_, ?_⟩; (· intro wx gx; obtain ⟨mx, rfl⟩ := spread_of_gr gx; clear gx; all_goals (apply Od.pAt_of_quiet; intro K hK; go_big_quiet_op; first | exact hK _ rfl | (apply Exists.intro; refine ⟨fun _ => ?_, ?_⟩; (· fail); exact hK _ rfl))); try simp only [Act.put, List.setIfInBounds_toArray, List.set_cons_zero, List.set_cons_succ]))
  refine Od.wpO_call (by simp only [List.getElem?_toArray, List.getElem?_cons_succ, List.getElem?_cons_zero] <;> rfl) rfl ?_
  intro QS hQS
  go_wp2_with fail
  go_at_call 7
  (with_reducible refine ((H7.out _ gw8)).mono ?_)
  rintro e w9 ⟨rfl, hw9⟩
  go_wp2_with fail
  apply Exists.intro
  refine ⟨?_, hw9, ?_⟩
  · simp only [Act.put, List.setIfInBounds_toArray, List.set_cons_zero, List.set_cons_succ]; rfl
  have cw9_0_0 : w9.cell? ⟨W.heap.size, 0, none⟩ = some (.int .i64 3) := cell_gr hw9 (by go_simp)
  have cw9_0_1 : w9.cell? ⟨W.heap.size, 1, none⟩ = some (.slice (some ⟨B, off, none⟩) 2 cap) := cell_gr hw9 (by go_simp)
  have zw9_0 : W.heap.size < w9.heap.size := World.block_lt_of_cell? _ _ cw9_0_0
  have cw9_1_0 : w9.cell? ⟨B, off, none⟩ = some (.int .i64 x) := cell_gr hw9 (by go_simp)
  have cw9_1_1 : w9.cell? ⟨B, off + 1, none⟩ = some (.int .i64 y) := cell_gr hw9 (by go_simp)
  have cw9_1_2 : w9.cell? ⟨B, off + 2, none⟩ = some (.int .i64 x2) := cell_gr hw9 (by go_simp)
  have cw9_1_3 : w9.cell? ⟨B, off + 2 + 1, none⟩ = some (.int .i64 y2) := cell_gr hw9 (by go_simp)
  have zw9_1 : B < w9.heap.size := World.block_lt_of_cell? _ _ cw9_1_0
  have cw9_2_0 : w9.cell? ⟨w2.heap.size, 0, none⟩ = some (.int .i64 4) := cell_gr hw9 (by go_simp)
  have cw9_2_1 : w9.cell? ⟨w2.heap.size, 1, none⟩ = some (.slice bd m bcap) := cell_gr hw9 (by go_simp)
  have zw9_2 : w2.heap.size < w9.heap.size := World.block_lt_of_cell? _ _ cw9_2_0
  have gw9 : Gr W w9 := Gr.trans (by have gg := gw8; have gs := gg.size; go_grown) hw9
  clear gw8 zw8_0 cw8_0_0 cw8_0_1 zw8_1 cw8_1_0 cw8_1_1 cw8_1_2 cw8_1_3 zw8_2 cw8_2_0 cw8_2_1
  clear hw9
  try simp only [Act.put, List.setIfInBounds_toArray, List.set_cons_zero, List.set_cons_succ]
  repeat (first | (refine Od.wpO_skip (by simp only [List.getElem?_toArray, List.getElem?_cons_succ, List.getElem?_cons_zero] <;> rfl) rfl ?_; simp only [Act.put, List.setIfInBounds_toArray, List.set_cons_zero, List.set_cons_succ]) | (refine Od.wpO_pure (by simp only [List.getElem?_toArray, List.getElem?_cons_succ, List.getElem?_cons_zero] <;> rfl) rfl ?_; apply Exists.intro; refine ⟨?_, ?_⟩; (· intro wx gx; obtain ⟨mx, rfl⟩ := spread_of_gr gx; clear gx; all_goals (apply Od.pAt_of_quiet; intro K hK; go_big_quiet_op; first | exact hK _ rfl | (apply Exists.intro; refine ⟨fun _ => ?_, ?_⟩; (· fail); exact hK _ rfl))); try simp only [Act.put, List.setIfInBounds_toArray, List.set_cons_zero, List.set_cons_succ]))
  refine Od.wpO_nil (hKQ _ _ ?_)
  clear hKQ KQ
  go_wp2_with fail
  go_ret
  exact ⟨rfl, gw9⟩
set_option maxHeartbeats 8000000 in
set_option maxRecDepth 100000 in
theorem cross_4 {n m cap bcap c9 : Nat} {ad bd : Option Addr} (z : Bool) (W : World) (hm : m ≤ 64) (hn : n ≤ 64)
    (A1 : ∀ w, Gr W w → Calls Tryd.prog 5 #[.agg #[.int .i64 4, .slice ad n cap]] w fun e w' => e = .returned (.bool true) ∧ Gr w w')
    (A2 : ∀ w, Gr W w → Calls Tryd.prog 15 #[.slice bd m bcap] w fun e w' => e = .returned (.tuple #[.int .i64 0, .int .i64 (c9 : Nat)]) ∧ Gr w w')
    (A3 : ∀ w, Gr W w → Calls Tryd.prog 10 #[.agg #[.int .i64 4, .slice ad n cap], qryV 4 0 0 0 0 (.slice bd m bcap)] w fun e w' => e = .returned (.bool z) ∧ Gr w w')
    (A4 : ∀ w, Gr W w → Calls Tryd.prog 16 #[.agg #[.int .i64 4, .slice ad n cap], .agg #[.int .i64 4, .slice bd m bcap]] w fun e w' => e = .returned (.bool z) ∧ Gr w w')
    (A5 : ∀ w, Gr W w → Calls Tryd.prog 10 #[.agg #[.int .i64 4, .slice bd m bcap], qryV 4 0 0 0 0 (.slice bd m bcap)] w fun e w' => e = .returned (.bool true) ∧ Gr w w')
    (A6 : ∀ w, Gr W w → Calls Tryd.prog 10 #[.agg #[.int .i64 4, .slice bd m bcap], qryV 4 0 0 0 0 (.slice ad n cap)] w fun e w' => e = .returned (.bool z) ∧ Gr w w')
    (A7 : ∀ w, Gr W w → Calls Tryd.prog 7 #[] w fun e w' => e = .returned (.bool true) ∧ Gr w w') :
    Calls Tryd.prog 4 #[.slice bd m bcap, .agg #[.int .i64 4, .slice ad n cap]] W fun e w' => e = .returned (.bool true) ∧ Gr W w' := by
  have t1 : (z == z) = true := by simp
  have t2 : decide (z = z) = true := by simp
  have t3 : decide ((64 : Int) < (m : Int)) = false := decide_eq_false (by omega)
  have t4 : decide (64 < m) = false := decide_eq_false (by omega)
  have t5 : decide ((64 : Int) < (n : Int)) = false := decide_eq_false (by omega)
  have t6 : decide (64 < n) = false := decide_eq_false (by omega)
  have H1 := Lib.hid A1
  have H2 := Lib.hid A2
  have H3 := Lib.hid A3
  have H4 := Lib.hid A4
  have H5 := Lib.hid A5
  have H6 := Lib.hid A6
  have H7 := Lib.hid A7
  clear A1 A2 A3 A4 A5 A6 A7
  clear hm
  go_enter Tryd.func4, Tryd.ntmps4
  go_wp2_with fail
  go_at_call 5
  refine ((H1.out _ (by go_grown))).mono ?_
  rintro e w1 ⟨rfl, hw1⟩
  have cw1_0_0 : w1.cell? ⟨W.heap.size, 0, none⟩ = some (.int .i64 4) := cell_gr hw1 (by go_simp)
  have cw1_0_1 : w1.cell? ⟨W.heap.size, 1, none⟩ = some (.slice ad n cap) := cell_gr hw1 (by go_simp)
  have zw1_0 : W.heap.size < w1.heap.size := World.block_lt_of_cell? _ _ cw1_0_0
  have gw1 : Gr W w1 := Gr.trans (by go_grown) hw1
  clear hw1
  go_wp2_with fail
  go_at_call 15
  refine ((H2.out _ gw1)).mono ?_
  rintro e w2 ⟨rfl, hw2⟩
  have cw2_0_0 : w2.cell? ⟨W.heap.size, 0, none⟩ = some (.int .i64 4) := cell_gr hw2 (by go_simp)
  have cw2_0_1 : w2.cell? ⟨W.heap.size, 1, none⟩ = some (.slice ad n cap) := cell_gr hw2 (by go_simp)
  have zw2_0 : W.heap.size < w2.heap.size := World.block_lt_of_cell? _ _ cw2_0_0
  have gw2 : Gr W w2 := Gr.trans (by have gg := gw1; have gs := gg.size; go_grown) hw2
  clear hw2 gw1 zw1_0 cw1_0_0 cw1_0_1
  go_wp2_with fail
  generalize hhw3 : (w2.alloc (.cells #[.int .i64 4, .slice bd m bcap] 24)) = w3
  have cw3_0_0 : w3.cell? ⟨W.heap.size, 0, none⟩ = some (.int .i64 4) := by subst hhw3; go_simp
  have cw3_0_1 : w3.cell? ⟨W.heap.size, 1, none⟩ = some (.slice ad n cap) := by subst hhw3; go_simp
  have zw3_0 : W.heap.size < w3.heap.size := World.block_lt_of_cell? _ _ cw3_0_0
  have cw3_1_0 : w3.cell? ⟨w2.heap.size, 0, none⟩ = some (.int .i64 4) := by subst hhw3; go_simp
  have cw3_1_1 : w3.cell? ⟨w2.heap.size, 1, none⟩ = some (.slice bd m bcap) := by subst hhw3; go_simp
  have zw3_1 : w2.heap.size < w3.heap.size := World.block_lt_of_cell? _ _ cw3_1_0
  have gw3 : Gr W w3 := by subst hhw3; have gg := gw2; have gs := gg.size; go_grown
  clear hhw3 gw2 zw2_0 cw2_0_0 cw2_0_1
  go_wp2_with fail
  go_at_call 10
  refine ((H3.out _ gw3)).mono ?_
  rintro e w4 ⟨rfl, hw4⟩
  have cw4_0_0 : w4.cell? ⟨W.heap.size, 0, none⟩ = some (.int .i64 4) := cell_gr hw4 (by go_simp)
  have cw4_0_1 : w4.cell? ⟨W.heap.size, 1, none⟩ = some (.slice ad n cap) := cell_gr hw4 (by go_simp)
  have zw4_0 : W.heap.size < w4.heap.size := World.block_lt_of_cell? _ _ cw4_0_0
  have cw4_1_0 : w4.cell? ⟨w2.heap.size, 0, none⟩ = some (.int .i64 4) := cell_gr hw4 (by go_simp)
  have cw4_1_1 : w4.cell? ⟨w2.heap.size, 1, none⟩ = some (.slice bd m bcap) := cell_gr hw4 (by go_simp)
  have zw4_1 : w2.heap.size < w4.heap.size := World.block_lt_of_cell? _ _ cw4_1_0
  have gw4 : Gr W w4 := Gr.trans (by have gg := gw3; have gs := gg.size; go_grown) hw4
  clear hw4 gw3 zw3_0 cw3_0_0 cw3_0_1 zw3_1 cw3_1_0 cw3_1_1
  go_wp2_with fail
  try simp only [List.append]
  refine Od.wp_region_ord [(0, false), (1, false), (2, false), (3, true), (4, false), (5, false), (6, false), (7, false), (8, false), (9, true), (10, false), (11, false), (12, false), (13, false), (14, false), (15, false), (16, false), (17, false), (18, false), (19, false), (20, false), (21, true), (22, false), (23, false), (24, false), (25, false), (26, false), (27, false), (28, false), (29, false), (30, false), (31, false), (32, false), (33, false), (34, false), (35, false), (36, false), (37, false), (38, true), (39, false), (40, false), (41, false), (42, false), (43, false), (44, false), (45, false), (46, false), (47, false), (48, false), (49, false), (50, false), (51, false), (52, false), (53, false), (54, false), (55, false), (56, false), (57, false), (58, false), (59, true), (60, false), (61, false), (62, false), (63, false), (64, true), (65, false), (66, false)] (by kernel_rfl) (by kernel_rfl) ?_
  intro w5 hw5 KQ hKQ
  have cw5_0_0 : w5.cell? ⟨W.heap.size, 0, none⟩ = some (.int .i64 4) := cell_gr hw5 (by go_simp)
  have cw5_0_1 : w5.cell? ⟨W.heap.size, 1, none⟩ = some (.slice ad n cap) := cell_gr hw5 (by go_simp)
  have zw5_0 : W.heap.size < w5.heap.size := World.block_lt_of_cell? _ _ cw5_0_0
  have cw5_1_0 : w5.cell? ⟨w2.heap.size, 0, none⟩ = some (.int .i64 4) := cell_gr hw5 (by go_simp)
  have cw5_1_1 : w5.cell? ⟨w2.heap.size, 1, none⟩ = some (.slice bd m bcap) := cell_gr hw5 (by go_simp)
  have zw5_1 : w2.heap.size < w5.heap.size := World.block_lt_of_cell? _ _ cw5_1_0
  have gw5 : Gr W w5 := Gr.trans (by have gg := gw4; have gs := gg.size; go_grown) hw5
  clear gw4 zw4_0 cw4_0_0 cw4_0_1 zw4_1 cw4_1_0 cw4_1_1
  clear hw5
  repeat (first | (refine Od.wpO_skip (by simp only [List.getElem?_toArray, List.getElem?_cons_succ, List.getElem?_cons_zero] <;> rfl) rfl ?_; simp only [Act.put, List.setIfInBounds_toArray, List.set_cons_zero, List.set_cons_succ]) | (refine Od.wpO_pure (by simp only [List.getElem?_toArray, List.getElem?_cons_succ, List.getElem?_cons_zero] <;> rfl) rfl ?_; apply Exists.intro; refine ⟨?_, ?_⟩; (· intro wx gx; obtain ⟨mx, rfl⟩ := spread_of_gr gx; clear gx; all_goals (apply Od.pAt_of_quiet; intro K hK; go_big_quiet_op; first | exact hK _ rfl | (apply Exists.intro; refine ⟨fun _ => ?_, ?_⟩; (· fail); exact hK _ rfl))); try simp only [Act.put, List.setIfInBounds_toArray, List.set_cons_zero, List.set_cons_succ]))
  refine Od.wpO_call (by simp only [List.getElem?_toArray, List.getElem?_cons_succ, List.getElem?_cons_zero] <;> rfl) rfl ?_
  intro QS hQS
  go_wp2_with fail
  go_at_call 16
  (with_reducible refine ((H4.out _ gw5)).mono ?_)
  rintro e w6 ⟨rfl, hw6⟩
  go_wp2_with fail
  apply Exists.intro
  refine ⟨?_, hw6, ?_⟩
  · simp only [Act.put, List.setIfInBounds_toArray, List.set_cons_zero, List.set_cons_succ]; rfl
  have cw6_0_0 : w6.cell? ⟨W.heap.size, 0, none⟩ = some (.int .i64 4) := cell_gr hw6 (by go_simp)
  have cw6_0_1 : w6.cell? ⟨W.heap.size, 1, none⟩ = some (.slice ad n cap) := cell_gr hw6 (by go_simp)
  have zw6_0 : W.heap.size < w6.heap.size := World.block_lt_of_cell? _ _ cw6_0_0
  have cw6_1_0 : w6.cell? ⟨w2.heap.size, 0, none⟩ = some (.int .i64 4) := cell_gr hw6 (by go_simp)
  have cw6_1_1 : w6.cell? ⟨w2.heap.size, 1, none⟩ = some (.slice bd m bcap) := cell_gr hw6 (by go_simp)
  have zw6_1 : w2.heap.size < w6.heap.size := World.block_lt_of_cell? _ _ cw6_1_0
  have gw6 : Gr W w6 := Gr.trans (by have gg := gw5; have gs := gg.size; go_grown) hw6
  clear gw5 zw5_0 cw5_0_0 cw5_0_1 zw5_1 cw5_1_0 cw5_1_1
  clear hw6
  try simp only [Act.put, List.setIfInBounds_toArray, List.set_cons_zero, List.set_cons_succ]
  repeat (first | (refine Od.wpO_skip (by simp only [List.getElem?_toArray, List.getElem?_cons_succ, List.getElem?_cons_zero] <;> rfl) rfl ?_; simp only [Act.put, List.setIfInBounds_toArray, List.set_cons_zero, List.set_cons_succ]) | (refine Od.wpO_pure (by simp only [List.getElem?_toArray, List.getElem?_cons_succ, List.getElem?_cons_zero] <;> rfl) rfl ?_; apply Exists.intro; refine ⟨?_, ?_⟩; (· intro wx gx; obtain ⟨mx, rfl⟩ := spread_of_gr gx; clear gx; all_goals (apply Od.pAt_of_quiet; intro K hK; go_big_quiet_op; first | exact hK _ rfl | (apply Exists.intro; refine ⟨fun _ => ?_, ?_⟩; (· fail); exact hK _ rfl))); try simp only [Act.put, List.setIfInBounds_toArray, List.set_cons_zero, List.set_cons_succ]))
  refine Od.wpO_call (by simp only [List.getElem?_toArray, List.getElem?_cons_succ, List.getElem?_cons_zero] <;> rfl) rfl ?_
  intro QS hQS
  go_wp2_with fail
  go_at_call 10
  (with_reducible refine ((H5.out _ gw6)).mono ?_)
  rintro e w7 ⟨rfl, hw7⟩
  go_wp2_with fail
  apply Exists.intro
  refine ⟨?_, hw7, ?_⟩
  · simp only [Act.put, List.setIfInBounds_toArray, List.set_cons_zero, List.set_cons_succ]; rfl
  have cw7_0_0 : w7.cell? ⟨W.heap.size, 0, none⟩ = some (.int .i64 4) := cell_gr hw7 (by go_simp)
  have cw7_0_1 : w7.cell? ⟨W.heap.size, 1, none⟩ = some (.slice ad n cap) := cell_gr hw7 (by go_simp)
  have zw7_0 : W.heap.size < w7.heap.size := World.block_lt_of_cell? _ _ cw7_0_0
  have cw7_1_0 : w7.cell? ⟨w2.heap.size, 0, none⟩ = some (.int .i64 4) := cell_gr hw7 (by go_simp)
  have cw7_1_1 : w7.cell? ⟨w2.heap.size, 1, none⟩ = some (.slice bd m bcap) := cell_gr hw7 (by go_simp)
  have zw7_1 : w2.heap.size < w7.heap.size := World.block_lt_of_cell? _ _ cw7_1_0
  have gw7 : Gr W w7 := Gr.trans (by have gg := gw6; have gs := gg.size; go_grown) hw7
  clear gw6 zw6_0 cw6_0_0 cw6_0_1 zw6_1 cw6_1_0 cw6_1_1
  clear hw7
  try simp only [Act.put, List.setIfInBounds_toArray, List.set_cons_zero, List.set_cons_succ]
  repeat (first | (refine Od.wpO_skip (by simp only [List.getElem?_toArray, List.getElem?_cons_succ, List.getElem?_cons_zero] <;> rfl) rfl ?_; simp only [Act.put, List.setIfInBounds_toArray, List.set_cons_zero, List.set_cons_succ]) | (refine Od.wpO_pure (by simp only [List.getElem?_toArray, List.getElem?_cons_succ, List.getElem?_cons_zero] <;> rfl) rfl ?_; apply Exists.intro; refine ⟨?_, ?_⟩; (· intro wx gx; obtain ⟨mx, rfl⟩ := spread_of_gr gx; clear gx; all_goals (apply Od.pAt_of_quiet; intro K hK; go_big_quiet_op; first | exact hK _ rfl | (apply Exists.intro; refine ⟨fun _ => ?_, ?_⟩; (· fail); exact hK _ rfl))); try simp only [Act.put, List.setIfInBounds_toArray, List.set_cons_zero, List.set_cons_succ]))
  refine Od.wpO_call (by simp only [List.getElem?_toArray, List.getElem?_cons_succ, List.getElem?_cons_zero] <;> rfl) rfl ?_
  intro QS hQS
  go_wp2_with fail
  go_at_call 10
  (with_reducible refine ((H6.out _ gw7)).mono ?_)
  rintro e w8 ⟨rfl, hw8⟩
  go_wp2_with fail
  apply Exists.intro
  refine ⟨?_, hw8, ?_⟩
  · simp only [Act.put, List.setIfInBounds_toArray, List.set_cons_zero, List.set_cons_succ]; rfl
  have cw8_0_0 : w8.cell? ⟨W.heap.size, 0, none⟩ = some (.int .i64 4) := cell_gr hw8 (by go_simp)
  have cw8_0_1 : w8.cell? ⟨W.heap.size, 1, none⟩ = some (.slice ad n cap) := cell_gr hw8 (by go_simp)
  have zw8_0 : W.heap.size < w8.heap.size := World.block_lt_of_cell? _ _ cw8_0_0
  have cw8_1_0 : w8.cell? ⟨w2.heap.size, 0, none⟩ = some (.int .i64 4) := cell_gr hw8 (by go_simp)
  have cw8_1_1 : w8.cell? ⟨w2.heap.size, 1, none⟩ = some (.slice bd m bcap) := cell_gr hw8 (by go_simp)
  have zw8_1 : w2.heap.size < w8.heap.size := World.block_lt_of_cell? _ _ cw8_1_0
  have gw8 : Gr W w8 := Gr.trans (by have gg := gw7; have gs := gg.size; go_grown) hw8
  clear gw7 zw7_0 cw7_0_0 cw7_0_1 zw7_1 cw7_1_0 cw7_1_1
  clear hw8
  try simp only [Act.put, List.setIfInBounds_toArray, List.set_cons_zero, List.set_cons_succ]
  repeat (first | (refine Od.wpO_skip (by simp only [List.getElem?_toArray, List.getElem?_cons_succ, List.getElem?_cons_zero] <;> rfl) rfl ?_; simp only [Act.put, List.setIfInBounds_toArray, List.set_cons_zero, List.set_cons_succ]) | (refine Od.wpO_pure (by simp only [List.getElem?_toArray, List.getElem?_cons_succ, List.getElem?_cons_zero] <;> rfl) rfl ?_; apply Exists.intro; refine ⟨?_, ?_⟩; (· intro wx gx; obtain ⟨mx, rfl⟩ := spread_of_gr gx; clear gx; all_goals (apply Od.pAt_of_quiet; intro K hK; go_big_quiet_op; first | exact hK _ rfl | (apply Exists.intro; refine ⟨fun _ => ?_, ?_⟩; (· fail); exact hK _ rfl))); try simp only [Act.put, List.setIfInBounds_toArray, List.set_cons_zero, List.set_cons_succ]))
  refine Od.wpO_call (by simp only [List.getElem?_toArray, List.getElem?_cons_succ, List.getElem?_cons_zero] <;> rfl) rfl ?_
  intro QS hQS
  go_wp2_with fail
  go_at_call 7
  (with_reducible refine ((H7.out _ gw8)).mono ?_)
  rintro e w9 ⟨rfl, hw9⟩
  go_wp2_with fail
  apply Exists.intro
  refine ⟨?_, hw9, ?_⟩
  · simp only [Act.put, List.setIfInBounds_toArray, List.set_cons_zero, List.set_cons_succ]; rfl
  have cw9_0_0 : w9.cell? ⟨W.heap.size, 0, none⟩ = some (.int .i64 4) := cell_gr hw9 (by go_simp)
  have cw9_0_1 : w9.cell? ⟨W.heap.size, 1, none⟩ = some (.slice ad n cap) := cell_gr hw9 (by go_simp)
  have zw9_0 : W.heap.size < w9.heap.size := World.block_lt_of_cell? _ _ cw9_0_0
  have cw9_1_0 : w9.cell? ⟨w2.heap.size, 0, none⟩ = some (.int .i64 4) := cell_gr hw9 (by go_simp)
  have cw9_1_1 : w9.cell? ⟨w2.heap.size, 1, none⟩ = some (.slice bd m bcap) := cell_gr hw9 (by go_simp)
  have zw9_1 : w2.heap.size < w9.heap.size := World.block_lt_of_cell? _ _ cw9_1_0
  have gw9 : Gr W w9 := Gr.trans (by have gg := gw8; have gs := gg.size; go_grown) hw9
  clear gw8 zw8_0 cw8_0_0 cw8_0_1 zw8_1 cw8_1_0 cw8_1_1
  clear hw9
  try simp only [Act.put, List.setIfInBounds_toArray, List.set_cons_zero, List.set_cons_succ]
  repeat (first | (refine Od.wpO_skip (by simp only [List.getElem?_toArray, List.getElem?_cons_succ, List.getElem?_cons_zero] <;> rfl) rfl ?_; simp only [Act.put, List.setIfInBounds_toArray, List.set_cons_zero, List.set_cons_succ]) | (refine Od.wpO_pure (by simp only [List.getElem?_toArray, List.getElem?_cons_succ, List.getElem?_cons_zero] <;> rfl) rfl ?_; apply Exists.intro; refine ⟨?_, ?_⟩; (· intro wx gx; obtain ⟨mx, rfl⟩ := spread_of_gr gx; clear gx; all_goals (apply Od.pAt_of_quiet; intro K hK; go_big_quiet_op; first | exact hK _ rfl | (apply Exists.intro; refine ⟨fun _ => ?_, ?_⟩; (· fail); exact hK _ rfl))); try simp only [Act.put, List.setIfInBounds_toArray, List.set_cons_zero, List.set_cons_succ]))
  refine Od.wpO_nil (hKQ _ _ ?_)
  clear hKQ KQ
  go_wp2_with fail
  go_ret
  exact ⟨rfl, gw9⟩
set_option maxHeartbeats 8000000 in
set_option maxRecDepth 100000 in
theorem cross_far {n m cap bcap : Nat} {ad bd : Option Addr} (k : Int) (t : Bool) (W : World) (hc : 64 < m ∨ 64 < n ∨ (m ≤ 64 ∧ n ≤ 64 ∧ t = false))
    (A1 : ∀ w, Gr W w → Calls Tryd.prog 5 #[.agg #[.int .i64 k, .slice ad n cap]] w fun e w' => e = .returned (.bool t) ∧ Gr w w')
    (A7 : ∀ w, Gr W w → Calls Tryd.prog 7 #[] w fun e w' => e = .returned (.bool true) ∧ Gr w w') :
    Calls Tryd.prog 4 #[.slice bd m bcap, .agg #[.int .i64 k, .slice ad n cap]] W fun e w' => e = .returned (.bool true) ∧ Gr W w' := by
  have H1 := Lib.hid A1
  have H7 := Lib.hid A7
  clear A1 A7
  by_cases c1 : 64 < m
  · have t3 : decide ((64 : Int) < (m : Int)) = true := decide_eq_true (by omega)
    have t4 : decide (64 < m) = true := decide_eq_true (by omega)
    clear hc c1
    go_enter Tryd.func4, Tryd.ntmps4
    go_wp2_with fail
    go_at_call 7
    refine ((H7.out _ (by go_grown))).mono ?_
    rintro e w1 ⟨rfl, hw1⟩
    have gw1 : Gr W w1 := Gr.trans (by go_grown) hw1
    clear hw1
    go_wp2_with fail
    go_ret
    exact ⟨rfl, gw1⟩
  have t3 : decide ((64 : Int) < (m : Int)) = false := decide_eq_false (by omega)
  have t4 : decide (64 < m) = false := decide_eq_false (by omega)
  by_cases c2 : 64 < n
  · have t5 : decide ((64 : Int) < (n : Int)) = true := decide_eq_true (by omega)
    have t6 : decide (64 < n) = true := decide_eq_true (by omega)
    clear hc c1 c2
    go_enter Tryd.func4, Tryd.ntmps4
    go_wp2_with fail
    go_at_call 7
    refine ((H7.out _ (by go_grown))).mono ?_
    rintro e w1 ⟨rfl, hw1⟩
    have cw1_0_0 : w1.cell? ⟨W.heap.size, 0, none⟩ = some (.int .i64 k) := cell_gr hw1 (by go_simp)
    have cw1_0_1 : w1.cell? ⟨W.heap.size, 1, none⟩ = some (.slice ad n cap) := cell_gr hw1 (by go_simp)
    have zw1_0 : W.heap.size < w1.heap.size := World.block_lt_of_cell? _ _ cw1_0_0
    have gw1 : Gr W w1 := Gr.trans (by go_grown) hw1
    clear hw1
    go_wp2_with fail
    go_ret
    exact ⟨rfl, gw1⟩
  have t5 : decide ((64 : Int) < (n : Int)) = false := decide_eq_false (by omega)
  have t6 : decide (64 < n) = false := decide_eq_false (by omega)
  obtain rfl : t = false := by rcases hc with h | h | h <;> first | omega | exact h.2.2
  clear hc c1 c2
  go_enter Tryd.func4, Tryd.ntmps4
  go_wp2_with fail
  go_at_call 5
  refine ((H1.out _ (by go_grown))).mono ?_
  rintro e w1 ⟨rfl, hw1⟩
  have cw1_0_0 : w1.cell? ⟨W.heap.size, 0, none⟩ = some (.int .i64 k) := cell_gr hw1 (by go_simp)
  have cw1_0_1 : w1.cell? ⟨W.heap.size, 1, none⟩ = some (.slice ad n cap) := cell_gr hw1 (by go_simp)
  have zw1_0 : W.heap.size < w1.heap.size := World.block_lt_of_cell? _ _ cw1_0_0
  have gw1 : Gr W w1 := Gr.trans (by go_grown) hw1
  clear hw1
  go_wp2_with fail
  go_at_call 7
  refine ((H7.out _ gw1)).mono ?_
  rintro e w2 ⟨rfl, hw2⟩
  have cw2_0_0 : w2.cell? ⟨W.heap.size, 0, none⟩ = some (.int .i64 k) := cell_gr hw2 (by go_simp)
  have cw2_0_1 : w2.cell? ⟨W.heap.size, 1, none⟩ = some (.slice ad n cap) := cell_gr hw2 (by go_simp)
  have zw2_0 : W.heap.size < w2.heap.size := World.block_lt_of_cell? _ _ cw2_0_0
  have gw2 : Gr W w2 := Gr.trans (by have gg := gw1; have gs := gg.size; go_grown) hw2
  clear hw2 gw1 zw1_0 cw1_0_0 cw1_0_1
  go_wp2_with fail
  go_ret
  exact ⟨rfl, gw2⟩
set_option maxHeartbeats 8000000 in
set_option maxRecDepth 100000 in
theorem cross_none {n m cap bcap c c9 : Nat} {ad bd : Option Addr} (k : Int) (W : World) (hm : m ≤ 64) (hn : n ≤ 64) (h0 : c ≠ 0)
    (A1 : ∀ w, Gr W w → Calls Tryd.prog 5 #[.agg #[.int .i64 k, .slice ad n cap]] w fun e w' => e = .returned (.bool true) ∧ Gr w w')
    (A2 : ∀ w, Gr W w → Calls Tryd.prog 15 #[.slice bd m bcap] w fun e w' => e = .returned (.tuple #[.int .i64 (c : Nat), .int .i64 (c9 : Nat)]) ∧ Gr w w')
    (A3 : ∀ w, Gr W w → Calls Tryd.prog 10 #[.agg #[.int .i64 k, .slice ad n cap], qryV 4 0 0 0 0 (.slice bd m bcap)] w fun e w' => e = .returned (.bool false) ∧ Gr w w')
    (A7 : ∀ w, Gr W w → Calls Tryd.prog 7 #[] w fun e w' => e = .returned (.bool true) ∧ Gr w w') :
    Calls Tryd.prog 4 #[.slice bd m bcap, .agg #[.int .i64 k, .slice ad n cap]] W fun e w' => e = .returned (.bool true) ∧ Gr W w' := by
  have t3 : decide ((64 : Int) < (m : Int)) = false := decide_eq_false (by omega)
  have t4 : decide (64 < m) = false := decide_eq_false (by omega)
  have t5 : decide ((64 : Int) < (n : Int)) = false := decide_eq_false (by omega)
  have t6 : decide (64 < n) = false := decide_eq_false (by omega)
  have e1 : ((c : Int) != 0) = true := by simp; omega
  have e2 : (c != 0) = true := by simp; omega
  have H1 := Lib.hid A1
  have H2 := Lib.hid A2
  have H3 := Lib.hid A3
  have H7 := Lib.hid A7
  clear A1 A2 A3 A7
  clear hm hn h0
  go_enter Tryd.func4, Tryd.ntmps4
  go_wp2_with fail
  go_at_call 5
  refine ((H1.out _ (by go_grown))).mono ?_
  rintro e w1 ⟨rfl, hw1⟩
  have cw1_0_0 : w1.cell? ⟨W.heap.size, 0, none⟩ = some (.int .i64 k) := cell_gr hw1 (by go_simp)
  have cw1_0_1 : w1.cell? ⟨W.heap.size, 1, none⟩ = some (.slice ad n cap) := cell_gr hw1 (by go_simp)
  have zw1_0 : W.heap.size < w1.heap.size := World.block_lt_of_cell? _ _ cw1_0_0
  have gw1 : Gr W w1 := Gr.trans (by go_grown) hw1
  clear hw1
  go_wp2_with fail
  go_at_call 15
  refine ((H2.out _ gw1)).mono ?_
  rintro e w2 ⟨rfl, hw2⟩
  have cw2_0_0 : w2.cell? ⟨W.heap.size, 0, none⟩ = some (.int .i64 k) := cell_gr hw2 (by go_simp)
  have cw2_0_1 : w2.cell? ⟨W.heap.size, 1, none⟩ = some (.slice ad n cap) := cell_gr hw2 (by go_simp)
  have zw2_0 : W.heap.size < w2.heap.size := World.block_lt_of_cell? _ _ cw2_0_0
  have gw2 : Gr W w2 := Gr.trans (by have gg := gw1; have gs := gg.size; go_grown) hw2
  clear hw2 gw1 zw1_0 cw1_0_0 cw1_0_1
  go_wp2_with fail
  go_at_call 10
  refine ((H3.out _ gw2)).mono ?_
  rintro e w3 ⟨rfl, hw3⟩
  have cw3_0_0 : w3.cell? ⟨W.heap.size, 0, none⟩ = some (.int .i64 k) := cell_gr hw3 (by go_simp)
  have cw3_0_1 : w3.cell? ⟨W.heap.size, 1, none⟩ = some (.slice ad n cap) := cell_gr hw3 (by go_simp)
  have zw3_0 : W.heap.size < w3.heap.size := World.block_lt_of_cell? _ _ cw3_0_0
  have gw3 : Gr W w3 := Gr.trans (by have gg := gw2; have gs := gg.size; go_grown) hw3
  clear hw3 gw2 zw2_0 cw2_0_0 cw2_0_1
  go_wp2_with fail
  go_at_call 7
  refine ((H7.out _ gw3)).mono ?_
  rintro e w4 ⟨rfl, hw4⟩
  have cw4_0_0 : w4.cell? ⟨W.heap.size, 0, none⟩ = some (.int .i64 k) := cell_gr hw4 (by go_simp)
  have cw4_0_1 : w4.cell? ⟨W.heap.size, 1, none⟩ = some (.slice ad n cap) := cell_gr hw4 (by go_simp)
  have zw4_0 : W.heap.size < w4.heap.size := World.block_lt_of_cell? _ _ cw4_0_0
  have gw4 : Gr W w4 := Gr.trans (by have gg := gw3; have gs := gg.size; go_grown) hw4
  clear hw4 gw3 zw3_0 cw3_0_0 cw3_0_1
  go_wp2_with fail
  go_ret
  exact ⟨rfl, gw4⟩
theorem qC_4 (a b c d : Int) (m : Nat) (P Q : Nat → Int) : qC 4 a b c d m P Q = (Rg.ringC m P Q).1 := by unfold qC; rw [if_neg (by decide), if_neg (by decide), if_pos rfl]
theorem walk_RelCross (W : World) (u : Value) (k : Int) (v : Value) (hu : ∃ (n : Nat) (X Y : Nat → Int), Pts W u n X Y) (h : (-9223372036854775808 ≤ k ∧ k ≤ 9223372036854775807) ∧ ∃ (n : Nat) (X Y : Nat → Int), Pts W v n X Y) (hE : ErrT W) :
    Calls Tryd.prog 4 #[u, .agg #[.int .i64 k, v]] W fun e w' => e = .returned (.bool true) ∧ Gr W w' := by
  obtain ⟨-, n, X, Y, h⟩ := h
  obtain ⟨m, P, Q, hu⟩ := hu
  have A7 : ∀ w, Gr W w → Calls Tryd.prog 7 #[] w fun e w' => e = .returned (.bool true) ∧ Gr w w' := fun w g => p6_awake w (errT_gr hE g)
  have A1 := fun w (g : Gr W w) => c_May6 k w (pts_gr h g)
  by_cases far : 64 < m ∨ 64 < n ∨ (m ≤ 64 ∧ n ≤ 64 ∧ decide (objC k n X Y = 0) = false)
  · obtain ⟨ad, cap, B, off, rfl, _⟩ := h
    obtain ⟨bd, bcap, C, oc, rfl, _⟩ := hu
    exact cross_far k _ W far A1 A7
  have hm : m ≤ 64 := by omega
  have hn : n ≤ 64 := by omega
  have hc : objC k n X Y = 0 := by
    by_cases c : objC k n X Y = 0
    · exact c
    · exact absurd (Or.inr (Or.inr ⟨hm, hn, decide_eq_false c⟩)) far
  rw [decide_eq_true hc] at A1
  have A2 := fun w (g : Gr W w) => c_CheckRing w (pts_gr hu g)
  unfold RRingTo at A2
  have A3 := fun w (g : Gr W w) => c_MatchG (k := k) 4 0 0 0 0 w (errT_gr hE g) (pts_gr h g) (pts_gr hu g)
  rw [qC_4, decide_eq_true hc, Bool.true_and] at A3
  by_cases h0 : (Rg.ringC m P Q).1 = 0
  · rw [decide_eq_true h0, Bool.true_and] at A3
    rw [h0] at A2
    have A4 := fun w (g : Gr W w) => c_TouchAny (k := k) (j := 4) w (errT_gr hE g) (pts_gr h g) (pts_gr hu g)
    rw [objC_4, decide_eq_true hc, decide_eq_true h0, Bool.true_and, Bool.true_and] at A4
    have A5 := fun w (g : Gr W w) => c_MatchG (k := 4) 4 0 0 0 0 w (errT_gr hE g) (pts_gr hu g) (pts_gr hu g)
    rw [qC_4, objC_4, decide_eq_true h0, Bool.true_and, Bool.true_and] at A5
    have e5 : maA 4 m P Q 4 0 0 0 0 m P Q = true := by
      unfold maA mpV
      rw [if_pos rfl, if_neg (by decide), if_neg (by decide), if_pos rfl, rg_doc h0 h0]
      exact rgD_self h0
    rw [e5] at A5
    have e4 : tcA k n X Y 4 m P Q = maA k n X Y 4 0 0 0 0 m P Q := by
      unfold tcA maA mpV msV
      rw [if_pos rfl]
      by_cases k4 : k = 4
      · rw [if_pos k4, if_pos k4, if_neg (by decide), if_neg (by decide), if_pos rfl]
      · rw [if_neg k4, if_neg k4, if_neg (by decide), if_neg (by decide), if_pos rfl]
    rw [e4] at A4
    have hh := h
    have hv := hu
    by_cases k4 : k = 4
    · subst k4
      rw [objC_4] at hc
      have A6 := fun w (g : Gr W w) => c_MatchG (k := 4) 4 0 0 0 0 w (errT_gr hE g) (pts_gr hu g) (pts_gr h g)
      have e6 : maA 4 m P Q 4 0 0 0 0 n X Y = maA 4 n X Y 4 0 0 0 0 m P Q := by
        unfold maA mpV
        rw [if_pos rfl, if_neg (by decide), if_neg (by decide), if_pos rfl, rg_doc h0 hc, if_pos rfl, if_neg (by decide), if_neg (by decide), if_pos rfl, rg_doc hc h0, rgD_comm]
      rw [qC_4, objC_4, decide_eq_true h0, decide_eq_true hc, Bool.true_and, Bool.true_and, e6] at A6
      obtain ⟨ad, cap, B, off, rfl, _⟩ := h
      obtain ⟨bd, bcap, C, oc, rfl, _⟩ := hu
      exact cross_4 (c9 := (Rg.ringC m P Q).2) _ W hm hn A1 A2 A3 A4 A5 A6 A7
    · obtain ⟨hk, e, e0⟩ := obj_box hc k4
      have bo := boxB_iff.1 (boxN_0.1 e0)
      have en : maA k n X Y 4 0 0 0 0 m P Q = rmV m P Q (X 0) (oLy k Y) (oHx k X Y) (oHy k Y) := by
        unfold maA msV
        rw [if_neg k4, if_neg (by decide), if_neg (by decide), if_pos rfl]
      rw [en] at A3 A4
      unfold oLy oHx oHy at A3 A4 e0
      have hz : Pts W (.slice none 0 0) 0 (fun _ => 0) (fun _ => 0) := nil_pts W
      obtain ⟨bd, bcap, C, oc, rfl, _⟩ := hu
      obtain ⟨ad, cap, B, off, rfl, q1, q2, q3, q4⟩ := h
      rcases hk with ⟨rfl, rfl⟩ | ⟨rfl, rfl⟩ | ⟨rfl, rfl⟩
      · obtain rfl := q3 (by omega)
        obtain ⟨c0, c1⟩ := q4 0 (by omega)
        rw [Nat.zero_mul, Nat.add_zero] at c0 c1
        have A6 := fun w (g : Gr W w) => c_MatchG (k := 4) 3 (X 0) (Y 0) 0 0 w (errT_gr hE g) (pts_gr hv g) (pts_gr hz g)
        have nr : nearB (X 0) (Y 0) = true := bo.1.1
        have q6 : qC 3 (X 0) (Y 0) 0 0 0 (fun _ => 0) (fun _ => 0) = 0 := by unfold qC; rw [if_neg (by decide), if_pos rfl, if_pos nr]
        have e6 : maA 4 m P Q 3 (X 0) (Y 0) 0 0 0 (fun _ => 0) (fun _ => 0) = rmV m P Q (X 0) (Y 0) (X 0) (Y 0) := by
          unfold maA mpV
          rw [if_pos rfl, if_neg (by decide), if_pos rfl]
        rw [objC_4, decide_eq_true h0, decide_eq_true q6, Bool.true_and, Bool.true_and, e6] at A6
        exact cross_1 (c9 := (Rg.ringC m P Q).2) _ W hm c0 c1 A1 A2 A3 A4 A5 A6 A7
      · exact cross_2 (c9 := (Rg.ringC m P Q).2) _ W hm A1 A2 A3 A4 A5 A7
      · obtain rfl := q3 (by omega)
        obtain ⟨c0, c1⟩ := q4 0 (by omega)
        obtain ⟨c2, c3⟩ := q4 1 (by omega)
        rw [Nat.zero_mul, Nat.add_zero] at c0 c1
        rw [Nat.one_mul] at c2 c3
        have A6 := fun w (g : Gr W w) => c_MatchG (k := 4) 1 (X 0) (Y 0) (X 1) (Y 1) w (errT_gr hE g) (pts_gr hv g) (pts_gr hz g)
        have q6 : qC 1 (X 0) (Y 0) (X 1) (Y 1) 0 (fun _ => 0) (fun _ => 0) = 0 := by unfold qC; rw [if_pos (Or.inl rfl)]; exact e0
        have e6 : maA 4 m P Q 1 (X 0) (Y 0) (X 1) (Y 1) 0 (fun _ => 0) (fun _ => 0) = rmV m P Q (X 0) (Y 0) (X 1) (Y 1) := by
          unfold maA mpV
          rw [if_pos rfl, if_neg (by decide), if_neg (by decide), if_neg (by decide)]
        rw [objC_4, decide_eq_true h0, decide_eq_true q6, Bool.true_and, Bool.true_and, e6] at A6
        exact cross_3 (c9 := (Rg.ringC m P Q).2) _ W hm c0 c1 c2 c3 A1 A2 A3 A4 A5 A6 A7
  · rw [decide_eq_false h0, Bool.false_and] at A3
    obtain ⟨ad, cap, B, off, rfl, _⟩ := h
    obtain ⟨bd, bcap, C, oc, rfl, _⟩ := hu
    exact cross_none k W hm hn h0 A1 A2 A3 A7
end Go.Proofs.YtfobmlgpjhghdaaDoor
namespace Go.Proofs.YtfobmlgpjhghdaaDoor.Qs
open Go.ChangeShapes Go.WideShapes
theorem laid : laidOutB Tryd.prog = true := by kernel_rfl
theorem laidP : laidOutB Tryd.pinned.checked.prog = true := laid
theorem maps : mapsRowed Tryd.pinned.checked.prog = true := by kernel_rfl
end Go.Proofs.YtfobmlgpjhghdaaDoor.Qs
