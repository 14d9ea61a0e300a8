/- RingAsks -/
import Derived.Test.YtkodmfkchbbmiaaDoorGu
import Derived.Test.YtkodmfkchbbmiaaDoorGm
import Derived.Test.YtkodmfkchbbmiaaDoorGq
namespace Go.Proofs.YtkodmfkchbbmiaaDoor
set_option linter.unusedVariables false
set_option linter.unusedSimpArgs false
open Go.ChangeShapes Go.WideShapes Go.ChangeAt Go.RowKit

set_option maxHeartbeats 8000000 in
set_option maxRecDepth 100000 in
theorem asks_core (ad : Option Addr) (n cap k id : Nat) (px py m1 m2 m3 m4 T : Int) (lf hs ed : Bool) (W : World) (hE : ErrT W)
    (A0 : ∀ w, Gr W w → Calls Tryd.prog 11 #[.slice ad n cap] w fun e w' => e = .returned (.bool true) ∧ Gr w w')
    (A1 : ∀ w, Gr W w → Calls Tryd.prog 13 #[.slice ad n cap] w fun e w' => e = .returned (.tuple #[.int .i64 k, .int .i64 id]) ∧ Gr w w')
    (A2 : ∀ w, Gr W w → Calls Tryd.prog 14 #[.slice ad n cap] w fun e w' => ∃ f, e = .returned (.tuple #[.agg #[.int .i64 m1, .int .i64 m2, .int .i64 m3, .int .i64 m4], f]) ∧ AErr ringS w' f id k ∧ Gr w w')
    (A3 : ∀ w, Gr W w → Calls Tryd.prog 15 #[.slice ad n cap] w fun e w' => e = .returned (.tuple #[.agg #[.int .i64 m1, .int .i64 m2, .int .i64 m3, .int .i64 m4], .int .i64 k, .int .i64 id]) ∧ Gr w w')
    (A4 : ∀ w, Gr W w → Calls Tryd.prog 17 #[.slice ad n cap] w fun e w' => ∃ f, e = .returned f ∧ AErr ringS w' f id k ∧ Gr w w')
    (A5 : ∀ w, Gr W w → Calls Tryd.prog 19 #[.slice ad n cap] w fun e w' => e = .returned (.agg #[.int .u64 0, .int .u64 T]) ∧ Gr w w')
    (A6 : ∀ w, Gr W w → Calls Tryd.prog 20 #[.slice ad n cap] w fun e w' => e = .returned (.agg #[.int .u64 0, .int .u64 T]) ∧ Gr w w')
    (A7 : ∀ w, Gr W w → Calls Tryd.prog 21 #[.slice ad n cap] w fun e w' => e = .returned (.bool lf) ∧ Gr w w')
    (A8 : ∀ w, Gr W w → Calls Tryd.prog 22 #[.slice ad n cap] w fun e w' => e = .returned (.bool lf) ∧ Gr w w')
    (A9 : ∀ w, Gr W w → Calls Tryd.prog 23 #[.slice ad n cap, .agg #[.int .i64 px, .int .i64 py]] w fun e w' => e = .returned (.bool hs) ∧ Gr w w')
    (A10 : ∀ w, Gr W w → Calls Tryd.prog 24 #[.slice ad n cap, .agg #[.int .i64 px, .int .i64 py]] w fun e w' => e = .returned (.bool hs) ∧ Gr w w')
    (A11 : ∀ w, Gr W w → Calls Tryd.prog 25 #[.slice ad n cap, .agg #[.int .i64 px, .int .i64 py]] w fun e w' => e = .returned (.bool ed) ∧ Gr w w')
    (A12 : ∀ w, Gr W w → Calls Tryd.prog 26 #[.slice ad n cap, .agg #[.int .i64 px, .int .i64 py]] w fun e w' => e = .returned (.bool ed) ∧ Gr w w') :
    Calls Tryd.prog 3 #[.slice ad n cap, .agg #[.int .i64 px, .int .i64 py]] W fun e w' => e = .returned (.bool true) ∧ Gr W w' := by
  have A13 := fun w (g : Gr W w) => g5_awake w (errT_gr hE g)
  have A14 := fun (w : World) (z : Value) (g : Gr W w) (hz : AErr ringS w z id k) => c_AlIs_aerr w (errT_gr hE g) hz
  have b0 : (lf == lf) = true := by simp
  have b1 : (hs == hs) = true := by simp
  have b2 : (ed == ed) = true := by simp
  clear hE
  have H0 := Lib.hid A0
  have H1 := Lib.hid A1
  have H2 := Lib.hid A2
  have H3 := Lib.hid A3
  have H4 := Lib.hid A4
  have H5 := Lib.hid A5
  have H6 := Lib.hid A6
  have H7 := Lib.hid A7
  have H8 := Lib.hid A8
  have H9 := Lib.hid A9
  have H10 := Lib.hid A10
  have H11 := Lib.hid A11
  have H12 := Lib.hid A12
  have H13 := Lib.hid A13
  have H14 := Lib.hid A14
  clear A0 A1 A2 A3 A4 A5 A6 A7 A8 A9 A10 A11 A12 A13 A14
  go_enter Tryd.func3, Tryd.ntmps3
  go_wp2_with fail
  go_at_call 11
  refine ((H0.out _ (by go_grown))).mono ?_
  rintro e w1 ⟨rfl, hw1⟩
  have cw1_0_0 : w1.cell? ⟨W.heap.size, 0, none⟩ = some (.int .i64 px) := cell_gr hw1 (by go_simp)
  have cw1_0_1 : w1.cell? ⟨W.heap.size, 1, none⟩ = some (.int .i64 py) := cell_gr hw1 (by go_simp)
  have zw1_0 : W.heap.size < w1.heap.size := World.block_lt_of_cell? _ _ cw1_0_0
  have gw1 : Gr W w1 := Gr.trans (by go_grown) hw1
  clear hw1
  go_wp2_with fail
  go_at_call 13
  refine ((H1.out _ gw1)).mono ?_
  rintro e w2 ⟨rfl, hw2⟩
  have cw2_0_0 : w2.cell? ⟨W.heap.size, 0, none⟩ = some (.int .i64 px) := cell_gr hw2 (by go_simp)
  have cw2_0_1 : w2.cell? ⟨W.heap.size, 1, none⟩ = some (.int .i64 py) := cell_gr hw2 (by go_simp)
  have zw2_0 : W.heap.size < w2.heap.size := World.block_lt_of_cell? _ _ cw2_0_0
  have gw2 : Gr W w2 := Gr.trans (by have gg := gw1; have gs := gg.size; go_grown) hw2
  clear hw2 gw1 zw1_0 cw1_0_0 cw1_0_1
  go_wp2_with fail
  go_at_call 14
  refine (H2.out _ gw2).mono ?_
  rintro e w3 ⟨f, rfl, hf, h3⟩
  have cw3_0_0 : w3.cell? ⟨W.heap.size, 0, none⟩ = some (.int .i64 px) := cell_gr h3 (by go_simp)
  have cw3_0_1 : w3.cell? ⟨W.heap.size, 1, none⟩ = some (.int .i64 py) := cell_gr h3 (by go_simp)
  have zw3_0 : W.heap.size < w3.heap.size := World.block_lt_of_cell? _ _ cw3_0_0
  have gw3 : Gr W w3 := Gr.trans gw2 h3
  have HF := Lib.hid hf
  clear hf h3 gw2 cw2_0_0 cw2_0_1 zw2_0 H0 H1 H2
  have G0 := Lib.hid gw3
  clear gw3
  go_wp2_with fail
  go_at_call 15
  refine ((H3.out _ (Gr.trans G0.out (by go_grown)))).mono ?_
  rintro e w4 ⟨rfl, hw4⟩
  have cw4_0_0 : w4.cell? ⟨W.heap.size, 0, none⟩ = some (.int .i64 px) := cell_gr hw4 (by go_simp)
  have cw4_0_1 : w4.cell? ⟨W.heap.size, 1, none⟩ = some (.int .i64 py) := cell_gr hw4 (by go_simp)
  have zw4_0 : W.heap.size < w4.heap.size := World.block_lt_of_cell? _ _ cw4_0_0
  have cw4_1_0 : w4.cell? ⟨w3.heap.size, 0, none⟩ = some (.int .i64 m1) := cell_gr hw4 (by go_simp)
  have cw4_1_1 : w4.cell? ⟨w3.heap.size, 1, none⟩ = some (.int .i64 m2) := cell_gr hw4 (by go_simp)
  have cw4_1_2 : w4.cell? ⟨w3.heap.size, 2, none⟩ = some (.int .i64 m3) := cell_gr hw4 (by go_simp)
  have cw4_1_3 : w4.cell? ⟨w3.heap.size, 3, none⟩ = some (.int .i64 m4) := cell_gr hw4 (by go_simp)
  have zw4_1 : w3.heap.size < w4.heap.size := World.block_lt_of_cell? _ _ cw4_1_0
  have gw4 : Gr w3 w4 := Gr.trans (by go_grown) hw4
  clear hw4
  clear H3
  go_wp2_with fail
  try simp only [List.append]
  refine Od.wp_region_ord [(0, false), (2, false), (3, false), (1, true), (4, true), (5, false), (6, false), (7, false), (8, false), (9, false), (10, false), (11, false), (12, false), (13, false), (14, true), (15, false), (16, false), (17, false), (20, false), (18, true), (19, true), (21, true), (22, false), (23, false), (24, false), (25, false), (27, false), (26, true), (28, true), (29, false), (30, false), (31, false), (32, false), (33, false), (35, false), (36, false), (34, true), (37, true), (38, false), (39, false), (40, false), (41, false), (42, false), (44, false), (45, false), (43, true), (46, true), (47, false), (48, false), (49, false), (50, true), (51, false), (52, false)] (by kernel_rfl) (by kernel_rfl) ?_
  intro w5 hw5 KQ hKQ
  have cw5_0_0 : w5.cell? ⟨W.heap.size, 0, none⟩ = some (.int .i64 px) := cell_gr hw5 (by go_simp)
  have cw5_0_1 : w5.cell? ⟨W.heap.size, 1, none⟩ = some (.int .i64 py) := cell_gr hw5 (by go_simp)
  have zw5_0 : W.heap.size < w5.heap.size := World.block_lt_of_cell? _ _ cw5_0_0
  have cw5_1_0 : w5.cell? ⟨w3.heap.size, 0, none⟩ = some (.int .i64 m1) := cell_gr hw5 (by go_simp)
  have cw5_1_1 : w5.cell? ⟨w3.heap.size, 1, none⟩ = some (.int .i64 m2) := cell_gr hw5 (by go_simp)
  have cw5_1_2 : w5.cell? ⟨w3.heap.size, 2, none⟩ = some (.int .i64 m3) := cell_gr hw5 (by go_simp)
  have cw5_1_3 : w5.cell? ⟨w3.heap.size, 3, none⟩ = some (.int .i64 m4) := cell_gr hw5 (by go_simp)
  have zw5_1 : w3.heap.size < w5.heap.size := World.block_lt_of_cell? _ _ cw5_1_0
  have cw5_2_0 : w5.cell? ⟨w4.heap.size, 0, none⟩ = some (.int .i64 m1) := cell_gr hw5 (by go_simp)
  have cw5_2_1 : w5.cell? ⟨w4.heap.size, 1, none⟩ = some (.int .i64 m2) := cell_gr hw5 (by go_simp)
  have cw5_2_2 : w5.cell? ⟨w4.heap.size, 2, none⟩ = some (.int .i64 m3) := cell_gr hw5 (by go_simp)
  have cw5_2_3 : w5.cell? ⟨w4.heap.size, 3, none⟩ = some (.int .i64 m4) := cell_gr hw5 (by go_simp)
  have zw5_2 : w4.heap.size < w5.heap.size := World.block_lt_of_cell? _ _ cw5_2_0
  have gw5 : Gr w3 w5 := Gr.trans (by have gg := gw4; have gs := gg.size; go_grown) hw5
  clear gw4 zw4_0 cw4_0_0 cw4_0_1 zw4_1 cw4_1_0 cw4_1_1 cw4_1_2 cw4_1_3
  clear hw5
  repeat (first | (refine Od.wpO_skip (by simp only [List.getElem?_toArray, List.getElem?_cons_succ, List.getElem?_cons_zero] <;> rfl) rfl ?_; simp only [Act.put, List.setIfInBounds_toArray, List.set_cons_zero, List.set_cons_succ]) | (refine Od.wpO_pure (by simp only [List.getElem?_toArray, List.getElem?_cons_succ, List.getElem?_cons_zero] <;> rfl) rfl ?_; apply Exists.intro; refine ⟨?_, ?_⟩; (· intro wx gx; obtain ⟨mx, rfl⟩ := spread_of_gr gx; clear gx; all_goals (apply Od.pAt_of_quiet; intro K hK; go_big_quiet_op; first | exact hK _ rfl | (apply Exists.intro; refine ⟨fun _ => ?_, ?_⟩; (· fail); exact hK _ rfl))); try simp only [Act.put, List.setIfInBounds_toArray, List.set_cons_zero, List.set_cons_succ]))
  refine Od.wpO_call (by simp only [List.getElem?_toArray, List.getElem?_cons_succ, List.getElem?_cons_zero] <;> rfl) rfl ?_
  intro QS hQS
  go_wp2_with fail
  go_at_call 17
  (with_reducible refine ((H4.out _ (Gr.trans G0.out gw5))).mono ?_)
  rintro e w6 ⟨z6, rfl, hz6, hw6⟩
  go_wp2_with fail
  apply Exists.intro
  refine ⟨?_, hw6, ?_⟩
  · simp only [Act.put, List.setIfInBounds_toArray, List.set_cons_zero, List.set_cons_succ]; rfl
  have cw6_0_0 : w6.cell? ⟨W.heap.size, 0, none⟩ = some (.int .i64 px) := cell_gr hw6 (by go_simp)
  have cw6_0_1 : w6.cell? ⟨W.heap.size, 1, none⟩ = some (.int .i64 py) := cell_gr hw6 (by go_simp)
  have zw6_0 : W.heap.size < w6.heap.size := World.block_lt_of_cell? _ _ cw6_0_0
  have cw6_1_0 : w6.cell? ⟨w3.heap.size, 0, none⟩ = some (.int .i64 m1) := cell_gr hw6 (by go_simp)
  have cw6_1_1 : w6.cell? ⟨w3.heap.size, 1, none⟩ = some (.int .i64 m2) := cell_gr hw6 (by go_simp)
  have cw6_1_2 : w6.cell? ⟨w3.heap.size, 2, none⟩ = some (.int .i64 m3) := cell_gr hw6 (by go_simp)
  have cw6_1_3 : w6.cell? ⟨w3.heap.size, 3, none⟩ = some (.int .i64 m4) := cell_gr hw6 (by go_simp)
  have zw6_1 : w3.heap.size < w6.heap.size := World.block_lt_of_cell? _ _ cw6_1_0
  have cw6_2_0 : w6.cell? ⟨w4.heap.size, 0, none⟩ = some (.int .i64 m1) := cell_gr hw6 (by go_simp)
  have cw6_2_1 : w6.cell? ⟨w4.heap.size, 1, none⟩ = some (.int .i64 m2) := cell_gr hw6 (by go_simp)
  have cw6_2_2 : w6.cell? ⟨w4.heap.size, 2, none⟩ = some (.int .i64 m3) := cell_gr hw6 (by go_simp)
  have cw6_2_3 : w6.cell? ⟨w4.heap.size, 3, none⟩ = some (.int .i64 m4) := cell_gr hw6 (by go_simp)
  have zw6_2 : w4.heap.size < w6.heap.size := World.block_lt_of_cell? _ _ cw6_2_0
  have gw6 : Gr w3 w6 := Gr.trans (by have gg := gw5; have gs := gg.size; go_grown) hw6
  clear gw5 zw5_0 cw5_0_0 cw5_0_1 zw5_1 cw5_1_0 cw5_1_1 cw5_1_2 cw5_1_3 zw5_2 cw5_2_0 cw5_2_1 cw5_2_2 cw5_2_3
  clear hw6
  try simp only [Act.put, List.setIfInBounds_toArray, List.set_cons_zero, List.set_cons_succ]
  repeat (first | (refine Od.wpO_skip (by simp only [List.getElem?_toArray, List.getElem?_cons_succ, List.getElem?_cons_zero] <;> rfl) rfl ?_; simp only [Act.put, List.setIfInBounds_toArray, List.set_cons_zero, List.set_cons_succ]) | (refine Od.wpO_pure (by simp only [List.getElem?_toArray, List.getElem?_cons_succ, List.getElem?_cons_zero] <;> rfl) rfl ?_; apply Exists.intro; refine ⟨?_, ?_⟩; (· intro wx gx; obtain ⟨mx, rfl⟩ := spread_of_gr gx; clear gx; all_goals (apply Od.pAt_of_quiet; intro K hK; go_big_quiet_op; first | exact hK _ rfl | (apply Exists.intro; refine ⟨fun _ => ?_, ?_⟩; (· fail); exact hK _ rfl))); try simp only [Act.put, List.setIfInBounds_toArray, List.set_cons_zero, List.set_cons_succ]))
  refine Od.wpO_call (by simp only [List.getElem?_toArray, List.getElem?_cons_succ, List.getElem?_cons_zero] <;> rfl) rfl ?_
  intro QS hQS
  go_wp2_with fail
  go_at_call 16
  (with_reducible refine ((H14.out _ _ (Gr.trans G0.out gw6) hz6)).mono ?_)
  rintro e w7 ⟨rfl, hw7⟩
  go_wp2_with fail
  apply Exists.intro
  refine ⟨?_, hw7, ?_⟩
  · simp only [Act.put, List.setIfInBounds_toArray, List.set_cons_zero, List.set_cons_succ]; rfl
  have cw7_0_0 : w7.cell? ⟨W.heap.size, 0, none⟩ = some (.int .i64 px) := cell_gr hw7 (by go_simp)
  have cw7_0_1 : w7.cell? ⟨W.heap.size, 1, none⟩ = some (.int .i64 py) := cell_gr hw7 (by go_simp)
  have zw7_0 : W.heap.size < w7.heap.size := World.block_lt_of_cell? _ _ cw7_0_0
  have cw7_1_0 : w7.cell? ⟨w3.heap.size, 0, none⟩ = some (.int .i64 m1) := cell_gr hw7 (by go_simp)
  have cw7_1_1 : w7.cell? ⟨w3.heap.size, 1, none⟩ = some (.int .i64 m2) := cell_gr hw7 (by go_simp)
  have cw7_1_2 : w7.cell? ⟨w3.heap.size, 2, none⟩ = some (.int .i64 m3) := cell_gr hw7 (by go_simp)
  have cw7_1_3 : w7.cell? ⟨w3.heap.size, 3, none⟩ = some (.int .i64 m4) := cell_gr hw7 (by go_simp)
  have zw7_1 : w3.heap.size < w7.heap.size := World.block_lt_of_cell? _ _ cw7_1_0
  have cw7_2_0 : w7.cell? ⟨w4.heap.size, 0, none⟩ = some (.int .i64 m1) := cell_gr hw7 (by go_simp)
  have cw7_2_1 : w7.cell? ⟨w4.heap.size, 1, none⟩ = some (.int .i64 m2) := cell_gr hw7 (by go_simp)
  have cw7_2_2 : w7.cell? ⟨w4.heap.size, 2, none⟩ = some (.int .i64 m3) := cell_gr hw7 (by go_simp)
  have cw7_2_3 : w7.cell? ⟨w4.heap.size, 3, none⟩ = some (.int .i64 m4) := cell_gr hw7 (by go_simp)
  have zw7_2 : w4.heap.size < w7.heap.size := World.block_lt_of_cell? _ _ cw7_2_0
  have gw7 : Gr w3 w7 := Gr.trans (by have gg := gw6; have gs := gg.size; go_grown) hw7
  clear gw6 zw6_0 cw6_0_0 cw6_0_1 zw6_1 cw6_1_0 cw6_1_1 cw6_1_2 cw6_1_3 zw6_2 cw6_2_0 cw6_2_1 cw6_2_2 cw6_2_3
  clear hw7
  try simp only [Act.put, List.setIfInBounds_toArray, List.set_cons_zero, List.set_cons_succ]
  repeat (first | (refine Od.wpO_skip (by simp only [List.getElem?_toArray, List.getElem?_cons_succ, List.getElem?_cons_zero] <;> rfl) rfl ?_; simp only [Act.put, List.setIfInBounds_toArray, List.set_cons_zero, List.set_cons_succ]) | (refine Od.wpO_pure (by simp only [List.getElem?_toArray, List.getElem?_cons_succ, List.getElem?_cons_zero] <;> rfl) rfl ?_; apply Exists.intro; refine ⟨?_, ?_⟩; (· intro wx gx; obtain ⟨mx, rfl⟩ := spread_of_gr gx; clear gx; all_goals (apply Od.pAt_of_quiet; intro K hK; go_big_quiet_op; first | exact hK _ rfl | (apply Exists.intro; refine ⟨fun _ => ?_, ?_⟩; (· fail); exact hK _ rfl))); try simp only [Act.put, List.setIfInBounds_toArray, List.set_cons_zero, List.set_cons_succ]))
  clear hz6
  refine Od.wpO_call (by simp only [List.getElem?_toArray, List.getElem?_cons_succ, List.getElem?_cons_zero] <;> rfl) rfl ?_
  intro QS hQS
  go_wp2_with fail
  go_at_call 16
  (with_reducible refine ((H14.out _ _ (Gr.trans G0.out gw7) (aerr_gr HF.out gw7))).mono ?_)
  rintro e w8 ⟨rfl, hw8⟩
  go_wp2_with fail
  apply Exists.intro
  refine ⟨?_, hw8, ?_⟩
  · simp only [Act.put, List.setIfInBounds_toArray, List.set_cons_zero, List.set_cons_succ]; rfl
  have cw8_0_0 : w8.cell? ⟨W.heap.size, 0, none⟩ = some (.int .i64 px) := cell_gr hw8 (by go_simp)
  have cw8_0_1 : w8.cell? ⟨W.heap.size, 1, none⟩ = some (.int .i64 py) := cell_gr hw8 (by go_simp)
  have zw8_0 : W.heap.size < w8.heap.size := World.block_lt_of_cell? _ _ cw8_0_0
  have cw8_1_0 : w8.cell? ⟨w3.heap.size, 0, none⟩ = some (.int .i64 m1) := cell_gr hw8 (by go_simp)
  have cw8_1_1 : w8.cell? ⟨w3.heap.size, 1, none⟩ = some (.int .i64 m2) := cell_gr hw8 (by go_simp)
  have cw8_1_2 : w8.cell? ⟨w3.heap.size, 2, none⟩ = some (.int .i64 m3) := cell_gr hw8 (by go_simp)
  have cw8_1_3 : w8.cell? ⟨w3.heap.size, 3, none⟩ = some (.int .i64 m4) := cell_gr hw8 (by go_simp)
  have zw8_1 : w3.heap.size < w8.heap.size := World.block_lt_of_cell? _ _ cw8_1_0
  have cw8_2_0 : w8.cell? ⟨w4.heap.size, 0, none⟩ = some (.int .i64 m1) := cell_gr hw8 (by go_simp)
  have cw8_2_1 : w8.cell? ⟨w4.heap.size, 1, none⟩ = some (.int .i64 m2) := cell_gr hw8 (by go_simp)
  have cw8_2_2 : w8.cell? ⟨w4.heap.size, 2, none⟩ = some (.int .i64 m3) := cell_gr hw8 (by go_simp)
  have cw8_2_3 : w8.cell? ⟨w4.heap.size, 3, none⟩ = some (.int .i64 m4) := cell_gr hw8 (by go_simp)
  have zw8_2 : w4.heap.size < w8.heap.size := World.block_lt_of_cell? _ _ cw8_2_0
  have gw8 : Gr w3 w8 := Gr.trans (by have gg := gw7; have gs := gg.size; go_grown) hw8
  clear gw7 zw7_0 cw7_0_0 cw7_0_1 zw7_1 cw7_1_0 cw7_1_1 cw7_1_2 cw7_1_3 zw7_2 cw7_2_0 cw7_2_1 cw7_2_2 cw7_2_3
  clear hw8
  try simp only [Act.put, List.setIfInBounds_toArray, List.set_cons_zero, List.set_cons_succ]
  repeat (first | (refine Od.wpO_skip (by simp only [List.getElem?_toArray, List.getElem?_cons_succ, List.getElem?_cons_zero] <;> rfl) rfl ?_; simp only [Act.put, List.setIfInBounds_toArray, List.set_cons_zero, List.set_cons_succ]) | (refine Od.wpO_pure (by simp only [List.getElem?_toArray, List.getElem?_cons_succ, List.getElem?_cons_zero] <;> rfl) rfl ?_; apply Exists.intro; refine ⟨?_, ?_⟩; (· intro wx gx; obtain ⟨mx, rfl⟩ := spread_of_gr gx; clear gx; all_goals (apply Od.pAt_of_quiet; intro K hK; go_big_quiet_op; first | exact hK _ rfl | (apply Exists.intro; refine ⟨fun _ => ?_, ?_⟩; (· fail); exact hK _ rfl))); try simp only [Act.put, List.setIfInBounds_toArray, List.set_cons_zero, List.set_cons_succ]))
  refine Od.wpO_call (by simp only [List.getElem?_toArray, List.getElem?_cons_succ, List.getElem?_cons_zero] <;> rfl) rfl ?_
  intro QS hQS
  go_wp2_with fail
  go_at_call 19
  (with_reducible refine ((H5.out _ (Gr.trans G0.out gw8))).mono ?_)
  rintro e w9 ⟨rfl, hw9⟩
  go_wp2_with fail
  apply Exists.intro
  refine ⟨?_, hw9, ?_⟩
  · simp only [Act.put, List.setIfInBounds_toArray, List.set_cons_zero, List.set_cons_succ]; rfl
  have cw9_0_0 : w9.cell? ⟨W.heap.size, 0, none⟩ = some (.int .i64 px) := cell_gr hw9 (by go_simp)
  have cw9_0_1 : w9.cell? ⟨W.heap.size, 1, none⟩ = some (.int .i64 py) := cell_gr hw9 (by go_simp)
  have zw9_0 : W.heap.size < w9.heap.size := World.block_lt_of_cell? _ _ cw9_0_0
  have cw9_1_0 : w9.cell? ⟨w3.heap.size, 0, none⟩ = some (.int .i64 m1) := cell_gr hw9 (by go_simp)
  have cw9_1_1 : w9.cell? ⟨w3.heap.size, 1, none⟩ = some (.int .i64 m2) := cell_gr hw9 (by go_simp)
  have cw9_1_2 : w9.cell? ⟨w3.heap.size, 2, none⟩ = some (.int .i64 m3) := cell_gr hw9 (by go_simp)
  have cw9_1_3 : w9.cell? ⟨w3.heap.size, 3, none⟩ = some (.int .i64 m4) := cell_gr hw9 (by go_simp)
  have zw9_1 : w3.heap.size < w9.heap.size := World.block_lt_of_cell? _ _ cw9_1_0
  have cw9_2_0 : w9.cell? ⟨w4.heap.size, 0, none⟩ = some (.int .i64 m1) := cell_gr hw9 (by go_simp)
  have cw9_2_1 : w9.cell? ⟨w4.heap.size, 1, none⟩ = some (.int .i64 m2) := cell_gr hw9 (by go_simp)
  have cw9_2_2 : w9.cell? ⟨w4.heap.size, 2, none⟩ = some (.int .i64 m3) := cell_gr hw9 (by go_simp)
  have cw9_2_3 : w9.cell? ⟨w4.heap.size, 3, none⟩ = some (.int .i64 m4) := cell_gr hw9 (by go_simp)
  have zw9_2 : w4.heap.size < w9.heap.size := World.block_lt_of_cell? _ _ cw9_2_0
  have gw9 : Gr w3 w9 := Gr.trans (by have gg := gw8; have gs := gg.size; go_grown) hw9
  clear gw8 zw8_0 cw8_0_0 cw8_0_1 zw8_1 cw8_1_0 cw8_1_1 cw8_1_2 cw8_1_3 zw8_2 cw8_2_0 cw8_2_1 cw8_2_2 cw8_2_3
  clear hw9
  try simp only [Act.put, List.setIfInBounds_toArray, List.set_cons_zero, List.set_cons_succ]
  repeat (first | (refine Od.wpO_skip (by simp only [List.getElem?_toArray, List.getElem?_cons_succ, List.getElem?_cons_zero] <;> rfl) rfl ?_; simp only [Act.put, List.setIfInBounds_toArray, List.set_cons_zero, List.set_cons_succ]) | (refine Od.wpO_pure (by simp only [List.getElem?_toArray, List.getElem?_cons_succ, List.getElem?_cons_zero] <;> rfl) rfl ?_; apply Exists.intro; refine ⟨?_, ?_⟩; (· intro wx gx; obtain ⟨mx, rfl⟩ := spread_of_gr gx; clear gx; all_goals (apply Od.pAt_of_quiet; intro K hK; go_big_quiet_op; first | exact hK _ rfl | (apply Exists.intro; refine ⟨fun _ => ?_, ?_⟩; (· fail); exact hK _ rfl))); try simp only [Act.put, List.setIfInBounds_toArray, List.set_cons_zero, List.set_cons_succ]))
  refine Od.wpO_call (by simp only [List.getElem?_toArray, List.getElem?_cons_succ, List.getElem?_cons_zero] <;> rfl) rfl ?_
  intro QS hQS
  go_wp2_with fail
  go_at_call 18
  (with_reducible refine ((c_u5 _ _ _)).mono ?_)
  rintro e w10 ⟨rfl, hw10⟩
  go_wp2_with fail
  apply Exists.intro
  refine ⟨?_, hw10, ?_⟩
  · simp only [Act.put, List.setIfInBounds_toArray, List.set_cons_zero, List.set_cons_succ]; rfl
  have cw10_0_0 : w10.cell? ⟨W.heap.size, 0, none⟩ = some (.int .i64 px) := cell_gr hw10 (by go_simp)
  have cw10_0_1 : w10.cell? ⟨W.heap.size, 1, none⟩ = some (.int .i64 py) := cell_gr hw10 (by go_simp)
  have zw10_0 : W.heap.size < w10.heap.size := World.block_lt_of_cell? _ _ cw10_0_0
  have cw10_1_0 : w10.cell? ⟨w3.heap.size, 0, none⟩ = some (.int .i64 m1) := cell_gr hw10 (by go_simp)
  have cw10_1_1 : w10.cell? ⟨w3.heap.size, 1, none⟩ = some (.int .i64 m2) := cell_gr hw10 (by go_simp)
  have cw10_1_2 : w10.cell? ⟨w3.heap.size, 2, none⟩ = some (.int .i64 m3) := cell_gr hw10 (by go_simp)
  have cw10_1_3 : w10.cell? ⟨w3.heap.size, 3, none⟩ = some (.int .i64 m4) := cell_gr hw10 (by go_simp)
  have zw10_1 : w3.heap.size < w10.heap.size := World.block_lt_of_cell? _ _ cw10_1_0
  have cw10_2_0 : w10.cell? ⟨w4.heap.size, 0, none⟩ = some (.int .i64 m1) := cell_gr hw10 (by go_simp)
  have cw10_2_1 : w10.cell? ⟨w4.heap.size, 1, none⟩ = some (.int .i64 m2) := cell_gr hw10 (by go_simp)
  have cw10_2_2 : w10.cell? ⟨w4.heap.size, 2, none⟩ = some (.int .i64 m3) := cell_gr hw10 (by go_simp)
  have cw10_2_3 : w10.cell? ⟨w4.heap.size, 3, none⟩ = some (.int .i64 m4) := cell_gr hw10 (by go_simp)
  have zw10_2 : w4.heap.size < w10.heap.size := World.block_lt_of_cell? _ _ cw10_2_0
  have gw10 : Gr w3 w10 := Gr.trans (by have gg := gw9; have gs := gg.size; go_grown) hw10
  clear gw9 zw9_0 cw9_0_0 cw9_0_1 zw9_1 cw9_1_0 cw9_1_1 cw9_1_2 cw9_1_3 zw9_2 cw9_2_0 cw9_2_1 cw9_2_2 cw9_2_3
  clear hw10
  try simp only [Act.put, List.setIfInBounds_toArray, List.set_cons_zero, List.set_cons_succ]
  repeat (first | (refine Od.wpO_skip (by simp only [List.getElem?_toArray, List.getElem?_cons_succ, List.getElem?_cons_zero] <;> rfl) rfl ?_; simp only [Act.put, List.setIfInBounds_toArray, List.set_cons_zero, List.set_cons_succ]) | (refine Od.wpO_pure (by simp only [List.getElem?_toArray, List.getElem?_cons_succ, List.getElem?_cons_zero] <;> rfl) rfl ?_; apply Exists.intro; refine ⟨?_, ?_⟩; (· intro wx gx; obtain ⟨mx, rfl⟩ := spread_of_gr gx; clear gx; all_goals (apply Od.pAt_of_quiet; intro K hK; go_big_quiet_op; first | exact hK _ rfl | (apply Exists.intro; refine ⟨fun _ => ?_, ?_⟩; (· fail); exact hK _ rfl))); try simp only [Act.put, List.setIfInBounds_toArray, List.set_cons_zero, List.set_cons_succ]))
  refine Od.wpO_call (by simp only [List.getElem?_toArray, List.getElem?_cons_succ, List.getElem?_cons_zero] <;> rfl) rfl ?_
  intro QS hQS
  go_wp2_with fail
  go_at_call 20
  (with_reducible refine ((H6.out _ (Gr.trans G0.out gw10))).mono ?_)
  rintro e w11 ⟨rfl, hw11⟩
  go_wp2_with fail
  apply Exists.intro
  refine ⟨?_, hw11, ?_⟩
  · simp only [Act.put, List.setIfInBounds_toArray, List.set_cons_zero, List.set_cons_succ]; rfl
  have cw11_0_0 : w11.cell? ⟨W.heap.size, 0, none⟩ = some (.int .i64 px) := cell_gr hw11 (by go_simp)
  have cw11_0_1 : w11.cell? ⟨W.heap.size, 1, none⟩ = some (.int .i64 py) := cell_gr hw11 (by go_simp)
  have zw11_0 : W.heap.size < w11.heap.size := World.block_lt_of_cell? _ _ cw11_0_0
  have cw11_1_0 : w11.cell? ⟨w3.heap.size, 0, none⟩ = some (.int .i64 m1) := cell_gr hw11 (by go_simp)
  have cw11_1_1 : w11.cell? ⟨w3.heap.size, 1, none⟩ = some (.int .i64 m2) := cell_gr hw11 (by go_simp)
  have cw11_1_2 : w11.cell? ⟨w3.heap.size, 2, none⟩ = some (.int .i64 m3) := cell_gr hw11 (by go_simp)
  have cw11_1_3 : w11.cell? ⟨w3.heap.size, 3, none⟩ = some (.int .i64 m4) := cell_gr hw11 (by go_simp)
  have zw11_1 : w3.heap.size < w11.heap.size := World.block_lt_of_cell? _ _ cw11_1_0
  have cw11_2_0 : w11.cell? ⟨w4.heap.size, 0, none⟩ = some (.int .i64 m1) := cell_gr hw11 (by go_simp)
  have cw11_2_1 : w11.cell? ⟨w4.heap.size, 1, none⟩ = some (.int .i64 m2) := cell_gr hw11 (by go_simp)
  have cw11_2_2 : w11.cell? ⟨w4.heap.size, 2, none⟩ = some (.int .i64 m3) := cell_gr hw11 (by go_simp)
  have cw11_2_3 : w11.cell? ⟨w4.heap.size, 3, none⟩ = some (.int .i64 m4) := cell_gr hw11 (by go_simp)
  have zw11_2 : w4.heap.size < w11.heap.size := World.block_lt_of_cell? _ _ cw11_2_0
  have gw11 : Gr w3 w11 := Gr.trans (by have gg := gw10; have gs := gg.size; go_grown) hw11
  clear gw10 zw10_0 cw10_0_0 cw10_0_1 zw10_1 cw10_1_0 cw10_1_1 cw10_1_2 cw10_1_3 zw10_2 cw10_2_0 cw10_2_1 cw10_2_2 cw10_2_3
  clear hw11
  try simp only [Act.put, List.setIfInBounds_toArray, List.set_cons_zero, List.set_cons_succ]
  repeat (first | (refine Od.wpO_skip (by simp only [List.getElem?_toArray, List.getElem?_cons_succ, List.getElem?_cons_zero] <;> rfl) rfl ?_; simp only [Act.put, List.setIfInBounds_toArray, List.set_cons_zero, List.set_cons_succ]) | (refine Od.wpO_pure (by simp only [List.getElem?_toArray, List.getElem?_cons_succ, List.getElem?_cons_zero] <;> rfl) rfl ?_; apply Exists.intro; refine ⟨?_, ?_⟩; (· intro wx gx; obtain ⟨mx, rfl⟩ := spread_of_gr gx; clear gx; all_goals (apply Od.pAt_of_quiet; intro K hK; go_big_quiet_op; first | exact hK _ rfl | (apply Exists.intro; refine ⟨fun _ => ?_, ?_⟩; (· fail); exact hK _ rfl))); try simp only [Act.put, List.setIfInBounds_toArray, List.set_cons_zero, List.set_cons_succ]))
  refine Od.wpO_call (by simp only [List.getElem?_toArray, List.getElem?_cons_succ, List.getElem?_cons_zero] <;> rfl) rfl ?_
  intro QS hQS
  go_wp2_with fail
  go_at_call 21
  (with_reducible refine ((H7.out _ (Gr.trans G0.out gw11))).mono ?_)
  rintro e w12 ⟨rfl, hw12⟩
  go_wp2_with fail
  apply Exists.intro
  refine ⟨?_, hw12, ?_⟩
  · simp only [Act.put, List.setIfInBounds_toArray, List.set_cons_zero, List.set_cons_succ]; rfl
  have cw12_0_0 : w12.cell? ⟨W.heap.size, 0, none⟩ = some (.int .i64 px) := cell_gr hw12 (by go_simp)
  have cw12_0_1 : w12.cell? ⟨W.heap.size, 1, none⟩ = some (.int .i64 py) := cell_gr hw12 (by go_simp)
  have zw12_0 : W.heap.size < w12.heap.size := World.block_lt_of_cell? _ _ cw12_0_0
  have cw12_1_0 : w12.cell? ⟨w3.heap.size, 0, none⟩ = some (.int .i64 m1) := cell_gr hw12 (by go_simp)
  have cw12_1_1 : w12.cell? ⟨w3.heap.size, 1, none⟩ = some (.int .i64 m2) := cell_gr hw12 (by go_simp)
  have cw12_1_2 : w12.cell? ⟨w3.heap.size, 2, none⟩ = some (.int .i64 m3) := cell_gr hw12 (by go_simp)
  have cw12_1_3 : w12.cell? ⟨w3.heap.size, 3, none⟩ = some (.int .i64 m4) := cell_gr hw12 (by go_simp)
  have zw12_1 : w3.heap.size < w12.heap.size := World.block_lt_of_cell? _ _ cw12_1_0
  have cw12_2_0 : w12.cell? ⟨w4.heap.size, 0, none⟩ = some (.int .i64 m1) := cell_gr hw12 (by go_simp)
  have cw12_2_1 : w12.cell? ⟨w4.heap.size, 1, none⟩ = some (.int .i64 m2) := cell_gr hw12 (by go_simp)
  have cw12_2_2 : w12.cell? ⟨w4.heap.size, 2, none⟩ = some (.int .i64 m3) := cell_gr hw12 (by go_simp)
  have cw12_2_3 : w12.cell? ⟨w4.heap.size, 3, none⟩ = some (.int .i64 m4) := cell_gr hw12 (by go_simp)
  have zw12_2 : w4.heap.size < w12.heap.size := World.block_lt_of_cell? _ _ cw12_2_0
  have gw12 : Gr w3 w12 := Gr.trans (by have gg := gw11; have gs := gg.size; go_grown) hw12
  clear gw11 zw11_0 cw11_0_0 cw11_0_1 zw11_1 cw11_1_0 cw11_1_1 cw11_1_2 cw11_1_3 zw11_2 cw11_2_0 cw11_2_1 cw11_2_2 cw11_2_3
  clear hw12
  try simp only [Act.put, List.setIfInBounds_toArray, List.set_cons_zero, List.set_cons_succ]
  repeat (first | (refine Od.wpO_skip (by simp only [List.getElem?_toArray, List.getElem?_cons_succ, List.getElem?_cons_zero] <;> rfl) rfl ?_; simp only [Act.put, List.setIfInBounds_toArray, List.set_cons_zero, List.set_cons_succ]) | (refine Od.wpO_pure (by simp only [List.getElem?_toArray, List.getElem?_cons_succ, List.getElem?_cons_zero] <;> rfl) rfl ?_; apply Exists.intro; refine ⟨?_, ?_⟩; (· intro wx gx; obtain ⟨mx, rfl⟩ := spread_of_gr gx; clear gx; all_goals (apply Od.pAt_of_quiet; intro K hK; go_big_quiet_op; first | exact hK _ rfl | (apply Exists.intro; refine ⟨fun _ => ?_, ?_⟩; (· fail); exact hK _ rfl))); try simp only [Act.put, List.setIfInBounds_toArray, List.set_cons_zero, List.set_cons_succ]))
  refine Od.wpO_call (by simp only [List.getElem?_toArray, List.getElem?_cons_succ, List.getElem?_cons_zero] <;> rfl) rfl ?_
  intro QS hQS
  go_wp2_with fail
  go_at_call 22
  (with_reducible refine ((H8.out _ (Gr.trans G0.out gw12))).mono ?_)
  rintro e w13 ⟨rfl, hw13⟩
  go_wp2_with fail
  apply Exists.intro
  refine ⟨?_, hw13, ?_⟩
  · simp only [Act.put, List.setIfInBounds_toArray, List.set_cons_zero, List.set_cons_succ]; rfl
  have cw13_0_0 : w13.cell? ⟨W.heap.size, 0, none⟩ = some (.int .i64 px) := cell_gr hw13 (by go_simp)
  have cw13_0_1 : w13.cell? ⟨W.heap.size, 1, none⟩ = some (.int .i64 py) := cell_gr hw13 (by go_simp)
  have zw13_0 : W.heap.size < w13.heap.size := World.block_lt_of_cell? _ _ cw13_0_0
  have cw13_1_0 : w13.cell? ⟨w3.heap.size, 0, none⟩ = some (.int .i64 m1) := cell_gr hw13 (by go_simp)
  have cw13_1_1 : w13.cell? ⟨w3.heap.size, 1, none⟩ = some (.int .i64 m2) := cell_gr hw13 (by go_simp)
  have cw13_1_2 : w13.cell? ⟨w3.heap.size, 2, none⟩ = some (.int .i64 m3) := cell_gr hw13 (by go_simp)
  have cw13_1_3 : w13.cell? ⟨w3.heap.size, 3, none⟩ = some (.int .i64 m4) := cell_gr hw13 (by go_simp)
  have zw13_1 : w3.heap.size < w13.heap.size := World.block_lt_of_cell? _ _ cw13_1_0
  have cw13_2_0 : w13.cell? ⟨w4.heap.size, 0, none⟩ = some (.int .i64 m1) := cell_gr hw13 (by go_simp)
  have cw13_2_1 : w13.cell? ⟨w4.heap.size, 1, none⟩ = some (.int .i64 m2) := cell_gr hw13 (by go_simp)
  have cw13_2_2 : w13.cell? ⟨w4.heap.size, 2, none⟩ = some (.int .i64 m3) := cell_gr hw13 (by go_simp)
  have cw13_2_3 : w13.cell? ⟨w4.heap.size, 3, none⟩ = some (.int .i64 m4) := cell_gr hw13 (by go_simp)
  have zw13_2 : w4.heap.size < w13.heap.size := World.block_lt_of_cell? _ _ cw13_2_0
  have gw13 : Gr w3 w13 := Gr.trans (by have gg := gw12; have gs := gg.size; go_grown) hw13
  clear gw12 zw12_0 cw12_0_0 cw12_0_1 zw12_1 cw12_1_0 cw12_1_1 cw12_1_2 cw12_1_3 zw12_2 cw12_2_0 cw12_2_1 cw12_2_2 cw12_2_3
  clear hw13
  try simp only [Act.put, List.setIfInBounds_toArray, List.set_cons_zero, List.set_cons_succ]
  repeat (first | (refine Od.wpO_skip (by simp only [List.getElem?_toArray, List.getElem?_cons_succ, List.getElem?_cons_zero] <;> rfl) rfl ?_; simp only [Act.put, List.setIfInBounds_toArray, List.set_cons_zero, List.set_cons_succ]) | (refine Od.wpO_pure (by simp only [List.getElem?_toArray, List.getElem?_cons_succ, List.getElem?_cons_zero] <;> rfl) rfl ?_; apply Exists.intro; refine ⟨?_, ?_⟩; (· intro wx gx; obtain ⟨mx, rfl⟩ := spread_of_gr gx; clear gx; all_goals (apply Od.pAt_of_quiet; intro K hK; go_big_quiet_op; first | exact hK _ rfl | (apply Exists.intro; refine ⟨fun _ => ?_, ?_⟩; (· fail); exact hK _ rfl))); try simp only [Act.put, List.setIfInBounds_toArray, List.set_cons_zero, List.set_cons_succ]))
  refine Od.wpO_call (by simp only [List.getElem?_toArray, List.getElem?_cons_succ, List.getElem?_cons_zero] <;> rfl) rfl ?_
  intro QS hQS
  go_wp2_with fail
  go_at_call 23
  (with_reducible refine ((H9.out _ (Gr.trans G0.out gw13))).mono ?_)
  rintro e w14 ⟨rfl, hw14⟩
  go_wp2_with fail
  apply Exists.intro
  refine ⟨?_, hw14, ?_⟩
  · simp only [Act.put, List.setIfInBounds_toArray, List.set_cons_zero, List.set_cons_succ]; rfl
  have cw14_0_0 : w14.cell? ⟨W.heap.size, 0, none⟩ = some (.int .i64 px) := cell_gr hw14 (by go_simp)
  have cw14_0_1 : w14.cell? ⟨W.heap.size, 1, none⟩ = some (.int .i64 py) := cell_gr hw14 (by go_simp)
  have zw14_0 : W.heap.size < w14.heap.size := World.block_lt_of_cell? _ _ cw14_0_0
  have cw14_1_0 : w14.cell? ⟨w3.heap.size, 0, none⟩ = some (.int .i64 m1) := cell_gr hw14 (by go_simp)
  have cw14_1_1 : w14.cell? ⟨w3.heap.size, 1, none⟩ = some (.int .i64 m2) := cell_gr hw14 (by go_simp)
  have cw14_1_2 : w14.cell? ⟨w3.heap.size, 2, none⟩ = some (.int .i64 m3) := cell_gr hw14 (by go_simp)
  have cw14_1_3 : w14.cell? ⟨w3.heap.size, 3, none⟩ = some (.int .i64 m4) := cell_gr hw14 (by go_simp)
  have zw14_1 : w3.heap.size < w14.heap.size := World.block_lt_of_cell? _ _ cw14_1_0
  have cw14_2_0 : w14.cell? ⟨w4.heap.size, 0, none⟩ = some (.int .i64 m1) := cell_gr hw14 (by go_simp)
  have cw14_2_1 : w14.cell? ⟨w4.heap.size, 1, none⟩ = some (.int .i64 m2) := cell_gr hw14 (by go_simp)
  have cw14_2_2 : w14.cell? ⟨w4.heap.size, 2, none⟩ = some (.int .i64 m3) := cell_gr hw14 (by go_simp)
  have cw14_2_3 : w14.cell? ⟨w4.heap.size, 3, none⟩ = some (.int .i64 m4) := cell_gr hw14 (by go_simp)
  have zw14_2 : w4.heap.size < w14.heap.size := World.block_lt_of_cell? _ _ cw14_2_0
  have gw14 : Gr w3 w14 := Gr.trans (by have gg := gw13; have gs := gg.size; go_grown) hw14
  clear gw13 zw13_0 cw13_0_0 cw13_0_1 zw13_1 cw13_1_0 cw13_1_1 cw13_1_2 cw13_1_3 zw13_2 cw13_2_0 cw13_2_1 cw13_2_2 cw13_2_3
  clear hw14
  try simp only [Act.put, List.setIfInBounds_toArray, List.set_cons_zero, List.set_cons_succ]
  repeat (first | (refine Od.wpO_skip (by simp only [List.getElem?_toArray, List.getElem?_cons_succ, List.getElem?_cons_zero] <;> rfl) rfl ?_; simp only [Act.put, List.setIfInBounds_toArray, List.set_cons_zero, List.set_cons_succ]) | (refine Od.wpO_pure (by simp only [List.getElem?_toArray, List.getElem?_cons_succ, List.getElem?_cons_zero] <;> rfl) rfl ?_; apply Exists.intro; refine ⟨?_, ?_⟩; (· intro wx gx; obtain ⟨mx, rfl⟩ := spread_of_gr gx; clear gx; all_goals (apply Od.pAt_of_quiet; intro K hK; go_big_quiet_op; first | exact hK _ rfl | (apply Exists.intro; refine ⟨fun _ => ?_, ?_⟩; (· fail); exact hK _ rfl))); try simp only [Act.put, List.setIfInBounds_toArray, List.set_cons_zero, List.set_cons_succ]))
  refine Od.wpO_call (by simp only [List.getElem?_toArray, List.getElem?_cons_succ, List.getElem?_cons_zero] <;> rfl) rfl ?_
  intro QS hQS
  go_wp2_with fail
  go_at_call 24
  (with_reducible refine ((H10.out _ (Gr.trans G0.out gw14))).mono ?_)
  rintro e w15 ⟨rfl, hw15⟩
  go_wp2_with fail
  apply Exists.intro
  refine ⟨?_, hw15, ?_⟩
  · simp only [Act.put, List.setIfInBounds_toArray, List.set_cons_zero, List.set_cons_succ]; rfl
  have cw15_0_0 : w15.cell? ⟨W.heap.size, 0, none⟩ = some (.int .i64 px) := cell_gr hw15 (by go_simp)
  have cw15_0_1 : w15.cell? ⟨W.heap.size, 1, none⟩ = some (.int .i64 py) := cell_gr hw15 (by go_simp)
  have zw15_0 : W.heap.size < w15.heap.size := World.block_lt_of_cell? _ _ cw15_0_0
  have cw15_1_0 : w15.cell? ⟨w3.heap.size, 0, none⟩ = some (.int .i64 m1) := cell_gr hw15 (by go_simp)
  have cw15_1_1 : w15.cell? ⟨w3.heap.size, 1, none⟩ = some (.int .i64 m2) := cell_gr hw15 (by go_simp)
  have cw15_1_2 : w15.cell? ⟨w3.heap.size, 2, none⟩ = some (.int .i64 m3) := cell_gr hw15 (by go_simp)
  have cw15_1_3 : w15.cell? ⟨w3.heap.size, 3, none⟩ = some (.int .i64 m4) := cell_gr hw15 (by go_simp)
  have zw15_1 : w3.heap.size < w15.heap.size := World.block_lt_of_cell? _ _ cw15_1_0
  have cw15_2_0 : w15.cell? ⟨w4.heap.size, 0, none⟩ = some (.int .i64 m1) := cell_gr hw15 (by go_simp)
  have cw15_2_1 : w15.cell? ⟨w4.heap.size, 1, none⟩ = some (.int .i64 m2) := cell_gr hw15 (by go_simp)
  have cw15_2_2 : w15.cell? ⟨w4.heap.size, 2, none⟩ = some (.int .i64 m3) := cell_gr hw15 (by go_simp)
  have cw15_2_3 : w15.cell? ⟨w4.heap.size, 3, none⟩ = some (.int .i64 m4) := cell_gr hw15 (by go_simp)
  have zw15_2 : w4.heap.size < w15.heap.size := World.block_lt_of_cell? _ _ cw15_2_0
  have gw15 : Gr w3 w15 := Gr.trans (by have gg := gw14; have gs := gg.size; go_grown) hw15
  clear gw14 zw14_0 cw14_0_0 cw14_0_1 zw14_1 cw14_1_0 cw14_1_1 cw14_1_2 cw14_1_3 zw14_2 cw14_2_0 cw14_2_1 cw14_2_2 cw14_2_3
  clear hw15
  try simp only [Act.put, List.setIfInBounds_toArray, List.set_cons_zero, List.set_cons_succ]
  repeat (first | (refine Od.wpO_skip (by simp only [List.getElem?_toArray, List.getElem?_cons_succ, List.getElem?_cons_zero] <;> rfl) rfl ?_; simp only [Act.put, List.setIfInBounds_toArray, List.set_cons_zero, List.set_cons_succ]) | (refine Od.wpO_pure (by simp only [List.getElem?_toArray, List.getElem?_cons_succ, List.getElem?_cons_zero] <;> rfl) rfl ?_; apply Exists.intro; refine ⟨?_, ?_⟩; (· intro wx gx; obtain ⟨mx, rfl⟩ := spread_of_gr gx; clear gx; all_goals (apply Od.pAt_of_quiet; intro K hK; go_big_quiet_op; first | exact hK _ rfl | (apply Exists.intro; refine ⟨fun _ => ?_, ?_⟩; (· fail); exact hK _ rfl))); try simp only [Act.put, List.setIfInBounds_toArray, List.set_cons_zero, List.set_cons_succ]))
  refine Od.wpO_call (by simp only [List.getElem?_toArray, List.getElem?_cons_succ, List.getElem?_cons_zero] <;> rfl) rfl ?_
  intro QS hQS
  go_wp2_with fail
  go_at_call 25
  (with_reducible refine ((H11.out _ (Gr.trans G0.out gw15))).mono ?_)
  rintro e w16 ⟨rfl, hw16⟩
  go_wp2_with fail
  apply Exists.intro
  refine ⟨?_, hw16, ?_⟩
  · simp only [Act.put, List.setIfInBounds_toArray, List.set_cons_zero, List.set_cons_succ]; rfl
  have cw16_0_0 : w16.cell? ⟨W.heap.size, 0, none⟩ = some (.int .i64 px) := cell_gr hw16 (by go_simp)
  have cw16_0_1 : w16.cell? ⟨W.heap.size, 1, none⟩ = some (.int .i64 py) := cell_gr hw16 (by go_simp)
  have zw16_0 : W.heap.size < w16.heap.size := World.block_lt_of_cell? _ _ cw16_0_0
  have cw16_1_0 : w16.cell? ⟨w3.heap.size, 0, none⟩ = some (.int .i64 m1) := cell_gr hw16 (by go_simp)
  have cw16_1_1 : w16.cell? ⟨w3.heap.size, 1, none⟩ = some (.int .i64 m2) := cell_gr hw16 (by go_simp)
  have cw16_1_2 : w16.cell? ⟨w3.heap.size, 2, none⟩ = some (.int .i64 m3) := cell_gr hw16 (by go_simp)
  have cw16_1_3 : w16.cell? ⟨w3.heap.size, 3, none⟩ = some (.int .i64 m4) := cell_gr hw16 (by go_simp)
  have zw16_1 : w3.heap.size < w16.heap.size := World.block_lt_of_cell? _ _ cw16_1_0
  have cw16_2_0 : w16.cell? ⟨w4.heap.size, 0, none⟩ = some (.int .i64 m1) := cell_gr hw16 (by go_simp)
  have cw16_2_1 : w16.cell? ⟨w4.heap.size, 1, none⟩ = some (.int .i64 m2) := cell_gr hw16 (by go_simp)
  have cw16_2_2 : w16.cell? ⟨w4.heap.size, 2, none⟩ = some (.int .i64 m3) := cell_gr hw16 (by go_simp)
  have cw16_2_3 : w16.cell? ⟨w4.heap.size, 3, none⟩ = some (.int .i64 m4) := cell_gr hw16 (by go_simp)
  have zw16_2 : w4.heap.size < w16.heap.size := World.block_lt_of_cell? _ _ cw16_2_0
  have gw16 : Gr w3 w16 := Gr.trans (by have gg := gw15; have gs := gg.size; go_grown) hw16
  clear gw15 zw15_0 cw15_0_0 cw15_0_1 zw15_1 cw15_1_0 cw15_1_1 cw15_1_2 cw15_1_3 zw15_2 cw15_2_0 cw15_2_1 cw15_2_2 cw15_2_3
  clear hw16
  try simp only [Act.put, List.setIfInBounds_toArray, List.set_cons_zero, List.set_cons_succ]
  repeat (first | (refine Od.wpO_skip (by simp only [List.getElem?_toArray, List.getElem?_cons_succ, List.getElem?_cons_zero] <;> rfl) rfl ?_; simp only [Act.put, List.setIfInBounds_toArray, List.set_cons_zero, List.set_cons_succ]) | (refine Od.wpO_pure (by simp only [List.getElem?_toArray, List.getElem?_cons_succ, List.getElem?_cons_zero] <;> rfl) rfl ?_; apply Exists.intro; refine ⟨?_, ?_⟩; (· intro wx gx; obtain ⟨mx, rfl⟩ := spread_of_gr gx; clear gx; all_goals (apply Od.pAt_of_quiet; intro K hK; go_big_quiet_op; first | exact hK _ rfl | (apply Exists.intro; refine ⟨fun _ => ?_, ?_⟩; (· fail); exact hK _ rfl))); try simp only [Act.put, List.setIfInBounds_toArray, List.set_cons_zero, List.set_cons_succ]))
  refine Od.wpO_call (by simp only [List.getElem?_toArray, List.getElem?_cons_succ, List.getElem?_cons_zero] <;> rfl) rfl ?_
  intro QS hQS
  go_wp2_with fail
  go_at_call 26
  (with_reducible refine ((H12.out _ (Gr.trans G0.out gw16))).mono ?_)
  rintro e w17 ⟨rfl, hw17⟩
  go_wp2_with fail
  apply Exists.intro
  refine ⟨?_, hw17, ?_⟩
  · simp only [Act.put, List.setIfInBounds_toArray, List.set_cons_zero, List.set_cons_succ]; rfl
  have cw17_0_0 : w17.cell? ⟨W.heap.size, 0, none⟩ = some (.int .i64 px) := cell_gr hw17 (by go_simp)
  have cw17_0_1 : w17.cell? ⟨W.heap.size, 1, none⟩ = some (.int .i64 py) := cell_gr hw17 (by go_simp)
  have zw17_0 : W.heap.size < w17.heap.size := World.block_lt_of_cell? _ _ cw17_0_0
  have cw17_1_0 : w17.cell? ⟨w3.heap.size, 0, none⟩ = some (.int .i64 m1) := cell_gr hw17 (by go_simp)
  have cw17_1_1 : w17.cell? ⟨w3.heap.size, 1, none⟩ = some (.int .i64 m2) := cell_gr hw17 (by go_simp)
  have cw17_1_2 : w17.cell? ⟨w3.heap.size, 2, none⟩ = some (.int .i64 m3) := cell_gr hw17 (by go_simp)
  have cw17_1_3 : w17.cell? ⟨w3.heap.size, 3, none⟩ = some (.int .i64 m4) := cell_gr hw17 (by go_simp)
  have zw17_1 : w3.heap.size < w17.heap.size := World.block_lt_of_cell? _ _ cw17_1_0
  have cw17_2_0 : w17.cell? ⟨w4.heap.size, 0, none⟩ = some (.int .i64 m1) := cell_gr hw17 (by go_simp)
  have cw17_2_1 : w17.cell? ⟨w4.heap.size, 1, none⟩ = some (.int .i64 m2) := cell_gr hw17 (by go_simp)
  have cw17_2_2 : w17.cell? ⟨w4.heap.size, 2, none⟩ = some (.int .i64 m3) := cell_gr hw17 (by go_simp)
  have cw17_2_3 : w17.cell? ⟨w4.heap.size, 3, none⟩ = some (.int .i64 m4) := cell_gr hw17 (by go_simp)
  have zw17_2 : w4.heap.size < w17.heap.size := World.block_lt_of_cell? _ _ cw17_2_0
  have gw17 : Gr w3 w17 := Gr.trans (by have gg := gw16; have gs := gg.size; go_grown) hw17
  clear gw16 zw16_0 cw16_0_0 cw16_0_1 zw16_1 cw16_1_0 cw16_1_1 cw16_1_2 cw16_1_3 zw16_2 cw16_2_0 cw16_2_1 cw16_2_2 cw16_2_3
  clear hw17
  try simp only [Act.put, List.setIfInBounds_toArray, List.set_cons_zero, List.set_cons_succ]
  repeat (first | (refine Od.wpO_skip (by simp only [List.getElem?_toArray, List.getElem?_cons_succ, List.getElem?_cons_zero] <;> rfl) rfl ?_; simp only [Act.put, List.setIfInBounds_toArray, List.set_cons_zero, List.set_cons_succ]) | (refine Od.wpO_pure (by simp only [List.getElem?_toArray, List.getElem?_cons_succ, List.getElem?_cons_zero] <;> rfl) rfl ?_; apply Exists.intro; refine ⟨?_, ?_⟩; (· intro wx gx; obtain ⟨mx, rfl⟩ := spread_of_gr gx; clear gx; all_goals (apply Od.pAt_of_quiet; intro K hK; go_big_quiet_op; first | exact hK _ rfl | (apply Exists.intro; refine ⟨fun _ => ?_, ?_⟩; (· fail); exact hK _ rfl))); try simp only [Act.put, List.setIfInBounds_toArray, List.set_cons_zero, List.set_cons_succ]))
  refine Od.wpO_call (by simp only [List.getElem?_toArray, List.getElem?_cons_succ, List.getElem?_cons_zero] <;> rfl) rfl ?_
  intro QS hQS
  go_wp2_with fail
  go_at_call 12
  (with_reducible refine ((H13.out _ (Gr.trans G0.out gw17))).mono ?_)
  rintro e w18 ⟨rfl, hw18⟩
  go_wp2_with fail
  apply Exists.intro
  refine ⟨?_, hw18, ?_⟩
  · simp only [Act.put, List.setIfInBounds_toArray, List.set_cons_zero, List.set_cons_succ]; rfl
  have cw18_0_0 : w18.cell? ⟨W.heap.size, 0, none⟩ = some (.int .i64 px) := cell_gr hw18 (by go_simp)
  have cw18_0_1 : w18.cell? ⟨W.heap.size, 1, none⟩ = some (.int .i64 py) := cell_gr hw18 (by go_simp)
  have zw18_0 : W.heap.size < w18.heap.size := World.block_lt_of_cell? _ _ cw18_0_0
  have cw18_1_0 : w18.cell? ⟨w3.heap.size, 0, none⟩ = some (.int .i64 m1) := cell_gr hw18 (by go_simp)
  have cw18_1_1 : w18.cell? ⟨w3.heap.size, 1, none⟩ = some (.int .i64 m2) := cell_gr hw18 (by go_simp)
  have cw18_1_2 : w18.cell? ⟨w3.heap.size, 2, none⟩ = some (.int .i64 m3) := cell_gr hw18 (by go_simp)
  have cw18_1_3 : w18.cell? ⟨w3.heap.size, 3, none⟩ = some (.int .i64 m4) := cell_gr hw18 (by go_simp)
  have zw18_1 : w3.heap.size < w18.heap.size := World.block_lt_of_cell? _ _ cw18_1_0
  have cw18_2_0 : w18.cell? ⟨w4.heap.size, 0, none⟩ = some (.int .i64 m1) := cell_gr hw18 (by go_simp)
  have cw18_2_1 : w18.cell? ⟨w4.heap.size, 1, none⟩ = some (.int .i64 m2) := cell_gr hw18 (by go_simp)
  have cw18_2_2 : w18.cell? ⟨w4.heap.size, 2, none⟩ = some (.int .i64 m3) := cell_gr hw18 (by go_simp)
  have cw18_2_3 : w18.cell? ⟨w4.heap.size, 3, none⟩ = some (.int .i64 m4) := cell_gr hw18 (by go_simp)
  have zw18_2 : w4.heap.size < w18.heap.size := World.block_lt_of_cell? _ _ cw18_2_0
  have gw18 : Gr w3 w18 := Gr.trans (by have gg := gw17; have gs := gg.size; go_grown) hw18
  clear gw17 zw17_0 cw17_0_0 cw17_0_1 zw17_1 cw17_1_0 cw17_1_1 cw17_1_2 cw17_1_3 zw17_2 cw17_2_0 cw17_2_1 cw17_2_2 cw17_2_3
  clear hw18
  try simp only [Act.put, List.setIfInBounds_toArray, List.set_cons_zero, List.set_cons_succ]
  repeat (first | (refine Od.wpO_skip (by simp only [List.getElem?_toArray, List.getElem?_cons_succ, List.getElem?_cons_zero] <;> rfl) rfl ?_; simp only [Act.put, List.setIfInBounds_toArray, List.set_cons_zero, List.set_cons_succ]) | (refine Od.wpO_pure (by simp only [List.getElem?_toArray, List.getElem?_cons_succ, List.getElem?_cons_zero] <;> rfl) rfl ?_; apply Exists.intro; refine ⟨?_, ?_⟩; (· intro wx gx; obtain ⟨mx, rfl⟩ := spread_of_gr gx; clear gx; all_goals (apply Od.pAt_of_quiet; intro K hK; go_big_quiet_op; first | exact hK _ rfl | (apply Exists.intro; refine ⟨fun _ => ?_, ?_⟩; (· fail); exact hK _ rfl))); try simp only [Act.put, List.setIfInBounds_toArray, List.set_cons_zero, List.set_cons_succ]))
  refine Od.wpO_nil (hKQ _ _ ?_)
  clear hKQ KQ
  go_wp2_with fail
  go_ret
  exact ⟨rfl, Gr.trans G0.out gw18⟩
theorem walk_RingAsks (W : World) (v : Value) (px py : Int) (h : ∃ (n : Nat) (X Y : Nat → Int), Pts W v n X Y) {p1 : Prop} (_ : p1) (hE : ErrT W) :
    Calls Tryd.prog 3 #[v, .agg #[.int .i64 px, .int .i64 py]] W fun e w' => e = .returned (.bool true) ∧ Gr W w' := by
  obtain ⟨n, X, Y, h⟩ := h
  by_cases c : n ≤ 80
  · have K1 := r_ok W h
    have K2 : ∀ w, Gr W w → _ := fun w g => c_Twice w (pts_gr h g)
    have K3 : ∀ w, Gr W w → _ := fun w g => c_rTwice w (pts_gr h g)
    have K4 : ∀ w, Gr W w → _ := fun w g => c_Left w (pts_gr h g)
    have K5 : ∀ w, Gr W w → _ := fun w g => c_rLeft w (pts_gr h g)
    have K6 : ∀ w, Gr W w → _ := fun w g => c_RHas w (pts_gr h g) px py
    have K7 : ∀ w, Gr W w → _ := fun w g => c_rHas w (pts_gr h g) px py
    have K8 : ∀ w, Gr W w → _ := fun w g => c_Edge w (pts_gr h g) px py
    have K9 : ∀ w, Gr W w → _ := fun w g => c_rEdge w (pts_gr h g) px py
    have K10 : ∀ w, Gr W w → Calls Tryd.prog 17 #[v] w fun e w' => ∃ f, e = .returned f ∧ AErr ringS w' f (Rg.ringC n X Y).2 (Rg.ringC n X Y).1 ∧ Gr w w' := fun w g => c_ringCheck w (pts_gr h g)
    obtain ⟨k, id, e0⟩ : ∃ k id, Rg.ringC n X Y = (k, id) := ⟨_, _, rfl⟩
    by_cases hk : k = 0
    · subst hk
      have hid : id = 0 := by
        have := (Rg.ringC_ok (show (Rg.ringC n X Y).1 = 0 by rw [e0])).2.2.2
        rw [e0] at this
        exact (Prod.ext_iff.1 this).2
      subst hid
      have K11 : ∀ w, Gr W w → Calls Tryd.prog 14 #[v] w fun e w' => ∃ f, e = .returned (.tuple #[.agg #[.int .i64 (mnN X n), .int .i64 (mnN Y n), .int .i64 (mxN X n), .int .i64 (mxN Y n)], f]) ∧ AErr ringS w' f 0 0 ∧ Gr w w' := fun w g =>
        (c_RBox_ok w (pts_gr h g) (by rw [e0])).mono fun e w' ⟨h1, h2⟩ => ⟨_, h1, Or.inl ⟨rfl, rfl⟩, h2⟩
      have K12 : ∀ w, Gr W w → _ := fun w g => c_rRingBox_ok w (pts_gr h g) e0
      rw [e0] at K1 K10
      obtain ⟨ad, cap, B, off, rfl, _⟩ := (show Pts W v n X Y from h)
      exact asks_core ad n cap 0 0 px py _ _ _ _ _ _ _ _ W hE (fun w g => by have := c_small5 ad n cap w; rwa [decide_eq_true c] at this) K1 K11 K12 K10 K2 K3 K4 K5 K6 K7 K8 K9
    · have K11 : ∀ w, Gr W w → Calls Tryd.prog 14 #[v] w fun e w' => ∃ f, e = .returned (.tuple #[.agg #[.int .i64 0, .int .i64 0, .int .i64 0, .int .i64 0], f]) ∧ AErr ringS w' f id k ∧ Gr w w' := fun w g =>
        (c_RBox_no w (pts_gr h g) e0 hk).mono fun e w' ⟨B, h1, h2, h3⟩ => ⟨_, h1, Or.inr ⟨B, rfl, by omega, (by have := Rg.ringC_le n X Y; rw [e0] at this; exact Nat.le_trans this (by omega)), h2⟩, h3⟩
      have K12 : ∀ w, Gr W w → _ := fun w g => c_rRingBox_no w (pts_gr h g) e0 hk
      rw [e0] at K1 K10
      obtain ⟨ad, cap, B, off, rfl, _⟩ := (show Pts W v n X Y from h)
      exact asks_core ad n cap k id px py _ _ _ _ _ _ _ _ W hE (fun w g => by have := c_small5 ad n cap w; rwa [decide_eq_true c] at this) K1 K11 K12 K10 K2 K3 K4 K5 K6 K7 K8 K9
  · have AW := Lib.hid (fun w (g : Gr W w) => g5_awake w (errT_gr hE g))
    obtain ⟨ad, cap, B, off, rfl, _⟩ := h
    have CS := c_small5 ad n cap
    rw [decide_eq_false c] at CS
    have HS := Lib.hid CS
    clear CS c
    go_enter Tryd.func3, Tryd.ntmps3
    go_wp2_with fail
    go_at_call 11
    refine ((HS.out _)).mono ?_
    rintro e w1 ⟨rfl, hw1⟩
    have cw1_0_0 : w1.cell? ⟨W.heap.size, 0, none⟩ = some (.int .i64 px) := cell_gr hw1 (by go_simp)
    have cw1_0_1 : w1.cell? ⟨W.heap.size, 1, none⟩ = some (.int .i64 py) := cell_gr hw1 (by go_simp)
    have zw1_0 : W.heap.size < w1.heap.size := World.block_lt_of_cell? _ _ cw1_0_0
    have gw1 : Gr W w1 := Gr.trans (by go_grown) hw1
    clear hw1
    go_wp2_with fail
    go_at_call 12
    refine ((AW.out _ gw1)).mono ?_
    rintro e w3 ⟨rfl, hw3⟩
    have cw3_0_0 : w3.cell? ⟨W.heap.size, 0, none⟩ = some (.int .i64 px) := cell_gr hw3 (by go_simp)
    have cw3_0_1 : w3.cell? ⟨W.heap.size, 1, none⟩ = some (.int .i64 py) := cell_gr hw3 (by go_simp)
    have zw3_0 : W.heap.size < w3.heap.size := World.block_lt_of_cell? _ _ cw3_0_0
    have gw3 : Gr W w3 := Gr.trans (by have gg := gw1; have gs := gg.size; go_grown) hw3
    clear hw3 gw1 zw1_0 cw1_0_0 cw1_0_1
    go_wp2_with fail
    go_ret
    exact ⟨rfl, gw3⟩
end Go.Proofs.YtkodmfkchbbmiaaDoor
