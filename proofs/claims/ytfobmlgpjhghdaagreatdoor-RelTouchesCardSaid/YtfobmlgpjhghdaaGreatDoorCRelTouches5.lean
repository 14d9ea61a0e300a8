/- What RelTouches leans on: Il Qs -/
import Derived.Test.YtfobmlgpjhghdaaGreatDoorCRelTouches4
import Derived.Test.YtfobmlgpjhghdaaGreatDoorRows
import Derived.JoinedCond
import Derived.ProofKit
namespace Go.Proofs.YtfobmlgpjhghdaaGreatDoor
set_option linter.unusedVariables false
set_option linter.unusedSimpArgs false
open Go.ChangeShapes Go.WideShapes Go.ChangeAt Go.RowKit
set_option maxHeartbeats 8000000 in
set_option maxRecDepth 100000 in
theorem touches_core (k j : Int) (ad bd : Option Addr) (n cap m bcap : Nat) (z s r : Bool) (W : World) (hn : n ≤ 70) (hm : m ≤ 70)
    (A1 : ∀ w, Gr W w → Calls Tryz.prog 17 #[.agg #[.int .i64 k, .slice ad n cap], .agg #[.int .i64 j, .slice bd m bcap]] w fun e w' => e = .returned (.bool z) ∧ Gr w w')
    (A2 : ∀ w, Gr W w → Calls Tryz.prog 18 #[.agg #[.int .i64 k, .slice ad n cap], .agg #[.int .i64 j, .slice bd m bcap]] w fun e w' => e = .returned (.bool z) ∧ Gr w w')
    (A3 : ∀ w, Gr W w → Calls Tryz.prog 17 #[.agg #[.int .i64 j, .slice bd m bcap], .agg #[.int .i64 k, .slice ad n cap]] w fun e w' => e = .returned (.bool z) ∧ Gr w w')
    (A4 : ∀ w, Gr W w → Calls Tryz.prog 19 #[.agg #[.int .i64 k, .slice ad n cap], .agg #[.int .i64 j, .slice bd m bcap]] w fun e w' => e = .returned (.bool s) ∧ Gr w w')
    (A5 : ∀ w, Gr W w → Calls Tryz.prog 20 #[.agg #[.int .i64 k, .slice ad n cap], .agg #[.int .i64 j, .slice bd m bcap]] w fun e w' => e = .returned (.bool s) ∧ Gr w w')
    (A6 : ∀ w, Gr W w → Calls Tryz.prog 21 #[.slice ad n cap, .slice bd m bcap] w fun e w' => e = .returned (.bool r) ∧ Gr w w')
    (A9 : ∀ w, Gr W w → Calls Tryz.prog 22 #[.slice ad n cap, .slice bd m bcap] w fun e w' => e = .returned (.bool r) ∧ Gr w w')
    (A7 : ∀ w, Gr W w → Calls Tryz.prog 9 #[] w fun e w' => e = .returned (.bool true) ∧ Gr w w') :
    Calls Tryz.prog 4 #[.agg #[.int .i64 k, .slice ad n cap], .agg #[.int .i64 j, .slice bd m bcap]] W fun e w' => e = .returned (.bool true) ∧ Gr W w' := by
  have A8 := fun w => c_small6 k 0 0 0 0 0 ad none n cap 0 0 w
  have A0 := fun w => c_small6 j 0 0 0 0 0 bd none m bcap 0 0 w
  rw [decide_eq_true hn, decide_eq_true (by omega : 0 ≤ 70)] at A8
  rw [decide_eq_true hm, decide_eq_true (by omega : 0 ≤ 70)] at A0
  have t1 : (z == z) = true := by simp
  have t2 : decide (z = z) = true := by simp
  have t3 : (s == s) = true := by simp
  have t4 : decide (s = s) = true := by simp
  have t5 : (r == r) = true := by simp
  have t6 : decide (r = r) = true := by simp
  have H1 := Lib.hid A1
  have H2 := Lib.hid A2
  have H3 := Lib.hid A3
  have H4 := Lib.hid A4
  have H5 := Lib.hid A5
  have H6 := Lib.hid A6
  have H7 := Lib.hid A7
  have H8 := Lib.hid A8
  have H9 := Lib.hid A9
  have H0 := Lib.hid A0
  clear A1 A2 A3 A4 A5 A6 A7 A8 A9 A0
  clear hn hm
  go_enter Tryz.func4, Tryz.ntmps4
  go_wp2_with fail
  go_at_call 8
  refine ((H8.out _)).mono ?_
  rintro e w1 ⟨rfl, hw1⟩
  have cw1_0_0 : w1.cell? ⟨W.heap.size, 0, none⟩ = some (.int .i64 k) := cell_gr hw1 (by go_simp)
  have cw1_0_1 : w1.cell? ⟨W.heap.size, 1, none⟩ = some (.slice ad n cap) := cell_gr hw1 (by go_simp)
  have zw1_0 : W.heap.size < w1.heap.size := World.block_lt_of_cell? _ _ cw1_0_0
  have cw1_1_0 : w1.cell? ⟨W.heap.size + 1, 0, none⟩ = some (.int .i64 j) := cell_gr hw1 (by go_simp)
  have cw1_1_1 : w1.cell? ⟨W.heap.size + 1, 1, none⟩ = some (.slice bd m bcap) := cell_gr hw1 (by go_simp)
  have zw1_1 : W.heap.size + 1 < w1.heap.size := World.block_lt_of_cell? _ _ cw1_1_0
  have gw1 : Gr W w1 := Gr.trans (by go_grown) hw1
  clear hw1
  go_wp2_with fail
  go_at_call 8
  refine ((H0.out _)).mono ?_
  rintro e w2 ⟨rfl, hw2⟩
  have cw2_0_0 : w2.cell? ⟨W.heap.size, 0, none⟩ = some (.int .i64 k) := cell_gr hw2 (by go_simp)
  have cw2_0_1 : w2.cell? ⟨W.heap.size, 1, none⟩ = some (.slice ad n cap) := cell_gr hw2 (by go_simp)
  have zw2_0 : W.heap.size < w2.heap.size := World.block_lt_of_cell? _ _ cw2_0_0
  have cw2_1_0 : w2.cell? ⟨W.heap.size + 1, 0, none⟩ = some (.int .i64 j) := cell_gr hw2 (by go_simp)
  have cw2_1_1 : w2.cell? ⟨W.heap.size + 1, 1, none⟩ = some (.slice bd m bcap) := cell_gr hw2 (by go_simp)
  have zw2_1 : W.heap.size + 1 < w2.heap.size := World.block_lt_of_cell? _ _ cw2_1_0
  have gw2 : Gr W w2 := Gr.trans (by have gg := gw1; have gs := gg.size; go_grown) hw2
  clear hw2 gw1 zw1_0 cw1_0_0 cw1_0_1 zw1_1 cw1_1_0 cw1_1_1
  go_wp2_with fail
  try simp only [List.append]
  refine Od.wp_region_ord [(0, false), (1, false), (3, false), (4, false), (2, true), (5, true), (6, false), (7, false), (8, false), (9, false), (11, false), (12, false), (10, true), (13, true), (14, false), (15, false), (16, false), (17, false), (18, false), (20, false), (21, false), (19, true), (22, true), (23, false), (24, false), (25, false), (26, false), (27, false), (28, false), (29, false), (31, false), (32, false), (33, false), (34, false), (30, true), (35, true), (36, false), (37, false), (38, false), (39, true), (40, false), (41, false)] (by kernel_rfl) (by kernel_rfl) ?_
  intro w4 hw4 KQ hKQ
  have cw4_0_0 : w4.cell? ⟨W.heap.size, 0, none⟩ = some (.int .i64 k) := cell_gr hw4 (by go_simp)
  have cw4_0_1 : w4.cell? ⟨W.heap.size, 1, none⟩ = some (.slice ad n cap) := cell_gr hw4 (by go_simp)
  have zw4_0 : W.heap.size < w4.heap.size := World.block_lt_of_cell? _ _ cw4_0_0
  have cw4_1_0 : w4.cell? ⟨W.heap.size + 1, 0, none⟩ = some (.int .i64 j) := cell_gr hw4 (by go_simp)
  have cw4_1_1 : w4.cell? ⟨W.heap.size + 1, 1, none⟩ = some (.slice bd m bcap) := cell_gr hw4 (by go_simp)
  have zw4_1 : W.heap.size + 1 < w4.heap.size := World.block_lt_of_cell? _ _ cw4_1_0
  have gw4 : Gr W w4 := Gr.trans (by have gg := gw2; have gs := gg.size; go_grown) hw4
  clear gw2 zw2_0 cw2_0_0 cw2_0_1 zw2_1 cw2_1_0 cw2_1_1
  clear hw4
  repeat (first | (refine Od.wpO_skip (by simp only [List.getElem?_toArray, List.getElem?_cons_succ, List.getElem?_cons_zero] <;> rfl) rfl ?_; simp only [Act.put, List.setIfInBounds_toArray, List.set_cons_zero, List.set_cons_succ]) | (refine Od.wpO_pure (by simp only [List.getElem?_toArray, List.getElem?_cons_succ, List.getElem?_cons_zero] <;> rfl) rfl ?_; apply Exists.intro; refine ⟨?_, ?_⟩; (· intro wx gx; obtain ⟨mx, rfl⟩ := spread_of_gr gx; clear gx; all_goals (apply Od.pAt_of_quiet; intro K hK; go_big_quiet_op; first | exact hK _ rfl | (apply Exists.intro; refine ⟨fun _ => ?_, ?_⟩; (· fail); exact hK _ rfl))); try simp only [Act.put, List.setIfInBounds_toArray, List.set_cons_zero, List.set_cons_succ]))
  refine Od.wpO_call (by simp only [List.getElem?_toArray, List.getElem?_cons_succ, List.getElem?_cons_zero] <;> rfl) rfl ?_
  intro QS hQS
  go_wp2_with fail
  go_at_call 17
  (with_reducible refine ((H1.out _ gw4)).mono ?_)
  rintro e w5 ⟨rfl, hw5⟩
  go_wp2_with fail
  apply Exists.intro
  refine ⟨?_, hw5, ?_⟩
  · simp only [Act.put, List.setIfInBounds_toArray, List.set_cons_zero, List.set_cons_succ]; rfl
  have cw5_0_0 : w5.cell? ⟨W.heap.size, 0, none⟩ = some (.int .i64 k) := cell_gr hw5 (by go_simp)
  have cw5_0_1 : w5.cell? ⟨W.heap.size, 1, none⟩ = some (.slice ad n cap) := cell_gr hw5 (by go_simp)
  have zw5_0 : W.heap.size < w5.heap.size := World.block_lt_of_cell? _ _ cw5_0_0
  have cw5_1_0 : w5.cell? ⟨W.heap.size + 1, 0, none⟩ = some (.int .i64 j) := cell_gr hw5 (by go_simp)
  have cw5_1_1 : w5.cell? ⟨W.heap.size + 1, 1, none⟩ = some (.slice bd m bcap) := cell_gr hw5 (by go_simp)
  have zw5_1 : W.heap.size + 1 < w5.heap.size := World.block_lt_of_cell? _ _ cw5_1_0
  have gw5 : Gr W w5 := Gr.trans (by have gg := gw4; have gs := gg.size; go_grown) hw5
  clear gw4 zw4_0 cw4_0_0 cw4_0_1 zw4_1 cw4_1_0 cw4_1_1
  clear hw5
  try simp only [Act.put, List.setIfInBounds_toArray, List.set_cons_zero, List.set_cons_succ]
  repeat (first | (refine Od.wpO_skip (by simp only [List.getElem?_toArray, List.getElem?_cons_succ, List.getElem?_cons_zero] <;> rfl) rfl ?_; simp only [Act.put, List.setIfInBounds_toArray, List.set_cons_zero, List.set_cons_succ]) | (refine Od.wpO_pure (by simp only [List.getElem?_toArray, List.getElem?_cons_succ, List.getElem?_cons_zero] <;> rfl) rfl ?_; apply Exists.intro; refine ⟨?_, ?_⟩; (· intro wx gx; obtain ⟨mx, rfl⟩ := spread_of_gr gx; clear gx; all_goals (apply Od.pAt_of_quiet; intro K hK; go_big_quiet_op; first | exact hK _ rfl | (apply Exists.intro; refine ⟨fun _ => ?_, ?_⟩; (· fail); exact hK _ rfl))); try simp only [Act.put, List.setIfInBounds_toArray, List.set_cons_zero, List.set_cons_succ]))
  refine Od.wpO_call (by simp only [List.getElem?_toArray, List.getElem?_cons_succ, List.getElem?_cons_zero] <;> rfl) rfl ?_
  intro QS hQS
  go_wp2_with fail
  go_at_call 18
  (with_reducible refine ((H2.out _ gw5)).mono ?_)
  rintro e w6 ⟨rfl, hw6⟩
  go_wp2_with fail
  apply Exists.intro
  refine ⟨?_, hw6, ?_⟩
  · simp only [Act.put, List.setIfInBounds_toArray, List.set_cons_zero, List.set_cons_succ]; rfl
  have cw6_0_0 : w6.cell? ⟨W.heap.size, 0, none⟩ = some (.int .i64 k) := cell_gr hw6 (by go_simp)
  have cw6_0_1 : w6.cell? ⟨W.heap.size, 1, none⟩ = some (.slice ad n cap) := cell_gr hw6 (by go_simp)
  have zw6_0 : W.heap.size < w6.heap.size := World.block_lt_of_cell? _ _ cw6_0_0
  have cw6_1_0 : w6.cell? ⟨W.heap.size + 1, 0, none⟩ = some (.int .i64 j) := cell_gr hw6 (by go_simp)
  have cw6_1_1 : w6.cell? ⟨W.heap.size + 1, 1, none⟩ = some (.slice bd m bcap) := cell_gr hw6 (by go_simp)
  have zw6_1 : W.heap.size + 1 < w6.heap.size := World.block_lt_of_cell? _ _ cw6_1_0
  have gw6 : Gr W w6 := Gr.trans (by have gg := gw5; have gs := gg.size; go_grown) hw6
  clear gw5 zw5_0 cw5_0_0 cw5_0_1 zw5_1 cw5_1_0 cw5_1_1
  clear hw6
  try simp only [Act.put, List.setIfInBounds_toArray, List.set_cons_zero, List.set_cons_succ]
  repeat (first | (refine Od.wpO_skip (by simp only [List.getElem?_toArray, List.getElem?_cons_succ, List.getElem?_cons_zero] <;> rfl) rfl ?_; simp only [Act.put, List.setIfInBounds_toArray, List.set_cons_zero, List.set_cons_succ]) | (refine Od.wpO_pure (by simp only [List.getElem?_toArray, List.getElem?_cons_succ, List.getElem?_cons_zero] <;> rfl) rfl ?_; apply Exists.intro; refine ⟨?_, ?_⟩; (· intro wx gx; obtain ⟨mx, rfl⟩ := spread_of_gr gx; clear gx; all_goals (apply Od.pAt_of_quiet; intro K hK; go_big_quiet_op; first | exact hK _ rfl | (apply Exists.intro; refine ⟨fun _ => ?_, ?_⟩; (· fail); exact hK _ rfl))); try simp only [Act.put, List.setIfInBounds_toArray, List.set_cons_zero, List.set_cons_succ]))
  refine Od.wpO_call (by simp only [List.getElem?_toArray, List.getElem?_cons_succ, List.getElem?_cons_zero] <;> rfl) rfl ?_
  intro QS hQS
  go_wp2_with fail
  go_at_call 17
  (with_reducible refine ((H3.out _ gw6)).mono ?_)
  rintro e w7 ⟨rfl, hw7⟩
  go_wp2_with fail
  apply Exists.intro
  refine ⟨?_, hw7, ?_⟩
  · simp only [Act.put, List.setIfInBounds_toArray, List.set_cons_zero, List.set_cons_succ]; rfl
  have cw7_0_0 : w7.cell? ⟨W.heap.size, 0, none⟩ = some (.int .i64 k) := cell_gr hw7 (by go_simp)
  have cw7_0_1 : w7.cell? ⟨W.heap.size, 1, none⟩ = some (.slice ad n cap) := cell_gr hw7 (by go_simp)
  have zw7_0 : W.heap.size < w7.heap.size := World.block_lt_of_cell? _ _ cw7_0_0
  have cw7_1_0 : w7.cell? ⟨W.heap.size + 1, 0, none⟩ = some (.int .i64 j) := cell_gr hw7 (by go_simp)
  have cw7_1_1 : w7.cell? ⟨W.heap.size + 1, 1, none⟩ = some (.slice bd m bcap) := cell_gr hw7 (by go_simp)
  have zw7_1 : W.heap.size + 1 < w7.heap.size := World.block_lt_of_cell? _ _ cw7_1_0
  have gw7 : Gr W w7 := Gr.trans (by have gg := gw6; have gs := gg.size; go_grown) hw7
  clear gw6 zw6_0 cw6_0_0 cw6_0_1 zw6_1 cw6_1_0 cw6_1_1
  clear hw7
  try simp only [Act.put, List.setIfInBounds_toArray, List.set_cons_zero, List.set_cons_succ]
  repeat (first | (refine Od.wpO_skip (by simp only [List.getElem?_toArray, List.getElem?_cons_succ, List.getElem?_cons_zero] <;> rfl) rfl ?_; simp only [Act.put, List.setIfInBounds_toArray, List.set_cons_zero, List.set_cons_succ]) | (refine Od.wpO_pure (by simp only [List.getElem?_toArray, List.getElem?_cons_succ, List.getElem?_cons_zero] <;> rfl) rfl ?_; apply Exists.intro; refine ⟨?_, ?_⟩; (· intro wx gx; obtain ⟨mx, rfl⟩ := spread_of_gr gx; clear gx; all_goals (apply Od.pAt_of_quiet; intro K hK; go_big_quiet_op; first | exact hK _ rfl | (apply Exists.intro; refine ⟨fun _ => ?_, ?_⟩; (· fail); exact hK _ rfl))); try simp only [Act.put, List.setIfInBounds_toArray, List.set_cons_zero, List.set_cons_succ]))
  refine Od.wpO_call (by simp only [List.getElem?_toArray, List.getElem?_cons_succ, List.getElem?_cons_zero] <;> rfl) rfl ?_
  intro QS hQS
  go_wp2_with fail
  go_at_call 18
  (with_reducible refine ((H2.out _ gw7)).mono ?_)
  rintro e w8 ⟨rfl, hw8⟩
  go_wp2_with fail
  apply Exists.intro
  refine ⟨?_, hw8, ?_⟩
  · simp only [Act.put, List.setIfInBounds_toArray, List.set_cons_zero, List.set_cons_succ]; rfl
  have cw8_0_0 : w8.cell? ⟨W.heap.size, 0, none⟩ = some (.int .i64 k) := cell_gr hw8 (by go_simp)
  have cw8_0_1 : w8.cell? ⟨W.heap.size, 1, none⟩ = some (.slice ad n cap) := cell_gr hw8 (by go_simp)
  have zw8_0 : W.heap.size < w8.heap.size := World.block_lt_of_cell? _ _ cw8_0_0
  have cw8_1_0 : w8.cell? ⟨W.heap.size + 1, 0, none⟩ = some (.int .i64 j) := cell_gr hw8 (by go_simp)
  have cw8_1_1 : w8.cell? ⟨W.heap.size + 1, 1, none⟩ = some (.slice bd m bcap) := cell_gr hw8 (by go_simp)
  have zw8_1 : W.heap.size + 1 < w8.heap.size := World.block_lt_of_cell? _ _ cw8_1_0
  have gw8 : Gr W w8 := Gr.trans (by have gg := gw7; have gs := gg.size; go_grown) hw8
  clear gw7 zw7_0 cw7_0_0 cw7_0_1 zw7_1 cw7_1_0 cw7_1_1
  clear hw8
  try simp only [Act.put, List.setIfInBounds_toArray, List.set_cons_zero, List.set_cons_succ]
  repeat (first | (refine Od.wpO_skip (by simp only [List.getElem?_toArray, List.getElem?_cons_succ, List.getElem?_cons_zero] <;> rfl) rfl ?_; simp only [Act.put, List.setIfInBounds_toArray, List.set_cons_zero, List.set_cons_succ]) | (refine Od.wpO_pure (by simp only [List.getElem?_toArray, List.getElem?_cons_succ, List.getElem?_cons_zero] <;> rfl) rfl ?_; apply Exists.intro; refine ⟨?_, ?_⟩; (· intro wx gx; obtain ⟨mx, rfl⟩ := spread_of_gr gx; clear gx; all_goals (apply Od.pAt_of_quiet; intro K hK; go_big_quiet_op; first | exact hK _ rfl | (apply Exists.intro; refine ⟨fun _ => ?_, ?_⟩; (· fail); exact hK _ rfl))); try simp only [Act.put, List.setIfInBounds_toArray, List.set_cons_zero, List.set_cons_succ]))
  refine Od.wpO_call (by simp only [List.getElem?_toArray, List.getElem?_cons_succ, List.getElem?_cons_zero] <;> rfl) rfl ?_
  intro QS hQS
  go_wp2_with fail
  go_at_call 19
  (with_reducible refine ((H4.out _ gw8)).mono ?_)
  rintro e w9 ⟨rfl, hw9⟩
  go_wp2_with fail
  apply Exists.intro
  refine ⟨?_, hw9, ?_⟩
  · simp only [Act.put, List.setIfInBounds_toArray, List.set_cons_zero, List.set_cons_succ]; rfl
  have cw9_0_0 : w9.cell? ⟨W.heap.size, 0, none⟩ = some (.int .i64 k) := cell_gr hw9 (by go_simp)
  have cw9_0_1 : w9.cell? ⟨W.heap.size, 1, none⟩ = some (.slice ad n cap) := cell_gr hw9 (by go_simp)
  have zw9_0 : W.heap.size < w9.heap.size := World.block_lt_of_cell? _ _ cw9_0_0
  have cw9_1_0 : w9.cell? ⟨W.heap.size + 1, 0, none⟩ = some (.int .i64 j) := cell_gr hw9 (by go_simp)
  have cw9_1_1 : w9.cell? ⟨W.heap.size + 1, 1, none⟩ = some (.slice bd m bcap) := cell_gr hw9 (by go_simp)
  have zw9_1 : W.heap.size + 1 < w9.heap.size := World.block_lt_of_cell? _ _ cw9_1_0
  have gw9 : Gr W w9 := Gr.trans (by have gg := gw8; have gs := gg.size; go_grown) hw9
  clear gw8 zw8_0 cw8_0_0 cw8_0_1 zw8_1 cw8_1_0 cw8_1_1
  clear hw9
  try simp only [Act.put, List.setIfInBounds_toArray, List.set_cons_zero, List.set_cons_succ]
  repeat (first | (refine Od.wpO_skip (by simp only [List.getElem?_toArray, List.getElem?_cons_succ, List.getElem?_cons_zero] <;> rfl) rfl ?_; simp only [Act.put, List.setIfInBounds_toArray, List.set_cons_zero, List.set_cons_succ]) | (refine Od.wpO_pure (by simp only [List.getElem?_toArray, List.getElem?_cons_succ, List.getElem?_cons_zero] <;> rfl) rfl ?_; apply Exists.intro; refine ⟨?_, ?_⟩; (· intro wx gx; obtain ⟨mx, rfl⟩ := spread_of_gr gx; clear gx; all_goals (apply Od.pAt_of_quiet; intro K hK; go_big_quiet_op; first | exact hK _ rfl | (apply Exists.intro; refine ⟨fun _ => ?_, ?_⟩; (· fail); exact hK _ rfl))); try simp only [Act.put, List.setIfInBounds_toArray, List.set_cons_zero, List.set_cons_succ]))
  refine Od.wpO_call (by simp only [List.getElem?_toArray, List.getElem?_cons_succ, List.getElem?_cons_zero] <;> rfl) rfl ?_
  intro QS hQS
  go_wp2_with fail
  go_at_call 20
  (with_reducible refine ((H5.out _ gw9)).mono ?_)
  rintro e wa ⟨rfl, hwa⟩
  go_wp2_with fail
  apply Exists.intro
  refine ⟨?_, hwa, ?_⟩
  · simp only [Act.put, List.setIfInBounds_toArray, List.set_cons_zero, List.set_cons_succ]; rfl
  have cwa_0_0 : wa.cell? ⟨W.heap.size, 0, none⟩ = some (.int .i64 k) := cell_gr hwa (by go_simp)
  have cwa_0_1 : wa.cell? ⟨W.heap.size, 1, none⟩ = some (.slice ad n cap) := cell_gr hwa (by go_simp)
  have zwa_0 : W.heap.size < wa.heap.size := World.block_lt_of_cell? _ _ cwa_0_0
  have cwa_1_0 : wa.cell? ⟨W.heap.size + 1, 0, none⟩ = some (.int .i64 j) := cell_gr hwa (by go_simp)
  have cwa_1_1 : wa.cell? ⟨W.heap.size + 1, 1, none⟩ = some (.slice bd m bcap) := cell_gr hwa (by go_simp)
  have zwa_1 : W.heap.size + 1 < wa.heap.size := World.block_lt_of_cell? _ _ cwa_1_0
  have gwa : Gr W wa := Gr.trans (by have gg := gw9; have gs := gg.size; go_grown) hwa
  clear gw9 zw9_0 cw9_0_0 cw9_0_1 zw9_1 cw9_1_0 cw9_1_1
  clear hwa
  try simp only [Act.put, List.setIfInBounds_toArray, List.set_cons_zero, List.set_cons_succ]
  repeat (first | (refine Od.wpO_skip (by simp only [List.getElem?_toArray, List.getElem?_cons_succ, List.getElem?_cons_zero] <;> rfl) rfl ?_; simp only [Act.put, List.setIfInBounds_toArray, List.set_cons_zero, List.set_cons_succ]) | (refine Od.wpO_pure (by simp only [List.getElem?_toArray, List.getElem?_cons_succ, List.getElem?_cons_zero] <;> rfl) rfl ?_; apply Exists.intro; refine ⟨?_, ?_⟩; (· intro wx gx; obtain ⟨mx, rfl⟩ := spread_of_gr gx; clear gx; all_goals (apply Od.pAt_of_quiet; intro K hK; go_big_quiet_op; first | exact hK _ rfl | (apply Exists.intro; refine ⟨fun _ => ?_, ?_⟩; (· fail); exact hK _ rfl))); try simp only [Act.put, List.setIfInBounds_toArray, List.set_cons_zero, List.set_cons_succ]))
  refine Od.wpO_call (by simp only [List.getElem?_toArray, List.getElem?_cons_succ, List.getElem?_cons_zero] <;> rfl) rfl ?_
  intro QS hQS
  go_wp2_with fail
  go_at_call 21
  (with_reducible refine ((H6.out _ gwa)).mono ?_)
  rintro e wb ⟨rfl, hwb⟩
  go_wp2_with fail
  apply Exists.intro
  refine ⟨?_, hwb, ?_⟩
  · simp only [Act.put, List.setIfInBounds_toArray, List.set_cons_zero, List.set_cons_succ]; rfl
  have cwb_0_0 : wb.cell? ⟨W.heap.size, 0, none⟩ = some (.int .i64 k) := cell_gr hwb (by go_simp)
  have cwb_0_1 : wb.cell? ⟨W.heap.size, 1, none⟩ = some (.slice ad n cap) := cell_gr hwb (by go_simp)
  have zwb_0 : W.heap.size < wb.heap.size := World.block_lt_of_cell? _ _ cwb_0_0
  have cwb_1_0 : wb.cell? ⟨W.heap.size + 1, 0, none⟩ = some (.int .i64 j) := cell_gr hwb (by go_simp)
  have cwb_1_1 : wb.cell? ⟨W.heap.size + 1, 1, none⟩ = some (.slice bd m bcap) := cell_gr hwb (by go_simp)
  have zwb_1 : W.heap.size + 1 < wb.heap.size := World.block_lt_of_cell? _ _ cwb_1_0
  have gwb : Gr W wb := Gr.trans (by have gg := gwa; have gs := gg.size; go_grown) hwb
  clear gwa zwa_0 cwa_0_0 cwa_0_1 zwa_1 cwa_1_0 cwa_1_1
  clear hwb
  try simp only [Act.put, List.setIfInBounds_toArray, List.set_cons_zero, List.set_cons_succ]
  repeat (first | (refine Od.wpO_skip (by simp only [List.getElem?_toArray, List.getElem?_cons_succ, List.getElem?_cons_zero] <;> rfl) rfl ?_; simp only [Act.put, List.setIfInBounds_toArray, List.set_cons_zero, List.set_cons_succ]) | (refine Od.wpO_pure (by simp only [List.getElem?_toArray, List.getElem?_cons_succ, List.getElem?_cons_zero] <;> rfl) rfl ?_; apply Exists.intro; refine ⟨?_, ?_⟩; (· intro wx gx; obtain ⟨mx, rfl⟩ := spread_of_gr gx; clear gx; all_goals (apply Od.pAt_of_quiet; intro K hK; go_big_quiet_op; first | exact hK _ rfl | (apply Exists.intro; refine ⟨fun _ => ?_, ?_⟩; (· fail); exact hK _ rfl))); try simp only [Act.put, List.setIfInBounds_toArray, List.set_cons_zero, List.set_cons_succ]))
  refine Od.wpO_call (by simp only [List.getElem?_toArray, List.getElem?_cons_succ, List.getElem?_cons_zero] <;> rfl) rfl ?_
  intro QS hQS
  go_wp2_with fail
  go_at_call 22
  (with_reducible refine ((H9.out _ gwb)).mono ?_)
  rintro e wc ⟨rfl, hwc⟩
  go_wp2_with fail
  apply Exists.intro
  refine ⟨?_, hwc, ?_⟩
  · simp only [Act.put, List.setIfInBounds_toArray, List.set_cons_zero, List.set_cons_succ]; rfl
  have cwc_0_0 : wc.cell? ⟨W.heap.size, 0, none⟩ = some (.int .i64 k) := cell_gr hwc (by go_simp)
  have cwc_0_1 : wc.cell? ⟨W.heap.size, 1, none⟩ = some (.slice ad n cap) := cell_gr hwc (by go_simp)
  have zwc_0 : W.heap.size < wc.heap.size := World.block_lt_of_cell? _ _ cwc_0_0
  have cwc_1_0 : wc.cell? ⟨W.heap.size + 1, 0, none⟩ = some (.int .i64 j) := cell_gr hwc (by go_simp)
  have cwc_1_1 : wc.cell? ⟨W.heap.size + 1, 1, none⟩ = some (.slice bd m bcap) := cell_gr hwc (by go_simp)
  have zwc_1 : W.heap.size + 1 < wc.heap.size := World.block_lt_of_cell? _ _ cwc_1_0
  have gwc : Gr W wc := Gr.trans (by have gg := gwb; have gs := gg.size; go_grown) hwc
  clear gwb zwb_0 cwb_0_0 cwb_0_1 zwb_1 cwb_1_0 cwb_1_1
  clear hwc
  try simp only [Act.put, List.setIfInBounds_toArray, List.set_cons_zero, List.set_cons_succ]
  repeat (first | (refine Od.wpO_skip (by simp only [List.getElem?_toArray, List.getElem?_cons_succ, List.getElem?_cons_zero] <;> rfl) rfl ?_; simp only [Act.put, List.setIfInBounds_toArray, List.set_cons_zero, List.set_cons_succ]) | (refine Od.wpO_pure (by simp only [List.getElem?_toArray, List.getElem?_cons_succ, List.getElem?_cons_zero] <;> rfl) rfl ?_; apply Exists.intro; refine ⟨?_, ?_⟩; (· intro wx gx; obtain ⟨mx, rfl⟩ := spread_of_gr gx; clear gx; all_goals (apply Od.pAt_of_quiet; intro K hK; go_big_quiet_op; first | exact hK _ rfl | (apply Exists.intro; refine ⟨fun _ => ?_, ?_⟩; (· fail); exact hK _ rfl))); try simp only [Act.put, List.setIfInBounds_toArray, List.set_cons_zero, List.set_cons_succ]))
  refine Od.wpO_call (by simp only [List.getElem?_toArray, List.getElem?_cons_succ, List.getElem?_cons_zero] <;> rfl) rfl ?_
  intro QS hQS
  go_wp2_with fail
  go_at_call 9
  (with_reducible refine ((H7.out _ gwc)).mono ?_)
  rintro e wd ⟨rfl, hwd⟩
  go_wp2_with fail
  apply Exists.intro
  refine ⟨?_, hwd, ?_⟩
  · simp only [Act.put, List.setIfInBounds_toArray, List.set_cons_zero, List.set_cons_succ]; rfl
  have cwd_0_0 : wd.cell? ⟨W.heap.size, 0, none⟩ = some (.int .i64 k) := cell_gr hwd (by go_simp)
  have cwd_0_1 : wd.cell? ⟨W.heap.size, 1, none⟩ = some (.slice ad n cap) := cell_gr hwd (by go_simp)
  have zwd_0 : W.heap.size < wd.heap.size := World.block_lt_of_cell? _ _ cwd_0_0
  have cwd_1_0 : wd.cell? ⟨W.heap.size + 1, 0, none⟩ = some (.int .i64 j) := cell_gr hwd (by go_simp)
  have cwd_1_1 : wd.cell? ⟨W.heap.size + 1, 1, none⟩ = some (.slice bd m bcap) := cell_gr hwd (by go_simp)
  have zwd_1 : W.heap.size + 1 < wd.heap.size := World.block_lt_of_cell? _ _ cwd_1_0
  have gwd : Gr W wd := Gr.trans (by have gg := gwc; have gs := gg.size; go_grown) hwd
  clear gwc zwc_0 cwc_0_0 cwc_0_1 zwc_1 cwc_1_0 cwc_1_1
  clear hwd
  try simp only [Act.put, List.setIfInBounds_toArray, List.set_cons_zero, List.set_cons_succ]
  repeat (first | (refine Od.wpO_skip (by simp only [List.getElem?_toArray, List.getElem?_cons_succ, List.getElem?_cons_zero] <;> rfl) rfl ?_; simp only [Act.put, List.setIfInBounds_toArray, List.set_cons_zero, List.set_cons_succ]) | (refine Od.wpO_pure (by simp only [List.getElem?_toArray, List.getElem?_cons_succ, List.getElem?_cons_zero] <;> rfl) rfl ?_; apply Exists.intro; refine ⟨?_, ?_⟩; (· intro wx gx; obtain ⟨mx, rfl⟩ := spread_of_gr gx; clear gx; all_goals (apply Od.pAt_of_quiet; intro K hK; go_big_quiet_op; first | exact hK _ rfl | (apply Exists.intro; refine ⟨fun _ => ?_, ?_⟩; (· fail); exact hK _ rfl))); try simp only [Act.put, List.setIfInBounds_toArray, List.set_cons_zero, List.set_cons_succ]))
  refine Od.wpO_nil (hKQ _ _ ?_)
  clear hKQ KQ
  go_wp2_with fail
  go_ret
  exact ⟨rfl, gwd⟩
theorem walk_RelTouches (W : World) (k : Int) (v : Value) (j : Int) (u : Value) (h : (-9223372036854775808 ≤ k ∧ k ≤ 9223372036854775807) ∧ ∃ (n : Nat) (X Y : Nat → Int), Pts W v n X Y) (hu : (-9223372036854775808 ≤ j ∧ j ≤ 9223372036854775807) ∧ ∃ (n : Nat) (X Y : Nat → Int), Pts W u n X Y) (hE : ErrT W) :
    Calls Tryz.prog 4 #[.agg #[.int .i64 k, v], .agg #[.int .i64 j, u]] W fun e w' => e = .returned (.bool true) ∧ Gr W w' := by
  obtain ⟨-, n, X, Y, h⟩ := h
  obtain ⟨-, m, P, Q, hu⟩ := hu
  have A7 : ∀ w, Gr W w → Calls Tryz.prog 9 #[] w fun e w' => e = .returned (.bool true) ∧ Gr w w' := fun w g => p6_awake w (errT_gr hE g)
  by_cases hn : n ≤ 70
  · by_cases hm : m ≤ 70
    · have A1 := fun w (g : Gr W w) => c_TouchAny (k := k) (j := j) w (errT_gr hE g) (pts_gr h g) (pts_gr hu g)
      have A2 := fun w (g : Gr W w) => c_rTouchG (k := k) (j := j) w (pts_gr h g) (pts_gr hu g)
      have A3 := fun w (g : Gr W w) => c_TouchAny (k := j) (j := k) w (errT_gr hE g) (pts_gr hu g) (pts_gr h g)
      have e1 : (decide (objC k n X Y = 0) && decide (objC j m P Q = 0) && tcA k n X Y j m P Q) = (decide (objC k n X Y = 0) && decide (objC j m P Q = 0) && tcD k n X Y j m P Q) := by
        by_cases hc : objC k n X Y = 0
        · by_cases hd : objC j m P Q = 0
          · rw [tc_doc hc hd]
          · simp [hd]
        · simp [hc]
      have e2 : (decide (objC j m P Q = 0) && decide (objC k n X Y = 0) && tcA j m P Q k n X Y) = (decide (objC k n X Y = 0) && decide (objC j m P Q = 0) && tcD k n X Y j m P Q) := by
        by_cases hc : objC k n X Y = 0
        · by_cases hd : objC j m P Q = 0
          · rw [tc_doc hd hc, tcD_comm]
            simp [hc, hd]
          · simp [hd]
        · simp [hc]
      rw [e1] at A1
      rw [e2] at A3
      obtain ⟨s, hs⟩ : ∃ s : Bool, s = true ↔ (k = j ∧ n = m ∧ ∀ i, i < n → X i = P i ∧ Y i = Q i) := by
        by_cases c : k = j ∧ n = m ∧ ∀ i, i < n → X i = P i ∧ Y i = Q i
        · exact ⟨true, iff_of_true rfl c⟩
        · exact ⟨false, iff_of_false (by decide) c⟩
      have A4 := fun w (g : Gr W w) => c_Same s w (pts_gr h g) (pts_gr hu g) (by omega) hs
      have A5 := fun w (g : Gr W w) => c_rSame k j s w (pts_gr h g) (pts_gr hu g) (by omega) hs
      have A6 := fun w (g : Gr W w) => c_Rings w (pts_gr h g) (pts_gr hu g)
      have A9 := fun w (g : Gr W w) => c_rRings w (pts_gr h g) (pts_gr hu g)
      have e3 : (decide ((Rg.ringC n X Y).1 = 0) && decide ((Rg.ringC m P Q).1 = 0) && rgV n X Y m P Q) = (decide ((Rg.ringC n X Y).1 = 0) && decide ((Rg.ringC m P Q).1 = 0) && rgD n X Y m P Q) := by
        by_cases hc : (Rg.ringC n X Y).1 = 0
        · by_cases hd : (Rg.ringC m P Q).1 = 0
          · rw [rg_doc hc hd]
          · simp [hd]
        · simp [hc]
      rw [e3] at A6
      obtain ⟨ad, cap, B, off, rfl, _⟩ := h
      obtain ⟨bd, bcap, C, oc, rfl, _⟩ := hu
      exact touches_core k j ad bd n cap m bcap _ s _ W hn hm A1 A2 A3 A4 A5 A6 A9 A7
    · obtain ⟨ad, cap, B, off, rfl, _⟩ := h
      obtain ⟨bd, bcap, C, oc, rfl, _⟩ := hu
      have A8 := fun w => c_small6 k 0 0 0 0 0 ad none n cap 0 0 w
      have A0 := fun w => c_small6 j 0 0 0 0 0 bd none m bcap 0 0 w
      rw [decide_eq_true hn, decide_eq_true (by omega : 0 ≤ 70)] at A8
      rw [decide_eq_false hm] at A0
      have H7 := Lib.hid A7
      have H8 := Lib.hid A8
      have H0 := Lib.hid A0
      clear A7 A8 A0
      clear hE hn hm
      go_enter Tryz.func4, Tryz.ntmps4
      go_wp2_with fail
      go_at_call 8
      refine ((H8.out _)).mono ?_
      rintro e w1 ⟨rfl, hw1⟩
      have cw1_0_0 : w1.cell? ⟨W.heap.size, 0, none⟩ = some (.int .i64 k) := cell_gr hw1 (by go_simp)
      have cw1_0_1 : w1.cell? ⟨W.heap.size, 1, none⟩ = some (.slice ad n cap) := cell_gr hw1 (by go_simp)
      have zw1_0 : W.heap.size < w1.heap.size := World.block_lt_of_cell? _ _ cw1_0_0
      have cw1_1_0 : w1.cell? ⟨W.heap.size + 1, 0, none⟩ = some (.int .i64 j) := cell_gr hw1 (by go_simp)
      have cw1_1_1 : w1.cell? ⟨W.heap.size + 1, 1, none⟩ = some (.slice bd m bcap) := cell_gr hw1 (by go_simp)
      have zw1_1 : W.heap.size + 1 < w1.heap.size := World.block_lt_of_cell? _ _ cw1_1_0
      have gw1 : Gr W w1 := Gr.trans (by go_grown) hw1
      clear hw1
      go_wp2_with fail
      go_at_call 8
      refine ((H0.out _)).mono ?_
      rintro e w2 ⟨rfl, hw2⟩
      have cw2_0_0 : w2.cell? ⟨W.heap.size, 0, none⟩ = some (.int .i64 k) := cell_gr hw2 (by go_simp)
      have cw2_0_1 : w2.cell? ⟨W.heap.size, 1, none⟩ = some (.slice ad n cap) := cell_gr hw2 (by go_simp)
      have zw2_0 : W.heap.size < w2.heap.size := World.block_lt_of_cell? _ _ cw2_0_0
      have cw2_1_0 : w2.cell? ⟨W.heap.size + 1, 0, none⟩ = some (.int .i64 j) := cell_gr hw2 (by go_simp)
      have cw2_1_1 : w2.cell? ⟨W.heap.size + 1, 1, none⟩ = some (.slice bd m bcap) := cell_gr hw2 (by go_simp)
      have zw2_1 : W.heap.size + 1 < w2.heap.size := World.block_lt_of_cell? _ _ cw2_1_0
      have gw2 : Gr W w2 := Gr.trans (by have gg := gw1; have gs := gg.size; go_grown) hw2
      clear hw2 gw1 zw1_0 cw1_0_0 cw1_0_1 zw1_1 cw1_1_0 cw1_1_1
      go_wp2_with fail
      go_at_call 9
      refine ((H7.out _ (by have gg := gw2; have gs := gg.size; go_grown))).mono ?_
      rintro e w3 ⟨rfl, hw3⟩
      have cw3_0_0 : w3.cell? ⟨W.heap.size, 0, none⟩ = some (.int .i64 k) := cell_gr hw3 (by go_simp)
      have cw3_0_1 : w3.cell? ⟨W.heap.size, 1, none⟩ = some (.slice ad n cap) := cell_gr hw3 (by go_simp)
      have zw3_0 : W.heap.size < w3.heap.size := World.block_lt_of_cell? _ _ cw3_0_0
      have cw3_1_0 : w3.cell? ⟨W.heap.size + 1, 0, none⟩ = some (.int .i64 j) := cell_gr hw3 (by go_simp)
      have cw3_1_1 : w3.cell? ⟨W.heap.size + 1, 1, none⟩ = some (.slice bd m bcap) := cell_gr hw3 (by go_simp)
      have zw3_1 : W.heap.size + 1 < w3.heap.size := World.block_lt_of_cell? _ _ cw3_1_0
      have gw3 : Gr W w3 := Gr.trans (by have gg := gw2; have gs := gg.size; go_grown) hw3
      clear hw3 gw2 zw2_0 cw2_0_0 cw2_0_1 zw2_1 cw2_1_0 cw2_1_1
      go_wp2_with fail
      go_ret
      exact ⟨rfl, gw3⟩
  · obtain ⟨ad, cap, B, off, rfl, _⟩ := h
    obtain ⟨bd, bcap, C, oc, rfl, _⟩ := hu
    have A8 := fun w => c_small6 k 0 0 0 0 0 ad none n cap 0 0 w
    rw [decide_eq_false hn] at A8
    have H7 := Lib.hid A7
    have H8 := Lib.hid A8
    clear A7 A8
    clear hE hn
    go_enter Tryz.func4, Tryz.ntmps4
    go_wp2_with fail
    go_at_call 8
    refine ((H8.out _)).mono ?_
    rintro e w1 ⟨rfl, hw1⟩
    have cw1_0_0 : w1.cell? ⟨W.heap.size, 0, none⟩ = some (.int .i64 k) := cell_gr hw1 (by go_simp)
    have cw1_0_1 : w1.cell? ⟨W.heap.size, 1, none⟩ = some (.slice ad n cap) := cell_gr hw1 (by go_simp)
    have zw1_0 : W.heap.size < w1.heap.size := World.block_lt_of_cell? _ _ cw1_0_0
    have cw1_1_0 : w1.cell? ⟨W.heap.size + 1, 0, none⟩ = some (.int .i64 j) := cell_gr hw1 (by go_simp)
    have cw1_1_1 : w1.cell? ⟨W.heap.size + 1, 1, none⟩ = some (.slice bd m bcap) := cell_gr hw1 (by go_simp)
    have zw1_1 : W.heap.size + 1 < w1.heap.size := World.block_lt_of_cell? _ _ cw1_1_0
    have gw1 : Gr W w1 := Gr.trans (by go_grown) hw1
    clear hw1
    go_wp2_with fail
    go_at_call 9
    refine ((H7.out _ (by have gg := gw1; have gs := gg.size; go_grown))).mono ?_
    rintro e w3 ⟨rfl, hw3⟩
    have cw3_0_0 : w3.cell? ⟨W.heap.size, 0, none⟩ = some (.int .i64 k) := cell_gr hw3 (by go_simp)
    have cw3_0_1 : w3.cell? ⟨W.heap.size, 1, none⟩ = some (.slice ad n cap) := cell_gr hw3 (by go_simp)
    have zw3_0 : W.heap.size < w3.heap.size := World.block_lt_of_cell? _ _ cw3_0_0
    have cw3_1_0 : w3.cell? ⟨W.heap.size + 1, 0, none⟩ = some (.int .i64 j) := cell_gr hw3 (by go_simp)
    have cw3_1_1 : w3.cell? ⟨W.heap.size + 1, 1, none⟩ = some (.slice bd m bcap) := cell_gr hw3 (by go_simp)
    have zw3_1 : W.heap.size + 1 < w3.heap.size := World.block_lt_of_cell? _ _ cw3_1_0
    have gw3 : Gr W w3 := Gr.trans (by have gg := gw1; have gs := gg.size; go_grown) hw3
    clear hw3 gw1 zw1_0 cw1_0_0 cw1_0_1 zw1_1 cw1_1_0 cw1_1_1
    go_wp2_with fail
    go_ret
    exact ⟨rfl, gw3⟩
end Go.Proofs.YtfobmlgpjhghdaaGreatDoor
namespace Go.Proofs.YtfobmlgpjhghdaaGreatDoor.Qs
open Go.ChangeShapes Go.WideShapes
theorem laid : laidOutB Tryz.prog = true := by kernel_rfl
theorem laidP : laidOutB Tryz.pinned.checked.prog = true := laid
theorem maps : mapsRowed Tryz.pinned.checked.prog = true := by kernel_rfl
end Go.Proofs.YtfobmlgpjhghdaaGreatDoor.Qs
