/- RingBoxes -/
import Derived.Test.YtfamocpbmbhmbaaDoorGo
import Derived.Test.YtfamocpbmbhmbaaDoorGn
import Derived.Test.YtfamocpbmbhmbaaDoorOd
import Derived.Test.YtfamocpbmbhmbaaDoorRt
namespace Go.Proofs.YtfamocpbmbhmbaaDoor
set_option linter.unusedVariables false
set_option linter.unusedSimpArgs false
open Go.ChangeShapes Go.WideShapes Go.ChangeAt Go.RowKit

set_option maxHeartbeats 8000000 in
set_option maxRecDepth 100000 in
theorem boxes_core (lx ly hx hy px py T A : Int) (bh : Bool) (W : World) (hlx : lx < hx) (hly : ly < hy)
    (A1 : ∀ w, Calls Tryd.prog 24 #[.agg #[.int .i64 lx, .int .i64 ly, .int .i64 hx, .int .i64 hy]] w fun e w' => e = .returned (.int .i64 0) ∧ Gr w w')
    (A2 : ∀ w, Calls Tryd.prog 25 #[.agg #[.int .i64 lx, .int .i64 ly, .int .i64 hx, .int .i64 hy]] w fun e w' => e = .returned (.agg #[.int .u64 0, .int .u64 A]) ∧ Gr w w')
    (A3 : ∀ w, Gr W w → Calls Tryd.prog 9 #[] w fun e w' => e = .returned (.bool true) ∧ Gr w w')
    (A4 : ∀ w, Calls Tryd.prog 27 #[.agg #[.int .i64 lx, .int .i64 ly, .int .i64 hx, .int .i64 hy], .agg #[.int .i64 px, .int .i64 py]] w fun e w' => e = .returned (.bool bh) ∧ Gr w w')
    (A5 : ∀ w, Calls Tryd.prog 26 #[.agg #[.int .u64 0, .int .u64 A], .agg #[.int .u64 0, .int .u64 A]] w fun e w' => e = .returned (.tuple #[.agg #[.int .u64 0, .int .u64 T], .bool false]) ∧ Gr w w')
    (S1 : ∀ w v, Pts w v 4 (Rg.qX lx hx) (Rg.qY ly hy) → Calls Tryd.prog 14 #[v] w fun e w' => e = .returned .nilIface ∧ Gr w w')
    (S2 : ∀ w v, Pts w v 4 (Rg.qX lx hx) (Rg.qY ly hy) → Calls Tryd.prog 11 #[v] w fun e w' => e = .returned (.tuple #[.agg #[.int .i64 lx, .int .i64 ly, .int .i64 hx, .int .i64 hy], .nilIface]) ∧ Gr w w')
    (S3 : ∀ w v, Pts w v 4 (Rg.qX lx hx) (Rg.qY ly hy) → Calls Tryd.prog 18 #[v] w fun e w' => e = .returned (.bool true) ∧ Gr w w')
    (S5 : ∀ w v, Pts w v 4 (Rg.qX lx hx) (Rg.qY ly hy) → Calls Tryd.prog 16 #[v] w fun e w' => e = .returned (.agg #[.int .u64 0, .int .u64 T]) ∧ Gr w w')
    (S8 : ∀ w v, Pts w v 4 (Rg.qX lx hx) (Rg.qY ly hy) → Calls Tryd.prog 20 #[v, .agg #[.int .i64 px, .int .i64 py]] w fun e w' => e = .returned (.bool bh) ∧ Gr w w') :
    Calls Tryd.prog 4 #[.agg #[.int .i64 lx, .int .i64 ly, .int .i64 hx, .int .i64 hy], .agg #[.int .i64 px, .int .i64 py]] W fun e w' => e = .returned (.bool true) ∧ Gr W w' := by
  have t1 : ((lx : Int) == hx) = false := by simp; omega
  have t2 : ((ly : Int) == hy) = false := by simp; omega
  have t3 : decide (lx = hx) = false := decide_eq_false (by omega)
  have t4 : decide (ly = hy) = false := decide_eq_false (by omega)
  have n1 : ¬ lx = hx := by omega
  have n2 : ¬ ly = hy := by omega
  have b0 : (bh == bh) = true := by simp
  clear hlx hly
  have H1 := Lib.hid A1
  have H2 := Lib.hid A2
  have H3 := Lib.hid A3
  have H4 := Lib.hid A4
  have H5 := Lib.hid A5
  clear A1 A2 A3 A4 A5
  have HS := Lib.hid (And.intro S1 (And.intro S2 (And.intro S3 (And.intro S5 S8))))
  clear S1 S2 S3 S5 S8
  go_enter Tryd.func4, Tryd.ntmps4
  go_wp2_with fail
  go_at_call 24
  refine ((H1.out _)).mono ?_
  rintro e w1 ⟨rfl, hw1⟩
  have cw1_0_0 : w1.cell? ⟨W.heap.size, 0, none⟩ = some (.int .i64 lx) := cell_gr hw1 (by go_simp)
  have cw1_0_1 : w1.cell? ⟨W.heap.size, 1, none⟩ = some (.int .i64 ly) := cell_gr hw1 (by go_simp)
  have cw1_0_2 : w1.cell? ⟨W.heap.size, 2, none⟩ = some (.int .i64 hx) := cell_gr hw1 (by go_simp)
  have cw1_0_3 : w1.cell? ⟨W.heap.size, 3, none⟩ = some (.int .i64 hy) := cell_gr hw1 (by go_simp)
  have zw1_0 : W.heap.size < w1.heap.size := World.block_lt_of_cell? _ _ cw1_0_0
  have cw1_1_0 : w1.cell? ⟨W.heap.size + 1, 0, none⟩ = some (.int .i64 px) := cell_gr hw1 (by go_simp)
  have cw1_1_1 : w1.cell? ⟨W.heap.size + 1, 1, none⟩ = some (.int .i64 py) := cell_gr hw1 (by go_simp)
  have zw1_1 : W.heap.size + 1 < w1.heap.size := World.block_lt_of_cell? _ _ cw1_1_0
  have gw1 : Gr W w1 := Gr.trans (by go_grown) hw1
  clear hw1
  go_wp2_with fail
  generalize hhw2 : (w1.alloc (.cells #[.int .i64 lx, .int .i64 ly, .int .i64 hx, .int .i64 ly, .int .i64 hx, .int .i64 hy, .int .i64 lx, .int .i64 hy] 24)) = w2
  have cw2_0_0 : w2.cell? ⟨W.heap.size, 0, none⟩ = some (.int .i64 lx) := by subst hhw2; go_simp
  have cw2_0_1 : w2.cell? ⟨W.heap.size, 1, none⟩ = some (.int .i64 ly) := by subst hhw2; go_simp
  have cw2_0_2 : w2.cell? ⟨W.heap.size, 2, none⟩ = some (.int .i64 hx) := by subst hhw2; go_simp
  have cw2_0_3 : w2.cell? ⟨W.heap.size, 3, none⟩ = some (.int .i64 hy) := by subst hhw2; go_simp
  have zw2_0 : W.heap.size < w2.heap.size := World.block_lt_of_cell? _ _ cw2_0_0
  have cw2_1_0 : w2.cell? ⟨W.heap.size + 1, 0, none⟩ = some (.int .i64 px) := by subst hhw2; go_simp
  have cw2_1_1 : w2.cell? ⟨W.heap.size + 1, 1, none⟩ = some (.int .i64 py) := by subst hhw2; go_simp
  have zw2_1 : W.heap.size + 1 < w2.heap.size := World.block_lt_of_cell? _ _ cw2_1_0
  have cw2_2_0 : w2.cell? ⟨w1.heap.size, 0, none⟩ = some (.int .i64 lx) := by subst hhw2; go_simp
  have cw2_2_1 : w2.cell? ⟨w1.heap.size, 1, none⟩ = some (.int .i64 ly) := by subst hhw2; go_simp
  have cw2_2_2 : w2.cell? ⟨w1.heap.size, 2, none⟩ = some (.int .i64 hx) := by subst hhw2; go_simp
  have cw2_2_3 : w2.cell? ⟨w1.heap.size, 3, none⟩ = some (.int .i64 ly) := by subst hhw2; go_simp
  have cw2_2_4 : w2.cell? ⟨w1.heap.size, 4, none⟩ = some (.int .i64 hx) := by subst hhw2; go_simp
  have cw2_2_5 : w2.cell? ⟨w1.heap.size, 5, none⟩ = some (.int .i64 hy) := by subst hhw2; go_simp
  have cw2_2_6 : w2.cell? ⟨w1.heap.size, 6, none⟩ = some (.int .i64 lx) := by subst hhw2; go_simp
  have cw2_2_7 : w2.cell? ⟨w1.heap.size, 7, none⟩ = some (.int .i64 hy) := by subst hhw2; go_simp
  have zw2_2 : w1.heap.size < w2.heap.size := World.block_lt_of_cell? _ _ cw2_2_0
  have gw2 : Gr W w2 := by subst hhw2; have gg := gw1; have gs := gg.size; go_grown
  clear hhw2 gw1 zw1_0 cw1_0_0 cw1_0_1 cw1_0_2 cw1_0_3 zw1_1 cw1_1_0 cw1_1_1
  have P1 := Lib.hid (pts4 (X := Rg.qX lx hx) (Y := Rg.qY ly hy) cw2_2_0 cw2_2_1 cw2_2_2 cw2_2_3 cw2_2_4 cw2_2_5 cw2_2_6 cw2_2_7)
  have K1 := Lib.hid (fun w (g : Gr w2 w) => HS.out.1 w _ (pts_gr P1.out g))
  have K2 := Lib.hid (fun w (g : Gr w2 w) => HS.out.2.1 w _ (pts_gr P1.out g))
  have K3 := Lib.hid (fun w (g : Gr w2 w) => HS.out.2.2.1 w _ (pts_gr P1.out g))
  have K5 := Lib.hid (fun w (g : Gr w2 w) => HS.out.2.2.2.1 w _ (pts_gr P1.out g))
  have K8 := Lib.hid (fun w (g : Gr w2 w) => HS.out.2.2.2.2 w _ (pts_gr P1.out g))
  have G0 := Lib.hid gw2
  clear HS P1 gw2 H1
  go_wp2_with fail
  go_at_call 11
  refine ((K2.out _ (Below.refl _ _))).mono ?_
  rintro e w3 ⟨rfl, hw3⟩
  have cw3_0_0 : w3.cell? ⟨W.heap.size, 0, none⟩ = some (.int .i64 lx) := cell_gr hw3 (by go_simp)
  have cw3_0_1 : w3.cell? ⟨W.heap.size, 1, none⟩ = some (.int .i64 ly) := cell_gr hw3 (by go_simp)
  have cw3_0_2 : w3.cell? ⟨W.heap.size, 2, none⟩ = some (.int .i64 hx) := cell_gr hw3 (by go_simp)
  have cw3_0_3 : w3.cell? ⟨W.heap.size, 3, none⟩ = some (.int .i64 hy) := cell_gr hw3 (by go_simp)
  have zw3_0 : W.heap.size < w3.heap.size := World.block_lt_of_cell? _ _ cw3_0_0
  have cw3_1_0 : w3.cell? ⟨W.heap.size + 1, 0, none⟩ = some (.int .i64 px) := cell_gr hw3 (by go_simp)
  have cw3_1_1 : w3.cell? ⟨W.heap.size + 1, 1, none⟩ = some (.int .i64 py) := cell_gr hw3 (by go_simp)
  have zw3_1 : W.heap.size + 1 < w3.heap.size := World.block_lt_of_cell? _ _ cw3_1_0
  have gw3 : Gr w2 w3 := Gr.trans (by go_grown) hw3
  clear hw3
  go_wp2_with fail
  go_at_call 25
  refine ((H2.out _)).mono ?_
  rintro e w4 ⟨rfl, hw4⟩
  have cw4_0_0 : w4.cell? ⟨W.heap.size, 0, none⟩ = some (.int .i64 lx) := cell_gr hw4 (by go_simp)
  have cw4_0_1 : w4.cell? ⟨W.heap.size, 1, none⟩ = some (.int .i64 ly) := cell_gr hw4 (by go_simp)
  have cw4_0_2 : w4.cell? ⟨W.heap.size, 2, none⟩ = some (.int .i64 hx) := cell_gr hw4 (by go_simp)
  have cw4_0_3 : w4.cell? ⟨W.heap.size, 3, none⟩ = some (.int .i64 hy) := cell_gr hw4 (by go_simp)
  have zw4_0 : W.heap.size < w4.heap.size := World.block_lt_of_cell? _ _ cw4_0_0
  have cw4_1_0 : w4.cell? ⟨W.heap.size + 1, 0, none⟩ = some (.int .i64 px) := cell_gr hw4 (by go_simp)
  have cw4_1_1 : w4.cell? ⟨W.heap.size + 1, 1, none⟩ = some (.int .i64 py) := cell_gr hw4 (by go_simp)
  have zw4_1 : W.heap.size + 1 < w4.heap.size := World.block_lt_of_cell? _ _ cw4_1_0
  have cw4_2_0 : w4.cell? ⟨w3.heap.size, 0, none⟩ = some (.int .i64 lx) := cell_gr hw4 (by go_simp)
  have cw4_2_1 : w4.cell? ⟨w3.heap.size, 1, none⟩ = some (.int .i64 ly) := cell_gr hw4 (by go_simp)
  have cw4_2_2 : w4.cell? ⟨w3.heap.size, 2, none⟩ = some (.int .i64 hx) := cell_gr hw4 (by go_simp)
  have cw4_2_3 : w4.cell? ⟨w3.heap.size, 3, none⟩ = some (.int .i64 hy) := cell_gr hw4 (by go_simp)
  have zw4_2 : w3.heap.size < w4.heap.size := World.block_lt_of_cell? _ _ cw4_2_0
  have gw4 : Gr w2 w4 := Gr.trans (by have gg := gw3; have gs := gg.size; go_grown) hw4
  clear hw4 gw3 zw3_0 cw3_0_0 cw3_0_1 cw3_0_2 cw3_0_3 zw3_1 cw3_1_0 cw3_1_1
  go_wp2_with fail
  go_at_call 26
  refine ((H5.out _)).mono ?_
  rintro e w5 ⟨rfl, hw5⟩
  have cw5_0_0 : w5.cell? ⟨W.heap.size, 0, none⟩ = some (.int .i64 lx) := cell_gr hw5 (by go_simp)
  have cw5_0_1 : w5.cell? ⟨W.heap.size, 1, none⟩ = some (.int .i64 ly) := cell_gr hw5 (by go_simp)
  have cw5_0_2 : w5.cell? ⟨W.heap.size, 2, none⟩ = some (.int .i64 hx) := cell_gr hw5 (by go_simp)
  have cw5_0_3 : w5.cell? ⟨W.heap.size, 3, none⟩ = some (.int .i64 hy) := cell_gr hw5 (by go_simp)
  have zw5_0 : W.heap.size < w5.heap.size := World.block_lt_of_cell? _ _ cw5_0_0
  have cw5_1_0 : w5.cell? ⟨W.heap.size + 1, 0, none⟩ = some (.int .i64 px) := cell_gr hw5 (by go_simp)
  have cw5_1_1 : w5.cell? ⟨W.heap.size + 1, 1, none⟩ = some (.int .i64 py) := cell_gr hw5 (by go_simp)
  have zw5_1 : W.heap.size + 1 < w5.heap.size := World.block_lt_of_cell? _ _ cw5_1_0
  have cw5_2_0 : w5.cell? ⟨w3.heap.size, 0, none⟩ = some (.int .i64 lx) := cell_gr hw5 (by go_simp)
  have cw5_2_1 : w5.cell? ⟨w3.heap.size, 1, none⟩ = some (.int .i64 ly) := cell_gr hw5 (by go_simp)
  have cw5_2_2 : w5.cell? ⟨w3.heap.size, 2, none⟩ = some (.int .i64 hx) := cell_gr hw5 (by go_simp)
  have cw5_2_3 : w5.cell? ⟨w3.heap.size, 3, none⟩ = some (.int .i64 hy) := cell_gr hw5 (by go_simp)
  have zw5_2 : w3.heap.size < w5.heap.size := World.block_lt_of_cell? _ _ cw5_2_0
  have cw5_3_0 : w5.cell? ⟨w4.heap.size, 0, none⟩ = some (.int .u64 0) := cell_gr hw5 (by go_simp)
  have cw5_3_1 : w5.cell? ⟨w4.heap.size, 1, none⟩ = some (.int .u64 A) := cell_gr hw5 (by go_simp)
  have zw5_3 : w4.heap.size < w5.heap.size := World.block_lt_of_cell? _ _ cw5_3_0
  have gw5 : Gr w2 w5 := Gr.trans (by have gg := gw4; have gs := gg.size; go_grown) hw5
  clear hw5 gw4 zw4_0 cw4_0_0 cw4_0_1 cw4_0_2 cw4_0_3 zw4_1 cw4_1_0 cw4_1_1 zw4_2 cw4_2_0 cw4_2_1 cw4_2_2 cw4_2_3
  go_wp2_with fail
  try simp only [List.append]
  refine Od.wp_region_ord [(0, false), (1, true), (2, false), (3, false), (4, false), (5, false), (6, false), (7, false), (8, false), (9, false), (10, false), (11, false), (12, false), (13, false), (14, true), (15, false), (16, false), (17, false), (20, false), (18, true), (19, true), (21, false), (22, false), (23, false), (24, false), (25, false), (27, false), (28, false), (26, true), (29, true), (30, false), (31, false), (32, false), (33, true), (34, false), (35, false)] (by kernel_rfl) (by kernel_rfl) ?_
  intro w6 hw6 KQ hKQ
  have cw6_0_0 : w6.cell? ⟨W.heap.size, 0, none⟩ = some (.int .i64 lx) := cell_gr hw6 (by go_simp)
  have cw6_0_1 : w6.cell? ⟨W.heap.size, 1, none⟩ = some (.int .i64 ly) := cell_gr hw6 (by go_simp)
  have cw6_0_2 : w6.cell? ⟨W.heap.size, 2, none⟩ = some (.int .i64 hx) := cell_gr hw6 (by go_simp)
  have cw6_0_3 : w6.cell? ⟨W.heap.size, 3, none⟩ = some (.int .i64 hy) := cell_gr hw6 (by go_simp)
  have zw6_0 : W.heap.size < w6.heap.size := World.block_lt_of_cell? _ _ cw6_0_0
  have cw6_1_0 : w6.cell? ⟨W.heap.size + 1, 0, none⟩ = some (.int .i64 px) := cell_gr hw6 (by go_simp)
  have cw6_1_1 : w6.cell? ⟨W.heap.size + 1, 1, none⟩ = some (.int .i64 py) := cell_gr hw6 (by go_simp)
  have zw6_1 : W.heap.size + 1 < w6.heap.size := World.block_lt_of_cell? _ _ cw6_1_0
  have cw6_2_0 : w6.cell? ⟨w3.heap.size, 0, none⟩ = some (.int .i64 lx) := cell_gr hw6 (by go_simp)
  have cw6_2_1 : w6.cell? ⟨w3.heap.size, 1, none⟩ = some (.int .i64 ly) := cell_gr hw6 (by go_simp)
  have cw6_2_2 : w6.cell? ⟨w3.heap.size, 2, none⟩ = some (.int .i64 hx) := cell_gr hw6 (by go_simp)
  have cw6_2_3 : w6.cell? ⟨w3.heap.size, 3, none⟩ = some (.int .i64 hy) := cell_gr hw6 (by go_simp)
  have zw6_2 : w3.heap.size < w6.heap.size := World.block_lt_of_cell? _ _ cw6_2_0
  have cw6_3_0 : w6.cell? ⟨w4.heap.size, 0, none⟩ = some (.int .u64 0) := cell_gr hw6 (by go_simp)
  have cw6_3_1 : w6.cell? ⟨w4.heap.size, 1, none⟩ = some (.int .u64 A) := cell_gr hw6 (by go_simp)
  have zw6_3 : w4.heap.size < w6.heap.size := World.block_lt_of_cell? _ _ cw6_3_0
  have cw6_4_0 : w6.cell? ⟨w5.heap.size, 0, none⟩ = some (.int .u64 0) := cell_gr hw6 (by go_simp)
  have cw6_4_1 : w6.cell? ⟨w5.heap.size, 1, none⟩ = some (.int .u64 T) := cell_gr hw6 (by go_simp)
  have zw6_4 : w5.heap.size < w6.heap.size := World.block_lt_of_cell? _ _ cw6_4_0
  have gw6 : Gr w2 w6 := Gr.trans (by have gg := gw5; have gs := gg.size; go_grown) hw6
  clear gw5 zw5_0 cw5_0_0 cw5_0_1 cw5_0_2 cw5_0_3 zw5_1 cw5_1_0 cw5_1_1 zw5_2 cw5_2_0 cw5_2_1 cw5_2_2 cw5_2_3 zw5_3 cw5_3_0 cw5_3_1
  clear hw6
  repeat (first | (refine Od.wpO_skip (by simp only [List.getElem?_toArray, List.getElem?_cons_succ, List.getElem?_cons_zero] <;> rfl) rfl ?_; simp only [Act.put, List.setIfInBounds_toArray, List.set_cons_zero, List.set_cons_succ]) | (refine Od.wpO_pure (by simp only [List.getElem?_toArray, List.getElem?_cons_succ, List.getElem?_cons_zero] <;> rfl) rfl ?_; apply Exists.intro; refine ⟨?_, ?_⟩; (· intro wx gx; obtain ⟨mx, rfl⟩ := spread_of_gr gx; clear gx; all_goals (apply Od.pAt_of_quiet; intro K hK; go_big_quiet_op; first | exact hK _ rfl | (apply Exists.intro; refine ⟨fun _ => ?_, ?_⟩; (· fail); exact hK _ rfl))); try simp only [Act.put, List.setIfInBounds_toArray, List.set_cons_zero, List.set_cons_succ]))
  refine Od.wpO_call (by simp only [List.getElem?_toArray, List.getElem?_cons_succ, List.getElem?_cons_zero] <;> rfl) rfl ?_
  intro QS hQS
  go_wp2_with fail
  go_at_call 14
  (with_reducible refine ((K1.out _ gw6)).mono ?_)
  rintro e w7 ⟨rfl, hw7⟩
  go_wp2_with fail
  apply Exists.intro
  refine ⟨?_, hw7, ?_⟩
  · simp only [Act.put, List.setIfInBounds_toArray, List.set_cons_zero, List.set_cons_succ]; rfl
  have cw7_0_0 : w7.cell? ⟨W.heap.size, 0, none⟩ = some (.int .i64 lx) := cell_gr hw7 (by go_simp)
  have cw7_0_1 : w7.cell? ⟨W.heap.size, 1, none⟩ = some (.int .i64 ly) := cell_gr hw7 (by go_simp)
  have cw7_0_2 : w7.cell? ⟨W.heap.size, 2, none⟩ = some (.int .i64 hx) := cell_gr hw7 (by go_simp)
  have cw7_0_3 : w7.cell? ⟨W.heap.size, 3, none⟩ = some (.int .i64 hy) := cell_gr hw7 (by go_simp)
  have zw7_0 : W.heap.size < w7.heap.size := World.block_lt_of_cell? _ _ cw7_0_0
  have cw7_1_0 : w7.cell? ⟨W.heap.size + 1, 0, none⟩ = some (.int .i64 px) := cell_gr hw7 (by go_simp)
  have cw7_1_1 : w7.cell? ⟨W.heap.size + 1, 1, none⟩ = some (.int .i64 py) := cell_gr hw7 (by go_simp)
  have zw7_1 : W.heap.size + 1 < w7.heap.size := World.block_lt_of_cell? _ _ cw7_1_0
  have cw7_2_0 : w7.cell? ⟨w3.heap.size, 0, none⟩ = some (.int .i64 lx) := cell_gr hw7 (by go_simp)
  have cw7_2_1 : w7.cell? ⟨w3.heap.size, 1, none⟩ = some (.int .i64 ly) := cell_gr hw7 (by go_simp)
  have cw7_2_2 : w7.cell? ⟨w3.heap.size, 2, none⟩ = some (.int .i64 hx) := cell_gr hw7 (by go_simp)
  have cw7_2_3 : w7.cell? ⟨w3.heap.size, 3, none⟩ = some (.int .i64 hy) := cell_gr hw7 (by go_simp)
  have zw7_2 : w3.heap.size < w7.heap.size := World.block_lt_of_cell? _ _ cw7_2_0
  have cw7_3_0 : w7.cell? ⟨w4.heap.size, 0, none⟩ = some (.int .u64 0) := cell_gr hw7 (by go_simp)
  have cw7_3_1 : w7.cell? ⟨w4.heap.size, 1, none⟩ = some (.int .u64 A) := cell_gr hw7 (by go_simp)
  have zw7_3 : w4.heap.size < w7.heap.size := World.block_lt_of_cell? _ _ cw7_3_0
  have cw7_4_0 : w7.cell? ⟨w5.heap.size, 0, none⟩ = some (.int .u64 0) := cell_gr hw7 (by go_simp)
  have cw7_4_1 : w7.cell? ⟨w5.heap.size, 1, none⟩ = some (.int .u64 T) := cell_gr hw7 (by go_simp)
  have zw7_4 : w5.heap.size < w7.heap.size := World.block_lt_of_cell? _ _ cw7_4_0
  have gw7 : Gr w2 w7 := Gr.trans (by have gg := gw6; have gs := gg.size; go_grown) hw7
  clear gw6 zw6_0 cw6_0_0 cw6_0_1 cw6_0_2 cw6_0_3 zw6_1 cw6_1_0 cw6_1_1 zw6_2 cw6_2_0 cw6_2_1 cw6_2_2 cw6_2_3 zw6_3 cw6_3_0 cw6_3_1 zw6_4 cw6_4_0 cw6_4_1
  clear hw7
  try simp only [Act.put, List.setIfInBounds_toArray, List.set_cons_zero, List.set_cons_succ]
  repeat (first | (refine Od.wpO_skip (by simp only [List.getElem?_toArray, List.getElem?_cons_succ, List.getElem?_cons_zero] <;> rfl) rfl ?_; simp only [Act.put, List.setIfInBounds_toArray, List.set_cons_zero, List.set_cons_succ]) | (refine Od.wpO_pure (by simp only [List.getElem?_toArray, List.getElem?_cons_succ, List.getElem?_cons_zero] <;> rfl) rfl ?_; apply Exists.intro; refine ⟨?_, ?_⟩; (· intro wx gx; obtain ⟨mx, rfl⟩ := spread_of_gr gx; clear gx; all_goals (apply Od.pAt_of_quiet; intro K hK; go_big_quiet_op; first | exact hK _ rfl | (apply Exists.intro; refine ⟨fun _ => ?_, ?_⟩; (· fail); exact hK _ rfl))); try simp only [Act.put, List.setIfInBounds_toArray, List.set_cons_zero, List.set_cons_succ]))
  refine Od.wpO_call (by simp only [List.getElem?_toArray, List.getElem?_cons_succ, List.getElem?_cons_zero] <;> rfl) rfl ?_
  intro QS hQS
  go_wp2_with fail
  go_at_call 18
  (with_reducible refine ((K3.out _ gw7)).mono ?_)
  rintro e w8 ⟨rfl, hw8⟩
  go_wp2_with fail
  apply Exists.intro
  refine ⟨?_, hw8, ?_⟩
  · simp only [Act.put, List.setIfInBounds_toArray, List.set_cons_zero, List.set_cons_succ]; rfl
  have cw8_0_0 : w8.cell? ⟨W.heap.size, 0, none⟩ = some (.int .i64 lx) := cell_gr hw8 (by go_simp)
  have cw8_0_1 : w8.cell? ⟨W.heap.size, 1, none⟩ = some (.int .i64 ly) := cell_gr hw8 (by go_simp)
  have cw8_0_2 : w8.cell? ⟨W.heap.size, 2, none⟩ = some (.int .i64 hx) := cell_gr hw8 (by go_simp)
  have cw8_0_3 : w8.cell? ⟨W.heap.size, 3, none⟩ = some (.int .i64 hy) := cell_gr hw8 (by go_simp)
  have zw8_0 : W.heap.size < w8.heap.size := World.block_lt_of_cell? _ _ cw8_0_0
  have cw8_1_0 : w8.cell? ⟨W.heap.size + 1, 0, none⟩ = some (.int .i64 px) := cell_gr hw8 (by go_simp)
  have cw8_1_1 : w8.cell? ⟨W.heap.size + 1, 1, none⟩ = some (.int .i64 py) := cell_gr hw8 (by go_simp)
  have zw8_1 : W.heap.size + 1 < w8.heap.size := World.block_lt_of_cell? _ _ cw8_1_0
  have cw8_2_0 : w8.cell? ⟨w3.heap.size, 0, none⟩ = some (.int .i64 lx) := cell_gr hw8 (by go_simp)
  have cw8_2_1 : w8.cell? ⟨w3.heap.size, 1, none⟩ = some (.int .i64 ly) := cell_gr hw8 (by go_simp)
  have cw8_2_2 : w8.cell? ⟨w3.heap.size, 2, none⟩ = some (.int .i64 hx) := cell_gr hw8 (by go_simp)
  have cw8_2_3 : w8.cell? ⟨w3.heap.size, 3, none⟩ = some (.int .i64 hy) := cell_gr hw8 (by go_simp)
  have zw8_2 : w3.heap.size < w8.heap.size := World.block_lt_of_cell? _ _ cw8_2_0
  have cw8_3_0 : w8.cell? ⟨w4.heap.size, 0, none⟩ = some (.int .u64 0) := cell_gr hw8 (by go_simp)
  have cw8_3_1 : w8.cell? ⟨w4.heap.size, 1, none⟩ = some (.int .u64 A) := cell_gr hw8 (by go_simp)
  have zw8_3 : w4.heap.size < w8.heap.size := World.block_lt_of_cell? _ _ cw8_3_0
  have cw8_4_0 : w8.cell? ⟨w5.heap.size, 0, none⟩ = some (.int .u64 0) := cell_gr hw8 (by go_simp)
  have cw8_4_1 : w8.cell? ⟨w5.heap.size, 1, none⟩ = some (.int .u64 T) := cell_gr hw8 (by go_simp)
  have zw8_4 : w5.heap.size < w8.heap.size := World.block_lt_of_cell? _ _ cw8_4_0
  have gw8 : Gr w2 w8 := Gr.trans (by have gg := gw7; have gs := gg.size; go_grown) hw8
  clear gw7 zw7_0 cw7_0_0 cw7_0_1 cw7_0_2 cw7_0_3 zw7_1 cw7_1_0 cw7_1_1 zw7_2 cw7_2_0 cw7_2_1 cw7_2_2 cw7_2_3 zw7_3 cw7_3_0 cw7_3_1 zw7_4 cw7_4_0 cw7_4_1
  clear hw8
  try simp only [Act.put, List.setIfInBounds_toArray, List.set_cons_zero, List.set_cons_succ]
  repeat (first | (refine Od.wpO_skip (by simp only [List.getElem?_toArray, List.getElem?_cons_succ, List.getElem?_cons_zero] <;> rfl) rfl ?_; simp only [Act.put, List.setIfInBounds_toArray, List.set_cons_zero, List.set_cons_succ]) | (refine Od.wpO_pure (by simp only [List.getElem?_toArray, List.getElem?_cons_succ, List.getElem?_cons_zero] <;> rfl) rfl ?_; apply Exists.intro; refine ⟨?_, ?_⟩; (· intro wx gx; obtain ⟨mx, rfl⟩ := spread_of_gr gx; clear gx; all_goals (apply Od.pAt_of_quiet; intro K hK; go_big_quiet_op; first | exact hK _ rfl | (apply Exists.intro; refine ⟨fun _ => ?_, ?_⟩; (· fail); exact hK _ rfl))); try simp only [Act.put, List.setIfInBounds_toArray, List.set_cons_zero, List.set_cons_succ]))
  refine Od.wpO_call (by simp only [List.getElem?_toArray, List.getElem?_cons_succ, List.getElem?_cons_zero] <;> rfl) rfl ?_
  intro QS hQS
  go_wp2_with fail
  go_at_call 16
  (with_reducible refine ((K5.out _ gw8)).mono ?_)
  rintro e w9 ⟨rfl, hw9⟩
  go_wp2_with fail
  apply Exists.intro
  refine ⟨?_, hw9, ?_⟩
  · simp only [Act.put, List.setIfInBounds_toArray, List.set_cons_zero, List.set_cons_succ]; rfl
  have cw9_0_0 : w9.cell? ⟨W.heap.size, 0, none⟩ = some (.int .i64 lx) := cell_gr hw9 (by go_simp)
  have cw9_0_1 : w9.cell? ⟨W.heap.size, 1, none⟩ = some (.int .i64 ly) := cell_gr hw9 (by go_simp)
  have cw9_0_2 : w9.cell? ⟨W.heap.size, 2, none⟩ = some (.int .i64 hx) := cell_gr hw9 (by go_simp)
  have cw9_0_3 : w9.cell? ⟨W.heap.size, 3, none⟩ = some (.int .i64 hy) := cell_gr hw9 (by go_simp)
  have zw9_0 : W.heap.size < w9.heap.size := World.block_lt_of_cell? _ _ cw9_0_0
  have cw9_1_0 : w9.cell? ⟨W.heap.size + 1, 0, none⟩ = some (.int .i64 px) := cell_gr hw9 (by go_simp)
  have cw9_1_1 : w9.cell? ⟨W.heap.size + 1, 1, none⟩ = some (.int .i64 py) := cell_gr hw9 (by go_simp)
  have zw9_1 : W.heap.size + 1 < w9.heap.size := World.block_lt_of_cell? _ _ cw9_1_0
  have cw9_2_0 : w9.cell? ⟨w3.heap.size, 0, none⟩ = some (.int .i64 lx) := cell_gr hw9 (by go_simp)
  have cw9_2_1 : w9.cell? ⟨w3.heap.size, 1, none⟩ = some (.int .i64 ly) := cell_gr hw9 (by go_simp)
  have cw9_2_2 : w9.cell? ⟨w3.heap.size, 2, none⟩ = some (.int .i64 hx) := cell_gr hw9 (by go_simp)
  have cw9_2_3 : w9.cell? ⟨w3.heap.size, 3, none⟩ = some (.int .i64 hy) := cell_gr hw9 (by go_simp)
  have zw9_2 : w3.heap.size < w9.heap.size := World.block_lt_of_cell? _ _ cw9_2_0
  have cw9_3_0 : w9.cell? ⟨w4.heap.size, 0, none⟩ = some (.int .u64 0) := cell_gr hw9 (by go_simp)
  have cw9_3_1 : w9.cell? ⟨w4.heap.size, 1, none⟩ = some (.int .u64 A) := cell_gr hw9 (by go_simp)
  have zw9_3 : w4.heap.size < w9.heap.size := World.block_lt_of_cell? _ _ cw9_3_0
  have cw9_4_0 : w9.cell? ⟨w5.heap.size, 0, none⟩ = some (.int .u64 0) := cell_gr hw9 (by go_simp)
  have cw9_4_1 : w9.cell? ⟨w5.heap.size, 1, none⟩ = some (.int .u64 T) := cell_gr hw9 (by go_simp)
  have zw9_4 : w5.heap.size < w9.heap.size := World.block_lt_of_cell? _ _ cw9_4_0
  have gw9 : Gr w2 w9 := Gr.trans (by have gg := gw8; have gs := gg.size; go_grown) hw9
  clear gw8 zw8_0 cw8_0_0 cw8_0_1 cw8_0_2 cw8_0_3 zw8_1 cw8_1_0 cw8_1_1 zw8_2 cw8_2_0 cw8_2_1 cw8_2_2 cw8_2_3 zw8_3 cw8_3_0 cw8_3_1 zw8_4 cw8_4_0 cw8_4_1
  clear hw9
  try simp only [Act.put, List.setIfInBounds_toArray, List.set_cons_zero, List.set_cons_succ]
  repeat (first | (refine Od.wpO_skip (by simp only [List.getElem?_toArray, List.getElem?_cons_succ, List.getElem?_cons_zero] <;> rfl) rfl ?_; simp only [Act.put, List.setIfInBounds_toArray, List.set_cons_zero, List.set_cons_succ]) | (refine Od.wpO_pure (by simp only [List.getElem?_toArray, List.getElem?_cons_succ, List.getElem?_cons_zero] <;> rfl) rfl ?_; apply Exists.intro; refine ⟨?_, ?_⟩; (· intro wx gx; obtain ⟨mx, rfl⟩ := spread_of_gr gx; clear gx; all_goals (apply Od.pAt_of_quiet; intro K hK; go_big_quiet_op; first | exact hK _ rfl | (apply Exists.intro; refine ⟨fun _ => ?_, ?_⟩; (· fail); exact hK _ rfl))); try simp only [Act.put, List.setIfInBounds_toArray, List.set_cons_zero, List.set_cons_succ]))
  refine Od.wpO_call (by simp only [List.getElem?_toArray, List.getElem?_cons_succ, List.getElem?_cons_zero] <;> rfl) rfl ?_
  intro QS hQS
  go_wp2_with fail
  go_at_call 15
  (with_reducible refine ((c_u5 _ _ _)).mono ?_)
  rintro e w10 ⟨rfl, hw10⟩
  go_wp2_with fail
  apply Exists.intro
  refine ⟨?_, hw10, ?_⟩
  · simp only [Act.put, List.setIfInBounds_toArray, List.set_cons_zero, List.set_cons_succ]; rfl
  have cw10_0_0 : w10.cell? ⟨W.heap.size, 0, none⟩ = some (.int .i64 lx) := cell_gr hw10 (by go_simp)
  have cw10_0_1 : w10.cell? ⟨W.heap.size, 1, none⟩ = some (.int .i64 ly) := cell_gr hw10 (by go_simp)
  have cw10_0_2 : w10.cell? ⟨W.heap.size, 2, none⟩ = some (.int .i64 hx) := cell_gr hw10 (by go_simp)
  have cw10_0_3 : w10.cell? ⟨W.heap.size, 3, none⟩ = some (.int .i64 hy) := cell_gr hw10 (by go_simp)
  have zw10_0 : W.heap.size < w10.heap.size := World.block_lt_of_cell? _ _ cw10_0_0
  have cw10_1_0 : w10.cell? ⟨W.heap.size + 1, 0, none⟩ = some (.int .i64 px) := cell_gr hw10 (by go_simp)
  have cw10_1_1 : w10.cell? ⟨W.heap.size + 1, 1, none⟩ = some (.int .i64 py) := cell_gr hw10 (by go_simp)
  have zw10_1 : W.heap.size + 1 < w10.heap.size := World.block_lt_of_cell? _ _ cw10_1_0
  have cw10_2_0 : w10.cell? ⟨w3.heap.size, 0, none⟩ = some (.int .i64 lx) := cell_gr hw10 (by go_simp)
  have cw10_2_1 : w10.cell? ⟨w3.heap.size, 1, none⟩ = some (.int .i64 ly) := cell_gr hw10 (by go_simp)
  have cw10_2_2 : w10.cell? ⟨w3.heap.size, 2, none⟩ = some (.int .i64 hx) := cell_gr hw10 (by go_simp)
  have cw10_2_3 : w10.cell? ⟨w3.heap.size, 3, none⟩ = some (.int .i64 hy) := cell_gr hw10 (by go_simp)
  have zw10_2 : w3.heap.size < w10.heap.size := World.block_lt_of_cell? _ _ cw10_2_0
  have cw10_3_0 : w10.cell? ⟨w4.heap.size, 0, none⟩ = some (.int .u64 0) := cell_gr hw10 (by go_simp)
  have cw10_3_1 : w10.cell? ⟨w4.heap.size, 1, none⟩ = some (.int .u64 A) := cell_gr hw10 (by go_simp)
  have zw10_3 : w4.heap.size < w10.heap.size := World.block_lt_of_cell? _ _ cw10_3_0
  have cw10_4_0 : w10.cell? ⟨w5.heap.size, 0, none⟩ = some (.int .u64 0) := cell_gr hw10 (by go_simp)
  have cw10_4_1 : w10.cell? ⟨w5.heap.size, 1, none⟩ = some (.int .u64 T) := cell_gr hw10 (by go_simp)
  have zw10_4 : w5.heap.size < w10.heap.size := World.block_lt_of_cell? _ _ cw10_4_0
  have gw10 : Gr w2 w10 := Gr.trans (by have gg := gw9; have gs := gg.size; go_grown) hw10
  clear gw9 zw9_0 cw9_0_0 cw9_0_1 cw9_0_2 cw9_0_3 zw9_1 cw9_1_0 cw9_1_1 zw9_2 cw9_2_0 cw9_2_1 cw9_2_2 cw9_2_3 zw9_3 cw9_3_0 cw9_3_1 zw9_4 cw9_4_0 cw9_4_1
  clear hw10
  try simp only [Act.put, List.setIfInBounds_toArray, List.set_cons_zero, List.set_cons_succ]
  repeat (first | (refine Od.wpO_skip (by simp only [List.getElem?_toArray, List.getElem?_cons_succ, List.getElem?_cons_zero] <;> rfl) rfl ?_; simp only [Act.put, List.setIfInBounds_toArray, List.set_cons_zero, List.set_cons_succ]) | (refine Od.wpO_pure (by simp only [List.getElem?_toArray, List.getElem?_cons_succ, List.getElem?_cons_zero] <;> rfl) rfl ?_; apply Exists.intro; refine ⟨?_, ?_⟩; (· intro wx gx; obtain ⟨mx, rfl⟩ := spread_of_gr gx; clear gx; all_goals (apply Od.pAt_of_quiet; intro K hK; go_big_quiet_op; first | exact hK _ rfl | (apply Exists.intro; refine ⟨fun _ => ?_, ?_⟩; (· fail); exact hK _ rfl))); try simp only [Act.put, List.setIfInBounds_toArray, List.set_cons_zero, List.set_cons_succ]))
  refine Od.wpO_call (by simp only [List.getElem?_toArray, List.getElem?_cons_succ, List.getElem?_cons_zero] <;> rfl) rfl ?_
  intro QS hQS
  go_wp2_with fail
  go_at_call 20
  (with_reducible refine ((K8.out _ gw10)).mono ?_)
  rintro e w11 ⟨rfl, hw11⟩
  go_wp2_with fail
  apply Exists.intro
  refine ⟨?_, hw11, ?_⟩
  · simp only [Act.put, List.setIfInBounds_toArray, List.set_cons_zero, List.set_cons_succ]; rfl
  have cw11_0_0 : w11.cell? ⟨W.heap.size, 0, none⟩ = some (.int .i64 lx) := cell_gr hw11 (by go_simp)
  have cw11_0_1 : w11.cell? ⟨W.heap.size, 1, none⟩ = some (.int .i64 ly) := cell_gr hw11 (by go_simp)
  have cw11_0_2 : w11.cell? ⟨W.heap.size, 2, none⟩ = some (.int .i64 hx) := cell_gr hw11 (by go_simp)
  have cw11_0_3 : w11.cell? ⟨W.heap.size, 3, none⟩ = some (.int .i64 hy) := cell_gr hw11 (by go_simp)
  have zw11_0 : W.heap.size < w11.heap.size := World.block_lt_of_cell? _ _ cw11_0_0
  have cw11_1_0 : w11.cell? ⟨W.heap.size + 1, 0, none⟩ = some (.int .i64 px) := cell_gr hw11 (by go_simp)
  have cw11_1_1 : w11.cell? ⟨W.heap.size + 1, 1, none⟩ = some (.int .i64 py) := cell_gr hw11 (by go_simp)
  have zw11_1 : W.heap.size + 1 < w11.heap.size := World.block_lt_of_cell? _ _ cw11_1_0
  have cw11_2_0 : w11.cell? ⟨w3.heap.size, 0, none⟩ = some (.int .i64 lx) := cell_gr hw11 (by go_simp)
  have cw11_2_1 : w11.cell? ⟨w3.heap.size, 1, none⟩ = some (.int .i64 ly) := cell_gr hw11 (by go_simp)
  have cw11_2_2 : w11.cell? ⟨w3.heap.size, 2, none⟩ = some (.int .i64 hx) := cell_gr hw11 (by go_simp)
  have cw11_2_3 : w11.cell? ⟨w3.heap.size, 3, none⟩ = some (.int .i64 hy) := cell_gr hw11 (by go_simp)
  have zw11_2 : w3.heap.size < w11.heap.size := World.block_lt_of_cell? _ _ cw11_2_0
  have cw11_3_0 : w11.cell? ⟨w4.heap.size, 0, none⟩ = some (.int .u64 0) := cell_gr hw11 (by go_simp)
  have cw11_3_1 : w11.cell? ⟨w4.heap.size, 1, none⟩ = some (.int .u64 A) := cell_gr hw11 (by go_simp)
  have zw11_3 : w4.heap.size < w11.heap.size := World.block_lt_of_cell? _ _ cw11_3_0
  have cw11_4_0 : w11.cell? ⟨w5.heap.size, 0, none⟩ = some (.int .u64 0) := cell_gr hw11 (by go_simp)
  have cw11_4_1 : w11.cell? ⟨w5.heap.size, 1, none⟩ = some (.int .u64 T) := cell_gr hw11 (by go_simp)
  have zw11_4 : w5.heap.size < w11.heap.size := World.block_lt_of_cell? _ _ cw11_4_0
  have gw11 : Gr w2 w11 := Gr.trans (by have gg := gw10; have gs := gg.size; go_grown) hw11
  clear gw10 zw10_0 cw10_0_0 cw10_0_1 cw10_0_2 cw10_0_3 zw10_1 cw10_1_0 cw10_1_1 zw10_2 cw10_2_0 cw10_2_1 cw10_2_2 cw10_2_3 zw10_3 cw10_3_0 cw10_3_1 zw10_4 cw10_4_0 cw10_4_1
  clear hw11
  try simp only [Act.put, List.setIfInBounds_toArray, List.set_cons_zero, List.set_cons_succ]
  repeat (first | (refine Od.wpO_skip (by simp only [List.getElem?_toArray, List.getElem?_cons_succ, List.getElem?_cons_zero] <;> rfl) rfl ?_; simp only [Act.put, List.setIfInBounds_toArray, List.set_cons_zero, List.set_cons_succ]) | (refine Od.wpO_pure (by simp only [List.getElem?_toArray, List.getElem?_cons_succ, List.getElem?_cons_zero] <;> rfl) rfl ?_; apply Exists.intro; refine ⟨?_, ?_⟩; (· intro wx gx; obtain ⟨mx, rfl⟩ := spread_of_gr gx; clear gx; all_goals (apply Od.pAt_of_quiet; intro K hK; go_big_quiet_op; first | exact hK _ rfl | (apply Exists.intro; refine ⟨fun _ => ?_, ?_⟩; (· fail); exact hK _ rfl))); try simp only [Act.put, List.setIfInBounds_toArray, List.set_cons_zero, List.set_cons_succ]))
  refine Od.wpO_call (by simp only [List.getElem?_toArray, List.getElem?_cons_succ, List.getElem?_cons_zero] <;> rfl) rfl ?_
  intro QS hQS
  go_wp2_with fail
  go_at_call 27
  (with_reducible refine ((H4.out _)).mono ?_)
  rintro e w12 ⟨rfl, hw12⟩
  go_wp2_with fail
  apply Exists.intro
  refine ⟨?_, hw12, ?_⟩
  · simp only [Act.put, List.setIfInBounds_toArray, List.set_cons_zero, List.set_cons_succ]; rfl
  have cw12_0_0 : w12.cell? ⟨W.heap.size, 0, none⟩ = some (.int .i64 lx) := cell_gr hw12 (by go_simp)
  have cw12_0_1 : w12.cell? ⟨W.heap.size, 1, none⟩ = some (.int .i64 ly) := cell_gr hw12 (by go_simp)
  have cw12_0_2 : w12.cell? ⟨W.heap.size, 2, none⟩ = some (.int .i64 hx) := cell_gr hw12 (by go_simp)
  have cw12_0_3 : w12.cell? ⟨W.heap.size, 3, none⟩ = some (.int .i64 hy) := cell_gr hw12 (by go_simp)
  have zw12_0 : W.heap.size < w12.heap.size := World.block_lt_of_cell? _ _ cw12_0_0
  have cw12_1_0 : w12.cell? ⟨W.heap.size + 1, 0, none⟩ = some (.int .i64 px) := cell_gr hw12 (by go_simp)
  have cw12_1_1 : w12.cell? ⟨W.heap.size + 1, 1, none⟩ = some (.int .i64 py) := cell_gr hw12 (by go_simp)
  have zw12_1 : W.heap.size + 1 < w12.heap.size := World.block_lt_of_cell? _ _ cw12_1_0
  have cw12_2_0 : w12.cell? ⟨w3.heap.size, 0, none⟩ = some (.int .i64 lx) := cell_gr hw12 (by go_simp)
  have cw12_2_1 : w12.cell? ⟨w3.heap.size, 1, none⟩ = some (.int .i64 ly) := cell_gr hw12 (by go_simp)
  have cw12_2_2 : w12.cell? ⟨w3.heap.size, 2, none⟩ = some (.int .i64 hx) := cell_gr hw12 (by go_simp)
  have cw12_2_3 : w12.cell? ⟨w3.heap.size, 3, none⟩ = some (.int .i64 hy) := cell_gr hw12 (by go_simp)
  have zw12_2 : w3.heap.size < w12.heap.size := World.block_lt_of_cell? _ _ cw12_2_0
  have cw12_3_0 : w12.cell? ⟨w4.heap.size, 0, none⟩ = some (.int .u64 0) := cell_gr hw12 (by go_simp)
  have cw12_3_1 : w12.cell? ⟨w4.heap.size, 1, none⟩ = some (.int .u64 A) := cell_gr hw12 (by go_simp)
  have zw12_3 : w4.heap.size < w12.heap.size := World.block_lt_of_cell? _ _ cw12_3_0
  have cw12_4_0 : w12.cell? ⟨w5.heap.size, 0, none⟩ = some (.int .u64 0) := cell_gr hw12 (by go_simp)
  have cw12_4_1 : w12.cell? ⟨w5.heap.size, 1, none⟩ = some (.int .u64 T) := cell_gr hw12 (by go_simp)
  have zw12_4 : w5.heap.size < w12.heap.size := World.block_lt_of_cell? _ _ cw12_4_0
  have gw12 : Gr w2 w12 := Gr.trans (by have gg := gw11; have gs := gg.size; go_grown) hw12
  clear gw11 zw11_0 cw11_0_0 cw11_0_1 cw11_0_2 cw11_0_3 zw11_1 cw11_1_0 cw11_1_1 zw11_2 cw11_2_0 cw11_2_1 cw11_2_2 cw11_2_3 zw11_3 cw11_3_0 cw11_3_1 zw11_4 cw11_4_0 cw11_4_1
  clear hw12
  try simp only [Act.put, List.setIfInBounds_toArray, List.set_cons_zero, List.set_cons_succ]
  repeat (first | (refine Od.wpO_skip (by simp only [List.getElem?_toArray, List.getElem?_cons_succ, List.getElem?_cons_zero] <;> rfl) rfl ?_; simp only [Act.put, List.setIfInBounds_toArray, List.set_cons_zero, List.set_cons_succ]) | (refine Od.wpO_pure (by simp only [List.getElem?_toArray, List.getElem?_cons_succ, List.getElem?_cons_zero] <;> rfl) rfl ?_; apply Exists.intro; refine ⟨?_, ?_⟩; (· intro wx gx; obtain ⟨mx, rfl⟩ := spread_of_gr gx; clear gx; all_goals (apply Od.pAt_of_quiet; intro K hK; go_big_quiet_op; first | exact hK _ rfl | (apply Exists.intro; refine ⟨fun _ => ?_, ?_⟩; (· fail); exact hK _ rfl))); try simp only [Act.put, List.setIfInBounds_toArray, List.set_cons_zero, List.set_cons_succ]))
  refine Od.wpO_call (by simp only [List.getElem?_toArray, List.getElem?_cons_succ, List.getElem?_cons_zero] <;> rfl) rfl ?_
  intro QS hQS
  go_wp2_with fail
  go_at_call 9
  (with_reducible refine ((H3.out _ (Gr.trans G0.out gw12))).mono ?_)
  rintro e w13 ⟨rfl, hw13⟩
  go_wp2_with fail
  apply Exists.intro
  refine ⟨?_, hw13, ?_⟩
  · simp only [Act.put, List.setIfInBounds_toArray, List.set_cons_zero, List.set_cons_succ]; rfl
  have cw13_0_0 : w13.cell? ⟨W.heap.size, 0, none⟩ = some (.int .i64 lx) := cell_gr hw13 (by go_simp)
  have cw13_0_1 : w13.cell? ⟨W.heap.size, 1, none⟩ = some (.int .i64 ly) := cell_gr hw13 (by go_simp)
  have cw13_0_2 : w13.cell? ⟨W.heap.size, 2, none⟩ = some (.int .i64 hx) := cell_gr hw13 (by go_simp)
  have cw13_0_3 : w13.cell? ⟨W.heap.size, 3, none⟩ = some (.int .i64 hy) := cell_gr hw13 (by go_simp)
  have zw13_0 : W.heap.size < w13.heap.size := World.block_lt_of_cell? _ _ cw13_0_0
  have cw13_1_0 : w13.cell? ⟨W.heap.size + 1, 0, none⟩ = some (.int .i64 px) := cell_gr hw13 (by go_simp)
  have cw13_1_1 : w13.cell? ⟨W.heap.size + 1, 1, none⟩ = some (.int .i64 py) := cell_gr hw13 (by go_simp)
  have zw13_1 : W.heap.size + 1 < w13.heap.size := World.block_lt_of_cell? _ _ cw13_1_0
  have cw13_2_0 : w13.cell? ⟨w3.heap.size, 0, none⟩ = some (.int .i64 lx) := cell_gr hw13 (by go_simp)
  have cw13_2_1 : w13.cell? ⟨w3.heap.size, 1, none⟩ = some (.int .i64 ly) := cell_gr hw13 (by go_simp)
  have cw13_2_2 : w13.cell? ⟨w3.heap.size, 2, none⟩ = some (.int .i64 hx) := cell_gr hw13 (by go_simp)
  have cw13_2_3 : w13.cell? ⟨w3.heap.size, 3, none⟩ = some (.int .i64 hy) := cell_gr hw13 (by go_simp)
  have zw13_2 : w3.heap.size < w13.heap.size := World.block_lt_of_cell? _ _ cw13_2_0
  have cw13_3_0 : w13.cell? ⟨w4.heap.size, 0, none⟩ = some (.int .u64 0) := cell_gr hw13 (by go_simp)
  have cw13_3_1 : w13.cell? ⟨w4.heap.size, 1, none⟩ = some (.int .u64 A) := cell_gr hw13 (by go_simp)
  have zw13_3 : w4.heap.size < w13.heap.size := World.block_lt_of_cell? _ _ cw13_3_0
  have cw13_4_0 : w13.cell? ⟨w5.heap.size, 0, none⟩ = some (.int .u64 0) := cell_gr hw13 (by go_simp)
  have cw13_4_1 : w13.cell? ⟨w5.heap.size, 1, none⟩ = some (.int .u64 T) := cell_gr hw13 (by go_simp)
  have zw13_4 : w5.heap.size < w13.heap.size := World.block_lt_of_cell? _ _ cw13_4_0
  have gw13 : Gr w2 w13 := Gr.trans (by have gg := gw12; have gs := gg.size; go_grown) hw13
  clear gw12 zw12_0 cw12_0_0 cw12_0_1 cw12_0_2 cw12_0_3 zw12_1 cw12_1_0 cw12_1_1 zw12_2 cw12_2_0 cw12_2_1 cw12_2_2 cw12_2_3 zw12_3 cw12_3_0 cw12_3_1 zw12_4 cw12_4_0 cw12_4_1
  clear hw13
  try simp only [Act.put, List.setIfInBounds_toArray, List.set_cons_zero, List.set_cons_succ]
  repeat (first | (refine Od.wpO_skip (by simp only [List.getElem?_toArray, List.getElem?_cons_succ, List.getElem?_cons_zero] <;> rfl) rfl ?_; simp only [Act.put, List.setIfInBounds_toArray, List.set_cons_zero, List.set_cons_succ]) | (refine Od.wpO_pure (by simp only [List.getElem?_toArray, List.getElem?_cons_succ, List.getElem?_cons_zero] <;> rfl) rfl ?_; apply Exists.intro; refine ⟨?_, ?_⟩; (· intro wx gx; obtain ⟨mx, rfl⟩ := spread_of_gr gx; clear gx; all_goals (apply Od.pAt_of_quiet; intro K hK; go_big_quiet_op; first | exact hK _ rfl | (apply Exists.intro; refine ⟨fun _ => ?_, ?_⟩; (· fail); exact hK _ rfl))); try simp only [Act.put, List.setIfInBounds_toArray, List.set_cons_zero, List.set_cons_succ]))
  refine Od.wpO_nil (hKQ _ _ ?_)
  clear hKQ KQ
  go_wp2_with fail
  go_ret
  exact ⟨rfl, Gr.trans G0.out gw13⟩
set_option maxHeartbeats 4000000 in
set_option maxRecDepth 100000 in
theorem boxes_no (lx ly hx hy px py k : Int) (W : World)
    (hc : ((k == 0) = false ∧ (k != 0) = true) ∨ ((k == 0) = true ∧ (k != 0) = false ∧ (lx = hx ∨ lx ≠ hx ∧ ly = hy)))
    (A1 : ∀ w, Calls Tryd.prog 24 #[.agg #[.int .i64 lx, .int .i64 ly, .int .i64 hx, .int .i64 hy]] w fun e w' => e = .returned (.int .i64 k) ∧ Gr w w')
    (A3 : ∀ w, Gr W w → Calls Tryd.prog 9 #[] w fun e w' => e = .returned (.bool true) ∧ Gr w w') : Calls Tryd.prog 4 #[.agg #[.int .i64 lx, .int .i64 ly, .int .i64 hx, .int .i64 hy], .agg #[.int .i64 px, .int .i64 py]] W fun e w' => e = .returned (.bool true) ∧ Gr W w' := by
  have H1 := Lib.hid A1
  have H3 := Lib.hid A3
  clear A1 A3
  rcases hc with ⟨z1, z2⟩ | ⟨z1, z2, h | ⟨n, h⟩⟩
  · go_enter Tryd.func4, Tryd.ntmps4
    go_wp2_with fail
    go_at_call 24
    refine ((H1.out _)).mono ?_
    rintro e w1 ⟨rfl, hw1⟩
    have cw1_0_0 : w1.cell? ⟨W.heap.size, 0, none⟩ = some (.int .i64 lx) := cell_gr hw1 (by go_simp)
    have cw1_0_1 : w1.cell? ⟨W.heap.size, 1, none⟩ = some (.int .i64 ly) := cell_gr hw1 (by go_simp)
    have cw1_0_2 : w1.cell? ⟨W.heap.size, 2, none⟩ = some (.int .i64 hx) := cell_gr hw1 (by go_simp)
    have cw1_0_3 : w1.cell? ⟨W.heap.size, 3, none⟩ = some (.int .i64 hy) := cell_gr hw1 (by go_simp)
    have zw1_0 : W.heap.size < w1.heap.size := World.block_lt_of_cell? _ _ cw1_0_0
    have cw1_1_0 : w1.cell? ⟨W.heap.size + 1, 0, none⟩ = some (.int .i64 px) := cell_gr hw1 (by go_simp)
    have cw1_1_1 : w1.cell? ⟨W.heap.size + 1, 1, none⟩ = some (.int .i64 py) := cell_gr hw1 (by go_simp)
    have zw1_1 : W.heap.size + 1 < w1.heap.size := World.block_lt_of_cell? _ _ cw1_1_0
    have gw1 : Gr W w1 := Gr.trans (by go_grown) hw1
    clear hw1
    go_wp2_with fail
    go_at_call 9
    refine ((H3.out _ gw1)).mono ?_
    rintro e w2 ⟨rfl, hw2⟩
    have cw2_0_0 : w2.cell? ⟨W.heap.size, 0, none⟩ = some (.int .i64 lx) := cell_gr hw2 (by go_simp)
    have cw2_0_1 : w2.cell? ⟨W.heap.size, 1, none⟩ = some (.int .i64 ly) := cell_gr hw2 (by go_simp)
    have cw2_0_2 : w2.cell? ⟨W.heap.size, 2, none⟩ = some (.int .i64 hx) := cell_gr hw2 (by go_simp)
    have cw2_0_3 : w2.cell? ⟨W.heap.size, 3, none⟩ = some (.int .i64 hy) := cell_gr hw2 (by go_simp)
    have zw2_0 : W.heap.size < w2.heap.size := World.block_lt_of_cell? _ _ cw2_0_0
    have cw2_1_0 : w2.cell? ⟨W.heap.size + 1, 0, none⟩ = some (.int .i64 px) := cell_gr hw2 (by go_simp)
    have cw2_1_1 : w2.cell? ⟨W.heap.size + 1, 1, none⟩ = some (.int .i64 py) := cell_gr hw2 (by go_simp)
    have zw2_1 : W.heap.size + 1 < w2.heap.size := World.block_lt_of_cell? _ _ cw2_1_0
    have gw2 : Gr W w2 := Gr.trans (by have gg := gw1; have gs := gg.size; go_grown) hw2
    clear hw2 gw1 zw1_0 cw1_0_0 cw1_0_1 cw1_0_2 cw1_0_3 zw1_1 cw1_1_0 cw1_1_1
    go_wp2_with fail
    go_ret
    exact ⟨rfl, by go_grown⟩
  · subst h
    have t1 : ((lx : Int) == lx) = true := by simp
    have t2 : decide (lx = lx) = true := decide_eq_true rfl
    go_enter Tryd.func4, Tryd.ntmps4
    go_wp2_with fail
    go_at_call 24
    refine ((H1.out _)).mono ?_
    rintro e w1 ⟨rfl, hw1⟩
    have cw1_0_0 : w1.cell? ⟨W.heap.size, 0, none⟩ = some (.int .i64 lx) := cell_gr hw1 (by go_simp)
    have cw1_0_1 : w1.cell? ⟨W.heap.size, 1, none⟩ = some (.int .i64 ly) := cell_gr hw1 (by go_simp)
    have cw1_0_2 : w1.cell? ⟨W.heap.size, 2, none⟩ = some (.int .i64 lx) := cell_gr hw1 (by go_simp)
    have cw1_0_3 : w1.cell? ⟨W.heap.size, 3, none⟩ = some (.int .i64 hy) := cell_gr hw1 (by go_simp)
    have zw1_0 : W.heap.size < w1.heap.size := World.block_lt_of_cell? _ _ cw1_0_0
    have cw1_1_0 : w1.cell? ⟨W.heap.size + 1, 0, none⟩ = some (.int .i64 px) := cell_gr hw1 (by go_simp)
    have cw1_1_1 : w1.cell? ⟨W.heap.size + 1, 1, none⟩ = some (.int .i64 py) := cell_gr hw1 (by go_simp)
    have zw1_1 : W.heap.size + 1 < w1.heap.size := World.block_lt_of_cell? _ _ cw1_1_0
    have gw1 : Gr W w1 := Gr.trans (by go_grown) hw1
    clear hw1
    go_wp2_with fail
    go_at_call 9
    refine ((H3.out _ gw1)).mono ?_
    rintro e w2 ⟨rfl, hw2⟩
    have cw2_0_0 : w2.cell? ⟨W.heap.size, 0, none⟩ = some (.int .i64 lx) := cell_gr hw2 (by go_simp)
    have cw2_0_1 : w2.cell? ⟨W.heap.size, 1, none⟩ = some (.int .i64 ly) := cell_gr hw2 (by go_simp)
    have cw2_0_2 : w2.cell? ⟨W.heap.size, 2, none⟩ = some (.int .i64 lx) := cell_gr hw2 (by go_simp)
    have cw2_0_3 : w2.cell? ⟨W.heap.size, 3, none⟩ = some (.int .i64 hy) := cell_gr hw2 (by go_simp)
    have zw2_0 : W.heap.size < w2.heap.size := World.block_lt_of_cell? _ _ cw2_0_0
    have cw2_1_0 : w2.cell? ⟨W.heap.size + 1, 0, none⟩ = some (.int .i64 px) := cell_gr hw2 (by go_simp)
    have cw2_1_1 : w2.cell? ⟨W.heap.size + 1, 1, none⟩ = some (.int .i64 py) := cell_gr hw2 (by go_simp)
    have zw2_1 : W.heap.size + 1 < w2.heap.size := World.block_lt_of_cell? _ _ cw2_1_0
    have gw2 : Gr W w2 := Gr.trans (by have gg := gw1; have gs := gg.size; go_grown) hw2
    clear hw2 gw1 zw1_0 cw1_0_0 cw1_0_1 cw1_0_2 cw1_0_3 zw1_1 cw1_1_0 cw1_1_1
    go_wp2_with fail
    go_ret
    exact ⟨rfl, by go_grown⟩
  · have t1 : ((lx : Int) == hx) = false := by simp [n]
    have t2 : decide (lx = hx) = false := decide_eq_false n
    subst h
    have t3 : ((ly : Int) == ly) = true := by simp
    have t4 : decide (ly = ly) = true := decide_eq_true rfl
    go_enter Tryd.func4, Tryd.ntmps4
    go_wp2_with fail
    go_at_call 24
    refine ((H1.out _)).mono ?_
    rintro e w1 ⟨rfl, hw1⟩
    have cw1_0_0 : w1.cell? ⟨W.heap.size, 0, none⟩ = some (.int .i64 lx) := cell_gr hw1 (by go_simp)
    have cw1_0_1 : w1.cell? ⟨W.heap.size, 1, none⟩ = some (.int .i64 ly) := cell_gr hw1 (by go_simp)
    have cw1_0_2 : w1.cell? ⟨W.heap.size, 2, none⟩ = some (.int .i64 hx) := cell_gr hw1 (by go_simp)
    have cw1_0_3 : w1.cell? ⟨W.heap.size, 3, none⟩ = some (.int .i64 ly) := cell_gr hw1 (by go_simp)
    have zw1_0 : W.heap.size < w1.heap.size := World.block_lt_of_cell? _ _ cw1_0_0
    have cw1_1_0 : w1.cell? ⟨W.heap.size + 1, 0, none⟩ = some (.int .i64 px) := cell_gr hw1 (by go_simp)
    have cw1_1_1 : w1.cell? ⟨W.heap.size + 1, 1, none⟩ = some (.int .i64 py) := cell_gr hw1 (by go_simp)
    have zw1_1 : W.heap.size + 1 < w1.heap.size := World.block_lt_of_cell? _ _ cw1_1_0
    have gw1 : Gr W w1 := Gr.trans (by go_grown) hw1
    clear hw1
    go_wp2_with fail
    go_at_call 9
    refine ((H3.out _ gw1)).mono ?_
    rintro e w2 ⟨rfl, hw2⟩
    have cw2_0_0 : w2.cell? ⟨W.heap.size, 0, none⟩ = some (.int .i64 lx) := cell_gr hw2 (by go_simp)
    have cw2_0_1 : w2.cell? ⟨W.heap.size, 1, none⟩ = some (.int .i64 ly) := cell_gr hw2 (by go_simp)
    have cw2_0_2 : w2.cell? ⟨W.heap.size, 2, none⟩ = some (.int .i64 hx) := cell_gr hw2 (by go_simp)
    have cw2_0_3 : w2.cell? ⟨W.heap.size, 3, none⟩ = some (.int .i64 ly) := cell_gr hw2 (by go_simp)
    have zw2_0 : W.heap.size < w2.heap.size := World.block_lt_of_cell? _ _ cw2_0_0
    have cw2_1_0 : w2.cell? ⟨W.heap.size + 1, 0, none⟩ = some (.int .i64 px) := cell_gr hw2 (by go_simp)
    have cw2_1_1 : w2.cell? ⟨W.heap.size + 1, 1, none⟩ = some (.int .i64 py) := cell_gr hw2 (by go_simp)
    have zw2_1 : W.heap.size + 1 < w2.heap.size := World.block_lt_of_cell? _ _ cw2_1_0
    have gw2 : Gr W w2 := Gr.trans (by have gg := gw1; have gs := gg.size; go_grown) hw2
    clear hw2 gw1 zw1_0 cw1_0_0 cw1_0_1 cw1_0_2 cw1_0_3 zw1_1 cw1_1_0 cw1_1_1
    go_wp2_with fail
    go_ret
    exact ⟨rfl, by go_grown⟩
theorem q_box {lx ly hx hy : Int} (h1 : lx < hx) (h2 : ly < hy) : mnN (Rg.qX lx hx) 4 = lx ∧ mnN (Rg.qY ly hy) 4 = ly ∧ mxN (Rg.qX lx hx) 4 = hx ∧ mxN (Rg.qY ly hy) 4 = hy := by
  refine ⟨?_, ?_, ?_, ?_⟩
  · show minZ (minZ (minZ lx hx) hx) lx = lx
    simp only [minZ]; (repeat' split) <;> omega
  · show minZ (minZ (minZ ly ly) hy) hy = ly
    simp only [minZ]; (repeat' split) <;> omega
  · show maxZ (maxZ (maxZ lx hx) hx) lx = hx
    simp only [maxZ]; (repeat' split) <;> omega
  · show maxZ (maxZ (maxZ ly ly) hy) hy = hy
    simp only [maxZ]; (repeat' split) <;> omega
theorem walk_RingBoxes (lx ly hx hy px py : Int) {p1 p2 : Prop} (_ : p1) (_ : p2) (W : World) (hE : ErrT W) : Calls Tryd.prog 4 #[.agg #[.int .i64 lx, .int .i64 ly, .int .i64 hx, .int .i64 hy], .agg #[.int .i64 px, .int .i64 py]] W fun e w' => e = .returned (.bool true) ∧ Gr W w' := by
  have A1 := c_rCheckBox lx ly hx hy
  have A3 : ∀ w, Gr W w → Calls Tryd.prog 9 #[] w fun e w' => e = .returned (.bool true) ∧ Gr w w' := fun w g => g5_awake w (errT_gr hE g)
  have z := boxCode_zero (lx := lx) (ly := ly) (hx := hx) (hy := hy)
  by_cases hb : boxB lx ly hx hy = true
  · rw [hb] at z
    have z' : boxCode lx ly hx hy = 0 := by simpa using z
    obtain ⟨⟨b1, b2⟩, b3, b4⟩ := boxB_iff.1 hb
    have n1 := nearB_iff.1 b1
    have n2 := nearB_iff.1 b2
    by_cases c : lx < hx ∧ ly < hy
    · obtain ⟨c1, c2⟩ := c
      obtain ⟨A, hA, hA2⟩ := side_mul (a := lx) (b := hx) (c := ly) (d := hy) (by omega) (by omega) (by omega) (by omega) b3 b4
      obtain ⟨a1, a2, a3⟩ := Rg.areas lx ly hx hy
      rw [← hA] at a1
      have rq := Rg.q_ring b1 b2 c1 c2
      obtain ⟨tq, sq⟩ := tw_of rq (by omega) a1 (by omega) (by omega)
      have A2 := c_rArea lx ly hx hy hb A hA
      have A4 := c_rBoxHas lx ly hx hy px py
      rw [z'] at A1
      have A5 := c_rAdd2 A hA2
      obtain ⟨q1, q2, q3, q4⟩ := q_box c1 c2
      have hbh : hsV 4 (Rg.qX lx hx) (Rg.qY ly hy) px py = (boxB lx ly hx hy && nearB px py && inB lx ly hx hy px py) := by
        unfold hsV
        rw [rq, hb]
        cases hp : nearB px py
        · rfl
        · have bq := Rg.q_has b1 b2 hp c1 c2
          simp only [decide_true, Bool.true_and]
          rw [Bool.eq_iff_iff, bq]
          unfold inB
          simp [and_assoc]
      have S2 : ∀ w v, Pts w v 4 (Rg.qX lx hx) (Rg.qY ly hy) → Calls Tryd.prog 11 #[v] w fun e w' => e = .returned (.tuple #[.agg #[.int .i64 lx, .int .i64 ly, .int .i64 hx, .int .i64 hy], .nilIface]) ∧ Gr w w' := fun w v h => by
        have := c_RBox_ok w h (by rw [rq])
        rwa [q1, q2, q3, q4] at this
      have S3 : ∀ w v, Pts w v 4 (Rg.qX lx hx) (Rg.qY ly hy) → Calls Tryd.prog 18 #[v] w fun e w' => e = .returned (.bool true) ∧ Gr w w' := fun w v h => by
        have := c_Left w h
        have e : lfV 4 (Rg.qX lx hx) (Rg.qY ly hy) = true := by
          unfold lfV
          rw [rq, sq]
          have : 0 < (hx - lx) * (hy - ly) := Int.mul_pos (by omega) (by omega)
          simp
          omega
        rwa [e] at this
      have S5 : ∀ w v, Pts w v 4 (Rg.qX lx hx) (Rg.qY ly hy) → Calls Tryd.prog 16 #[v] w fun e w' => e = .returned (.agg #[.int .u64 0, .int .u64 (2 * A : Nat)]) ∧ Gr w w' := fun w v h => by rw [show ((2 * A : Nat) : Int) = 2 * (A : Int) by omega, ← tq]; exact c_Twice w h
      exact boxes_core lx ly hx hy px py (2 * A : Nat) A _ W c1 c2 A1 A2 A3 A4 A5 (fun w v h => chk_ok w h (by rw [rq]) w (Below.refl _ _)) S2 S3 S5 (fun w v h => by rw [← hbh]; exact c_Has w h px py)
    · refine boxes_no lx ly hx hy px py _ W (Or.inr ⟨z, by simp [z'], ?_⟩) A1 A3
      by_cases d1 : lx = hx
      · exact Or.inl d1
      · exact Or.inr ⟨d1, by omega⟩
  · have hb' : boxB lx ly hx hy = false := by simpa using hb
    rw [hb'] at z
    exact boxes_no lx ly hx hy px py _ W (Or.inl ⟨z, by rw [bne, z]; rfl⟩) A1 A3
end Go.Proofs.YtfamocpbmbhmbaaDoor
