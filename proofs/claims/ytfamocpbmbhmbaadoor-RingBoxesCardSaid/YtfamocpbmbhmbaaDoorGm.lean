/- RingCuts -/
import Derived.Test.YtfamocpbmbhmbaaDoorGk
import Derived.Test.YtfamocpbmbhmbaaDoorPa
import Derived.Test.YtfamocpbmbhmbaaDoorH
import Derived.BigRegion
namespace Go.Proofs.YtfamocpbmbhmbaaDoor
set_option linter.unusedVariables false
open Go.ChangeShapes Go.WideShapes Go.ChangeAt Go.RowKit

theorem c_u5 (hi lo : Int) (w : World) : Calls Tryd.prog 15 #[.agg #[.int .u64 hi, .int .u64 lo]] w fun e w' => e = .returned (.agg #[.int .u64 hi, .int .u64 lo]) ∧ Gr w w' := by
  go_enter Tryd.func15, Tryd.ntmps15
  go_wp2_with fail
  refine bodyPost_ret (v := .agg #[.int .u64 hi, .int .u64 lo]) (by simp [results, Tryd.results15, go_sem, *]) rfl ⟨rfl, by go_grown⟩
set_option maxHeartbeats 8000000 in
set_option maxRecDepth 100000 in
theorem cuts_core (lx ly hx hy px py T A : Int) (bs bt bc on : Bool) (W : World) (e1 : (bs || bt) = bc) (e2 : (!bs || !bt || on) = true) (hlx : lx < hx) (hly : ly < hy)
    (A1 : ∀ w, Calls Tryd.prog 24 #[.agg #[.int .i64 lx, .int .i64 ly, .int .i64 hx, .int .i64 hy]] w fun e w' => e = .returned (.int .i64 0) ∧ Gr w w')
    (A2 : ∀ w, Calls Tryd.prog 28 #[.agg #[.int .i64 px, .int .i64 py]] w fun e w' => e = .returned (.bool true) ∧ Gr w w')
    (A3 : ∀ w, Gr W w → Calls Tryd.prog 9 #[] w fun e w' => e = .returned (.bool true) ∧ Gr w w')
    (A4 : ∀ w, Calls Tryd.prog 29 #[.agg #[.int .i64 lx, .int .i64 ly], .agg #[.int .i64 hx, .int .i64 hy], .agg #[.int .i64 px, .int .i64 py]] w fun e w' => e = .returned (.bool on) ∧ Gr w w')
    (A5 : ∀ w, Calls Tryd.prog 26 #[.agg #[.int .u64 0, .int .u64 A], .agg #[.int .u64 0, .int .u64 A]] w fun e w' => e = .returned (.tuple #[.agg #[.int .u64 0, .int .u64 T], .bool false]) ∧ Gr w w')
    (S1 : ∀ w v, Pts w v 3 (Rg.sX lx hx) (Rg.sY ly hy) → Calls Tryd.prog 14 #[v] w fun e w' => e = .returned .nilIface ∧ Gr w w')
    (S2 : ∀ w v, Pts w v 3 (Rg.tX lx hx) (Rg.tY ly hy) → Calls Tryd.prog 14 #[v] w fun e w' => e = .returned .nilIface ∧ Gr w w')
    (S3 : ∀ w v, Pts w v 3 (Rg.sX lx hx) (Rg.sY ly hy) → Calls Tryd.prog 16 #[v] w fun e w' => e = .returned (.agg #[.int .u64 0, .int .u64 A]) ∧ Gr w w')
    (S4 : ∀ w v, Pts w v 3 (Rg.tX lx hx) (Rg.tY ly hy) → Calls Tryd.prog 16 #[v] w fun e w' => e = .returned (.agg #[.int .u64 0, .int .u64 A]) ∧ Gr w w')
    (S5 : ∀ w v, Pts w v 4 (Rg.qX lx hx) (Rg.qY ly hy) → Calls Tryd.prog 16 #[v] w fun e w' => e = .returned (.agg #[.int .u64 0, .int .u64 T]) ∧ Gr w w')
    (S6 : ∀ w v, Pts w v 3 (Rg.sX lx hx) (Rg.sY ly hy) → Calls Tryd.prog 20 #[v, .agg #[.int .i64 px, .int .i64 py]] w fun e w' => e = .returned (.bool bs) ∧ Gr w w')
    (S7 : ∀ w v, Pts w v 3 (Rg.tX lx hx) (Rg.tY ly hy) → Calls Tryd.prog 20 #[v, .agg #[.int .i64 px, .int .i64 py]] w fun e w' => e = .returned (.bool bt) ∧ Gr w w')
    (S8 : ∀ w v, Pts w v 4 (Rg.qX lx hx) (Rg.qY ly hy) → Calls Tryd.prog 20 #[v, .agg #[.int .i64 px, .int .i64 py]] w fun e w' => e = .returned (.bool bc) ∧ Gr w w') :
    Calls Tryd.prog 5 #[.agg #[.int .i64 lx, .int .i64 ly, .int .i64 hx, .int .i64 hy], .agg #[.int .i64 px, .int .i64 py]] W fun e w' => e = .returned (.bool true) ∧ Gr W w' := by
  have t1 : ((lx : Int) == hx) = false := by simp; omega
  have t2 : ((ly : Int) == hy) = false := by simp; omega
  have t3 : decide (lx = hx) = false := decide_eq_false (by omega)
  have t4 : decide (ly = hy) = false := decide_eq_false (by omega)
  have n1 : ¬ lx = hx := by omega
  have n2 : ¬ ly = hy := by omega
  have E := Lib.hid (And.intro e1 e2)
  clear e1 e2 hlx hly
  have H1 := Lib.hid A1
  have H2 := Lib.hid A2
  have H3 := Lib.hid A3
  have H4 := Lib.hid A4
  have H5 := Lib.hid A5
  clear A1 A2 A3 A4 A5
  have HS := Lib.hid (And.intro S1 (And.intro S2 (And.intro S3 (And.intro S4 (And.intro S5 (And.intro S6 (And.intro S7 S8)))))))
  clear S1 S2 S3 S4 S5 S6 S7 S8
  go_enter Tryd.func5, Tryd.ntmps5
  go_wp2_with fail
  go_at_call 24
  refine ((H1.out _)).mono ?_
  rintro e w1 ⟨rfl, hw1⟩
  have cw1_0_0 : w1.cell? ⟨W.heap.size, 0, none⟩ = some (.int .i64 lx) := cell_gr hw1 (by go_simp)
  have cw1_0_1 : w1.cell? ⟨W.heap.size, 1, none⟩ = some (.int .i64 ly) := cell_gr hw1 (by go_simp)
  have cw1_0_2 : w1.cell? ⟨W.heap.size, 2, none⟩ = some (.int .i64 hx) := cell_gr hw1 (by go_simp)
  have cw1_0_3 : w1.cell? ⟨W.heap.size, 3, none⟩ = some (.int .i64 hy) := cell_gr hw1 (by go_simp)
  have zw1_0 : W.heap.size < w1.heap.size := World.block_lt_of_cell? _ _ cw1_0_0
  have cw1_1_0 : w1.cell? ⟨W.heap.size + 1, 0, none⟩ = some (.int .i64 px) := cell_gr hw1 (by go_simp)
  have cw1_1_1 : w1.cell? ⟨W.heap.size + 1, 1, none⟩ = some (.int .i64 py) := cell_gr hw1 (by go_simp)
  have zw1_1 : W.heap.size + 1 < w1.heap.size := World.block_lt_of_cell? _ _ cw1_1_0
  have gw1 : Gr W w1 := Gr.trans (by go_grown) hw1
  clear hw1
  go_wp2_with fail
  go_at_call 28
  refine ((H2.out _)).mono ?_
  rintro e w2 ⟨rfl, hw2⟩
  have cw2_0_0 : w2.cell? ⟨W.heap.size, 0, none⟩ = some (.int .i64 lx) := cell_gr hw2 (by go_simp)
  have cw2_0_1 : w2.cell? ⟨W.heap.size, 1, none⟩ = some (.int .i64 ly) := cell_gr hw2 (by go_simp)
  have cw2_0_2 : w2.cell? ⟨W.heap.size, 2, none⟩ = some (.int .i64 hx) := cell_gr hw2 (by go_simp)
  have cw2_0_3 : w2.cell? ⟨W.heap.size, 3, none⟩ = some (.int .i64 hy) := cell_gr hw2 (by go_simp)
  have zw2_0 : W.heap.size < w2.heap.size := World.block_lt_of_cell? _ _ cw2_0_0
  have cw2_1_0 : w2.cell? ⟨W.heap.size + 1, 0, none⟩ = some (.int .i64 px) := cell_gr hw2 (by go_simp)
  have cw2_1_1 : w2.cell? ⟨W.heap.size + 1, 1, none⟩ = some (.int .i64 py) := cell_gr hw2 (by go_simp)
  have zw2_1 : W.heap.size + 1 < w2.heap.size := World.block_lt_of_cell? _ _ cw2_1_0
  have gw2 : Gr W w2 := Gr.trans (by have gg := gw1; have gs := gg.size; go_grown) hw2
  clear hw2 gw1 zw1_0 cw1_0_0 cw1_0_1 cw1_0_2 cw1_0_3 zw1_1 cw1_1_0 cw1_1_1
  go_wp2_with fail
  generalize hhw3 : (w2.alloc (.cells #[.int .i64 lx, .int .i64 ly, .int .i64 hx, .int .i64 ly, .int .i64 hx, .int .i64 hy, .int .i64 lx, .int .i64 hy] 24)) = w3
  have cw3_0_0 : w3.cell? ⟨W.heap.size, 0, none⟩ = some (.int .i64 lx) := by subst hhw3; go_simp
  have cw3_0_1 : w3.cell? ⟨W.heap.size, 1, none⟩ = some (.int .i64 ly) := by subst hhw3; go_simp
  have cw3_0_2 : w3.cell? ⟨W.heap.size, 2, none⟩ = some (.int .i64 hx) := by subst hhw3; go_simp
  have cw3_0_3 : w3.cell? ⟨W.heap.size, 3, none⟩ = some (.int .i64 hy) := by subst hhw3; go_simp
  have zw3_0 : W.heap.size < w3.heap.size := World.block_lt_of_cell? _ _ cw3_0_0
  have cw3_1_0 : w3.cell? ⟨W.heap.size + 1, 0, none⟩ = some (.int .i64 px) := by subst hhw3; go_simp
  have cw3_1_1 : w3.cell? ⟨W.heap.size + 1, 1, none⟩ = some (.int .i64 py) := by subst hhw3; go_simp
  have zw3_1 : W.heap.size + 1 < w3.heap.size := World.block_lt_of_cell? _ _ cw3_1_0
  have cw3_2_0 : w3.cell? ⟨w2.heap.size, 0, none⟩ = some (.int .i64 lx) := by subst hhw3; go_simp
  have cw3_2_1 : w3.cell? ⟨w2.heap.size, 1, none⟩ = some (.int .i64 ly) := by subst hhw3; go_simp
  have cw3_2_2 : w3.cell? ⟨w2.heap.size, 2, none⟩ = some (.int .i64 hx) := by subst hhw3; go_simp
  have cw3_2_3 : w3.cell? ⟨w2.heap.size, 3, none⟩ = some (.int .i64 ly) := by subst hhw3; go_simp
  have cw3_2_4 : w3.cell? ⟨w2.heap.size, 4, none⟩ = some (.int .i64 hx) := by subst hhw3; go_simp
  have cw3_2_5 : w3.cell? ⟨w2.heap.size, 5, none⟩ = some (.int .i64 hy) := by subst hhw3; go_simp
  have cw3_2_6 : w3.cell? ⟨w2.heap.size, 6, none⟩ = some (.int .i64 lx) := by subst hhw3; go_simp
  have cw3_2_7 : w3.cell? ⟨w2.heap.size, 7, none⟩ = some (.int .i64 hy) := by subst hhw3; go_simp
  have zw3_2 : w2.heap.size < w3.heap.size := World.block_lt_of_cell? _ _ cw3_2_0
  have gw3 : Gr W w3 := by subst hhw3; have gg := gw2; have gs := gg.size; go_grown
  clear hhw3 gw2 zw2_0 cw2_0_0 cw2_0_1 cw2_0_2 cw2_0_3 zw2_1 cw2_1_0 cw2_1_1
  go_wp2_with fail
  refine Hd.wp_region_tail 9 (by kernel_rfl) (by kernel_rfl) ?_
  intro KQ hKQ
  repeat (first | (refine Hd.wpG_skip (by decide) rfl ?_; simp only [Act.put, List.setIfInBounds_toArray, List.set_cons_zero, List.set_cons_succ]) | (refine Hd.wpG_want (by decide) rfl ?_; apply Exists.intro; refine ⟨?_, ?_⟩; (· intro wx gx; (obtain ⟨mx, rfl⟩ := gx); all_goals (apply Hd.gAt_of_quiet; intro K hK; go_big_quiet_op; first | exact hK _ rfl | (apply Exists.intro; refine ⟨fun _ => ?_, ?_⟩; (· fail); exact hK _ rfl))); try simp only [Act.put, List.setIfInBounds_toArray, List.set_cons_zero, List.set_cons_succ]))
  refine Hd.wpG_nil (hKQ _ ?_)
  clear hKQ KQ
  intro w4 hhw4
  have hw4 := Hd.gr_of_spread hhw4
  have cw4_0_0 : w4.cell? ⟨W.heap.size, 0, none⟩ = some (.int .i64 lx) := cell_gr hw4 (by go_simp)
  have cw4_0_1 : w4.cell? ⟨W.heap.size, 1, none⟩ = some (.int .i64 ly) := cell_gr hw4 (by go_simp)
  have cw4_0_2 : w4.cell? ⟨W.heap.size, 2, none⟩ = some (.int .i64 hx) := cell_gr hw4 (by go_simp)
  have cw4_0_3 : w4.cell? ⟨W.heap.size, 3, none⟩ = some (.int .i64 hy) := cell_gr hw4 (by go_simp)
  have zw4_0 : W.heap.size < w4.heap.size := World.block_lt_of_cell? _ _ cw4_0_0
  have cw4_1_0 : w4.cell? ⟨W.heap.size + 1, 0, none⟩ = some (.int .i64 px) := cell_gr hw4 (by go_simp)
  have cw4_1_1 : w4.cell? ⟨W.heap.size + 1, 1, none⟩ = some (.int .i64 py) := cell_gr hw4 (by go_simp)
  have zw4_1 : W.heap.size + 1 < w4.heap.size := World.block_lt_of_cell? _ _ cw4_1_0
  have cw4_2_0 : w4.cell? ⟨w2.heap.size, 0, none⟩ = some (.int .i64 lx) := cell_gr hw4 (by go_simp)
  have cw4_2_1 : w4.cell? ⟨w2.heap.size, 1, none⟩ = some (.int .i64 ly) := cell_gr hw4 (by go_simp)
  have cw4_2_2 : w4.cell? ⟨w2.heap.size, 2, none⟩ = some (.int .i64 hx) := cell_gr hw4 (by go_simp)
  have cw4_2_3 : w4.cell? ⟨w2.heap.size, 3, none⟩ = some (.int .i64 ly) := cell_gr hw4 (by go_simp)
  have cw4_2_4 : w4.cell? ⟨w2.heap.size, 4, none⟩ = some (.int .i64 hx) := cell_gr hw4 (by go_simp)
  have cw4_2_5 : w4.cell? ⟨w2.heap.size, 5, none⟩ = some (.int .i64 hy) := cell_gr hw4 (by go_simp)
  have cw4_2_6 : w4.cell? ⟨w2.heap.size, 6, none⟩ = some (.int .i64 lx) := cell_gr hw4 (by go_simp)
  have cw4_2_7 : w4.cell? ⟨w2.heap.size, 7, none⟩ = some (.int .i64 hy) := cell_gr hw4 (by go_simp)
  have zw4_2 : w2.heap.size < w4.heap.size := World.block_lt_of_cell? _ _ cw4_2_0
  have gw4 : Gr W w4 := Gr.trans (by have gg := gw3; have gs := gg.size; go_grown) hw4
  clear hw4 hhw4 gw3 zw3_0 cw3_0_0 cw3_0_1 cw3_0_2 cw3_0_3 zw3_1 cw3_1_0 cw3_1_1 zw3_2 cw3_2_0 cw3_2_1 cw3_2_2 cw3_2_3 cw3_2_4 cw3_2_5 cw3_2_6 cw3_2_7
  go_wp2_with fail
  generalize hhw5 : (w4.alloc (.cells #[.int .i64 lx, .int .i64 ly, .int .i64 hx, .int .i64 ly, .int .i64 hx, .int .i64 hy] 24)) = w5
  have cw5_0_0 : w5.cell? ⟨W.heap.size, 0, none⟩ = some (.int .i64 lx) := by subst hhw5; go_simp
  have cw5_0_1 : w5.cell? ⟨W.heap.size, 1, none⟩ = some (.int .i64 ly) := by subst hhw5; go_simp
  have cw5_0_2 : w5.cell? ⟨W.heap.size, 2, none⟩ = some (.int .i64 hx) := by subst hhw5; go_simp
  have cw5_0_3 : w5.cell? ⟨W.heap.size, 3, none⟩ = some (.int .i64 hy) := by subst hhw5; go_simp
  have zw5_0 : W.heap.size < w5.heap.size := World.block_lt_of_cell? _ _ cw5_0_0
  have cw5_1_0 : w5.cell? ⟨W.heap.size + 1, 0, none⟩ = some (.int .i64 px) := by subst hhw5; go_simp
  have cw5_1_1 : w5.cell? ⟨W.heap.size + 1, 1, none⟩ = some (.int .i64 py) := by subst hhw5; go_simp
  have zw5_1 : W.heap.size + 1 < w5.heap.size := World.block_lt_of_cell? _ _ cw5_1_0
  have cw5_2_0 : w5.cell? ⟨w2.heap.size, 0, none⟩ = some (.int .i64 lx) := by subst hhw5; go_simp
  have cw5_2_1 : w5.cell? ⟨w2.heap.size, 1, none⟩ = some (.int .i64 ly) := by subst hhw5; go_simp
  have cw5_2_2 : w5.cell? ⟨w2.heap.size, 2, none⟩ = some (.int .i64 hx) := by subst hhw5; go_simp
  have cw5_2_3 : w5.cell? ⟨w2.heap.size, 3, none⟩ = some (.int .i64 ly) := by subst hhw5; go_simp
  have cw5_2_4 : w5.cell? ⟨w2.heap.size, 4, none⟩ = some (.int .i64 hx) := by subst hhw5; go_simp
  have cw5_2_5 : w5.cell? ⟨w2.heap.size, 5, none⟩ = some (.int .i64 hy) := by subst hhw5; go_simp
  have cw5_2_6 : w5.cell? ⟨w2.heap.size, 6, none⟩ = some (.int .i64 lx) := by subst hhw5; go_simp
  have cw5_2_7 : w5.cell? ⟨w2.heap.size, 7, none⟩ = some (.int .i64 hy) := by subst hhw5; go_simp
  have zw5_2 : w2.heap.size < w5.heap.size := World.block_lt_of_cell? _ _ cw5_2_0
  have cw5_3_0 : w5.cell? ⟨w4.heap.size, 0, none⟩ = some (.int .i64 lx) := by subst hhw5; go_simp
  have cw5_3_1 : w5.cell? ⟨w4.heap.size, 1, none⟩ = some (.int .i64 ly) := by subst hhw5; go_simp
  have cw5_3_2 : w5.cell? ⟨w4.heap.size, 2, none⟩ = some (.int .i64 hx) := by subst hhw5; go_simp
  have cw5_3_3 : w5.cell? ⟨w4.heap.size, 3, none⟩ = some (.int .i64 ly) := by subst hhw5; go_simp
  have cw5_3_4 : w5.cell? ⟨w4.heap.size, 4, none⟩ = some (.int .i64 hx) := by subst hhw5; go_simp
  have cw5_3_5 : w5.cell? ⟨w4.heap.size, 5, none⟩ = some (.int .i64 hy) := by subst hhw5; go_simp
  have zw5_3 : w4.heap.size < w5.heap.size := World.block_lt_of_cell? _ _ cw5_3_0
  have gw5 : Gr W w5 := by subst hhw5; have gg := gw4; have gs := gg.size; go_grown
  clear hhw5 gw4 zw4_0 cw4_0_0 cw4_0_1 cw4_0_2 cw4_0_3 zw4_1 cw4_1_0 cw4_1_1 zw4_2 cw4_2_0 cw4_2_1 cw4_2_2 cw4_2_3 cw4_2_4 cw4_2_5 cw4_2_6 cw4_2_7
  go_wp2_with fail
  refine Hd.wp_region_tail 9 (by kernel_rfl) (by kernel_rfl) ?_
  intro KQ hKQ
  repeat (first | (refine Hd.wpG_skip (by decide) rfl ?_; simp only [Act.put, List.setIfInBounds_toArray, List.set_cons_zero, List.set_cons_succ]) | (refine Hd.wpG_want (by decide) rfl ?_; apply Exists.intro; refine ⟨?_, ?_⟩; (· intro wx gx; (obtain ⟨mx, rfl⟩ := gx); all_goals (apply Hd.gAt_of_quiet; intro K hK; go_big_quiet_op; first | exact hK _ rfl | (apply Exists.intro; refine ⟨fun _ => ?_, ?_⟩; (· fail); exact hK _ rfl))); try simp only [Act.put, List.setIfInBounds_toArray, List.set_cons_zero, List.set_cons_succ]))
  refine Hd.wpG_nil (hKQ _ ?_)
  clear hKQ KQ
  intro w6 hhw6
  have hw6 := Hd.gr_of_spread hhw6
  have cw6_0_0 : w6.cell? ⟨W.heap.size, 0, none⟩ = some (.int .i64 lx) := cell_gr hw6 (by go_simp)
  have cw6_0_1 : w6.cell? ⟨W.heap.size, 1, none⟩ = some (.int .i64 ly) := cell_gr hw6 (by go_simp)
  have cw6_0_2 : w6.cell? ⟨W.heap.size, 2, none⟩ = some (.int .i64 hx) := cell_gr hw6 (by go_simp)
  have cw6_0_3 : w6.cell? ⟨W.heap.size, 3, none⟩ = some (.int .i64 hy) := cell_gr hw6 (by go_simp)
  have zw6_0 : W.heap.size < w6.heap.size := World.block_lt_of_cell? _ _ cw6_0_0
  have cw6_1_0 : w6.cell? ⟨W.heap.size + 1, 0, none⟩ = some (.int .i64 px) := cell_gr hw6 (by go_simp)
  have cw6_1_1 : w6.cell? ⟨W.heap.size + 1, 1, none⟩ = some (.int .i64 py) := cell_gr hw6 (by go_simp)
  have zw6_1 : W.heap.size + 1 < w6.heap.size := World.block_lt_of_cell? _ _ cw6_1_0
  have cw6_2_0 : w6.cell? ⟨w2.heap.size, 0, none⟩ = some (.int .i64 lx) := cell_gr hw6 (by go_simp)
  have cw6_2_1 : w6.cell? ⟨w2.heap.size, 1, none⟩ = some (.int .i64 ly) := cell_gr hw6 (by go_simp)
  have cw6_2_2 : w6.cell? ⟨w2.heap.size, 2, none⟩ = some (.int .i64 hx) := cell_gr hw6 (by go_simp)
  have cw6_2_3 : w6.cell? ⟨w2.heap.size, 3, none⟩ = some (.int .i64 ly) := cell_gr hw6 (by go_simp)
  have cw6_2_4 : w6.cell? ⟨w2.heap.size, 4, none⟩ = some (.int .i64 hx) := cell_gr hw6 (by go_simp)
  have cw6_2_5 : w6.cell? ⟨w2.heap.size, 5, none⟩ = some (.int .i64 hy) := cell_gr hw6 (by go_simp)
  have cw6_2_6 : w6.cell? ⟨w2.heap.size, 6, none⟩ = some (.int .i64 lx) := cell_gr hw6 (by go_simp)
  have cw6_2_7 : w6.cell? ⟨w2.heap.size, 7, none⟩ = some (.int .i64 hy) := cell_gr hw6 (by go_simp)
  have zw6_2 : w2.heap.size < w6.heap.size := World.block_lt_of_cell? _ _ cw6_2_0
  have cw6_3_0 : w6.cell? ⟨w4.heap.size, 0, none⟩ = some (.int .i64 lx) := cell_gr hw6 (by go_simp)
  have cw6_3_1 : w6.cell? ⟨w4.heap.size, 1, none⟩ = some (.int .i64 ly) := cell_gr hw6 (by go_simp)
  have cw6_3_2 : w6.cell? ⟨w4.heap.size, 2, none⟩ = some (.int .i64 hx) := cell_gr hw6 (by go_simp)
  have cw6_3_3 : w6.cell? ⟨w4.heap.size, 3, none⟩ = some (.int .i64 ly) := cell_gr hw6 (by go_simp)
  have cw6_3_4 : w6.cell? ⟨w4.heap.size, 4, none⟩ = some (.int .i64 hx) := cell_gr hw6 (by go_simp)
  have cw6_3_5 : w6.cell? ⟨w4.heap.size, 5, none⟩ = some (.int .i64 hy) := cell_gr hw6 (by go_simp)
  have zw6_3 : w4.heap.size < w6.heap.size := World.block_lt_of_cell? _ _ cw6_3_0
  have gw6 : Gr W w6 := Gr.trans (by have gg := gw5; have gs := gg.size; go_grown) hw6
  clear hw6 hhw6 gw5 zw5_0 cw5_0_0 cw5_0_1 cw5_0_2 cw5_0_3 zw5_1 cw5_1_0 cw5_1_1 zw5_2 cw5_2_0 cw5_2_1 cw5_2_2 cw5_2_3 cw5_2_4 cw5_2_5 cw5_2_6 cw5_2_7 zw5_3 cw5_3_0 cw5_3_1 cw5_3_2 cw5_3_3 cw5_3_4 cw5_3_5
  go_wp2_with fail
  generalize hhw7 : (w6.alloc (.cells #[.int .i64 lx, .int .i64 ly, .int .i64 hx, .int .i64 hy, .int .i64 lx, .int .i64 hy] 24)) = w7
  have cw7_0_0 : w7.cell? ⟨W.heap.size, 0, none⟩ = some (.int .i64 lx) := by subst hhw7; go_simp
  have cw7_0_1 : w7.cell? ⟨W.heap.size, 1, none⟩ = some (.int .i64 ly) := by subst hhw7; go_simp
  have cw7_0_2 : w7.cell? ⟨W.heap.size, 2, none⟩ = some (.int .i64 hx) := by subst hhw7; go_simp
  have cw7_0_3 : w7.cell? ⟨W.heap.size, 3, none⟩ = some (.int .i64 hy) := by subst hhw7; go_simp
  have zw7_0 : W.heap.size < w7.heap.size := World.block_lt_of_cell? _ _ cw7_0_0
  have cw7_1_0 : w7.cell? ⟨W.heap.size + 1, 0, none⟩ = some (.int .i64 px) := by subst hhw7; go_simp
  have cw7_1_1 : w7.cell? ⟨W.heap.size + 1, 1, none⟩ = some (.int .i64 py) := by subst hhw7; go_simp
  have zw7_1 : W.heap.size + 1 < w7.heap.size := World.block_lt_of_cell? _ _ cw7_1_0
  have cw7_2_0 : w7.cell? ⟨w2.heap.size, 0, none⟩ = some (.int .i64 lx) := by subst hhw7; go_simp
  have cw7_2_1 : w7.cell? ⟨w2.heap.size, 1, none⟩ = some (.int .i64 ly) := by subst hhw7; go_simp
  have cw7_2_2 : w7.cell? ⟨w2.heap.size, 2, none⟩ = some (.int .i64 hx) := by subst hhw7; go_simp
  have cw7_2_3 : w7.cell? ⟨w2.heap.size, 3, none⟩ = some (.int .i64 ly) := by subst hhw7; go_simp
  have cw7_2_4 : w7.cell? ⟨w2.heap.size, 4, none⟩ = some (.int .i64 hx) := by subst hhw7; go_simp
  have cw7_2_5 : w7.cell? ⟨w2.heap.size, 5, none⟩ = some (.int .i64 hy) := by subst hhw7; go_simp
  have cw7_2_6 : w7.cell? ⟨w2.heap.size, 6, none⟩ = some (.int .i64 lx) := by subst hhw7; go_simp
  have cw7_2_7 : w7.cell? ⟨w2.heap.size, 7, none⟩ = some (.int .i64 hy) := by subst hhw7; go_simp
  have zw7_2 : w2.heap.size < w7.heap.size := World.block_lt_of_cell? _ _ cw7_2_0
  have cw7_3_0 : w7.cell? ⟨w4.heap.size, 0, none⟩ = some (.int .i64 lx) := by subst hhw7; go_simp
  have cw7_3_1 : w7.cell? ⟨w4.heap.size, 1, none⟩ = some (.int .i64 ly) := by subst hhw7; go_simp
  have cw7_3_2 : w7.cell? ⟨w4.heap.size, 2, none⟩ = some (.int .i64 hx) := by subst hhw7; go_simp
  have cw7_3_3 : w7.cell? ⟨w4.heap.size, 3, none⟩ = some (.int .i64 ly) := by subst hhw7; go_simp
  have cw7_3_4 : w7.cell? ⟨w4.heap.size, 4, none⟩ = some (.int .i64 hx) := by subst hhw7; go_simp
  have cw7_3_5 : w7.cell? ⟨w4.heap.size, 5, none⟩ = some (.int .i64 hy) := by subst hhw7; go_simp
  have zw7_3 : w4.heap.size < w7.heap.size := World.block_lt_of_cell? _ _ cw7_3_0
  have cw7_4_0 : w7.cell? ⟨w6.heap.size, 0, none⟩ = some (.int .i64 lx) := by subst hhw7; go_simp
  have cw7_4_1 : w7.cell? ⟨w6.heap.size, 1, none⟩ = some (.int .i64 ly) := by subst hhw7; go_simp
  have cw7_4_2 : w7.cell? ⟨w6.heap.size, 2, none⟩ = some (.int .i64 hx) := by subst hhw7; go_simp
  have cw7_4_3 : w7.cell? ⟨w6.heap.size, 3, none⟩ = some (.int .i64 hy) := by subst hhw7; go_simp
  have cw7_4_4 : w7.cell? ⟨w6.heap.size, 4, none⟩ = some (.int .i64 lx) := by subst hhw7; go_simp
  have cw7_4_5 : w7.cell? ⟨w6.heap.size, 5, none⟩ = some (.int .i64 hy) := by subst hhw7; go_simp
  have zw7_4 : w6.heap.size < w7.heap.size := World.block_lt_of_cell? _ _ cw7_4_0
  have gw7 : Gr W w7 := by subst hhw7; have gg := gw6; have gs := gg.size; go_grown
  clear hhw7 gw6 zw6_0 cw6_0_0 cw6_0_1 cw6_0_2 cw6_0_3 zw6_1 cw6_1_0 cw6_1_1 zw6_2 cw6_2_0 cw6_2_1 cw6_2_2 cw6_2_3 cw6_2_4 cw6_2_5 cw6_2_6 cw6_2_7 zw6_3 cw6_3_0 cw6_3_1 cw6_3_2 cw6_3_3 cw6_3_4 cw6_3_5
  have P1 := Lib.hid (pts4 (X := Rg.qX lx hx) (Y := Rg.qY ly hy) cw7_2_0 cw7_2_1 cw7_2_2 cw7_2_3 cw7_2_4 cw7_2_5 cw7_2_6 cw7_2_7)
  have P2 := Lib.hid (pts3 (X := Rg.sX lx hx) (Y := Rg.sY ly hy) cw7_3_0 cw7_3_1 cw7_3_2 cw7_3_3 cw7_3_4 cw7_3_5)
  have P3 := Lib.hid (pts3 (X := Rg.tX lx hx) (Y := Rg.tY ly hy) cw7_4_0 cw7_4_1 cw7_4_2 cw7_4_3 cw7_4_4 cw7_4_5)
  have K1 := Lib.hid (fun w (g : Gr w7 w) => HS.out.1 w _ (pts_gr P2.out g))
  have K2 := Lib.hid (fun w (g : Gr w7 w) => HS.out.2.1 w _ (pts_gr P3.out g))
  have K3 := Lib.hid (fun w (g : Gr w7 w) => HS.out.2.2.1 w _ (pts_gr P2.out g))
  have K4 := Lib.hid (fun w (g : Gr w7 w) => HS.out.2.2.2.1 w _ (pts_gr P3.out g))
  have K5 := Lib.hid (fun w (g : Gr w7 w) => HS.out.2.2.2.2.1 w _ (pts_gr P1.out g))
  have K6 := Lib.hid (fun w (g : Gr w7 w) => HS.out.2.2.2.2.2.1 w _ (pts_gr P2.out g))
  have K7 := Lib.hid (fun w (g : Gr w7 w) => HS.out.2.2.2.2.2.2.1 w _ (pts_gr P3.out g))
  have K8 := Lib.hid (fun w (g : Gr w7 w) => HS.out.2.2.2.2.2.2.2 w _ (pts_gr P1.out g))
  have G0 := Lib.hid gw7
  clear HS P1 P2 P3 gw7 H1 H2
  go_wp2_with fail
  go_at_call 16
  refine ((K3.out _ (Below.refl _ _))).mono ?_
  rintro e w8 ⟨rfl, hw8⟩
  have cw8_0_0 : w8.cell? ⟨W.heap.size, 0, none⟩ = some (.int .i64 lx) := cell_gr hw8 (by go_simp)
  have cw8_0_1 : w8.cell? ⟨W.heap.size, 1, none⟩ = some (.int .i64 ly) := cell_gr hw8 (by go_simp)
  have cw8_0_2 : w8.cell? ⟨W.heap.size, 2, none⟩ = some (.int .i64 hx) := cell_gr hw8 (by go_simp)
  have cw8_0_3 : w8.cell? ⟨W.heap.size, 3, none⟩ = some (.int .i64 hy) := cell_gr hw8 (by go_simp)
  have zw8_0 : W.heap.size < w8.heap.size := World.block_lt_of_cell? _ _ cw8_0_0
  have cw8_1_0 : w8.cell? ⟨W.heap.size + 1, 0, none⟩ = some (.int .i64 px) := cell_gr hw8 (by go_simp)
  have cw8_1_1 : w8.cell? ⟨W.heap.size + 1, 1, none⟩ = some (.int .i64 py) := cell_gr hw8 (by go_simp)
  have zw8_1 : W.heap.size + 1 < w8.heap.size := World.block_lt_of_cell? _ _ cw8_1_0
  have cw8_2_0 : w8.cell? ⟨w2.heap.size, 0, none⟩ = some (.int .i64 lx) := cell_gr hw8 (by go_simp)
  have cw8_2_1 : w8.cell? ⟨w2.heap.size, 1, none⟩ = some (.int .i64 ly) := cell_gr hw8 (by go_simp)
  have cw8_2_2 : w8.cell? ⟨w2.heap.size, 2, none⟩ = some (.int .i64 hx) := cell_gr hw8 (by go_simp)
  have cw8_2_3 : w8.cell? ⟨w2.heap.size, 3, none⟩ = some (.int .i64 ly) := cell_gr hw8 (by go_simp)
  have cw8_2_4 : w8.cell? ⟨w2.heap.size, 4, none⟩ = some (.int .i64 hx) := cell_gr hw8 (by go_simp)
  have cw8_2_5 : w8.cell? ⟨w2.heap.size, 5, none⟩ = some (.int .i64 hy) := cell_gr hw8 (by go_simp)
  have cw8_2_6 : w8.cell? ⟨w2.heap.size, 6, none⟩ = some (.int .i64 lx) := cell_gr hw8 (by go_simp)
  have cw8_2_7 : w8.cell? ⟨w2.heap.size, 7, none⟩ = some (.int .i64 hy) := cell_gr hw8 (by go_simp)
  have zw8_2 : w2.heap.size < w8.heap.size := World.block_lt_of_cell? _ _ cw8_2_0
  have gw8 : Gr w7 w8 := Gr.trans (by go_grown) hw8
  clear hw8
  go_wp2_with fail
  go_at_call 15
  refine ((c_u5 _ _ _)).mono ?_
  rintro e w9 ⟨rfl, hw9⟩
  have cw9_0_0 : w9.cell? ⟨W.heap.size, 0, none⟩ = some (.int .i64 lx) := cell_gr hw9 (by go_simp)
  have cw9_0_1 : w9.cell? ⟨W.heap.size, 1, none⟩ = some (.int .i64 ly) := cell_gr hw9 (by go_simp)
  have cw9_0_2 : w9.cell? ⟨W.heap.size, 2, none⟩ = some (.int .i64 hx) := cell_gr hw9 (by go_simp)
  have cw9_0_3 : w9.cell? ⟨W.heap.size, 3, none⟩ = some (.int .i64 hy) := cell_gr hw9 (by go_simp)
  have zw9_0 : W.heap.size < w9.heap.size := World.block_lt_of_cell? _ _ cw9_0_0
  have cw9_1_0 : w9.cell? ⟨W.heap.size + 1, 0, none⟩ = some (.int .i64 px) := cell_gr hw9 (by go_simp)
  have cw9_1_1 : w9.cell? ⟨W.heap.size + 1, 1, none⟩ = some (.int .i64 py) := cell_gr hw9 (by go_simp)
  have zw9_1 : W.heap.size + 1 < w9.heap.size := World.block_lt_of_cell? _ _ cw9_1_0
  have cw9_2_0 : w9.cell? ⟨w2.heap.size, 0, none⟩ = some (.int .i64 lx) := cell_gr hw9 (by go_simp)
  have cw9_2_1 : w9.cell? ⟨w2.heap.size, 1, none⟩ = some (.int .i64 ly) := cell_gr hw9 (by go_simp)
  have cw9_2_2 : w9.cell? ⟨w2.heap.size, 2, none⟩ = some (.int .i64 hx) := cell_gr hw9 (by go_simp)
  have cw9_2_3 : w9.cell? ⟨w2.heap.size, 3, none⟩ = some (.int .i64 ly) := cell_gr hw9 (by go_simp)
  have cw9_2_4 : w9.cell? ⟨w2.heap.size, 4, none⟩ = some (.int .i64 hx) := cell_gr hw9 (by go_simp)
  have cw9_2_5 : w9.cell? ⟨w2.heap.size, 5, none⟩ = some (.int .i64 hy) := cell_gr hw9 (by go_simp)
  have cw9_2_6 : w9.cell? ⟨w2.heap.size, 6, none⟩ = some (.int .i64 lx) := cell_gr hw9 (by go_simp)
  have cw9_2_7 : w9.cell? ⟨w2.heap.size, 7, none⟩ = some (.int .i64 hy) := cell_gr hw9 (by go_simp)
  have zw9_2 : w2.heap.size < w9.heap.size := World.block_lt_of_cell? _ _ cw9_2_0
  have gw9 : Gr w7 w9 := Gr.trans (by have gg := gw8; have gs := gg.size; go_grown) hw9
  clear hw9 gw8 zw8_0 cw8_0_0 cw8_0_1 cw8_0_2 cw8_0_3 zw8_1 cw8_1_0 cw8_1_1 zw8_2 cw8_2_0 cw8_2_1 cw8_2_2 cw8_2_3 cw8_2_4 cw8_2_5 cw8_2_6 cw8_2_7
  go_wp2_with fail
  go_at_call 16
  refine ((K4.out _ gw9)).mono ?_
  rintro e w10 ⟨rfl, hw10⟩
  have cw10_0_0 : w10.cell? ⟨W.heap.size, 0, none⟩ = some (.int .i64 lx) := cell_gr hw10 (by go_simp)
  have cw10_0_1 : w10.cell? ⟨W.heap.size, 1, none⟩ = some (.int .i64 ly) := cell_gr hw10 (by go_simp)
  have cw10_0_2 : w10.cell? ⟨W.heap.size, 2, none⟩ = some (.int .i64 hx) := cell_gr hw10 (by go_simp)
  have cw10_0_3 : w10.cell? ⟨W.heap.size, 3, none⟩ = some (.int .i64 hy) := cell_gr hw10 (by go_simp)
  have zw10_0 : W.heap.size < w10.heap.size := World.block_lt_of_cell? _ _ cw10_0_0
  have cw10_1_0 : w10.cell? ⟨W.heap.size + 1, 0, none⟩ = some (.int .i64 px) := cell_gr hw10 (by go_simp)
  have cw10_1_1 : w10.cell? ⟨W.heap.size + 1, 1, none⟩ = some (.int .i64 py) := cell_gr hw10 (by go_simp)
  have zw10_1 : W.heap.size + 1 < w10.heap.size := World.block_lt_of_cell? _ _ cw10_1_0
  have cw10_2_0 : w10.cell? ⟨w2.heap.size, 0, none⟩ = some (.int .i64 lx) := cell_gr hw10 (by go_simp)
  have cw10_2_1 : w10.cell? ⟨w2.heap.size, 1, none⟩ = some (.int .i64 ly) := cell_gr hw10 (by go_simp)
  have cw10_2_2 : w10.cell? ⟨w2.heap.size, 2, none⟩ = some (.int .i64 hx) := cell_gr hw10 (by go_simp)
  have cw10_2_3 : w10.cell? ⟨w2.heap.size, 3, none⟩ = some (.int .i64 ly) := cell_gr hw10 (by go_simp)
  have cw10_2_4 : w10.cell? ⟨w2.heap.size, 4, none⟩ = some (.int .i64 hx) := cell_gr hw10 (by go_simp)
  have cw10_2_5 : w10.cell? ⟨w2.heap.size, 5, none⟩ = some (.int .i64 hy) := cell_gr hw10 (by go_simp)
  have cw10_2_6 : w10.cell? ⟨w2.heap.size, 6, none⟩ = some (.int .i64 lx) := cell_gr hw10 (by go_simp)
  have cw10_2_7 : w10.cell? ⟨w2.heap.size, 7, none⟩ = some (.int .i64 hy) := cell_gr hw10 (by go_simp)
  have zw10_2 : w2.heap.size < w10.heap.size := World.block_lt_of_cell? _ _ cw10_2_0
  have gw10 : Gr w7 w10 := Gr.trans (by have gg := gw9; have gs := gg.size; go_grown) hw10
  clear hw10 gw9 zw9_0 cw9_0_0 cw9_0_1 cw9_0_2 cw9_0_3 zw9_1 cw9_1_0 cw9_1_1 zw9_2 cw9_2_0 cw9_2_1 cw9_2_2 cw9_2_3 cw9_2_4 cw9_2_5 cw9_2_6 cw9_2_7
  go_wp2_with fail
  go_at_call 15
  refine ((c_u5 _ _ _)).mono ?_
  rintro e w11 ⟨rfl, hw11⟩
  have cw11_0_0 : w11.cell? ⟨W.heap.size, 0, none⟩ = some (.int .i64 lx) := cell_gr hw11 (by go_simp)
  have cw11_0_1 : w11.cell? ⟨W.heap.size, 1, none⟩ = some (.int .i64 ly) := cell_gr hw11 (by go_simp)
  have cw11_0_2 : w11.cell? ⟨W.heap.size, 2, none⟩ = some (.int .i64 hx) := cell_gr hw11 (by go_simp)
  have cw11_0_3 : w11.cell? ⟨W.heap.size, 3, none⟩ = some (.int .i64 hy) := cell_gr hw11 (by go_simp)
  have zw11_0 : W.heap.size < w11.heap.size := World.block_lt_of_cell? _ _ cw11_0_0
  have cw11_1_0 : w11.cell? ⟨W.heap.size + 1, 0, none⟩ = some (.int .i64 px) := cell_gr hw11 (by go_simp)
  have cw11_1_1 : w11.cell? ⟨W.heap.size + 1, 1, none⟩ = some (.int .i64 py) := cell_gr hw11 (by go_simp)
  have zw11_1 : W.heap.size + 1 < w11.heap.size := World.block_lt_of_cell? _ _ cw11_1_0
  have cw11_2_0 : w11.cell? ⟨w2.heap.size, 0, none⟩ = some (.int .i64 lx) := cell_gr hw11 (by go_simp)
  have cw11_2_1 : w11.cell? ⟨w2.heap.size, 1, none⟩ = some (.int .i64 ly) := cell_gr hw11 (by go_simp)
  have cw11_2_2 : w11.cell? ⟨w2.heap.size, 2, none⟩ = some (.int .i64 hx) := cell_gr hw11 (by go_simp)
  have cw11_2_3 : w11.cell? ⟨w2.heap.size, 3, none⟩ = some (.int .i64 ly) := cell_gr hw11 (by go_simp)
  have cw11_2_4 : w11.cell? ⟨w2.heap.size, 4, none⟩ = some (.int .i64 hx) := cell_gr hw11 (by go_simp)
  have cw11_2_5 : w11.cell? ⟨w2.heap.size, 5, none⟩ = some (.int .i64 hy) := cell_gr hw11 (by go_simp)
  have cw11_2_6 : w11.cell? ⟨w2.heap.size, 6, none⟩ = some (.int .i64 lx) := cell_gr hw11 (by go_simp)
  have cw11_2_7 : w11.cell? ⟨w2.heap.size, 7, none⟩ = some (.int .i64 hy) := cell_gr hw11 (by go_simp)
  have zw11_2 : w2.heap.size < w11.heap.size := World.block_lt_of_cell? _ _ cw11_2_0
  have gw11 : Gr w7 w11 := Gr.trans (by have gg := gw10; have gs := gg.size; go_grown) hw11
  clear hw11 gw10 zw10_0 cw10_0_0 cw10_0_1 cw10_0_2 cw10_0_3 zw10_1 cw10_1_0 cw10_1_1 zw10_2 cw10_2_0 cw10_2_1 cw10_2_2 cw10_2_3 cw10_2_4 cw10_2_5 cw10_2_6 cw10_2_7
  go_wp2_with fail
  go_at_call 26
  refine ((H5.out _)).mono ?_
  rintro e w12 ⟨rfl, hw12⟩
  have cw12_0_0 : w12.cell? ⟨W.heap.size, 0, none⟩ = some (.int .i64 lx) := cell_gr hw12 (by go_simp)
  have cw12_0_1 : w12.cell? ⟨W.heap.size, 1, none⟩ = some (.int .i64 ly) := cell_gr hw12 (by go_simp)
  have cw12_0_2 : w12.cell? ⟨W.heap.size, 2, none⟩ = some (.int .i64 hx) := cell_gr hw12 (by go_simp)
  have cw12_0_3 : w12.cell? ⟨W.heap.size, 3, none⟩ = some (.int .i64 hy) := cell_gr hw12 (by go_simp)
  have zw12_0 : W.heap.size < w12.heap.size := World.block_lt_of_cell? _ _ cw12_0_0
  have cw12_1_0 : w12.cell? ⟨W.heap.size + 1, 0, none⟩ = some (.int .i64 px) := cell_gr hw12 (by go_simp)
  have cw12_1_1 : w12.cell? ⟨W.heap.size + 1, 1, none⟩ = some (.int .i64 py) := cell_gr hw12 (by go_simp)
  have zw12_1 : W.heap.size + 1 < w12.heap.size := World.block_lt_of_cell? _ _ cw12_1_0
  have cw12_2_0 : w12.cell? ⟨w2.heap.size, 0, none⟩ = some (.int .i64 lx) := cell_gr hw12 (by go_simp)
  have cw12_2_1 : w12.cell? ⟨w2.heap.size, 1, none⟩ = some (.int .i64 ly) := cell_gr hw12 (by go_simp)
  have cw12_2_2 : w12.cell? ⟨w2.heap.size, 2, none⟩ = some (.int .i64 hx) := cell_gr hw12 (by go_simp)
  have cw12_2_3 : w12.cell? ⟨w2.heap.size, 3, none⟩ = some (.int .i64 ly) := cell_gr hw12 (by go_simp)
  have cw12_2_4 : w12.cell? ⟨w2.heap.size, 4, none⟩ = some (.int .i64 hx) := cell_gr hw12 (by go_simp)
  have cw12_2_5 : w12.cell? ⟨w2.heap.size, 5, none⟩ = some (.int .i64 hy) := cell_gr hw12 (by go_simp)
  have cw12_2_6 : w12.cell? ⟨w2.heap.size, 6, none⟩ = some (.int .i64 lx) := cell_gr hw12 (by go_simp)
  have cw12_2_7 : w12.cell? ⟨w2.heap.size, 7, none⟩ = some (.int .i64 hy) := cell_gr hw12 (by go_simp)
  have zw12_2 : w2.heap.size < w12.heap.size := World.block_lt_of_cell? _ _ cw12_2_0
  have gw12 : Gr w7 w12 := Gr.trans (by have gg := gw11; have gs := gg.size; go_grown) hw12
  clear hw12 gw11 zw11_0 cw11_0_0 cw11_0_1 cw11_0_2 cw11_0_3 zw11_1 cw11_1_0 cw11_1_1 zw11_2 cw11_2_0 cw11_2_1 cw11_2_2 cw11_2_3 cw11_2_4 cw11_2_5 cw11_2_6 cw11_2_7
  go_wp2_with fail
  generalize hhw13 : (w12.alloc (.cells #[.int .u64 0, .int .u64 T] 41)) = w13
  have cw13_0_0 : w13.cell? ⟨W.heap.size, 0, none⟩ = some (.int .i64 lx) := by subst hhw13; go_simp
  have cw13_0_1 : w13.cell? ⟨W.heap.size, 1, none⟩ = some (.int .i64 ly) := by subst hhw13; go_simp
  have cw13_0_2 : w13.cell? ⟨W.heap.size, 2, none⟩ = some (.int .i64 hx) := by subst hhw13; go_simp
  have cw13_0_3 : w13.cell? ⟨W.heap.size, 3, none⟩ = some (.int .i64 hy) := by subst hhw13; go_simp
  have zw13_0 : W.heap.size < w13.heap.size := World.block_lt_of_cell? _ _ cw13_0_0
  have cw13_1_0 : w13.cell? ⟨W.heap.size + 1, 0, none⟩ = some (.int .i64 px) := by subst hhw13; go_simp
  have cw13_1_1 : w13.cell? ⟨W.heap.size + 1, 1, none⟩ = some (.int .i64 py) := by subst hhw13; go_simp
  have zw13_1 : W.heap.size + 1 < w13.heap.size := World.block_lt_of_cell? _ _ cw13_1_0
  have cw13_2_0 : w13.cell? ⟨w2.heap.size, 0, none⟩ = some (.int .i64 lx) := by subst hhw13; go_simp
  have cw13_2_1 : w13.cell? ⟨w2.heap.size, 1, none⟩ = some (.int .i64 ly) := by subst hhw13; go_simp
  have cw13_2_2 : w13.cell? ⟨w2.heap.size, 2, none⟩ = some (.int .i64 hx) := by subst hhw13; go_simp
  have cw13_2_3 : w13.cell? ⟨w2.heap.size, 3, none⟩ = some (.int .i64 ly) := by subst hhw13; go_simp
  have cw13_2_4 : w13.cell? ⟨w2.heap.size, 4, none⟩ = some (.int .i64 hx) := by subst hhw13; go_simp
  have cw13_2_5 : w13.cell? ⟨w2.heap.size, 5, none⟩ = some (.int .i64 hy) := by subst hhw13; go_simp
  have cw13_2_6 : w13.cell? ⟨w2.heap.size, 6, none⟩ = some (.int .i64 lx) := by subst hhw13; go_simp
  have cw13_2_7 : w13.cell? ⟨w2.heap.size, 7, none⟩ = some (.int .i64 hy) := by subst hhw13; go_simp
  have zw13_2 : w2.heap.size < w13.heap.size := World.block_lt_of_cell? _ _ cw13_2_0
  have cw13_3_0 : w13.cell? ⟨w12.heap.size, 0, none⟩ = some (.int .u64 0) := by subst hhw13; go_simp
  have cw13_3_1 : w13.cell? ⟨w12.heap.size, 1, none⟩ = some (.int .u64 T) := by subst hhw13; go_simp
  have zw13_3 : w12.heap.size < w13.heap.size := World.block_lt_of_cell? _ _ cw13_3_0
  have gw13 : Gr w7 w13 := by subst hhw13; have gg := gw12; have gs := gg.size; go_grown
  clear hhw13 gw12 zw12_0 cw12_0_0 cw12_0_1 cw12_0_2 cw12_0_3 zw12_1 cw12_1_0 cw12_1_1 zw12_2 cw12_2_0 cw12_2_1 cw12_2_2 cw12_2_3 cw12_2_4 cw12_2_5 cw12_2_6 cw12_2_7
  clear K3 K4 H5
  obtain ⟨e1, e2⟩ := E.out
  subst e1
  rcases bs with _ | _ <;> rcases bt with _ | _
  · simp only [Bool.or_self] at K8
    go_wp2_with fail
    refine wp_region_spread (by kernel_rfl) (by kernel_rfl) ?_
    try simp only [List.append]
    repeat (first | go_big_quiet_skip | (go_big_quiet_want; go_big_quiet_op; (first | go_big_quiet_on | (apply Exists.intro; refine ⟨fun _ => ?_, ?_⟩; (· (first | (go_at_call 14; first | ((with_reducible refine ((K1.out _ (Gr.trans (by have gg := gw13; have gs := gg.size; go_grown) (gr_spread _ _)))).mono ?_); rintro e w' ⟨rfl, hg⟩; exact ⟨rfl, spread_gr hg⟩) | ((with_reducible refine ((K2.out _ (Gr.trans (by have gg := gw13; have gs := gg.size; go_grown) (gr_spread _ _)))).mono ?_); rintro e w' ⟨rfl, hg⟩; exact ⟨rfl, spread_gr hg⟩)) | (go_at_call 20; first | ((with_reducible refine ((K6.out _ (Gr.trans (by have gg := gw13; have gs := gg.size; go_grown) (gr_spread _ _)))).mono ?_); rintro e w' ⟨rfl, hg⟩; exact ⟨rfl, spread_gr hg⟩) | ((with_reducible refine ((K7.out _ (Gr.trans (by have gg := gw13; have gs := gg.size; go_grown) (gr_spread _ _)))).mono ?_); rintro e w' ⟨rfl, hg⟩; exact ⟨rfl, spread_gr hg⟩) | ((with_reducible refine ((K8.out _ (Gr.trans (by have gg := gw13; have gs := gg.size; go_grown) (gr_spread _ _)))).mono ?_); rintro e w' ⟨rfl, hg⟩; exact ⟨rfl, spread_gr hg⟩)) | (go_at_call 16; first | ((with_reducible refine ((K5.out _ (Gr.trans (by have gg := gw13; have gs := gg.size; go_grown) (gr_spread _ _)))).mono ?_); rintro e w' ⟨rfl, hg⟩; exact ⟨rfl, spread_gr hg⟩)) | (go_at_call 15; first | ((with_reducible refine ((c_u5 _ _ _)).mono ?_); rintro e w' ⟨rfl, hg⟩; exact ⟨rfl, spread_gr hg⟩)) | (go_at_call 29; first | ((with_reducible refine ((H4.out _)).mono ?_); rintro e w' ⟨rfl, hg⟩; exact ⟨rfl, spread_gr hg⟩)) | (go_at_call 9; first | ((with_reducible refine ((H3.out _ (Gr.trans (Gr.trans G0.out (by have gg := gw13; have gs := gg.size; go_grown)) (gr_spread _ _)))).mono ?_); rintro e w' ⟨rfl, hg⟩; exact ⟨rfl, spread_gr hg⟩)))); go_big_quiet_on))))
    refine wpQuiet_nil ?_
    intro w14 hhw14
    have hw14 := Hd.gr_of_spread hhw14
    have cw14_0_0 : w14.cell? ⟨W.heap.size, 0, none⟩ = some (.int .i64 lx) := cell_gr hw14 (by go_simp)
    have cw14_0_1 : w14.cell? ⟨W.heap.size, 1, none⟩ = some (.int .i64 ly) := cell_gr hw14 (by go_simp)
    have cw14_0_2 : w14.cell? ⟨W.heap.size, 2, none⟩ = some (.int .i64 hx) := cell_gr hw14 (by go_simp)
    have cw14_0_3 : w14.cell? ⟨W.heap.size, 3, none⟩ = some (.int .i64 hy) := cell_gr hw14 (by go_simp)
    have zw14_0 : W.heap.size < w14.heap.size := World.block_lt_of_cell? _ _ cw14_0_0
    have cw14_1_0 : w14.cell? ⟨W.heap.size + 1, 0, none⟩ = some (.int .i64 px) := cell_gr hw14 (by go_simp)
    have cw14_1_1 : w14.cell? ⟨W.heap.size + 1, 1, none⟩ = some (.int .i64 py) := cell_gr hw14 (by go_simp)
    have zw14_1 : W.heap.size + 1 < w14.heap.size := World.block_lt_of_cell? _ _ cw14_1_0
    have cw14_2_0 : w14.cell? ⟨w2.heap.size, 0, none⟩ = some (.int .i64 lx) := cell_gr hw14 (by go_simp)
    have cw14_2_1 : w14.cell? ⟨w2.heap.size, 1, none⟩ = some (.int .i64 ly) := cell_gr hw14 (by go_simp)
    have cw14_2_2 : w14.cell? ⟨w2.heap.size, 2, none⟩ = some (.int .i64 hx) := cell_gr hw14 (by go_simp)
    have cw14_2_3 : w14.cell? ⟨w2.heap.size, 3, none⟩ = some (.int .i64 ly) := cell_gr hw14 (by go_simp)
    have cw14_2_4 : w14.cell? ⟨w2.heap.size, 4, none⟩ = some (.int .i64 hx) := cell_gr hw14 (by go_simp)
    have cw14_2_5 : w14.cell? ⟨w2.heap.size, 5, none⟩ = some (.int .i64 hy) := cell_gr hw14 (by go_simp)
    have cw14_2_6 : w14.cell? ⟨w2.heap.size, 6, none⟩ = some (.int .i64 lx) := cell_gr hw14 (by go_simp)
    have cw14_2_7 : w14.cell? ⟨w2.heap.size, 7, none⟩ = some (.int .i64 hy) := cell_gr hw14 (by go_simp)
    have zw14_2 : w2.heap.size < w14.heap.size := World.block_lt_of_cell? _ _ cw14_2_0
    have cw14_3_0 : w14.cell? ⟨w12.heap.size, 0, none⟩ = some (.int .u64 0) := cell_gr hw14 (by go_simp)
    have cw14_3_1 : w14.cell? ⟨w12.heap.size, 1, none⟩ = some (.int .u64 T) := cell_gr hw14 (by go_simp)
    have zw14_3 : w12.heap.size < w14.heap.size := World.block_lt_of_cell? _ _ cw14_3_0
    have gw14 : Gr w7 w14 := Gr.trans (by have gg := gw13; have gs := gg.size; go_grown) hw14
    clear hw14 hhw14 gw13 zw13_0 cw13_0_0 cw13_0_1 cw13_0_2 cw13_0_3 zw13_1 cw13_1_0 cw13_1_1 zw13_2 cw13_2_0 cw13_2_1 cw13_2_2 cw13_2_3 cw13_2_4 cw13_2_5 cw13_2_6 cw13_2_7 zw13_3 cw13_3_0 cw13_3_1
    go_wp2_with fail
    go_ret
    exact ⟨rfl, Gr.trans G0.out gw14⟩
  · simp only [Bool.false_or] at K8
    go_wp2_with fail
    refine wp_region_spread (by kernel_rfl) (by kernel_rfl) ?_
    try simp only [List.append]
    repeat (first | go_big_quiet_skip | (go_big_quiet_want; go_big_quiet_op; (first | go_big_quiet_on | (apply Exists.intro; refine ⟨fun _ => ?_, ?_⟩; (· (first | (go_at_call 14; first | ((with_reducible refine ((K1.out _ (Gr.trans (by have gg := gw13; have gs := gg.size; go_grown) (gr_spread _ _)))).mono ?_); rintro e w' ⟨rfl, hg⟩; exact ⟨rfl, spread_gr hg⟩) | ((with_reducible refine ((K2.out _ (Gr.trans (by have gg := gw13; have gs := gg.size; go_grown) (gr_spread _ _)))).mono ?_); rintro e w' ⟨rfl, hg⟩; exact ⟨rfl, spread_gr hg⟩)) | (go_at_call 20; first | ((with_reducible refine ((K6.out _ (Gr.trans (by have gg := gw13; have gs := gg.size; go_grown) (gr_spread _ _)))).mono ?_); rintro e w' ⟨rfl, hg⟩; exact ⟨rfl, spread_gr hg⟩) | ((with_reducible refine ((K7.out _ (Gr.trans (by have gg := gw13; have gs := gg.size; go_grown) (gr_spread _ _)))).mono ?_); rintro e w' ⟨rfl, hg⟩; exact ⟨rfl, spread_gr hg⟩) | ((with_reducible refine ((K8.out _ (Gr.trans (by have gg := gw13; have gs := gg.size; go_grown) (gr_spread _ _)))).mono ?_); rintro e w' ⟨rfl, hg⟩; exact ⟨rfl, spread_gr hg⟩)) | (go_at_call 16; first | ((with_reducible refine ((K5.out _ (Gr.trans (by have gg := gw13; have gs := gg.size; go_grown) (gr_spread _ _)))).mono ?_); rintro e w' ⟨rfl, hg⟩; exact ⟨rfl, spread_gr hg⟩)) | (go_at_call 15; first | ((with_reducible refine ((c_u5 _ _ _)).mono ?_); rintro e w' ⟨rfl, hg⟩; exact ⟨rfl, spread_gr hg⟩)) | (go_at_call 29; first | ((with_reducible refine ((H4.out _)).mono ?_); rintro e w' ⟨rfl, hg⟩; exact ⟨rfl, spread_gr hg⟩)) | (go_at_call 9; first | ((with_reducible refine ((H3.out _ (Gr.trans (Gr.trans G0.out (by have gg := gw13; have gs := gg.size; go_grown)) (gr_spread _ _)))).mono ?_); rintro e w' ⟨rfl, hg⟩; exact ⟨rfl, spread_gr hg⟩)))); go_big_quiet_on))))
    refine wpQuiet_nil ?_
    intro w14 hhw14
    have hw14 := Hd.gr_of_spread hhw14
    have cw14_0_0 : w14.cell? ⟨W.heap.size, 0, none⟩ = some (.int .i64 lx) := cell_gr hw14 (by go_simp)
    have cw14_0_1 : w14.cell? ⟨W.heap.size, 1, none⟩ = some (.int .i64 ly) := cell_gr hw14 (by go_simp)
    have cw14_0_2 : w14.cell? ⟨W.heap.size, 2, none⟩ = some (.int .i64 hx) := cell_gr hw14 (by go_simp)
    have cw14_0_3 : w14.cell? ⟨W.heap.size, 3, none⟩ = some (.int .i64 hy) := cell_gr hw14 (by go_simp)
    have zw14_0 : W.heap.size < w14.heap.size := World.block_lt_of_cell? _ _ cw14_0_0
    have cw14_1_0 : w14.cell? ⟨W.heap.size + 1, 0, none⟩ = some (.int .i64 px) := cell_gr hw14 (by go_simp)
    have cw14_1_1 : w14.cell? ⟨W.heap.size + 1, 1, none⟩ = some (.int .i64 py) := cell_gr hw14 (by go_simp)
    have zw14_1 : W.heap.size + 1 < w14.heap.size := World.block_lt_of_cell? _ _ cw14_1_0
    have cw14_2_0 : w14.cell? ⟨w2.heap.size, 0, none⟩ = some (.int .i64 lx) := cell_gr hw14 (by go_simp)
    have cw14_2_1 : w14.cell? ⟨w2.heap.size, 1, none⟩ = some (.int .i64 ly) := cell_gr hw14 (by go_simp)
    have cw14_2_2 : w14.cell? ⟨w2.heap.size, 2, none⟩ = some (.int .i64 hx) := cell_gr hw14 (by go_simp)
    have cw14_2_3 : w14.cell? ⟨w2.heap.size, 3, none⟩ = some (.int .i64 ly) := cell_gr hw14 (by go_simp)
    have cw14_2_4 : w14.cell? ⟨w2.heap.size, 4, none⟩ = some (.int .i64 hx) := cell_gr hw14 (by go_simp)
    have cw14_2_5 : w14.cell? ⟨w2.heap.size, 5, none⟩ = some (.int .i64 hy) := cell_gr hw14 (by go_simp)
    have cw14_2_6 : w14.cell? ⟨w2.heap.size, 6, none⟩ = some (.int .i64 lx) := cell_gr hw14 (by go_simp)
    have cw14_2_7 : w14.cell? ⟨w2.heap.size, 7, none⟩ = some (.int .i64 hy) := cell_gr hw14 (by go_simp)
    have zw14_2 : w2.heap.size < w14.heap.size := World.block_lt_of_cell? _ _ cw14_2_0
    have cw14_3_0 : w14.cell? ⟨w12.heap.size, 0, none⟩ = some (.int .u64 0) := cell_gr hw14 (by go_simp)
    have cw14_3_1 : w14.cell? ⟨w12.heap.size, 1, none⟩ = some (.int .u64 T) := cell_gr hw14 (by go_simp)
    have zw14_3 : w12.heap.size < w14.heap.size := World.block_lt_of_cell? _ _ cw14_3_0
    have gw14 : Gr w7 w14 := Gr.trans (by have gg := gw13; have gs := gg.size; go_grown) hw14
    clear hw14 hhw14 gw13 zw13_0 cw13_0_0 cw13_0_1 cw13_0_2 cw13_0_3 zw13_1 cw13_1_0 cw13_1_1 zw13_2 cw13_2_0 cw13_2_1 cw13_2_2 cw13_2_3 cw13_2_4 cw13_2_5 cw13_2_6 cw13_2_7 zw13_3 cw13_3_0 cw13_3_1
    go_wp2_with fail
    go_ret
    exact ⟨rfl, Gr.trans G0.out gw14⟩
  · simp only [Bool.or_false] at K8
    go_wp2_with fail
    refine wp_region_spread (by kernel_rfl) (by kernel_rfl) ?_
    try simp only [List.append]
    repeat (first | go_big_quiet_skip | (go_big_quiet_want; go_big_quiet_op; (first | go_big_quiet_on | (apply Exists.intro; refine ⟨fun _ => ?_, ?_⟩; (· (first | (go_at_call 14; first | ((with_reducible refine ((K1.out _ (Gr.trans (by have gg := gw13; have gs := gg.size; go_grown) (gr_spread _ _)))).mono ?_); rintro e w' ⟨rfl, hg⟩; exact ⟨rfl, spread_gr hg⟩) | ((with_reducible refine ((K2.out _ (Gr.trans (by have gg := gw13; have gs := gg.size; go_grown) (gr_spread _ _)))).mono ?_); rintro e w' ⟨rfl, hg⟩; exact ⟨rfl, spread_gr hg⟩)) | (go_at_call 20; first | ((with_reducible refine ((K6.out _ (Gr.trans (by have gg := gw13; have gs := gg.size; go_grown) (gr_spread _ _)))).mono ?_); rintro e w' ⟨rfl, hg⟩; exact ⟨rfl, spread_gr hg⟩) | ((with_reducible refine ((K7.out _ (Gr.trans (by have gg := gw13; have gs := gg.size; go_grown) (gr_spread _ _)))).mono ?_); rintro e w' ⟨rfl, hg⟩; exact ⟨rfl, spread_gr hg⟩) | ((with_reducible refine ((K8.out _ (Gr.trans (by have gg := gw13; have gs := gg.size; go_grown) (gr_spread _ _)))).mono ?_); rintro e w' ⟨rfl, hg⟩; exact ⟨rfl, spread_gr hg⟩)) | (go_at_call 16; first | ((with_reducible refine ((K5.out _ (Gr.trans (by have gg := gw13; have gs := gg.size; go_grown) (gr_spread _ _)))).mono ?_); rintro e w' ⟨rfl, hg⟩; exact ⟨rfl, spread_gr hg⟩)) | (go_at_call 15; first | ((with_reducible refine ((c_u5 _ _ _)).mono ?_); rintro e w' ⟨rfl, hg⟩; exact ⟨rfl, spread_gr hg⟩)) | (go_at_call 29; first | ((with_reducible refine ((H4.out _)).mono ?_); rintro e w' ⟨rfl, hg⟩; exact ⟨rfl, spread_gr hg⟩)) | (go_at_call 9; first | ((with_reducible refine ((H3.out _ (Gr.trans (Gr.trans G0.out (by have gg := gw13; have gs := gg.size; go_grown)) (gr_spread _ _)))).mono ?_); rintro e w' ⟨rfl, hg⟩; exact ⟨rfl, spread_gr hg⟩)))); go_big_quiet_on))))
    refine wpQuiet_nil ?_
    intro w14 hhw14
    have hw14 := Hd.gr_of_spread hhw14
    have cw14_0_0 : w14.cell? ⟨W.heap.size, 0, none⟩ = some (.int .i64 lx) := cell_gr hw14 (by go_simp)
    have cw14_0_1 : w14.cell? ⟨W.heap.size, 1, none⟩ = some (.int .i64 ly) := cell_gr hw14 (by go_simp)
    have cw14_0_2 : w14.cell? ⟨W.heap.size, 2, none⟩ = some (.int .i64 hx) := cell_gr hw14 (by go_simp)
    have cw14_0_3 : w14.cell? ⟨W.heap.size, 3, none⟩ = some (.int .i64 hy) := cell_gr hw14 (by go_simp)
    have zw14_0 : W.heap.size < w14.heap.size := World.block_lt_of_cell? _ _ cw14_0_0
    have cw14_1_0 : w14.cell? ⟨W.heap.size + 1, 0, none⟩ = some (.int .i64 px) := cell_gr hw14 (by go_simp)
    have cw14_1_1 : w14.cell? ⟨W.heap.size + 1, 1, none⟩ = some (.int .i64 py) := cell_gr hw14 (by go_simp)
    have zw14_1 : W.heap.size + 1 < w14.heap.size := World.block_lt_of_cell? _ _ cw14_1_0
    have cw14_2_0 : w14.cell? ⟨w2.heap.size, 0, none⟩ = some (.int .i64 lx) := cell_gr hw14 (by go_simp)
    have cw14_2_1 : w14.cell? ⟨w2.heap.size, 1, none⟩ = some (.int .i64 ly) := cell_gr hw14 (by go_simp)
    have cw14_2_2 : w14.cell? ⟨w2.heap.size, 2, none⟩ = some (.int .i64 hx) := cell_gr hw14 (by go_simp)
    have cw14_2_3 : w14.cell? ⟨w2.heap.size, 3, none⟩ = some (.int .i64 ly) := cell_gr hw14 (by go_simp)
    have cw14_2_4 : w14.cell? ⟨w2.heap.size, 4, none⟩ = some (.int .i64 hx) := cell_gr hw14 (by go_simp)
    have cw14_2_5 : w14.cell? ⟨w2.heap.size, 5, none⟩ = some (.int .i64 hy) := cell_gr hw14 (by go_simp)
    have cw14_2_6 : w14.cell? ⟨w2.heap.size, 6, none⟩ = some (.int .i64 lx) := cell_gr hw14 (by go_simp)
    have cw14_2_7 : w14.cell? ⟨w2.heap.size, 7, none⟩ = some (.int .i64 hy) := cell_gr hw14 (by go_simp)
    have zw14_2 : w2.heap.size < w14.heap.size := World.block_lt_of_cell? _ _ cw14_2_0
    have cw14_3_0 : w14.cell? ⟨w12.heap.size, 0, none⟩ = some (.int .u64 0) := cell_gr hw14 (by go_simp)
    have cw14_3_1 : w14.cell? ⟨w12.heap.size, 1, none⟩ = some (.int .u64 T) := cell_gr hw14 (by go_simp)
    have zw14_3 : w12.heap.size < w14.heap.size := World.block_lt_of_cell? _ _ cw14_3_0
    have gw14 : Gr w7 w14 := Gr.trans (by have gg := gw13; have gs := gg.size; go_grown) hw14
    clear hw14 hhw14 gw13 zw13_0 cw13_0_0 cw13_0_1 cw13_0_2 cw13_0_3 zw13_1 cw13_1_0 cw13_1_1 zw13_2 cw13_2_0 cw13_2_1 cw13_2_2 cw13_2_3 cw13_2_4 cw13_2_5 cw13_2_6 cw13_2_7 zw13_3 cw13_3_0 cw13_3_1
    go_wp2_with fail
    go_ret
    exact ⟨rfl, Gr.trans G0.out gw14⟩
  · simp only [Bool.or_self] at K8
    simp only [Bool.not_true, Bool.false_or] at e2
    subst e2
    go_wp2_with fail
    refine wp_region_spread (by kernel_rfl) (by kernel_rfl) ?_
    try simp only [List.append]
    repeat (first | go_big_quiet_skip | (go_big_quiet_want; go_big_quiet_op; (first | go_big_quiet_on | (apply Exists.intro; refine ⟨fun _ => ?_, ?_⟩; (· (first | (go_at_call 14; first | ((with_reducible refine ((K1.out _ (Gr.trans (by have gg := gw13; have gs := gg.size; go_grown) (gr_spread _ _)))).mono ?_); rintro e w' ⟨rfl, hg⟩; exact ⟨rfl, spread_gr hg⟩) | ((with_reducible refine ((K2.out _ (Gr.trans (by have gg := gw13; have gs := gg.size; go_grown) (gr_spread _ _)))).mono ?_); rintro e w' ⟨rfl, hg⟩; exact ⟨rfl, spread_gr hg⟩)) | (go_at_call 20; first | ((with_reducible refine ((K6.out _ (Gr.trans (by have gg := gw13; have gs := gg.size; go_grown) (gr_spread _ _)))).mono ?_); rintro e w' ⟨rfl, hg⟩; exact ⟨rfl, spread_gr hg⟩) | ((with_reducible refine ((K7.out _ (Gr.trans (by have gg := gw13; have gs := gg.size; go_grown) (gr_spread _ _)))).mono ?_); rintro e w' ⟨rfl, hg⟩; exact ⟨rfl, spread_gr hg⟩) | ((with_reducible refine ((K8.out _ (Gr.trans (by have gg := gw13; have gs := gg.size; go_grown) (gr_spread _ _)))).mono ?_); rintro e w' ⟨rfl, hg⟩; exact ⟨rfl, spread_gr hg⟩)) | (go_at_call 16; first | ((with_reducible refine ((K5.out _ (Gr.trans (by have gg := gw13; have gs := gg.size; go_grown) (gr_spread _ _)))).mono ?_); rintro e w' ⟨rfl, hg⟩; exact ⟨rfl, spread_gr hg⟩)) | (go_at_call 15; first | ((with_reducible refine ((c_u5 _ _ _)).mono ?_); rintro e w' ⟨rfl, hg⟩; exact ⟨rfl, spread_gr hg⟩)) | (go_at_call 29; first | ((with_reducible refine ((H4.out _)).mono ?_); rintro e w' ⟨rfl, hg⟩; exact ⟨rfl, spread_gr hg⟩)) | (go_at_call 9; first | ((with_reducible refine ((H3.out _ (Gr.trans (Gr.trans G0.out (by have gg := gw13; have gs := gg.size; go_grown)) (gr_spread _ _)))).mono ?_); rintro e w' ⟨rfl, hg⟩; exact ⟨rfl, spread_gr hg⟩)))); go_big_quiet_on))))
    refine wpQuiet_nil ?_
    intro w14 hhw14
    have hw14 := Hd.gr_of_spread hhw14
    have cw14_0_0 : w14.cell? ⟨W.heap.size, 0, none⟩ = some (.int .i64 lx) := cell_gr hw14 (by go_simp)
    have cw14_0_1 : w14.cell? ⟨W.heap.size, 1, none⟩ = some (.int .i64 ly) := cell_gr hw14 (by go_simp)
    have cw14_0_2 : w14.cell? ⟨W.heap.size, 2, none⟩ = some (.int .i64 hx) := cell_gr hw14 (by go_simp)
    have cw14_0_3 : w14.cell? ⟨W.heap.size, 3, none⟩ = some (.int .i64 hy) := cell_gr hw14 (by go_simp)
    have zw14_0 : W.heap.size < w14.heap.size := World.block_lt_of_cell? _ _ cw14_0_0
    have cw14_1_0 : w14.cell? ⟨W.heap.size + 1, 0, none⟩ = some (.int .i64 px) := cell_gr hw14 (by go_simp)
    have cw14_1_1 : w14.cell? ⟨W.heap.size + 1, 1, none⟩ = some (.int .i64 py) := cell_gr hw14 (by go_simp)
    have zw14_1 : W.heap.size + 1 < w14.heap.size := World.block_lt_of_cell? _ _ cw14_1_0
    have cw14_2_0 : w14.cell? ⟨w2.heap.size, 0, none⟩ = some (.int .i64 lx) := cell_gr hw14 (by go_simp)
    have cw14_2_1 : w14.cell? ⟨w2.heap.size, 1, none⟩ = some (.int .i64 ly) := cell_gr hw14 (by go_simp)
    have cw14_2_2 : w14.cell? ⟨w2.heap.size, 2, none⟩ = some (.int .i64 hx) := cell_gr hw14 (by go_simp)
    have cw14_2_3 : w14.cell? ⟨w2.heap.size, 3, none⟩ = some (.int .i64 ly) := cell_gr hw14 (by go_simp)
    have cw14_2_4 : w14.cell? ⟨w2.heap.size, 4, none⟩ = some (.int .i64 hx) := cell_gr hw14 (by go_simp)
    have cw14_2_5 : w14.cell? ⟨w2.heap.size, 5, none⟩ = some (.int .i64 hy) := cell_gr hw14 (by go_simp)
    have cw14_2_6 : w14.cell? ⟨w2.heap.size, 6, none⟩ = some (.int .i64 lx) := cell_gr hw14 (by go_simp)
    have cw14_2_7 : w14.cell? ⟨w2.heap.size, 7, none⟩ = some (.int .i64 hy) := cell_gr hw14 (by go_simp)
    have zw14_2 : w2.heap.size < w14.heap.size := World.block_lt_of_cell? _ _ cw14_2_0
    have cw14_3_0 : w14.cell? ⟨w12.heap.size, 0, none⟩ = some (.int .u64 0) := cell_gr hw14 (by go_simp)
    have cw14_3_1 : w14.cell? ⟨w12.heap.size, 1, none⟩ = some (.int .u64 T) := cell_gr hw14 (by go_simp)
    have zw14_3 : w12.heap.size < w14.heap.size := World.block_lt_of_cell? _ _ cw14_3_0
    have gw14 : Gr w7 w14 := Gr.trans (by have gg := gw13; have gs := gg.size; go_grown) hw14
    clear hw14 hhw14 gw13 zw13_0 cw13_0_0 cw13_0_1 cw13_0_2 cw13_0_3 zw13_1 cw13_1_0 cw13_1_1 zw13_2 cw13_2_0 cw13_2_1 cw13_2_2 cw13_2_3 cw13_2_4 cw13_2_5 cw13_2_6 cw13_2_7 zw13_3 cw13_3_0 cw13_3_1
    go_wp2_with fail
    go_ret
    exact ⟨rfl, Gr.trans G0.out gw14⟩
end Go.Proofs.YtfamocpbmbhmbaaDoor
