/- SegmMoves: the rest -/
import Derived.Test.YthjhhnolkiejpaaZj
namespace Go.Proofs.Ythjhhnolkiejpaa
set_option linter.unusedVariables false
open Go.ChangeShapes Go.WideShapes Go.ChangeAt Go.RowKit

set_option maxHeartbeats 4000000 in
set_option maxRecDepth 100000 in
theorem moves_q3 (ax ay bx by' cx cy dx dy x y max may mbx mby mcx mcy mdx mdy : Int) (W : World) (c1 : ¬ x < -2147483648) (c2 : ¬ 2147483648 < x) (c3 : ¬ y < -2147483648) (c4 : ¬ 2147483648 < y)
    (e01 : wrap64 (ax + x) = max) (e02 : IntKind.i64.wrap (ax + x) = max) (e03 : wrap64 (ay + y) = may) (e04 : IntKind.i64.wrap (ay + y) = may)
    (e11 : wrap64 (bx + x) = mbx) (e12 : IntKind.i64.wrap (bx + x) = mbx) (e13 : wrap64 (by' + y) = mby) (e14 : IntKind.i64.wrap (by' + y) = mby)
    (e21 : wrap64 (cx + x) = mcx) (e22 : IntKind.i64.wrap (cx + x) = mcx) (e23 : wrap64 (cy + y) = mcy) (e24 : IntKind.i64.wrap (cy + y) = mcy)
    (A0 : ∀ w, Calls Try.prog 14 #[.agg #[.int .i64 ax, .int .i64 ay]] w fun e w' => e = .returned (.bool true) ∧ Gr w w')
    (R0 : ∀ w, Calls Try.prog 14 #[.agg #[.int .i64 max, .int .i64 may]] w fun e w' => e = .returned (.bool true) ∧ Gr w w')
    (A1 : ∀ w, Calls Try.prog 14 #[.agg #[.int .i64 bx, .int .i64 by']] w fun e w' => e = .returned (.bool true) ∧ Gr w w')
    (R1 : ∀ w, Calls Try.prog 14 #[.agg #[.int .i64 mbx, .int .i64 mby]] w fun e w' => e = .returned (.bool true) ∧ Gr w w')
    (A2 : ∀ w, Calls Try.prog 14 #[.agg #[.int .i64 cx, .int .i64 cy]] w fun e w' => e = .returned (.bool true) ∧ Gr w w')
    (R2 : ∀ w, Calls Try.prog 14 #[.agg #[.int .i64 mcx, .int .i64 mcy]] w fun e w' => e = .returned (.bool true) ∧ Gr w w')
    (A3 : ∀ w, Calls Try.prog 14 #[.agg #[.int .i64 dx, .int .i64 dy]] w fun e w' => e = .returned (.bool false) ∧ Gr w w') :
    Calls Try.prog 8 #[.agg #[.int .i64 ax, .int .i64 ay], .agg #[.int .i64 bx, .int .i64 by'], .agg #[.int .i64 cx, .int .i64 cy], .agg #[.int .i64 dx, .int .i64 dy], .int .i64 x, .int .i64 y] W fun e w' => e = .returned (.bool true) ∧ Gr W w' := by
  have HA0 := Lib.hid A0
  have HR0 := Lib.hid R0
  have HA1 := Lib.hid A1
  have HR1 := Lib.hid R1
  have HA2 := Lib.hid A2
  have HR2 := Lib.hid R2
  have HA3 := Lib.hid A3
  clear A0 A1 A2 A3 R0 R1 R2
  go_enter Try.func8, Try.ntmps8
  go_wp2_with fail
  refine wp_loop_rounds 5 ?_
  rw [rounds_succ]
  go_wp2_with fail
  go_at_call 14
  refine ((HA0.out _)).mono ?_
  rintro e u0 ⟨rfl, hu0⟩
  have cu0_0_0 : u0.cell? ⟨W.heap.size, 0, none⟩ = some (.int .i64 ax) := cell_gr hu0 (by go_simp)
  have cu0_0_1 : u0.cell? ⟨W.heap.size, 1, none⟩ = some (.int .i64 ay) := cell_gr hu0 (by go_simp)
  have zu0_0 : W.heap.size < u0.heap.size := World.block_lt_of_cell? _ _ cu0_0_0
  have cu0_1_0 : u0.cell? ⟨W.heap.size + 1, 0, none⟩ = some (.int .i64 bx) := cell_gr hu0 (by go_simp)
  have cu0_1_1 : u0.cell? ⟨W.heap.size + 1, 1, none⟩ = some (.int .i64 by') := cell_gr hu0 (by go_simp)
  have zu0_1 : W.heap.size + 1 < u0.heap.size := World.block_lt_of_cell? _ _ cu0_1_0
  have cu0_2_0 : u0.cell? ⟨W.heap.size + 1 + 1, 0, none⟩ = some (.int .i64 cx) := cell_gr hu0 (by go_simp)
  have cu0_2_1 : u0.cell? ⟨W.heap.size + 1 + 1, 1, none⟩ = some (.int .i64 cy) := cell_gr hu0 (by go_simp)
  have zu0_2 : W.heap.size + 1 + 1 < u0.heap.size := World.block_lt_of_cell? _ _ cu0_2_0
  have cu0_3_0 : u0.cell? ⟨W.heap.size + 1 + 1 + 1, 0, none⟩ = some (.int .i64 dx) := cell_gr hu0 (by go_simp)
  have cu0_3_1 : u0.cell? ⟨W.heap.size + 1 + 1 + 1, 1, none⟩ = some (.int .i64 dy) := cell_gr hu0 (by go_simp)
  have zu0_3 : W.heap.size + 1 + 1 + 1 < u0.heap.size := World.block_lt_of_cell? _ _ cu0_3_0
  have cu0_4_0 : u0.cell? ⟨W.heap.size + 1 + 1 + 1 + 1, 0, none⟩ = some (.int .i64 ax) := cell_gr hu0 (by go_simp)
  have cu0_4_1 : u0.cell? ⟨W.heap.size + 1 + 1 + 1 + 1, 1, none⟩ = some (.int .i64 ay) := cell_gr hu0 (by go_simp)
  have cu0_4_2 : u0.cell? ⟨W.heap.size + 1 + 1 + 1 + 1, 2, none⟩ = some (.int .i64 bx) := cell_gr hu0 (by go_simp)
  have cu0_4_3 : u0.cell? ⟨W.heap.size + 1 + 1 + 1 + 1, 3, none⟩ = some (.int .i64 by') := cell_gr hu0 (by go_simp)
  have cu0_4_4 : u0.cell? ⟨W.heap.size + 1 + 1 + 1 + 1, 4, none⟩ = some (.int .i64 cx) := cell_gr hu0 (by go_simp)
  have cu0_4_5 : u0.cell? ⟨W.heap.size + 1 + 1 + 1 + 1, 5, none⟩ = some (.int .i64 cy) := cell_gr hu0 (by go_simp)
  have cu0_4_6 : u0.cell? ⟨W.heap.size + 1 + 1 + 1 + 1, 6, none⟩ = some (.int .i64 dx) := cell_gr hu0 (by go_simp)
  have cu0_4_7 : u0.cell? ⟨W.heap.size + 1 + 1 + 1 + 1, 7, none⟩ = some (.int .i64 dy) := cell_gr hu0 (by go_simp)
  have zu0_4 : W.heap.size + 1 + 1 + 1 + 1 < u0.heap.size := World.block_lt_of_cell? _ _ cu0_4_0
  have cu0_5_0 : u0.cell? ⟨W.heap.size + 1 + 1 + 1 + 1 + 1, 0, none⟩ = some (.int .i64 ax) := cell_gr hu0 (by go_simp)
  have fu0_5_0 : u0.frozen? ⟨W.heap.size + 1 + 1 + 1 + 1 + 1, 0, none⟩ = false := frozen_gr (v := .int .i64 ax) hu0 (by go_simp) (by go_simp)
  have cu0_5_1 : u0.cell? ⟨W.heap.size + 1 + 1 + 1 + 1 + 1, 1, none⟩ = some (.int .i64 ay) := cell_gr hu0 (by go_simp)
  have fu0_5_1 : u0.frozen? ⟨W.heap.size + 1 + 1 + 1 + 1 + 1, 1, none⟩ = false := frozen_gr (v := .int .i64 ay) hu0 (by go_simp) (by go_simp)
  have cu0_5_2 : u0.cell? ⟨W.heap.size + 1 + 1 + 1 + 1 + 1, 2, none⟩ = some (.int .i64 bx) := cell_gr hu0 (by go_simp)
  have fu0_5_2 : u0.frozen? ⟨W.heap.size + 1 + 1 + 1 + 1 + 1, 2, none⟩ = false := frozen_gr (v := .int .i64 bx) hu0 (by go_simp) (by go_simp)
  have cu0_5_3 : u0.cell? ⟨W.heap.size + 1 + 1 + 1 + 1 + 1, 3, none⟩ = some (.int .i64 by') := cell_gr hu0 (by go_simp)
  have fu0_5_3 : u0.frozen? ⟨W.heap.size + 1 + 1 + 1 + 1 + 1, 3, none⟩ = false := frozen_gr (v := .int .i64 by') hu0 (by go_simp) (by go_simp)
  have cu0_5_4 : u0.cell? ⟨W.heap.size + 1 + 1 + 1 + 1 + 1, 4, none⟩ = some (.int .i64 cx) := cell_gr hu0 (by go_simp)
  have fu0_5_4 : u0.frozen? ⟨W.heap.size + 1 + 1 + 1 + 1 + 1, 4, none⟩ = false := frozen_gr (v := .int .i64 cx) hu0 (by go_simp) (by go_simp)
  have cu0_5_5 : u0.cell? ⟨W.heap.size + 1 + 1 + 1 + 1 + 1, 5, none⟩ = some (.int .i64 cy) := cell_gr hu0 (by go_simp)
  have fu0_5_5 : u0.frozen? ⟨W.heap.size + 1 + 1 + 1 + 1 + 1, 5, none⟩ = false := frozen_gr (v := .int .i64 cy) hu0 (by go_simp) (by go_simp)
  have cu0_5_6 : u0.cell? ⟨W.heap.size + 1 + 1 + 1 + 1 + 1, 6, none⟩ = some (.int .i64 dx) := cell_gr hu0 (by go_simp)
  have fu0_5_6 : u0.frozen? ⟨W.heap.size + 1 + 1 + 1 + 1 + 1, 6, none⟩ = false := frozen_gr (v := .int .i64 dx) hu0 (by go_simp) (by go_simp)
  have cu0_5_7 : u0.cell? ⟨W.heap.size + 1 + 1 + 1 + 1 + 1, 7, none⟩ = some (.int .i64 dy) := cell_gr hu0 (by go_simp)
  have fu0_5_7 : u0.frozen? ⟨W.heap.size + 1 + 1 + 1 + 1 + 1, 7, none⟩ = false := frozen_gr (v := .int .i64 dy) hu0 (by go_simp) (by go_simp)
  have zu0_5 : W.heap.size + 1 + 1 + 1 + 1 + 1 < u0.heap.size := World.block_lt_of_cell? _ _ cu0_5_0
  have gu0 : Gr W u0 := Gr.trans (by go_grown) hu0
  clear hu0
  go_wp2_with fail
  refine Hd.wp_region_tail 18 (by kernel_rfl) (by kernel_rfl) ?_
  intro KQ hKQ
  repeat (first | (refine Hd.wpG_skip (by decide) rfl ?_; simp only [Act.put, List.setIfInBounds_toArray, List.set_cons_zero, List.set_cons_succ]) | (refine Hd.wpG_want (by decide) rfl ?_; apply Exists.intro; refine ⟨?_, ?_⟩; (· intro wx gx; (obtain ⟨mx, rfl⟩ := gx); all_goals (apply Hd.gAt_of_quiet; intro K hK; go_big_quiet_op; first | exact hK _ rfl | (apply Exists.intro; refine ⟨fun _ => ?_, ?_⟩; (· fail); exact hK _ rfl))); try simp only [Act.put, List.setIfInBounds_toArray, List.set_cons_zero, List.set_cons_succ]))
  refine Hd.wpG_nil (hKQ _ ?_)
  clear hKQ KQ
  intro v0 hhv0
  have hv0 := Hd.gr_of_spread hhv0
  have cv0_0_0 : v0.cell? ⟨W.heap.size, 0, none⟩ = some (.int .i64 ax) := cell_gr hv0 (by go_simp)
  have cv0_0_1 : v0.cell? ⟨W.heap.size, 1, none⟩ = some (.int .i64 ay) := cell_gr hv0 (by go_simp)
  have zv0_0 : W.heap.size < v0.heap.size := World.block_lt_of_cell? _ _ cv0_0_0
  have cv0_1_0 : v0.cell? ⟨W.heap.size + 1, 0, none⟩ = some (.int .i64 bx) := cell_gr hv0 (by go_simp)
  have cv0_1_1 : v0.cell? ⟨W.heap.size + 1, 1, none⟩ = some (.int .i64 by') := cell_gr hv0 (by go_simp)
  have zv0_1 : W.heap.size + 1 < v0.heap.size := World.block_lt_of_cell? _ _ cv0_1_0
  have cv0_2_0 : v0.cell? ⟨W.heap.size + 1 + 1, 0, none⟩ = some (.int .i64 cx) := cell_gr hv0 (by go_simp)
  have cv0_2_1 : v0.cell? ⟨W.heap.size + 1 + 1, 1, none⟩ = some (.int .i64 cy) := cell_gr hv0 (by go_simp)
  have zv0_2 : W.heap.size + 1 + 1 < v0.heap.size := World.block_lt_of_cell? _ _ cv0_2_0
  have cv0_3_0 : v0.cell? ⟨W.heap.size + 1 + 1 + 1, 0, none⟩ = some (.int .i64 dx) := cell_gr hv0 (by go_simp)
  have cv0_3_1 : v0.cell? ⟨W.heap.size + 1 + 1 + 1, 1, none⟩ = some (.int .i64 dy) := cell_gr hv0 (by go_simp)
  have zv0_3 : W.heap.size + 1 + 1 + 1 < v0.heap.size := World.block_lt_of_cell? _ _ cv0_3_0
  have cv0_4_0 : v0.cell? ⟨W.heap.size + 1 + 1 + 1 + 1, 0, none⟩ = some (.int .i64 ax) := cell_gr hv0 (by go_simp)
  have cv0_4_1 : v0.cell? ⟨W.heap.size + 1 + 1 + 1 + 1, 1, none⟩ = some (.int .i64 ay) := cell_gr hv0 (by go_simp)
  have cv0_4_2 : v0.cell? ⟨W.heap.size + 1 + 1 + 1 + 1, 2, none⟩ = some (.int .i64 bx) := cell_gr hv0 (by go_simp)
  have cv0_4_3 : v0.cell? ⟨W.heap.size + 1 + 1 + 1 + 1, 3, none⟩ = some (.int .i64 by') := cell_gr hv0 (by go_simp)
  have cv0_4_4 : v0.cell? ⟨W.heap.size + 1 + 1 + 1 + 1, 4, none⟩ = some (.int .i64 cx) := cell_gr hv0 (by go_simp)
  have cv0_4_5 : v0.cell? ⟨W.heap.size + 1 + 1 + 1 + 1, 5, none⟩ = some (.int .i64 cy) := cell_gr hv0 (by go_simp)
  have cv0_4_6 : v0.cell? ⟨W.heap.size + 1 + 1 + 1 + 1, 6, none⟩ = some (.int .i64 dx) := cell_gr hv0 (by go_simp)
  have cv0_4_7 : v0.cell? ⟨W.heap.size + 1 + 1 + 1 + 1, 7, none⟩ = some (.int .i64 dy) := cell_gr hv0 (by go_simp)
  have zv0_4 : W.heap.size + 1 + 1 + 1 + 1 < v0.heap.size := World.block_lt_of_cell? _ _ cv0_4_0
  have cv0_5_0 : v0.cell? ⟨W.heap.size + 1 + 1 + 1 + 1 + 1, 0, none⟩ = some (.int .i64 ax) := cell_gr hv0 (by go_simp)
  have fv0_5_0 : v0.frozen? ⟨W.heap.size + 1 + 1 + 1 + 1 + 1, 0, none⟩ = false := frozen_gr (v := .int .i64 ax) hv0 (by go_simp) (by go_simp)
  have cv0_5_1 : v0.cell? ⟨W.heap.size + 1 + 1 + 1 + 1 + 1, 1, none⟩ = some (.int .i64 ay) := cell_gr hv0 (by go_simp)
  have fv0_5_1 : v0.frozen? ⟨W.heap.size + 1 + 1 + 1 + 1 + 1, 1, none⟩ = false := frozen_gr (v := .int .i64 ay) hv0 (by go_simp) (by go_simp)
  have cv0_5_2 : v0.cell? ⟨W.heap.size + 1 + 1 + 1 + 1 + 1, 2, none⟩ = some (.int .i64 bx) := cell_gr hv0 (by go_simp)
  have fv0_5_2 : v0.frozen? ⟨W.heap.size + 1 + 1 + 1 + 1 + 1, 2, none⟩ = false := frozen_gr (v := .int .i64 bx) hv0 (by go_simp) (by go_simp)
  have cv0_5_3 : v0.cell? ⟨W.heap.size + 1 + 1 + 1 + 1 + 1, 3, none⟩ = some (.int .i64 by') := cell_gr hv0 (by go_simp)
  have fv0_5_3 : v0.frozen? ⟨W.heap.size + 1 + 1 + 1 + 1 + 1, 3, none⟩ = false := frozen_gr (v := .int .i64 by') hv0 (by go_simp) (by go_simp)
  have cv0_5_4 : v0.cell? ⟨W.heap.size + 1 + 1 + 1 + 1 + 1, 4, none⟩ = some (.int .i64 cx) := cell_gr hv0 (by go_simp)
  have fv0_5_4 : v0.frozen? ⟨W.heap.size + 1 + 1 + 1 + 1 + 1, 4, none⟩ = false := frozen_gr (v := .int .i64 cx) hv0 (by go_simp) (by go_simp)
  have cv0_5_5 : v0.cell? ⟨W.heap.size + 1 + 1 + 1 + 1 + 1, 5, none⟩ = some (.int .i64 cy) := cell_gr hv0 (by go_simp)
  have fv0_5_5 : v0.frozen? ⟨W.heap.size + 1 + 1 + 1 + 1 + 1, 5, none⟩ = false := frozen_gr (v := .int .i64 cy) hv0 (by go_simp) (by go_simp)
  have cv0_5_6 : v0.cell? ⟨W.heap.size + 1 + 1 + 1 + 1 + 1, 6, none⟩ = some (.int .i64 dx) := cell_gr hv0 (by go_simp)
  have fv0_5_6 : v0.frozen? ⟨W.heap.size + 1 + 1 + 1 + 1 + 1, 6, none⟩ = false := frozen_gr (v := .int .i64 dx) hv0 (by go_simp) (by go_simp)
  have cv0_5_7 : v0.cell? ⟨W.heap.size + 1 + 1 + 1 + 1 + 1, 7, none⟩ = some (.int .i64 dy) := cell_gr hv0 (by go_simp)
  have fv0_5_7 : v0.frozen? ⟨W.heap.size + 1 + 1 + 1 + 1 + 1, 7, none⟩ = false := frozen_gr (v := .int .i64 dy) hv0 (by go_simp) (by go_simp)
  have zv0_5 : W.heap.size + 1 + 1 + 1 + 1 + 1 < v0.heap.size := World.block_lt_of_cell? _ _ cv0_5_0
  have gv0 : Gr W v0 := Gr.trans (by have gg := gu0; have gs := gg.size; go_grown) hv0
  clear hv0 hhv0 gu0 zu0_0 cu0_0_0 cu0_0_1 zu0_1 cu0_1_0 cu0_1_1 zu0_2 cu0_2_0 cu0_2_1 zu0_3 cu0_3_0 cu0_3_1 zu0_4 cu0_4_0 cu0_4_1 cu0_4_2 cu0_4_3 cu0_4_4 cu0_4_5 cu0_4_6 cu0_4_7 zu0_5 cu0_5_0 fu0_5_0 cu0_5_1 fu0_5_1 cu0_5_2 fu0_5_2 cu0_5_3 fu0_5_3 cu0_5_4 fu0_5_4 cu0_5_5 fu0_5_5 cu0_5_6 fu0_5_6 cu0_5_7 fu0_5_7
  go_wp2_with fail
  go_at_call 14
  refine ((HR0.out _)).mono ?_
  rintro e w0 ⟨rfl, hw0⟩
  have cw0_0_0 : w0.cell? ⟨W.heap.size, 0, none⟩ = some (.int .i64 ax) := cell_gr hw0 (by go_simp)
  have cw0_0_1 : w0.cell? ⟨W.heap.size, 1, none⟩ = some (.int .i64 ay) := cell_gr hw0 (by go_simp)
  have zw0_0 : W.heap.size < w0.heap.size := World.block_lt_of_cell? _ _ cw0_0_0
  have cw0_1_0 : w0.cell? ⟨W.heap.size + 1, 0, none⟩ = some (.int .i64 bx) := cell_gr hw0 (by go_simp)
  have cw0_1_1 : w0.cell? ⟨W.heap.size + 1, 1, none⟩ = some (.int .i64 by') := cell_gr hw0 (by go_simp)
  have zw0_1 : W.heap.size + 1 < w0.heap.size := World.block_lt_of_cell? _ _ cw0_1_0
  have cw0_2_0 : w0.cell? ⟨W.heap.size + 1 + 1, 0, none⟩ = some (.int .i64 cx) := cell_gr hw0 (by go_simp)
  have cw0_2_1 : w0.cell? ⟨W.heap.size + 1 + 1, 1, none⟩ = some (.int .i64 cy) := cell_gr hw0 (by go_simp)
  have zw0_2 : W.heap.size + 1 + 1 < w0.heap.size := World.block_lt_of_cell? _ _ cw0_2_0
  have cw0_3_0 : w0.cell? ⟨W.heap.size + 1 + 1 + 1, 0, none⟩ = some (.int .i64 dx) := cell_gr hw0 (by go_simp)
  have cw0_3_1 : w0.cell? ⟨W.heap.size + 1 + 1 + 1, 1, none⟩ = some (.int .i64 dy) := cell_gr hw0 (by go_simp)
  have zw0_3 : W.heap.size + 1 + 1 + 1 < w0.heap.size := World.block_lt_of_cell? _ _ cw0_3_0
  have cw0_4_0 : w0.cell? ⟨W.heap.size + 1 + 1 + 1 + 1, 0, none⟩ = some (.int .i64 ax) := cell_gr hw0 (by go_simp)
  have cw0_4_1 : w0.cell? ⟨W.heap.size + 1 + 1 + 1 + 1, 1, none⟩ = some (.int .i64 ay) := cell_gr hw0 (by go_simp)
  have cw0_4_2 : w0.cell? ⟨W.heap.size + 1 + 1 + 1 + 1, 2, none⟩ = some (.int .i64 bx) := cell_gr hw0 (by go_simp)
  have cw0_4_3 : w0.cell? ⟨W.heap.size + 1 + 1 + 1 + 1, 3, none⟩ = some (.int .i64 by') := cell_gr hw0 (by go_simp)
  have cw0_4_4 : w0.cell? ⟨W.heap.size + 1 + 1 + 1 + 1, 4, none⟩ = some (.int .i64 cx) := cell_gr hw0 (by go_simp)
  have cw0_4_5 : w0.cell? ⟨W.heap.size + 1 + 1 + 1 + 1, 5, none⟩ = some (.int .i64 cy) := cell_gr hw0 (by go_simp)
  have cw0_4_6 : w0.cell? ⟨W.heap.size + 1 + 1 + 1 + 1, 6, none⟩ = some (.int .i64 dx) := cell_gr hw0 (by go_simp)
  have cw0_4_7 : w0.cell? ⟨W.heap.size + 1 + 1 + 1 + 1, 7, none⟩ = some (.int .i64 dy) := cell_gr hw0 (by go_simp)
  have zw0_4 : W.heap.size + 1 + 1 + 1 + 1 < w0.heap.size := World.block_lt_of_cell? _ _ cw0_4_0
  have cw0_5_0 : w0.cell? ⟨W.heap.size + 1 + 1 + 1 + 1 + 1, 0, none⟩ = some (.int .i64 max) := cell_gr hw0 (by go_simp)
  have fw0_5_0 : w0.frozen? ⟨W.heap.size + 1 + 1 + 1 + 1 + 1, 0, none⟩ = false := frozen_gr (v := .int .i64 max) hw0 (by go_simp) (by go_simp)
  have cw0_5_1 : w0.cell? ⟨W.heap.size + 1 + 1 + 1 + 1 + 1, 1, none⟩ = some (.int .i64 may) := cell_gr hw0 (by go_simp)
  have fw0_5_1 : w0.frozen? ⟨W.heap.size + 1 + 1 + 1 + 1 + 1, 1, none⟩ = false := frozen_gr (v := .int .i64 may) hw0 (by go_simp) (by go_simp)
  have cw0_5_2 : w0.cell? ⟨W.heap.size + 1 + 1 + 1 + 1 + 1, 2, none⟩ = some (.int .i64 bx) := cell_gr hw0 (by go_simp)
  have fw0_5_2 : w0.frozen? ⟨W.heap.size + 1 + 1 + 1 + 1 + 1, 2, none⟩ = false := frozen_gr (v := .int .i64 bx) hw0 (by go_simp) (by go_simp)
  have cw0_5_3 : w0.cell? ⟨W.heap.size + 1 + 1 + 1 + 1 + 1, 3, none⟩ = some (.int .i64 by') := cell_gr hw0 (by go_simp)
  have fw0_5_3 : w0.frozen? ⟨W.heap.size + 1 + 1 + 1 + 1 + 1, 3, none⟩ = false := frozen_gr (v := .int .i64 by') hw0 (by go_simp) (by go_simp)
  have cw0_5_4 : w0.cell? ⟨W.heap.size + 1 + 1 + 1 + 1 + 1, 4, none⟩ = some (.int .i64 cx) := cell_gr hw0 (by go_simp)
  have fw0_5_4 : w0.frozen? ⟨W.heap.size + 1 + 1 + 1 + 1 + 1, 4, none⟩ = false := frozen_gr (v := .int .i64 cx) hw0 (by go_simp) (by go_simp)
  have cw0_5_5 : w0.cell? ⟨W.heap.size + 1 + 1 + 1 + 1 + 1, 5, none⟩ = some (.int .i64 cy) := cell_gr hw0 (by go_simp)
  have fw0_5_5 : w0.frozen? ⟨W.heap.size + 1 + 1 + 1 + 1 + 1, 5, none⟩ = false := frozen_gr (v := .int .i64 cy) hw0 (by go_simp) (by go_simp)
  have cw0_5_6 : w0.cell? ⟨W.heap.size + 1 + 1 + 1 + 1 + 1, 6, none⟩ = some (.int .i64 dx) := cell_gr hw0 (by go_simp)
  have fw0_5_6 : w0.frozen? ⟨W.heap.size + 1 + 1 + 1 + 1 + 1, 6, none⟩ = false := frozen_gr (v := .int .i64 dx) hw0 (by go_simp) (by go_simp)
  have cw0_5_7 : w0.cell? ⟨W.heap.size + 1 + 1 + 1 + 1 + 1, 7, none⟩ = some (.int .i64 dy) := cell_gr hw0 (by go_simp)
  have fw0_5_7 : w0.frozen? ⟨W.heap.size + 1 + 1 + 1 + 1 + 1, 7, none⟩ = false := frozen_gr (v := .int .i64 dy) hw0 (by go_simp) (by go_simp)
  have zw0_5 : W.heap.size + 1 + 1 + 1 + 1 + 1 < w0.heap.size := World.block_lt_of_cell? _ _ cw0_5_0
  have gw0 : Gr W w0 := Gr.trans (by have gg := gv0; have gs := gg.size; go_grown) hw0
  clear hw0 gv0 zv0_0 cv0_0_0 cv0_0_1 zv0_1 cv0_1_0 cv0_1_1 zv0_2 cv0_2_0 cv0_2_1 zv0_3 cv0_3_0 cv0_3_1 zv0_4 cv0_4_0 cv0_4_1 cv0_4_2 cv0_4_3 cv0_4_4 cv0_4_5 cv0_4_6 cv0_4_7 zv0_5 cv0_5_0 fv0_5_0 cv0_5_1 fv0_5_1 cv0_5_2 fv0_5_2 cv0_5_3 fv0_5_3 cv0_5_4 fv0_5_4 cv0_5_5 fv0_5_5 cv0_5_6 fv0_5_6 cv0_5_7 fv0_5_7
  go_wp2_with fail
  rw [rounds_succ]
  go_wp2_with fail
  go_at_call 14
  refine ((HA1.out _)).mono ?_
  rintro e u1 ⟨rfl, hu1⟩
  have cu1_0_0 : u1.cell? ⟨W.heap.size, 0, none⟩ = some (.int .i64 ax) := cell_gr hu1 (by go_simp)
  have cu1_0_1 : u1.cell? ⟨W.heap.size, 1, none⟩ = some (.int .i64 ay) := cell_gr hu1 (by go_simp)
  have zu1_0 : W.heap.size < u1.heap.size := World.block_lt_of_cell? _ _ cu1_0_0
  have cu1_1_0 : u1.cell? ⟨W.heap.size + 1, 0, none⟩ = some (.int .i64 bx) := cell_gr hu1 (by go_simp)
  have cu1_1_1 : u1.cell? ⟨W.heap.size + 1, 1, none⟩ = some (.int .i64 by') := cell_gr hu1 (by go_simp)
  have zu1_1 : W.heap.size + 1 < u1.heap.size := World.block_lt_of_cell? _ _ cu1_1_0
  have cu1_2_0 : u1.cell? ⟨W.heap.size + 1 + 1, 0, none⟩ = some (.int .i64 cx) := cell_gr hu1 (by go_simp)
  have cu1_2_1 : u1.cell? ⟨W.heap.size + 1 + 1, 1, none⟩ = some (.int .i64 cy) := cell_gr hu1 (by go_simp)
  have zu1_2 : W.heap.size + 1 + 1 < u1.heap.size := World.block_lt_of_cell? _ _ cu1_2_0
  have cu1_3_0 : u1.cell? ⟨W.heap.size + 1 + 1 + 1, 0, none⟩ = some (.int .i64 dx) := cell_gr hu1 (by go_simp)
  have cu1_3_1 : u1.cell? ⟨W.heap.size + 1 + 1 + 1, 1, none⟩ = some (.int .i64 dy) := cell_gr hu1 (by go_simp)
  have zu1_3 : W.heap.size + 1 + 1 + 1 < u1.heap.size := World.block_lt_of_cell? _ _ cu1_3_0
  have cu1_4_0 : u1.cell? ⟨W.heap.size + 1 + 1 + 1 + 1, 0, none⟩ = some (.int .i64 ax) := cell_gr hu1 (by go_simp)
  have cu1_4_1 : u1.cell? ⟨W.heap.size + 1 + 1 + 1 + 1, 1, none⟩ = some (.int .i64 ay) := cell_gr hu1 (by go_simp)
  have cu1_4_2 : u1.cell? ⟨W.heap.size + 1 + 1 + 1 + 1, 2, none⟩ = some (.int .i64 bx) := cell_gr hu1 (by go_simp)
  have cu1_4_3 : u1.cell? ⟨W.heap.size + 1 + 1 + 1 + 1, 3, none⟩ = some (.int .i64 by') := cell_gr hu1 (by go_simp)
  have cu1_4_4 : u1.cell? ⟨W.heap.size + 1 + 1 + 1 + 1, 4, none⟩ = some (.int .i64 cx) := cell_gr hu1 (by go_simp)
  have cu1_4_5 : u1.cell? ⟨W.heap.size + 1 + 1 + 1 + 1, 5, none⟩ = some (.int .i64 cy) := cell_gr hu1 (by go_simp)
  have cu1_4_6 : u1.cell? ⟨W.heap.size + 1 + 1 + 1 + 1, 6, none⟩ = some (.int .i64 dx) := cell_gr hu1 (by go_simp)
  have cu1_4_7 : u1.cell? ⟨W.heap.size + 1 + 1 + 1 + 1, 7, none⟩ = some (.int .i64 dy) := cell_gr hu1 (by go_simp)
  have zu1_4 : W.heap.size + 1 + 1 + 1 + 1 < u1.heap.size := World.block_lt_of_cell? _ _ cu1_4_0
  have cu1_5_0 : u1.cell? ⟨W.heap.size + 1 + 1 + 1 + 1 + 1, 0, none⟩ = some (.int .i64 max) := cell_gr hu1 (by go_simp)
  have fu1_5_0 : u1.frozen? ⟨W.heap.size + 1 + 1 + 1 + 1 + 1, 0, none⟩ = false := frozen_gr (v := .int .i64 max) hu1 (by go_simp) (by go_simp)
  have cu1_5_1 : u1.cell? ⟨W.heap.size + 1 + 1 + 1 + 1 + 1, 1, none⟩ = some (.int .i64 may) := cell_gr hu1 (by go_simp)
  have fu1_5_1 : u1.frozen? ⟨W.heap.size + 1 + 1 + 1 + 1 + 1, 1, none⟩ = false := frozen_gr (v := .int .i64 may) hu1 (by go_simp) (by go_simp)
  have cu1_5_2 : u1.cell? ⟨W.heap.size + 1 + 1 + 1 + 1 + 1, 2, none⟩ = some (.int .i64 bx) := cell_gr hu1 (by go_simp)
  have fu1_5_2 : u1.frozen? ⟨W.heap.size + 1 + 1 + 1 + 1 + 1, 2, none⟩ = false := frozen_gr (v := .int .i64 bx) hu1 (by go_simp) (by go_simp)
  have cu1_5_3 : u1.cell? ⟨W.heap.size + 1 + 1 + 1 + 1 + 1, 3, none⟩ = some (.int .i64 by') := cell_gr hu1 (by go_simp)
  have fu1_5_3 : u1.frozen? ⟨W.heap.size + 1 + 1 + 1 + 1 + 1, 3, none⟩ = false := frozen_gr (v := .int .i64 by') hu1 (by go_simp) (by go_simp)
  have cu1_5_4 : u1.cell? ⟨W.heap.size + 1 + 1 + 1 + 1 + 1, 4, none⟩ = some (.int .i64 cx) := cell_gr hu1 (by go_simp)
  have fu1_5_4 : u1.frozen? ⟨W.heap.size + 1 + 1 + 1 + 1 + 1, 4, none⟩ = false := frozen_gr (v := .int .i64 cx) hu1 (by go_simp) (by go_simp)
  have cu1_5_5 : u1.cell? ⟨W.heap.size + 1 + 1 + 1 + 1 + 1, 5, none⟩ = some (.int .i64 cy) := cell_gr hu1 (by go_simp)
  have fu1_5_5 : u1.frozen? ⟨W.heap.size + 1 + 1 + 1 + 1 + 1, 5, none⟩ = false := frozen_gr (v := .int .i64 cy) hu1 (by go_simp) (by go_simp)
  have cu1_5_6 : u1.cell? ⟨W.heap.size + 1 + 1 + 1 + 1 + 1, 6, none⟩ = some (.int .i64 dx) := cell_gr hu1 (by go_simp)
  have fu1_5_6 : u1.frozen? ⟨W.heap.size + 1 + 1 + 1 + 1 + 1, 6, none⟩ = false := frozen_gr (v := .int .i64 dx) hu1 (by go_simp) (by go_simp)
  have cu1_5_7 : u1.cell? ⟨W.heap.size + 1 + 1 + 1 + 1 + 1, 7, none⟩ = some (.int .i64 dy) := cell_gr hu1 (by go_simp)
  have fu1_5_7 : u1.frozen? ⟨W.heap.size + 1 + 1 + 1 + 1 + 1, 7, none⟩ = false := frozen_gr (v := .int .i64 dy) hu1 (by go_simp) (by go_simp)
  have zu1_5 : W.heap.size + 1 + 1 + 1 + 1 + 1 < u1.heap.size := World.block_lt_of_cell? _ _ cu1_5_0
  have gu1 : Gr W u1 := Gr.trans (by have gg := gw0; have gs := gg.size; go_grown) hu1
  clear hu1 gw0 zw0_0 cw0_0_0 cw0_0_1 zw0_1 cw0_1_0 cw0_1_1 zw0_2 cw0_2_0 cw0_2_1 zw0_3 cw0_3_0 cw0_3_1 zw0_4 cw0_4_0 cw0_4_1 cw0_4_2 cw0_4_3 cw0_4_4 cw0_4_5 cw0_4_6 cw0_4_7 zw0_5 cw0_5_0 fw0_5_0 cw0_5_1 fw0_5_1 cw0_5_2 fw0_5_2 cw0_5_3 fw0_5_3 cw0_5_4 fw0_5_4 cw0_5_5 fw0_5_5 cw0_5_6 fw0_5_6 cw0_5_7 fw0_5_7
  go_wp2_with fail
  refine Hd.wp_region_tail 18 (by kernel_rfl) (by kernel_rfl) ?_
  intro KQ hKQ
  repeat (first | (refine Hd.wpG_skip (by decide) rfl ?_; simp only [Act.put, List.setIfInBounds_toArray, List.set_cons_zero, List.set_cons_succ]) | (refine Hd.wpG_want (by decide) rfl ?_; apply Exists.intro; refine ⟨?_, ?_⟩; (· intro wx gx; (obtain ⟨mx, rfl⟩ := gx); all_goals (apply Hd.gAt_of_quiet; intro K hK; go_big_quiet_op; first | exact hK _ rfl | (apply Exists.intro; refine ⟨fun _ => ?_, ?_⟩; (· fail); exact hK _ rfl))); try simp only [Act.put, List.setIfInBounds_toArray, List.set_cons_zero, List.set_cons_succ]))
  refine Hd.wpG_nil (hKQ _ ?_)
  clear hKQ KQ
  intro v1 hhv1
  have hv1 := Hd.gr_of_spread hhv1
  have cv1_0_0 : v1.cell? ⟨W.heap.size, 0, none⟩ = some (.int .i64 ax) := cell_gr hv1 (by go_simp)
  have cv1_0_1 : v1.cell? ⟨W.heap.size, 1, none⟩ = some (.int .i64 ay) := cell_gr hv1 (by go_simp)
  have zv1_0 : W.heap.size < v1.heap.size := World.block_lt_of_cell? _ _ cv1_0_0
  have cv1_1_0 : v1.cell? ⟨W.heap.size + 1, 0, none⟩ = some (.int .i64 bx) := cell_gr hv1 (by go_simp)
  have cv1_1_1 : v1.cell? ⟨W.heap.size + 1, 1, none⟩ = some (.int .i64 by') := cell_gr hv1 (by go_simp)
  have zv1_1 : W.heap.size + 1 < v1.heap.size := World.block_lt_of_cell? _ _ cv1_1_0
  have cv1_2_0 : v1.cell? ⟨W.heap.size + 1 + 1, 0, none⟩ = some (.int .i64 cx) := cell_gr hv1 (by go_simp)
  have cv1_2_1 : v1.cell? ⟨W.heap.size + 1 + 1, 1, none⟩ = some (.int .i64 cy) := cell_gr hv1 (by go_simp)
  have zv1_2 : W.heap.size + 1 + 1 < v1.heap.size := World.block_lt_of_cell? _ _ cv1_2_0
  have cv1_3_0 : v1.cell? ⟨W.heap.size + 1 + 1 + 1, 0, none⟩ = some (.int .i64 dx) := cell_gr hv1 (by go_simp)
  have cv1_3_1 : v1.cell? ⟨W.heap.size + 1 + 1 + 1, 1, none⟩ = some (.int .i64 dy) := cell_gr hv1 (by go_simp)
  have zv1_3 : W.heap.size + 1 + 1 + 1 < v1.heap.size := World.block_lt_of_cell? _ _ cv1_3_0
  have cv1_4_0 : v1.cell? ⟨W.heap.size + 1 + 1 + 1 + 1, 0, none⟩ = some (.int .i64 ax) := cell_gr hv1 (by go_simp)
  have cv1_4_1 : v1.cell? ⟨W.heap.size + 1 + 1 + 1 + 1, 1, none⟩ = some (.int .i64 ay) := cell_gr hv1 (by go_simp)
  have cv1_4_2 : v1.cell? ⟨W.heap.size + 1 + 1 + 1 + 1, 2, none⟩ = some (.int .i64 bx) := cell_gr hv1 (by go_simp)
  have cv1_4_3 : v1.cell? ⟨W.heap.size + 1 + 1 + 1 + 1, 3, none⟩ = some (.int .i64 by') := cell_gr hv1 (by go_simp)
  have cv1_4_4 : v1.cell? ⟨W.heap.size + 1 + 1 + 1 + 1, 4, none⟩ = some (.int .i64 cx) := cell_gr hv1 (by go_simp)
  have cv1_4_5 : v1.cell? ⟨W.heap.size + 1 + 1 + 1 + 1, 5, none⟩ = some (.int .i64 cy) := cell_gr hv1 (by go_simp)
  have cv1_4_6 : v1.cell? ⟨W.heap.size + 1 + 1 + 1 + 1, 6, none⟩ = some (.int .i64 dx) := cell_gr hv1 (by go_simp)
  have cv1_4_7 : v1.cell? ⟨W.heap.size + 1 + 1 + 1 + 1, 7, none⟩ = some (.int .i64 dy) := cell_gr hv1 (by go_simp)
  have zv1_4 : W.heap.size + 1 + 1 + 1 + 1 < v1.heap.size := World.block_lt_of_cell? _ _ cv1_4_0
  have cv1_5_0 : v1.cell? ⟨W.heap.size + 1 + 1 + 1 + 1 + 1, 0, none⟩ = some (.int .i64 max) := cell_gr hv1 (by go_simp)
  have fv1_5_0 : v1.frozen? ⟨W.heap.size + 1 + 1 + 1 + 1 + 1, 0, none⟩ = false := frozen_gr (v := .int .i64 max) hv1 (by go_simp) (by go_simp)
  have cv1_5_1 : v1.cell? ⟨W.heap.size + 1 + 1 + 1 + 1 + 1, 1, none⟩ = some (.int .i64 may) := cell_gr hv1 (by go_simp)
  have fv1_5_1 : v1.frozen? ⟨W.heap.size + 1 + 1 + 1 + 1 + 1, 1, none⟩ = false := frozen_gr (v := .int .i64 may) hv1 (by go_simp) (by go_simp)
  have cv1_5_2 : v1.cell? ⟨W.heap.size + 1 + 1 + 1 + 1 + 1, 2, none⟩ = some (.int .i64 bx) := cell_gr hv1 (by go_simp)
  have fv1_5_2 : v1.frozen? ⟨W.heap.size + 1 + 1 + 1 + 1 + 1, 2, none⟩ = false := frozen_gr (v := .int .i64 bx) hv1 (by go_simp) (by go_simp)
  have cv1_5_3 : v1.cell? ⟨W.heap.size + 1 + 1 + 1 + 1 + 1, 3, none⟩ = some (.int .i64 by') := cell_gr hv1 (by go_simp)
  have fv1_5_3 : v1.frozen? ⟨W.heap.size + 1 + 1 + 1 + 1 + 1, 3, none⟩ = false := frozen_gr (v := .int .i64 by') hv1 (by go_simp) (by go_simp)
  have cv1_5_4 : v1.cell? ⟨W.heap.size + 1 + 1 + 1 + 1 + 1, 4, none⟩ = some (.int .i64 cx) := cell_gr hv1 (by go_simp)
  have fv1_5_4 : v1.frozen? ⟨W.heap.size + 1 + 1 + 1 + 1 + 1, 4, none⟩ = false := frozen_gr (v := .int .i64 cx) hv1 (by go_simp) (by go_simp)
  have cv1_5_5 : v1.cell? ⟨W.heap.size + 1 + 1 + 1 + 1 + 1, 5, none⟩ = some (.int .i64 cy) := cell_gr hv1 (by go_simp)
  have fv1_5_5 : v1.frozen? ⟨W.heap.size + 1 + 1 + 1 + 1 + 1, 5, none⟩ = false := frozen_gr (v := .int .i64 cy) hv1 (by go_simp) (by go_simp)
  have cv1_5_6 : v1.cell? ⟨W.heap.size + 1 + 1 + 1 + 1 + 1, 6, none⟩ = some (.int .i64 dx) := cell_gr hv1 (by go_simp)
  have fv1_5_6 : v1.frozen? ⟨W.heap.size + 1 + 1 + 1 + 1 + 1, 6, none⟩ = false := frozen_gr (v := .int .i64 dx) hv1 (by go_simp) (by go_simp)
  have cv1_5_7 : v1.cell? ⟨W.heap.size + 1 + 1 + 1 + 1 + 1, 7, none⟩ = some (.int .i64 dy) := cell_gr hv1 (by go_simp)
  have fv1_5_7 : v1.frozen? ⟨W.heap.size + 1 + 1 + 1 + 1 + 1, 7, none⟩ = false := frozen_gr (v := .int .i64 dy) hv1 (by go_simp) (by go_simp)
  have zv1_5 : W.heap.size + 1 + 1 + 1 + 1 + 1 < v1.heap.size := World.block_lt_of_cell? _ _ cv1_5_0
  have gv1 : Gr W v1 := Gr.trans (by have gg := gu1; have gs := gg.size; go_grown) hv1
  clear hv1 hhv1 gu1 zu1_0 cu1_0_0 cu1_0_1 zu1_1 cu1_1_0 cu1_1_1 zu1_2 cu1_2_0 cu1_2_1 zu1_3 cu1_3_0 cu1_3_1 zu1_4 cu1_4_0 cu1_4_1 cu1_4_2 cu1_4_3 cu1_4_4 cu1_4_5 cu1_4_6 cu1_4_7 zu1_5 cu1_5_0 fu1_5_0 cu1_5_1 fu1_5_1 cu1_5_2 fu1_5_2 cu1_5_3 fu1_5_3 cu1_5_4 fu1_5_4 cu1_5_5 fu1_5_5 cu1_5_6 fu1_5_6 cu1_5_7 fu1_5_7
  go_wp2_with fail
  go_at_call 14
  refine ((HR1.out _)).mono ?_
  rintro e w1 ⟨rfl, hw1⟩
  have cw1_0_0 : w1.cell? ⟨W.heap.size, 0, none⟩ = some (.int .i64 ax) := cell_gr hw1 (by go_simp)
  have cw1_0_1 : w1.cell? ⟨W.heap.size, 1, none⟩ = some (.int .i64 ay) := cell_gr hw1 (by go_simp)
  have zw1_0 : W.heap.size < w1.heap.size := World.block_lt_of_cell? _ _ cw1_0_0
  have cw1_1_0 : w1.cell? ⟨W.heap.size + 1, 0, none⟩ = some (.int .i64 bx) := cell_gr hw1 (by go_simp)
  have cw1_1_1 : w1.cell? ⟨W.heap.size + 1, 1, none⟩ = some (.int .i64 by') := cell_gr hw1 (by go_simp)
  have zw1_1 : W.heap.size + 1 < w1.heap.size := World.block_lt_of_cell? _ _ cw1_1_0
  have cw1_2_0 : w1.cell? ⟨W.heap.size + 1 + 1, 0, none⟩ = some (.int .i64 cx) := cell_gr hw1 (by go_simp)
  have cw1_2_1 : w1.cell? ⟨W.heap.size + 1 + 1, 1, none⟩ = some (.int .i64 cy) := cell_gr hw1 (by go_simp)
  have zw1_2 : W.heap.size + 1 + 1 < w1.heap.size := World.block_lt_of_cell? _ _ cw1_2_0
  have cw1_3_0 : w1.cell? ⟨W.heap.size + 1 + 1 + 1, 0, none⟩ = some (.int .i64 dx) := cell_gr hw1 (by go_simp)
  have cw1_3_1 : w1.cell? ⟨W.heap.size + 1 + 1 + 1, 1, none⟩ = some (.int .i64 dy) := cell_gr hw1 (by go_simp)
  have zw1_3 : W.heap.size + 1 + 1 + 1 < w1.heap.size := World.block_lt_of_cell? _ _ cw1_3_0
  have cw1_4_0 : w1.cell? ⟨W.heap.size + 1 + 1 + 1 + 1, 0, none⟩ = some (.int .i64 ax) := cell_gr hw1 (by go_simp)
  have cw1_4_1 : w1.cell? ⟨W.heap.size + 1 + 1 + 1 + 1, 1, none⟩ = some (.int .i64 ay) := cell_gr hw1 (by go_simp)
  have cw1_4_2 : w1.cell? ⟨W.heap.size + 1 + 1 + 1 + 1, 2, none⟩ = some (.int .i64 bx) := cell_gr hw1 (by go_simp)
  have cw1_4_3 : w1.cell? ⟨W.heap.size + 1 + 1 + 1 + 1, 3, none⟩ = some (.int .i64 by') := cell_gr hw1 (by go_simp)
  have cw1_4_4 : w1.cell? ⟨W.heap.size + 1 + 1 + 1 + 1, 4, none⟩ = some (.int .i64 cx) := cell_gr hw1 (by go_simp)
  have cw1_4_5 : w1.cell? ⟨W.heap.size + 1 + 1 + 1 + 1, 5, none⟩ = some (.int .i64 cy) := cell_gr hw1 (by go_simp)
  have cw1_4_6 : w1.cell? ⟨W.heap.size + 1 + 1 + 1 + 1, 6, none⟩ = some (.int .i64 dx) := cell_gr hw1 (by go_simp)
  have cw1_4_7 : w1.cell? ⟨W.heap.size + 1 + 1 + 1 + 1, 7, none⟩ = some (.int .i64 dy) := cell_gr hw1 (by go_simp)
  have zw1_4 : W.heap.size + 1 + 1 + 1 + 1 < w1.heap.size := World.block_lt_of_cell? _ _ cw1_4_0
  have cw1_5_0 : w1.cell? ⟨W.heap.size + 1 + 1 + 1 + 1 + 1, 0, none⟩ = some (.int .i64 max) := cell_gr hw1 (by go_simp)
  have fw1_5_0 : w1.frozen? ⟨W.heap.size + 1 + 1 + 1 + 1 + 1, 0, none⟩ = false := frozen_gr (v := .int .i64 max) hw1 (by go_simp) (by go_simp)
  have cw1_5_1 : w1.cell? ⟨W.heap.size + 1 + 1 + 1 + 1 + 1, 1, none⟩ = some (.int .i64 may) := cell_gr hw1 (by go_simp)
  have fw1_5_1 : w1.frozen? ⟨W.heap.size + 1 + 1 + 1 + 1 + 1, 1, none⟩ = false := frozen_gr (v := .int .i64 may) hw1 (by go_simp) (by go_simp)
  have cw1_5_2 : w1.cell? ⟨W.heap.size + 1 + 1 + 1 + 1 + 1, 2, none⟩ = some (.int .i64 mbx) := cell_gr hw1 (by go_simp)
  have fw1_5_2 : w1.frozen? ⟨W.heap.size + 1 + 1 + 1 + 1 + 1, 2, none⟩ = false := frozen_gr (v := .int .i64 mbx) hw1 (by go_simp) (by go_simp)
  have cw1_5_3 : w1.cell? ⟨W.heap.size + 1 + 1 + 1 + 1 + 1, 3, none⟩ = some (.int .i64 mby) := cell_gr hw1 (by go_simp)
  have fw1_5_3 : w1.frozen? ⟨W.heap.size + 1 + 1 + 1 + 1 + 1, 3, none⟩ = false := frozen_gr (v := .int .i64 mby) hw1 (by go_simp) (by go_simp)
  have cw1_5_4 : w1.cell? ⟨W.heap.size + 1 + 1 + 1 + 1 + 1, 4, none⟩ = some (.int .i64 cx) := cell_gr hw1 (by go_simp)
  have fw1_5_4 : w1.frozen? ⟨W.heap.size + 1 + 1 + 1 + 1 + 1, 4, none⟩ = false := frozen_gr (v := .int .i64 cx) hw1 (by go_simp) (by go_simp)
  have cw1_5_5 : w1.cell? ⟨W.heap.size + 1 + 1 + 1 + 1 + 1, 5, none⟩ = some (.int .i64 cy) := cell_gr hw1 (by go_simp)
  have fw1_5_5 : w1.frozen? ⟨W.heap.size + 1 + 1 + 1 + 1 + 1, 5, none⟩ = false := frozen_gr (v := .int .i64 cy) hw1 (by go_simp) (by go_simp)
  have cw1_5_6 : w1.cell? ⟨W.heap.size + 1 + 1 + 1 + 1 + 1, 6, none⟩ = some (.int .i64 dx) := cell_gr hw1 (by go_simp)
  have fw1_5_6 : w1.frozen? ⟨W.heap.size + 1 + 1 + 1 + 1 + 1, 6, none⟩ = false := frozen_gr (v := .int .i64 dx) hw1 (by go_simp) (by go_simp)
  have cw1_5_7 : w1.cell? ⟨W.heap.size + 1 + 1 + 1 + 1 + 1, 7, none⟩ = some (.int .i64 dy) := cell_gr hw1 (by go_simp)
  have fw1_5_7 : w1.frozen? ⟨W.heap.size + 1 + 1 + 1 + 1 + 1, 7, none⟩ = false := frozen_gr (v := .int .i64 dy) hw1 (by go_simp) (by go_simp)
  have zw1_5 : W.heap.size + 1 + 1 + 1 + 1 + 1 < w1.heap.size := World.block_lt_of_cell? _ _ cw1_5_0
  have gw1 : Gr W w1 := Gr.trans (by have gg := gv1; have gs := gg.size; go_grown) hw1
  clear hw1 gv1 zv1_0 cv1_0_0 cv1_0_1 zv1_1 cv1_1_0 cv1_1_1 zv1_2 cv1_2_0 cv1_2_1 zv1_3 cv1_3_0 cv1_3_1 zv1_4 cv1_4_0 cv1_4_1 cv1_4_2 cv1_4_3 cv1_4_4 cv1_4_5 cv1_4_6 cv1_4_7 zv1_5 cv1_5_0 fv1_5_0 cv1_5_1 fv1_5_1 cv1_5_2 fv1_5_2 cv1_5_3 fv1_5_3 cv1_5_4 fv1_5_4 cv1_5_5 fv1_5_5 cv1_5_6 fv1_5_6 cv1_5_7 fv1_5_7
  go_wp2_with fail
  rw [rounds_succ]
  go_wp2_with fail
  go_at_call 14
  refine ((HA2.out _)).mono ?_
  rintro e u2 ⟨rfl, hu2⟩
  have cu2_0_0 : u2.cell? ⟨W.heap.size, 0, none⟩ = some (.int .i64 ax) := cell_gr hu2 (by go_simp)
  have cu2_0_1 : u2.cell? ⟨W.heap.size, 1, none⟩ = some (.int .i64 ay) := cell_gr hu2 (by go_simp)
  have zu2_0 : W.heap.size < u2.heap.size := World.block_lt_of_cell? _ _ cu2_0_0
  have cu2_1_0 : u2.cell? ⟨W.heap.size + 1, 0, none⟩ = some (.int .i64 bx) := cell_gr hu2 (by go_simp)
  have cu2_1_1 : u2.cell? ⟨W.heap.size + 1, 1, none⟩ = some (.int .i64 by') := cell_gr hu2 (by go_simp)
  have zu2_1 : W.heap.size + 1 < u2.heap.size := World.block_lt_of_cell? _ _ cu2_1_0
  have cu2_2_0 : u2.cell? ⟨W.heap.size + 1 + 1, 0, none⟩ = some (.int .i64 cx) := cell_gr hu2 (by go_simp)
  have cu2_2_1 : u2.cell? ⟨W.heap.size + 1 + 1, 1, none⟩ = some (.int .i64 cy) := cell_gr hu2 (by go_simp)
  have zu2_2 : W.heap.size + 1 + 1 < u2.heap.size := World.block_lt_of_cell? _ _ cu2_2_0
  have cu2_3_0 : u2.cell? ⟨W.heap.size + 1 + 1 + 1, 0, none⟩ = some (.int .i64 dx) := cell_gr hu2 (by go_simp)
  have cu2_3_1 : u2.cell? ⟨W.heap.size + 1 + 1 + 1, 1, none⟩ = some (.int .i64 dy) := cell_gr hu2 (by go_simp)
  have zu2_3 : W.heap.size + 1 + 1 + 1 < u2.heap.size := World.block_lt_of_cell? _ _ cu2_3_0
  have cu2_4_0 : u2.cell? ⟨W.heap.size + 1 + 1 + 1 + 1, 0, none⟩ = some (.int .i64 ax) := cell_gr hu2 (by go_simp)
  have cu2_4_1 : u2.cell? ⟨W.heap.size + 1 + 1 + 1 + 1, 1, none⟩ = some (.int .i64 ay) := cell_gr hu2 (by go_simp)
  have cu2_4_2 : u2.cell? ⟨W.heap.size + 1 + 1 + 1 + 1, 2, none⟩ = some (.int .i64 bx) := cell_gr hu2 (by go_simp)
  have cu2_4_3 : u2.cell? ⟨W.heap.size + 1 + 1 + 1 + 1, 3, none⟩ = some (.int .i64 by') := cell_gr hu2 (by go_simp)
  have cu2_4_4 : u2.cell? ⟨W.heap.size + 1 + 1 + 1 + 1, 4, none⟩ = some (.int .i64 cx) := cell_gr hu2 (by go_simp)
  have cu2_4_5 : u2.cell? ⟨W.heap.size + 1 + 1 + 1 + 1, 5, none⟩ = some (.int .i64 cy) := cell_gr hu2 (by go_simp)
  have cu2_4_6 : u2.cell? ⟨W.heap.size + 1 + 1 + 1 + 1, 6, none⟩ = some (.int .i64 dx) := cell_gr hu2 (by go_simp)
  have cu2_4_7 : u2.cell? ⟨W.heap.size + 1 + 1 + 1 + 1, 7, none⟩ = some (.int .i64 dy) := cell_gr hu2 (by go_simp)
  have zu2_4 : W.heap.size + 1 + 1 + 1 + 1 < u2.heap.size := World.block_lt_of_cell? _ _ cu2_4_0
  have cu2_5_0 : u2.cell? ⟨W.heap.size + 1 + 1 + 1 + 1 + 1, 0, none⟩ = some (.int .i64 max) := cell_gr hu2 (by go_simp)
  have fu2_5_0 : u2.frozen? ⟨W.heap.size + 1 + 1 + 1 + 1 + 1, 0, none⟩ = false := frozen_gr (v := .int .i64 max) hu2 (by go_simp) (by go_simp)
  have cu2_5_1 : u2.cell? ⟨W.heap.size + 1 + 1 + 1 + 1 + 1, 1, none⟩ = some (.int .i64 may) := cell_gr hu2 (by go_simp)
  have fu2_5_1 : u2.frozen? ⟨W.heap.size + 1 + 1 + 1 + 1 + 1, 1, none⟩ = false := frozen_gr (v := .int .i64 may) hu2 (by go_simp) (by go_simp)
  have cu2_5_2 : u2.cell? ⟨W.heap.size + 1 + 1 + 1 + 1 + 1, 2, none⟩ = some (.int .i64 mbx) := cell_gr hu2 (by go_simp)
  have fu2_5_2 : u2.frozen? ⟨W.heap.size + 1 + 1 + 1 + 1 + 1, 2, none⟩ = false := frozen_gr (v := .int .i64 mbx) hu2 (by go_simp) (by go_simp)
  have cu2_5_3 : u2.cell? ⟨W.heap.size + 1 + 1 + 1 + 1 + 1, 3, none⟩ = some (.int .i64 mby) := cell_gr hu2 (by go_simp)
  have fu2_5_3 : u2.frozen? ⟨W.heap.size + 1 + 1 + 1 + 1 + 1, 3, none⟩ = false := frozen_gr (v := .int .i64 mby) hu2 (by go_simp) (by go_simp)
  have cu2_5_4 : u2.cell? ⟨W.heap.size + 1 + 1 + 1 + 1 + 1, 4, none⟩ = some (.int .i64 cx) := cell_gr hu2 (by go_simp)
  have fu2_5_4 : u2.frozen? ⟨W.heap.size + 1 + 1 + 1 + 1 + 1, 4, none⟩ = false := frozen_gr (v := .int .i64 cx) hu2 (by go_simp) (by go_simp)
  have cu2_5_5 : u2.cell? ⟨W.heap.size + 1 + 1 + 1 + 1 + 1, 5, none⟩ = some (.int .i64 cy) := cell_gr hu2 (by go_simp)
  have fu2_5_5 : u2.frozen? ⟨W.heap.size + 1 + 1 + 1 + 1 + 1, 5, none⟩ = false := frozen_gr (v := .int .i64 cy) hu2 (by go_simp) (by go_simp)
  have cu2_5_6 : u2.cell? ⟨W.heap.size + 1 + 1 + 1 + 1 + 1, 6, none⟩ = some (.int .i64 dx) := cell_gr hu2 (by go_simp)
  have fu2_5_6 : u2.frozen? ⟨W.heap.size + 1 + 1 + 1 + 1 + 1, 6, none⟩ = false := frozen_gr (v := .int .i64 dx) hu2 (by go_simp) (by go_simp)
  have cu2_5_7 : u2.cell? ⟨W.heap.size + 1 + 1 + 1 + 1 + 1, 7, none⟩ = some (.int .i64 dy) := cell_gr hu2 (by go_simp)
  have fu2_5_7 : u2.frozen? ⟨W.heap.size + 1 + 1 + 1 + 1 + 1, 7, none⟩ = false := frozen_gr (v := .int .i64 dy) hu2 (by go_simp) (by go_simp)
  have zu2_5 : W.heap.size + 1 + 1 + 1 + 1 + 1 < u2.heap.size := World.block_lt_of_cell? _ _ cu2_5_0
  have gu2 : Gr W u2 := Gr.trans (by have gg := gw1; have gs := gg.size; go_grown) hu2
  clear hu2 gw1 zw1_0 cw1_0_0 cw1_0_1 zw1_1 cw1_1_0 cw1_1_1 zw1_2 cw1_2_0 cw1_2_1 zw1_3 cw1_3_0 cw1_3_1 zw1_4 cw1_4_0 cw1_4_1 cw1_4_2 cw1_4_3 cw1_4_4 cw1_4_5 cw1_4_6 cw1_4_7 zw1_5 cw1_5_0 fw1_5_0 cw1_5_1 fw1_5_1 cw1_5_2 fw1_5_2 cw1_5_3 fw1_5_3 cw1_5_4 fw1_5_4 cw1_5_5 fw1_5_5 cw1_5_6 fw1_5_6 cw1_5_7 fw1_5_7
  go_wp2_with fail
  refine Hd.wp_region_tail 18 (by kernel_rfl) (by kernel_rfl) ?_
  intro KQ hKQ
  repeat (first | (refine Hd.wpG_skip (by decide) rfl ?_; simp only [Act.put, List.setIfInBounds_toArray, List.set_cons_zero, List.set_cons_succ]) | (refine Hd.wpG_want (by decide) rfl ?_; apply Exists.intro; refine ⟨?_, ?_⟩; (· intro wx gx; (obtain ⟨mx, rfl⟩ := gx); all_goals (apply Hd.gAt_of_quiet; intro K hK; go_big_quiet_op; first | exact hK _ rfl | (apply Exists.intro; refine ⟨fun _ => ?_, ?_⟩; (· fail); exact hK _ rfl))); try simp only [Act.put, List.setIfInBounds_toArray, List.set_cons_zero, List.set_cons_succ]))
  refine Hd.wpG_nil (hKQ _ ?_)
  clear hKQ KQ
  intro v2 hhv2
  have hv2 := Hd.gr_of_spread hhv2
  have cv2_0_0 : v2.cell? ⟨W.heap.size, 0, none⟩ = some (.int .i64 ax) := cell_gr hv2 (by go_simp)
  have cv2_0_1 : v2.cell? ⟨W.heap.size, 1, none⟩ = some (.int .i64 ay) := cell_gr hv2 (by go_simp)
  have zv2_0 : W.heap.size < v2.heap.size := World.block_lt_of_cell? _ _ cv2_0_0
  have cv2_1_0 : v2.cell? ⟨W.heap.size + 1, 0, none⟩ = some (.int .i64 bx) := cell_gr hv2 (by go_simp)
  have cv2_1_1 : v2.cell? ⟨W.heap.size + 1, 1, none⟩ = some (.int .i64 by') := cell_gr hv2 (by go_simp)
  have zv2_1 : W.heap.size + 1 < v2.heap.size := World.block_lt_of_cell? _ _ cv2_1_0
  have cv2_2_0 : v2.cell? ⟨W.heap.size + 1 + 1, 0, none⟩ = some (.int .i64 cx) := cell_gr hv2 (by go_simp)
  have cv2_2_1 : v2.cell? ⟨W.heap.size + 1 + 1, 1, none⟩ = some (.int .i64 cy) := cell_gr hv2 (by go_simp)
  have zv2_2 : W.heap.size + 1 + 1 < v2.heap.size := World.block_lt_of_cell? _ _ cv2_2_0
  have cv2_3_0 : v2.cell? ⟨W.heap.size + 1 + 1 + 1, 0, none⟩ = some (.int .i64 dx) := cell_gr hv2 (by go_simp)
  have cv2_3_1 : v2.cell? ⟨W.heap.size + 1 + 1 + 1, 1, none⟩ = some (.int .i64 dy) := cell_gr hv2 (by go_simp)
  have zv2_3 : W.heap.size + 1 + 1 + 1 < v2.heap.size := World.block_lt_of_cell? _ _ cv2_3_0
  have cv2_4_0 : v2.cell? ⟨W.heap.size + 1 + 1 + 1 + 1, 0, none⟩ = some (.int .i64 ax) := cell_gr hv2 (by go_simp)
  have cv2_4_1 : v2.cell? ⟨W.heap.size + 1 + 1 + 1 + 1, 1, none⟩ = some (.int .i64 ay) := cell_gr hv2 (by go_simp)
  have cv2_4_2 : v2.cell? ⟨W.heap.size + 1 + 1 + 1 + 1, 2, none⟩ = some (.int .i64 bx) := cell_gr hv2 (by go_simp)
  have cv2_4_3 : v2.cell? ⟨W.heap.size + 1 + 1 + 1 + 1, 3, none⟩ = some (.int .i64 by') := cell_gr hv2 (by go_simp)
  have cv2_4_4 : v2.cell? ⟨W.heap.size + 1 + 1 + 1 + 1, 4, none⟩ = some (.int .i64 cx) := cell_gr hv2 (by go_simp)
  have cv2_4_5 : v2.cell? ⟨W.heap.size + 1 + 1 + 1 + 1, 5, none⟩ = some (.int .i64 cy) := cell_gr hv2 (by go_simp)
  have cv2_4_6 : v2.cell? ⟨W.heap.size + 1 + 1 + 1 + 1, 6, none⟩ = some (.int .i64 dx) := cell_gr hv2 (by go_simp)
  have cv2_4_7 : v2.cell? ⟨W.heap.size + 1 + 1 + 1 + 1, 7, none⟩ = some (.int .i64 dy) := cell_gr hv2 (by go_simp)
  have zv2_4 : W.heap.size + 1 + 1 + 1 + 1 < v2.heap.size := World.block_lt_of_cell? _ _ cv2_4_0
  have cv2_5_0 : v2.cell? ⟨W.heap.size + 1 + 1 + 1 + 1 + 1, 0, none⟩ = some (.int .i64 max) := cell_gr hv2 (by go_simp)
  have fv2_5_0 : v2.frozen? ⟨W.heap.size + 1 + 1 + 1 + 1 + 1, 0, none⟩ = false := frozen_gr (v := .int .i64 max) hv2 (by go_simp) (by go_simp)
  have cv2_5_1 : v2.cell? ⟨W.heap.size + 1 + 1 + 1 + 1 + 1, 1, none⟩ = some (.int .i64 may) := cell_gr hv2 (by go_simp)
  have fv2_5_1 : v2.frozen? ⟨W.heap.size + 1 + 1 + 1 + 1 + 1, 1, none⟩ = false := frozen_gr (v := .int .i64 may) hv2 (by go_simp) (by go_simp)
  have cv2_5_2 : v2.cell? ⟨W.heap.size + 1 + 1 + 1 + 1 + 1, 2, none⟩ = some (.int .i64 mbx) := cell_gr hv2 (by go_simp)
  have fv2_5_2 : v2.frozen? ⟨W.heap.size + 1 + 1 + 1 + 1 + 1, 2, none⟩ = false := frozen_gr (v := .int .i64 mbx) hv2 (by go_simp) (by go_simp)
  have cv2_5_3 : v2.cell? ⟨W.heap.size + 1 + 1 + 1 + 1 + 1, 3, none⟩ = some (.int .i64 mby) := cell_gr hv2 (by go_simp)
  have fv2_5_3 : v2.frozen? ⟨W.heap.size + 1 + 1 + 1 + 1 + 1, 3, none⟩ = false := frozen_gr (v := .int .i64 mby) hv2 (by go_simp) (by go_simp)
  have cv2_5_4 : v2.cell? ⟨W.heap.size + 1 + 1 + 1 + 1 + 1, 4, none⟩ = some (.int .i64 cx) := cell_gr hv2 (by go_simp)
  have fv2_5_4 : v2.frozen? ⟨W.heap.size + 1 + 1 + 1 + 1 + 1, 4, none⟩ = false := frozen_gr (v := .int .i64 cx) hv2 (by go_simp) (by go_simp)
  have cv2_5_5 : v2.cell? ⟨W.heap.size + 1 + 1 + 1 + 1 + 1, 5, none⟩ = some (.int .i64 cy) := cell_gr hv2 (by go_simp)
  have fv2_5_5 : v2.frozen? ⟨W.heap.size + 1 + 1 + 1 + 1 + 1, 5, none⟩ = false := frozen_gr (v := .int .i64 cy) hv2 (by go_simp) (by go_simp)
  have cv2_5_6 : v2.cell? ⟨W.heap.size + 1 + 1 + 1 + 1 + 1, 6, none⟩ = some (.int .i64 dx) := cell_gr hv2 (by go_simp)
  have fv2_5_6 : v2.frozen? ⟨W.heap.size + 1 + 1 + 1 + 1 + 1, 6, none⟩ = false := frozen_gr (v := .int .i64 dx) hv2 (by go_simp) (by go_simp)
  have cv2_5_7 : v2.cell? ⟨W.heap.size + 1 + 1 + 1 + 1 + 1, 7, none⟩ = some (.int .i64 dy) := cell_gr hv2 (by go_simp)
  have fv2_5_7 : v2.frozen? ⟨W.heap.size + 1 + 1 + 1 + 1 + 1, 7, none⟩ = false := frozen_gr (v := .int .i64 dy) hv2 (by go_simp) (by go_simp)
  have zv2_5 : W.heap.size + 1 + 1 + 1 + 1 + 1 < v2.heap.size := World.block_lt_of_cell? _ _ cv2_5_0
  have gv2 : Gr W v2 := Gr.trans (by have gg := gu2; have gs := gg.size; go_grown) hv2
  clear hv2 hhv2 gu2 zu2_0 cu2_0_0 cu2_0_1 zu2_1 cu2_1_0 cu2_1_1 zu2_2 cu2_2_0 cu2_2_1 zu2_3 cu2_3_0 cu2_3_1 zu2_4 cu2_4_0 cu2_4_1 cu2_4_2 cu2_4_3 cu2_4_4 cu2_4_5 cu2_4_6 cu2_4_7 zu2_5 cu2_5_0 fu2_5_0 cu2_5_1 fu2_5_1 cu2_5_2 fu2_5_2 cu2_5_3 fu2_5_3 cu2_5_4 fu2_5_4 cu2_5_5 fu2_5_5 cu2_5_6 fu2_5_6 cu2_5_7 fu2_5_7
  go_wp2_with fail
  go_at_call 14
  refine ((HR2.out _)).mono ?_
  rintro e w2 ⟨rfl, hw2⟩
  have cw2_0_0 : w2.cell? ⟨W.heap.size, 0, none⟩ = some (.int .i64 ax) := cell_gr hw2 (by go_simp)
  have cw2_0_1 : w2.cell? ⟨W.heap.size, 1, none⟩ = some (.int .i64 ay) := cell_gr hw2 (by go_simp)
  have zw2_0 : W.heap.size < w2.heap.size := World.block_lt_of_cell? _ _ cw2_0_0
  have cw2_1_0 : w2.cell? ⟨W.heap.size + 1, 0, none⟩ = some (.int .i64 bx) := cell_gr hw2 (by go_simp)
  have cw2_1_1 : w2.cell? ⟨W.heap.size + 1, 1, none⟩ = some (.int .i64 by') := cell_gr hw2 (by go_simp)
  have zw2_1 : W.heap.size + 1 < w2.heap.size := World.block_lt_of_cell? _ _ cw2_1_0
  have cw2_2_0 : w2.cell? ⟨W.heap.size + 1 + 1, 0, none⟩ = some (.int .i64 cx) := cell_gr hw2 (by go_simp)
  have cw2_2_1 : w2.cell? ⟨W.heap.size + 1 + 1, 1, none⟩ = some (.int .i64 cy) := cell_gr hw2 (by go_simp)
  have zw2_2 : W.heap.size + 1 + 1 < w2.heap.size := World.block_lt_of_cell? _ _ cw2_2_0
  have cw2_3_0 : w2.cell? ⟨W.heap.size + 1 + 1 + 1, 0, none⟩ = some (.int .i64 dx) := cell_gr hw2 (by go_simp)
  have cw2_3_1 : w2.cell? ⟨W.heap.size + 1 + 1 + 1, 1, none⟩ = some (.int .i64 dy) := cell_gr hw2 (by go_simp)
  have zw2_3 : W.heap.size + 1 + 1 + 1 < w2.heap.size := World.block_lt_of_cell? _ _ cw2_3_0
  have cw2_4_0 : w2.cell? ⟨W.heap.size + 1 + 1 + 1 + 1, 0, none⟩ = some (.int .i64 ax) := cell_gr hw2 (by go_simp)
  have cw2_4_1 : w2.cell? ⟨W.heap.size + 1 + 1 + 1 + 1, 1, none⟩ = some (.int .i64 ay) := cell_gr hw2 (by go_simp)
  have cw2_4_2 : w2.cell? ⟨W.heap.size + 1 + 1 + 1 + 1, 2, none⟩ = some (.int .i64 bx) := cell_gr hw2 (by go_simp)
  have cw2_4_3 : w2.cell? ⟨W.heap.size + 1 + 1 + 1 + 1, 3, none⟩ = some (.int .i64 by') := cell_gr hw2 (by go_simp)
  have cw2_4_4 : w2.cell? ⟨W.heap.size + 1 + 1 + 1 + 1, 4, none⟩ = some (.int .i64 cx) := cell_gr hw2 (by go_simp)
  have cw2_4_5 : w2.cell? ⟨W.heap.size + 1 + 1 + 1 + 1, 5, none⟩ = some (.int .i64 cy) := cell_gr hw2 (by go_simp)
  have cw2_4_6 : w2.cell? ⟨W.heap.size + 1 + 1 + 1 + 1, 6, none⟩ = some (.int .i64 dx) := cell_gr hw2 (by go_simp)
  have cw2_4_7 : w2.cell? ⟨W.heap.size + 1 + 1 + 1 + 1, 7, none⟩ = some (.int .i64 dy) := cell_gr hw2 (by go_simp)
  have zw2_4 : W.heap.size + 1 + 1 + 1 + 1 < w2.heap.size := World.block_lt_of_cell? _ _ cw2_4_0
  have cw2_5_0 : w2.cell? ⟨W.heap.size + 1 + 1 + 1 + 1 + 1, 0, none⟩ = some (.int .i64 max) := cell_gr hw2 (by go_simp)
  have fw2_5_0 : w2.frozen? ⟨W.heap.size + 1 + 1 + 1 + 1 + 1, 0, none⟩ = false := frozen_gr (v := .int .i64 max) hw2 (by go_simp) (by go_simp)
  have cw2_5_1 : w2.cell? ⟨W.heap.size + 1 + 1 + 1 + 1 + 1, 1, none⟩ = some (.int .i64 may) := cell_gr hw2 (by go_simp)
  have fw2_5_1 : w2.frozen? ⟨W.heap.size + 1 + 1 + 1 + 1 + 1, 1, none⟩ = false := frozen_gr (v := .int .i64 may) hw2 (by go_simp) (by go_simp)
  have cw2_5_2 : w2.cell? ⟨W.heap.size + 1 + 1 + 1 + 1 + 1, 2, none⟩ = some (.int .i64 mbx) := cell_gr hw2 (by go_simp)
  have fw2_5_2 : w2.frozen? ⟨W.heap.size + 1 + 1 + 1 + 1 + 1, 2, none⟩ = false := frozen_gr (v := .int .i64 mbx) hw2 (by go_simp) (by go_simp)
  have cw2_5_3 : w2.cell? ⟨W.heap.size + 1 + 1 + 1 + 1 + 1, 3, none⟩ = some (.int .i64 mby) := cell_gr hw2 (by go_simp)
  have fw2_5_3 : w2.frozen? ⟨W.heap.size + 1 + 1 + 1 + 1 + 1, 3, none⟩ = false := frozen_gr (v := .int .i64 mby) hw2 (by go_simp) (by go_simp)
  have cw2_5_4 : w2.cell? ⟨W.heap.size + 1 + 1 + 1 + 1 + 1, 4, none⟩ = some (.int .i64 mcx) := cell_gr hw2 (by go_simp)
  have fw2_5_4 : w2.frozen? ⟨W.heap.size + 1 + 1 + 1 + 1 + 1, 4, none⟩ = false := frozen_gr (v := .int .i64 mcx) hw2 (by go_simp) (by go_simp)
  have cw2_5_5 : w2.cell? ⟨W.heap.size + 1 + 1 + 1 + 1 + 1, 5, none⟩ = some (.int .i64 mcy) := cell_gr hw2 (by go_simp)
  have fw2_5_5 : w2.frozen? ⟨W.heap.size + 1 + 1 + 1 + 1 + 1, 5, none⟩ = false := frozen_gr (v := .int .i64 mcy) hw2 (by go_simp) (by go_simp)
  have cw2_5_6 : w2.cell? ⟨W.heap.size + 1 + 1 + 1 + 1 + 1, 6, none⟩ = some (.int .i64 dx) := cell_gr hw2 (by go_simp)
  have fw2_5_6 : w2.frozen? ⟨W.heap.size + 1 + 1 + 1 + 1 + 1, 6, none⟩ = false := frozen_gr (v := .int .i64 dx) hw2 (by go_simp) (by go_simp)
  have cw2_5_7 : w2.cell? ⟨W.heap.size + 1 + 1 + 1 + 1 + 1, 7, none⟩ = some (.int .i64 dy) := cell_gr hw2 (by go_simp)
  have fw2_5_7 : w2.frozen? ⟨W.heap.size + 1 + 1 + 1 + 1 + 1, 7, none⟩ = false := frozen_gr (v := .int .i64 dy) hw2 (by go_simp) (by go_simp)
  have zw2_5 : W.heap.size + 1 + 1 + 1 + 1 + 1 < w2.heap.size := World.block_lt_of_cell? _ _ cw2_5_0
  have gw2 : Gr W w2 := Gr.trans (by have gg := gv2; have gs := gg.size; go_grown) hw2
  clear hw2 gv2 zv2_0 cv2_0_0 cv2_0_1 zv2_1 cv2_1_0 cv2_1_1 zv2_2 cv2_2_0 cv2_2_1 zv2_3 cv2_3_0 cv2_3_1 zv2_4 cv2_4_0 cv2_4_1 cv2_4_2 cv2_4_3 cv2_4_4 cv2_4_5 cv2_4_6 cv2_4_7 zv2_5 cv2_5_0 fv2_5_0 cv2_5_1 fv2_5_1 cv2_5_2 fv2_5_2 cv2_5_3 fv2_5_3 cv2_5_4 fv2_5_4 cv2_5_5 fv2_5_5 cv2_5_6 fv2_5_6 cv2_5_7 fv2_5_7
  go_wp2_with fail
  rw [rounds_succ]
  go_wp2_with fail
  go_at_call 14
  refine ((HA3.out _)).mono ?_
  rintro e u3 ⟨rfl, hu3⟩
  have cu3_0_0 : u3.cell? ⟨W.heap.size, 0, none⟩ = some (.int .i64 ax) := cell_gr hu3 (by go_simp)
  have cu3_0_1 : u3.cell? ⟨W.heap.size, 1, none⟩ = some (.int .i64 ay) := cell_gr hu3 (by go_simp)
  have zu3_0 : W.heap.size < u3.heap.size := World.block_lt_of_cell? _ _ cu3_0_0
  have cu3_1_0 : u3.cell? ⟨W.heap.size + 1, 0, none⟩ = some (.int .i64 bx) := cell_gr hu3 (by go_simp)
  have cu3_1_1 : u3.cell? ⟨W.heap.size + 1, 1, none⟩ = some (.int .i64 by') := cell_gr hu3 (by go_simp)
  have zu3_1 : W.heap.size + 1 < u3.heap.size := World.block_lt_of_cell? _ _ cu3_1_0
  have cu3_2_0 : u3.cell? ⟨W.heap.size + 1 + 1, 0, none⟩ = some (.int .i64 cx) := cell_gr hu3 (by go_simp)
  have cu3_2_1 : u3.cell? ⟨W.heap.size + 1 + 1, 1, none⟩ = some (.int .i64 cy) := cell_gr hu3 (by go_simp)
  have zu3_2 : W.heap.size + 1 + 1 < u3.heap.size := World.block_lt_of_cell? _ _ cu3_2_0
  have cu3_3_0 : u3.cell? ⟨W.heap.size + 1 + 1 + 1, 0, none⟩ = some (.int .i64 dx) := cell_gr hu3 (by go_simp)
  have cu3_3_1 : u3.cell? ⟨W.heap.size + 1 + 1 + 1, 1, none⟩ = some (.int .i64 dy) := cell_gr hu3 (by go_simp)
  have zu3_3 : W.heap.size + 1 + 1 + 1 < u3.heap.size := World.block_lt_of_cell? _ _ cu3_3_0
  have cu3_4_0 : u3.cell? ⟨W.heap.size + 1 + 1 + 1 + 1, 0, none⟩ = some (.int .i64 ax) := cell_gr hu3 (by go_simp)
  have cu3_4_1 : u3.cell? ⟨W.heap.size + 1 + 1 + 1 + 1, 1, none⟩ = some (.int .i64 ay) := cell_gr hu3 (by go_simp)
  have cu3_4_2 : u3.cell? ⟨W.heap.size + 1 + 1 + 1 + 1, 2, none⟩ = some (.int .i64 bx) := cell_gr hu3 (by go_simp)
  have cu3_4_3 : u3.cell? ⟨W.heap.size + 1 + 1 + 1 + 1, 3, none⟩ = some (.int .i64 by') := cell_gr hu3 (by go_simp)
  have cu3_4_4 : u3.cell? ⟨W.heap.size + 1 + 1 + 1 + 1, 4, none⟩ = some (.int .i64 cx) := cell_gr hu3 (by go_simp)
  have cu3_4_5 : u3.cell? ⟨W.heap.size + 1 + 1 + 1 + 1, 5, none⟩ = some (.int .i64 cy) := cell_gr hu3 (by go_simp)
  have cu3_4_6 : u3.cell? ⟨W.heap.size + 1 + 1 + 1 + 1, 6, none⟩ = some (.int .i64 dx) := cell_gr hu3 (by go_simp)
  have cu3_4_7 : u3.cell? ⟨W.heap.size + 1 + 1 + 1 + 1, 7, none⟩ = some (.int .i64 dy) := cell_gr hu3 (by go_simp)
  have zu3_4 : W.heap.size + 1 + 1 + 1 + 1 < u3.heap.size := World.block_lt_of_cell? _ _ cu3_4_0
  have cu3_5_0 : u3.cell? ⟨W.heap.size + 1 + 1 + 1 + 1 + 1, 0, none⟩ = some (.int .i64 max) := cell_gr hu3 (by go_simp)
  have fu3_5_0 : u3.frozen? ⟨W.heap.size + 1 + 1 + 1 + 1 + 1, 0, none⟩ = false := frozen_gr (v := .int .i64 max) hu3 (by go_simp) (by go_simp)
  have cu3_5_1 : u3.cell? ⟨W.heap.size + 1 + 1 + 1 + 1 + 1, 1, none⟩ = some (.int .i64 may) := cell_gr hu3 (by go_simp)
  have fu3_5_1 : u3.frozen? ⟨W.heap.size + 1 + 1 + 1 + 1 + 1, 1, none⟩ = false := frozen_gr (v := .int .i64 may) hu3 (by go_simp) (by go_simp)
  have cu3_5_2 : u3.cell? ⟨W.heap.size + 1 + 1 + 1 + 1 + 1, 2, none⟩ = some (.int .i64 mbx) := cell_gr hu3 (by go_simp)
  have fu3_5_2 : u3.frozen? ⟨W.heap.size + 1 + 1 + 1 + 1 + 1, 2, none⟩ = false := frozen_gr (v := .int .i64 mbx) hu3 (by go_simp) (by go_simp)
  have cu3_5_3 : u3.cell? ⟨W.heap.size + 1 + 1 + 1 + 1 + 1, 3, none⟩ = some (.int .i64 mby) := cell_gr hu3 (by go_simp)
  have fu3_5_3 : u3.frozen? ⟨W.heap.size + 1 + 1 + 1 + 1 + 1, 3, none⟩ = false := frozen_gr (v := .int .i64 mby) hu3 (by go_simp) (by go_simp)
  have cu3_5_4 : u3.cell? ⟨W.heap.size + 1 + 1 + 1 + 1 + 1, 4, none⟩ = some (.int .i64 mcx) := cell_gr hu3 (by go_simp)
  have fu3_5_4 : u3.frozen? ⟨W.heap.size + 1 + 1 + 1 + 1 + 1, 4, none⟩ = false := frozen_gr (v := .int .i64 mcx) hu3 (by go_simp) (by go_simp)
  have cu3_5_5 : u3.cell? ⟨W.heap.size + 1 + 1 + 1 + 1 + 1, 5, none⟩ = some (.int .i64 mcy) := cell_gr hu3 (by go_simp)
  have fu3_5_5 : u3.frozen? ⟨W.heap.size + 1 + 1 + 1 + 1 + 1, 5, none⟩ = false := frozen_gr (v := .int .i64 mcy) hu3 (by go_simp) (by go_simp)
  have cu3_5_6 : u3.cell? ⟨W.heap.size + 1 + 1 + 1 + 1 + 1, 6, none⟩ = some (.int .i64 dx) := cell_gr hu3 (by go_simp)
  have fu3_5_6 : u3.frozen? ⟨W.heap.size + 1 + 1 + 1 + 1 + 1, 6, none⟩ = false := frozen_gr (v := .int .i64 dx) hu3 (by go_simp) (by go_simp)
  have cu3_5_7 : u3.cell? ⟨W.heap.size + 1 + 1 + 1 + 1 + 1, 7, none⟩ = some (.int .i64 dy) := cell_gr hu3 (by go_simp)
  have fu3_5_7 : u3.frozen? ⟨W.heap.size + 1 + 1 + 1 + 1 + 1, 7, none⟩ = false := frozen_gr (v := .int .i64 dy) hu3 (by go_simp) (by go_simp)
  have zu3_5 : W.heap.size + 1 + 1 + 1 + 1 + 1 < u3.heap.size := World.block_lt_of_cell? _ _ cu3_5_0
  have gu3 : Gr W u3 := Gr.trans (by have gg := gw2; have gs := gg.size; go_grown) hu3
  clear hu3 gw2 zw2_0 cw2_0_0 cw2_0_1 zw2_1 cw2_1_0 cw2_1_1 zw2_2 cw2_2_0 cw2_2_1 zw2_3 cw2_3_0 cw2_3_1 zw2_4 cw2_4_0 cw2_4_1 cw2_4_2 cw2_4_3 cw2_4_4 cw2_4_5 cw2_4_6 cw2_4_7 zw2_5 cw2_5_0 fw2_5_0 cw2_5_1 fw2_5_1 cw2_5_2 fw2_5_2 cw2_5_3 fw2_5_3 cw2_5_4 fw2_5_4 cw2_5_5 fw2_5_5 cw2_5_6 fw2_5_6 cw2_5_7 fw2_5_7
  go_wp2_with fail
  go_at_call 32
  refine ((s4_awake _)).mono ?_
  rintro e z1 ⟨rfl, hz1⟩
  have cz1_0_0 : z1.cell? ⟨W.heap.size, 0, none⟩ = some (.int .i64 ax) := cell_gr hz1 (by go_simp)
  have cz1_0_1 : z1.cell? ⟨W.heap.size, 1, none⟩ = some (.int .i64 ay) := cell_gr hz1 (by go_simp)
  have zz1_0 : W.heap.size < z1.heap.size := World.block_lt_of_cell? _ _ cz1_0_0
  have cz1_1_0 : z1.cell? ⟨W.heap.size + 1, 0, none⟩ = some (.int .i64 bx) := cell_gr hz1 (by go_simp)
  have cz1_1_1 : z1.cell? ⟨W.heap.size + 1, 1, none⟩ = some (.int .i64 by') := cell_gr hz1 (by go_simp)
  have zz1_1 : W.heap.size + 1 < z1.heap.size := World.block_lt_of_cell? _ _ cz1_1_0
  have cz1_2_0 : z1.cell? ⟨W.heap.size + 1 + 1, 0, none⟩ = some (.int .i64 cx) := cell_gr hz1 (by go_simp)
  have cz1_2_1 : z1.cell? ⟨W.heap.size + 1 + 1, 1, none⟩ = some (.int .i64 cy) := cell_gr hz1 (by go_simp)
  have zz1_2 : W.heap.size + 1 + 1 < z1.heap.size := World.block_lt_of_cell? _ _ cz1_2_0
  have cz1_3_0 : z1.cell? ⟨W.heap.size + 1 + 1 + 1, 0, none⟩ = some (.int .i64 dx) := cell_gr hz1 (by go_simp)
  have cz1_3_1 : z1.cell? ⟨W.heap.size + 1 + 1 + 1, 1, none⟩ = some (.int .i64 dy) := cell_gr hz1 (by go_simp)
  have zz1_3 : W.heap.size + 1 + 1 + 1 < z1.heap.size := World.block_lt_of_cell? _ _ cz1_3_0
  have cz1_4_0 : z1.cell? ⟨W.heap.size + 1 + 1 + 1 + 1, 0, none⟩ = some (.int .i64 ax) := cell_gr hz1 (by go_simp)
  have cz1_4_1 : z1.cell? ⟨W.heap.size + 1 + 1 + 1 + 1, 1, none⟩ = some (.int .i64 ay) := cell_gr hz1 (by go_simp)
  have cz1_4_2 : z1.cell? ⟨W.heap.size + 1 + 1 + 1 + 1, 2, none⟩ = some (.int .i64 bx) := cell_gr hz1 (by go_simp)
  have cz1_4_3 : z1.cell? ⟨W.heap.size + 1 + 1 + 1 + 1, 3, none⟩ = some (.int .i64 by') := cell_gr hz1 (by go_simp)
  have cz1_4_4 : z1.cell? ⟨W.heap.size + 1 + 1 + 1 + 1, 4, none⟩ = some (.int .i64 cx) := cell_gr hz1 (by go_simp)
  have cz1_4_5 : z1.cell? ⟨W.heap.size + 1 + 1 + 1 + 1, 5, none⟩ = some (.int .i64 cy) := cell_gr hz1 (by go_simp)
  have cz1_4_6 : z1.cell? ⟨W.heap.size + 1 + 1 + 1 + 1, 6, none⟩ = some (.int .i64 dx) := cell_gr hz1 (by go_simp)
  have cz1_4_7 : z1.cell? ⟨W.heap.size + 1 + 1 + 1 + 1, 7, none⟩ = some (.int .i64 dy) := cell_gr hz1 (by go_simp)
  have zz1_4 : W.heap.size + 1 + 1 + 1 + 1 < z1.heap.size := World.block_lt_of_cell? _ _ cz1_4_0
  have cz1_5_0 : z1.cell? ⟨W.heap.size + 1 + 1 + 1 + 1 + 1, 0, none⟩ = some (.int .i64 max) := cell_gr hz1 (by go_simp)
  have fz1_5_0 : z1.frozen? ⟨W.heap.size + 1 + 1 + 1 + 1 + 1, 0, none⟩ = false := frozen_gr (v := .int .i64 max) hz1 (by go_simp) (by go_simp)
  have cz1_5_1 : z1.cell? ⟨W.heap.size + 1 + 1 + 1 + 1 + 1, 1, none⟩ = some (.int .i64 may) := cell_gr hz1 (by go_simp)
  have fz1_5_1 : z1.frozen? ⟨W.heap.size + 1 + 1 + 1 + 1 + 1, 1, none⟩ = false := frozen_gr (v := .int .i64 may) hz1 (by go_simp) (by go_simp)
  have cz1_5_2 : z1.cell? ⟨W.heap.size + 1 + 1 + 1 + 1 + 1, 2, none⟩ = some (.int .i64 mbx) := cell_gr hz1 (by go_simp)
  have fz1_5_2 : z1.frozen? ⟨W.heap.size + 1 + 1 + 1 + 1 + 1, 2, none⟩ = false := frozen_gr (v := .int .i64 mbx) hz1 (by go_simp) (by go_simp)
  have cz1_5_3 : z1.cell? ⟨W.heap.size + 1 + 1 + 1 + 1 + 1, 3, none⟩ = some (.int .i64 mby) := cell_gr hz1 (by go_simp)
  have fz1_5_3 : z1.frozen? ⟨W.heap.size + 1 + 1 + 1 + 1 + 1, 3, none⟩ = false := frozen_gr (v := .int .i64 mby) hz1 (by go_simp) (by go_simp)
  have cz1_5_4 : z1.cell? ⟨W.heap.size + 1 + 1 + 1 + 1 + 1, 4, none⟩ = some (.int .i64 mcx) := cell_gr hz1 (by go_simp)
  have fz1_5_4 : z1.frozen? ⟨W.heap.size + 1 + 1 + 1 + 1 + 1, 4, none⟩ = false := frozen_gr (v := .int .i64 mcx) hz1 (by go_simp) (by go_simp)
  have cz1_5_5 : z1.cell? ⟨W.heap.size + 1 + 1 + 1 + 1 + 1, 5, none⟩ = some (.int .i64 mcy) := cell_gr hz1 (by go_simp)
  have fz1_5_5 : z1.frozen? ⟨W.heap.size + 1 + 1 + 1 + 1 + 1, 5, none⟩ = false := frozen_gr (v := .int .i64 mcy) hz1 (by go_simp) (by go_simp)
  have cz1_5_6 : z1.cell? ⟨W.heap.size + 1 + 1 + 1 + 1 + 1, 6, none⟩ = some (.int .i64 dx) := cell_gr hz1 (by go_simp)
  have fz1_5_6 : z1.frozen? ⟨W.heap.size + 1 + 1 + 1 + 1 + 1, 6, none⟩ = false := frozen_gr (v := .int .i64 dx) hz1 (by go_simp) (by go_simp)
  have cz1_5_7 : z1.cell? ⟨W.heap.size + 1 + 1 + 1 + 1 + 1, 7, none⟩ = some (.int .i64 dy) := cell_gr hz1 (by go_simp)
  have fz1_5_7 : z1.frozen? ⟨W.heap.size + 1 + 1 + 1 + 1 + 1, 7, none⟩ = false := frozen_gr (v := .int .i64 dy) hz1 (by go_simp) (by go_simp)
  have zz1_5 : W.heap.size + 1 + 1 + 1 + 1 + 1 < z1.heap.size := World.block_lt_of_cell? _ _ cz1_5_0
  have gz1 : Gr W z1 := Gr.trans (by have gg := gu3; have gs := gg.size; go_grown) hz1
  clear hz1 gu3 zu3_0 cu3_0_0 cu3_0_1 zu3_1 cu3_1_0 cu3_1_1 zu3_2 cu3_2_0 cu3_2_1 zu3_3 cu3_3_0 cu3_3_1 zu3_4 cu3_4_0 cu3_4_1 cu3_4_2 cu3_4_3 cu3_4_4 cu3_4_5 cu3_4_6 cu3_4_7 zu3_5 cu3_5_0 fu3_5_0 cu3_5_1 fu3_5_1 cu3_5_2 fu3_5_2 cu3_5_3 fu3_5_3 cu3_5_4 fu3_5_4 cu3_5_5 fu3_5_5 cu3_5_6 fu3_5_6 cu3_5_7 fu3_5_7
  go_wp2_with fail
  go_ret
  exact ⟨rfl, by go_grown⟩
set_option maxHeartbeats 4000000 in
set_option maxRecDepth 100000 in
theorem moves_r3 (ax ay bx by' cx cy dx dy x y max may mbx mby mcx mcy mdx mdy : Int) (W : World) (c1 : ¬ x < -2147483648) (c2 : ¬ 2147483648 < x) (c3 : ¬ y < -2147483648) (c4 : ¬ 2147483648 < y)
    (e01 : wrap64 (ax + x) = max) (e02 : IntKind.i64.wrap (ax + x) = max) (e03 : wrap64 (ay + y) = may) (e04 : IntKind.i64.wrap (ay + y) = may)
    (e11 : wrap64 (bx + x) = mbx) (e12 : IntKind.i64.wrap (bx + x) = mbx) (e13 : wrap64 (by' + y) = mby) (e14 : IntKind.i64.wrap (by' + y) = mby)
    (e21 : wrap64 (cx + x) = mcx) (e22 : IntKind.i64.wrap (cx + x) = mcx) (e23 : wrap64 (cy + y) = mcy) (e24 : IntKind.i64.wrap (cy + y) = mcy)
    (e31 : wrap64 (dx + x) = mdx) (e32 : IntKind.i64.wrap (dx + x) = mdx) (e33 : wrap64 (dy + y) = mdy) (e34 : IntKind.i64.wrap (dy + y) = mdy)
    (A0 : ∀ w, Calls Try.prog 14 #[.agg #[.int .i64 ax, .int .i64 ay]] w fun e w' => e = .returned (.bool true) ∧ Gr w w')
    (R0 : ∀ w, Calls Try.prog 14 #[.agg #[.int .i64 max, .int .i64 may]] w fun e w' => e = .returned (.bool true) ∧ Gr w w')
    (A1 : ∀ w, Calls Try.prog 14 #[.agg #[.int .i64 bx, .int .i64 by']] w fun e w' => e = .returned (.bool true) ∧ Gr w w')
    (R1 : ∀ w, Calls Try.prog 14 #[.agg #[.int .i64 mbx, .int .i64 mby]] w fun e w' => e = .returned (.bool true) ∧ Gr w w')
    (A2 : ∀ w, Calls Try.prog 14 #[.agg #[.int .i64 cx, .int .i64 cy]] w fun e w' => e = .returned (.bool true) ∧ Gr w w')
    (R2 : ∀ w, Calls Try.prog 14 #[.agg #[.int .i64 mcx, .int .i64 mcy]] w fun e w' => e = .returned (.bool true) ∧ Gr w w')
    (A3 : ∀ w, Calls Try.prog 14 #[.agg #[.int .i64 dx, .int .i64 dy]] w fun e w' => e = .returned (.bool true) ∧ Gr w w')
    (R3 : ∀ w, Calls Try.prog 14 #[.agg #[.int .i64 mdx, .int .i64 mdy]] w fun e w' => e = .returned (.bool false) ∧ Gr w w') :
    Calls Try.prog 8 #[.agg #[.int .i64 ax, .int .i64 ay], .agg #[.int .i64 bx, .int .i64 by'], .agg #[.int .i64 cx, .int .i64 cy], .agg #[.int .i64 dx, .int .i64 dy], .int .i64 x, .int .i64 y] W fun e w' => e = .returned (.bool true) ∧ Gr W w' := by
  have HA0 := Lib.hid A0
  have HR0 := Lib.hid R0
  have HA1 := Lib.hid A1
  have HR1 := Lib.hid R1
  have HA2 := Lib.hid A2
  have HR2 := Lib.hid R2
  have HA3 := Lib.hid A3
  have HR3 := Lib.hid R3
  clear A0 A1 A2 A3 R0 R1 R2 R3
  go_enter Try.func8, Try.ntmps8
  go_wp2_with fail
  refine wp_loop_rounds 5 ?_
  rw [rounds_succ]
  go_wp2_with fail
  go_at_call 14
  refine ((HA0.out _)).mono ?_
  rintro e u0 ⟨rfl, hu0⟩
  have cu0_0_0 : u0.cell? ⟨W.heap.size, 0, none⟩ = some (.int .i64 ax) := cell_gr hu0 (by go_simp)
  have cu0_0_1 : u0.cell? ⟨W.heap.size, 1, none⟩ = some (.int .i64 ay) := cell_gr hu0 (by go_simp)
  have zu0_0 : W.heap.size < u0.heap.size := World.block_lt_of_cell? _ _ cu0_0_0
  have cu0_1_0 : u0.cell? ⟨W.heap.size + 1, 0, none⟩ = some (.int .i64 bx) := cell_gr hu0 (by go_simp)
  have cu0_1_1 : u0.cell? ⟨W.heap.size + 1, 1, none⟩ = some (.int .i64 by') := cell_gr hu0 (by go_simp)
  have zu0_1 : W.heap.size + 1 < u0.heap.size := World.block_lt_of_cell? _ _ cu0_1_0
  have cu0_2_0 : u0.cell? ⟨W.heap.size + 1 + 1, 0, none⟩ = some (.int .i64 cx) := cell_gr hu0 (by go_simp)
  have cu0_2_1 : u0.cell? ⟨W.heap.size + 1 + 1, 1, none⟩ = some (.int .i64 cy) := cell_gr hu0 (by go_simp)
  have zu0_2 : W.heap.size + 1 + 1 < u0.heap.size := World.block_lt_of_cell? _ _ cu0_2_0
  have cu0_3_0 : u0.cell? ⟨W.heap.size + 1 + 1 + 1, 0, none⟩ = some (.int .i64 dx) := cell_gr hu0 (by go_simp)
  have cu0_3_1 : u0.cell? ⟨W.heap.size + 1 + 1 + 1, 1, none⟩ = some (.int .i64 dy) := cell_gr hu0 (by go_simp)
  have zu0_3 : W.heap.size + 1 + 1 + 1 < u0.heap.size := World.block_lt_of_cell? _ _ cu0_3_0
  have cu0_4_0 : u0.cell? ⟨W.heap.size + 1 + 1 + 1 + 1, 0, none⟩ = some (.int .i64 ax) := cell_gr hu0 (by go_simp)
  have cu0_4_1 : u0.cell? ⟨W.heap.size + 1 + 1 + 1 + 1, 1, none⟩ = some (.int .i64 ay) := cell_gr hu0 (by go_simp)
  have cu0_4_2 : u0.cell? ⟨W.heap.size + 1 + 1 + 1 + 1, 2, none⟩ = some (.int .i64 bx) := cell_gr hu0 (by go_simp)
  have cu0_4_3 : u0.cell? ⟨W.heap.size + 1 + 1 + 1 + 1, 3, none⟩ = some (.int .i64 by') := cell_gr hu0 (by go_simp)
  have cu0_4_4 : u0.cell? ⟨W.heap.size + 1 + 1 + 1 + 1, 4, none⟩ = some (.int .i64 cx) := cell_gr hu0 (by go_simp)
  have cu0_4_5 : u0.cell? ⟨W.heap.size + 1 + 1 + 1 + 1, 5, none⟩ = some (.int .i64 cy) := cell_gr hu0 (by go_simp)
  have cu0_4_6 : u0.cell? ⟨W.heap.size + 1 + 1 + 1 + 1, 6, none⟩ = some (.int .i64 dx) := cell_gr hu0 (by go_simp)
  have cu0_4_7 : u0.cell? ⟨W.heap.size + 1 + 1 + 1 + 1, 7, none⟩ = some (.int .i64 dy) := cell_gr hu0 (by go_simp)
  have zu0_4 : W.heap.size + 1 + 1 + 1 + 1 < u0.heap.size := World.block_lt_of_cell? _ _ cu0_4_0
  have cu0_5_0 : u0.cell? ⟨W.heap.size + 1 + 1 + 1 + 1 + 1, 0, none⟩ = some (.int .i64 ax) := cell_gr hu0 (by go_simp)
  have fu0_5_0 : u0.frozen? ⟨W.heap.size + 1 + 1 + 1 + 1 + 1, 0, none⟩ = false := frozen_gr (v := .int .i64 ax) hu0 (by go_simp) (by go_simp)
  have cu0_5_1 : u0.cell? ⟨W.heap.size + 1 + 1 + 1 + 1 + 1, 1, none⟩ = some (.int .i64 ay) := cell_gr hu0 (by go_simp)
  have fu0_5_1 : u0.frozen? ⟨W.heap.size + 1 + 1 + 1 + 1 + 1, 1, none⟩ = false := frozen_gr (v := .int .i64 ay) hu0 (by go_simp) (by go_simp)
  have cu0_5_2 : u0.cell? ⟨W.heap.size + 1 + 1 + 1 + 1 + 1, 2, none⟩ = some (.int .i64 bx) := cell_gr hu0 (by go_simp)
  have fu0_5_2 : u0.frozen? ⟨W.heap.size + 1 + 1 + 1 + 1 + 1, 2, none⟩ = false := frozen_gr (v := .int .i64 bx) hu0 (by go_simp) (by go_simp)
  have cu0_5_3 : u0.cell? ⟨W.heap.size + 1 + 1 + 1 + 1 + 1, 3, none⟩ = some (.int .i64 by') := cell_gr hu0 (by go_simp)
  have fu0_5_3 : u0.frozen? ⟨W.heap.size + 1 + 1 + 1 + 1 + 1, 3, none⟩ = false := frozen_gr (v := .int .i64 by') hu0 (by go_simp) (by go_simp)
  have cu0_5_4 : u0.cell? ⟨W.heap.size + 1 + 1 + 1 + 1 + 1, 4, none⟩ = some (.int .i64 cx) := cell_gr hu0 (by go_simp)
  have fu0_5_4 : u0.frozen? ⟨W.heap.size + 1 + 1 + 1 + 1 + 1, 4, none⟩ = false := frozen_gr (v := .int .i64 cx) hu0 (by go_simp) (by go_simp)
  have cu0_5_5 : u0.cell? ⟨W.heap.size + 1 + 1 + 1 + 1 + 1, 5, none⟩ = some (.int .i64 cy) := cell_gr hu0 (by go_simp)
  have fu0_5_5 : u0.frozen? ⟨W.heap.size + 1 + 1 + 1 + 1 + 1, 5, none⟩ = false := frozen_gr (v := .int .i64 cy) hu0 (by go_simp) (by go_simp)
  have cu0_5_6 : u0.cell? ⟨W.heap.size + 1 + 1 + 1 + 1 + 1, 6, none⟩ = some (.int .i64 dx) := cell_gr hu0 (by go_simp)
  have fu0_5_6 : u0.frozen? ⟨W.heap.size + 1 + 1 + 1 + 1 + 1, 6, none⟩ = false := frozen_gr (v := .int .i64 dx) hu0 (by go_simp) (by go_simp)
  have cu0_5_7 : u0.cell? ⟨W.heap.size + 1 + 1 + 1 + 1 + 1, 7, none⟩ = some (.int .i64 dy) := cell_gr hu0 (by go_simp)
  have fu0_5_7 : u0.frozen? ⟨W.heap.size + 1 + 1 + 1 + 1 + 1, 7, none⟩ = false := frozen_gr (v := .int .i64 dy) hu0 (by go_simp) (by go_simp)
  have zu0_5 : W.heap.size + 1 + 1 + 1 + 1 + 1 < u0.heap.size := World.block_lt_of_cell? _ _ cu0_5_0
  have gu0 : Gr W u0 := Gr.trans (by go_grown) hu0
  clear hu0
  go_wp2_with fail
  refine Hd.wp_region_tail 18 (by kernel_rfl) (by kernel_rfl) ?_
  intro KQ hKQ
  repeat (first | (refine Hd.wpG_skip (by decide) rfl ?_; simp only [Act.put, List.setIfInBounds_toArray, List.set_cons_zero, List.set_cons_succ]) | (refine Hd.wpG_want (by decide) rfl ?_; apply Exists.intro; refine ⟨?_, ?_⟩; (· intro wx gx; (obtain ⟨mx, rfl⟩ := gx); all_goals (apply Hd.gAt_of_quiet; intro K hK; go_big_quiet_op; first | exact hK _ rfl | (apply Exists.intro; refine ⟨fun _ => ?_, ?_⟩; (· fail); exact hK _ rfl))); try simp only [Act.put, List.setIfInBounds_toArray, List.set_cons_zero, List.set_cons_succ]))
  refine Hd.wpG_nil (hKQ _ ?_)
  clear hKQ KQ
  intro v0 hhv0
  have hv0 := Hd.gr_of_spread hhv0
  have cv0_0_0 : v0.cell? ⟨W.heap.size, 0, none⟩ = some (.int .i64 ax) := cell_gr hv0 (by go_simp)
  have cv0_0_1 : v0.cell? ⟨W.heap.size, 1, none⟩ = some (.int .i64 ay) := cell_gr hv0 (by go_simp)
  have zv0_0 : W.heap.size < v0.heap.size := World.block_lt_of_cell? _ _ cv0_0_0
  have cv0_1_0 : v0.cell? ⟨W.heap.size + 1, 0, none⟩ = some (.int .i64 bx) := cell_gr hv0 (by go_simp)
  have cv0_1_1 : v0.cell? ⟨W.heap.size + 1, 1, none⟩ = some (.int .i64 by') := cell_gr hv0 (by go_simp)
  have zv0_1 : W.heap.size + 1 < v0.heap.size := World.block_lt_of_cell? _ _ cv0_1_0
  have cv0_2_0 : v0.cell? ⟨W.heap.size + 1 + 1, 0, none⟩ = some (.int .i64 cx) := cell_gr hv0 (by go_simp)
  have cv0_2_1 : v0.cell? ⟨W.heap.size + 1 + 1, 1, none⟩ = some (.int .i64 cy) := cell_gr hv0 (by go_simp)
  have zv0_2 : W.heap.size + 1 + 1 < v0.heap.size := World.block_lt_of_cell? _ _ cv0_2_0
  have cv0_3_0 : v0.cell? ⟨W.heap.size + 1 + 1 + 1, 0, none⟩ = some (.int .i64 dx) := cell_gr hv0 (by go_simp)
  have cv0_3_1 : v0.cell? ⟨W.heap.size + 1 + 1 + 1, 1, none⟩ = some (.int .i64 dy) := cell_gr hv0 (by go_simp)
  have zv0_3 : W.heap.size + 1 + 1 + 1 < v0.heap.size := World.block_lt_of_cell? _ _ cv0_3_0
  have cv0_4_0 : v0.cell? ⟨W.heap.size + 1 + 1 + 1 + 1, 0, none⟩ = some (.int .i64 ax) := cell_gr hv0 (by go_simp)
  have cv0_4_1 : v0.cell? ⟨W.heap.size + 1 + 1 + 1 + 1, 1, none⟩ = some (.int .i64 ay) := cell_gr hv0 (by go_simp)
  have cv0_4_2 : v0.cell? ⟨W.heap.size + 1 + 1 + 1 + 1, 2, none⟩ = some (.int .i64 bx) := cell_gr hv0 (by go_simp)
  have cv0_4_3 : v0.cell? ⟨W.heap.size + 1 + 1 + 1 + 1, 3, none⟩ = some (.int .i64 by') := cell_gr hv0 (by go_simp)
  have cv0_4_4 : v0.cell? ⟨W.heap.size + 1 + 1 + 1 + 1, 4, none⟩ = some (.int .i64 cx) := cell_gr hv0 (by go_simp)
  have cv0_4_5 : v0.cell? ⟨W.heap.size + 1 + 1 + 1 + 1, 5, none⟩ = some (.int .i64 cy) := cell_gr hv0 (by go_simp)
  have cv0_4_6 : v0.cell? ⟨W.heap.size + 1 + 1 + 1 + 1, 6, none⟩ = some (.int .i64 dx) := cell_gr hv0 (by go_simp)
  have cv0_4_7 : v0.cell? ⟨W.heap.size + 1 + 1 + 1 + 1, 7, none⟩ = some (.int .i64 dy) := cell_gr hv0 (by go_simp)
  have zv0_4 : W.heap.size + 1 + 1 + 1 + 1 < v0.heap.size := World.block_lt_of_cell? _ _ cv0_4_0
  have cv0_5_0 : v0.cell? ⟨W.heap.size + 1 + 1 + 1 + 1 + 1, 0, none⟩ = some (.int .i64 ax) := cell_gr hv0 (by go_simp)
  have fv0_5_0 : v0.frozen? ⟨W.heap.size + 1 + 1 + 1 + 1 + 1, 0, none⟩ = false := frozen_gr (v := .int .i64 ax) hv0 (by go_simp) (by go_simp)
  have cv0_5_1 : v0.cell? ⟨W.heap.size + 1 + 1 + 1 + 1 + 1, 1, none⟩ = some (.int .i64 ay) := cell_gr hv0 (by go_simp)
  have fv0_5_1 : v0.frozen? ⟨W.heap.size + 1 + 1 + 1 + 1 + 1, 1, none⟩ = false := frozen_gr (v := .int .i64 ay) hv0 (by go_simp) (by go_simp)
  have cv0_5_2 : v0.cell? ⟨W.heap.size + 1 + 1 + 1 + 1 + 1, 2, none⟩ = some (.int .i64 bx) := cell_gr hv0 (by go_simp)
  have fv0_5_2 : v0.frozen? ⟨W.heap.size + 1 + 1 + 1 + 1 + 1, 2, none⟩ = false := frozen_gr (v := .int .i64 bx) hv0 (by go_simp) (by go_simp)
  have cv0_5_3 : v0.cell? ⟨W.heap.size + 1 + 1 + 1 + 1 + 1, 3, none⟩ = some (.int .i64 by') := cell_gr hv0 (by go_simp)
  have fv0_5_3 : v0.frozen? ⟨W.heap.size + 1 + 1 + 1 + 1 + 1, 3, none⟩ = false := frozen_gr (v := .int .i64 by') hv0 (by go_simp) (by go_simp)
  have cv0_5_4 : v0.cell? ⟨W.heap.size + 1 + 1 + 1 + 1 + 1, 4, none⟩ = some (.int .i64 cx) := cell_gr hv0 (by go_simp)
  have fv0_5_4 : v0.frozen? ⟨W.heap.size + 1 + 1 + 1 + 1 + 1, 4, none⟩ = false := frozen_gr (v := .int .i64 cx) hv0 (by go_simp) (by go_simp)
  have cv0_5_5 : v0.cell? ⟨W.heap.size + 1 + 1 + 1 + 1 + 1, 5, none⟩ = some (.int .i64 cy) := cell_gr hv0 (by go_simp)
  have fv0_5_5 : v0.frozen? ⟨W.heap.size + 1 + 1 + 1 + 1 + 1, 5, none⟩ = false := frozen_gr (v := .int .i64 cy) hv0 (by go_simp) (by go_simp)
  have cv0_5_6 : v0.cell? ⟨W.heap.size + 1 + 1 + 1 + 1 + 1, 6, none⟩ = some (.int .i64 dx) := cell_gr hv0 (by go_simp)
  have fv0_5_6 : v0.frozen? ⟨W.heap.size + 1 + 1 + 1 + 1 + 1, 6, none⟩ = false := frozen_gr (v := .int .i64 dx) hv0 (by go_simp) (by go_simp)
  have cv0_5_7 : v0.cell? ⟨W.heap.size + 1 + 1 + 1 + 1 + 1, 7, none⟩ = some (.int .i64 dy) := cell_gr hv0 (by go_simp)
  have fv0_5_7 : v0.frozen? ⟨W.heap.size + 1 + 1 + 1 + 1 + 1, 7, none⟩ = false := frozen_gr (v := .int .i64 dy) hv0 (by go_simp) (by go_simp)
  have zv0_5 : W.heap.size + 1 + 1 + 1 + 1 + 1 < v0.heap.size := World.block_lt_of_cell? _ _ cv0_5_0
  have gv0 : Gr W v0 := Gr.trans (by have gg := gu0; have gs := gg.size; go_grown) hv0
  clear hv0 hhv0 gu0 zu0_0 cu0_0_0 cu0_0_1 zu0_1 cu0_1_0 cu0_1_1 zu0_2 cu0_2_0 cu0_2_1 zu0_3 cu0_3_0 cu0_3_1 zu0_4 cu0_4_0 cu0_4_1 cu0_4_2 cu0_4_3 cu0_4_4 cu0_4_5 cu0_4_6 cu0_4_7 zu0_5 cu0_5_0 fu0_5_0 cu0_5_1 fu0_5_1 cu0_5_2 fu0_5_2 cu0_5_3 fu0_5_3 cu0_5_4 fu0_5_4 cu0_5_5 fu0_5_5 cu0_5_6 fu0_5_6 cu0_5_7 fu0_5_7
  go_wp2_with fail
  go_at_call 14
  refine ((HR0.out _)).mono ?_
  rintro e w0 ⟨rfl, hw0⟩
  have cw0_0_0 : w0.cell? ⟨W.heap.size, 0, none⟩ = some (.int .i64 ax) := cell_gr hw0 (by go_simp)
  have cw0_0_1 : w0.cell? ⟨W.heap.size, 1, none⟩ = some (.int .i64 ay) := cell_gr hw0 (by go_simp)
  have zw0_0 : W.heap.size < w0.heap.size := World.block_lt_of_cell? _ _ cw0_0_0
  have cw0_1_0 : w0.cell? ⟨W.heap.size + 1, 0, none⟩ = some (.int .i64 bx) := cell_gr hw0 (by go_simp)
  have cw0_1_1 : w0.cell? ⟨W.heap.size + 1, 1, none⟩ = some (.int .i64 by') := cell_gr hw0 (by go_simp)
  have zw0_1 : W.heap.size + 1 < w0.heap.size := World.block_lt_of_cell? _ _ cw0_1_0
  have cw0_2_0 : w0.cell? ⟨W.heap.size + 1 + 1, 0, none⟩ = some (.int .i64 cx) := cell_gr hw0 (by go_simp)
  have cw0_2_1 : w0.cell? ⟨W.heap.size + 1 + 1, 1, none⟩ = some (.int .i64 cy) := cell_gr hw0 (by go_simp)
  have zw0_2 : W.heap.size + 1 + 1 < w0.heap.size := World.block_lt_of_cell? _ _ cw0_2_0
  have cw0_3_0 : w0.cell? ⟨W.heap.size + 1 + 1 + 1, 0, none⟩ = some (.int .i64 dx) := cell_gr hw0 (by go_simp)
  have cw0_3_1 : w0.cell? ⟨W.heap.size + 1 + 1 + 1, 1, none⟩ = some (.int .i64 dy) := cell_gr hw0 (by go_simp)
  have zw0_3 : W.heap.size + 1 + 1 + 1 < w0.heap.size := World.block_lt_of_cell? _ _ cw0_3_0
  have cw0_4_0 : w0.cell? ⟨W.heap.size + 1 + 1 + 1 + 1, 0, none⟩ = some (.int .i64 ax) := cell_gr hw0 (by go_simp)
  have cw0_4_1 : w0.cell? ⟨W.heap.size + 1 + 1 + 1 + 1, 1, none⟩ = some (.int .i64 ay) := cell_gr hw0 (by go_simp)
  have cw0_4_2 : w0.cell? ⟨W.heap.size + 1 + 1 + 1 + 1, 2, none⟩ = some (.int .i64 bx) := cell_gr hw0 (by go_simp)
  have cw0_4_3 : w0.cell? ⟨W.heap.size + 1 + 1 + 1 + 1, 3, none⟩ = some (.int .i64 by') := cell_gr hw0 (by go_simp)
  have cw0_4_4 : w0.cell? ⟨W.heap.size + 1 + 1 + 1 + 1, 4, none⟩ = some (.int .i64 cx) := cell_gr hw0 (by go_simp)
  have cw0_4_5 : w0.cell? ⟨W.heap.size + 1 + 1 + 1 + 1, 5, none⟩ = some (.int .i64 cy) := cell_gr hw0 (by go_simp)
  have cw0_4_6 : w0.cell? ⟨W.heap.size + 1 + 1 + 1 + 1, 6, none⟩ = some (.int .i64 dx) := cell_gr hw0 (by go_simp)
  have cw0_4_7 : w0.cell? ⟨W.heap.size + 1 + 1 + 1 + 1, 7, none⟩ = some (.int .i64 dy) := cell_gr hw0 (by go_simp)
  have zw0_4 : W.heap.size + 1 + 1 + 1 + 1 < w0.heap.size := World.block_lt_of_cell? _ _ cw0_4_0
  have cw0_5_0 : w0.cell? ⟨W.heap.size + 1 + 1 + 1 + 1 + 1, 0, none⟩ = some (.int .i64 max) := cell_gr hw0 (by go_simp)
  have fw0_5_0 : w0.frozen? ⟨W.heap.size + 1 + 1 + 1 + 1 + 1, 0, none⟩ = false := frozen_gr (v := .int .i64 max) hw0 (by go_simp) (by go_simp)
  have cw0_5_1 : w0.cell? ⟨W.heap.size + 1 + 1 + 1 + 1 + 1, 1, none⟩ = some (.int .i64 may) := cell_gr hw0 (by go_simp)
  have fw0_5_1 : w0.frozen? ⟨W.heap.size + 1 + 1 + 1 + 1 + 1, 1, none⟩ = false := frozen_gr (v := .int .i64 may) hw0 (by go_simp) (by go_simp)
  have cw0_5_2 : w0.cell? ⟨W.heap.size + 1 + 1 + 1 + 1 + 1, 2, none⟩ = some (.int .i64 bx) := cell_gr hw0 (by go_simp)
  have fw0_5_2 : w0.frozen? ⟨W.heap.size + 1 + 1 + 1 + 1 + 1, 2, none⟩ = false := frozen_gr (v := .int .i64 bx) hw0 (by go_simp) (by go_simp)
  have cw0_5_3 : w0.cell? ⟨W.heap.size + 1 + 1 + 1 + 1 + 1, 3, none⟩ = some (.int .i64 by') := cell_gr hw0 (by go_simp)
  have fw0_5_3 : w0.frozen? ⟨W.heap.size + 1 + 1 + 1 + 1 + 1, 3, none⟩ = false := frozen_gr (v := .int .i64 by') hw0 (by go_simp) (by go_simp)
  have cw0_5_4 : w0.cell? ⟨W.heap.size + 1 + 1 + 1 + 1 + 1, 4, none⟩ = some (.int .i64 cx) := cell_gr hw0 (by go_simp)
  have fw0_5_4 : w0.frozen? ⟨W.heap.size + 1 + 1 + 1 + 1 + 1, 4, none⟩ = false := frozen_gr (v := .int .i64 cx) hw0 (by go_simp) (by go_simp)
  have cw0_5_5 : w0.cell? ⟨W.heap.size + 1 + 1 + 1 + 1 + 1, 5, none⟩ = some (.int .i64 cy) := cell_gr hw0 (by go_simp)
  have fw0_5_5 : w0.frozen? ⟨W.heap.size + 1 + 1 + 1 + 1 + 1, 5, none⟩ = false := frozen_gr (v := .int .i64 cy) hw0 (by go_simp) (by go_simp)
  have cw0_5_6 : w0.cell? ⟨W.heap.size + 1 + 1 + 1 + 1 + 1, 6, none⟩ = some (.int .i64 dx) := cell_gr hw0 (by go_simp)
  have fw0_5_6 : w0.frozen? ⟨W.heap.size + 1 + 1 + 1 + 1 + 1, 6, none⟩ = false := frozen_gr (v := .int .i64 dx) hw0 (by go_simp) (by go_simp)
  have cw0_5_7 : w0.cell? ⟨W.heap.size + 1 + 1 + 1 + 1 + 1, 7, none⟩ = some (.int .i64 dy) := cell_gr hw0 (by go_simp)
  have fw0_5_7 : w0.frozen? ⟨W.heap.size + 1 + 1 + 1 + 1 + 1, 7, none⟩ = false := frozen_gr (v := .int .i64 dy) hw0 (by go_simp) (by go_simp)
  have zw0_5 : W.heap.size + 1 + 1 + 1 + 1 + 1 < w0.heap.size := World.block_lt_of_cell? _ _ cw0_5_0
  have gw0 : Gr W w0 := Gr.trans (by have gg := gv0; have gs := gg.size; go_grown) hw0
  clear hw0 gv0 zv0_0 cv0_0_0 cv0_0_1 zv0_1 cv0_1_0 cv0_1_1 zv0_2 cv0_2_0 cv0_2_1 zv0_3 cv0_3_0 cv0_3_1 zv0_4 cv0_4_0 cv0_4_1 cv0_4_2 cv0_4_3 cv0_4_4 cv0_4_5 cv0_4_6 cv0_4_7 zv0_5 cv0_5_0 fv0_5_0 cv0_5_1 fv0_5_1 cv0_5_2 fv0_5_2 cv0_5_3 fv0_5_3 cv0_5_4 fv0_5_4 cv0_5_5 fv0_5_5 cv0_5_6 fv0_5_6 cv0_5_7 fv0_5_7
  go_wp2_with fail
  rw [rounds_succ]
  go_wp2_with fail
  go_at_call 14
  refine ((HA1.out _)).mono ?_
  rintro e u1 ⟨rfl, hu1⟩
  have cu1_0_0 : u1.cell? ⟨W.heap.size, 0, none⟩ = some (.int .i64 ax) := cell_gr hu1 (by go_simp)
  have cu1_0_1 : u1.cell? ⟨W.heap.size, 1, none⟩ = some (.int .i64 ay) := cell_gr hu1 (by go_simp)
  have zu1_0 : W.heap.size < u1.heap.size := World.block_lt_of_cell? _ _ cu1_0_0
  have cu1_1_0 : u1.cell? ⟨W.heap.size + 1, 0, none⟩ = some (.int .i64 bx) := cell_gr hu1 (by go_simp)
  have cu1_1_1 : u1.cell? ⟨W.heap.size + 1, 1, none⟩ = some (.int .i64 by') := cell_gr hu1 (by go_simp)
  have zu1_1 : W.heap.size + 1 < u1.heap.size := World.block_lt_of_cell? _ _ cu1_1_0
  have cu1_2_0 : u1.cell? ⟨W.heap.size + 1 + 1, 0, none⟩ = some (.int .i64 cx) := cell_gr hu1 (by go_simp)
  have cu1_2_1 : u1.cell? ⟨W.heap.size + 1 + 1, 1, none⟩ = some (.int .i64 cy) := cell_gr hu1 (by go_simp)
  have zu1_2 : W.heap.size + 1 + 1 < u1.heap.size := World.block_lt_of_cell? _ _ cu1_2_0
  have cu1_3_0 : u1.cell? ⟨W.heap.size + 1 + 1 + 1, 0, none⟩ = some (.int .i64 dx) := cell_gr hu1 (by go_simp)
  have cu1_3_1 : u1.cell? ⟨W.heap.size + 1 + 1 + 1, 1, none⟩ = some (.int .i64 dy) := cell_gr hu1 (by go_simp)
  have zu1_3 : W.heap.size + 1 + 1 + 1 < u1.heap.size := World.block_lt_of_cell? _ _ cu1_3_0
  have cu1_4_0 : u1.cell? ⟨W.heap.size + 1 + 1 + 1 + 1, 0, none⟩ = some (.int .i64 ax) := cell_gr hu1 (by go_simp)
  have cu1_4_1 : u1.cell? ⟨W.heap.size + 1 + 1 + 1 + 1, 1, none⟩ = some (.int .i64 ay) := cell_gr hu1 (by go_simp)
  have cu1_4_2 : u1.cell? ⟨W.heap.size + 1 + 1 + 1 + 1, 2, none⟩ = some (.int .i64 bx) := cell_gr hu1 (by go_simp)
  have cu1_4_3 : u1.cell? ⟨W.heap.size + 1 + 1 + 1 + 1, 3, none⟩ = some (.int .i64 by') := cell_gr hu1 (by go_simp)
  have cu1_4_4 : u1.cell? ⟨W.heap.size + 1 + 1 + 1 + 1, 4, none⟩ = some (.int .i64 cx) := cell_gr hu1 (by go_simp)
  have cu1_4_5 : u1.cell? ⟨W.heap.size + 1 + 1 + 1 + 1, 5, none⟩ = some (.int .i64 cy) := cell_gr hu1 (by go_simp)
  have cu1_4_6 : u1.cell? ⟨W.heap.size + 1 + 1 + 1 + 1, 6, none⟩ = some (.int .i64 dx) := cell_gr hu1 (by go_simp)
  have cu1_4_7 : u1.cell? ⟨W.heap.size + 1 + 1 + 1 + 1, 7, none⟩ = some (.int .i64 dy) := cell_gr hu1 (by go_simp)
  have zu1_4 : W.heap.size + 1 + 1 + 1 + 1 < u1.heap.size := World.block_lt_of_cell? _ _ cu1_4_0
  have cu1_5_0 : u1.cell? ⟨W.heap.size + 1 + 1 + 1 + 1 + 1, 0, none⟩ = some (.int .i64 max) := cell_gr hu1 (by go_simp)
  have fu1_5_0 : u1.frozen? ⟨W.heap.size + 1 + 1 + 1 + 1 + 1, 0, none⟩ = false := frozen_gr (v := .int .i64 max) hu1 (by go_simp) (by go_simp)
  have cu1_5_1 : u1.cell? ⟨W.heap.size + 1 + 1 + 1 + 1 + 1, 1, none⟩ = some (.int .i64 may) := cell_gr hu1 (by go_simp)
  have fu1_5_1 : u1.frozen? ⟨W.heap.size + 1 + 1 + 1 + 1 + 1, 1, none⟩ = false := frozen_gr (v := .int .i64 may) hu1 (by go_simp) (by go_simp)
  have cu1_5_2 : u1.cell? ⟨W.heap.size + 1 + 1 + 1 + 1 + 1, 2, none⟩ = some (.int .i64 bx) := cell_gr hu1 (by go_simp)
  have fu1_5_2 : u1.frozen? ⟨W.heap.size + 1 + 1 + 1 + 1 + 1, 2, none⟩ = false := frozen_gr (v := .int .i64 bx) hu1 (by go_simp) (by go_simp)
  have cu1_5_3 : u1.cell? ⟨W.heap.size + 1 + 1 + 1 + 1 + 1, 3, none⟩ = some (.int .i64 by') := cell_gr hu1 (by go_simp)
  have fu1_5_3 : u1.frozen? ⟨W.heap.size + 1 + 1 + 1 + 1 + 1, 3, none⟩ = false := frozen_gr (v := .int .i64 by') hu1 (by go_simp) (by go_simp)
  have cu1_5_4 : u1.cell? ⟨W.heap.size + 1 + 1 + 1 + 1 + 1, 4, none⟩ = some (.int .i64 cx) := cell_gr hu1 (by go_simp)
  have fu1_5_4 : u1.frozen? ⟨W.heap.size + 1 + 1 + 1 + 1 + 1, 4, none⟩ = false := frozen_gr (v := .int .i64 cx) hu1 (by go_simp) (by go_simp)
  have cu1_5_5 : u1.cell? ⟨W.heap.size + 1 + 1 + 1 + 1 + 1, 5, none⟩ = some (.int .i64 cy) := cell_gr hu1 (by go_simp)
  have fu1_5_5 : u1.frozen? ⟨W.heap.size + 1 + 1 + 1 + 1 + 1, 5, none⟩ = false := frozen_gr (v := .int .i64 cy) hu1 (by go_simp) (by go_simp)
  have cu1_5_6 : u1.cell? ⟨W.heap.size + 1 + 1 + 1 + 1 + 1, 6, none⟩ = some (.int .i64 dx) := cell_gr hu1 (by go_simp)
  have fu1_5_6 : u1.frozen? ⟨W.heap.size + 1 + 1 + 1 + 1 + 1, 6, none⟩ = false := frozen_gr (v := .int .i64 dx) hu1 (by go_simp) (by go_simp)
  have cu1_5_7 : u1.cell? ⟨W.heap.size + 1 + 1 + 1 + 1 + 1, 7, none⟩ = some (.int .i64 dy) := cell_gr hu1 (by go_simp)
  have fu1_5_7 : u1.frozen? ⟨W.heap.size + 1 + 1 + 1 + 1 + 1, 7, none⟩ = false := frozen_gr (v := .int .i64 dy) hu1 (by go_simp) (by go_simp)
  have zu1_5 : W.heap.size + 1 + 1 + 1 + 1 + 1 < u1.heap.size := World.block_lt_of_cell? _ _ cu1_5_0
  have gu1 : Gr W u1 := Gr.trans (by have gg := gw0; have gs := gg.size; go_grown) hu1
  clear hu1 gw0 zw0_0 cw0_0_0 cw0_0_1 zw0_1 cw0_1_0 cw0_1_1 zw0_2 cw0_2_0 cw0_2_1 zw0_3 cw0_3_0 cw0_3_1 zw0_4 cw0_4_0 cw0_4_1 cw0_4_2 cw0_4_3 cw0_4_4 cw0_4_5 cw0_4_6 cw0_4_7 zw0_5 cw0_5_0 fw0_5_0 cw0_5_1 fw0_5_1 cw0_5_2 fw0_5_2 cw0_5_3 fw0_5_3 cw0_5_4 fw0_5_4 cw0_5_5 fw0_5_5 cw0_5_6 fw0_5_6 cw0_5_7 fw0_5_7
  go_wp2_with fail
  refine Hd.wp_region_tail 18 (by kernel_rfl) (by kernel_rfl) ?_
  intro KQ hKQ
  repeat (first | (refine Hd.wpG_skip (by decide) rfl ?_; simp only [Act.put, List.setIfInBounds_toArray, List.set_cons_zero, List.set_cons_succ]) | (refine Hd.wpG_want (by decide) rfl ?_; apply Exists.intro; refine ⟨?_, ?_⟩; (· intro wx gx; (obtain ⟨mx, rfl⟩ := gx); all_goals (apply Hd.gAt_of_quiet; intro K hK; go_big_quiet_op; first | exact hK _ rfl | (apply Exists.intro; refine ⟨fun _ => ?_, ?_⟩; (· fail); exact hK _ rfl))); try simp only [Act.put, List.setIfInBounds_toArray, List.set_cons_zero, List.set_cons_succ]))
  refine Hd.wpG_nil (hKQ _ ?_)
  clear hKQ KQ
  intro v1 hhv1
  have hv1 := Hd.gr_of_spread hhv1
  have cv1_0_0 : v1.cell? ⟨W.heap.size, 0, none⟩ = some (.int .i64 ax) := cell_gr hv1 (by go_simp)
  have cv1_0_1 : v1.cell? ⟨W.heap.size, 1, none⟩ = some (.int .i64 ay) := cell_gr hv1 (by go_simp)
  have zv1_0 : W.heap.size < v1.heap.size := World.block_lt_of_cell? _ _ cv1_0_0
  have cv1_1_0 : v1.cell? ⟨W.heap.size + 1, 0, none⟩ = some (.int .i64 bx) := cell_gr hv1 (by go_simp)
  have cv1_1_1 : v1.cell? ⟨W.heap.size + 1, 1, none⟩ = some (.int .i64 by') := cell_gr hv1 (by go_simp)
  have zv1_1 : W.heap.size + 1 < v1.heap.size := World.block_lt_of_cell? _ _ cv1_1_0
  have cv1_2_0 : v1.cell? ⟨W.heap.size + 1 + 1, 0, none⟩ = some (.int .i64 cx) := cell_gr hv1 (by go_simp)
  have cv1_2_1 : v1.cell? ⟨W.heap.size + 1 + 1, 1, none⟩ = some (.int .i64 cy) := cell_gr hv1 (by go_simp)
  have zv1_2 : W.heap.size + 1 + 1 < v1.heap.size := World.block_lt_of_cell? _ _ cv1_2_0
  have cv1_3_0 : v1.cell? ⟨W.heap.size + 1 + 1 + 1, 0, none⟩ = some (.int .i64 dx) := cell_gr hv1 (by go_simp)
  have cv1_3_1 : v1.cell? ⟨W.heap.size + 1 + 1 + 1, 1, none⟩ = some (.int .i64 dy) := cell_gr hv1 (by go_simp)
  have zv1_3 : W.heap.size + 1 + 1 + 1 < v1.heap.size := World.block_lt_of_cell? _ _ cv1_3_0
  have cv1_4_0 : v1.cell? ⟨W.heap.size + 1 + 1 + 1 + 1, 0, none⟩ = some (.int .i64 ax) := cell_gr hv1 (by go_simp)
  have cv1_4_1 : v1.cell? ⟨W.heap.size + 1 + 1 + 1 + 1, 1, none⟩ = some (.int .i64 ay) := cell_gr hv1 (by go_simp)
  have cv1_4_2 : v1.cell? ⟨W.heap.size + 1 + 1 + 1 + 1, 2, none⟩ = some (.int .i64 bx) := cell_gr hv1 (by go_simp)
  have cv1_4_3 : v1.cell? ⟨W.heap.size + 1 + 1 + 1 + 1, 3, none⟩ = some (.int .i64 by') := cell_gr hv1 (by go_simp)
  have cv1_4_4 : v1.cell? ⟨W.heap.size + 1 + 1 + 1 + 1, 4, none⟩ = some (.int .i64 cx) := cell_gr hv1 (by go_simp)
  have cv1_4_5 : v1.cell? ⟨W.heap.size + 1 + 1 + 1 + 1, 5, none⟩ = some (.int .i64 cy) := cell_gr hv1 (by go_simp)
  have cv1_4_6 : v1.cell? ⟨W.heap.size + 1 + 1 + 1 + 1, 6, none⟩ = some (.int .i64 dx) := cell_gr hv1 (by go_simp)
  have cv1_4_7 : v1.cell? ⟨W.heap.size + 1 + 1 + 1 + 1, 7, none⟩ = some (.int .i64 dy) := cell_gr hv1 (by go_simp)
  have zv1_4 : W.heap.size + 1 + 1 + 1 + 1 < v1.heap.size := World.block_lt_of_cell? _ _ cv1_4_0
  have cv1_5_0 : v1.cell? ⟨W.heap.size + 1 + 1 + 1 + 1 + 1, 0, none⟩ = some (.int .i64 max) := cell_gr hv1 (by go_simp)
  have fv1_5_0 : v1.frozen? ⟨W.heap.size + 1 + 1 + 1 + 1 + 1, 0, none⟩ = false := frozen_gr (v := .int .i64 max) hv1 (by go_simp) (by go_simp)
  have cv1_5_1 : v1.cell? ⟨W.heap.size + 1 + 1 + 1 + 1 + 1, 1, none⟩ = some (.int .i64 may) := cell_gr hv1 (by go_simp)
  have fv1_5_1 : v1.frozen? ⟨W.heap.size + 1 + 1 + 1 + 1 + 1, 1, none⟩ = false := frozen_gr (v := .int .i64 may) hv1 (by go_simp) (by go_simp)
  have cv1_5_2 : v1.cell? ⟨W.heap.size + 1 + 1 + 1 + 1 + 1, 2, none⟩ = some (.int .i64 bx) := cell_gr hv1 (by go_simp)
  have fv1_5_2 : v1.frozen? ⟨W.heap.size + 1 + 1 + 1 + 1 + 1, 2, none⟩ = false := frozen_gr (v := .int .i64 bx) hv1 (by go_simp) (by go_simp)
  have cv1_5_3 : v1.cell? ⟨W.heap.size + 1 + 1 + 1 + 1 + 1, 3, none⟩ = some (.int .i64 by') := cell_gr hv1 (by go_simp)
  have fv1_5_3 : v1.frozen? ⟨W.heap.size + 1 + 1 + 1 + 1 + 1, 3, none⟩ = false := frozen_gr (v := .int .i64 by') hv1 (by go_simp) (by go_simp)
  have cv1_5_4 : v1.cell? ⟨W.heap.size + 1 + 1 + 1 + 1 + 1, 4, none⟩ = some (.int .i64 cx) := cell_gr hv1 (by go_simp)
  have fv1_5_4 : v1.frozen? ⟨W.heap.size + 1 + 1 + 1 + 1 + 1, 4, none⟩ = false := frozen_gr (v := .int .i64 cx) hv1 (by go_simp) (by go_simp)
  have cv1_5_5 : v1.cell? ⟨W.heap.size + 1 + 1 + 1 + 1 + 1, 5, none⟩ = some (.int .i64 cy) := cell_gr hv1 (by go_simp)
  have fv1_5_5 : v1.frozen? ⟨W.heap.size + 1 + 1 + 1 + 1 + 1, 5, none⟩ = false := frozen_gr (v := .int .i64 cy) hv1 (by go_simp) (by go_simp)
  have cv1_5_6 : v1.cell? ⟨W.heap.size + 1 + 1 + 1 + 1 + 1, 6, none⟩ = some (.int .i64 dx) := cell_gr hv1 (by go_simp)
  have fv1_5_6 : v1.frozen? ⟨W.heap.size + 1 + 1 + 1 + 1 + 1, 6, none⟩ = false := frozen_gr (v := .int .i64 dx) hv1 (by go_simp) (by go_simp)
  have cv1_5_7 : v1.cell? ⟨W.heap.size + 1 + 1 + 1 + 1 + 1, 7, none⟩ = some (.int .i64 dy) := cell_gr hv1 (by go_simp)
  have fv1_5_7 : v1.frozen? ⟨W.heap.size + 1 + 1 + 1 + 1 + 1, 7, none⟩ = false := frozen_gr (v := .int .i64 dy) hv1 (by go_simp) (by go_simp)
  have zv1_5 : W.heap.size + 1 + 1 + 1 + 1 + 1 < v1.heap.size := World.block_lt_of_cell? _ _ cv1_5_0
  have gv1 : Gr W v1 := Gr.trans (by have gg := gu1; have gs := gg.size; go_grown) hv1
  clear hv1 hhv1 gu1 zu1_0 cu1_0_0 cu1_0_1 zu1_1 cu1_1_0 cu1_1_1 zu1_2 cu1_2_0 cu1_2_1 zu1_3 cu1_3_0 cu1_3_1 zu1_4 cu1_4_0 cu1_4_1 cu1_4_2 cu1_4_3 cu1_4_4 cu1_4_5 cu1_4_6 cu1_4_7 zu1_5 cu1_5_0 fu1_5_0 cu1_5_1 fu1_5_1 cu1_5_2 fu1_5_2 cu1_5_3 fu1_5_3 cu1_5_4 fu1_5_4 cu1_5_5 fu1_5_5 cu1_5_6 fu1_5_6 cu1_5_7 fu1_5_7
  go_wp2_with fail
  go_at_call 14
  refine ((HR1.out _)).mono ?_
  rintro e w1 ⟨rfl, hw1⟩
  have cw1_0_0 : w1.cell? ⟨W.heap.size, 0, none⟩ = some (.int .i64 ax) := cell_gr hw1 (by go_simp)
  have cw1_0_1 : w1.cell? ⟨W.heap.size, 1, none⟩ = some (.int .i64 ay) := cell_gr hw1 (by go_simp)
  have zw1_0 : W.heap.size < w1.heap.size := World.block_lt_of_cell? _ _ cw1_0_0
  have cw1_1_0 : w1.cell? ⟨W.heap.size + 1, 0, none⟩ = some (.int .i64 bx) := cell_gr hw1 (by go_simp)
  have cw1_1_1 : w1.cell? ⟨W.heap.size + 1, 1, none⟩ = some (.int .i64 by') := cell_gr hw1 (by go_simp)
  have zw1_1 : W.heap.size + 1 < w1.heap.size := World.block_lt_of_cell? _ _ cw1_1_0
  have cw1_2_0 : w1.cell? ⟨W.heap.size + 1 + 1, 0, none⟩ = some (.int .i64 cx) := cell_gr hw1 (by go_simp)
  have cw1_2_1 : w1.cell? ⟨W.heap.size + 1 + 1, 1, none⟩ = some (.int .i64 cy) := cell_gr hw1 (by go_simp)
  have zw1_2 : W.heap.size + 1 + 1 < w1.heap.size := World.block_lt_of_cell? _ _ cw1_2_0
  have cw1_3_0 : w1.cell? ⟨W.heap.size + 1 + 1 + 1, 0, none⟩ = some (.int .i64 dx) := cell_gr hw1 (by go_simp)
  have cw1_3_1 : w1.cell? ⟨W.heap.size + 1 + 1 + 1, 1, none⟩ = some (.int .i64 dy) := cell_gr hw1 (by go_simp)
  have zw1_3 : W.heap.size + 1 + 1 + 1 < w1.heap.size := World.block_lt_of_cell? _ _ cw1_3_0
  have cw1_4_0 : w1.cell? ⟨W.heap.size + 1 + 1 + 1 + 1, 0, none⟩ = some (.int .i64 ax) := cell_gr hw1 (by go_simp)
  have cw1_4_1 : w1.cell? ⟨W.heap.size + 1 + 1 + 1 + 1, 1, none⟩ = some (.int .i64 ay) := cell_gr hw1 (by go_simp)
  have cw1_4_2 : w1.cell? ⟨W.heap.size + 1 + 1 + 1 + 1, 2, none⟩ = some (.int .i64 bx) := cell_gr hw1 (by go_simp)
  have cw1_4_3 : w1.cell? ⟨W.heap.size + 1 + 1 + 1 + 1, 3, none⟩ = some (.int .i64 by') := cell_gr hw1 (by go_simp)
  have cw1_4_4 : w1.cell? ⟨W.heap.size + 1 + 1 + 1 + 1, 4, none⟩ = some (.int .i64 cx) := cell_gr hw1 (by go_simp)
  have cw1_4_5 : w1.cell? ⟨W.heap.size + 1 + 1 + 1 + 1, 5, none⟩ = some (.int .i64 cy) := cell_gr hw1 (by go_simp)
  have cw1_4_6 : w1.cell? ⟨W.heap.size + 1 + 1 + 1 + 1, 6, none⟩ = some (.int .i64 dx) := cell_gr hw1 (by go_simp)
  have cw1_4_7 : w1.cell? ⟨W.heap.size + 1 + 1 + 1 + 1, 7, none⟩ = some (.int .i64 dy) := cell_gr hw1 (by go_simp)
  have zw1_4 : W.heap.size + 1 + 1 + 1 + 1 < w1.heap.size := World.block_lt_of_cell? _ _ cw1_4_0
  have cw1_5_0 : w1.cell? ⟨W.heap.size + 1 + 1 + 1 + 1 + 1, 0, none⟩ = some (.int .i64 max) := cell_gr hw1 (by go_simp)
  have fw1_5_0 : w1.frozen? ⟨W.heap.size + 1 + 1 + 1 + 1 + 1, 0, none⟩ = false := frozen_gr (v := .int .i64 max) hw1 (by go_simp) (by go_simp)
  have cw1_5_1 : w1.cell? ⟨W.heap.size + 1 + 1 + 1 + 1 + 1, 1, none⟩ = some (.int .i64 may) := cell_gr hw1 (by go_simp)
  have fw1_5_1 : w1.frozen? ⟨W.heap.size + 1 + 1 + 1 + 1 + 1, 1, none⟩ = false := frozen_gr (v := .int .i64 may) hw1 (by go_simp) (by go_simp)
  have cw1_5_2 : w1.cell? ⟨W.heap.size + 1 + 1 + 1 + 1 + 1, 2, none⟩ = some (.int .i64 mbx) := cell_gr hw1 (by go_simp)
  have fw1_5_2 : w1.frozen? ⟨W.heap.size + 1 + 1 + 1 + 1 + 1, 2, none⟩ = false := frozen_gr (v := .int .i64 mbx) hw1 (by go_simp) (by go_simp)
  have cw1_5_3 : w1.cell? ⟨W.heap.size + 1 + 1 + 1 + 1 + 1, 3, none⟩ = some (.int .i64 mby) := cell_gr hw1 (by go_simp)
  have fw1_5_3 : w1.frozen? ⟨W.heap.size + 1 + 1 + 1 + 1 + 1, 3, none⟩ = false := frozen_gr (v := .int .i64 mby) hw1 (by go_simp) (by go_simp)
  have cw1_5_4 : w1.cell? ⟨W.heap.size + 1 + 1 + 1 + 1 + 1, 4, none⟩ = some (.int .i64 cx) := cell_gr hw1 (by go_simp)
  have fw1_5_4 : w1.frozen? ⟨W.heap.size + 1 + 1 + 1 + 1 + 1, 4, none⟩ = false := frozen_gr (v := .int .i64 cx) hw1 (by go_simp) (by go_simp)
  have cw1_5_5 : w1.cell? ⟨W.heap.size + 1 + 1 + 1 + 1 + 1, 5, none⟩ = some (.int .i64 cy) := cell_gr hw1 (by go_simp)
  have fw1_5_5 : w1.frozen? ⟨W.heap.size + 1 + 1 + 1 + 1 + 1, 5, none⟩ = false := frozen_gr (v := .int .i64 cy) hw1 (by go_simp) (by go_simp)
  have cw1_5_6 : w1.cell? ⟨W.heap.size + 1 + 1 + 1 + 1 + 1, 6, none⟩ = some (.int .i64 dx) := cell_gr hw1 (by go_simp)
  have fw1_5_6 : w1.frozen? ⟨W.heap.size + 1 + 1 + 1 + 1 + 1, 6, none⟩ = false := frozen_gr (v := .int .i64 dx) hw1 (by go_simp) (by go_simp)
  have cw1_5_7 : w1.cell? ⟨W.heap.size + 1 + 1 + 1 + 1 + 1, 7, none⟩ = some (.int .i64 dy) := cell_gr hw1 (by go_simp)
  have fw1_5_7 : w1.frozen? ⟨W.heap.size + 1 + 1 + 1 + 1 + 1, 7, none⟩ = false := frozen_gr (v := .int .i64 dy) hw1 (by go_simp) (by go_simp)
  have zw1_5 : W.heap.size + 1 + 1 + 1 + 1 + 1 < w1.heap.size := World.block_lt_of_cell? _ _ cw1_5_0
  have gw1 : Gr W w1 := Gr.trans (by have gg := gv1; have gs := gg.size; go_grown) hw1
  clear hw1 gv1 zv1_0 cv1_0_0 cv1_0_1 zv1_1 cv1_1_0 cv1_1_1 zv1_2 cv1_2_0 cv1_2_1 zv1_3 cv1_3_0 cv1_3_1 zv1_4 cv1_4_0 cv1_4_1 cv1_4_2 cv1_4_3 cv1_4_4 cv1_4_5 cv1_4_6 cv1_4_7 zv1_5 cv1_5_0 fv1_5_0 cv1_5_1 fv1_5_1 cv1_5_2 fv1_5_2 cv1_5_3 fv1_5_3 cv1_5_4 fv1_5_4 cv1_5_5 fv1_5_5 cv1_5_6 fv1_5_6 cv1_5_7 fv1_5_7
  go_wp2_with fail
  rw [rounds_succ]
  go_wp2_with fail
  go_at_call 14
  refine ((HA2.out _)).mono ?_
  rintro e u2 ⟨rfl, hu2⟩
  have cu2_0_0 : u2.cell? ⟨W.heap.size, 0, none⟩ = some (.int .i64 ax) := cell_gr hu2 (by go_simp)
  have cu2_0_1 : u2.cell? ⟨W.heap.size, 1, none⟩ = some (.int .i64 ay) := cell_gr hu2 (by go_simp)
  have zu2_0 : W.heap.size < u2.heap.size := World.block_lt_of_cell? _ _ cu2_0_0
  have cu2_1_0 : u2.cell? ⟨W.heap.size + 1, 0, none⟩ = some (.int .i64 bx) := cell_gr hu2 (by go_simp)
  have cu2_1_1 : u2.cell? ⟨W.heap.size + 1, 1, none⟩ = some (.int .i64 by') := cell_gr hu2 (by go_simp)
  have zu2_1 : W.heap.size + 1 < u2.heap.size := World.block_lt_of_cell? _ _ cu2_1_0
  have cu2_2_0 : u2.cell? ⟨W.heap.size + 1 + 1, 0, none⟩ = some (.int .i64 cx) := cell_gr hu2 (by go_simp)
  have cu2_2_1 : u2.cell? ⟨W.heap.size + 1 + 1, 1, none⟩ = some (.int .i64 cy) := cell_gr hu2 (by go_simp)
  have zu2_2 : W.heap.size + 1 + 1 < u2.heap.size := World.block_lt_of_cell? _ _ cu2_2_0
  have cu2_3_0 : u2.cell? ⟨W.heap.size + 1 + 1 + 1, 0, none⟩ = some (.int .i64 dx) := cell_gr hu2 (by go_simp)
  have cu2_3_1 : u2.cell? ⟨W.heap.size + 1 + 1 + 1, 1, none⟩ = some (.int .i64 dy) := cell_gr hu2 (by go_simp)
  have zu2_3 : W.heap.size + 1 + 1 + 1 < u2.heap.size := World.block_lt_of_cell? _ _ cu2_3_0
  have cu2_4_0 : u2.cell? ⟨W.heap.size + 1 + 1 + 1 + 1, 0, none⟩ = some (.int .i64 ax) := cell_gr hu2 (by go_simp)
  have cu2_4_1 : u2.cell? ⟨W.heap.size + 1 + 1 + 1 + 1, 1, none⟩ = some (.int .i64 ay) := cell_gr hu2 (by go_simp)
  have cu2_4_2 : u2.cell? ⟨W.heap.size + 1 + 1 + 1 + 1, 2, none⟩ = some (.int .i64 bx) := cell_gr hu2 (by go_simp)
  have cu2_4_3 : u2.cell? ⟨W.heap.size + 1 + 1 + 1 + 1, 3, none⟩ = some (.int .i64 by') := cell_gr hu2 (by go_simp)
  have cu2_4_4 : u2.cell? ⟨W.heap.size + 1 + 1 + 1 + 1, 4, none⟩ = some (.int .i64 cx) := cell_gr hu2 (by go_simp)
  have cu2_4_5 : u2.cell? ⟨W.heap.size + 1 + 1 + 1 + 1, 5, none⟩ = some (.int .i64 cy) := cell_gr hu2 (by go_simp)
  have cu2_4_6 : u2.cell? ⟨W.heap.size + 1 + 1 + 1 + 1, 6, none⟩ = some (.int .i64 dx) := cell_gr hu2 (by go_simp)
  have cu2_4_7 : u2.cell? ⟨W.heap.size + 1 + 1 + 1 + 1, 7, none⟩ = some (.int .i64 dy) := cell_gr hu2 (by go_simp)
  have zu2_4 : W.heap.size + 1 + 1 + 1 + 1 < u2.heap.size := World.block_lt_of_cell? _ _ cu2_4_0
  have cu2_5_0 : u2.cell? ⟨W.heap.size + 1 + 1 + 1 + 1 + 1, 0, none⟩ = some (.int .i64 max) := cell_gr hu2 (by go_simp)
  have fu2_5_0 : u2.frozen? ⟨W.heap.size + 1 + 1 + 1 + 1 + 1, 0, none⟩ = false := frozen_gr (v := .int .i64 max) hu2 (by go_simp) (by go_simp)
  have cu2_5_1 : u2.cell? ⟨W.heap.size + 1 + 1 + 1 + 1 + 1, 1, none⟩ = some (.int .i64 may) := cell_gr hu2 (by go_simp)
  have fu2_5_1 : u2.frozen? ⟨W.heap.size + 1 + 1 + 1 + 1 + 1, 1, none⟩ = false := frozen_gr (v := .int .i64 may) hu2 (by go_simp) (by go_simp)
  have cu2_5_2 : u2.cell? ⟨W.heap.size + 1 + 1 + 1 + 1 + 1, 2, none⟩ = some (.int .i64 mbx) := cell_gr hu2 (by go_simp)
  have fu2_5_2 : u2.frozen? ⟨W.heap.size + 1 + 1 + 1 + 1 + 1, 2, none⟩ = false := frozen_gr (v := .int .i64 mbx) hu2 (by go_simp) (by go_simp)
  have cu2_5_3 : u2.cell? ⟨W.heap.size + 1 + 1 + 1 + 1 + 1, 3, none⟩ = some (.int .i64 mby) := cell_gr hu2 (by go_simp)
  have fu2_5_3 : u2.frozen? ⟨W.heap.size + 1 + 1 + 1 + 1 + 1, 3, none⟩ = false := frozen_gr (v := .int .i64 mby) hu2 (by go_simp) (by go_simp)
  have cu2_5_4 : u2.cell? ⟨W.heap.size + 1 + 1 + 1 + 1 + 1, 4, none⟩ = some (.int .i64 cx) := cell_gr hu2 (by go_simp)
  have fu2_5_4 : u2.frozen? ⟨W.heap.size + 1 + 1 + 1 + 1 + 1, 4, none⟩ = false := frozen_gr (v := .int .i64 cx) hu2 (by go_simp) (by go_simp)
  have cu2_5_5 : u2.cell? ⟨W.heap.size + 1 + 1 + 1 + 1 + 1, 5, none⟩ = some (.int .i64 cy) := cell_gr hu2 (by go_simp)
  have fu2_5_5 : u2.frozen? ⟨W.heap.size + 1 + 1 + 1 + 1 + 1, 5, none⟩ = false := frozen_gr (v := .int .i64 cy) hu2 (by go_simp) (by go_simp)
  have cu2_5_6 : u2.cell? ⟨W.heap.size + 1 + 1 + 1 + 1 + 1, 6, none⟩ = some (.int .i64 dx) := cell_gr hu2 (by go_simp)
  have fu2_5_6 : u2.frozen? ⟨W.heap.size + 1 + 1 + 1 + 1 + 1, 6, none⟩ = false := frozen_gr (v := .int .i64 dx) hu2 (by go_simp) (by go_simp)
  have cu2_5_7 : u2.cell? ⟨W.heap.size + 1 + 1 + 1 + 1 + 1, 7, none⟩ = some (.int .i64 dy) := cell_gr hu2 (by go_simp)
  have fu2_5_7 : u2.frozen? ⟨W.heap.size + 1 + 1 + 1 + 1 + 1, 7, none⟩ = false := frozen_gr (v := .int .i64 dy) hu2 (by go_simp) (by go_simp)
  have zu2_5 : W.heap.size + 1 + 1 + 1 + 1 + 1 < u2.heap.size := World.block_lt_of_cell? _ _ cu2_5_0
  have gu2 : Gr W u2 := Gr.trans (by have gg := gw1; have gs := gg.size; go_grown) hu2
  clear hu2 gw1 zw1_0 cw1_0_0 cw1_0_1 zw1_1 cw1_1_0 cw1_1_1 zw1_2 cw1_2_0 cw1_2_1 zw1_3 cw1_3_0 cw1_3_1 zw1_4 cw1_4_0 cw1_4_1 cw1_4_2 cw1_4_3 cw1_4_4 cw1_4_5 cw1_4_6 cw1_4_7 zw1_5 cw1_5_0 fw1_5_0 cw1_5_1 fw1_5_1 cw1_5_2 fw1_5_2 cw1_5_3 fw1_5_3 cw1_5_4 fw1_5_4 cw1_5_5 fw1_5_5 cw1_5_6 fw1_5_6 cw1_5_7 fw1_5_7
  go_wp2_with fail
  refine Hd.wp_region_tail 18 (by kernel_rfl) (by kernel_rfl) ?_
  intro KQ hKQ
  repeat (first | (refine Hd.wpG_skip (by decide) rfl ?_; simp only [Act.put, List.setIfInBounds_toArray, List.set_cons_zero, List.set_cons_succ]) | (refine Hd.wpG_want (by decide) rfl ?_; apply Exists.intro; refine ⟨?_, ?_⟩; (· intro wx gx; (obtain ⟨mx, rfl⟩ := gx); all_goals (apply Hd.gAt_of_quiet; intro K hK; go_big_quiet_op; first | exact hK _ rfl | (apply Exists.intro; refine ⟨fun _ => ?_, ?_⟩; (· fail); exact hK _ rfl))); try simp only [Act.put, List.setIfInBounds_toArray, List.set_cons_zero, List.set_cons_succ]))
  refine Hd.wpG_nil (hKQ _ ?_)
  clear hKQ KQ
  intro v2 hhv2
  have hv2 := Hd.gr_of_spread hhv2
  have cv2_0_0 : v2.cell? ⟨W.heap.size, 0, none⟩ = some (.int .i64 ax) := cell_gr hv2 (by go_simp)
  have cv2_0_1 : v2.cell? ⟨W.heap.size, 1, none⟩ = some (.int .i64 ay) := cell_gr hv2 (by go_simp)
  have zv2_0 : W.heap.size < v2.heap.size := World.block_lt_of_cell? _ _ cv2_0_0
  have cv2_1_0 : v2.cell? ⟨W.heap.size + 1, 0, none⟩ = some (.int .i64 bx) := cell_gr hv2 (by go_simp)
  have cv2_1_1 : v2.cell? ⟨W.heap.size + 1, 1, none⟩ = some (.int .i64 by') := cell_gr hv2 (by go_simp)
  have zv2_1 : W.heap.size + 1 < v2.heap.size := World.block_lt_of_cell? _ _ cv2_1_0
  have cv2_2_0 : v2.cell? ⟨W.heap.size + 1 + 1, 0, none⟩ = some (.int .i64 cx) := cell_gr hv2 (by go_simp)
  have cv2_2_1 : v2.cell? ⟨W.heap.size + 1 + 1, 1, none⟩ = some (.int .i64 cy) := cell_gr hv2 (by go_simp)
  have zv2_2 : W.heap.size + 1 + 1 < v2.heap.size := World.block_lt_of_cell? _ _ cv2_2_0
  have cv2_3_0 : v2.cell? ⟨W.heap.size + 1 + 1 + 1, 0, none⟩ = some (.int .i64 dx) := cell_gr hv2 (by go_simp)
  have cv2_3_1 : v2.cell? ⟨W.heap.size + 1 + 1 + 1, 1, none⟩ = some (.int .i64 dy) := cell_gr hv2 (by go_simp)
  have zv2_3 : W.heap.size + 1 + 1 + 1 < v2.heap.size := World.block_lt_of_cell? _ _ cv2_3_0
  have cv2_4_0 : v2.cell? ⟨W.heap.size + 1 + 1 + 1 + 1, 0, none⟩ = some (.int .i64 ax) := cell_gr hv2 (by go_simp)
  have cv2_4_1 : v2.cell? ⟨W.heap.size + 1 + 1 + 1 + 1, 1, none⟩ = some (.int .i64 ay) := cell_gr hv2 (by go_simp)
  have cv2_4_2 : v2.cell? ⟨W.heap.size + 1 + 1 + 1 + 1, 2, none⟩ = some (.int .i64 bx) := cell_gr hv2 (by go_simp)
  have cv2_4_3 : v2.cell? ⟨W.heap.size + 1 + 1 + 1 + 1, 3, none⟩ = some (.int .i64 by') := cell_gr hv2 (by go_simp)
  have cv2_4_4 : v2.cell? ⟨W.heap.size + 1 + 1 + 1 + 1, 4, none⟩ = some (.int .i64 cx) := cell_gr hv2 (by go_simp)
  have cv2_4_5 : v2.cell? ⟨W.heap.size + 1 + 1 + 1 + 1, 5, none⟩ = some (.int .i64 cy) := cell_gr hv2 (by go_simp)
  have cv2_4_6 : v2.cell? ⟨W.heap.size + 1 + 1 + 1 + 1, 6, none⟩ = some (.int .i64 dx) := cell_gr hv2 (by go_simp)
  have cv2_4_7 : v2.cell? ⟨W.heap.size + 1 + 1 + 1 + 1, 7, none⟩ = some (.int .i64 dy) := cell_gr hv2 (by go_simp)
  have zv2_4 : W.heap.size + 1 + 1 + 1 + 1 < v2.heap.size := World.block_lt_of_cell? _ _ cv2_4_0
  have cv2_5_0 : v2.cell? ⟨W.heap.size + 1 + 1 + 1 + 1 + 1, 0, none⟩ = some (.int .i64 max) := cell_gr hv2 (by go_simp)
  have fv2_5_0 : v2.frozen? ⟨W.heap.size + 1 + 1 + 1 + 1 + 1, 0, none⟩ = false := frozen_gr (v := .int .i64 max) hv2 (by go_simp) (by go_simp)
  have cv2_5_1 : v2.cell? ⟨W.heap.size + 1 + 1 + 1 + 1 + 1, 1, none⟩ = some (.int .i64 may) := cell_gr hv2 (by go_simp)
  have fv2_5_1 : v2.frozen? ⟨W.heap.size + 1 + 1 + 1 + 1 + 1, 1, none⟩ = false := frozen_gr (v := .int .i64 may) hv2 (by go_simp) (by go_simp)
  have cv2_5_2 : v2.cell? ⟨W.heap.size + 1 + 1 + 1 + 1 + 1, 2, none⟩ = some (.int .i64 mbx) := cell_gr hv2 (by go_simp)
  have fv2_5_2 : v2.frozen? ⟨W.heap.size + 1 + 1 + 1 + 1 + 1, 2, none⟩ = false := frozen_gr (v := .int .i64 mbx) hv2 (by go_simp) (by go_simp)
  have cv2_5_3 : v2.cell? ⟨W.heap.size + 1 + 1 + 1 + 1 + 1, 3, none⟩ = some (.int .i64 mby) := cell_gr hv2 (by go_simp)
  have fv2_5_3 : v2.frozen? ⟨W.heap.size + 1 + 1 + 1 + 1 + 1, 3, none⟩ = false := frozen_gr (v := .int .i64 mby) hv2 (by go_simp) (by go_simp)
  have cv2_5_4 : v2.cell? ⟨W.heap.size + 1 + 1 + 1 + 1 + 1, 4, none⟩ = some (.int .i64 cx) := cell_gr hv2 (by go_simp)
  have fv2_5_4 : v2.frozen? ⟨W.heap.size + 1 + 1 + 1 + 1 + 1, 4, none⟩ = false := frozen_gr (v := .int .i64 cx) hv2 (by go_simp) (by go_simp)
  have cv2_5_5 : v2.cell? ⟨W.heap.size + 1 + 1 + 1 + 1 + 1, 5, none⟩ = some (.int .i64 cy) := cell_gr hv2 (by go_simp)
  have fv2_5_5 : v2.frozen? ⟨W.heap.size + 1 + 1 + 1 + 1 + 1, 5, none⟩ = false := frozen_gr (v := .int .i64 cy) hv2 (by go_simp) (by go_simp)
  have cv2_5_6 : v2.cell? ⟨W.heap.size + 1 + 1 + 1 + 1 + 1, 6, none⟩ = some (.int .i64 dx) := cell_gr hv2 (by go_simp)
  have fv2_5_6 : v2.frozen? ⟨W.heap.size + 1 + 1 + 1 + 1 + 1, 6, none⟩ = false := frozen_gr (v := .int .i64 dx) hv2 (by go_simp) (by go_simp)
  have cv2_5_7 : v2.cell? ⟨W.heap.size + 1 + 1 + 1 + 1 + 1, 7, none⟩ = some (.int .i64 dy) := cell_gr hv2 (by go_simp)
  have fv2_5_7 : v2.frozen? ⟨W.heap.size + 1 + 1 + 1 + 1 + 1, 7, none⟩ = false := frozen_gr (v := .int .i64 dy) hv2 (by go_simp) (by go_simp)
  have zv2_5 : W.heap.size + 1 + 1 + 1 + 1 + 1 < v2.heap.size := World.block_lt_of_cell? _ _ cv2_5_0
  have gv2 : Gr W v2 := Gr.trans (by have gg := gu2; have gs := gg.size; go_grown) hv2
  clear hv2 hhv2 gu2 zu2_0 cu2_0_0 cu2_0_1 zu2_1 cu2_1_0 cu2_1_1 zu2_2 cu2_2_0 cu2_2_1 zu2_3 cu2_3_0 cu2_3_1 zu2_4 cu2_4_0 cu2_4_1 cu2_4_2 cu2_4_3 cu2_4_4 cu2_4_5 cu2_4_6 cu2_4_7 zu2_5 cu2_5_0 fu2_5_0 cu2_5_1 fu2_5_1 cu2_5_2 fu2_5_2 cu2_5_3 fu2_5_3 cu2_5_4 fu2_5_4 cu2_5_5 fu2_5_5 cu2_5_6 fu2_5_6 cu2_5_7 fu2_5_7
  go_wp2_with fail
  go_at_call 14
  refine ((HR2.out _)).mono ?_
  rintro e w2 ⟨rfl, hw2⟩
  have cw2_0_0 : w2.cell? ⟨W.heap.size, 0, none⟩ = some (.int .i64 ax) := cell_gr hw2 (by go_simp)
  have cw2_0_1 : w2.cell? ⟨W.heap.size, 1, none⟩ = some (.int .i64 ay) := cell_gr hw2 (by go_simp)
  have zw2_0 : W.heap.size < w2.heap.size := World.block_lt_of_cell? _ _ cw2_0_0
  have cw2_1_0 : w2.cell? ⟨W.heap.size + 1, 0, none⟩ = some (.int .i64 bx) := cell_gr hw2 (by go_simp)
  have cw2_1_1 : w2.cell? ⟨W.heap.size + 1, 1, none⟩ = some (.int .i64 by') := cell_gr hw2 (by go_simp)
  have zw2_1 : W.heap.size + 1 < w2.heap.size := World.block_lt_of_cell? _ _ cw2_1_0
  have cw2_2_0 : w2.cell? ⟨W.heap.size + 1 + 1, 0, none⟩ = some (.int .i64 cx) := cell_gr hw2 (by go_simp)
  have cw2_2_1 : w2.cell? ⟨W.heap.size + 1 + 1, 1, none⟩ = some (.int .i64 cy) := cell_gr hw2 (by go_simp)
  have zw2_2 : W.heap.size + 1 + 1 < w2.heap.size := World.block_lt_of_cell? _ _ cw2_2_0
  have cw2_3_0 : w2.cell? ⟨W.heap.size + 1 + 1 + 1, 0, none⟩ = some (.int .i64 dx) := cell_gr hw2 (by go_simp)
  have cw2_3_1 : w2.cell? ⟨W.heap.size + 1 + 1 + 1, 1, none⟩ = some (.int .i64 dy) := cell_gr hw2 (by go_simp)
  have zw2_3 : W.heap.size + 1 + 1 + 1 < w2.heap.size := World.block_lt_of_cell? _ _ cw2_3_0
  have cw2_4_0 : w2.cell? ⟨W.heap.size + 1 + 1 + 1 + 1, 0, none⟩ = some (.int .i64 ax) := cell_gr hw2 (by go_simp)
  have cw2_4_1 : w2.cell? ⟨W.heap.size + 1 + 1 + 1 + 1, 1, none⟩ = some (.int .i64 ay) := cell_gr hw2 (by go_simp)
  have cw2_4_2 : w2.cell? ⟨W.heap.size + 1 + 1 + 1 + 1, 2, none⟩ = some (.int .i64 bx) := cell_gr hw2 (by go_simp)
  have cw2_4_3 : w2.cell? ⟨W.heap.size + 1 + 1 + 1 + 1, 3, none⟩ = some (.int .i64 by') := cell_gr hw2 (by go_simp)
  have cw2_4_4 : w2.cell? ⟨W.heap.size + 1 + 1 + 1 + 1, 4, none⟩ = some (.int .i64 cx) := cell_gr hw2 (by go_simp)
  have cw2_4_5 : w2.cell? ⟨W.heap.size + 1 + 1 + 1 + 1, 5, none⟩ = some (.int .i64 cy) := cell_gr hw2 (by go_simp)
  have cw2_4_6 : w2.cell? ⟨W.heap.size + 1 + 1 + 1 + 1, 6, none⟩ = some (.int .i64 dx) := cell_gr hw2 (by go_simp)
  have cw2_4_7 : w2.cell? ⟨W.heap.size + 1 + 1 + 1 + 1, 7, none⟩ = some (.int .i64 dy) := cell_gr hw2 (by go_simp)
  have zw2_4 : W.heap.size + 1 + 1 + 1 + 1 < w2.heap.size := World.block_lt_of_cell? _ _ cw2_4_0
  have cw2_5_0 : w2.cell? ⟨W.heap.size + 1 + 1 + 1 + 1 + 1, 0, none⟩ = some (.int .i64 max) := cell_gr hw2 (by go_simp)
  have fw2_5_0 : w2.frozen? ⟨W.heap.size + 1 + 1 + 1 + 1 + 1, 0, none⟩ = false := frozen_gr (v := .int .i64 max) hw2 (by go_simp) (by go_simp)
  have cw2_5_1 : w2.cell? ⟨W.heap.size + 1 + 1 + 1 + 1 + 1, 1, none⟩ = some (.int .i64 may) := cell_gr hw2 (by go_simp)
  have fw2_5_1 : w2.frozen? ⟨W.heap.size + 1 + 1 + 1 + 1 + 1, 1, none⟩ = false := frozen_gr (v := .int .i64 may) hw2 (by go_simp) (by go_simp)
  have cw2_5_2 : w2.cell? ⟨W.heap.size + 1 + 1 + 1 + 1 + 1, 2, none⟩ = some (.int .i64 mbx) := cell_gr hw2 (by go_simp)
  have fw2_5_2 : w2.frozen? ⟨W.heap.size + 1 + 1 + 1 + 1 + 1, 2, none⟩ = false := frozen_gr (v := .int .i64 mbx) hw2 (by go_simp) (by go_simp)
  have cw2_5_3 : w2.cell? ⟨W.heap.size + 1 + 1 + 1 + 1 + 1, 3, none⟩ = some (.int .i64 mby) := cell_gr hw2 (by go_simp)
  have fw2_5_3 : w2.frozen? ⟨W.heap.size + 1 + 1 + 1 + 1 + 1, 3, none⟩ = false := frozen_gr (v := .int .i64 mby) hw2 (by go_simp) (by go_simp)
  have cw2_5_4 : w2.cell? ⟨W.heap.size + 1 + 1 + 1 + 1 + 1, 4, none⟩ = some (.int .i64 mcx) := cell_gr hw2 (by go_simp)
  have fw2_5_4 : w2.frozen? ⟨W.heap.size + 1 + 1 + 1 + 1 + 1, 4, none⟩ = false := frozen_gr (v := .int .i64 mcx) hw2 (by go_simp) (by go_simp)
  have cw2_5_5 : w2.cell? ⟨W.heap.size + 1 + 1 + 1 + 1 + 1, 5, none⟩ = some (.int .i64 mcy) := cell_gr hw2 (by go_simp)
  have fw2_5_5 : w2.frozen? ⟨W.heap.size + 1 + 1 + 1 + 1 + 1, 5, none⟩ = false := frozen_gr (v := .int .i64 mcy) hw2 (by go_simp) (by go_simp)
  have cw2_5_6 : w2.cell? ⟨W.heap.size + 1 + 1 + 1 + 1 + 1, 6, none⟩ = some (.int .i64 dx) := cell_gr hw2 (by go_simp)
  have fw2_5_6 : w2.frozen? ⟨W.heap.size + 1 + 1 + 1 + 1 + 1, 6, none⟩ = false := frozen_gr (v := .int .i64 dx) hw2 (by go_simp) (by go_simp)
  have cw2_5_7 : w2.cell? ⟨W.heap.size + 1 + 1 + 1 + 1 + 1, 7, none⟩ = some (.int .i64 dy) := cell_gr hw2 (by go_simp)
  have fw2_5_7 : w2.frozen? ⟨W.heap.size + 1 + 1 + 1 + 1 + 1, 7, none⟩ = false := frozen_gr (v := .int .i64 dy) hw2 (by go_simp) (by go_simp)
  have zw2_5 : W.heap.size + 1 + 1 + 1 + 1 + 1 < w2.heap.size := World.block_lt_of_cell? _ _ cw2_5_0
  have gw2 : Gr W w2 := Gr.trans (by have gg := gv2; have gs := gg.size; go_grown) hw2
  clear hw2 gv2 zv2_0 cv2_0_0 cv2_0_1 zv2_1 cv2_1_0 cv2_1_1 zv2_2 cv2_2_0 cv2_2_1 zv2_3 cv2_3_0 cv2_3_1 zv2_4 cv2_4_0 cv2_4_1 cv2_4_2 cv2_4_3 cv2_4_4 cv2_4_5 cv2_4_6 cv2_4_7 zv2_5 cv2_5_0 fv2_5_0 cv2_5_1 fv2_5_1 cv2_5_2 fv2_5_2 cv2_5_3 fv2_5_3 cv2_5_4 fv2_5_4 cv2_5_5 fv2_5_5 cv2_5_6 fv2_5_6 cv2_5_7 fv2_5_7
  go_wp2_with fail
  rw [rounds_succ]
  go_wp2_with fail
  go_at_call 14
  refine ((HA3.out _)).mono ?_
  rintro e u3 ⟨rfl, hu3⟩
  have cu3_0_0 : u3.cell? ⟨W.heap.size, 0, none⟩ = some (.int .i64 ax) := cell_gr hu3 (by go_simp)
  have cu3_0_1 : u3.cell? ⟨W.heap.size, 1, none⟩ = some (.int .i64 ay) := cell_gr hu3 (by go_simp)
  have zu3_0 : W.heap.size < u3.heap.size := World.block_lt_of_cell? _ _ cu3_0_0
  have cu3_1_0 : u3.cell? ⟨W.heap.size + 1, 0, none⟩ = some (.int .i64 bx) := cell_gr hu3 (by go_simp)
  have cu3_1_1 : u3.cell? ⟨W.heap.size + 1, 1, none⟩ = some (.int .i64 by') := cell_gr hu3 (by go_simp)
  have zu3_1 : W.heap.size + 1 < u3.heap.size := World.block_lt_of_cell? _ _ cu3_1_0
  have cu3_2_0 : u3.cell? ⟨W.heap.size + 1 + 1, 0, none⟩ = some (.int .i64 cx) := cell_gr hu3 (by go_simp)
  have cu3_2_1 : u3.cell? ⟨W.heap.size + 1 + 1, 1, none⟩ = some (.int .i64 cy) := cell_gr hu3 (by go_simp)
  have zu3_2 : W.heap.size + 1 + 1 < u3.heap.size := World.block_lt_of_cell? _ _ cu3_2_0
  have cu3_3_0 : u3.cell? ⟨W.heap.size + 1 + 1 + 1, 0, none⟩ = some (.int .i64 dx) := cell_gr hu3 (by go_simp)
  have cu3_3_1 : u3.cell? ⟨W.heap.size + 1 + 1 + 1, 1, none⟩ = some (.int .i64 dy) := cell_gr hu3 (by go_simp)
  have zu3_3 : W.heap.size + 1 + 1 + 1 < u3.heap.size := World.block_lt_of_cell? _ _ cu3_3_0
  have cu3_4_0 : u3.cell? ⟨W.heap.size + 1 + 1 + 1 + 1, 0, none⟩ = some (.int .i64 ax) := cell_gr hu3 (by go_simp)
  have cu3_4_1 : u3.cell? ⟨W.heap.size + 1 + 1 + 1 + 1, 1, none⟩ = some (.int .i64 ay) := cell_gr hu3 (by go_simp)
  have cu3_4_2 : u3.cell? ⟨W.heap.size + 1 + 1 + 1 + 1, 2, none⟩ = some (.int .i64 bx) := cell_gr hu3 (by go_simp)
  have cu3_4_3 : u3.cell? ⟨W.heap.size + 1 + 1 + 1 + 1, 3, none⟩ = some (.int .i64 by') := cell_gr hu3 (by go_simp)
  have cu3_4_4 : u3.cell? ⟨W.heap.size + 1 + 1 + 1 + 1, 4, none⟩ = some (.int .i64 cx) := cell_gr hu3 (by go_simp)
  have cu3_4_5 : u3.cell? ⟨W.heap.size + 1 + 1 + 1 + 1, 5, none⟩ = some (.int .i64 cy) := cell_gr hu3 (by go_simp)
  have cu3_4_6 : u3.cell? ⟨W.heap.size + 1 + 1 + 1 + 1, 6, none⟩ = some (.int .i64 dx) := cell_gr hu3 (by go_simp)
  have cu3_4_7 : u3.cell? ⟨W.heap.size + 1 + 1 + 1 + 1, 7, none⟩ = some (.int .i64 dy) := cell_gr hu3 (by go_simp)
  have zu3_4 : W.heap.size + 1 + 1 + 1 + 1 < u3.heap.size := World.block_lt_of_cell? _ _ cu3_4_0
  have cu3_5_0 : u3.cell? ⟨W.heap.size + 1 + 1 + 1 + 1 + 1, 0, none⟩ = some (.int .i64 max) := cell_gr hu3 (by go_simp)
  have fu3_5_0 : u3.frozen? ⟨W.heap.size + 1 + 1 + 1 + 1 + 1, 0, none⟩ = false := frozen_gr (v := .int .i64 max) hu3 (by go_simp) (by go_simp)
  have cu3_5_1 : u3.cell? ⟨W.heap.size + 1 + 1 + 1 + 1 + 1, 1, none⟩ = some (.int .i64 may) := cell_gr hu3 (by go_simp)
  have fu3_5_1 : u3.frozen? ⟨W.heap.size + 1 + 1 + 1 + 1 + 1, 1, none⟩ = false := frozen_gr (v := .int .i64 may) hu3 (by go_simp) (by go_simp)
  have cu3_5_2 : u3.cell? ⟨W.heap.size + 1 + 1 + 1 + 1 + 1, 2, none⟩ = some (.int .i64 mbx) := cell_gr hu3 (by go_simp)
  have fu3_5_2 : u3.frozen? ⟨W.heap.size + 1 + 1 + 1 + 1 + 1, 2, none⟩ = false := frozen_gr (v := .int .i64 mbx) hu3 (by go_simp) (by go_simp)
  have cu3_5_3 : u3.cell? ⟨W.heap.size + 1 + 1 + 1 + 1 + 1, 3, none⟩ = some (.int .i64 mby) := cell_gr hu3 (by go_simp)
  have fu3_5_3 : u3.frozen? ⟨W.heap.size + 1 + 1 + 1 + 1 + 1, 3, none⟩ = false := frozen_gr (v := .int .i64 mby) hu3 (by go_simp) (by go_simp)
  have cu3_5_4 : u3.cell? ⟨W.heap.size + 1 + 1 + 1 + 1 + 1, 4, none⟩ = some (.int .i64 mcx) := cell_gr hu3 (by go_simp)
  have fu3_5_4 : u3.frozen? ⟨W.heap.size + 1 + 1 + 1 + 1 + 1, 4, none⟩ = false := frozen_gr (v := .int .i64 mcx) hu3 (by go_simp) (by go_simp)
  have cu3_5_5 : u3.cell? ⟨W.heap.size + 1 + 1 + 1 + 1 + 1, 5, none⟩ = some (.int .i64 mcy) := cell_gr hu3 (by go_simp)
  have fu3_5_5 : u3.frozen? ⟨W.heap.size + 1 + 1 + 1 + 1 + 1, 5, none⟩ = false := frozen_gr (v := .int .i64 mcy) hu3 (by go_simp) (by go_simp)
  have cu3_5_6 : u3.cell? ⟨W.heap.size + 1 + 1 + 1 + 1 + 1, 6, none⟩ = some (.int .i64 dx) := cell_gr hu3 (by go_simp)
  have fu3_5_6 : u3.frozen? ⟨W.heap.size + 1 + 1 + 1 + 1 + 1, 6, none⟩ = false := frozen_gr (v := .int .i64 dx) hu3 (by go_simp) (by go_simp)
  have cu3_5_7 : u3.cell? ⟨W.heap.size + 1 + 1 + 1 + 1 + 1, 7, none⟩ = some (.int .i64 dy) := cell_gr hu3 (by go_simp)
  have fu3_5_7 : u3.frozen? ⟨W.heap.size + 1 + 1 + 1 + 1 + 1, 7, none⟩ = false := frozen_gr (v := .int .i64 dy) hu3 (by go_simp) (by go_simp)
  have zu3_5 : W.heap.size + 1 + 1 + 1 + 1 + 1 < u3.heap.size := World.block_lt_of_cell? _ _ cu3_5_0
  have gu3 : Gr W u3 := Gr.trans (by have gg := gw2; have gs := gg.size; go_grown) hu3
  clear hu3 gw2 zw2_0 cw2_0_0 cw2_0_1 zw2_1 cw2_1_0 cw2_1_1 zw2_2 cw2_2_0 cw2_2_1 zw2_3 cw2_3_0 cw2_3_1 zw2_4 cw2_4_0 cw2_4_1 cw2_4_2 cw2_4_3 cw2_4_4 cw2_4_5 cw2_4_6 cw2_4_7 zw2_5 cw2_5_0 fw2_5_0 cw2_5_1 fw2_5_1 cw2_5_2 fw2_5_2 cw2_5_3 fw2_5_3 cw2_5_4 fw2_5_4 cw2_5_5 fw2_5_5 cw2_5_6 fw2_5_6 cw2_5_7 fw2_5_7
  go_wp2_with fail
  refine Hd.wp_region_tail 18 (by kernel_rfl) (by kernel_rfl) ?_
  intro KQ hKQ
  repeat (first | (refine Hd.wpG_skip (by decide) rfl ?_; simp only [Act.put, List.setIfInBounds_toArray, List.set_cons_zero, List.set_cons_succ]) | (refine Hd.wpG_want (by decide) rfl ?_; apply Exists.intro; refine ⟨?_, ?_⟩; (· intro wx gx; (obtain ⟨mx, rfl⟩ := gx); all_goals (apply Hd.gAt_of_quiet; intro K hK; go_big_quiet_op; first | exact hK _ rfl | (apply Exists.intro; refine ⟨fun _ => ?_, ?_⟩; (· fail); exact hK _ rfl))); try simp only [Act.put, List.setIfInBounds_toArray, List.set_cons_zero, List.set_cons_succ]))
  refine Hd.wpG_nil (hKQ _ ?_)
  clear hKQ KQ
  intro v3 hhv3
  have hv3 := Hd.gr_of_spread hhv3
  have cv3_0_0 : v3.cell? ⟨W.heap.size, 0, none⟩ = some (.int .i64 ax) := cell_gr hv3 (by go_simp)
  have cv3_0_1 : v3.cell? ⟨W.heap.size, 1, none⟩ = some (.int .i64 ay) := cell_gr hv3 (by go_simp)
  have zv3_0 : W.heap.size < v3.heap.size := World.block_lt_of_cell? _ _ cv3_0_0
  have cv3_1_0 : v3.cell? ⟨W.heap.size + 1, 0, none⟩ = some (.int .i64 bx) := cell_gr hv3 (by go_simp)
  have cv3_1_1 : v3.cell? ⟨W.heap.size + 1, 1, none⟩ = some (.int .i64 by') := cell_gr hv3 (by go_simp)
  have zv3_1 : W.heap.size + 1 < v3.heap.size := World.block_lt_of_cell? _ _ cv3_1_0
  have cv3_2_0 : v3.cell? ⟨W.heap.size + 1 + 1, 0, none⟩ = some (.int .i64 cx) := cell_gr hv3 (by go_simp)
  have cv3_2_1 : v3.cell? ⟨W.heap.size + 1 + 1, 1, none⟩ = some (.int .i64 cy) := cell_gr hv3 (by go_simp)
  have zv3_2 : W.heap.size + 1 + 1 < v3.heap.size := World.block_lt_of_cell? _ _ cv3_2_0
  have cv3_3_0 : v3.cell? ⟨W.heap.size + 1 + 1 + 1, 0, none⟩ = some (.int .i64 dx) := cell_gr hv3 (by go_simp)
  have cv3_3_1 : v3.cell? ⟨W.heap.size + 1 + 1 + 1, 1, none⟩ = some (.int .i64 dy) := cell_gr hv3 (by go_simp)
  have zv3_3 : W.heap.size + 1 + 1 + 1 < v3.heap.size := World.block_lt_of_cell? _ _ cv3_3_0
  have cv3_4_0 : v3.cell? ⟨W.heap.size + 1 + 1 + 1 + 1, 0, none⟩ = some (.int .i64 ax) := cell_gr hv3 (by go_simp)
  have cv3_4_1 : v3.cell? ⟨W.heap.size + 1 + 1 + 1 + 1, 1, none⟩ = some (.int .i64 ay) := cell_gr hv3 (by go_simp)
  have cv3_4_2 : v3.cell? ⟨W.heap.size + 1 + 1 + 1 + 1, 2, none⟩ = some (.int .i64 bx) := cell_gr hv3 (by go_simp)
  have cv3_4_3 : v3.cell? ⟨W.heap.size + 1 + 1 + 1 + 1, 3, none⟩ = some (.int .i64 by') := cell_gr hv3 (by go_simp)
  have cv3_4_4 : v3.cell? ⟨W.heap.size + 1 + 1 + 1 + 1, 4, none⟩ = some (.int .i64 cx) := cell_gr hv3 (by go_simp)
  have cv3_4_5 : v3.cell? ⟨W.heap.size + 1 + 1 + 1 + 1, 5, none⟩ = some (.int .i64 cy) := cell_gr hv3 (by go_simp)
  have cv3_4_6 : v3.cell? ⟨W.heap.size + 1 + 1 + 1 + 1, 6, none⟩ = some (.int .i64 dx) := cell_gr hv3 (by go_simp)
  have cv3_4_7 : v3.cell? ⟨W.heap.size + 1 + 1 + 1 + 1, 7, none⟩ = some (.int .i64 dy) := cell_gr hv3 (by go_simp)
  have zv3_4 : W.heap.size + 1 + 1 + 1 + 1 < v3.heap.size := World.block_lt_of_cell? _ _ cv3_4_0
  have cv3_5_0 : v3.cell? ⟨W.heap.size + 1 + 1 + 1 + 1 + 1, 0, none⟩ = some (.int .i64 max) := cell_gr hv3 (by go_simp)
  have fv3_5_0 : v3.frozen? ⟨W.heap.size + 1 + 1 + 1 + 1 + 1, 0, none⟩ = false := frozen_gr (v := .int .i64 max) hv3 (by go_simp) (by go_simp)
  have cv3_5_1 : v3.cell? ⟨W.heap.size + 1 + 1 + 1 + 1 + 1, 1, none⟩ = some (.int .i64 may) := cell_gr hv3 (by go_simp)
  have fv3_5_1 : v3.frozen? ⟨W.heap.size + 1 + 1 + 1 + 1 + 1, 1, none⟩ = false := frozen_gr (v := .int .i64 may) hv3 (by go_simp) (by go_simp)
  have cv3_5_2 : v3.cell? ⟨W.heap.size + 1 + 1 + 1 + 1 + 1, 2, none⟩ = some (.int .i64 mbx) := cell_gr hv3 (by go_simp)
  have fv3_5_2 : v3.frozen? ⟨W.heap.size + 1 + 1 + 1 + 1 + 1, 2, none⟩ = false := frozen_gr (v := .int .i64 mbx) hv3 (by go_simp) (by go_simp)
  have cv3_5_3 : v3.cell? ⟨W.heap.size + 1 + 1 + 1 + 1 + 1, 3, none⟩ = some (.int .i64 mby) := cell_gr hv3 (by go_simp)
  have fv3_5_3 : v3.frozen? ⟨W.heap.size + 1 + 1 + 1 + 1 + 1, 3, none⟩ = false := frozen_gr (v := .int .i64 mby) hv3 (by go_simp) (by go_simp)
  have cv3_5_4 : v3.cell? ⟨W.heap.size + 1 + 1 + 1 + 1 + 1, 4, none⟩ = some (.int .i64 mcx) := cell_gr hv3 (by go_simp)
  have fv3_5_4 : v3.frozen? ⟨W.heap.size + 1 + 1 + 1 + 1 + 1, 4, none⟩ = false := frozen_gr (v := .int .i64 mcx) hv3 (by go_simp) (by go_simp)
  have cv3_5_5 : v3.cell? ⟨W.heap.size + 1 + 1 + 1 + 1 + 1, 5, none⟩ = some (.int .i64 mcy) := cell_gr hv3 (by go_simp)
  have fv3_5_5 : v3.frozen? ⟨W.heap.size + 1 + 1 + 1 + 1 + 1, 5, none⟩ = false := frozen_gr (v := .int .i64 mcy) hv3 (by go_simp) (by go_simp)
  have cv3_5_6 : v3.cell? ⟨W.heap.size + 1 + 1 + 1 + 1 + 1, 6, none⟩ = some (.int .i64 dx) := cell_gr hv3 (by go_simp)
  have fv3_5_6 : v3.frozen? ⟨W.heap.size + 1 + 1 + 1 + 1 + 1, 6, none⟩ = false := frozen_gr (v := .int .i64 dx) hv3 (by go_simp) (by go_simp)
  have cv3_5_7 : v3.cell? ⟨W.heap.size + 1 + 1 + 1 + 1 + 1, 7, none⟩ = some (.int .i64 dy) := cell_gr hv3 (by go_simp)
  have fv3_5_7 : v3.frozen? ⟨W.heap.size + 1 + 1 + 1 + 1 + 1, 7, none⟩ = false := frozen_gr (v := .int .i64 dy) hv3 (by go_simp) (by go_simp)
  have zv3_5 : W.heap.size + 1 + 1 + 1 + 1 + 1 < v3.heap.size := World.block_lt_of_cell? _ _ cv3_5_0
  have gv3 : Gr W v3 := Gr.trans (by have gg := gu3; have gs := gg.size; go_grown) hv3
  clear hv3 hhv3 gu3 zu3_0 cu3_0_0 cu3_0_1 zu3_1 cu3_1_0 cu3_1_1 zu3_2 cu3_2_0 cu3_2_1 zu3_3 cu3_3_0 cu3_3_1 zu3_4 cu3_4_0 cu3_4_1 cu3_4_2 cu3_4_3 cu3_4_4 cu3_4_5 cu3_4_6 cu3_4_7 zu3_5 cu3_5_0 fu3_5_0 cu3_5_1 fu3_5_1 cu3_5_2 fu3_5_2 cu3_5_3 fu3_5_3 cu3_5_4 fu3_5_4 cu3_5_5 fu3_5_5 cu3_5_6 fu3_5_6 cu3_5_7 fu3_5_7
  go_wp2_with fail
  go_at_call 14
  refine ((HR3.out _)).mono ?_
  rintro e w3 ⟨rfl, hw3⟩
  have cw3_0_0 : w3.cell? ⟨W.heap.size, 0, none⟩ = some (.int .i64 ax) := cell_gr hw3 (by go_simp)
  have cw3_0_1 : w3.cell? ⟨W.heap.size, 1, none⟩ = some (.int .i64 ay) := cell_gr hw3 (by go_simp)
  have zw3_0 : W.heap.size < w3.heap.size := World.block_lt_of_cell? _ _ cw3_0_0
  have cw3_1_0 : w3.cell? ⟨W.heap.size + 1, 0, none⟩ = some (.int .i64 bx) := cell_gr hw3 (by go_simp)
  have cw3_1_1 : w3.cell? ⟨W.heap.size + 1, 1, none⟩ = some (.int .i64 by') := cell_gr hw3 (by go_simp)
  have zw3_1 : W.heap.size + 1 < w3.heap.size := World.block_lt_of_cell? _ _ cw3_1_0
  have cw3_2_0 : w3.cell? ⟨W.heap.size + 1 + 1, 0, none⟩ = some (.int .i64 cx) := cell_gr hw3 (by go_simp)
  have cw3_2_1 : w3.cell? ⟨W.heap.size + 1 + 1, 1, none⟩ = some (.int .i64 cy) := cell_gr hw3 (by go_simp)
  have zw3_2 : W.heap.size + 1 + 1 < w3.heap.size := World.block_lt_of_cell? _ _ cw3_2_0
  have cw3_3_0 : w3.cell? ⟨W.heap.size + 1 + 1 + 1, 0, none⟩ = some (.int .i64 dx) := cell_gr hw3 (by go_simp)
  have cw3_3_1 : w3.cell? ⟨W.heap.size + 1 + 1 + 1, 1, none⟩ = some (.int .i64 dy) := cell_gr hw3 (by go_simp)
  have zw3_3 : W.heap.size + 1 + 1 + 1 < w3.heap.size := World.block_lt_of_cell? _ _ cw3_3_0
  have cw3_4_0 : w3.cell? ⟨W.heap.size + 1 + 1 + 1 + 1, 0, none⟩ = some (.int .i64 ax) := cell_gr hw3 (by go_simp)
  have cw3_4_1 : w3.cell? ⟨W.heap.size + 1 + 1 + 1 + 1, 1, none⟩ = some (.int .i64 ay) := cell_gr hw3 (by go_simp)
  have cw3_4_2 : w3.cell? ⟨W.heap.size + 1 + 1 + 1 + 1, 2, none⟩ = some (.int .i64 bx) := cell_gr hw3 (by go_simp)
  have cw3_4_3 : w3.cell? ⟨W.heap.size + 1 + 1 + 1 + 1, 3, none⟩ = some (.int .i64 by') := cell_gr hw3 (by go_simp)
  have cw3_4_4 : w3.cell? ⟨W.heap.size + 1 + 1 + 1 + 1, 4, none⟩ = some (.int .i64 cx) := cell_gr hw3 (by go_simp)
  have cw3_4_5 : w3.cell? ⟨W.heap.size + 1 + 1 + 1 + 1, 5, none⟩ = some (.int .i64 cy) := cell_gr hw3 (by go_simp)
  have cw3_4_6 : w3.cell? ⟨W.heap.size + 1 + 1 + 1 + 1, 6, none⟩ = some (.int .i64 dx) := cell_gr hw3 (by go_simp)
  have cw3_4_7 : w3.cell? ⟨W.heap.size + 1 + 1 + 1 + 1, 7, none⟩ = some (.int .i64 dy) := cell_gr hw3 (by go_simp)
  have zw3_4 : W.heap.size + 1 + 1 + 1 + 1 < w3.heap.size := World.block_lt_of_cell? _ _ cw3_4_0
  have cw3_5_0 : w3.cell? ⟨W.heap.size + 1 + 1 + 1 + 1 + 1, 0, none⟩ = some (.int .i64 max) := cell_gr hw3 (by go_simp)
  have fw3_5_0 : w3.frozen? ⟨W.heap.size + 1 + 1 + 1 + 1 + 1, 0, none⟩ = false := frozen_gr (v := .int .i64 max) hw3 (by go_simp) (by go_simp)
  have cw3_5_1 : w3.cell? ⟨W.heap.size + 1 + 1 + 1 + 1 + 1, 1, none⟩ = some (.int .i64 may) := cell_gr hw3 (by go_simp)
  have fw3_5_1 : w3.frozen? ⟨W.heap.size + 1 + 1 + 1 + 1 + 1, 1, none⟩ = false := frozen_gr (v := .int .i64 may) hw3 (by go_simp) (by go_simp)
  have cw3_5_2 : w3.cell? ⟨W.heap.size + 1 + 1 + 1 + 1 + 1, 2, none⟩ = some (.int .i64 mbx) := cell_gr hw3 (by go_simp)
  have fw3_5_2 : w3.frozen? ⟨W.heap.size + 1 + 1 + 1 + 1 + 1, 2, none⟩ = false := frozen_gr (v := .int .i64 mbx) hw3 (by go_simp) (by go_simp)
  have cw3_5_3 : w3.cell? ⟨W.heap.size + 1 + 1 + 1 + 1 + 1, 3, none⟩ = some (.int .i64 mby) := cell_gr hw3 (by go_simp)
  have fw3_5_3 : w3.frozen? ⟨W.heap.size + 1 + 1 + 1 + 1 + 1, 3, none⟩ = false := frozen_gr (v := .int .i64 mby) hw3 (by go_simp) (by go_simp)
  have cw3_5_4 : w3.cell? ⟨W.heap.size + 1 + 1 + 1 + 1 + 1, 4, none⟩ = some (.int .i64 mcx) := cell_gr hw3 (by go_simp)
  have fw3_5_4 : w3.frozen? ⟨W.heap.size + 1 + 1 + 1 + 1 + 1, 4, none⟩ = false := frozen_gr (v := .int .i64 mcx) hw3 (by go_simp) (by go_simp)
  have cw3_5_5 : w3.cell? ⟨W.heap.size + 1 + 1 + 1 + 1 + 1, 5, none⟩ = some (.int .i64 mcy) := cell_gr hw3 (by go_simp)
  have fw3_5_5 : w3.frozen? ⟨W.heap.size + 1 + 1 + 1 + 1 + 1, 5, none⟩ = false := frozen_gr (v := .int .i64 mcy) hw3 (by go_simp) (by go_simp)
  have cw3_5_6 : w3.cell? ⟨W.heap.size + 1 + 1 + 1 + 1 + 1, 6, none⟩ = some (.int .i64 mdx) := cell_gr hw3 (by go_simp)
  have fw3_5_6 : w3.frozen? ⟨W.heap.size + 1 + 1 + 1 + 1 + 1, 6, none⟩ = false := frozen_gr (v := .int .i64 mdx) hw3 (by go_simp) (by go_simp)
  have cw3_5_7 : w3.cell? ⟨W.heap.size + 1 + 1 + 1 + 1 + 1, 7, none⟩ = some (.int .i64 mdy) := cell_gr hw3 (by go_simp)
  have fw3_5_7 : w3.frozen? ⟨W.heap.size + 1 + 1 + 1 + 1 + 1, 7, none⟩ = false := frozen_gr (v := .int .i64 mdy) hw3 (by go_simp) (by go_simp)
  have zw3_5 : W.heap.size + 1 + 1 + 1 + 1 + 1 < w3.heap.size := World.block_lt_of_cell? _ _ cw3_5_0
  have gw3 : Gr W w3 := Gr.trans (by have gg := gv3; have gs := gg.size; go_grown) hw3
  clear hw3 gv3 zv3_0 cv3_0_0 cv3_0_1 zv3_1 cv3_1_0 cv3_1_1 zv3_2 cv3_2_0 cv3_2_1 zv3_3 cv3_3_0 cv3_3_1 zv3_4 cv3_4_0 cv3_4_1 cv3_4_2 cv3_4_3 cv3_4_4 cv3_4_5 cv3_4_6 cv3_4_7 zv3_5 cv3_5_0 fv3_5_0 cv3_5_1 fv3_5_1 cv3_5_2 fv3_5_2 cv3_5_3 fv3_5_3 cv3_5_4 fv3_5_4 cv3_5_5 fv3_5_5 cv3_5_6 fv3_5_6 cv3_5_7 fv3_5_7
  go_wp2_with fail
  go_at_call 32
  refine ((s4_awake _)).mono ?_
  rintro e z1 ⟨rfl, hz1⟩
  have cz1_0_0 : z1.cell? ⟨W.heap.size, 0, none⟩ = some (.int .i64 ax) := cell_gr hz1 (by go_simp)
  have cz1_0_1 : z1.cell? ⟨W.heap.size, 1, none⟩ = some (.int .i64 ay) := cell_gr hz1 (by go_simp)
  have zz1_0 : W.heap.size < z1.heap.size := World.block_lt_of_cell? _ _ cz1_0_0
  have cz1_1_0 : z1.cell? ⟨W.heap.size + 1, 0, none⟩ = some (.int .i64 bx) := cell_gr hz1 (by go_simp)
  have cz1_1_1 : z1.cell? ⟨W.heap.size + 1, 1, none⟩ = some (.int .i64 by') := cell_gr hz1 (by go_simp)
  have zz1_1 : W.heap.size + 1 < z1.heap.size := World.block_lt_of_cell? _ _ cz1_1_0
  have cz1_2_0 : z1.cell? ⟨W.heap.size + 1 + 1, 0, none⟩ = some (.int .i64 cx) := cell_gr hz1 (by go_simp)
  have cz1_2_1 : z1.cell? ⟨W.heap.size + 1 + 1, 1, none⟩ = some (.int .i64 cy) := cell_gr hz1 (by go_simp)
  have zz1_2 : W.heap.size + 1 + 1 < z1.heap.size := World.block_lt_of_cell? _ _ cz1_2_0
  have cz1_3_0 : z1.cell? ⟨W.heap.size + 1 + 1 + 1, 0, none⟩ = some (.int .i64 dx) := cell_gr hz1 (by go_simp)
  have cz1_3_1 : z1.cell? ⟨W.heap.size + 1 + 1 + 1, 1, none⟩ = some (.int .i64 dy) := cell_gr hz1 (by go_simp)
  have zz1_3 : W.heap.size + 1 + 1 + 1 < z1.heap.size := World.block_lt_of_cell? _ _ cz1_3_0
  have cz1_4_0 : z1.cell? ⟨W.heap.size + 1 + 1 + 1 + 1, 0, none⟩ = some (.int .i64 ax) := cell_gr hz1 (by go_simp)
  have cz1_4_1 : z1.cell? ⟨W.heap.size + 1 + 1 + 1 + 1, 1, none⟩ = some (.int .i64 ay) := cell_gr hz1 (by go_simp)
  have cz1_4_2 : z1.cell? ⟨W.heap.size + 1 + 1 + 1 + 1, 2, none⟩ = some (.int .i64 bx) := cell_gr hz1 (by go_simp)
  have cz1_4_3 : z1.cell? ⟨W.heap.size + 1 + 1 + 1 + 1, 3, none⟩ = some (.int .i64 by') := cell_gr hz1 (by go_simp)
  have cz1_4_4 : z1.cell? ⟨W.heap.size + 1 + 1 + 1 + 1, 4, none⟩ = some (.int .i64 cx) := cell_gr hz1 (by go_simp)
  have cz1_4_5 : z1.cell? ⟨W.heap.size + 1 + 1 + 1 + 1, 5, none⟩ = some (.int .i64 cy) := cell_gr hz1 (by go_simp)
  have cz1_4_6 : z1.cell? ⟨W.heap.size + 1 + 1 + 1 + 1, 6, none⟩ = some (.int .i64 dx) := cell_gr hz1 (by go_simp)
  have cz1_4_7 : z1.cell? ⟨W.heap.size + 1 + 1 + 1 + 1, 7, none⟩ = some (.int .i64 dy) := cell_gr hz1 (by go_simp)
  have zz1_4 : W.heap.size + 1 + 1 + 1 + 1 < z1.heap.size := World.block_lt_of_cell? _ _ cz1_4_0
  have cz1_5_0 : z1.cell? ⟨W.heap.size + 1 + 1 + 1 + 1 + 1, 0, none⟩ = some (.int .i64 max) := cell_gr hz1 (by go_simp)
  have fz1_5_0 : z1.frozen? ⟨W.heap.size + 1 + 1 + 1 + 1 + 1, 0, none⟩ = false := frozen_gr (v := .int .i64 max) hz1 (by go_simp) (by go_simp)
  have cz1_5_1 : z1.cell? ⟨W.heap.size + 1 + 1 + 1 + 1 + 1, 1, none⟩ = some (.int .i64 may) := cell_gr hz1 (by go_simp)
  have fz1_5_1 : z1.frozen? ⟨W.heap.size + 1 + 1 + 1 + 1 + 1, 1, none⟩ = false := frozen_gr (v := .int .i64 may) hz1 (by go_simp) (by go_simp)
  have cz1_5_2 : z1.cell? ⟨W.heap.size + 1 + 1 + 1 + 1 + 1, 2, none⟩ = some (.int .i64 mbx) := cell_gr hz1 (by go_simp)
  have fz1_5_2 : z1.frozen? ⟨W.heap.size + 1 + 1 + 1 + 1 + 1, 2, none⟩ = false := frozen_gr (v := .int .i64 mbx) hz1 (by go_simp) (by go_simp)
  have cz1_5_3 : z1.cell? ⟨W.heap.size + 1 + 1 + 1 + 1 + 1, 3, none⟩ = some (.int .i64 mby) := cell_gr hz1 (by go_simp)
  have fz1_5_3 : z1.frozen? ⟨W.heap.size + 1 + 1 + 1 + 1 + 1, 3, none⟩ = false := frozen_gr (v := .int .i64 mby) hz1 (by go_simp) (by go_simp)
  have cz1_5_4 : z1.cell? ⟨W.heap.size + 1 + 1 + 1 + 1 + 1, 4, none⟩ = some (.int .i64 mcx) := cell_gr hz1 (by go_simp)
  have fz1_5_4 : z1.frozen? ⟨W.heap.size + 1 + 1 + 1 + 1 + 1, 4, none⟩ = false := frozen_gr (v := .int .i64 mcx) hz1 (by go_simp) (by go_simp)
  have cz1_5_5 : z1.cell? ⟨W.heap.size + 1 + 1 + 1 + 1 + 1, 5, none⟩ = some (.int .i64 mcy) := cell_gr hz1 (by go_simp)
  have fz1_5_5 : z1.frozen? ⟨W.heap.size + 1 + 1 + 1 + 1 + 1, 5, none⟩ = false := frozen_gr (v := .int .i64 mcy) hz1 (by go_simp) (by go_simp)
  have cz1_5_6 : z1.cell? ⟨W.heap.size + 1 + 1 + 1 + 1 + 1, 6, none⟩ = some (.int .i64 mdx) := cell_gr hz1 (by go_simp)
  have fz1_5_6 : z1.frozen? ⟨W.heap.size + 1 + 1 + 1 + 1 + 1, 6, none⟩ = false := frozen_gr (v := .int .i64 mdx) hz1 (by go_simp) (by go_simp)
  have cz1_5_7 : z1.cell? ⟨W.heap.size + 1 + 1 + 1 + 1 + 1, 7, none⟩ = some (.int .i64 mdy) := cell_gr hz1 (by go_simp)
  have fz1_5_7 : z1.frozen? ⟨W.heap.size + 1 + 1 + 1 + 1 + 1, 7, none⟩ = false := frozen_gr (v := .int .i64 mdy) hz1 (by go_simp) (by go_simp)
  have zz1_5 : W.heap.size + 1 + 1 + 1 + 1 + 1 < z1.heap.size := World.block_lt_of_cell? _ _ cz1_5_0
  have gz1 : Gr W z1 := Gr.trans (by have gg := gw3; have gs := gg.size; go_grown) hz1
  clear hz1 gw3 zw3_0 cw3_0_0 cw3_0_1 zw3_1 cw3_1_0 cw3_1_1 zw3_2 cw3_2_0 cw3_2_1 zw3_3 cw3_3_0 cw3_3_1 zw3_4 cw3_4_0 cw3_4_1 cw3_4_2 cw3_4_3 cw3_4_4 cw3_4_5 cw3_4_6 cw3_4_7 zw3_5 cw3_5_0 fw3_5_0 cw3_5_1 fw3_5_1 cw3_5_2 fw3_5_2 cw3_5_3 fw3_5_3 cw3_5_4 fw3_5_4 cw3_5_5 fw3_5_5 cw3_5_6 fw3_5_6 cw3_5_7 fw3_5_7
  go_wp2_with fail
  go_ret
  exact ⟨rfl, by go_grown⟩
set_option maxHeartbeats 4000000 in
set_option maxRecDepth 100000 in
theorem moves_ok (ax ay bx by' cx cy dx dy x y max may mbx mby mcx mcy mdx mdy h l d : Int) (me on : Bool) (W : World) (c1 : ¬ x < -2147483648) (c2 : ¬ 2147483648 < x) (c3 : ¬ y < -2147483648) (c4 : ¬ 2147483648 < y)
    (e01 : wrap64 (ax + x) = max) (e02 : IntKind.i64.wrap (ax + x) = max) (e03 : wrap64 (ay + y) = may) (e04 : IntKind.i64.wrap (ay + y) = may)
    (e11 : wrap64 (bx + x) = mbx) (e12 : IntKind.i64.wrap (bx + x) = mbx) (e13 : wrap64 (by' + y) = mby) (e14 : IntKind.i64.wrap (by' + y) = mby)
    (e21 : wrap64 (cx + x) = mcx) (e22 : IntKind.i64.wrap (cx + x) = mcx) (e23 : wrap64 (cy + y) = mcy) (e24 : IntKind.i64.wrap (cy + y) = mcy)
    (e31 : wrap64 (dx + x) = mdx) (e32 : IntKind.i64.wrap (dx + x) = mdx) (e33 : wrap64 (dy + y) = mdy) (e34 : IntKind.i64.wrap (dy + y) = mdy)
    (A0 : ∀ w, Calls Try.prog 14 #[.agg #[.int .i64 ax, .int .i64 ay]] w fun e w' => e = .returned (.bool true) ∧ Gr w w')
    (R0 : ∀ w, Calls Try.prog 14 #[.agg #[.int .i64 max, .int .i64 may]] w fun e w' => e = .returned (.bool true) ∧ Gr w w')
    (A1 : ∀ w, Calls Try.prog 14 #[.agg #[.int .i64 bx, .int .i64 by']] w fun e w' => e = .returned (.bool true) ∧ Gr w w')
    (R1 : ∀ w, Calls Try.prog 14 #[.agg #[.int .i64 mbx, .int .i64 mby]] w fun e w' => e = .returned (.bool true) ∧ Gr w w')
    (A2 : ∀ w, Calls Try.prog 14 #[.agg #[.int .i64 cx, .int .i64 cy]] w fun e w' => e = .returned (.bool true) ∧ Gr w w')
    (R2 : ∀ w, Calls Try.prog 14 #[.agg #[.int .i64 mcx, .int .i64 mcy]] w fun e w' => e = .returned (.bool true) ∧ Gr w w')
    (A3 : ∀ w, Calls Try.prog 14 #[.agg #[.int .i64 dx, .int .i64 dy]] w fun e w' => e = .returned (.bool true) ∧ Gr w w')
    (R3 : ∀ w, Calls Try.prog 14 #[.agg #[.int .i64 mdx, .int .i64 mdy]] w fun e w' => e = .returned (.bool true) ∧ Gr w w')
    (A4 : ∀ w, Calls Try.prog 24 #[.agg #[.int .i64 ax, .int .i64 ay], .agg #[.int .i64 bx, .int .i64 by'], .agg #[.int .i64 cx, .int .i64 cy], .agg #[.int .i64 dx, .int .i64 dy]] w fun e w' => e = .returned (.bool me) ∧ Gr w w')
    (A5 : ∀ w, Calls Try.prog 24 #[.agg #[.int .i64 max, .int .i64 may], .agg #[.int .i64 mbx, .int .i64 mby], .agg #[.int .i64 mcx, .int .i64 mcy], .agg #[.int .i64 mdx, .int .i64 mdy]] w fun e w' => e = .returned (.bool me) ∧ Gr w w')
    (A6 : ∀ w, Calls Try.prog 22 #[.agg #[.int .i64 ax, .int .i64 ay], .agg #[.int .i64 bx, .int .i64 by'], .agg #[.int .i64 cx, .int .i64 cy]] w fun e w' => e = .returned (.bool on) ∧ Gr w w')
    (A7 : ∀ w, Calls Try.prog 22 #[.agg #[.int .i64 max, .int .i64 may], .agg #[.int .i64 mbx, .int .i64 mby], .agg #[.int .i64 mcx, .int .i64 mcy]] w fun e w' => e = .returned (.bool on) ∧ Gr w w')
    (A8 : ∀ w, Calls Try.prog 30 #[.agg #[.int .i64 ax, .int .i64 ay], .agg #[.int .i64 bx, .int .i64 by'], .agg #[.int .i64 cx, .int .i64 cy]] w fun e w' => e = .returned (.agg #[.int .u64 h, .int .u64 l, .int .u64 d]) ∧ Gr w w')
    (A9 : ∀ w, Calls Try.prog 30 #[.agg #[.int .i64 max, .int .i64 may], .agg #[.int .i64 mbx, .int .i64 mby], .agg #[.int .i64 mcx, .int .i64 mcy]] w fun e w' => e = .returned (.agg #[.int .u64 h, .int .u64 l, .int .u64 d]) ∧ Gr w w') :
    Calls Try.prog 8 #[.agg #[.int .i64 ax, .int .i64 ay], .agg #[.int .i64 bx, .int .i64 by'], .agg #[.int .i64 cx, .int .i64 cy], .agg #[.int .i64 dx, .int .i64 dy], .int .i64 x, .int .i64 y] W fun e w' => e = .returned (.bool true) ∧ Gr W w' := by
  have HA0 := Lib.hid A0
  have HR0 := Lib.hid R0
  have HA1 := Lib.hid A1
  have HR1 := Lib.hid R1
  have HA2 := Lib.hid A2
  have HR2 := Lib.hid R2
  have HA3 := Lib.hid A3
  have HR3 := Lib.hid R3
  have HA4 := Lib.hid A4
  have HA5 := Lib.hid A5
  have HA6 := Lib.hid A6
  have HA7 := Lib.hid A7
  have HA8 := Lib.hid A8
  have HA9 := Lib.hid A9
  clear A0 A1 A2 A3 R0 R1 R2 R3 A4 A5 A6 A7 A8 A9
  go_enter Try.func8, Try.ntmps8
  go_wp2_with fail
  refine wp_loop_rounds 5 ?_
  rw [rounds_succ]
  go_wp2_with fail
  go_at_call 14
  refine ((HA0.out _)).mono ?_
  rintro e u0 ⟨rfl, hu0⟩
  have cu0_0_0 : u0.cell? ⟨W.heap.size, 0, none⟩ = some (.int .i64 ax) := cell_gr hu0 (by go_simp)
  have cu0_0_1 : u0.cell? ⟨W.heap.size, 1, none⟩ = some (.int .i64 ay) := cell_gr hu0 (by go_simp)
  have zu0_0 : W.heap.size < u0.heap.size := World.block_lt_of_cell? _ _ cu0_0_0
  have cu0_1_0 : u0.cell? ⟨W.heap.size + 1, 0, none⟩ = some (.int .i64 bx) := cell_gr hu0 (by go_simp)
  have cu0_1_1 : u0.cell? ⟨W.heap.size + 1, 1, none⟩ = some (.int .i64 by') := cell_gr hu0 (by go_simp)
  have zu0_1 : W.heap.size + 1 < u0.heap.size := World.block_lt_of_cell? _ _ cu0_1_0
  have cu0_2_0 : u0.cell? ⟨W.heap.size + 1 + 1, 0, none⟩ = some (.int .i64 cx) := cell_gr hu0 (by go_simp)
  have cu0_2_1 : u0.cell? ⟨W.heap.size + 1 + 1, 1, none⟩ = some (.int .i64 cy) := cell_gr hu0 (by go_simp)
  have zu0_2 : W.heap.size + 1 + 1 < u0.heap.size := World.block_lt_of_cell? _ _ cu0_2_0
  have cu0_3_0 : u0.cell? ⟨W.heap.size + 1 + 1 + 1, 0, none⟩ = some (.int .i64 dx) := cell_gr hu0 (by go_simp)
  have cu0_3_1 : u0.cell? ⟨W.heap.size + 1 + 1 + 1, 1, none⟩ = some (.int .i64 dy) := cell_gr hu0 (by go_simp)
  have zu0_3 : W.heap.size + 1 + 1 + 1 < u0.heap.size := World.block_lt_of_cell? _ _ cu0_3_0
  have cu0_4_0 : u0.cell? ⟨W.heap.size + 1 + 1 + 1 + 1, 0, none⟩ = some (.int .i64 ax) := cell_gr hu0 (by go_simp)
  have cu0_4_1 : u0.cell? ⟨W.heap.size + 1 + 1 + 1 + 1, 1, none⟩ = some (.int .i64 ay) := cell_gr hu0 (by go_simp)
  have cu0_4_2 : u0.cell? ⟨W.heap.size + 1 + 1 + 1 + 1, 2, none⟩ = some (.int .i64 bx) := cell_gr hu0 (by go_simp)
  have cu0_4_3 : u0.cell? ⟨W.heap.size + 1 + 1 + 1 + 1, 3, none⟩ = some (.int .i64 by') := cell_gr hu0 (by go_simp)
  have cu0_4_4 : u0.cell? ⟨W.heap.size + 1 + 1 + 1 + 1, 4, none⟩ = some (.int .i64 cx) := cell_gr hu0 (by go_simp)
  have cu0_4_5 : u0.cell? ⟨W.heap.size + 1 + 1 + 1 + 1, 5, none⟩ = some (.int .i64 cy) := cell_gr hu0 (by go_simp)
  have cu0_4_6 : u0.cell? ⟨W.heap.size + 1 + 1 + 1 + 1, 6, none⟩ = some (.int .i64 dx) := cell_gr hu0 (by go_simp)
  have cu0_4_7 : u0.cell? ⟨W.heap.size + 1 + 1 + 1 + 1, 7, none⟩ = some (.int .i64 dy) := cell_gr hu0 (by go_simp)
  have zu0_4 : W.heap.size + 1 + 1 + 1 + 1 < u0.heap.size := World.block_lt_of_cell? _ _ cu0_4_0
  have cu0_5_0 : u0.cell? ⟨W.heap.size + 1 + 1 + 1 + 1 + 1, 0, none⟩ = some (.int .i64 ax) := cell_gr hu0 (by go_simp)
  have fu0_5_0 : u0.frozen? ⟨W.heap.size + 1 + 1 + 1 + 1 + 1, 0, none⟩ = false := frozen_gr (v := .int .i64 ax) hu0 (by go_simp) (by go_simp)
  have cu0_5_1 : u0.cell? ⟨W.heap.size + 1 + 1 + 1 + 1 + 1, 1, none⟩ = some (.int .i64 ay) := cell_gr hu0 (by go_simp)
  have fu0_5_1 : u0.frozen? ⟨W.heap.size + 1 + 1 + 1 + 1 + 1, 1, none⟩ = false := frozen_gr (v := .int .i64 ay) hu0 (by go_simp) (by go_simp)
  have cu0_5_2 : u0.cell? ⟨W.heap.size + 1 + 1 + 1 + 1 + 1, 2, none⟩ = some (.int .i64 bx) := cell_gr hu0 (by go_simp)
  have fu0_5_2 : u0.frozen? ⟨W.heap.size + 1 + 1 + 1 + 1 + 1, 2, none⟩ = false := frozen_gr (v := .int .i64 bx) hu0 (by go_simp) (by go_simp)
  have cu0_5_3 : u0.cell? ⟨W.heap.size + 1 + 1 + 1 + 1 + 1, 3, none⟩ = some (.int .i64 by') := cell_gr hu0 (by go_simp)
  have fu0_5_3 : u0.frozen? ⟨W.heap.size + 1 + 1 + 1 + 1 + 1, 3, none⟩ = false := frozen_gr (v := .int .i64 by') hu0 (by go_simp) (by go_simp)
  have cu0_5_4 : u0.cell? ⟨W.heap.size + 1 + 1 + 1 + 1 + 1, 4, none⟩ = some (.int .i64 cx) := cell_gr hu0 (by go_simp)
  have fu0_5_4 : u0.frozen? ⟨W.heap.size + 1 + 1 + 1 + 1 + 1, 4, none⟩ = false := frozen_gr (v := .int .i64 cx) hu0 (by go_simp) (by go_simp)
  have cu0_5_5 : u0.cell? ⟨W.heap.size + 1 + 1 + 1 + 1 + 1, 5, none⟩ = some (.int .i64 cy) := cell_gr hu0 (by go_simp)
  have fu0_5_5 : u0.frozen? ⟨W.heap.size + 1 + 1 + 1 + 1 + 1, 5, none⟩ = false := frozen_gr (v := .int .i64 cy) hu0 (by go_simp) (by go_simp)
  have cu0_5_6 : u0.cell? ⟨W.heap.size + 1 + 1 + 1 + 1 + 1, 6, none⟩ = some (.int .i64 dx) := cell_gr hu0 (by go_simp)
  have fu0_5_6 : u0.frozen? ⟨W.heap.size + 1 + 1 + 1 + 1 + 1, 6, none⟩ = false := frozen_gr (v := .int .i64 dx) hu0 (by go_simp) (by go_simp)
  have cu0_5_7 : u0.cell? ⟨W.heap.size + 1 + 1 + 1 + 1 + 1, 7, none⟩ = some (.int .i64 dy) := cell_gr hu0 (by go_simp)
  have fu0_5_7 : u0.frozen? ⟨W.heap.size + 1 + 1 + 1 + 1 + 1, 7, none⟩ = false := frozen_gr (v := .int .i64 dy) hu0 (by go_simp) (by go_simp)
  have zu0_5 : W.heap.size + 1 + 1 + 1 + 1 + 1 < u0.heap.size := World.block_lt_of_cell? _ _ cu0_5_0
  have gu0 : Gr W u0 := Gr.trans (by go_grown) hu0
  clear hu0
  go_wp2_with fail
  refine Hd.wp_region_tail 18 (by kernel_rfl) (by kernel_rfl) ?_
  intro KQ hKQ
  repeat (first | (refine Hd.wpG_skip (by decide) rfl ?_; simp only [Act.put, List.setIfInBounds_toArray, List.set_cons_zero, List.set_cons_succ]) | (refine Hd.wpG_want (by decide) rfl ?_; apply Exists.intro; refine ⟨?_, ?_⟩; (· intro wx gx; (obtain ⟨mx, rfl⟩ := gx); all_goals (apply Hd.gAt_of_quiet; intro K hK; go_big_quiet_op; first | exact hK _ rfl | (apply Exists.intro; refine ⟨fun _ => ?_, ?_⟩; (· fail); exact hK _ rfl))); try simp only [Act.put, List.setIfInBounds_toArray, List.set_cons_zero, List.set_cons_succ]))
  refine Hd.wpG_nil (hKQ _ ?_)
  clear hKQ KQ
  intro v0 hhv0
  have hv0 := Hd.gr_of_spread hhv0
  have cv0_0_0 : v0.cell? ⟨W.heap.size, 0, none⟩ = some (.int .i64 ax) := cell_gr hv0 (by go_simp)
  have cv0_0_1 : v0.cell? ⟨W.heap.size, 1, none⟩ = some (.int .i64 ay) := cell_gr hv0 (by go_simp)
  have zv0_0 : W.heap.size < v0.heap.size := World.block_lt_of_cell? _ _ cv0_0_0
  have cv0_1_0 : v0.cell? ⟨W.heap.size + 1, 0, none⟩ = some (.int .i64 bx) := cell_gr hv0 (by go_simp)
  have cv0_1_1 : v0.cell? ⟨W.heap.size + 1, 1, none⟩ = some (.int .i64 by') := cell_gr hv0 (by go_simp)
  have zv0_1 : W.heap.size + 1 < v0.heap.size := World.block_lt_of_cell? _ _ cv0_1_0
  have cv0_2_0 : v0.cell? ⟨W.heap.size + 1 + 1, 0, none⟩ = some (.int .i64 cx) := cell_gr hv0 (by go_simp)
  have cv0_2_1 : v0.cell? ⟨W.heap.size + 1 + 1, 1, none⟩ = some (.int .i64 cy) := cell_gr hv0 (by go_simp)
  have zv0_2 : W.heap.size + 1 + 1 < v0.heap.size := World.block_lt_of_cell? _ _ cv0_2_0
  have cv0_3_0 : v0.cell? ⟨W.heap.size + 1 + 1 + 1, 0, none⟩ = some (.int .i64 dx) := cell_gr hv0 (by go_simp)
  have cv0_3_1 : v0.cell? ⟨W.heap.size + 1 + 1 + 1, 1, none⟩ = some (.int .i64 dy) := cell_gr hv0 (by go_simp)
  have zv0_3 : W.heap.size + 1 + 1 + 1 < v0.heap.size := World.block_lt_of_cell? _ _ cv0_3_0
  have cv0_4_0 : v0.cell? ⟨W.heap.size + 1 + 1 + 1 + 1, 0, none⟩ = some (.int .i64 ax) := cell_gr hv0 (by go_simp)
  have cv0_4_1 : v0.cell? ⟨W.heap.size + 1 + 1 + 1 + 1, 1, none⟩ = some (.int .i64 ay) := cell_gr hv0 (by go_simp)
  have cv0_4_2 : v0.cell? ⟨W.heap.size + 1 + 1 + 1 + 1, 2, none⟩ = some (.int .i64 bx) := cell_gr hv0 (by go_simp)
  have cv0_4_3 : v0.cell? ⟨W.heap.size + 1 + 1 + 1 + 1, 3, none⟩ = some (.int .i64 by') := cell_gr hv0 (by go_simp)
  have cv0_4_4 : v0.cell? ⟨W.heap.size + 1 + 1 + 1 + 1, 4, none⟩ = some (.int .i64 cx) := cell_gr hv0 (by go_simp)
  have cv0_4_5 : v0.cell? ⟨W.heap.size + 1 + 1 + 1 + 1, 5, none⟩ = some (.int .i64 cy) := cell_gr hv0 (by go_simp)
  have cv0_4_6 : v0.cell? ⟨W.heap.size + 1 + 1 + 1 + 1, 6, none⟩ = some (.int .i64 dx) := cell_gr hv0 (by go_simp)
  have cv0_4_7 : v0.cell? ⟨W.heap.size + 1 + 1 + 1 + 1, 7, none⟩ = some (.int .i64 dy) := cell_gr hv0 (by go_simp)
  have zv0_4 : W.heap.size + 1 + 1 + 1 + 1 < v0.heap.size := World.block_lt_of_cell? _ _ cv0_4_0
  have cv0_5_0 : v0.cell? ⟨W.heap.size + 1 + 1 + 1 + 1 + 1, 0, none⟩ = some (.int .i64 ax) := cell_gr hv0 (by go_simp)
  have fv0_5_0 : v0.frozen? ⟨W.heap.size + 1 + 1 + 1 + 1 + 1, 0, none⟩ = false := frozen_gr (v := .int .i64 ax) hv0 (by go_simp) (by go_simp)
  have cv0_5_1 : v0.cell? ⟨W.heap.size + 1 + 1 + 1 + 1 + 1, 1, none⟩ = some (.int .i64 ay) := cell_gr hv0 (by go_simp)
  have fv0_5_1 : v0.frozen? ⟨W.heap.size + 1 + 1 + 1 + 1 + 1, 1, none⟩ = false := frozen_gr (v := .int .i64 ay) hv0 (by go_simp) (by go_simp)
  have cv0_5_2 : v0.cell? ⟨W.heap.size + 1 + 1 + 1 + 1 + 1, 2, none⟩ = some (.int .i64 bx) := cell_gr hv0 (by go_simp)
  have fv0_5_2 : v0.frozen? ⟨W.heap.size + 1 + 1 + 1 + 1 + 1, 2, none⟩ = false := frozen_gr (v := .int .i64 bx) hv0 (by go_simp) (by go_simp)
  have cv0_5_3 : v0.cell? ⟨W.heap.size + 1 + 1 + 1 + 1 + 1, 3, none⟩ = some (.int .i64 by') := cell_gr hv0 (by go_simp)
  have fv0_5_3 : v0.frozen? ⟨W.heap.size + 1 + 1 + 1 + 1 + 1, 3, none⟩ = false := frozen_gr (v := .int .i64 by') hv0 (by go_simp) (by go_simp)
  have cv0_5_4 : v0.cell? ⟨W.heap.size + 1 + 1 + 1 + 1 + 1, 4, none⟩ = some (.int .i64 cx) := cell_gr hv0 (by go_simp)
  have fv0_5_4 : v0.frozen? ⟨W.heap.size + 1 + 1 + 1 + 1 + 1, 4, none⟩ = false := frozen_gr (v := .int .i64 cx) hv0 (by go_simp) (by go_simp)
  have cv0_5_5 : v0.cell? ⟨W.heap.size + 1 + 1 + 1 + 1 + 1, 5, none⟩ = some (.int .i64 cy) := cell_gr hv0 (by go_simp)
  have fv0_5_5 : v0.frozen? ⟨W.heap.size + 1 + 1 + 1 + 1 + 1, 5, none⟩ = false := frozen_gr (v := .int .i64 cy) hv0 (by go_simp) (by go_simp)
  have cv0_5_6 : v0.cell? ⟨W.heap.size + 1 + 1 + 1 + 1 + 1, 6, none⟩ = some (.int .i64 dx) := cell_gr hv0 (by go_simp)
  have fv0_5_6 : v0.frozen? ⟨W.heap.size + 1 + 1 + 1 + 1 + 1, 6, none⟩ = false := frozen_gr (v := .int .i64 dx) hv0 (by go_simp) (by go_simp)
  have cv0_5_7 : v0.cell? ⟨W.heap.size + 1 + 1 + 1 + 1 + 1, 7, none⟩ = some (.int .i64 dy) := cell_gr hv0 (by go_simp)
  have fv0_5_7 : v0.frozen? ⟨W.heap.size + 1 + 1 + 1 + 1 + 1, 7, none⟩ = false := frozen_gr (v := .int .i64 dy) hv0 (by go_simp) (by go_simp)
  have zv0_5 : W.heap.size + 1 + 1 + 1 + 1 + 1 < v0.heap.size := World.block_lt_of_cell? _ _ cv0_5_0
  have gv0 : Gr W v0 := Gr.trans (by have gg := gu0; have gs := gg.size; go_grown) hv0
  clear hv0 hhv0 gu0 zu0_0 cu0_0_0 cu0_0_1 zu0_1 cu0_1_0 cu0_1_1 zu0_2 cu0_2_0 cu0_2_1 zu0_3 cu0_3_0 cu0_3_1 zu0_4 cu0_4_0 cu0_4_1 cu0_4_2 cu0_4_3 cu0_4_4 cu0_4_5 cu0_4_6 cu0_4_7 zu0_5 cu0_5_0 fu0_5_0 cu0_5_1 fu0_5_1 cu0_5_2 fu0_5_2 cu0_5_3 fu0_5_3 cu0_5_4 fu0_5_4 cu0_5_5 fu0_5_5 cu0_5_6 fu0_5_6 cu0_5_7 fu0_5_7
  go_wp2_with fail
  go_at_call 14
  refine ((HR0.out _)).mono ?_
  rintro e w0 ⟨rfl, hw0⟩
  have cw0_0_0 : w0.cell? ⟨W.heap.size, 0, none⟩ = some (.int .i64 ax) := cell_gr hw0 (by go_simp)
  have cw0_0_1 : w0.cell? ⟨W.heap.size, 1, none⟩ = some (.int .i64 ay) := cell_gr hw0 (by go_simp)
  have zw0_0 : W.heap.size < w0.heap.size := World.block_lt_of_cell? _ _ cw0_0_0
  have cw0_1_0 : w0.cell? ⟨W.heap.size + 1, 0, none⟩ = some (.int .i64 bx) := cell_gr hw0 (by go_simp)
  have cw0_1_1 : w0.cell? ⟨W.heap.size + 1, 1, none⟩ = some (.int .i64 by') := cell_gr hw0 (by go_simp)
  have zw0_1 : W.heap.size + 1 < w0.heap.size := World.block_lt_of_cell? _ _ cw0_1_0
  have cw0_2_0 : w0.cell? ⟨W.heap.size + 1 + 1, 0, none⟩ = some (.int .i64 cx) := cell_gr hw0 (by go_simp)
  have cw0_2_1 : w0.cell? ⟨W.heap.size + 1 + 1, 1, none⟩ = some (.int .i64 cy) := cell_gr hw0 (by go_simp)
  have zw0_2 : W.heap.size + 1 + 1 < w0.heap.size := World.block_lt_of_cell? _ _ cw0_2_0
  have cw0_3_0 : w0.cell? ⟨W.heap.size + 1 + 1 + 1, 0, none⟩ = some (.int .i64 dx) := cell_gr hw0 (by go_simp)
  have cw0_3_1 : w0.cell? ⟨W.heap.size + 1 + 1 + 1, 1, none⟩ = some (.int .i64 dy) := cell_gr hw0 (by go_simp)
  have zw0_3 : W.heap.size + 1 + 1 + 1 < w0.heap.size := World.block_lt_of_cell? _ _ cw0_3_0
  have cw0_4_0 : w0.cell? ⟨W.heap.size + 1 + 1 + 1 + 1, 0, none⟩ = some (.int .i64 ax) := cell_gr hw0 (by go_simp)
  have cw0_4_1 : w0.cell? ⟨W.heap.size + 1 + 1 + 1 + 1, 1, none⟩ = some (.int .i64 ay) := cell_gr hw0 (by go_simp)
  have cw0_4_2 : w0.cell? ⟨W.heap.size + 1 + 1 + 1 + 1, 2, none⟩ = some (.int .i64 bx) := cell_gr hw0 (by go_simp)
  have cw0_4_3 : w0.cell? ⟨W.heap.size + 1 + 1 + 1 + 1, 3, none⟩ = some (.int .i64 by') := cell_gr hw0 (by go_simp)
  have cw0_4_4 : w0.cell? ⟨W.heap.size + 1 + 1 + 1 + 1, 4, none⟩ = some (.int .i64 cx) := cell_gr hw0 (by go_simp)
  have cw0_4_5 : w0.cell? ⟨W.heap.size + 1 + 1 + 1 + 1, 5, none⟩ = some (.int .i64 cy) := cell_gr hw0 (by go_simp)
  have cw0_4_6 : w0.cell? ⟨W.heap.size + 1 + 1 + 1 + 1, 6, none⟩ = some (.int .i64 dx) := cell_gr hw0 (by go_simp)
  have cw0_4_7 : w0.cell? ⟨W.heap.size + 1 + 1 + 1 + 1, 7, none⟩ = some (.int .i64 dy) := cell_gr hw0 (by go_simp)
  have zw0_4 : W.heap.size + 1 + 1 + 1 + 1 < w0.heap.size := World.block_lt_of_cell? _ _ cw0_4_0
  have cw0_5_0 : w0.cell? ⟨W.heap.size + 1 + 1 + 1 + 1 + 1, 0, none⟩ = some (.int .i64 max) := cell_gr hw0 (by go_simp)
  have fw0_5_0 : w0.frozen? ⟨W.heap.size + 1 + 1 + 1 + 1 + 1, 0, none⟩ = false := frozen_gr (v := .int .i64 max) hw0 (by go_simp) (by go_simp)
  have cw0_5_1 : w0.cell? ⟨W.heap.size + 1 + 1 + 1 + 1 + 1, 1, none⟩ = some (.int .i64 may) := cell_gr hw0 (by go_simp)
  have fw0_5_1 : w0.frozen? ⟨W.heap.size + 1 + 1 + 1 + 1 + 1, 1, none⟩ = false := frozen_gr (v := .int .i64 may) hw0 (by go_simp) (by go_simp)
  have cw0_5_2 : w0.cell? ⟨W.heap.size + 1 + 1 + 1 + 1 + 1, 2, none⟩ = some (.int .i64 bx) := cell_gr hw0 (by go_simp)
  have fw0_5_2 : w0.frozen? ⟨W.heap.size + 1 + 1 + 1 + 1 + 1, 2, none⟩ = false := frozen_gr (v := .int .i64 bx) hw0 (by go_simp) (by go_simp)
  have cw0_5_3 : w0.cell? ⟨W.heap.size + 1 + 1 + 1 + 1 + 1, 3, none⟩ = some (.int .i64 by') := cell_gr hw0 (by go_simp)
  have fw0_5_3 : w0.frozen? ⟨W.heap.size + 1 + 1 + 1 + 1 + 1, 3, none⟩ = false := frozen_gr (v := .int .i64 by') hw0 (by go_simp) (by go_simp)
  have cw0_5_4 : w0.cell? ⟨W.heap.size + 1 + 1 + 1 + 1 + 1, 4, none⟩ = some (.int .i64 cx) := cell_gr hw0 (by go_simp)
  have fw0_5_4 : w0.frozen? ⟨W.heap.size + 1 + 1 + 1 + 1 + 1, 4, none⟩ = false := frozen_gr (v := .int .i64 cx) hw0 (by go_simp) (by go_simp)
  have cw0_5_5 : w0.cell? ⟨W.heap.size + 1 + 1 + 1 + 1 + 1, 5, none⟩ = some (.int .i64 cy) := cell_gr hw0 (by go_simp)
  have fw0_5_5 : w0.frozen? ⟨W.heap.size + 1 + 1 + 1 + 1 + 1, 5, none⟩ = false := frozen_gr (v := .int .i64 cy) hw0 (by go_simp) (by go_simp)
  have cw0_5_6 : w0.cell? ⟨W.heap.size + 1 + 1 + 1 + 1 + 1, 6, none⟩ = some (.int .i64 dx) := cell_gr hw0 (by go_simp)
  have fw0_5_6 : w0.frozen? ⟨W.heap.size + 1 + 1 + 1 + 1 + 1, 6, none⟩ = false := frozen_gr (v := .int .i64 dx) hw0 (by go_simp) (by go_simp)
  have cw0_5_7 : w0.cell? ⟨W.heap.size + 1 + 1 + 1 + 1 + 1, 7, none⟩ = some (.int .i64 dy) := cell_gr hw0 (by go_simp)
  have fw0_5_7 : w0.frozen? ⟨W.heap.size + 1 + 1 + 1 + 1 + 1, 7, none⟩ = false := frozen_gr (v := .int .i64 dy) hw0 (by go_simp) (by go_simp)
  have zw0_5 : W.heap.size + 1 + 1 + 1 + 1 + 1 < w0.heap.size := World.block_lt_of_cell? _ _ cw0_5_0
  have gw0 : Gr W w0 := Gr.trans (by have gg := gv0; have gs := gg.size; go_grown) hw0
  clear hw0 gv0 zv0_0 cv0_0_0 cv0_0_1 zv0_1 cv0_1_0 cv0_1_1 zv0_2 cv0_2_0 cv0_2_1 zv0_3 cv0_3_0 cv0_3_1 zv0_4 cv0_4_0 cv0_4_1 cv0_4_2 cv0_4_3 cv0_4_4 cv0_4_5 cv0_4_6 cv0_4_7 zv0_5 cv0_5_0 fv0_5_0 cv0_5_1 fv0_5_1 cv0_5_2 fv0_5_2 cv0_5_3 fv0_5_3 cv0_5_4 fv0_5_4 cv0_5_5 fv0_5_5 cv0_5_6 fv0_5_6 cv0_5_7 fv0_5_7
  go_wp2_with fail
  rw [rounds_succ]
  go_wp2_with fail
  go_at_call 14
  refine ((HA1.out _)).mono ?_
  rintro e u1 ⟨rfl, hu1⟩
  have cu1_0_0 : u1.cell? ⟨W.heap.size, 0, none⟩ = some (.int .i64 ax) := cell_gr hu1 (by go_simp)
  have cu1_0_1 : u1.cell? ⟨W.heap.size, 1, none⟩ = some (.int .i64 ay) := cell_gr hu1 (by go_simp)
  have zu1_0 : W.heap.size < u1.heap.size := World.block_lt_of_cell? _ _ cu1_0_0
  have cu1_1_0 : u1.cell? ⟨W.heap.size + 1, 0, none⟩ = some (.int .i64 bx) := cell_gr hu1 (by go_simp)
  have cu1_1_1 : u1.cell? ⟨W.heap.size + 1, 1, none⟩ = some (.int .i64 by') := cell_gr hu1 (by go_simp)
  have zu1_1 : W.heap.size + 1 < u1.heap.size := World.block_lt_of_cell? _ _ cu1_1_0
  have cu1_2_0 : u1.cell? ⟨W.heap.size + 1 + 1, 0, none⟩ = some (.int .i64 cx) := cell_gr hu1 (by go_simp)
  have cu1_2_1 : u1.cell? ⟨W.heap.size + 1 + 1, 1, none⟩ = some (.int .i64 cy) := cell_gr hu1 (by go_simp)
  have zu1_2 : W.heap.size + 1 + 1 < u1.heap.size := World.block_lt_of_cell? _ _ cu1_2_0
  have cu1_3_0 : u1.cell? ⟨W.heap.size + 1 + 1 + 1, 0, none⟩ = some (.int .i64 dx) := cell_gr hu1 (by go_simp)
  have cu1_3_1 : u1.cell? ⟨W.heap.size + 1 + 1 + 1, 1, none⟩ = some (.int .i64 dy) := cell_gr hu1 (by go_simp)
  have zu1_3 : W.heap.size + 1 + 1 + 1 < u1.heap.size := World.block_lt_of_cell? _ _ cu1_3_0
  have cu1_4_0 : u1.cell? ⟨W.heap.size + 1 + 1 + 1 + 1, 0, none⟩ = some (.int .i64 ax) := cell_gr hu1 (by go_simp)
  have cu1_4_1 : u1.cell? ⟨W.heap.size + 1 + 1 + 1 + 1, 1, none⟩ = some (.int .i64 ay) := cell_gr hu1 (by go_simp)
  have cu1_4_2 : u1.cell? ⟨W.heap.size + 1 + 1 + 1 + 1, 2, none⟩ = some (.int .i64 bx) := cell_gr hu1 (by go_simp)
  have cu1_4_3 : u1.cell? ⟨W.heap.size + 1 + 1 + 1 + 1, 3, none⟩ = some (.int .i64 by') := cell_gr hu1 (by go_simp)
  have cu1_4_4 : u1.cell? ⟨W.heap.size + 1 + 1 + 1 + 1, 4, none⟩ = some (.int .i64 cx) := cell_gr hu1 (by go_simp)
  have cu1_4_5 : u1.cell? ⟨W.heap.size + 1 + 1 + 1 + 1, 5, none⟩ = some (.int .i64 cy) := cell_gr hu1 (by go_simp)
  have cu1_4_6 : u1.cell? ⟨W.heap.size + 1 + 1 + 1 + 1, 6, none⟩ = some (.int .i64 dx) := cell_gr hu1 (by go_simp)
  have cu1_4_7 : u1.cell? ⟨W.heap.size + 1 + 1 + 1 + 1, 7, none⟩ = some (.int .i64 dy) := cell_gr hu1 (by go_simp)
  have zu1_4 : W.heap.size + 1 + 1 + 1 + 1 < u1.heap.size := World.block_lt_of_cell? _ _ cu1_4_0
  have cu1_5_0 : u1.cell? ⟨W.heap.size + 1 + 1 + 1 + 1 + 1, 0, none⟩ = some (.int .i64 max) := cell_gr hu1 (by go_simp)
  have fu1_5_0 : u1.frozen? ⟨W.heap.size + 1 + 1 + 1 + 1 + 1, 0, none⟩ = false := frozen_gr (v := .int .i64 max) hu1 (by go_simp) (by go_simp)
  have cu1_5_1 : u1.cell? ⟨W.heap.size + 1 + 1 + 1 + 1 + 1, 1, none⟩ = some (.int .i64 may) := cell_gr hu1 (by go_simp)
  have fu1_5_1 : u1.frozen? ⟨W.heap.size + 1 + 1 + 1 + 1 + 1, 1, none⟩ = false := frozen_gr (v := .int .i64 may) hu1 (by go_simp) (by go_simp)
  have cu1_5_2 : u1.cell? ⟨W.heap.size + 1 + 1 + 1 + 1 + 1, 2, none⟩ = some (.int .i64 bx) := cell_gr hu1 (by go_simp)
  have fu1_5_2 : u1.frozen? ⟨W.heap.size + 1 + 1 + 1 + 1 + 1, 2, none⟩ = false := frozen_gr (v := .int .i64 bx) hu1 (by go_simp) (by go_simp)
  have cu1_5_3 : u1.cell? ⟨W.heap.size + 1 + 1 + 1 + 1 + 1, 3, none⟩ = some (.int .i64 by') := cell_gr hu1 (by go_simp)
  have fu1_5_3 : u1.frozen? ⟨W.heap.size + 1 + 1 + 1 + 1 + 1, 3, none⟩ = false := frozen_gr (v := .int .i64 by') hu1 (by go_simp) (by go_simp)
  have cu1_5_4 : u1.cell? ⟨W.heap.size + 1 + 1 + 1 + 1 + 1, 4, none⟩ = some (.int .i64 cx) := cell_gr hu1 (by go_simp)
  have fu1_5_4 : u1.frozen? ⟨W.heap.size + 1 + 1 + 1 + 1 + 1, 4, none⟩ = false := frozen_gr (v := .int .i64 cx) hu1 (by go_simp) (by go_simp)
  have cu1_5_5 : u1.cell? ⟨W.heap.size + 1 + 1 + 1 + 1 + 1, 5, none⟩ = some (.int .i64 cy) := cell_gr hu1 (by go_simp)
  have fu1_5_5 : u1.frozen? ⟨W.heap.size + 1 + 1 + 1 + 1 + 1, 5, none⟩ = false := frozen_gr (v := .int .i64 cy) hu1 (by go_simp) (by go_simp)
  have cu1_5_6 : u1.cell? ⟨W.heap.size + 1 + 1 + 1 + 1 + 1, 6, none⟩ = some (.int .i64 dx) := cell_gr hu1 (by go_simp)
  have fu1_5_6 : u1.frozen? ⟨W.heap.size + 1 + 1 + 1 + 1 + 1, 6, none⟩ = false := frozen_gr (v := .int .i64 dx) hu1 (by go_simp) (by go_simp)
  have cu1_5_7 : u1.cell? ⟨W.heap.size + 1 + 1 + 1 + 1 + 1, 7, none⟩ = some (.int .i64 dy) := cell_gr hu1 (by go_simp)
  have fu1_5_7 : u1.frozen? ⟨W.heap.size + 1 + 1 + 1 + 1 + 1, 7, none⟩ = false := frozen_gr (v := .int .i64 dy) hu1 (by go_simp) (by go_simp)
  have zu1_5 : W.heap.size + 1 + 1 + 1 + 1 + 1 < u1.heap.size := World.block_lt_of_cell? _ _ cu1_5_0
  have gu1 : Gr W u1 := Gr.trans (by have gg := gw0; have gs := gg.size; go_grown) hu1
  clear hu1 gw0 zw0_0 cw0_0_0 cw0_0_1 zw0_1 cw0_1_0 cw0_1_1 zw0_2 cw0_2_0 cw0_2_1 zw0_3 cw0_3_0 cw0_3_1 zw0_4 cw0_4_0 cw0_4_1 cw0_4_2 cw0_4_3 cw0_4_4 cw0_4_5 cw0_4_6 cw0_4_7 zw0_5 cw0_5_0 fw0_5_0 cw0_5_1 fw0_5_1 cw0_5_2 fw0_5_2 cw0_5_3 fw0_5_3 cw0_5_4 fw0_5_4 cw0_5_5 fw0_5_5 cw0_5_6 fw0_5_6 cw0_5_7 fw0_5_7
  go_wp2_with fail
  refine Hd.wp_region_tail 18 (by kernel_rfl) (by kernel_rfl) ?_
  intro KQ hKQ
  repeat (first | (refine Hd.wpG_skip (by decide) rfl ?_; simp only [Act.put, List.setIfInBounds_toArray, List.set_cons_zero, List.set_cons_succ]) | (refine Hd.wpG_want (by decide) rfl ?_; apply Exists.intro; refine ⟨?_, ?_⟩; (· intro wx gx; (obtain ⟨mx, rfl⟩ := gx); all_goals (apply Hd.gAt_of_quiet; intro K hK; go_big_quiet_op; first | exact hK _ rfl | (apply Exists.intro; refine ⟨fun _ => ?_, ?_⟩; (· fail); exact hK _ rfl))); try simp only [Act.put, List.setIfInBounds_toArray, List.set_cons_zero, List.set_cons_succ]))
  refine Hd.wpG_nil (hKQ _ ?_)
  clear hKQ KQ
  intro v1 hhv1
  have hv1 := Hd.gr_of_spread hhv1
  have cv1_0_0 : v1.cell? ⟨W.heap.size, 0, none⟩ = some (.int .i64 ax) := cell_gr hv1 (by go_simp)
  have cv1_0_1 : v1.cell? ⟨W.heap.size, 1, none⟩ = some (.int .i64 ay) := cell_gr hv1 (by go_simp)
  have zv1_0 : W.heap.size < v1.heap.size := World.block_lt_of_cell? _ _ cv1_0_0
  have cv1_1_0 : v1.cell? ⟨W.heap.size + 1, 0, none⟩ = some (.int .i64 bx) := cell_gr hv1 (by go_simp)
  have cv1_1_1 : v1.cell? ⟨W.heap.size + 1, 1, none⟩ = some (.int .i64 by') := cell_gr hv1 (by go_simp)
  have zv1_1 : W.heap.size + 1 < v1.heap.size := World.block_lt_of_cell? _ _ cv1_1_0
  have cv1_2_0 : v1.cell? ⟨W.heap.size + 1 + 1, 0, none⟩ = some (.int .i64 cx) := cell_gr hv1 (by go_simp)
  have cv1_2_1 : v1.cell? ⟨W.heap.size + 1 + 1, 1, none⟩ = some (.int .i64 cy) := cell_gr hv1 (by go_simp)
  have zv1_2 : W.heap.size + 1 + 1 < v1.heap.size := World.block_lt_of_cell? _ _ cv1_2_0
  have cv1_3_0 : v1.cell? ⟨W.heap.size + 1 + 1 + 1, 0, none⟩ = some (.int .i64 dx) := cell_gr hv1 (by go_simp)
  have cv1_3_1 : v1.cell? ⟨W.heap.size + 1 + 1 + 1, 1, none⟩ = some (.int .i64 dy) := cell_gr hv1 (by go_simp)
  have zv1_3 : W.heap.size + 1 + 1 + 1 < v1.heap.size := World.block_lt_of_cell? _ _ cv1_3_0
  have cv1_4_0 : v1.cell? ⟨W.heap.size + 1 + 1 + 1 + 1, 0, none⟩ = some (.int .i64 ax) := cell_gr hv1 (by go_simp)
  have cv1_4_1 : v1.cell? ⟨W.heap.size + 1 + 1 + 1 + 1, 1, none⟩ = some (.int .i64 ay) := cell_gr hv1 (by go_simp)
  have cv1_4_2 : v1.cell? ⟨W.heap.size + 1 + 1 + 1 + 1, 2, none⟩ = some (.int .i64 bx) := cell_gr hv1 (by go_simp)
  have cv1_4_3 : v1.cell? ⟨W.heap.size + 1 + 1 + 1 + 1, 3, none⟩ = some (.int .i64 by') := cell_gr hv1 (by go_simp)
  have cv1_4_4 : v1.cell? ⟨W.heap.size + 1 + 1 + 1 + 1, 4, none⟩ = some (.int .i64 cx) := cell_gr hv1 (by go_simp)
  have cv1_4_5 : v1.cell? ⟨W.heap.size + 1 + 1 + 1 + 1, 5, none⟩ = some (.int .i64 cy) := cell_gr hv1 (by go_simp)
  have cv1_4_6 : v1.cell? ⟨W.heap.size + 1 + 1 + 1 + 1, 6, none⟩ = some (.int .i64 dx) := cell_gr hv1 (by go_simp)
  have cv1_4_7 : v1.cell? ⟨W.heap.size + 1 + 1 + 1 + 1, 7, none⟩ = some (.int .i64 dy) := cell_gr hv1 (by go_simp)
  have zv1_4 : W.heap.size + 1 + 1 + 1 + 1 < v1.heap.size := World.block_lt_of_cell? _ _ cv1_4_0
  have cv1_5_0 : v1.cell? ⟨W.heap.size + 1 + 1 + 1 + 1 + 1, 0, none⟩ = some (.int .i64 max) := cell_gr hv1 (by go_simp)
  have fv1_5_0 : v1.frozen? ⟨W.heap.size + 1 + 1 + 1 + 1 + 1, 0, none⟩ = false := frozen_gr (v := .int .i64 max) hv1 (by go_simp) (by go_simp)
  have cv1_5_1 : v1.cell? ⟨W.heap.size + 1 + 1 + 1 + 1 + 1, 1, none⟩ = some (.int .i64 may) := cell_gr hv1 (by go_simp)
  have fv1_5_1 : v1.frozen? ⟨W.heap.size + 1 + 1 + 1 + 1 + 1, 1, none⟩ = false := frozen_gr (v := .int .i64 may) hv1 (by go_simp) (by go_simp)
  have cv1_5_2 : v1.cell? ⟨W.heap.size + 1 + 1 + 1 + 1 + 1, 2, none⟩ = some (.int .i64 bx) := cell_gr hv1 (by go_simp)
  have fv1_5_2 : v1.frozen? ⟨W.heap.size + 1 + 1 + 1 + 1 + 1, 2, none⟩ = false := frozen_gr (v := .int .i64 bx) hv1 (by go_simp) (by go_simp)
  have cv1_5_3 : v1.cell? ⟨W.heap.size + 1 + 1 + 1 + 1 + 1, 3, none⟩ = some (.int .i64 by') := cell_gr hv1 (by go_simp)
  have fv1_5_3 : v1.frozen? ⟨W.heap.size + 1 + 1 + 1 + 1 + 1, 3, none⟩ = false := frozen_gr (v := .int .i64 by') hv1 (by go_simp) (by go_simp)
  have cv1_5_4 : v1.cell? ⟨W.heap.size + 1 + 1 + 1 + 1 + 1, 4, none⟩ = some (.int .i64 cx) := cell_gr hv1 (by go_simp)
  have fv1_5_4 : v1.frozen? ⟨W.heap.size + 1 + 1 + 1 + 1 + 1, 4, none⟩ = false := frozen_gr (v := .int .i64 cx) hv1 (by go_simp) (by go_simp)
  have cv1_5_5 : v1.cell? ⟨W.heap.size + 1 + 1 + 1 + 1 + 1, 5, none⟩ = some (.int .i64 cy) := cell_gr hv1 (by go_simp)
  have fv1_5_5 : v1.frozen? ⟨W.heap.size + 1 + 1 + 1 + 1 + 1, 5, none⟩ = false := frozen_gr (v := .int .i64 cy) hv1 (by go_simp) (by go_simp)
  have cv1_5_6 : v1.cell? ⟨W.heap.size + 1 + 1 + 1 + 1 + 1, 6, none⟩ = some (.int .i64 dx) := cell_gr hv1 (by go_simp)
  have fv1_5_6 : v1.frozen? ⟨W.heap.size + 1 + 1 + 1 + 1 + 1, 6, none⟩ = false := frozen_gr (v := .int .i64 dx) hv1 (by go_simp) (by go_simp)
  have cv1_5_7 : v1.cell? ⟨W.heap.size + 1 + 1 + 1 + 1 + 1, 7, none⟩ = some (.int .i64 dy) := cell_gr hv1 (by go_simp)
  have fv1_5_7 : v1.frozen? ⟨W.heap.size + 1 + 1 + 1 + 1 + 1, 7, none⟩ = false := frozen_gr (v := .int .i64 dy) hv1 (by go_simp) (by go_simp)
  have zv1_5 : W.heap.size + 1 + 1 + 1 + 1 + 1 < v1.heap.size := World.block_lt_of_cell? _ _ cv1_5_0
  have gv1 : Gr W v1 := Gr.trans (by have gg := gu1; have gs := gg.size; go_grown) hv1
  clear hv1 hhv1 gu1 zu1_0 cu1_0_0 cu1_0_1 zu1_1 cu1_1_0 cu1_1_1 zu1_2 cu1_2_0 cu1_2_1 zu1_3 cu1_3_0 cu1_3_1 zu1_4 cu1_4_0 cu1_4_1 cu1_4_2 cu1_4_3 cu1_4_4 cu1_4_5 cu1_4_6 cu1_4_7 zu1_5 cu1_5_0 fu1_5_0 cu1_5_1 fu1_5_1 cu1_5_2 fu1_5_2 cu1_5_3 fu1_5_3 cu1_5_4 fu1_5_4 cu1_5_5 fu1_5_5 cu1_5_6 fu1_5_6 cu1_5_7 fu1_5_7
  go_wp2_with fail
  go_at_call 14
  refine ((HR1.out _)).mono ?_
  rintro e w1 ⟨rfl, hw1⟩
  have cw1_0_0 : w1.cell? ⟨W.heap.size, 0, none⟩ = some (.int .i64 ax) := cell_gr hw1 (by go_simp)
  have cw1_0_1 : w1.cell? ⟨W.heap.size, 1, none⟩ = some (.int .i64 ay) := cell_gr hw1 (by go_simp)
  have zw1_0 : W.heap.size < w1.heap.size := World.block_lt_of_cell? _ _ cw1_0_0
  have cw1_1_0 : w1.cell? ⟨W.heap.size + 1, 0, none⟩ = some (.int .i64 bx) := cell_gr hw1 (by go_simp)
  have cw1_1_1 : w1.cell? ⟨W.heap.size + 1, 1, none⟩ = some (.int .i64 by') := cell_gr hw1 (by go_simp)
  have zw1_1 : W.heap.size + 1 < w1.heap.size := World.block_lt_of_cell? _ _ cw1_1_0
  have cw1_2_0 : w1.cell? ⟨W.heap.size + 1 + 1, 0, none⟩ = some (.int .i64 cx) := cell_gr hw1 (by go_simp)
  have cw1_2_1 : w1.cell? ⟨W.heap.size + 1 + 1, 1, none⟩ = some (.int .i64 cy) := cell_gr hw1 (by go_simp)
  have zw1_2 : W.heap.size + 1 + 1 < w1.heap.size := World.block_lt_of_cell? _ _ cw1_2_0
  have cw1_3_0 : w1.cell? ⟨W.heap.size + 1 + 1 + 1, 0, none⟩ = some (.int .i64 dx) := cell_gr hw1 (by go_simp)
  have cw1_3_1 : w1.cell? ⟨W.heap.size + 1 + 1 + 1, 1, none⟩ = some (.int .i64 dy) := cell_gr hw1 (by go_simp)
  have zw1_3 : W.heap.size + 1 + 1 + 1 < w1.heap.size := World.block_lt_of_cell? _ _ cw1_3_0
  have cw1_4_0 : w1.cell? ⟨W.heap.size + 1 + 1 + 1 + 1, 0, none⟩ = some (.int .i64 ax) := cell_gr hw1 (by go_simp)
  have cw1_4_1 : w1.cell? ⟨W.heap.size + 1 + 1 + 1 + 1, 1, none⟩ = some (.int .i64 ay) := cell_gr hw1 (by go_simp)
  have cw1_4_2 : w1.cell? ⟨W.heap.size + 1 + 1 + 1 + 1, 2, none⟩ = some (.int .i64 bx) := cell_gr hw1 (by go_simp)
  have cw1_4_3 : w1.cell? ⟨W.heap.size + 1 + 1 + 1 + 1, 3, none⟩ = some (.int .i64 by') := cell_gr hw1 (by go_simp)
  have cw1_4_4 : w1.cell? ⟨W.heap.size + 1 + 1 + 1 + 1, 4, none⟩ = some (.int .i64 cx) := cell_gr hw1 (by go_simp)
  have cw1_4_5 : w1.cell? ⟨W.heap.size + 1 + 1 + 1 + 1, 5, none⟩ = some (.int .i64 cy) := cell_gr hw1 (by go_simp)
  have cw1_4_6 : w1.cell? ⟨W.heap.size + 1 + 1 + 1 + 1, 6, none⟩ = some (.int .i64 dx) := cell_gr hw1 (by go_simp)
  have cw1_4_7 : w1.cell? ⟨W.heap.size + 1 + 1 + 1 + 1, 7, none⟩ = some (.int .i64 dy) := cell_gr hw1 (by go_simp)
  have zw1_4 : W.heap.size + 1 + 1 + 1 + 1 < w1.heap.size := World.block_lt_of_cell? _ _ cw1_4_0
  have cw1_5_0 : w1.cell? ⟨W.heap.size + 1 + 1 + 1 + 1 + 1, 0, none⟩ = some (.int .i64 max) := cell_gr hw1 (by go_simp)
  have fw1_5_0 : w1.frozen? ⟨W.heap.size + 1 + 1 + 1 + 1 + 1, 0, none⟩ = false := frozen_gr (v := .int .i64 max) hw1 (by go_simp) (by go_simp)
  have cw1_5_1 : w1.cell? ⟨W.heap.size + 1 + 1 + 1 + 1 + 1, 1, none⟩ = some (.int .i64 may) := cell_gr hw1 (by go_simp)
  have fw1_5_1 : w1.frozen? ⟨W.heap.size + 1 + 1 + 1 + 1 + 1, 1, none⟩ = false := frozen_gr (v := .int .i64 may) hw1 (by go_simp) (by go_simp)
  have cw1_5_2 : w1.cell? ⟨W.heap.size + 1 + 1 + 1 + 1 + 1, 2, none⟩ = some (.int .i64 mbx) := cell_gr hw1 (by go_simp)
  have fw1_5_2 : w1.frozen? ⟨W.heap.size + 1 + 1 + 1 + 1 + 1, 2, none⟩ = false := frozen_gr (v := .int .i64 mbx) hw1 (by go_simp) (by go_simp)
  have cw1_5_3 : w1.cell? ⟨W.heap.size + 1 + 1 + 1 + 1 + 1, 3, none⟩ = some (.int .i64 mby) := cell_gr hw1 (by go_simp)
  have fw1_5_3 : w1.frozen? ⟨W.heap.size + 1 + 1 + 1 + 1 + 1, 3, none⟩ = false := frozen_gr (v := .int .i64 mby) hw1 (by go_simp) (by go_simp)
  have cw1_5_4 : w1.cell? ⟨W.heap.size + 1 + 1 + 1 + 1 + 1, 4, none⟩ = some (.int .i64 cx) := cell_gr hw1 (by go_simp)
  have fw1_5_4 : w1.frozen? ⟨W.heap.size + 1 + 1 + 1 + 1 + 1, 4, none⟩ = false := frozen_gr (v := .int .i64 cx) hw1 (by go_simp) (by go_simp)
  have cw1_5_5 : w1.cell? ⟨W.heap.size + 1 + 1 + 1 + 1 + 1, 5, none⟩ = some (.int .i64 cy) := cell_gr hw1 (by go_simp)
  have fw1_5_5 : w1.frozen? ⟨W.heap.size + 1 + 1 + 1 + 1 + 1, 5, none⟩ = false := frozen_gr (v := .int .i64 cy) hw1 (by go_simp) (by go_simp)
  have cw1_5_6 : w1.cell? ⟨W.heap.size + 1 + 1 + 1 + 1 + 1, 6, none⟩ = some (.int .i64 dx) := cell_gr hw1 (by go_simp)
  have fw1_5_6 : w1.frozen? ⟨W.heap.size + 1 + 1 + 1 + 1 + 1, 6, none⟩ = false := frozen_gr (v := .int .i64 dx) hw1 (by go_simp) (by go_simp)
  have cw1_5_7 : w1.cell? ⟨W.heap.size + 1 + 1 + 1 + 1 + 1, 7, none⟩ = some (.int .i64 dy) := cell_gr hw1 (by go_simp)
  have fw1_5_7 : w1.frozen? ⟨W.heap.size + 1 + 1 + 1 + 1 + 1, 7, none⟩ = false := frozen_gr (v := .int .i64 dy) hw1 (by go_simp) (by go_simp)
  have zw1_5 : W.heap.size + 1 + 1 + 1 + 1 + 1 < w1.heap.size := World.block_lt_of_cell? _ _ cw1_5_0
  have gw1 : Gr W w1 := Gr.trans (by have gg := gv1; have gs := gg.size; go_grown) hw1
  clear hw1 gv1 zv1_0 cv1_0_0 cv1_0_1 zv1_1 cv1_1_0 cv1_1_1 zv1_2 cv1_2_0 cv1_2_1 zv1_3 cv1_3_0 cv1_3_1 zv1_4 cv1_4_0 cv1_4_1 cv1_4_2 cv1_4_3 cv1_4_4 cv1_4_5 cv1_4_6 cv1_4_7 zv1_5 cv1_5_0 fv1_5_0 cv1_5_1 fv1_5_1 cv1_5_2 fv1_5_2 cv1_5_3 fv1_5_3 cv1_5_4 fv1_5_4 cv1_5_5 fv1_5_5 cv1_5_6 fv1_5_6 cv1_5_7 fv1_5_7
  go_wp2_with fail
  rw [rounds_succ]
  go_wp2_with fail
  go_at_call 14
  refine ((HA2.out _)).mono ?_
  rintro e u2 ⟨rfl, hu2⟩
  have cu2_0_0 : u2.cell? ⟨W.heap.size, 0, none⟩ = some (.int .i64 ax) := cell_gr hu2 (by go_simp)
  have cu2_0_1 : u2.cell? ⟨W.heap.size, 1, none⟩ = some (.int .i64 ay) := cell_gr hu2 (by go_simp)
  have zu2_0 : W.heap.size < u2.heap.size := World.block_lt_of_cell? _ _ cu2_0_0
  have cu2_1_0 : u2.cell? ⟨W.heap.size + 1, 0, none⟩ = some (.int .i64 bx) := cell_gr hu2 (by go_simp)
  have cu2_1_1 : u2.cell? ⟨W.heap.size + 1, 1, none⟩ = some (.int .i64 by') := cell_gr hu2 (by go_simp)
  have zu2_1 : W.heap.size + 1 < u2.heap.size := World.block_lt_of_cell? _ _ cu2_1_0
  have cu2_2_0 : u2.cell? ⟨W.heap.size + 1 + 1, 0, none⟩ = some (.int .i64 cx) := cell_gr hu2 (by go_simp)
  have cu2_2_1 : u2.cell? ⟨W.heap.size + 1 + 1, 1, none⟩ = some (.int .i64 cy) := cell_gr hu2 (by go_simp)
  have zu2_2 : W.heap.size + 1 + 1 < u2.heap.size := World.block_lt_of_cell? _ _ cu2_2_0
  have cu2_3_0 : u2.cell? ⟨W.heap.size + 1 + 1 + 1, 0, none⟩ = some (.int .i64 dx) := cell_gr hu2 (by go_simp)
  have cu2_3_1 : u2.cell? ⟨W.heap.size + 1 + 1 + 1, 1, none⟩ = some (.int .i64 dy) := cell_gr hu2 (by go_simp)
  have zu2_3 : W.heap.size + 1 + 1 + 1 < u2.heap.size := World.block_lt_of_cell? _ _ cu2_3_0
  have cu2_4_0 : u2.cell? ⟨W.heap.size + 1 + 1 + 1 + 1, 0, none⟩ = some (.int .i64 ax) := cell_gr hu2 (by go_simp)
  have cu2_4_1 : u2.cell? ⟨W.heap.size + 1 + 1 + 1 + 1, 1, none⟩ = some (.int .i64 ay) := cell_gr hu2 (by go_simp)
  have cu2_4_2 : u2.cell? ⟨W.heap.size + 1 + 1 + 1 + 1, 2, none⟩ = some (.int .i64 bx) := cell_gr hu2 (by go_simp)
  have cu2_4_3 : u2.cell? ⟨W.heap.size + 1 + 1 + 1 + 1, 3, none⟩ = some (.int .i64 by') := cell_gr hu2 (by go_simp)
  have cu2_4_4 : u2.cell? ⟨W.heap.size + 1 + 1 + 1 + 1, 4, none⟩ = some (.int .i64 cx) := cell_gr hu2 (by go_simp)
  have cu2_4_5 : u2.cell? ⟨W.heap.size + 1 + 1 + 1 + 1, 5, none⟩ = some (.int .i64 cy) := cell_gr hu2 (by go_simp)
  have cu2_4_6 : u2.cell? ⟨W.heap.size + 1 + 1 + 1 + 1, 6, none⟩ = some (.int .i64 dx) := cell_gr hu2 (by go_simp)
  have cu2_4_7 : u2.cell? ⟨W.heap.size + 1 + 1 + 1 + 1, 7, none⟩ = some (.int .i64 dy) := cell_gr hu2 (by go_simp)
  have zu2_4 : W.heap.size + 1 + 1 + 1 + 1 < u2.heap.size := World.block_lt_of_cell? _ _ cu2_4_0
  have cu2_5_0 : u2.cell? ⟨W.heap.size + 1 + 1 + 1 + 1 + 1, 0, none⟩ = some (.int .i64 max) := cell_gr hu2 (by go_simp)
  have fu2_5_0 : u2.frozen? ⟨W.heap.size + 1 + 1 + 1 + 1 + 1, 0, none⟩ = false := frozen_gr (v := .int .i64 max) hu2 (by go_simp) (by go_simp)
  have cu2_5_1 : u2.cell? ⟨W.heap.size + 1 + 1 + 1 + 1 + 1, 1, none⟩ = some (.int .i64 may) := cell_gr hu2 (by go_simp)
  have fu2_5_1 : u2.frozen? ⟨W.heap.size + 1 + 1 + 1 + 1 + 1, 1, none⟩ = false := frozen_gr (v := .int .i64 may) hu2 (by go_simp) (by go_simp)
  have cu2_5_2 : u2.cell? ⟨W.heap.size + 1 + 1 + 1 + 1 + 1, 2, none⟩ = some (.int .i64 mbx) := cell_gr hu2 (by go_simp)
  have fu2_5_2 : u2.frozen? ⟨W.heap.size + 1 + 1 + 1 + 1 + 1, 2, none⟩ = false := frozen_gr (v := .int .i64 mbx) hu2 (by go_simp) (by go_simp)
  have cu2_5_3 : u2.cell? ⟨W.heap.size + 1 + 1 + 1 + 1 + 1, 3, none⟩ = some (.int .i64 mby) := cell_gr hu2 (by go_simp)
  have fu2_5_3 : u2.frozen? ⟨W.heap.size + 1 + 1 + 1 + 1 + 1, 3, none⟩ = false := frozen_gr (v := .int .i64 mby) hu2 (by go_simp) (by go_simp)
  have cu2_5_4 : u2.cell? ⟨W.heap.size + 1 + 1 + 1 + 1 + 1, 4, none⟩ = some (.int .i64 cx) := cell_gr hu2 (by go_simp)
  have fu2_5_4 : u2.frozen? ⟨W.heap.size + 1 + 1 + 1 + 1 + 1, 4, none⟩ = false := frozen_gr (v := .int .i64 cx) hu2 (by go_simp) (by go_simp)
  have cu2_5_5 : u2.cell? ⟨W.heap.size + 1 + 1 + 1 + 1 + 1, 5, none⟩ = some (.int .i64 cy) := cell_gr hu2 (by go_simp)
  have fu2_5_5 : u2.frozen? ⟨W.heap.size + 1 + 1 + 1 + 1 + 1, 5, none⟩ = false := frozen_gr (v := .int .i64 cy) hu2 (by go_simp) (by go_simp)
  have cu2_5_6 : u2.cell? ⟨W.heap.size + 1 + 1 + 1 + 1 + 1, 6, none⟩ = some (.int .i64 dx) := cell_gr hu2 (by go_simp)
  have fu2_5_6 : u2.frozen? ⟨W.heap.size + 1 + 1 + 1 + 1 + 1, 6, none⟩ = false := frozen_gr (v := .int .i64 dx) hu2 (by go_simp) (by go_simp)
  have cu2_5_7 : u2.cell? ⟨W.heap.size + 1 + 1 + 1 + 1 + 1, 7, none⟩ = some (.int .i64 dy) := cell_gr hu2 (by go_simp)
  have fu2_5_7 : u2.frozen? ⟨W.heap.size + 1 + 1 + 1 + 1 + 1, 7, none⟩ = false := frozen_gr (v := .int .i64 dy) hu2 (by go_simp) (by go_simp)
  have zu2_5 : W.heap.size + 1 + 1 + 1 + 1 + 1 < u2.heap.size := World.block_lt_of_cell? _ _ cu2_5_0
  have gu2 : Gr W u2 := Gr.trans (by have gg := gw1; have gs := gg.size; go_grown) hu2
  clear hu2 gw1 zw1_0 cw1_0_0 cw1_0_1 zw1_1 cw1_1_0 cw1_1_1 zw1_2 cw1_2_0 cw1_2_1 zw1_3 cw1_3_0 cw1_3_1 zw1_4 cw1_4_0 cw1_4_1 cw1_4_2 cw1_4_3 cw1_4_4 cw1_4_5 cw1_4_6 cw1_4_7 zw1_5 cw1_5_0 fw1_5_0 cw1_5_1 fw1_5_1 cw1_5_2 fw1_5_2 cw1_5_3 fw1_5_3 cw1_5_4 fw1_5_4 cw1_5_5 fw1_5_5 cw1_5_6 fw1_5_6 cw1_5_7 fw1_5_7
  go_wp2_with fail
  refine Hd.wp_region_tail 18 (by kernel_rfl) (by kernel_rfl) ?_
  intro KQ hKQ
  repeat (first | (refine Hd.wpG_skip (by decide) rfl ?_; simp only [Act.put, List.setIfInBounds_toArray, List.set_cons_zero, List.set_cons_succ]) | (refine Hd.wpG_want (by decide) rfl ?_; apply Exists.intro; refine ⟨?_, ?_⟩; (· intro wx gx; (obtain ⟨mx, rfl⟩ := gx); all_goals (apply Hd.gAt_of_quiet; intro K hK; go_big_quiet_op; first | exact hK _ rfl | (apply Exists.intro; refine ⟨fun _ => ?_, ?_⟩; (· fail); exact hK _ rfl))); try simp only [Act.put, List.setIfInBounds_toArray, List.set_cons_zero, List.set_cons_succ]))
  refine Hd.wpG_nil (hKQ _ ?_)
  clear hKQ KQ
  intro v2 hhv2
  have hv2 := Hd.gr_of_spread hhv2
  have cv2_0_0 : v2.cell? ⟨W.heap.size, 0, none⟩ = some (.int .i64 ax) := cell_gr hv2 (by go_simp)
  have cv2_0_1 : v2.cell? ⟨W.heap.size, 1, none⟩ = some (.int .i64 ay) := cell_gr hv2 (by go_simp)
  have zv2_0 : W.heap.size < v2.heap.size := World.block_lt_of_cell? _ _ cv2_0_0
  have cv2_1_0 : v2.cell? ⟨W.heap.size + 1, 0, none⟩ = some (.int .i64 bx) := cell_gr hv2 (by go_simp)
  have cv2_1_1 : v2.cell? ⟨W.heap.size + 1, 1, none⟩ = some (.int .i64 by') := cell_gr hv2 (by go_simp)
  have zv2_1 : W.heap.size + 1 < v2.heap.size := World.block_lt_of_cell? _ _ cv2_1_0
  have cv2_2_0 : v2.cell? ⟨W.heap.size + 1 + 1, 0, none⟩ = some (.int .i64 cx) := cell_gr hv2 (by go_simp)
  have cv2_2_1 : v2.cell? ⟨W.heap.size + 1 + 1, 1, none⟩ = some (.int .i64 cy) := cell_gr hv2 (by go_simp)
  have zv2_2 : W.heap.size + 1 + 1 < v2.heap.size := World.block_lt_of_cell? _ _ cv2_2_0
  have cv2_3_0 : v2.cell? ⟨W.heap.size + 1 + 1 + 1, 0, none⟩ = some (.int .i64 dx) := cell_gr hv2 (by go_simp)
  have cv2_3_1 : v2.cell? ⟨W.heap.size + 1 + 1 + 1, 1, none⟩ = some (.int .i64 dy) := cell_gr hv2 (by go_simp)
  have zv2_3 : W.heap.size + 1 + 1 + 1 < v2.heap.size := World.block_lt_of_cell? _ _ cv2_3_0
  have cv2_4_0 : v2.cell? ⟨W.heap.size + 1 + 1 + 1 + 1, 0, none⟩ = some (.int .i64 ax) := cell_gr hv2 (by go_simp)
  have cv2_4_1 : v2.cell? ⟨W.heap.size + 1 + 1 + 1 + 1, 1, none⟩ = some (.int .i64 ay) := cell_gr hv2 (by go_simp)
  have cv2_4_2 : v2.cell? ⟨W.heap.size + 1 + 1 + 1 + 1, 2, none⟩ = some (.int .i64 bx) := cell_gr hv2 (by go_simp)
  have cv2_4_3 : v2.cell? ⟨W.heap.size + 1 + 1 + 1 + 1, 3, none⟩ = some (.int .i64 by') := cell_gr hv2 (by go_simp)
  have cv2_4_4 : v2.cell? ⟨W.heap.size + 1 + 1 + 1 + 1, 4, none⟩ = some (.int .i64 cx) := cell_gr hv2 (by go_simp)
  have cv2_4_5 : v2.cell? ⟨W.heap.size + 1 + 1 + 1 + 1, 5, none⟩ = some (.int .i64 cy) := cell_gr hv2 (by go_simp)
  have cv2_4_6 : v2.cell? ⟨W.heap.size + 1 + 1 + 1 + 1, 6, none⟩ = some (.int .i64 dx) := cell_gr hv2 (by go_simp)
  have cv2_4_7 : v2.cell? ⟨W.heap.size + 1 + 1 + 1 + 1, 7, none⟩ = some (.int .i64 dy) := cell_gr hv2 (by go_simp)
  have zv2_4 : W.heap.size + 1 + 1 + 1 + 1 < v2.heap.size := World.block_lt_of_cell? _ _ cv2_4_0
  have cv2_5_0 : v2.cell? ⟨W.heap.size + 1 + 1 + 1 + 1 + 1, 0, none⟩ = some (.int .i64 max) := cell_gr hv2 (by go_simp)
  have fv2_5_0 : v2.frozen? ⟨W.heap.size + 1 + 1 + 1 + 1 + 1, 0, none⟩ = false := frozen_gr (v := .int .i64 max) hv2 (by go_simp) (by go_simp)
  have cv2_5_1 : v2.cell? ⟨W.heap.size + 1 + 1 + 1 + 1 + 1, 1, none⟩ = some (.int .i64 may) := cell_gr hv2 (by go_simp)
  have fv2_5_1 : v2.frozen? ⟨W.heap.size + 1 + 1 + 1 + 1 + 1, 1, none⟩ = false := frozen_gr (v := .int .i64 may) hv2 (by go_simp) (by go_simp)
  have cv2_5_2 : v2.cell? ⟨W.heap.size + 1 + 1 + 1 + 1 + 1, 2, none⟩ = some (.int .i64 mbx) := cell_gr hv2 (by go_simp)
  have fv2_5_2 : v2.frozen? ⟨W.heap.size + 1 + 1 + 1 + 1 + 1, 2, none⟩ = false := frozen_gr (v := .int .i64 mbx) hv2 (by go_simp) (by go_simp)
  have cv2_5_3 : v2.cell? ⟨W.heap.size + 1 + 1 + 1 + 1 + 1, 3, none⟩ = some (.int .i64 mby) := cell_gr hv2 (by go_simp)
  have fv2_5_3 : v2.frozen? ⟨W.heap.size + 1 + 1 + 1 + 1 + 1, 3, none⟩ = false := frozen_gr (v := .int .i64 mby) hv2 (by go_simp) (by go_simp)
  have cv2_5_4 : v2.cell? ⟨W.heap.size + 1 + 1 + 1 + 1 + 1, 4, none⟩ = some (.int .i64 cx) := cell_gr hv2 (by go_simp)
  have fv2_5_4 : v2.frozen? ⟨W.heap.size + 1 + 1 + 1 + 1 + 1, 4, none⟩ = false := frozen_gr (v := .int .i64 cx) hv2 (by go_simp) (by go_simp)
  have cv2_5_5 : v2.cell? ⟨W.heap.size + 1 + 1 + 1 + 1 + 1, 5, none⟩ = some (.int .i64 cy) := cell_gr hv2 (by go_simp)
  have fv2_5_5 : v2.frozen? ⟨W.heap.size + 1 + 1 + 1 + 1 + 1, 5, none⟩ = false := frozen_gr (v := .int .i64 cy) hv2 (by go_simp) (by go_simp)
  have cv2_5_6 : v2.cell? ⟨W.heap.size + 1 + 1 + 1 + 1 + 1, 6, none⟩ = some (.int .i64 dx) := cell_gr hv2 (by go_simp)
  have fv2_5_6 : v2.frozen? ⟨W.heap.size + 1 + 1 + 1 + 1 + 1, 6, none⟩ = false := frozen_gr (v := .int .i64 dx) hv2 (by go_simp) (by go_simp)
  have cv2_5_7 : v2.cell? ⟨W.heap.size + 1 + 1 + 1 + 1 + 1, 7, none⟩ = some (.int .i64 dy) := cell_gr hv2 (by go_simp)
  have fv2_5_7 : v2.frozen? ⟨W.heap.size + 1 + 1 + 1 + 1 + 1, 7, none⟩ = false := frozen_gr (v := .int .i64 dy) hv2 (by go_simp) (by go_simp)
  have zv2_5 : W.heap.size + 1 + 1 + 1 + 1 + 1 < v2.heap.size := World.block_lt_of_cell? _ _ cv2_5_0
  have gv2 : Gr W v2 := Gr.trans (by have gg := gu2; have gs := gg.size; go_grown) hv2
  clear hv2 hhv2 gu2 zu2_0 cu2_0_0 cu2_0_1 zu2_1 cu2_1_0 cu2_1_1 zu2_2 cu2_2_0 cu2_2_1 zu2_3 cu2_3_0 cu2_3_1 zu2_4 cu2_4_0 cu2_4_1 cu2_4_2 cu2_4_3 cu2_4_4 cu2_4_5 cu2_4_6 cu2_4_7 zu2_5 cu2_5_0 fu2_5_0 cu2_5_1 fu2_5_1 cu2_5_2 fu2_5_2 cu2_5_3 fu2_5_3 cu2_5_4 fu2_5_4 cu2_5_5 fu2_5_5 cu2_5_6 fu2_5_6 cu2_5_7 fu2_5_7
  go_wp2_with fail
  go_at_call 14
  refine ((HR2.out _)).mono ?_
  rintro e w2 ⟨rfl, hw2⟩
  have cw2_0_0 : w2.cell? ⟨W.heap.size, 0, none⟩ = some (.int .i64 ax) := cell_gr hw2 (by go_simp)
  have cw2_0_1 : w2.cell? ⟨W.heap.size, 1, none⟩ = some (.int .i64 ay) := cell_gr hw2 (by go_simp)
  have zw2_0 : W.heap.size < w2.heap.size := World.block_lt_of_cell? _ _ cw2_0_0
  have cw2_1_0 : w2.cell? ⟨W.heap.size + 1, 0, none⟩ = some (.int .i64 bx) := cell_gr hw2 (by go_simp)
  have cw2_1_1 : w2.cell? ⟨W.heap.size + 1, 1, none⟩ = some (.int .i64 by') := cell_gr hw2 (by go_simp)
  have zw2_1 : W.heap.size + 1 < w2.heap.size := World.block_lt_of_cell? _ _ cw2_1_0
  have cw2_2_0 : w2.cell? ⟨W.heap.size + 1 + 1, 0, none⟩ = some (.int .i64 cx) := cell_gr hw2 (by go_simp)
  have cw2_2_1 : w2.cell? ⟨W.heap.size + 1 + 1, 1, none⟩ = some (.int .i64 cy) := cell_gr hw2 (by go_simp)
  have zw2_2 : W.heap.size + 1 + 1 < w2.heap.size := World.block_lt_of_cell? _ _ cw2_2_0
  have cw2_3_0 : w2.cell? ⟨W.heap.size + 1 + 1 + 1, 0, none⟩ = some (.int .i64 dx) := cell_gr hw2 (by go_simp)
  have cw2_3_1 : w2.cell? ⟨W.heap.size + 1 + 1 + 1, 1, none⟩ = some (.int .i64 dy) := cell_gr hw2 (by go_simp)
  have zw2_3 : W.heap.size + 1 + 1 + 1 < w2.heap.size := World.block_lt_of_cell? _ _ cw2_3_0
  have cw2_4_0 : w2.cell? ⟨W.heap.size + 1 + 1 + 1 + 1, 0, none⟩ = some (.int .i64 ax) := cell_gr hw2 (by go_simp)
  have cw2_4_1 : w2.cell? ⟨W.heap.size + 1 + 1 + 1 + 1, 1, none⟩ = some (.int .i64 ay) := cell_gr hw2 (by go_simp)
  have cw2_4_2 : w2.cell? ⟨W.heap.size + 1 + 1 + 1 + 1, 2, none⟩ = some (.int .i64 bx) := cell_gr hw2 (by go_simp)
  have cw2_4_3 : w2.cell? ⟨W.heap.size + 1 + 1 + 1 + 1, 3, none⟩ = some (.int .i64 by') := cell_gr hw2 (by go_simp)
  have cw2_4_4 : w2.cell? ⟨W.heap.size + 1 + 1 + 1 + 1, 4, none⟩ = some (.int .i64 cx) := cell_gr hw2 (by go_simp)
  have cw2_4_5 : w2.cell? ⟨W.heap.size + 1 + 1 + 1 + 1, 5, none⟩ = some (.int .i64 cy) := cell_gr hw2 (by go_simp)
  have cw2_4_6 : w2.cell? ⟨W.heap.size + 1 + 1 + 1 + 1, 6, none⟩ = some (.int .i64 dx) := cell_gr hw2 (by go_simp)
  have cw2_4_7 : w2.cell? ⟨W.heap.size + 1 + 1 + 1 + 1, 7, none⟩ = some (.int .i64 dy) := cell_gr hw2 (by go_simp)
  have zw2_4 : W.heap.size + 1 + 1 + 1 + 1 < w2.heap.size := World.block_lt_of_cell? _ _ cw2_4_0
  have cw2_5_0 : w2.cell? ⟨W.heap.size + 1 + 1 + 1 + 1 + 1, 0, none⟩ = some (.int .i64 max) := cell_gr hw2 (by go_simp)
  have fw2_5_0 : w2.frozen? ⟨W.heap.size + 1 + 1 + 1 + 1 + 1, 0, none⟩ = false := frozen_gr (v := .int .i64 max) hw2 (by go_simp) (by go_simp)
  have cw2_5_1 : w2.cell? ⟨W.heap.size + 1 + 1 + 1 + 1 + 1, 1, none⟩ = some (.int .i64 may) := cell_gr hw2 (by go_simp)
  have fw2_5_1 : w2.frozen? ⟨W.heap.size + 1 + 1 + 1 + 1 + 1, 1, none⟩ = false := frozen_gr (v := .int .i64 may) hw2 (by go_simp) (by go_simp)
  have cw2_5_2 : w2.cell? ⟨W.heap.size + 1 + 1 + 1 + 1 + 1, 2, none⟩ = some (.int .i64 mbx) := cell_gr hw2 (by go_simp)
  have fw2_5_2 : w2.frozen? ⟨W.heap.size + 1 + 1 + 1 + 1 + 1, 2, none⟩ = false := frozen_gr (v := .int .i64 mbx) hw2 (by go_simp) (by go_simp)
  have cw2_5_3 : w2.cell? ⟨W.heap.size + 1 + 1 + 1 + 1 + 1, 3, none⟩ = some (.int .i64 mby) := cell_gr hw2 (by go_simp)
  have fw2_5_3 : w2.frozen? ⟨W.heap.size + 1 + 1 + 1 + 1 + 1, 3, none⟩ = false := frozen_gr (v := .int .i64 mby) hw2 (by go_simp) (by go_simp)
  have cw2_5_4 : w2.cell? ⟨W.heap.size + 1 + 1 + 1 + 1 + 1, 4, none⟩ = some (.int .i64 mcx) := cell_gr hw2 (by go_simp)
  have fw2_5_4 : w2.frozen? ⟨W.heap.size + 1 + 1 + 1 + 1 + 1, 4, none⟩ = false := frozen_gr (v := .int .i64 mcx) hw2 (by go_simp) (by go_simp)
  have cw2_5_5 : w2.cell? ⟨W.heap.size + 1 + 1 + 1 + 1 + 1, 5, none⟩ = some (.int .i64 mcy) := cell_gr hw2 (by go_simp)
  have fw2_5_5 : w2.frozen? ⟨W.heap.size + 1 + 1 + 1 + 1 + 1, 5, none⟩ = false := frozen_gr (v := .int .i64 mcy) hw2 (by go_simp) (by go_simp)
  have cw2_5_6 : w2.cell? ⟨W.heap.size + 1 + 1 + 1 + 1 + 1, 6, none⟩ = some (.int .i64 dx) := cell_gr hw2 (by go_simp)
  have fw2_5_6 : w2.frozen? ⟨W.heap.size + 1 + 1 + 1 + 1 + 1, 6, none⟩ = false := frozen_gr (v := .int .i64 dx) hw2 (by go_simp) (by go_simp)
  have cw2_5_7 : w2.cell? ⟨W.heap.size + 1 + 1 + 1 + 1 + 1, 7, none⟩ = some (.int .i64 dy) := cell_gr hw2 (by go_simp)
  have fw2_5_7 : w2.frozen? ⟨W.heap.size + 1 + 1 + 1 + 1 + 1, 7, none⟩ = false := frozen_gr (v := .int .i64 dy) hw2 (by go_simp) (by go_simp)
  have zw2_5 : W.heap.size + 1 + 1 + 1 + 1 + 1 < w2.heap.size := World.block_lt_of_cell? _ _ cw2_5_0
  have gw2 : Gr W w2 := Gr.trans (by have gg := gv2; have gs := gg.size; go_grown) hw2
  clear hw2 gv2 zv2_0 cv2_0_0 cv2_0_1 zv2_1 cv2_1_0 cv2_1_1 zv2_2 cv2_2_0 cv2_2_1 zv2_3 cv2_3_0 cv2_3_1 zv2_4 cv2_4_0 cv2_4_1 cv2_4_2 cv2_4_3 cv2_4_4 cv2_4_5 cv2_4_6 cv2_4_7 zv2_5 cv2_5_0 fv2_5_0 cv2_5_1 fv2_5_1 cv2_5_2 fv2_5_2 cv2_5_3 fv2_5_3 cv2_5_4 fv2_5_4 cv2_5_5 fv2_5_5 cv2_5_6 fv2_5_6 cv2_5_7 fv2_5_7
  go_wp2_with fail
  rw [rounds_succ]
  go_wp2_with fail
  go_at_call 14
  refine ((HA3.out _)).mono ?_
  rintro e u3 ⟨rfl, hu3⟩
  have cu3_0_0 : u3.cell? ⟨W.heap.size, 0, none⟩ = some (.int .i64 ax) := cell_gr hu3 (by go_simp)
  have cu3_0_1 : u3.cell? ⟨W.heap.size, 1, none⟩ = some (.int .i64 ay) := cell_gr hu3 (by go_simp)
  have zu3_0 : W.heap.size < u3.heap.size := World.block_lt_of_cell? _ _ cu3_0_0
  have cu3_1_0 : u3.cell? ⟨W.heap.size + 1, 0, none⟩ = some (.int .i64 bx) := cell_gr hu3 (by go_simp)
  have cu3_1_1 : u3.cell? ⟨W.heap.size + 1, 1, none⟩ = some (.int .i64 by') := cell_gr hu3 (by go_simp)
  have zu3_1 : W.heap.size + 1 < u3.heap.size := World.block_lt_of_cell? _ _ cu3_1_0
  have cu3_2_0 : u3.cell? ⟨W.heap.size + 1 + 1, 0, none⟩ = some (.int .i64 cx) := cell_gr hu3 (by go_simp)
  have cu3_2_1 : u3.cell? ⟨W.heap.size + 1 + 1, 1, none⟩ = some (.int .i64 cy) := cell_gr hu3 (by go_simp)
  have zu3_2 : W.heap.size + 1 + 1 < u3.heap.size := World.block_lt_of_cell? _ _ cu3_2_0
  have cu3_3_0 : u3.cell? ⟨W.heap.size + 1 + 1 + 1, 0, none⟩ = some (.int .i64 dx) := cell_gr hu3 (by go_simp)
  have cu3_3_1 : u3.cell? ⟨W.heap.size + 1 + 1 + 1, 1, none⟩ = some (.int .i64 dy) := cell_gr hu3 (by go_simp)
  have zu3_3 : W.heap.size + 1 + 1 + 1 < u3.heap.size := World.block_lt_of_cell? _ _ cu3_3_0
  have cu3_4_0 : u3.cell? ⟨W.heap.size + 1 + 1 + 1 + 1, 0, none⟩ = some (.int .i64 ax) := cell_gr hu3 (by go_simp)
  have cu3_4_1 : u3.cell? ⟨W.heap.size + 1 + 1 + 1 + 1, 1, none⟩ = some (.int .i64 ay) := cell_gr hu3 (by go_simp)
  have cu3_4_2 : u3.cell? ⟨W.heap.size + 1 + 1 + 1 + 1, 2, none⟩ = some (.int .i64 bx) := cell_gr hu3 (by go_simp)
  have cu3_4_3 : u3.cell? ⟨W.heap.size + 1 + 1 + 1 + 1, 3, none⟩ = some (.int .i64 by') := cell_gr hu3 (by go_simp)
  have cu3_4_4 : u3.cell? ⟨W.heap.size + 1 + 1 + 1 + 1, 4, none⟩ = some (.int .i64 cx) := cell_gr hu3 (by go_simp)
  have cu3_4_5 : u3.cell? ⟨W.heap.size + 1 + 1 + 1 + 1, 5, none⟩ = some (.int .i64 cy) := cell_gr hu3 (by go_simp)
  have cu3_4_6 : u3.cell? ⟨W.heap.size + 1 + 1 + 1 + 1, 6, none⟩ = some (.int .i64 dx) := cell_gr hu3 (by go_simp)
  have cu3_4_7 : u3.cell? ⟨W.heap.size + 1 + 1 + 1 + 1, 7, none⟩ = some (.int .i64 dy) := cell_gr hu3 (by go_simp)
  have zu3_4 : W.heap.size + 1 + 1 + 1 + 1 < u3.heap.size := World.block_lt_of_cell? _ _ cu3_4_0
  have cu3_5_0 : u3.cell? ⟨W.heap.size + 1 + 1 + 1 + 1 + 1, 0, none⟩ = some (.int .i64 max) := cell_gr hu3 (by go_simp)
  have fu3_5_0 : u3.frozen? ⟨W.heap.size + 1 + 1 + 1 + 1 + 1, 0, none⟩ = false := frozen_gr (v := .int .i64 max) hu3 (by go_simp) (by go_simp)
  have cu3_5_1 : u3.cell? ⟨W.heap.size + 1 + 1 + 1 + 1 + 1, 1, none⟩ = some (.int .i64 may) := cell_gr hu3 (by go_simp)
  have fu3_5_1 : u3.frozen? ⟨W.heap.size + 1 + 1 + 1 + 1 + 1, 1, none⟩ = false := frozen_gr (v := .int .i64 may) hu3 (by go_simp) (by go_simp)
  have cu3_5_2 : u3.cell? ⟨W.heap.size + 1 + 1 + 1 + 1 + 1, 2, none⟩ = some (.int .i64 mbx) := cell_gr hu3 (by go_simp)
  have fu3_5_2 : u3.frozen? ⟨W.heap.size + 1 + 1 + 1 + 1 + 1, 2, none⟩ = false := frozen_gr (v := .int .i64 mbx) hu3 (by go_simp) (by go_simp)
  have cu3_5_3 : u3.cell? ⟨W.heap.size + 1 + 1 + 1 + 1 + 1, 3, none⟩ = some (.int .i64 mby) := cell_gr hu3 (by go_simp)
  have fu3_5_3 : u3.frozen? ⟨W.heap.size + 1 + 1 + 1 + 1 + 1, 3, none⟩ = false := frozen_gr (v := .int .i64 mby) hu3 (by go_simp) (by go_simp)
  have cu3_5_4 : u3.cell? ⟨W.heap.size + 1 + 1 + 1 + 1 + 1, 4, none⟩ = some (.int .i64 mcx) := cell_gr hu3 (by go_simp)
  have fu3_5_4 : u3.frozen? ⟨W.heap.size + 1 + 1 + 1 + 1 + 1, 4, none⟩ = false := frozen_gr (v := .int .i64 mcx) hu3 (by go_simp) (by go_simp)
  have cu3_5_5 : u3.cell? ⟨W.heap.size + 1 + 1 + 1 + 1 + 1, 5, none⟩ = some (.int .i64 mcy) := cell_gr hu3 (by go_simp)
  have fu3_5_5 : u3.frozen? ⟨W.heap.size + 1 + 1 + 1 + 1 + 1, 5, none⟩ = false := frozen_gr (v := .int .i64 mcy) hu3 (by go_simp) (by go_simp)
  have cu3_5_6 : u3.cell? ⟨W.heap.size + 1 + 1 + 1 + 1 + 1, 6, none⟩ = some (.int .i64 dx) := cell_gr hu3 (by go_simp)
  have fu3_5_6 : u3.frozen? ⟨W.heap.size + 1 + 1 + 1 + 1 + 1, 6, none⟩ = false := frozen_gr (v := .int .i64 dx) hu3 (by go_simp) (by go_simp)
  have cu3_5_7 : u3.cell? ⟨W.heap.size + 1 + 1 + 1 + 1 + 1, 7, none⟩ = some (.int .i64 dy) := cell_gr hu3 (by go_simp)
  have fu3_5_7 : u3.frozen? ⟨W.heap.size + 1 + 1 + 1 + 1 + 1, 7, none⟩ = false := frozen_gr (v := .int .i64 dy) hu3 (by go_simp) (by go_simp)
  have zu3_5 : W.heap.size + 1 + 1 + 1 + 1 + 1 < u3.heap.size := World.block_lt_of_cell? _ _ cu3_5_0
  have gu3 : Gr W u3 := Gr.trans (by have gg := gw2; have gs := gg.size; go_grown) hu3
  clear hu3 gw2 zw2_0 cw2_0_0 cw2_0_1 zw2_1 cw2_1_0 cw2_1_1 zw2_2 cw2_2_0 cw2_2_1 zw2_3 cw2_3_0 cw2_3_1 zw2_4 cw2_4_0 cw2_4_1 cw2_4_2 cw2_4_3 cw2_4_4 cw2_4_5 cw2_4_6 cw2_4_7 zw2_5 cw2_5_0 fw2_5_0 cw2_5_1 fw2_5_1 cw2_5_2 fw2_5_2 cw2_5_3 fw2_5_3 cw2_5_4 fw2_5_4 cw2_5_5 fw2_5_5 cw2_5_6 fw2_5_6 cw2_5_7 fw2_5_7
  go_wp2_with fail
  refine Hd.wp_region_tail 18 (by kernel_rfl) (by kernel_rfl) ?_
  intro KQ hKQ
  repeat (first | (refine Hd.wpG_skip (by decide) rfl ?_; simp only [Act.put, List.setIfInBounds_toArray, List.set_cons_zero, List.set_cons_succ]) | (refine Hd.wpG_want (by decide) rfl ?_; apply Exists.intro; refine ⟨?_, ?_⟩; (· intro wx gx; (obtain ⟨mx, rfl⟩ := gx); all_goals (apply Hd.gAt_of_quiet; intro K hK; go_big_quiet_op; first | exact hK _ rfl | (apply Exists.intro; refine ⟨fun _ => ?_, ?_⟩; (· fail); exact hK _ rfl))); try simp only [Act.put, List.setIfInBounds_toArray, List.set_cons_zero, List.set_cons_succ]))
  refine Hd.wpG_nil (hKQ _ ?_)
  clear hKQ KQ
  intro v3 hhv3
  have hv3 := Hd.gr_of_spread hhv3
  have cv3_0_0 : v3.cell? ⟨W.heap.size, 0, none⟩ = some (.int .i64 ax) := cell_gr hv3 (by go_simp)
  have cv3_0_1 : v3.cell? ⟨W.heap.size, 1, none⟩ = some (.int .i64 ay) := cell_gr hv3 (by go_simp)
  have zv3_0 : W.heap.size < v3.heap.size := World.block_lt_of_cell? _ _ cv3_0_0
  have cv3_1_0 : v3.cell? ⟨W.heap.size + 1, 0, none⟩ = some (.int .i64 bx) := cell_gr hv3 (by go_simp)
  have cv3_1_1 : v3.cell? ⟨W.heap.size + 1, 1, none⟩ = some (.int .i64 by') := cell_gr hv3 (by go_simp)
  have zv3_1 : W.heap.size + 1 < v3.heap.size := World.block_lt_of_cell? _ _ cv3_1_0
  have cv3_2_0 : v3.cell? ⟨W.heap.size + 1 + 1, 0, none⟩ = some (.int .i64 cx) := cell_gr hv3 (by go_simp)
  have cv3_2_1 : v3.cell? ⟨W.heap.size + 1 + 1, 1, none⟩ = some (.int .i64 cy) := cell_gr hv3 (by go_simp)
  have zv3_2 : W.heap.size + 1 + 1 < v3.heap.size := World.block_lt_of_cell? _ _ cv3_2_0
  have cv3_3_0 : v3.cell? ⟨W.heap.size + 1 + 1 + 1, 0, none⟩ = some (.int .i64 dx) := cell_gr hv3 (by go_simp)
  have cv3_3_1 : v3.cell? ⟨W.heap.size + 1 + 1 + 1, 1, none⟩ = some (.int .i64 dy) := cell_gr hv3 (by go_simp)
  have zv3_3 : W.heap.size + 1 + 1 + 1 < v3.heap.size := World.block_lt_of_cell? _ _ cv3_3_0
  have cv3_4_0 : v3.cell? ⟨W.heap.size + 1 + 1 + 1 + 1, 0, none⟩ = some (.int .i64 ax) := cell_gr hv3 (by go_simp)
  have cv3_4_1 : v3.cell? ⟨W.heap.size + 1 + 1 + 1 + 1, 1, none⟩ = some (.int .i64 ay) := cell_gr hv3 (by go_simp)
  have cv3_4_2 : v3.cell? ⟨W.heap.size + 1 + 1 + 1 + 1, 2, none⟩ = some (.int .i64 bx) := cell_gr hv3 (by go_simp)
  have cv3_4_3 : v3.cell? ⟨W.heap.size + 1 + 1 + 1 + 1, 3, none⟩ = some (.int .i64 by') := cell_gr hv3 (by go_simp)
  have cv3_4_4 : v3.cell? ⟨W.heap.size + 1 + 1 + 1 + 1, 4, none⟩ = some (.int .i64 cx) := cell_gr hv3 (by go_simp)
  have cv3_4_5 : v3.cell? ⟨W.heap.size + 1 + 1 + 1 + 1, 5, none⟩ = some (.int .i64 cy) := cell_gr hv3 (by go_simp)
  have cv3_4_6 : v3.cell? ⟨W.heap.size + 1 + 1 + 1 + 1, 6, none⟩ = some (.int .i64 dx) := cell_gr hv3 (by go_simp)
  have cv3_4_7 : v3.cell? ⟨W.heap.size + 1 + 1 + 1 + 1, 7, none⟩ = some (.int .i64 dy) := cell_gr hv3 (by go_simp)
  have zv3_4 : W.heap.size + 1 + 1 + 1 + 1 < v3.heap.size := World.block_lt_of_cell? _ _ cv3_4_0
  have cv3_5_0 : v3.cell? ⟨W.heap.size + 1 + 1 + 1 + 1 + 1, 0, none⟩ = some (.int .i64 max) := cell_gr hv3 (by go_simp)
  have fv3_5_0 : v3.frozen? ⟨W.heap.size + 1 + 1 + 1 + 1 + 1, 0, none⟩ = false := frozen_gr (v := .int .i64 max) hv3 (by go_simp) (by go_simp)
  have cv3_5_1 : v3.cell? ⟨W.heap.size + 1 + 1 + 1 + 1 + 1, 1, none⟩ = some (.int .i64 may) := cell_gr hv3 (by go_simp)
  have fv3_5_1 : v3.frozen? ⟨W.heap.size + 1 + 1 + 1 + 1 + 1, 1, none⟩ = false := frozen_gr (v := .int .i64 may) hv3 (by go_simp) (by go_simp)
  have cv3_5_2 : v3.cell? ⟨W.heap.size + 1 + 1 + 1 + 1 + 1, 2, none⟩ = some (.int .i64 mbx) := cell_gr hv3 (by go_simp)
  have fv3_5_2 : v3.frozen? ⟨W.heap.size + 1 + 1 + 1 + 1 + 1, 2, none⟩ = false := frozen_gr (v := .int .i64 mbx) hv3 (by go_simp) (by go_simp)
  have cv3_5_3 : v3.cell? ⟨W.heap.size + 1 + 1 + 1 + 1 + 1, 3, none⟩ = some (.int .i64 mby) := cell_gr hv3 (by go_simp)
  have fv3_5_3 : v3.frozen? ⟨W.heap.size + 1 + 1 + 1 + 1 + 1, 3, none⟩ = false := frozen_gr (v := .int .i64 mby) hv3 (by go_simp) (by go_simp)
  have cv3_5_4 : v3.cell? ⟨W.heap.size + 1 + 1 + 1 + 1 + 1, 4, none⟩ = some (.int .i64 mcx) := cell_gr hv3 (by go_simp)
  have fv3_5_4 : v3.frozen? ⟨W.heap.size + 1 + 1 + 1 + 1 + 1, 4, none⟩ = false := frozen_gr (v := .int .i64 mcx) hv3 (by go_simp) (by go_simp)
  have cv3_5_5 : v3.cell? ⟨W.heap.size + 1 + 1 + 1 + 1 + 1, 5, none⟩ = some (.int .i64 mcy) := cell_gr hv3 (by go_simp)
  have fv3_5_5 : v3.frozen? ⟨W.heap.size + 1 + 1 + 1 + 1 + 1, 5, none⟩ = false := frozen_gr (v := .int .i64 mcy) hv3 (by go_simp) (by go_simp)
  have cv3_5_6 : v3.cell? ⟨W.heap.size + 1 + 1 + 1 + 1 + 1, 6, none⟩ = some (.int .i64 dx) := cell_gr hv3 (by go_simp)
  have fv3_5_6 : v3.frozen? ⟨W.heap.size + 1 + 1 + 1 + 1 + 1, 6, none⟩ = false := frozen_gr (v := .int .i64 dx) hv3 (by go_simp) (by go_simp)
  have cv3_5_7 : v3.cell? ⟨W.heap.size + 1 + 1 + 1 + 1 + 1, 7, none⟩ = some (.int .i64 dy) := cell_gr hv3 (by go_simp)
  have fv3_5_7 : v3.frozen? ⟨W.heap.size + 1 + 1 + 1 + 1 + 1, 7, none⟩ = false := frozen_gr (v := .int .i64 dy) hv3 (by go_simp) (by go_simp)
  have zv3_5 : W.heap.size + 1 + 1 + 1 + 1 + 1 < v3.heap.size := World.block_lt_of_cell? _ _ cv3_5_0
  have gv3 : Gr W v3 := Gr.trans (by have gg := gu3; have gs := gg.size; go_grown) hv3
  clear hv3 hhv3 gu3 zu3_0 cu3_0_0 cu3_0_1 zu3_1 cu3_1_0 cu3_1_1 zu3_2 cu3_2_0 cu3_2_1 zu3_3 cu3_3_0 cu3_3_1 zu3_4 cu3_4_0 cu3_4_1 cu3_4_2 cu3_4_3 cu3_4_4 cu3_4_5 cu3_4_6 cu3_4_7 zu3_5 cu3_5_0 fu3_5_0 cu3_5_1 fu3_5_1 cu3_5_2 fu3_5_2 cu3_5_3 fu3_5_3 cu3_5_4 fu3_5_4 cu3_5_5 fu3_5_5 cu3_5_6 fu3_5_6 cu3_5_7 fu3_5_7
  go_wp2_with fail
  go_at_call 14
  refine ((HR3.out _)).mono ?_
  rintro e w3 ⟨rfl, hw3⟩
  have cw3_0_0 : w3.cell? ⟨W.heap.size, 0, none⟩ = some (.int .i64 ax) := cell_gr hw3 (by go_simp)
  have cw3_0_1 : w3.cell? ⟨W.heap.size, 1, none⟩ = some (.int .i64 ay) := cell_gr hw3 (by go_simp)
  have zw3_0 : W.heap.size < w3.heap.size := World.block_lt_of_cell? _ _ cw3_0_0
  have cw3_1_0 : w3.cell? ⟨W.heap.size + 1, 0, none⟩ = some (.int .i64 bx) := cell_gr hw3 (by go_simp)
  have cw3_1_1 : w3.cell? ⟨W.heap.size + 1, 1, none⟩ = some (.int .i64 by') := cell_gr hw3 (by go_simp)
  have zw3_1 : W.heap.size + 1 < w3.heap.size := World.block_lt_of_cell? _ _ cw3_1_0
  have cw3_2_0 : w3.cell? ⟨W.heap.size + 1 + 1, 0, none⟩ = some (.int .i64 cx) := cell_gr hw3 (by go_simp)
  have cw3_2_1 : w3.cell? ⟨W.heap.size + 1 + 1, 1, none⟩ = some (.int .i64 cy) := cell_gr hw3 (by go_simp)
  have zw3_2 : W.heap.size + 1 + 1 < w3.heap.size := World.block_lt_of_cell? _ _ cw3_2_0
  have cw3_3_0 : w3.cell? ⟨W.heap.size + 1 + 1 + 1, 0, none⟩ = some (.int .i64 dx) := cell_gr hw3 (by go_simp)
  have cw3_3_1 : w3.cell? ⟨W.heap.size + 1 + 1 + 1, 1, none⟩ = some (.int .i64 dy) := cell_gr hw3 (by go_simp)
  have zw3_3 : W.heap.size + 1 + 1 + 1 < w3.heap.size := World.block_lt_of_cell? _ _ cw3_3_0
  have cw3_4_0 : w3.cell? ⟨W.heap.size + 1 + 1 + 1 + 1, 0, none⟩ = some (.int .i64 ax) := cell_gr hw3 (by go_simp)
  have cw3_4_1 : w3.cell? ⟨W.heap.size + 1 + 1 + 1 + 1, 1, none⟩ = some (.int .i64 ay) := cell_gr hw3 (by go_simp)
  have cw3_4_2 : w3.cell? ⟨W.heap.size + 1 + 1 + 1 + 1, 2, none⟩ = some (.int .i64 bx) := cell_gr hw3 (by go_simp)
  have cw3_4_3 : w3.cell? ⟨W.heap.size + 1 + 1 + 1 + 1, 3, none⟩ = some (.int .i64 by') := cell_gr hw3 (by go_simp)
  have cw3_4_4 : w3.cell? ⟨W.heap.size + 1 + 1 + 1 + 1, 4, none⟩ = some (.int .i64 cx) := cell_gr hw3 (by go_simp)
  have cw3_4_5 : w3.cell? ⟨W.heap.size + 1 + 1 + 1 + 1, 5, none⟩ = some (.int .i64 cy) := cell_gr hw3 (by go_simp)
  have cw3_4_6 : w3.cell? ⟨W.heap.size + 1 + 1 + 1 + 1, 6, none⟩ = some (.int .i64 dx) := cell_gr hw3 (by go_simp)
  have cw3_4_7 : w3.cell? ⟨W.heap.size + 1 + 1 + 1 + 1, 7, none⟩ = some (.int .i64 dy) := cell_gr hw3 (by go_simp)
  have zw3_4 : W.heap.size + 1 + 1 + 1 + 1 < w3.heap.size := World.block_lt_of_cell? _ _ cw3_4_0
  have cw3_5_0 : w3.cell? ⟨W.heap.size + 1 + 1 + 1 + 1 + 1, 0, none⟩ = some (.int .i64 max) := cell_gr hw3 (by go_simp)
  have fw3_5_0 : w3.frozen? ⟨W.heap.size + 1 + 1 + 1 + 1 + 1, 0, none⟩ = false := frozen_gr (v := .int .i64 max) hw3 (by go_simp) (by go_simp)
  have cw3_5_1 : w3.cell? ⟨W.heap.size + 1 + 1 + 1 + 1 + 1, 1, none⟩ = some (.int .i64 may) := cell_gr hw3 (by go_simp)
  have fw3_5_1 : w3.frozen? ⟨W.heap.size + 1 + 1 + 1 + 1 + 1, 1, none⟩ = false := frozen_gr (v := .int .i64 may) hw3 (by go_simp) (by go_simp)
  have cw3_5_2 : w3.cell? ⟨W.heap.size + 1 + 1 + 1 + 1 + 1, 2, none⟩ = some (.int .i64 mbx) := cell_gr hw3 (by go_simp)
  have fw3_5_2 : w3.frozen? ⟨W.heap.size + 1 + 1 + 1 + 1 + 1, 2, none⟩ = false := frozen_gr (v := .int .i64 mbx) hw3 (by go_simp) (by go_simp)
  have cw3_5_3 : w3.cell? ⟨W.heap.size + 1 + 1 + 1 + 1 + 1, 3, none⟩ = some (.int .i64 mby) := cell_gr hw3 (by go_simp)
  have fw3_5_3 : w3.frozen? ⟨W.heap.size + 1 + 1 + 1 + 1 + 1, 3, none⟩ = false := frozen_gr (v := .int .i64 mby) hw3 (by go_simp) (by go_simp)
  have cw3_5_4 : w3.cell? ⟨W.heap.size + 1 + 1 + 1 + 1 + 1, 4, none⟩ = some (.int .i64 mcx) := cell_gr hw3 (by go_simp)
  have fw3_5_4 : w3.frozen? ⟨W.heap.size + 1 + 1 + 1 + 1 + 1, 4, none⟩ = false := frozen_gr (v := .int .i64 mcx) hw3 (by go_simp) (by go_simp)
  have cw3_5_5 : w3.cell? ⟨W.heap.size + 1 + 1 + 1 + 1 + 1, 5, none⟩ = some (.int .i64 mcy) := cell_gr hw3 (by go_simp)
  have fw3_5_5 : w3.frozen? ⟨W.heap.size + 1 + 1 + 1 + 1 + 1, 5, none⟩ = false := frozen_gr (v := .int .i64 mcy) hw3 (by go_simp) (by go_simp)
  have cw3_5_6 : w3.cell? ⟨W.heap.size + 1 + 1 + 1 + 1 + 1, 6, none⟩ = some (.int .i64 mdx) := cell_gr hw3 (by go_simp)
  have fw3_5_6 : w3.frozen? ⟨W.heap.size + 1 + 1 + 1 + 1 + 1, 6, none⟩ = false := frozen_gr (v := .int .i64 mdx) hw3 (by go_simp) (by go_simp)
  have cw3_5_7 : w3.cell? ⟨W.heap.size + 1 + 1 + 1 + 1 + 1, 7, none⟩ = some (.int .i64 mdy) := cell_gr hw3 (by go_simp)
  have fw3_5_7 : w3.frozen? ⟨W.heap.size + 1 + 1 + 1 + 1 + 1, 7, none⟩ = false := frozen_gr (v := .int .i64 mdy) hw3 (by go_simp) (by go_simp)
  have zw3_5 : W.heap.size + 1 + 1 + 1 + 1 + 1 < w3.heap.size := World.block_lt_of_cell? _ _ cw3_5_0
  have gw3 : Gr W w3 := Gr.trans (by have gg := gv3; have gs := gg.size; go_grown) hw3
  clear hw3 gv3 zv3_0 cv3_0_0 cv3_0_1 zv3_1 cv3_1_0 cv3_1_1 zv3_2 cv3_2_0 cv3_2_1 zv3_3 cv3_3_0 cv3_3_1 zv3_4 cv3_4_0 cv3_4_1 cv3_4_2 cv3_4_3 cv3_4_4 cv3_4_5 cv3_4_6 cv3_4_7 zv3_5 cv3_5_0 fv3_5_0 cv3_5_1 fv3_5_1 cv3_5_2 fv3_5_2 cv3_5_3 fv3_5_3 cv3_5_4 fv3_5_4 cv3_5_5 fv3_5_5 cv3_5_6 fv3_5_6 cv3_5_7 fv3_5_7
  go_wp2_with fail
  rw [rounds_succ]
  go_wp2_with fail
  refine wp_region_spread (by kernel_rfl) (by kernel_rfl) ?_
  try simp only [List.append]
  repeat (first | go_big_quiet_skip | (go_big_quiet_want; go_big_quiet_op; (first | go_big_quiet_on | (apply Exists.intro; refine ⟨fun _ => ?_, ?_⟩; (· (first | (go_at_call 24; first | ((with_reducible refine ((HA4.out _)).mono ?_); rintro e w' ⟨rfl, hg⟩; exact ⟨rfl, spread_gr hg⟩) | ((with_reducible refine ((HA5.out _)).mono ?_); rintro e w' ⟨rfl, hg⟩; exact ⟨rfl, spread_gr hg⟩)) | (go_at_call 22; first | ((with_reducible refine ((HA6.out _)).mono ?_); rintro e w' ⟨rfl, hg⟩; exact ⟨rfl, spread_gr hg⟩) | ((with_reducible refine ((HA7.out _)).mono ?_); rintro e w' ⟨rfl, hg⟩; exact ⟨rfl, spread_gr hg⟩)) | (go_at_call 30; first | ((with_reducible refine ((HA8.out _)).mono ?_); rintro e w' ⟨rfl, hg⟩; exact ⟨rfl, spread_gr hg⟩) | ((with_reducible refine ((HA9.out _)).mono ?_); rintro e w' ⟨rfl, hg⟩; exact ⟨rfl, spread_gr hg⟩)) | (go_at_call 32; first | ((with_reducible refine ((s4_awake _)).mono ?_); rintro e w' ⟨rfl, hg⟩; exact ⟨rfl, spread_gr hg⟩)))); go_big_quiet_on))))
  refine wpQuiet_nil ?_
  intro wr hr
  obtain ⟨mr, rfl⟩ := hr
  go_wp2_with fail
  go_ret
  exact ⟨rfl, Gr.trans (by have gg := gw3; have gs := gg.size; go_grown) (gr_spread _ _)⟩
theorem walk_SegmMoves (ax ay bx by' cx cy dx dy x y : Int) (h1 : (-9223372036854775808 ≤ ax ∧ ax ≤ 9223372036854775807) ∧ (-9223372036854775808 ≤ ay ∧ ay ≤ 9223372036854775807)) (h2 : (-9223372036854775808 ≤ bx ∧ bx ≤ 9223372036854775807) ∧ (-9223372036854775808 ≤ by' ∧ by' ≤ 9223372036854775807)) (h3 : (-9223372036854775808 ≤ cx ∧ cx ≤ 9223372036854775807) ∧ (-9223372036854775808 ≤ cy ∧ cy ≤ 9223372036854775807)) (h4 : (-9223372036854775808 ≤ dx ∧ dx ≤ 9223372036854775807) ∧ (-9223372036854775808 ≤ dy ∧ dy ≤ 9223372036854775807)) (h5 : -9223372036854775808 ≤ x ∧ x ≤ 9223372036854775807) (h6 : -9223372036854775808 ≤ y ∧ y ≤ 9223372036854775807) (W : World) :
    Calls Try.prog 8 #[.agg #[.int .i64 ax, .int .i64 ay], .agg #[.int .i64 bx, .int .i64 by'], .agg #[.int .i64 cx, .int .i64 cy], .agg #[.int .i64 dx, .int .i64 dy], .int .i64 x, .int .i64 y] W fun e w' => e = .returned (.bool true) ∧ Gr W w' := by
  clear h1 h2 h3 h4 h5 h6
  by_cases hr : (¬ x < -2147483648 ∧ ¬ 2147483648 < x) ∧ ¬ y < -2147483648 ∧ ¬ 2147483648 < y
  · obtain ⟨⟨c1, c2⟩, c3, c4⟩ := hr
    have Q0 := c_rPoint ax ay
    have R0 := c_rPoint (ax + x) (ay + y)
    cases n0 : nearB ax ay
    · rw [n0] at Q0
      exact moves_q0 ax ay bx by' cx cy dx dy x y (ax + x) (ay + y) (bx + x) (by' + y) (cx + x) (cy + y) (dx + x) (dy + y) W c1 c2 c3 c4   Q0
    · rw [n0] at Q0
      have b0 := nearB_iff.1 n0
      have e01 : wrap64 (ax + x) = ax + x := IntWalk.wrap64_in _ (by omega)
      have e02 : IntKind.i64.wrap (ax + x) = ax + x := IntWalk.i64_in _ (by omega)
      have e03 : wrap64 (ay + y) = ay + y := IntWalk.wrap64_in _ (by omega)
      have e04 : IntKind.i64.wrap (ay + y) = ay + y := IntWalk.i64_in _ (by omega)
      cases k0 : nearB (ax + x) (ay + y)
      · rw [k0] at R0
        exact moves_r0 ax ay bx by' cx cy dx dy x y (ax + x) (ay + y) (bx + x) (by' + y) (cx + x) (cy + y) (dx + x) (dy + y) W c1 c2 c3 c4 e01 e02 e03 e04  Q0 R0
      · rw [k0] at R0
        have Q1 := c_rPoint bx by'
        have R1 := c_rPoint (bx + x) (by' + y)
        cases n1 : nearB bx by'
        · rw [n1] at Q1
          exact moves_q1 ax ay bx by' cx cy dx dy x y (ax + x) (ay + y) (bx + x) (by' + y) (cx + x) (cy + y) (dx + x) (dy + y) W c1 c2 c3 c4 e01 e02 e03 e04 Q0 R0 Q1
        · rw [n1] at Q1
          have b1 := nearB_iff.1 n1
          have e11 : wrap64 (bx + x) = bx + x := IntWalk.wrap64_in _ (by omega)
          have e12 : IntKind.i64.wrap (bx + x) = bx + x := IntWalk.i64_in _ (by omega)
          have e13 : wrap64 (by' + y) = by' + y := IntWalk.wrap64_in _ (by omega)
          have e14 : IntKind.i64.wrap (by' + y) = by' + y := IntWalk.i64_in _ (by omega)
          cases k1 : nearB (bx + x) (by' + y)
          · rw [k1] at R1
            exact moves_r1 ax ay bx by' cx cy dx dy x y (ax + x) (ay + y) (bx + x) (by' + y) (cx + x) (cy + y) (dx + x) (dy + y) W c1 c2 c3 c4 e01 e02 e03 e04 e11 e12 e13 e14 Q0 R0 Q1 R1
          · rw [k1] at R1
            have Q2 := c_rPoint cx cy
            have R2 := c_rPoint (cx + x) (cy + y)
            cases n2 : nearB cx cy
            · rw [n2] at Q2
              exact moves_q2 ax ay bx by' cx cy dx dy x y (ax + x) (ay + y) (bx + x) (by' + y) (cx + x) (cy + y) (dx + x) (dy + y) W c1 c2 c3 c4 e01 e02 e03 e04 e11 e12 e13 e14 Q0 R0 Q1 R1 Q2
            · rw [n2] at Q2
              have b2 := nearB_iff.1 n2
              have e21 : wrap64 (cx + x) = cx + x := IntWalk.wrap64_in _ (by omega)
              have e22 : IntKind.i64.wrap (cx + x) = cx + x := IntWalk.i64_in _ (by omega)
              have e23 : wrap64 (cy + y) = cy + y := IntWalk.wrap64_in _ (by omega)
              have e24 : IntKind.i64.wrap (cy + y) = cy + y := IntWalk.i64_in _ (by omega)
              cases k2 : nearB (cx + x) (cy + y)
              · rw [k2] at R2
                exact moves_r2 ax ay bx by' cx cy dx dy x y (ax + x) (ay + y) (bx + x) (by' + y) (cx + x) (cy + y) (dx + x) (dy + y) W c1 c2 c3 c4 e01 e02 e03 e04 e11 e12 e13 e14 e21 e22 e23 e24 Q0 R0 Q1 R1 Q2 R2
              · rw [k2] at R2
                have Q3 := c_rPoint dx dy
                have R3 := c_rPoint (dx + x) (dy + y)
                cases n3 : nearB dx dy
                · rw [n3] at Q3
                  exact moves_q3 ax ay bx by' cx cy dx dy x y (ax + x) (ay + y) (bx + x) (by' + y) (cx + x) (cy + y) (dx + x) (dy + y) W c1 c2 c3 c4 e01 e02 e03 e04 e11 e12 e13 e14 e21 e22 e23 e24 Q0 R0 Q1 R1 Q2 R2 Q3
                · rw [n3] at Q3
                  have b3 := nearB_iff.1 n3
                  have e31 : wrap64 (dx + x) = dx + x := IntWalk.wrap64_in _ (by omega)
                  have e32 : IntKind.i64.wrap (dx + x) = dx + x := IntWalk.i64_in _ (by omega)
                  have e33 : wrap64 (dy + y) = dy + y := IntWalk.wrap64_in _ (by omega)
                  have e34 : IntKind.i64.wrap (dy + y) = dy + y := IntWalk.i64_in _ (by omega)
                  cases k3 : nearB (dx + x) (dy + y)
                  · rw [k3] at R3
                    exact moves_r3 ax ay bx by' cx cy dx dy x y (ax + x) (ay + y) (bx + x) (by' + y) (cx + x) (cy + y) (dx + x) (dy + y) W c1 c2 c3 c4 e01 e02 e03 e04 e11 e12 e13 e14 e21 e22 e23 e24 e31 e32 e33 e34 Q0 R0 Q1 R1 Q2 R2 Q3 R3
                  · rw [k3] at R3
                    have M1 := c_gMeet ax ay bx by' cx cy dx dy
                    have M2 := c_gMeet (ax + x) (ay + y) (bx + x) (by' + y) (cx + x) (cy + y) (dx + x) (dy + y)
                    rw [show meG (ax + x) (ay + y) (bx + x) (by' + y) (cx + x) (cy + y) (dx + x) (dy + y) = meG ax ay bx by' cx cy dx dy by unfold meG all4; rw [meF_move, n0, n1, n2, n3, k0, k1, k2, k3]] at M2
                    have O1 := c_gOn ax ay bx by' cx cy
                    have O2 := c_gOn (ax + x) (ay + y) (bx + x) (by' + y) (cx + x) (cy + y)
                    rw [show onG (ax + x) (ay + y) (bx + x) (by' + y) (cx + x) (cy + y) = onG ax ay bx by' cx cy by unfold onG; rw [onF_move, n0, n1, n2, k0, k1, k2]] at O2
                    have D1 := c_gDist ax ay bx by' cx cy (by rw [n0, n1, n2]; rfl)
                    have D2 := c_gDist (ax + x) (ay + y) (bx + x) (by' + y) (cx + x) (cy + y) (by rw [k0, k1, k2]; rfl)
                    unfold dsH dsL at D2
                    rw [(sd_move ax ay bx by' cx cy x y).1, (sd_move ax ay bx by' cx cy x y).2] at D2
                    exact moves_ok ax ay bx by' cx cy dx dy x y (ax + x) (ay + y) (bx + x) (by' + y) (cx + x) (cy + y) (dx + x) (dy + y) _ _ _ _ _ W c1 c2 c3 c4 e01 e02 e03 e04 e11 e12 e13 e14 e21 e22 e23 e24 e31 e32 e33 e34 Q0 R0 Q1 R1 Q2 R2 Q3 R3 M1 M2 O1 O2 D1 D2
  · refine moves_out ax ay bx by' cx cy dx dy x y W ?_
    omega
end Go.Proofs.Ythjhhnolkiejpaa
