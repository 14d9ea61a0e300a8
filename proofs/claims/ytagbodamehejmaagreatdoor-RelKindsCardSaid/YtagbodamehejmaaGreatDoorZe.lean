/- segm: Dist; the document's own segments; what the document fixes of segments; SegmEven -/
import Derived.Test.YtagbodamehejmaaGreatDoorZd
import Derived.Test.YtagbodamehejmaaGreatDoorPq
import Derived.Test.YtagbodamehejmaaGreatDoorZa
namespace Go.Proofs.YtagbodamehejmaaGreatDoor
set_option linter.unusedVariables false
open Go.ChangeShapes Go.WideShapes Go.ChangeAt Go.RowKit

set_option maxHeartbeats 4000000 in
set_option maxRecDepth 100000 in
theorem dist_no (ax ay bx by' px py : Int) (W : World)
    (A1 : ∀ b w, b < w.heap.size → w.cell? ⟨b, 0, none⟩ = some (.int .i64 ax) → w.cell? ⟨b, 1, none⟩ = some (.int .i64 ay) → w.cell? ⟨b, 2, none⟩ = some (.int .i64 bx) → w.cell? ⟨b, 3, none⟩ = some (.int .i64 by') → w.cell? ⟨b, 4, none⟩ = some (.int .i64 px) → w.cell? ⟨b, 5, none⟩ = some (.int .i64 py) →
      Calls Tryz.prog 57 #[.slice (some ⟨b, 0, none⟩) 3 3] w fun e w' => e = .returned (.bool false) ∧ Gr w w') :
    Calls Tryz.prog 32 #[.agg #[.int .i64 ax, .int .i64 ay], .agg #[.int .i64 bx, .int .i64 by'], .agg #[.int .i64 px, .int .i64 py]] W fun e w' => e = .returned (.agg #[.int .u64 0, .int .u64 0, .int .u64 0]) ∧ Gr W w' := by
  have H1 := Lib.hid A1
  clear A1
  go_enter Tryz.func32, Tryz.ntmps32
  go_wp2_with fail
  go_at_call 57
  refine ((H1.out _ _ (by go_simp) (by go_simp) (by go_simp) (by go_simp) (by go_simp) (by go_simp) (by go_simp))).mono ?_
  rintro e w1 ⟨rfl, hw1⟩
  have cw1_0_0 : w1.cell? ⟨W.heap.size, 0, none⟩ = some (.int .i64 ax) := cell_gr hw1 (by go_simp)
  have cw1_0_1 : w1.cell? ⟨W.heap.size, 1, none⟩ = some (.int .i64 ay) := cell_gr hw1 (by go_simp)
  have zw1_0 : W.heap.size < w1.heap.size := World.block_lt_of_cell? _ _ cw1_0_0
  have cw1_1_0 : w1.cell? ⟨W.heap.size + 1, 0, none⟩ = some (.int .i64 bx) := cell_gr hw1 (by go_simp)
  have cw1_1_1 : w1.cell? ⟨W.heap.size + 1, 1, none⟩ = some (.int .i64 by') := cell_gr hw1 (by go_simp)
  have zw1_1 : W.heap.size + 1 < w1.heap.size := World.block_lt_of_cell? _ _ cw1_1_0
  have cw1_2_0 : w1.cell? ⟨W.heap.size + 1 + 1, 0, none⟩ = some (.int .i64 px) := cell_gr hw1 (by go_simp)
  have cw1_2_1 : w1.cell? ⟨W.heap.size + 1 + 1, 1, none⟩ = some (.int .i64 py) := cell_gr hw1 (by go_simp)
  have zw1_2 : W.heap.size + 1 + 1 < w1.heap.size := World.block_lt_of_cell? _ _ cw1_2_0
  have cw1_3_0 : w1.cell? ⟨W.heap.size + 1 + 1 + 1, 0, none⟩ = some (.int .u64 0) := cell_gr hw1 (by go_simp)
  have fw1_3_0 : w1.frozen? ⟨W.heap.size + 1 + 1 + 1, 0, none⟩ = false := frozen_gr (v := .int .u64 0) hw1 (by go_simp) (by go_simp)
  have cw1_3_1 : w1.cell? ⟨W.heap.size + 1 + 1 + 1, 1, none⟩ = some (.int .u64 0) := cell_gr hw1 (by go_simp)
  have fw1_3_1 : w1.frozen? ⟨W.heap.size + 1 + 1 + 1, 1, none⟩ = false := frozen_gr (v := .int .u64 0) hw1 (by go_simp) (by go_simp)
  have cw1_3_2 : w1.cell? ⟨W.heap.size + 1 + 1 + 1, 2, none⟩ = some (.int .u64 0) := cell_gr hw1 (by go_simp)
  have fw1_3_2 : w1.frozen? ⟨W.heap.size + 1 + 1 + 1, 2, none⟩ = false := frozen_gr (v := .int .u64 0) hw1 (by go_simp) (by go_simp)
  have zw1_3 : W.heap.size + 1 + 1 + 1 < w1.heap.size := World.block_lt_of_cell? _ _ cw1_3_0
  have gw1 : Gr W w1 := Gr.trans (by go_grown) hw1
  clear hw1
  go_wp2_with fail
  refine bodyPost_ret (v := .agg #[.int .u64 0, .int .u64 0, .int .u64 0]) (by simp [results, Tryz.results32, go_sem, *]) rfl ⟨rfl, by go_grown⟩
set_option maxHeartbeats 4000000 in
set_option maxRecDepth 100000 in
theorem dist_core (ax ay bx by' px py x1 x2 x3 x4 p1 p2 al wh s1 s2 c h l qh ql qd u : Int) (W : World)
    (e1 : wrap64 (bx - ax) = x1) (e2 : wrap64 (px - ax) = x2) (e3 : wrap64 (by' - ay) = x3) (e4 : wrap64 (py - ay) = x4) (e5 : wrap64 (x1 * x2) = p1) (e6 : wrap64 (x3 * x4) = p2) (e7 : wrap64 (p1 + p2) = al)
    (f1 : IntKind.i64.wrap (bx - ax) = x1) (f2 : IntKind.i64.wrap (px - ax) = x2) (f3 : IntKind.i64.wrap (by' - ay) = x3) (f4 : IntKind.i64.wrap (py - ay) = x4) (f5 : IntKind.i64.wrap (x1 * x2) = p1) (f6 : IntKind.i64.wrap (x3 * x4) = p2) (f7 : IntKind.i64.wrap (p1 + p2) = al)
    (g1 : IntKind.u64.wrap al = u)
    (A1 : ∀ b w, b < w.heap.size → w.cell? ⟨b, 0, none⟩ = some (.int .i64 ax) → w.cell? ⟨b, 1, none⟩ = some (.int .i64 ay) → w.cell? ⟨b, 2, none⟩ = some (.int .i64 bx) → w.cell? ⟨b, 3, none⟩ = some (.int .i64 by') → w.cell? ⟨b, 4, none⟩ = some (.int .i64 px) → w.cell? ⟨b, 5, none⟩ = some (.int .i64 py) →
      Calls Tryz.prog 57 #[.slice (some ⟨b, 0, none⟩) 3 3] w fun e w' => e = .returned (.bool true) ∧ Gr w w')
    (A2 : ∀ w, Calls Tryz.prog 58 #[.agg #[.int .i64 ax, .int .i64 ay], .agg #[.int .i64 bx, .int .i64 by']] w fun e w' => e = .returned (.agg #[.int .u64 0, .int .u64 wh, .int .u64 1]) ∧ Gr w w')
    (A3 : ∀ w, Calls Tryz.prog 58 #[.agg #[.int .i64 ax, .int .i64 ay], .agg #[.int .i64 px, .int .i64 py]] w fun e w' => e = .returned (.agg #[.int .u64 0, .int .u64 s1, .int .u64 1]) ∧ Gr w w')
    (A4 : ∀ w, Calls Tryz.prog 58 #[.agg #[.int .i64 bx, .int .i64 by'], .agg #[.int .i64 px, .int .i64 py]] w fun e w' => e = .returned (.agg #[.int .u64 0, .int .u64 s2, .int .u64 1]) ∧ Gr w w')
    (A5 : ∀ w, Calls Tryz.prog 60 #[.agg #[.int .i64 ax, .int .i64 ay], .agg #[.int .i64 bx, .int .i64 by'], .agg #[.int .i64 px, .int .i64 py]] w fun e w' => e = .returned (.int .i64 c) ∧ Gr w w')
    (A6 : ∀ w, Calls Tryz.prog 54 #[.int .i64 c] w fun e w' => e = .returned (.agg #[.int .u64 h, .int .u64 l]) ∧ Gr w w')
    (r1 r2 r3 : Int)
    (hc : (al ≤ 0 ∧ r1 = 0 ∧ r2 = s1 ∧ r3 = 1) ∨ (¬ al ≤ 0 ∧ u ≥ wh ∧ wh ≤ u ∧ r1 = 0 ∧ r2 = s2 ∧ r3 = 1) ∨ (¬ al ≤ 0 ∧ ¬ u ≥ wh ∧ ¬ wh ≤ u ∧ r1 = qh ∧ r2 = ql ∧ r3 = qd ∧ ∀ w, Calls Tryz.prog 59 #[.agg #[.int .u64 h, .int .u64 l], .int .u64 wh] w fun e w' => e = .returned (.tuple #[.agg #[.int .u64 qh, .int .u64 ql, .int .u64 qd], .nilIface]) ∧ Gr w w')) :
    Calls Tryz.prog 32 #[.agg #[.int .i64 ax, .int .i64 ay], .agg #[.int .i64 bx, .int .i64 by'], .agg #[.int .i64 px, .int .i64 py]] W fun e w' => e = .returned (.agg #[.int .u64 r1, .int .u64 r2, .int .u64 r3]) ∧ Gr W w' := by
  have H1 := Lib.hid A1
  have H2 := Lib.hid A2
  have H3 := Lib.hid A3
  have H4 := Lib.hid A4
  have H5 := Lib.hid A5
  have H6 := Lib.hid A6
  clear A1 A2 A3 A4 A5 A6
  rcases hc with ⟨c1, rfl, rfl, rfl⟩ | ⟨c1, c2, c3, rfl, rfl, rfl⟩ | ⟨c1, c2, c3, rfl, rfl, rfl, A7⟩
  · go_enter Tryz.func32, Tryz.ntmps32
    go_wp2_with fail
    go_at_call 57
    refine ((H1.out _ _ (by go_simp) (by go_simp) (by go_simp) (by go_simp) (by go_simp) (by go_simp) (by go_simp))).mono ?_
    rintro e w1 ⟨rfl, hw1⟩
    have cw1_0_0 : w1.cell? ⟨W.heap.size, 0, none⟩ = some (.int .i64 ax) := cell_gr hw1 (by go_simp)
    have cw1_0_1 : w1.cell? ⟨W.heap.size, 1, none⟩ = some (.int .i64 ay) := cell_gr hw1 (by go_simp)
    have zw1_0 : W.heap.size < w1.heap.size := World.block_lt_of_cell? _ _ cw1_0_0
    have cw1_1_0 : w1.cell? ⟨W.heap.size + 1, 0, none⟩ = some (.int .i64 bx) := cell_gr hw1 (by go_simp)
    have cw1_1_1 : w1.cell? ⟨W.heap.size + 1, 1, none⟩ = some (.int .i64 by') := cell_gr hw1 (by go_simp)
    have zw1_1 : W.heap.size + 1 < w1.heap.size := World.block_lt_of_cell? _ _ cw1_1_0
    have cw1_2_0 : w1.cell? ⟨W.heap.size + 1 + 1, 0, none⟩ = some (.int .i64 px) := cell_gr hw1 (by go_simp)
    have cw1_2_1 : w1.cell? ⟨W.heap.size + 1 + 1, 1, none⟩ = some (.int .i64 py) := cell_gr hw1 (by go_simp)
    have zw1_2 : W.heap.size + 1 + 1 < w1.heap.size := World.block_lt_of_cell? _ _ cw1_2_0
    have cw1_3_0 : w1.cell? ⟨W.heap.size + 1 + 1 + 1, 0, none⟩ = some (.int .u64 0) := cell_gr hw1 (by go_simp)
    have fw1_3_0 : w1.frozen? ⟨W.heap.size + 1 + 1 + 1, 0, none⟩ = false := frozen_gr (v := .int .u64 0) hw1 (by go_simp) (by go_simp)
    have cw1_3_1 : w1.cell? ⟨W.heap.size + 1 + 1 + 1, 1, none⟩ = some (.int .u64 0) := cell_gr hw1 (by go_simp)
    have fw1_3_1 : w1.frozen? ⟨W.heap.size + 1 + 1 + 1, 1, none⟩ = false := frozen_gr (v := .int .u64 0) hw1 (by go_simp) (by go_simp)
    have cw1_3_2 : w1.cell? ⟨W.heap.size + 1 + 1 + 1, 2, none⟩ = some (.int .u64 0) := cell_gr hw1 (by go_simp)
    have fw1_3_2 : w1.frozen? ⟨W.heap.size + 1 + 1 + 1, 2, none⟩ = false := frozen_gr (v := .int .u64 0) hw1 (by go_simp) (by go_simp)
    have zw1_3 : W.heap.size + 1 + 1 + 1 < w1.heap.size := World.block_lt_of_cell? _ _ cw1_3_0
    have gw1 : Gr W w1 := Gr.trans (by go_grown) hw1
    clear hw1
    go_wp2_with fail
    go_at_call 58
    refine ((H2.out _)).mono ?_
    rintro e w2 ⟨rfl, hw2⟩
    have cw2_0_0 : w2.cell? ⟨W.heap.size, 0, none⟩ = some (.int .i64 ax) := cell_gr hw2 (by go_simp)
    have cw2_0_1 : w2.cell? ⟨W.heap.size, 1, none⟩ = some (.int .i64 ay) := cell_gr hw2 (by go_simp)
    have zw2_0 : W.heap.size < w2.heap.size := World.block_lt_of_cell? _ _ cw2_0_0
    have cw2_1_0 : w2.cell? ⟨W.heap.size + 1, 0, none⟩ = some (.int .i64 bx) := cell_gr hw2 (by go_simp)
    have cw2_1_1 : w2.cell? ⟨W.heap.size + 1, 1, none⟩ = some (.int .i64 by') := cell_gr hw2 (by go_simp)
    have zw2_1 : W.heap.size + 1 < w2.heap.size := World.block_lt_of_cell? _ _ cw2_1_0
    have cw2_2_0 : w2.cell? ⟨W.heap.size + 1 + 1, 0, none⟩ = some (.int .i64 px) := cell_gr hw2 (by go_simp)
    have cw2_2_1 : w2.cell? ⟨W.heap.size + 1 + 1, 1, none⟩ = some (.int .i64 py) := cell_gr hw2 (by go_simp)
    have zw2_2 : W.heap.size + 1 + 1 < w2.heap.size := World.block_lt_of_cell? _ _ cw2_2_0
    have cw2_3_0 : w2.cell? ⟨W.heap.size + 1 + 1 + 1, 0, none⟩ = some (.int .u64 0) := cell_gr hw2 (by go_simp)
    have fw2_3_0 : w2.frozen? ⟨W.heap.size + 1 + 1 + 1, 0, none⟩ = false := frozen_gr (v := .int .u64 0) hw2 (by go_simp) (by go_simp)
    have cw2_3_1 : w2.cell? ⟨W.heap.size + 1 + 1 + 1, 1, none⟩ = some (.int .u64 0) := cell_gr hw2 (by go_simp)
    have fw2_3_1 : w2.frozen? ⟨W.heap.size + 1 + 1 + 1, 1, none⟩ = false := frozen_gr (v := .int .u64 0) hw2 (by go_simp) (by go_simp)
    have cw2_3_2 : w2.cell? ⟨W.heap.size + 1 + 1 + 1, 2, none⟩ = some (.int .u64 0) := cell_gr hw2 (by go_simp)
    have fw2_3_2 : w2.frozen? ⟨W.heap.size + 1 + 1 + 1, 2, none⟩ = false := frozen_gr (v := .int .u64 0) hw2 (by go_simp) (by go_simp)
    have zw2_3 : W.heap.size + 1 + 1 + 1 < w2.heap.size := World.block_lt_of_cell? _ _ cw2_3_0
    have gw2 : Gr W w2 := Gr.trans (by have gg := gw1; have gs := gg.size; go_grown) hw2
    clear hw2 gw1 zw1_0 cw1_0_0 cw1_0_1 zw1_1 cw1_1_0 cw1_1_1 zw1_2 cw1_2_0 cw1_2_1 zw1_3 cw1_3_0 fw1_3_0 cw1_3_1 fw1_3_1 cw1_3_2 fw1_3_2
    go_wp2_with fail
    go_at_call 58
    refine ((H3.out _)).mono ?_
    rintro e w3 ⟨rfl, hw3⟩
    have cw3_0_0 : w3.cell? ⟨W.heap.size, 0, none⟩ = some (.int .i64 ax) := cell_gr hw3 (by go_simp)
    have cw3_0_1 : w3.cell? ⟨W.heap.size, 1, none⟩ = some (.int .i64 ay) := cell_gr hw3 (by go_simp)
    have zw3_0 : W.heap.size < w3.heap.size := World.block_lt_of_cell? _ _ cw3_0_0
    have cw3_1_0 : w3.cell? ⟨W.heap.size + 1, 0, none⟩ = some (.int .i64 bx) := cell_gr hw3 (by go_simp)
    have cw3_1_1 : w3.cell? ⟨W.heap.size + 1, 1, none⟩ = some (.int .i64 by') := cell_gr hw3 (by go_simp)
    have zw3_1 : W.heap.size + 1 < w3.heap.size := World.block_lt_of_cell? _ _ cw3_1_0
    have cw3_2_0 : w3.cell? ⟨W.heap.size + 1 + 1, 0, none⟩ = some (.int .i64 px) := cell_gr hw3 (by go_simp)
    have cw3_2_1 : w3.cell? ⟨W.heap.size + 1 + 1, 1, none⟩ = some (.int .i64 py) := cell_gr hw3 (by go_simp)
    have zw3_2 : W.heap.size + 1 + 1 < w3.heap.size := World.block_lt_of_cell? _ _ cw3_2_0
    have cw3_3_0 : w3.cell? ⟨W.heap.size + 1 + 1 + 1, 0, none⟩ = some (.int .u64 0) := cell_gr hw3 (by go_simp)
    have fw3_3_0 : w3.frozen? ⟨W.heap.size + 1 + 1 + 1, 0, none⟩ = false := frozen_gr (v := .int .u64 0) hw3 (by go_simp) (by go_simp)
    have cw3_3_1 : w3.cell? ⟨W.heap.size + 1 + 1 + 1, 1, none⟩ = some (.int .u64 0) := cell_gr hw3 (by go_simp)
    have fw3_3_1 : w3.frozen? ⟨W.heap.size + 1 + 1 + 1, 1, none⟩ = false := frozen_gr (v := .int .u64 0) hw3 (by go_simp) (by go_simp)
    have cw3_3_2 : w3.cell? ⟨W.heap.size + 1 + 1 + 1, 2, none⟩ = some (.int .u64 0) := cell_gr hw3 (by go_simp)
    have fw3_3_2 : w3.frozen? ⟨W.heap.size + 1 + 1 + 1, 2, none⟩ = false := frozen_gr (v := .int .u64 0) hw3 (by go_simp) (by go_simp)
    have zw3_3 : W.heap.size + 1 + 1 + 1 < w3.heap.size := World.block_lt_of_cell? _ _ cw3_3_0
    have cw3_4_0 : w3.cell? ⟨w2.heap.size, 0, none⟩ = some (.int .u64 0) := cell_gr hw3 (by go_simp)
    have cw3_4_1 : w3.cell? ⟨w2.heap.size, 1, none⟩ = some (.int .u64 wh) := cell_gr hw3 (by go_simp)
    have cw3_4_2 : w3.cell? ⟨w2.heap.size, 2, none⟩ = some (.int .u64 1) := cell_gr hw3 (by go_simp)
    have zw3_4 : w2.heap.size < w3.heap.size := World.block_lt_of_cell? _ _ cw3_4_0
    have gw3 : Gr W w3 := Gr.trans (by have gg := gw2; have gs := gg.size; go_grown) hw3
    clear hw3 gw2 zw2_0 cw2_0_0 cw2_0_1 zw2_1 cw2_1_0 cw2_1_1 zw2_2 cw2_2_0 cw2_2_1 zw2_3 cw2_3_0 fw2_3_0 cw2_3_1 fw2_3_1 cw2_3_2 fw2_3_2
    go_wp2_with fail
    refine bodyPost_ret (v := .agg #[.int .u64 0, .int .u64 r2, .int .u64 1]) (by simp [results, Tryz.results32, go_sem, *]) rfl ⟨rfl, by go_grown⟩
  · go_enter Tryz.func32, Tryz.ntmps32
    go_wp2_with fail
    go_at_call 57
    refine ((H1.out _ _ (by go_simp) (by go_simp) (by go_simp) (by go_simp) (by go_simp) (by go_simp) (by go_simp))).mono ?_
    rintro e w1 ⟨rfl, hw1⟩
    have cw1_0_0 : w1.cell? ⟨W.heap.size, 0, none⟩ = some (.int .i64 ax) := cell_gr hw1 (by go_simp)
    have cw1_0_1 : w1.cell? ⟨W.heap.size, 1, none⟩ = some (.int .i64 ay) := cell_gr hw1 (by go_simp)
    have zw1_0 : W.heap.size < w1.heap.size := World.block_lt_of_cell? _ _ cw1_0_0
    have cw1_1_0 : w1.cell? ⟨W.heap.size + 1, 0, none⟩ = some (.int .i64 bx) := cell_gr hw1 (by go_simp)
    have cw1_1_1 : w1.cell? ⟨W.heap.size + 1, 1, none⟩ = some (.int .i64 by') := cell_gr hw1 (by go_simp)
    have zw1_1 : W.heap.size + 1 < w1.heap.size := World.block_lt_of_cell? _ _ cw1_1_0
    have cw1_2_0 : w1.cell? ⟨W.heap.size + 1 + 1, 0, none⟩ = some (.int .i64 px) := cell_gr hw1 (by go_simp)
    have cw1_2_1 : w1.cell? ⟨W.heap.size + 1 + 1, 1, none⟩ = some (.int .i64 py) := cell_gr hw1 (by go_simp)
    have zw1_2 : W.heap.size + 1 + 1 < w1.heap.size := World.block_lt_of_cell? _ _ cw1_2_0
    have cw1_3_0 : w1.cell? ⟨W.heap.size + 1 + 1 + 1, 0, none⟩ = some (.int .u64 0) := cell_gr hw1 (by go_simp)
    have fw1_3_0 : w1.frozen? ⟨W.heap.size + 1 + 1 + 1, 0, none⟩ = false := frozen_gr (v := .int .u64 0) hw1 (by go_simp) (by go_simp)
    have cw1_3_1 : w1.cell? ⟨W.heap.size + 1 + 1 + 1, 1, none⟩ = some (.int .u64 0) := cell_gr hw1 (by go_simp)
    have fw1_3_1 : w1.frozen? ⟨W.heap.size + 1 + 1 + 1, 1, none⟩ = false := frozen_gr (v := .int .u64 0) hw1 (by go_simp) (by go_simp)
    have cw1_3_2 : w1.cell? ⟨W.heap.size + 1 + 1 + 1, 2, none⟩ = some (.int .u64 0) := cell_gr hw1 (by go_simp)
    have fw1_3_2 : w1.frozen? ⟨W.heap.size + 1 + 1 + 1, 2, none⟩ = false := frozen_gr (v := .int .u64 0) hw1 (by go_simp) (by go_simp)
    have zw1_3 : W.heap.size + 1 + 1 + 1 < w1.heap.size := World.block_lt_of_cell? _ _ cw1_3_0
    have gw1 : Gr W w1 := Gr.trans (by go_grown) hw1
    clear hw1
    go_wp2_with fail
    go_at_call 58
    refine ((H2.out _)).mono ?_
    rintro e w2 ⟨rfl, hw2⟩
    have cw2_0_0 : w2.cell? ⟨W.heap.size, 0, none⟩ = some (.int .i64 ax) := cell_gr hw2 (by go_simp)
    have cw2_0_1 : w2.cell? ⟨W.heap.size, 1, none⟩ = some (.int .i64 ay) := cell_gr hw2 (by go_simp)
    have zw2_0 : W.heap.size < w2.heap.size := World.block_lt_of_cell? _ _ cw2_0_0
    have cw2_1_0 : w2.cell? ⟨W.heap.size + 1, 0, none⟩ = some (.int .i64 bx) := cell_gr hw2 (by go_simp)
    have cw2_1_1 : w2.cell? ⟨W.heap.size + 1, 1, none⟩ = some (.int .i64 by') := cell_gr hw2 (by go_simp)
    have zw2_1 : W.heap.size + 1 < w2.heap.size := World.block_lt_of_cell? _ _ cw2_1_0
    have cw2_2_0 : w2.cell? ⟨W.heap.size + 1 + 1, 0, none⟩ = some (.int .i64 px) := cell_gr hw2 (by go_simp)
    have cw2_2_1 : w2.cell? ⟨W.heap.size + 1 + 1, 1, none⟩ = some (.int .i64 py) := cell_gr hw2 (by go_simp)
    have zw2_2 : W.heap.size + 1 + 1 < w2.heap.size := World.block_lt_of_cell? _ _ cw2_2_0
    have cw2_3_0 : w2.cell? ⟨W.heap.size + 1 + 1 + 1, 0, none⟩ = some (.int .u64 0) := cell_gr hw2 (by go_simp)
    have fw2_3_0 : w2.frozen? ⟨W.heap.size + 1 + 1 + 1, 0, none⟩ = false := frozen_gr (v := .int .u64 0) hw2 (by go_simp) (by go_simp)
    have cw2_3_1 : w2.cell? ⟨W.heap.size + 1 + 1 + 1, 1, none⟩ = some (.int .u64 0) := cell_gr hw2 (by go_simp)
    have fw2_3_1 : w2.frozen? ⟨W.heap.size + 1 + 1 + 1, 1, none⟩ = false := frozen_gr (v := .int .u64 0) hw2 (by go_simp) (by go_simp)
    have cw2_3_2 : w2.cell? ⟨W.heap.size + 1 + 1 + 1, 2, none⟩ = some (.int .u64 0) := cell_gr hw2 (by go_simp)
    have fw2_3_2 : w2.frozen? ⟨W.heap.size + 1 + 1 + 1, 2, none⟩ = false := frozen_gr (v := .int .u64 0) hw2 (by go_simp) (by go_simp)
    have zw2_3 : W.heap.size + 1 + 1 + 1 < w2.heap.size := World.block_lt_of_cell? _ _ cw2_3_0
    have gw2 : Gr W w2 := Gr.trans (by have gg := gw1; have gs := gg.size; go_grown) hw2
    clear hw2 gw1 zw1_0 cw1_0_0 cw1_0_1 zw1_1 cw1_1_0 cw1_1_1 zw1_2 cw1_2_0 cw1_2_1 zw1_3 cw1_3_0 fw1_3_0 cw1_3_1 fw1_3_1 cw1_3_2 fw1_3_2
    go_wp2_with fail
    go_at_call 58
    refine ((H4.out _)).mono ?_
    rintro e w3 ⟨rfl, hw3⟩
    have cw3_0_0 : w3.cell? ⟨W.heap.size, 0, none⟩ = some (.int .i64 ax) := cell_gr hw3 (by go_simp)
    have cw3_0_1 : w3.cell? ⟨W.heap.size, 1, none⟩ = some (.int .i64 ay) := cell_gr hw3 (by go_simp)
    have zw3_0 : W.heap.size < w3.heap.size := World.block_lt_of_cell? _ _ cw3_0_0
    have cw3_1_0 : w3.cell? ⟨W.heap.size + 1, 0, none⟩ = some (.int .i64 bx) := cell_gr hw3 (by go_simp)
    have cw3_1_1 : w3.cell? ⟨W.heap.size + 1, 1, none⟩ = some (.int .i64 by') := cell_gr hw3 (by go_simp)
    have zw3_1 : W.heap.size + 1 < w3.heap.size := World.block_lt_of_cell? _ _ cw3_1_0
    have cw3_2_0 : w3.cell? ⟨W.heap.size + 1 + 1, 0, none⟩ = some (.int .i64 px) := cell_gr hw3 (by go_simp)
    have cw3_2_1 : w3.cell? ⟨W.heap.size + 1 + 1, 1, none⟩ = some (.int .i64 py) := cell_gr hw3 (by go_simp)
    have zw3_2 : W.heap.size + 1 + 1 < w3.heap.size := World.block_lt_of_cell? _ _ cw3_2_0
    have cw3_3_0 : w3.cell? ⟨W.heap.size + 1 + 1 + 1, 0, none⟩ = some (.int .u64 0) := cell_gr hw3 (by go_simp)
    have fw3_3_0 : w3.frozen? ⟨W.heap.size + 1 + 1 + 1, 0, none⟩ = false := frozen_gr (v := .int .u64 0) hw3 (by go_simp) (by go_simp)
    have cw3_3_1 : w3.cell? ⟨W.heap.size + 1 + 1 + 1, 1, none⟩ = some (.int .u64 0) := cell_gr hw3 (by go_simp)
    have fw3_3_1 : w3.frozen? ⟨W.heap.size + 1 + 1 + 1, 1, none⟩ = false := frozen_gr (v := .int .u64 0) hw3 (by go_simp) (by go_simp)
    have cw3_3_2 : w3.cell? ⟨W.heap.size + 1 + 1 + 1, 2, none⟩ = some (.int .u64 0) := cell_gr hw3 (by go_simp)
    have fw3_3_2 : w3.frozen? ⟨W.heap.size + 1 + 1 + 1, 2, none⟩ = false := frozen_gr (v := .int .u64 0) hw3 (by go_simp) (by go_simp)
    have zw3_3 : W.heap.size + 1 + 1 + 1 < w3.heap.size := World.block_lt_of_cell? _ _ cw3_3_0
    have cw3_4_0 : w3.cell? ⟨w2.heap.size, 0, none⟩ = some (.int .u64 0) := cell_gr hw3 (by go_simp)
    have cw3_4_1 : w3.cell? ⟨w2.heap.size, 1, none⟩ = some (.int .u64 wh) := cell_gr hw3 (by go_simp)
    have cw3_4_2 : w3.cell? ⟨w2.heap.size, 2, none⟩ = some (.int .u64 1) := cell_gr hw3 (by go_simp)
    have zw3_4 : w2.heap.size < w3.heap.size := World.block_lt_of_cell? _ _ cw3_4_0
    have gw3 : Gr W w3 := Gr.trans (by have gg := gw2; have gs := gg.size; go_grown) hw3
    clear hw3 gw2 zw2_0 cw2_0_0 cw2_0_1 zw2_1 cw2_1_0 cw2_1_1 zw2_2 cw2_2_0 cw2_2_1 zw2_3 cw2_3_0 fw2_3_0 cw2_3_1 fw2_3_1 cw2_3_2 fw2_3_2
    go_wp2_with fail
    refine bodyPost_ret (v := .agg #[.int .u64 0, .int .u64 r2, .int .u64 1]) (by simp [results, Tryz.results32, go_sem, *]) rfl ⟨rfl, by go_grown⟩
  · have H7 := Lib.hid A7
    clear A7
    go_enter Tryz.func32, Tryz.ntmps32
    go_wp2_with fail
    go_at_call 57
    refine ((H1.out _ _ (by go_simp) (by go_simp) (by go_simp) (by go_simp) (by go_simp) (by go_simp) (by go_simp))).mono ?_
    rintro e w1 ⟨rfl, hw1⟩
    have cw1_0_0 : w1.cell? ⟨W.heap.size, 0, none⟩ = some (.int .i64 ax) := cell_gr hw1 (by go_simp)
    have cw1_0_1 : w1.cell? ⟨W.heap.size, 1, none⟩ = some (.int .i64 ay) := cell_gr hw1 (by go_simp)
    have zw1_0 : W.heap.size < w1.heap.size := World.block_lt_of_cell? _ _ cw1_0_0
    have cw1_1_0 : w1.cell? ⟨W.heap.size + 1, 0, none⟩ = some (.int .i64 bx) := cell_gr hw1 (by go_simp)
    have cw1_1_1 : w1.cell? ⟨W.heap.size + 1, 1, none⟩ = some (.int .i64 by') := cell_gr hw1 (by go_simp)
    have zw1_1 : W.heap.size + 1 < w1.heap.size := World.block_lt_of_cell? _ _ cw1_1_0
    have cw1_2_0 : w1.cell? ⟨W.heap.size + 1 + 1, 0, none⟩ = some (.int .i64 px) := cell_gr hw1 (by go_simp)
    have cw1_2_1 : w1.cell? ⟨W.heap.size + 1 + 1, 1, none⟩ = some (.int .i64 py) := cell_gr hw1 (by go_simp)
    have zw1_2 : W.heap.size + 1 + 1 < w1.heap.size := World.block_lt_of_cell? _ _ cw1_2_0
    have cw1_3_0 : w1.cell? ⟨W.heap.size + 1 + 1 + 1, 0, none⟩ = some (.int .u64 0) := cell_gr hw1 (by go_simp)
    have fw1_3_0 : w1.frozen? ⟨W.heap.size + 1 + 1 + 1, 0, none⟩ = false := frozen_gr (v := .int .u64 0) hw1 (by go_simp) (by go_simp)
    have cw1_3_1 : w1.cell? ⟨W.heap.size + 1 + 1 + 1, 1, none⟩ = some (.int .u64 0) := cell_gr hw1 (by go_simp)
    have fw1_3_1 : w1.frozen? ⟨W.heap.size + 1 + 1 + 1, 1, none⟩ = false := frozen_gr (v := .int .u64 0) hw1 (by go_simp) (by go_simp)
    have cw1_3_2 : w1.cell? ⟨W.heap.size + 1 + 1 + 1, 2, none⟩ = some (.int .u64 0) := cell_gr hw1 (by go_simp)
    have fw1_3_2 : w1.frozen? ⟨W.heap.size + 1 + 1 + 1, 2, none⟩ = false := frozen_gr (v := .int .u64 0) hw1 (by go_simp) (by go_simp)
    have zw1_3 : W.heap.size + 1 + 1 + 1 < w1.heap.size := World.block_lt_of_cell? _ _ cw1_3_0
    have gw1 : Gr W w1 := Gr.trans (by go_grown) hw1
    clear hw1
    go_wp2_with fail
    go_at_call 58
    refine ((H2.out _)).mono ?_
    rintro e w2 ⟨rfl, hw2⟩
    have cw2_0_0 : w2.cell? ⟨W.heap.size, 0, none⟩ = some (.int .i64 ax) := cell_gr hw2 (by go_simp)
    have cw2_0_1 : w2.cell? ⟨W.heap.size, 1, none⟩ = some (.int .i64 ay) := cell_gr hw2 (by go_simp)
    have zw2_0 : W.heap.size < w2.heap.size := World.block_lt_of_cell? _ _ cw2_0_0
    have cw2_1_0 : w2.cell? ⟨W.heap.size + 1, 0, none⟩ = some (.int .i64 bx) := cell_gr hw2 (by go_simp)
    have cw2_1_1 : w2.cell? ⟨W.heap.size + 1, 1, none⟩ = some (.int .i64 by') := cell_gr hw2 (by go_simp)
    have zw2_1 : W.heap.size + 1 < w2.heap.size := World.block_lt_of_cell? _ _ cw2_1_0
    have cw2_2_0 : w2.cell? ⟨W.heap.size + 1 + 1, 0, none⟩ = some (.int .i64 px) := cell_gr hw2 (by go_simp)
    have cw2_2_1 : w2.cell? ⟨W.heap.size + 1 + 1, 1, none⟩ = some (.int .i64 py) := cell_gr hw2 (by go_simp)
    have zw2_2 : W.heap.size + 1 + 1 < w2.heap.size := World.block_lt_of_cell? _ _ cw2_2_0
    have cw2_3_0 : w2.cell? ⟨W.heap.size + 1 + 1 + 1, 0, none⟩ = some (.int .u64 0) := cell_gr hw2 (by go_simp)
    have fw2_3_0 : w2.frozen? ⟨W.heap.size + 1 + 1 + 1, 0, none⟩ = false := frozen_gr (v := .int .u64 0) hw2 (by go_simp) (by go_simp)
    have cw2_3_1 : w2.cell? ⟨W.heap.size + 1 + 1 + 1, 1, none⟩ = some (.int .u64 0) := cell_gr hw2 (by go_simp)
    have fw2_3_1 : w2.frozen? ⟨W.heap.size + 1 + 1 + 1, 1, none⟩ = false := frozen_gr (v := .int .u64 0) hw2 (by go_simp) (by go_simp)
    have cw2_3_2 : w2.cell? ⟨W.heap.size + 1 + 1 + 1, 2, none⟩ = some (.int .u64 0) := cell_gr hw2 (by go_simp)
    have fw2_3_2 : w2.frozen? ⟨W.heap.size + 1 + 1 + 1, 2, none⟩ = false := frozen_gr (v := .int .u64 0) hw2 (by go_simp) (by go_simp)
    have zw2_3 : W.heap.size + 1 + 1 + 1 < w2.heap.size := World.block_lt_of_cell? _ _ cw2_3_0
    have gw2 : Gr W w2 := Gr.trans (by have gg := gw1; have gs := gg.size; go_grown) hw2
    clear hw2 gw1 zw1_0 cw1_0_0 cw1_0_1 zw1_1 cw1_1_0 cw1_1_1 zw1_2 cw1_2_0 cw1_2_1 zw1_3 cw1_3_0 fw1_3_0 cw1_3_1 fw1_3_1 cw1_3_2 fw1_3_2
    go_wp2_with fail
    generalize hhw3 : (w2.alloc (.cells #[.int .u64 0, .int .u64 wh, .int .u64 1] 35)) = w3
    have cw3_0_0 : w3.cell? ⟨W.heap.size, 0, none⟩ = some (.int .i64 ax) := by subst hhw3; go_simp
    have cw3_0_1 : w3.cell? ⟨W.heap.size, 1, none⟩ = some (.int .i64 ay) := by subst hhw3; go_simp
    have zw3_0 : W.heap.size < w3.heap.size := World.block_lt_of_cell? _ _ cw3_0_0
    have cw3_1_0 : w3.cell? ⟨W.heap.size + 1, 0, none⟩ = some (.int .i64 bx) := by subst hhw3; go_simp
    have cw3_1_1 : w3.cell? ⟨W.heap.size + 1, 1, none⟩ = some (.int .i64 by') := by subst hhw3; go_simp
    have zw3_1 : W.heap.size + 1 < w3.heap.size := World.block_lt_of_cell? _ _ cw3_1_0
    have cw3_2_0 : w3.cell? ⟨W.heap.size + 1 + 1, 0, none⟩ = some (.int .i64 px) := by subst hhw3; go_simp
    have cw3_2_1 : w3.cell? ⟨W.heap.size + 1 + 1, 1, none⟩ = some (.int .i64 py) := by subst hhw3; go_simp
    have zw3_2 : W.heap.size + 1 + 1 < w3.heap.size := World.block_lt_of_cell? _ _ cw3_2_0
    have cw3_3_0 : w3.cell? ⟨W.heap.size + 1 + 1 + 1, 0, none⟩ = some (.int .u64 0) := by subst hhw3; go_simp
    have fw3_3_0 : w3.frozen? ⟨W.heap.size + 1 + 1 + 1, 0, none⟩ = false := by subst hhw3; go_simp
    have cw3_3_1 : w3.cell? ⟨W.heap.size + 1 + 1 + 1, 1, none⟩ = some (.int .u64 0) := by subst hhw3; go_simp
    have fw3_3_1 : w3.frozen? ⟨W.heap.size + 1 + 1 + 1, 1, none⟩ = false := by subst hhw3; go_simp
    have cw3_3_2 : w3.cell? ⟨W.heap.size + 1 + 1 + 1, 2, none⟩ = some (.int .u64 0) := by subst hhw3; go_simp
    have fw3_3_2 : w3.frozen? ⟨W.heap.size + 1 + 1 + 1, 2, none⟩ = false := by subst hhw3; go_simp
    have zw3_3 : W.heap.size + 1 + 1 + 1 < w3.heap.size := World.block_lt_of_cell? _ _ cw3_3_0
    have cw3_4_0 : w3.cell? ⟨w2.heap.size, 0, none⟩ = some (.int .u64 0) := by subst hhw3; go_simp
    have cw3_4_1 : w3.cell? ⟨w2.heap.size, 1, none⟩ = some (.int .u64 wh) := by subst hhw3; go_simp
    have cw3_4_2 : w3.cell? ⟨w2.heap.size, 2, none⟩ = some (.int .u64 1) := by subst hhw3; go_simp
    have zw3_4 : w2.heap.size < w3.heap.size := World.block_lt_of_cell? _ _ cw3_4_0
    have gw3 : Gr W w3 := by subst hhw3; have gg := gw2; have gs := gg.size; go_grown
    clear hhw3 gw2 zw2_0 cw2_0_0 cw2_0_1 zw2_1 cw2_1_0 cw2_1_1 zw2_2 cw2_2_0 cw2_2_1 zw2_3 cw2_3_0 fw2_3_0 cw2_3_1 fw2_3_1 cw2_3_2 fw2_3_2
    go_wp2_with fail
    refine Hm.wp_region_made 13 11 12 9 #[.int .u64 0, .int .u64 0, .int .u64 0] #[.int .u64 r1, .int .u64 r2, .int .u64 r3] 35 (by kernel_rfl) (by simp only [List.getElem?_toArray, List.getElem?_cons_succ, List.getElem?_cons_zero] <;> rfl) (by simp only [List.getElem?_toArray, List.getElem?_cons_succ, List.getElem?_cons_zero] <;> rfl) (by kernel_rfl) (fun _ _ => ?_) ?_
    · unfold Oper.wp; go_simp
    intro KQ hKQ
    repeat (first | (refine Hm.wpG_sp (by decide) ?_ ?_; (· (try dsimp only); first | (rw [if_neg (by decide)]; trivial) | (rw [if_pos rfl]; (intro B w' g hB hw; have c0 : w'.cell? ⟨B, 0, none⟩ = some (.int .u64 0) := Hm.cell_of_heap hw 0; have f0 := Hm.frozen_of_heap hw 0; have c1 : w'.cell? ⟨B, 1, none⟩ = some (.int .u64 0) := Hm.cell_of_heap hw 1; have f1 := Hm.frozen_of_heap hw 1; have c2 : w'.cell? ⟨B, 2, none⟩ = some (.int .u64 0) := Hm.cell_of_heap hw 2; have f2 := Hm.frozen_of_heap hw 2; unfold Oper.wp; go_simp; exact ⟨(((g.setCell hB _).setCell hB _).setCell hB _), (Hm.heap_set_same (Hm.heap_set_same (Hm.heap_set_same hw)))⟩)))) | (refine Hm.wpG_skip (by decide) rfl ?_; simp only [Act.put, List.setIfInBounds_toArray, List.set_cons_zero, List.set_cons_succ]) | (refine Hm.wpG_want (by decide) rfl ?_; apply Exists.intro; refine ⟨?_, ?_⟩; (· intro wx gx; (obtain ⟨mx, rfl⟩ := spread_of_gr gx; clear gx); all_goals (apply Hd.gAt_of_quiet; intro K hK; go_big_quiet_op; first | exact hK _ rfl | (apply Exists.intro; refine ⟨fun _ => ?_, ?_⟩; (· (first | (go_at_call 60; first | ((with_reducible refine ((H5.out _)).mono ?_); rintro e w' ⟨rfl, hg⟩; exact ⟨rfl, spread_gr hg⟩)) | (go_at_call 54; first | ((with_reducible refine ((H6.out _)).mono ?_); rintro e w' ⟨rfl, hg⟩; exact ⟨rfl, spread_gr hg⟩)) | (go_at_call 59; first | ((with_reducible refine ((H7.out _)).mono ?_); rintro e w' ⟨rfl, hg⟩; exact ⟨rfl, spread_gr hg⟩)))); exact hK _ rfl))); try simp only [Act.put, List.setIfInBounds_toArray, List.set_cons_zero, List.set_cons_succ]))
    refine Hm.wpG_nil (hKQ _ ?_)
    clear hKQ KQ
    intro B4 w4 hw4 hBw4 hhw4
    have cw4_0_0 : w4.cell? ⟨W.heap.size, 0, none⟩ = some (.int .i64 ax) := cell_gr hw4 (by go_simp)
    have cw4_0_1 : w4.cell? ⟨W.heap.size, 1, none⟩ = some (.int .i64 ay) := cell_gr hw4 (by go_simp)
    have zw4_0 : W.heap.size < w4.heap.size := World.block_lt_of_cell? _ _ cw4_0_0
    have cw4_1_0 : w4.cell? ⟨W.heap.size + 1, 0, none⟩ = some (.int .i64 bx) := cell_gr hw4 (by go_simp)
    have cw4_1_1 : w4.cell? ⟨W.heap.size + 1, 1, none⟩ = some (.int .i64 by') := cell_gr hw4 (by go_simp)
    have zw4_1 : W.heap.size + 1 < w4.heap.size := World.block_lt_of_cell? _ _ cw4_1_0
    have cw4_2_0 : w4.cell? ⟨W.heap.size + 1 + 1, 0, none⟩ = some (.int .i64 px) := cell_gr hw4 (by go_simp)
    have cw4_2_1 : w4.cell? ⟨W.heap.size + 1 + 1, 1, none⟩ = some (.int .i64 py) := cell_gr hw4 (by go_simp)
    have zw4_2 : W.heap.size + 1 + 1 < w4.heap.size := World.block_lt_of_cell? _ _ cw4_2_0
    have cw4_3_0 : w4.cell? ⟨W.heap.size + 1 + 1 + 1, 0, none⟩ = some (.int .u64 0) := cell_gr hw4 (by go_simp)
    have fw4_3_0 : w4.frozen? ⟨W.heap.size + 1 + 1 + 1, 0, none⟩ = false := frozen_gr (v := .int .u64 0) hw4 (by go_simp) (by go_simp)
    have cw4_3_1 : w4.cell? ⟨W.heap.size + 1 + 1 + 1, 1, none⟩ = some (.int .u64 0) := cell_gr hw4 (by go_simp)
    have fw4_3_1 : w4.frozen? ⟨W.heap.size + 1 + 1 + 1, 1, none⟩ = false := frozen_gr (v := .int .u64 0) hw4 (by go_simp) (by go_simp)
    have cw4_3_2 : w4.cell? ⟨W.heap.size + 1 + 1 + 1, 2, none⟩ = some (.int .u64 0) := cell_gr hw4 (by go_simp)
    have fw4_3_2 : w4.frozen? ⟨W.heap.size + 1 + 1 + 1, 2, none⟩ = false := frozen_gr (v := .int .u64 0) hw4 (by go_simp) (by go_simp)
    have zw4_3 : W.heap.size + 1 + 1 + 1 < w4.heap.size := World.block_lt_of_cell? _ _ cw4_3_0
    have cw4_4_0 : w4.cell? ⟨w2.heap.size, 0, none⟩ = some (.int .u64 0) := cell_gr hw4 (by go_simp)
    have cw4_4_1 : w4.cell? ⟨w2.heap.size, 1, none⟩ = some (.int .u64 wh) := cell_gr hw4 (by go_simp)
    have cw4_4_2 : w4.cell? ⟨w2.heap.size, 2, none⟩ = some (.int .u64 1) := cell_gr hw4 (by go_simp)
    have zw4_4 : w2.heap.size < w4.heap.size := World.block_lt_of_cell? _ _ cw4_4_0
    have cw4_5_0 : w4.cell? ⟨B4, 0, none⟩ = some (.int .u64 r1) := Hm.cell_of_heap hhw4 0
    have cw4_5_1 : w4.cell? ⟨B4, 1, none⟩ = some (.int .u64 r2) := Hm.cell_of_heap hhw4 1
    have cw4_5_2 : w4.cell? ⟨B4, 2, none⟩ = some (.int .u64 r3) := Hm.cell_of_heap hhw4 2
    have zw4_5 : B4 < w4.heap.size := World.block_lt_of_cell? _ _ cw4_5_0
    have gw4 : Gr W w4 := Gr.trans (by have gg := gw3; have gs := gg.size; go_grown) hw4
    clear hw4 hBw4 hhw4 gw3 zw3_0 cw3_0_0 cw3_0_1 zw3_1 cw3_1_0 cw3_1_1 zw3_2 cw3_2_0 cw3_2_1 zw3_3 cw3_3_0 fw3_3_0 cw3_3_1 fw3_3_1 cw3_3_2 fw3_3_2 zw3_4 cw3_4_0 cw3_4_1 cw3_4_2
    go_wp2_with fail
    refine bodyPost_ret (v := .agg #[.int .u64 r1, .int .u64 r2, .int .u64 r3]) (by simp [results, Tryz.results32, go_sem, *]) rfl ⟨rfl, by go_grown⟩
/-- The distance's three words. -/
def dsH (ax ay bx by' px py : Int) : Int := ((sdN ax ay bx by' px py / 18446744073709551616 : Nat) : Int)
def dsL (ax ay bx by' px py : Int) : Int := ((sdN ax ay bx by' px py % 18446744073709551616 : Nat) : Int)
theorem cr_bound {ax ay bx by' px py : Int} (h : (nearB ax ay && nearB bx by' && nearB px py) = true) : crossZ ax ay bx by' px py = cr ax ay bx by' px py ∧ -9223372019674906632 ≤ cr ax ay bx by' px py ∧ cr ax ay bx by' px py ≤ 9223372019674906632 := by
  have hb := cross_bound ax ay bx by' px py
  have e : crossZ ax ay bx by' px py = cr ax ay bx by' px py := by
    unfold crossZ cr
    rw [if_pos h]
  rw [e] at hb
  exact ⟨e, hb⟩
theorem c_gDist (ax ay bx by' px py : Int) (h : (nearB ax ay && nearB bx by' && nearB px py) = true) (W : World) :
    Calls Tryz.prog 32 #[.agg #[.int .i64 ax, .int .i64 ay], .agg #[.int .i64 bx, .int .i64 by'], .agg #[.int .i64 px, .int .i64 py]] W fun e w' => e = .returned (.agg #[.int .u64 (dsH ax ay bx by' px py), .int .u64 (dsL ax ay bx by' px py), .int .u64 (sdD ax ay bx by' px py)]) ∧ Gr W w' := by
  have hn : (nearB ax ay = true ∧ nearB bx by' = true) ∧ nearB px py = true := by simpa using h
  have n1 := nearB_iff.1 hn.1.1
  have n2 := nearB_iff.1 hn.1.2
  have n3 := nearB_iff.1 hn.2
  have m1 := mul_near (x := bx - ax) (y := px - ax) (by omega) (by omega)
  have m2 := mul_near (x := by' - ay) (y := py - ay) (by omega) (by omega)
  have A1 := fun b w => c_gMayBe3 ax ay bx by' px py true h.symm b w
  have A2 := fun w => c_Square2 ax ay bx by' w ⟨hn.1.1, hn.1.2⟩
  have A3 := fun w => c_Square2 ax ay px py w ⟨hn.1.1, hn.2⟩
  have A4 := fun w => c_Square2 bx by' px py w ⟨hn.1.2, hn.2⟩
  have A5 := c_Cross ax ay bx by' px py
  obtain ⟨ce, cb⟩ := cr_bound h
  rw [ce] at A5
  have A6 := c_Square (cr ax ay bx by' px py) (by omega)
  have hal : alZ ax ay bx by' px py = (bx - ax) * (px - ax) + (by' - ay) * (py - ay) := rfl
  have q0 := sq_nn ax ay bx by'
  have q1 := sq_nn ax ay px py
  have q2 := sq_nn bx by' px py
  have b0 := sqZ_bound hn.1.1 hn.1.2
  have b1 := sqZ_bound hn.1.1 hn.2
  have b2 := sqZ_bound hn.1.2 hn.2
  have hu : IntKind.u64.wrap (alZ ax ay bx by' px py) = alZ ax ay bx by' px py % 18446744073709551616 := by rw [IntKind.wrap_u64]
  refine dist_core ax ay bx by' px py (bx - ax) (px - ax) (by' - ay) (py - ay) ((bx - ax) * (px - ax)) ((by' - ay) * (py - ay)) (alZ ax ay bx by' px py) _ _ _ _ _ _ ((lowN ((cr ax ay bx by' px py).natAbs * (cr ax ay bx by' px py).natAbs) (sqZ ax ay bx by').toNat / 18446744073709551616 : Nat) : Int) ((lowN ((cr ax ay bx by' px py).natAbs * (cr ax ay bx by' px py).natAbs) (sqZ ax ay bx by').toNat % 18446744073709551616 : Nat) : Int) (lowD ((cr ax ay bx by' px py).natAbs * (cr ax ay bx by' px py).natAbs) (sqZ ax ay bx by').toNat) (alZ ax ay bx by' px py % 18446744073709551616) W
    (IntWalk.wrap64_in _ (by omega)) (IntWalk.wrap64_in _ (by omega)) (IntWalk.wrap64_in _ (by omega)) (IntWalk.wrap64_in _ (by omega)) (IntWalk.wrap64_in _ (by omega)) (IntWalk.wrap64_in _ (by omega)) (IntWalk.wrap64_in _ (by omega))
    (IntWalk.i64_in _ (by omega)) (IntWalk.i64_in _ (by omega)) (IntWalk.i64_in _ (by omega)) (IntWalk.i64_in _ (by omega)) (IntWalk.i64_in _ (by omega)) (IntWalk.i64_in _ (by omega)) (IntWalk.i64_in _ (by omega)) hu
    A1 A2 A3 A4 A5 A6 _ _ _ ?_
  unfold dsH dsL sdN sdD
  by_cases c1 : alZ ax ay bx by' px py ≤ 0
  · left
    rw [if_pos c1, if_pos c1]
    refine ⟨c1, ?_, ?_, rfl⟩ <;> omega
  · right
    rw [if_neg c1, if_neg c1]
    have e : alZ ax ay bx by' px py % 18446744073709551616 = alZ ax ay bx by' px py := Int.emod_eq_of_lt (by omega) (by omega)
    rw [e]
    by_cases c2 : sqZ ax ay bx by' ≤ alZ ax ay bx by' px py
    · left
      rw [if_pos c2, if_pos c2]
      refine ⟨c1, c2, c2, ?_, ?_, rfl⟩ <;> omega
    · right
      rw [if_neg c2, if_neg c2]
      refine ⟨c1, by omega, c2, rfl, rfl, rfl, fun w => ?_⟩
      have cc : (cr ax ay bx by' px py).natAbs * (cr ax ay bx by' px py).natAbs ≤ 9223372019674906632 * 9223372019674906632 := Nat.mul_le_mul (by omega) (by omega)
      have M := c_Make ((cr ax ay bx by' px py).natAbs * (cr ax ay bx by' px py).natAbs / 18446744073709551616) ((cr ax ay bx by' px py).natAbs * (cr ax ay bx by' px py).natAbs % 18446744073709551616) (sqZ ax ay bx by').toNat (by unfold Wd; omega) (by unfold Wd; omega) (by unfold Wd; omega) (by omega) w
      have ev : val ((cr ax ay bx by' px py).natAbs * (cr ax ay bx by' px py).natAbs / 18446744073709551616) ((cr ax ay bx by' px py).natAbs * (cr ax ay bx by' px py).natAbs % 18446744073709551616) = (cr ax ay bx by' px py).natAbs * (cr ax ay bx by' px py).natAbs := by unfold val; omega
      rw [ev, Int.toNat_of_nonneg q0] at M
      exact M
theorem c_gDist_no (ax ay bx by' px py : Int) (h : (nearB ax ay && nearB bx by' && nearB px py) = false) (W : World) :
    Calls Tryz.prog 32 #[.agg #[.int .i64 ax, .int .i64 ay], .agg #[.int .i64 bx, .int .i64 by'], .agg #[.int .i64 px, .int .i64 py]] W fun e w' => e = .returned (.agg #[.int .u64 0, .int .u64 0, .int .u64 0]) ∧ Gr W w' := dist_no ax ay bx by' px py W (fun b w => c_gMayBe3 ax ay bx by' px py false h.symm b w)
end Go.Proofs.YtagbodamehejmaaGreatDoor
namespace Go.Proofs.YtagbodamehejmaaGreatDoor
set_option linter.unusedVariables false
open Go.ChangeShapes Go.WideShapes Go.ChangeAt Go.RowKit

theorem s4_Meet (w : World) : Calls Tryz.prog 87 #[.agg #[.int .i64 0, .int .i64 0], .agg #[.int .i64 2, .int .i64 2], .agg #[.int .i64 0, .int .i64 2], .agg #[.int .i64 2, .int .i64 0]] w fun e w' => e = .returned (.bool true) ∧ Gr w w' := c_gMeet 0 0 2 2 0 2 2 0 w
theorem s4_Dist (w : World) : Calls Tryz.prog 32 #[.agg #[.int .i64 0, .int .i64 0], .agg #[.int .i64 1, .int .i64 1], .agg #[.int .i64 0, .int .i64 1]] w fun e w' => e = .returned (.agg #[.int .u64 0, .int .u64 1, .int .u64 2]) ∧ Gr w w' := c_gDist 0 0 1 1 0 1 rfl w
theorem s4_On (w : World) : Calls Tryz.prog 51 #[.agg #[.int .i64 0, .int .i64 0], .agg #[.int .i64 4, .int .i64 0], .agg #[.int .i64 3, .int .i64 0]] w fun e w' => e = .returned (.bool true) ∧ Gr w w' := c_gOn 0 0 4 0 3 0 w
theorem all4_swap (ax ay bx by' cx cy dx dy : Int) : all4 cx cy dx dy ax ay bx by' = all4 ax ay bx by' cx cy dx dy := by unfold all4; cases nearB ax ay <;> cases nearB bx by' <;> cases nearB cx cy <;> cases nearB dx dy <;> rfl
theorem all4_flip (ax ay bx by' cx cy dx dy : Int) : all4 bx by' ax ay cx cy dx dy = all4 ax ay bx by' cx cy dx dy := by unfold all4; cases nearB ax ay <;> cases nearB bx by' <;> cases nearB cx cy <;> cases nearB dx dy <;> rfl
theorem all4_flip2 (ax ay bx by' cx cy dx dy : Int) : all4 ax ay bx by' dx dy cx cy = all4 ax ay bx by' cx cy dx dy := by unfold all4; cases nearB ax ay <;> cases nearB bx by' <;> cases nearB cx cy <;> cases nearB dx dy <;> rfl
theorem onG_flip (ax ay bx by' px py : Int) : onG bx by' ax ay px py = onG ax ay bx by' px py := by
  unfold onG
  rw [onF_flip]
  cases nearB ax ay <;> cases nearB bx by' <;> cases nearB px py <;> rfl
/-- Dist's answer, of any points. -/
theorem c_gDistAny (ax ay bx by' px py : Int) : ∃ h l d : Int, (∀ w, Calls Tryz.prog 32 #[.agg #[.int .i64 ax, .int .i64 ay], .agg #[.int .i64 bx, .int .i64 by'], .agg #[.int .i64 px, .int .i64 py]] w fun e w' => e = .returned (.agg #[.int .u64 h, .int .u64 l, .int .u64 d]) ∧ Gr w w') ∧ (∀ w, Calls Tryz.prog 32 #[.agg #[.int .i64 bx, .int .i64 by'], .agg #[.int .i64 ax, .int .i64 ay], .agg #[.int .i64 px, .int .i64 py]] w fun e w' => e = .returned (.agg #[.int .u64 h, .int .u64 l, .int .u64 d]) ∧ Gr w w') := by
  cases h : (nearB ax ay && nearB bx by' && nearB px py)
  · refine ⟨0, 0, 0, c_gDist_no ax ay bx by' px py h, c_gDist_no bx by' ax ay px py ?_⟩
    rw [← h]
    cases nearB ax ay <;> cases nearB bx by' <;> cases nearB px py <;> rfl
  · have h2 : (nearB bx by' && nearB ax ay && nearB px py) = true := by
      rw [← h]
      cases nearB ax ay <;> cases nearB bx by' <;> cases nearB px py <;> rfl
    have g := c_gDist bx by' ax ay px py h2
    have f := sd_flip ax ay bx by' px py
    unfold dsH dsL at g
    rw [f.1, f.2] at g
    exact ⟨_, _, _, c_gDist ax ay bx by' px py h, g⟩
end Go.Proofs.YtagbodamehejmaaGreatDoor
