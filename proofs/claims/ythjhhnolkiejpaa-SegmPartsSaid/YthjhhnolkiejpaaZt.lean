/- SegmParts -/
import Derived.Test.YthjhhnolkiejpaaZs
import Derived.Test.YthjhhnolkiejpaaZi
namespace Go.Proofs.Ythjhhnolkiejpaa
set_option linter.unusedVariables false
open Go.ChangeShapes Go.WideShapes Go.ChangeAt Go.RowKit

set_option maxHeartbeats 4000000 in
set_option maxRecDepth 100000 in
theorem parts_out (ax ay x y i j px py : Int) (W : World) (hc : (x < -1000) ∨ (¬ x < -1000 ∧ 1000 < x) ∨ (¬ x < -1000 ∧ ¬ 1000 < x ∧ y < -1000) ∨ (¬ x < -1000 ∧ ¬ 1000 < x ∧ ¬ y < -1000 ∧ 1000 < y) ∨ (¬ x < -1000 ∧ ¬ 1000 < x ∧ ¬ y < -1000 ∧ ¬ 1000 < y ∧ i < 0) ∨ (¬ x < -1000 ∧ ¬ 1000 < x ∧ ¬ y < -1000 ∧ ¬ 1000 < y ∧ ¬ i < 0 ∧ j < 0) ∨ (¬ x < -1000 ∧ ¬ 1000 < x ∧ ¬ y < -1000 ∧ ¬ 1000 < y ∧ ¬ i < 0 ∧ ¬ j < 0 ∧ 1000 < i) ∨ (¬ x < -1000 ∧ ¬ 1000 < x ∧ ¬ y < -1000 ∧ ¬ 1000 < y ∧ ¬ i < 0 ∧ ¬ j < 0 ∧ ¬ 1000 < i ∧ 1000 < j)) :
    Calls Try.prog 10 #[.agg #[.int .i64 ax, .int .i64 ay], .int .i64 x, .int .i64 y, .int .i64 i, .int .i64 j, .agg #[.int .i64 px, .int .i64 py]] W fun e w' => e = .returned (.bool true) ∧ Gr W w' := by
  rcases hc with c0 | ⟨c0, c1⟩ | ⟨c0, c1, c2⟩ | ⟨c0, c1, c2, c3⟩ | ⟨c0, c1, c2, c3, c4⟩ | ⟨c0, c1, c2, c3, c4, c5⟩ | ⟨c0, c1, c2, c3, c4, c5, c6⟩ | ⟨c0, c1, c2, c3, c4, c5, c6, c7⟩
  all_goals
    go_enter Try.func10, Try.ntmps10
    go_wp2_with fail
    go_at_call 32
    refine ((s4_awake _)).mono ?_
    rintro e w1 ⟨rfl, hw1⟩
    have cw1_0_0 : w1.cell? ⟨W.heap.size, 0, none⟩ = some (.int .i64 ax) := cell_gr hw1 (by go_simp)
    have cw1_0_1 : w1.cell? ⟨W.heap.size, 1, none⟩ = some (.int .i64 ay) := cell_gr hw1 (by go_simp)
    have zw1_0 : W.heap.size < w1.heap.size := World.block_lt_of_cell? _ _ cw1_0_0
    have cw1_1_0 : w1.cell? ⟨W.heap.size + 1, 0, none⟩ = some (.int .i64 px) := cell_gr hw1 (by go_simp)
    have cw1_1_1 : w1.cell? ⟨W.heap.size + 1, 1, none⟩ = some (.int .i64 py) := cell_gr hw1 (by go_simp)
    have zw1_1 : W.heap.size + 1 < w1.heap.size := World.block_lt_of_cell? _ _ cw1_1_0
    have gw1 : Gr W w1 := Gr.trans (by go_grown) hw1
    clear hw1
    go_wp2_with fail
    go_ret
    exact ⟨rfl, by go_grown⟩
set_option maxHeartbeats 4000000 in
set_option maxRecDepth 100000 in
theorem parts_far (ax ay x y i j px py : Int) (q1 : Bool) (W : World) (c0 : ¬ x < -1000) (c1 : ¬ 1000 < x) (c2 : ¬ y < -1000) (c3 : ¬ 1000 < y) (c4 : ¬ i < 0) (c5 : ¬ j < 0) (c6 : ¬ 1000 < i) (c7 : ¬ 1000 < j) (hc : q1 = false ∨ q1 = true)
    (A1 : ∀ w, Calls Try.prog 14 #[.agg #[.int .i64 px, .int .i64 py]] w fun e w' => e = .returned (.bool q1) ∧ Gr w w')
    (A2 : ∀ w, Calls Try.prog 14 #[.agg #[.int .i64 ax, .int .i64 ay]] w fun e w' => e = .returned (.bool false) ∧ Gr w w') :
    Calls Try.prog 10 #[.agg #[.int .i64 ax, .int .i64 ay], .int .i64 x, .int .i64 y, .int .i64 i, .int .i64 j, .agg #[.int .i64 px, .int .i64 py]] W fun e w' => e = .returned (.bool true) ∧ Gr W w' := by
  have H1 := Lib.hid A1
  have H2 := Lib.hid A2
  clear A1 A2
  rcases hc with rfl | rfl
  · go_enter Try.func10, Try.ntmps10
    go_wp2_with fail
    go_at_call 14
    refine ((H1.out _)).mono ?_
    rintro e w1 ⟨rfl, hw1⟩
    have cw1_0_0 : w1.cell? ⟨W.heap.size, 0, none⟩ = some (.int .i64 ax) := cell_gr hw1 (by go_simp)
    have cw1_0_1 : w1.cell? ⟨W.heap.size, 1, none⟩ = some (.int .i64 ay) := cell_gr hw1 (by go_simp)
    have zw1_0 : W.heap.size < w1.heap.size := World.block_lt_of_cell? _ _ cw1_0_0
    have cw1_1_0 : w1.cell? ⟨W.heap.size + 1, 0, none⟩ = some (.int .i64 px) := cell_gr hw1 (by go_simp)
    have cw1_1_1 : w1.cell? ⟨W.heap.size + 1, 1, none⟩ = some (.int .i64 py) := cell_gr hw1 (by go_simp)
    have zw1_1 : W.heap.size + 1 < w1.heap.size := World.block_lt_of_cell? _ _ cw1_1_0
    have gw1 : Gr W w1 := Gr.trans (by go_grown) hw1
    clear hw1
    go_wp2_with fail
    go_at_call 32
    refine ((s4_awake _)).mono ?_
    rintro e w9 ⟨rfl, hw9⟩
    have cw9_0_0 : w9.cell? ⟨W.heap.size, 0, none⟩ = some (.int .i64 ax) := cell_gr hw9 (by go_simp)
    have cw9_0_1 : w9.cell? ⟨W.heap.size, 1, none⟩ = some (.int .i64 ay) := cell_gr hw9 (by go_simp)
    have zw9_0 : W.heap.size < w9.heap.size := World.block_lt_of_cell? _ _ cw9_0_0
    have cw9_1_0 : w9.cell? ⟨W.heap.size + 1, 0, none⟩ = some (.int .i64 px) := cell_gr hw9 (by go_simp)
    have cw9_1_1 : w9.cell? ⟨W.heap.size + 1, 1, none⟩ = some (.int .i64 py) := cell_gr hw9 (by go_simp)
    have zw9_1 : W.heap.size + 1 < w9.heap.size := World.block_lt_of_cell? _ _ cw9_1_0
    have gw9 : Gr W w9 := Gr.trans (by have gg := gw1; have gs := gg.size; go_grown) hw9
    clear hw9 gw1 zw1_0 cw1_0_0 cw1_0_1 zw1_1 cw1_1_0 cw1_1_1
    go_wp2_with fail
    go_ret
    exact ⟨rfl, by go_grown⟩
  · go_enter Try.func10, Try.ntmps10
    go_wp2_with fail
    go_at_call 14
    refine ((H1.out _)).mono ?_
    rintro e w1 ⟨rfl, hw1⟩
    have cw1_0_0 : w1.cell? ⟨W.heap.size, 0, none⟩ = some (.int .i64 ax) := cell_gr hw1 (by go_simp)
    have cw1_0_1 : w1.cell? ⟨W.heap.size, 1, none⟩ = some (.int .i64 ay) := cell_gr hw1 (by go_simp)
    have zw1_0 : W.heap.size < w1.heap.size := World.block_lt_of_cell? _ _ cw1_0_0
    have cw1_1_0 : w1.cell? ⟨W.heap.size + 1, 0, none⟩ = some (.int .i64 px) := cell_gr hw1 (by go_simp)
    have cw1_1_1 : w1.cell? ⟨W.heap.size + 1, 1, none⟩ = some (.int .i64 py) := cell_gr hw1 (by go_simp)
    have zw1_1 : W.heap.size + 1 < w1.heap.size := World.block_lt_of_cell? _ _ cw1_1_0
    have gw1 : Gr W w1 := Gr.trans (by go_grown) hw1
    clear hw1
    go_wp2_with fail
    go_at_call 14
    refine ((H2.out _)).mono ?_
    rintro e w2 ⟨rfl, hw2⟩
    have cw2_0_0 : w2.cell? ⟨W.heap.size, 0, none⟩ = some (.int .i64 ax) := cell_gr hw2 (by go_simp)
    have cw2_0_1 : w2.cell? ⟨W.heap.size, 1, none⟩ = some (.int .i64 ay) := cell_gr hw2 (by go_simp)
    have zw2_0 : W.heap.size < w2.heap.size := World.block_lt_of_cell? _ _ cw2_0_0
    have cw2_1_0 : w2.cell? ⟨W.heap.size + 1, 0, none⟩ = some (.int .i64 px) := cell_gr hw2 (by go_simp)
    have cw2_1_1 : w2.cell? ⟨W.heap.size + 1, 1, none⟩ = some (.int .i64 py) := cell_gr hw2 (by go_simp)
    have zw2_1 : W.heap.size + 1 < w2.heap.size := World.block_lt_of_cell? _ _ cw2_1_0
    have gw2 : Gr W w2 := Gr.trans (by have gg := gw1; have gs := gg.size; go_grown) hw2
    clear hw2 gw1 zw1_0 cw1_0_0 cw1_0_1 zw1_1 cw1_1_0 cw1_1_1
    go_wp2_with fail
    go_at_call 32
    refine ((s4_awake _)).mono ?_
    rintro e w9 ⟨rfl, hw9⟩
    have cw9_0_0 : w9.cell? ⟨W.heap.size, 0, none⟩ = some (.int .i64 ax) := cell_gr hw9 (by go_simp)
    have cw9_0_1 : w9.cell? ⟨W.heap.size, 1, none⟩ = some (.int .i64 ay) := cell_gr hw9 (by go_simp)
    have zw9_0 : W.heap.size < w9.heap.size := World.block_lt_of_cell? _ _ cw9_0_0
    have cw9_1_0 : w9.cell? ⟨W.heap.size + 1, 0, none⟩ = some (.int .i64 px) := cell_gr hw9 (by go_simp)
    have cw9_1_1 : w9.cell? ⟨W.heap.size + 1, 1, none⟩ = some (.int .i64 py) := cell_gr hw9 (by go_simp)
    have zw9_1 : W.heap.size + 1 < w9.heap.size := World.block_lt_of_cell? _ _ cw9_1_0
    have gw9 : Gr W w9 := Gr.trans (by have gg := gw2; have gs := gg.size; go_grown) hw9
    clear hw9 gw2 zw2_0 cw2_0_0 cw2_0_1 zw2_1 cw2_1_0 cw2_1_1
    go_wp2_with fail
    go_ret
    exact ⟨rfl, by go_grown⟩
set_option maxHeartbeats 4000000 in
set_option maxRecDepth 100000 in
theorem parts_no (ax ay x y i j px py ix iy jx jy mx my bx by' : Int) (q1 q2 q3 q4 : Bool) (W : World) (c0 : ¬ x < -1000) (c1 : ¬ 1000 < x) (c2 : ¬ y < -1000) (c3 : ¬ 1000 < y) (c4 : ¬ i < 0) (c5 : ¬ j < 0) (c6 : ¬ 1000 < i) (c7 : ¬ 1000 < j)
    (e1 : wrap64 (i * x) = ix) (e2 : wrap64 (i * y) = iy) (e3 : wrap64 (ax + ix) = mx) (e4 : wrap64 (ay + iy) = my) (e5 : wrap64 (j * x) = jx) (e6 : wrap64 (j * y) = jy) (e7 : wrap64 (mx + jx) = bx) (e8 : wrap64 (my + jy) = by')
    (f1 : IntKind.i64.wrap (i * x) = ix) (f2 : IntKind.i64.wrap (i * y) = iy) (f3 : IntKind.i64.wrap (ax + ix) = mx) (f4 : IntKind.i64.wrap (ay + iy) = my) (f5 : IntKind.i64.wrap (j * x) = jx) (f6 : IntKind.i64.wrap (j * y) = jy) (f7 : IntKind.i64.wrap (mx + jx) = bx) (f8 : IntKind.i64.wrap (my + jy) = by')
    (hc : q1 = false ∨ (q1 = true ∧ q2 = false) ∨ (q1 = true ∧ q2 = true ∧ q3 = false) ∨ (q1 = true ∧ q2 = true ∧ q3 = true ∧ q4 = false))
    (A1 : ∀ w, Calls Try.prog 14 #[.agg #[.int .i64 px, .int .i64 py]] w fun e w' => e = .returned (.bool q1) ∧ Gr w w')
    (A2 : ∀ w, Calls Try.prog 14 #[.agg #[.int .i64 ax, .int .i64 ay]] w fun e w' => e = .returned (.bool q2) ∧ Gr w w')
    (A3 : ∀ w, Calls Try.prog 14 #[.agg #[.int .i64 mx, .int .i64 my]] w fun e w' => e = .returned (.bool q3) ∧ Gr w w')
    (A4 : ∀ w, Calls Try.prog 14 #[.agg #[.int .i64 bx, .int .i64 by']] w fun e w' => e = .returned (.bool q4) ∧ Gr w w') :
    Calls Try.prog 10 #[.agg #[.int .i64 ax, .int .i64 ay], .int .i64 x, .int .i64 y, .int .i64 i, .int .i64 j, .agg #[.int .i64 px, .int .i64 py]] W fun e w' => e = .returned (.bool true) ∧ Gr W w' := by
  have H1 := Lib.hid A1
  have H2 := Lib.hid A2
  have H3 := Lib.hid A3
  have H4 := Lib.hid A4
  clear A1 A2 A3 A4
  rcases hc with rfl | ⟨rfl, rfl⟩ | ⟨rfl, rfl, rfl⟩ | ⟨rfl, rfl, rfl, rfl⟩
  · go_enter Try.func10, Try.ntmps10
    go_wp2_with fail
    go_at_call 14
    refine ((H1.out _)).mono ?_
    rintro e w1 ⟨rfl, hw1⟩
    have cw1_0_0 : w1.cell? ⟨W.heap.size, 0, none⟩ = some (.int .i64 ax) := cell_gr hw1 (by go_simp)
    have cw1_0_1 : w1.cell? ⟨W.heap.size, 1, none⟩ = some (.int .i64 ay) := cell_gr hw1 (by go_simp)
    have zw1_0 : W.heap.size < w1.heap.size := World.block_lt_of_cell? _ _ cw1_0_0
    have cw1_1_0 : w1.cell? ⟨W.heap.size + 1, 0, none⟩ = some (.int .i64 px) := cell_gr hw1 (by go_simp)
    have cw1_1_1 : w1.cell? ⟨W.heap.size + 1, 1, none⟩ = some (.int .i64 py) := cell_gr hw1 (by go_simp)
    have zw1_1 : W.heap.size + 1 < w1.heap.size := World.block_lt_of_cell? _ _ cw1_1_0
    have gw1 : Gr W w1 := Gr.trans (by go_grown) hw1
    clear hw1
    go_wp2_with fail
    go_at_call 32
    refine ((s4_awake _)).mono ?_
    rintro e w9 ⟨rfl, hw9⟩
    have cw9_0_0 : w9.cell? ⟨W.heap.size, 0, none⟩ = some (.int .i64 ax) := cell_gr hw9 (by go_simp)
    have cw9_0_1 : w9.cell? ⟨W.heap.size, 1, none⟩ = some (.int .i64 ay) := cell_gr hw9 (by go_simp)
    have zw9_0 : W.heap.size < w9.heap.size := World.block_lt_of_cell? _ _ cw9_0_0
    have cw9_1_0 : w9.cell? ⟨W.heap.size + 1, 0, none⟩ = some (.int .i64 px) := cell_gr hw9 (by go_simp)
    have cw9_1_1 : w9.cell? ⟨W.heap.size + 1, 1, none⟩ = some (.int .i64 py) := cell_gr hw9 (by go_simp)
    have zw9_1 : W.heap.size + 1 < w9.heap.size := World.block_lt_of_cell? _ _ cw9_1_0
    have gw9 : Gr W w9 := Gr.trans (by have gg := gw1; have gs := gg.size; go_grown) hw9
    clear hw9 gw1 zw1_0 cw1_0_0 cw1_0_1 zw1_1 cw1_1_0 cw1_1_1
    go_wp2_with fail
    go_ret
    exact ⟨rfl, by go_grown⟩
  · go_enter Try.func10, Try.ntmps10
    go_wp2_with fail
    go_at_call 14
    refine ((H1.out _)).mono ?_
    rintro e w1 ⟨rfl, hw1⟩
    have cw1_0_0 : w1.cell? ⟨W.heap.size, 0, none⟩ = some (.int .i64 ax) := cell_gr hw1 (by go_simp)
    have cw1_0_1 : w1.cell? ⟨W.heap.size, 1, none⟩ = some (.int .i64 ay) := cell_gr hw1 (by go_simp)
    have zw1_0 : W.heap.size < w1.heap.size := World.block_lt_of_cell? _ _ cw1_0_0
    have cw1_1_0 : w1.cell? ⟨W.heap.size + 1, 0, none⟩ = some (.int .i64 px) := cell_gr hw1 (by go_simp)
    have cw1_1_1 : w1.cell? ⟨W.heap.size + 1, 1, none⟩ = some (.int .i64 py) := cell_gr hw1 (by go_simp)
    have zw1_1 : W.heap.size + 1 < w1.heap.size := World.block_lt_of_cell? _ _ cw1_1_0
    have gw1 : Gr W w1 := Gr.trans (by go_grown) hw1
    clear hw1
    go_wp2_with fail
    go_at_call 14
    refine ((H2.out _)).mono ?_
    rintro e w2 ⟨rfl, hw2⟩
    have cw2_0_0 : w2.cell? ⟨W.heap.size, 0, none⟩ = some (.int .i64 ax) := cell_gr hw2 (by go_simp)
    have cw2_0_1 : w2.cell? ⟨W.heap.size, 1, none⟩ = some (.int .i64 ay) := cell_gr hw2 (by go_simp)
    have zw2_0 : W.heap.size < w2.heap.size := World.block_lt_of_cell? _ _ cw2_0_0
    have cw2_1_0 : w2.cell? ⟨W.heap.size + 1, 0, none⟩ = some (.int .i64 px) := cell_gr hw2 (by go_simp)
    have cw2_1_1 : w2.cell? ⟨W.heap.size + 1, 1, none⟩ = some (.int .i64 py) := cell_gr hw2 (by go_simp)
    have zw2_1 : W.heap.size + 1 < w2.heap.size := World.block_lt_of_cell? _ _ cw2_1_0
    have gw2 : Gr W w2 := Gr.trans (by have gg := gw1; have gs := gg.size; go_grown) hw2
    clear hw2 gw1 zw1_0 cw1_0_0 cw1_0_1 zw1_1 cw1_1_0 cw1_1_1
    go_wp2_with fail
    go_at_call 32
    refine ((s4_awake _)).mono ?_
    rintro e w9 ⟨rfl, hw9⟩
    have cw9_0_0 : w9.cell? ⟨W.heap.size, 0, none⟩ = some (.int .i64 ax) := cell_gr hw9 (by go_simp)
    have cw9_0_1 : w9.cell? ⟨W.heap.size, 1, none⟩ = some (.int .i64 ay) := cell_gr hw9 (by go_simp)
    have zw9_0 : W.heap.size < w9.heap.size := World.block_lt_of_cell? _ _ cw9_0_0
    have cw9_1_0 : w9.cell? ⟨W.heap.size + 1, 0, none⟩ = some (.int .i64 px) := cell_gr hw9 (by go_simp)
    have cw9_1_1 : w9.cell? ⟨W.heap.size + 1, 1, none⟩ = some (.int .i64 py) := cell_gr hw9 (by go_simp)
    have zw9_1 : W.heap.size + 1 < w9.heap.size := World.block_lt_of_cell? _ _ cw9_1_0
    have gw9 : Gr W w9 := Gr.trans (by have gg := gw2; have gs := gg.size; go_grown) hw9
    clear hw9 gw2 zw2_0 cw2_0_0 cw2_0_1 zw2_1 cw2_1_0 cw2_1_1
    go_wp2_with fail
    go_ret
    exact ⟨rfl, by go_grown⟩
  · go_enter Try.func10, Try.ntmps10
    go_wp2_with fail
    go_at_call 14
    refine ((H1.out _)).mono ?_
    rintro e w1 ⟨rfl, hw1⟩
    have cw1_0_0 : w1.cell? ⟨W.heap.size, 0, none⟩ = some (.int .i64 ax) := cell_gr hw1 (by go_simp)
    have cw1_0_1 : w1.cell? ⟨W.heap.size, 1, none⟩ = some (.int .i64 ay) := cell_gr hw1 (by go_simp)
    have zw1_0 : W.heap.size < w1.heap.size := World.block_lt_of_cell? _ _ cw1_0_0
    have cw1_1_0 : w1.cell? ⟨W.heap.size + 1, 0, none⟩ = some (.int .i64 px) := cell_gr hw1 (by go_simp)
    have cw1_1_1 : w1.cell? ⟨W.heap.size + 1, 1, none⟩ = some (.int .i64 py) := cell_gr hw1 (by go_simp)
    have zw1_1 : W.heap.size + 1 < w1.heap.size := World.block_lt_of_cell? _ _ cw1_1_0
    have gw1 : Gr W w1 := Gr.trans (by go_grown) hw1
    clear hw1
    go_wp2_with fail
    go_at_call 14
    refine ((H2.out _)).mono ?_
    rintro e w2 ⟨rfl, hw2⟩
    have cw2_0_0 : w2.cell? ⟨W.heap.size, 0, none⟩ = some (.int .i64 ax) := cell_gr hw2 (by go_simp)
    have cw2_0_1 : w2.cell? ⟨W.heap.size, 1, none⟩ = some (.int .i64 ay) := cell_gr hw2 (by go_simp)
    have zw2_0 : W.heap.size < w2.heap.size := World.block_lt_of_cell? _ _ cw2_0_0
    have cw2_1_0 : w2.cell? ⟨W.heap.size + 1, 0, none⟩ = some (.int .i64 px) := cell_gr hw2 (by go_simp)
    have cw2_1_1 : w2.cell? ⟨W.heap.size + 1, 1, none⟩ = some (.int .i64 py) := cell_gr hw2 (by go_simp)
    have zw2_1 : W.heap.size + 1 < w2.heap.size := World.block_lt_of_cell? _ _ cw2_1_0
    have gw2 : Gr W w2 := Gr.trans (by have gg := gw1; have gs := gg.size; go_grown) hw2
    clear hw2 gw1 zw1_0 cw1_0_0 cw1_0_1 zw1_1 cw1_1_0 cw1_1_1
    go_wp2_with fail
    go_at_call 14
    refine ((H3.out _)).mono ?_
    rintro e w3 ⟨rfl, hw3⟩
    have cw3_0_0 : w3.cell? ⟨W.heap.size, 0, none⟩ = some (.int .i64 ax) := cell_gr hw3 (by go_simp)
    have cw3_0_1 : w3.cell? ⟨W.heap.size, 1, none⟩ = some (.int .i64 ay) := cell_gr hw3 (by go_simp)
    have zw3_0 : W.heap.size < w3.heap.size := World.block_lt_of_cell? _ _ cw3_0_0
    have cw3_1_0 : w3.cell? ⟨W.heap.size + 1, 0, none⟩ = some (.int .i64 px) := cell_gr hw3 (by go_simp)
    have cw3_1_1 : w3.cell? ⟨W.heap.size + 1, 1, none⟩ = some (.int .i64 py) := cell_gr hw3 (by go_simp)
    have zw3_1 : W.heap.size + 1 < w3.heap.size := World.block_lt_of_cell? _ _ cw3_1_0
    have cw3_2_0 : w3.cell? ⟨w2.heap.size, 0, none⟩ = some (.int .i64 mx) := cell_gr hw3 (by go_simp)
    have cw3_2_1 : w3.cell? ⟨w2.heap.size, 1, none⟩ = some (.int .i64 my) := cell_gr hw3 (by go_simp)
    have zw3_2 : w2.heap.size < w3.heap.size := World.block_lt_of_cell? _ _ cw3_2_0
    have cw3_3_0 : w3.cell? ⟨w2.heap.size + 1, 0, none⟩ = some (.int .i64 bx) := cell_gr hw3 (by go_simp)
    have cw3_3_1 : w3.cell? ⟨w2.heap.size + 1, 1, none⟩ = some (.int .i64 by') := cell_gr hw3 (by go_simp)
    have zw3_3 : w2.heap.size + 1 < w3.heap.size := World.block_lt_of_cell? _ _ cw3_3_0
    have gw3 : Gr W w3 := Gr.trans (by have gg := gw2; have gs := gg.size; go_grown) hw3
    clear hw3 gw2 zw2_0 cw2_0_0 cw2_0_1 zw2_1 cw2_1_0 cw2_1_1
    go_wp2_with fail
    go_at_call 32
    refine ((s4_awake _)).mono ?_
    rintro e w9 ⟨rfl, hw9⟩
    have cw9_0_0 : w9.cell? ⟨W.heap.size, 0, none⟩ = some (.int .i64 ax) := cell_gr hw9 (by go_simp)
    have cw9_0_1 : w9.cell? ⟨W.heap.size, 1, none⟩ = some (.int .i64 ay) := cell_gr hw9 (by go_simp)
    have zw9_0 : W.heap.size < w9.heap.size := World.block_lt_of_cell? _ _ cw9_0_0
    have cw9_1_0 : w9.cell? ⟨W.heap.size + 1, 0, none⟩ = some (.int .i64 px) := cell_gr hw9 (by go_simp)
    have cw9_1_1 : w9.cell? ⟨W.heap.size + 1, 1, none⟩ = some (.int .i64 py) := cell_gr hw9 (by go_simp)
    have zw9_1 : W.heap.size + 1 < w9.heap.size := World.block_lt_of_cell? _ _ cw9_1_0
    have cw9_2_0 : w9.cell? ⟨w2.heap.size, 0, none⟩ = some (.int .i64 mx) := cell_gr hw9 (by go_simp)
    have cw9_2_1 : w9.cell? ⟨w2.heap.size, 1, none⟩ = some (.int .i64 my) := cell_gr hw9 (by go_simp)
    have zw9_2 : w2.heap.size < w9.heap.size := World.block_lt_of_cell? _ _ cw9_2_0
    have cw9_3_0 : w9.cell? ⟨w2.heap.size + 1, 0, none⟩ = some (.int .i64 bx) := cell_gr hw9 (by go_simp)
    have cw9_3_1 : w9.cell? ⟨w2.heap.size + 1, 1, none⟩ = some (.int .i64 by') := cell_gr hw9 (by go_simp)
    have zw9_3 : w2.heap.size + 1 < w9.heap.size := World.block_lt_of_cell? _ _ cw9_3_0
    have gw9 : Gr W w9 := Gr.trans (by have gg := gw3; have gs := gg.size; go_grown) hw9
    clear hw9 gw3 zw3_0 cw3_0_0 cw3_0_1 zw3_1 cw3_1_0 cw3_1_1 zw3_2 cw3_2_0 cw3_2_1 zw3_3 cw3_3_0 cw3_3_1
    go_wp2_with fail
    go_ret
    exact ⟨rfl, by go_grown⟩
  · go_enter Try.func10, Try.ntmps10
    go_wp2_with fail
    go_at_call 14
    refine ((H1.out _)).mono ?_
    rintro e w1 ⟨rfl, hw1⟩
    have cw1_0_0 : w1.cell? ⟨W.heap.size, 0, none⟩ = some (.int .i64 ax) := cell_gr hw1 (by go_simp)
    have cw1_0_1 : w1.cell? ⟨W.heap.size, 1, none⟩ = some (.int .i64 ay) := cell_gr hw1 (by go_simp)
    have zw1_0 : W.heap.size < w1.heap.size := World.block_lt_of_cell? _ _ cw1_0_0
    have cw1_1_0 : w1.cell? ⟨W.heap.size + 1, 0, none⟩ = some (.int .i64 px) := cell_gr hw1 (by go_simp)
    have cw1_1_1 : w1.cell? ⟨W.heap.size + 1, 1, none⟩ = some (.int .i64 py) := cell_gr hw1 (by go_simp)
    have zw1_1 : W.heap.size + 1 < w1.heap.size := World.block_lt_of_cell? _ _ cw1_1_0
    have gw1 : Gr W w1 := Gr.trans (by go_grown) hw1
    clear hw1
    go_wp2_with fail
    go_at_call 14
    refine ((H2.out _)).mono ?_
    rintro e w2 ⟨rfl, hw2⟩
    have cw2_0_0 : w2.cell? ⟨W.heap.size, 0, none⟩ = some (.int .i64 ax) := cell_gr hw2 (by go_simp)
    have cw2_0_1 : w2.cell? ⟨W.heap.size, 1, none⟩ = some (.int .i64 ay) := cell_gr hw2 (by go_simp)
    have zw2_0 : W.heap.size < w2.heap.size := World.block_lt_of_cell? _ _ cw2_0_0
    have cw2_1_0 : w2.cell? ⟨W.heap.size + 1, 0, none⟩ = some (.int .i64 px) := cell_gr hw2 (by go_simp)
    have cw2_1_1 : w2.cell? ⟨W.heap.size + 1, 1, none⟩ = some (.int .i64 py) := cell_gr hw2 (by go_simp)
    have zw2_1 : W.heap.size + 1 < w2.heap.size := World.block_lt_of_cell? _ _ cw2_1_0
    have gw2 : Gr W w2 := Gr.trans (by have gg := gw1; have gs := gg.size; go_grown) hw2
    clear hw2 gw1 zw1_0 cw1_0_0 cw1_0_1 zw1_1 cw1_1_0 cw1_1_1
    go_wp2_with fail
    go_at_call 14
    refine ((H3.out _)).mono ?_
    rintro e w3 ⟨rfl, hw3⟩
    have cw3_0_0 : w3.cell? ⟨W.heap.size, 0, none⟩ = some (.int .i64 ax) := cell_gr hw3 (by go_simp)
    have cw3_0_1 : w3.cell? ⟨W.heap.size, 1, none⟩ = some (.int .i64 ay) := cell_gr hw3 (by go_simp)
    have zw3_0 : W.heap.size < w3.heap.size := World.block_lt_of_cell? _ _ cw3_0_0
    have cw3_1_0 : w3.cell? ⟨W.heap.size + 1, 0, none⟩ = some (.int .i64 px) := cell_gr hw3 (by go_simp)
    have cw3_1_1 : w3.cell? ⟨W.heap.size + 1, 1, none⟩ = some (.int .i64 py) := cell_gr hw3 (by go_simp)
    have zw3_1 : W.heap.size + 1 < w3.heap.size := World.block_lt_of_cell? _ _ cw3_1_0
    have cw3_2_0 : w3.cell? ⟨w2.heap.size, 0, none⟩ = some (.int .i64 mx) := cell_gr hw3 (by go_simp)
    have cw3_2_1 : w3.cell? ⟨w2.heap.size, 1, none⟩ = some (.int .i64 my) := cell_gr hw3 (by go_simp)
    have zw3_2 : w2.heap.size < w3.heap.size := World.block_lt_of_cell? _ _ cw3_2_0
    have cw3_3_0 : w3.cell? ⟨w2.heap.size + 1, 0, none⟩ = some (.int .i64 bx) := cell_gr hw3 (by go_simp)
    have cw3_3_1 : w3.cell? ⟨w2.heap.size + 1, 1, none⟩ = some (.int .i64 by') := cell_gr hw3 (by go_simp)
    have zw3_3 : w2.heap.size + 1 < w3.heap.size := World.block_lt_of_cell? _ _ cw3_3_0
    have gw3 : Gr W w3 := Gr.trans (by have gg := gw2; have gs := gg.size; go_grown) hw3
    clear hw3 gw2 zw2_0 cw2_0_0 cw2_0_1 zw2_1 cw2_1_0 cw2_1_1
    go_wp2_with fail
    go_at_call 14
    refine ((H4.out _)).mono ?_
    rintro e w4 ⟨rfl, hw4⟩
    have cw4_0_0 : w4.cell? ⟨W.heap.size, 0, none⟩ = some (.int .i64 ax) := cell_gr hw4 (by go_simp)
    have cw4_0_1 : w4.cell? ⟨W.heap.size, 1, none⟩ = some (.int .i64 ay) := cell_gr hw4 (by go_simp)
    have zw4_0 : W.heap.size < w4.heap.size := World.block_lt_of_cell? _ _ cw4_0_0
    have cw4_1_0 : w4.cell? ⟨W.heap.size + 1, 0, none⟩ = some (.int .i64 px) := cell_gr hw4 (by go_simp)
    have cw4_1_1 : w4.cell? ⟨W.heap.size + 1, 1, none⟩ = some (.int .i64 py) := cell_gr hw4 (by go_simp)
    have zw4_1 : W.heap.size + 1 < w4.heap.size := World.block_lt_of_cell? _ _ cw4_1_0
    have cw4_2_0 : w4.cell? ⟨w2.heap.size, 0, none⟩ = some (.int .i64 mx) := cell_gr hw4 (by go_simp)
    have cw4_2_1 : w4.cell? ⟨w2.heap.size, 1, none⟩ = some (.int .i64 my) := cell_gr hw4 (by go_simp)
    have zw4_2 : w2.heap.size < w4.heap.size := World.block_lt_of_cell? _ _ cw4_2_0
    have cw4_3_0 : w4.cell? ⟨w2.heap.size + 1, 0, none⟩ = some (.int .i64 bx) := cell_gr hw4 (by go_simp)
    have cw4_3_1 : w4.cell? ⟨w2.heap.size + 1, 1, none⟩ = some (.int .i64 by') := cell_gr hw4 (by go_simp)
    have zw4_3 : w2.heap.size + 1 < w4.heap.size := World.block_lt_of_cell? _ _ cw4_3_0
    have gw4 : Gr W w4 := Gr.trans (by have gg := gw3; have gs := gg.size; go_grown) hw4
    clear hw4 gw3 zw3_0 cw3_0_0 cw3_0_1 zw3_1 cw3_1_0 cw3_1_1 zw3_2 cw3_2_0 cw3_2_1 zw3_3 cw3_3_0 cw3_3_1
    go_wp2_with fail
    go_at_call 32
    refine ((s4_awake _)).mono ?_
    rintro e w9 ⟨rfl, hw9⟩
    have cw9_0_0 : w9.cell? ⟨W.heap.size, 0, none⟩ = some (.int .i64 ax) := cell_gr hw9 (by go_simp)
    have cw9_0_1 : w9.cell? ⟨W.heap.size, 1, none⟩ = some (.int .i64 ay) := cell_gr hw9 (by go_simp)
    have zw9_0 : W.heap.size < w9.heap.size := World.block_lt_of_cell? _ _ cw9_0_0
    have cw9_1_0 : w9.cell? ⟨W.heap.size + 1, 0, none⟩ = some (.int .i64 px) := cell_gr hw9 (by go_simp)
    have cw9_1_1 : w9.cell? ⟨W.heap.size + 1, 1, none⟩ = some (.int .i64 py) := cell_gr hw9 (by go_simp)
    have zw9_1 : W.heap.size + 1 < w9.heap.size := World.block_lt_of_cell? _ _ cw9_1_0
    have cw9_2_0 : w9.cell? ⟨w2.heap.size, 0, none⟩ = some (.int .i64 mx) := cell_gr hw9 (by go_simp)
    have cw9_2_1 : w9.cell? ⟨w2.heap.size, 1, none⟩ = some (.int .i64 my) := cell_gr hw9 (by go_simp)
    have zw9_2 : w2.heap.size < w9.heap.size := World.block_lt_of_cell? _ _ cw9_2_0
    have cw9_3_0 : w9.cell? ⟨w2.heap.size + 1, 0, none⟩ = some (.int .i64 bx) := cell_gr hw9 (by go_simp)
    have cw9_3_1 : w9.cell? ⟨w2.heap.size + 1, 1, none⟩ = some (.int .i64 by') := cell_gr hw9 (by go_simp)
    have zw9_3 : w2.heap.size + 1 < w9.heap.size := World.block_lt_of_cell? _ _ cw9_3_0
    have gw9 : Gr W w9 := Gr.trans (by have gg := gw4; have gs := gg.size; go_grown) hw9
    clear hw9 gw4 zw4_0 cw4_0_0 cw4_0_1 zw4_1 cw4_1_0 cw4_1_1 zw4_2 cw4_2_0 cw4_2_1 zw4_3 cw4_3_0 cw4_3_1
    go_wp2_with fail
    go_ret
    exact ⟨rfl, by go_grown⟩
set_option maxHeartbeats 8000000 in
set_option maxRecDepth 100000 in
theorem parts_lt (ax ay x y i j px py ix iy jx jy mx my bx by' dh dl dd eh el ed k : Int) (o o2 o3 : Bool) (W : World) (c0 : ¬ x < -1000) (c1 : ¬ 1000 < x) (c2 : ¬ y < -1000) (c3 : ¬ 1000 < y) (c4 : ¬ i < 0) (c5 : ¬ j < 0) (c6 : ¬ 1000 < i) (c7 : ¬ 1000 < j)
    (e1 : wrap64 (i * x) = ix) (e2 : wrap64 (i * y) = iy) (e3 : wrap64 (ax + ix) = mx) (e4 : wrap64 (ay + iy) = my) (e5 : wrap64 (j * x) = jx) (e6 : wrap64 (j * y) = jy) (e7 : wrap64 (mx + jx) = bx) (e8 : wrap64 (my + jy) = by')
    (f1 : IntKind.i64.wrap (i * x) = ix) (f2 : IntKind.i64.wrap (i * y) = iy) (f3 : IntKind.i64.wrap (ax + ix) = mx) (f4 : IntKind.i64.wrap (ay + iy) = my) (f5 : IntKind.i64.wrap (j * x) = jx) (f6 : IntKind.i64.wrap (j * y) = jy) (f7 : IntKind.i64.wrap (mx + jx) = bx) (f8 : IntKind.i64.wrap (my + jy) = by')
    (hk : decide (k < 0) = true) (hc : (o2 = true ∧ o = true) ∨ (o2 = false ∧ o = o3))
    (A1 : ∀ w, Calls Try.prog 14 #[.agg #[.int .i64 px, .int .i64 py]] w fun e w' => e = .returned (.bool true) ∧ Gr w w')
    (A2 : ∀ w, Calls Try.prog 14 #[.agg #[.int .i64 ax, .int .i64 ay]] w fun e w' => e = .returned (.bool true) ∧ Gr w w')
    (A3 : ∀ w, Calls Try.prog 14 #[.agg #[.int .i64 mx, .int .i64 my]] w fun e w' => e = .returned (.bool true) ∧ Gr w w')
    (A4 : ∀ w, Calls Try.prog 14 #[.agg #[.int .i64 bx, .int .i64 by']] w fun e w' => e = .returned (.bool true) ∧ Gr w w')
    (A5 : ∀ w, Calls Try.prog 30 #[.agg #[.int .i64 ax, .int .i64 ay], .agg #[.int .i64 mx, .int .i64 my], .agg #[.int .i64 px, .int .i64 py]] w fun e w' => e = .returned (.agg #[.int .u64 dh, .int .u64 dl, .int .u64 dd]) ∧ Gr w w')
    (A6 : ∀ w, Calls Try.prog 30 #[.agg #[.int .i64 mx, .int .i64 my], .agg #[.int .i64 bx, .int .i64 by'], .agg #[.int .i64 px, .int .i64 py]] w fun e w' => e = .returned (.agg #[.int .u64 eh, .int .u64 el, .int .u64 ed]) ∧ Gr w w')
    (A7 : ∀ w, Calls Try.prog 20 #[.agg #[.int .u64 eh, .int .u64 el, .int .u64 ed], .agg #[.int .u64 dh, .int .u64 dl, .int .u64 dd]] w fun e w' => e = .returned (.int .i64 k) ∧ Gr w w')
    (A8 : ∀ w, Calls Try.prog 22 #[.agg #[.int .i64 ax, .int .i64 ay], .agg #[.int .i64 bx, .int .i64 by'], .agg #[.int .i64 mx, .int .i64 my]] w fun e w' => e = .returned (.bool true) ∧ Gr w w')
    (A9 : ∀ w, Calls Try.prog 22 #[.agg #[.int .i64 ax, .int .i64 ay], .agg #[.int .i64 bx, .int .i64 by'], .agg #[.int .i64 px, .int .i64 py]] w fun e w' => e = .returned (.bool o) ∧ Gr w w')
    (B1 : ∀ w, Calls Try.prog 22 #[.agg #[.int .i64 ax, .int .i64 ay], .agg #[.int .i64 mx, .int .i64 my], .agg #[.int .i64 px, .int .i64 py]] w fun e w' => e = .returned (.bool o2) ∧ Gr w w')
    (B2 : ∀ w, Calls Try.prog 22 #[.agg #[.int .i64 mx, .int .i64 my], .agg #[.int .i64 bx, .int .i64 by'], .agg #[.int .i64 px, .int .i64 py]] w fun e w' => e = .returned (.bool o3) ∧ Gr w w')
    (B3 : ∀ w, Calls Try.prog 30 #[.agg #[.int .i64 ax, .int .i64 ay], .agg #[.int .i64 bx, .int .i64 by'], .agg #[.int .i64 px, .int .i64 py]] w fun e w' => e = .returned (.agg #[.int .u64 eh, .int .u64 el, .int .u64 ed]) ∧ Gr w w') :
    Calls Try.prog 10 #[.agg #[.int .i64 ax, .int .i64 ay], .int .i64 x, .int .i64 y, .int .i64 i, .int .i64 j, .agg #[.int .i64 px, .int .i64 py]] W fun e w' => e = .returned (.bool true) ∧ Gr W w' := by
  have H1 := Lib.hid A1
  have H2 := Lib.hid A2
  have H3 := Lib.hid A3
  have H4 := Lib.hid A4
  have H5 := Lib.hid A5
  have H6 := Lib.hid A6
  have H7 := Lib.hid A7
  have H8 := Lib.hid A8
  have H9 := Lib.hid A9
  clear A1 A2 A3 A4 A5 A6 A7 A8 A9
  have HB1 := Lib.hid B1
  have HB2 := Lib.hid B2
  have HB3 := Lib.hid B3
  clear B1 B2 B3
  cases o3 <;> rcases hc with ⟨rfl, rfl⟩ | ⟨rfl, rfl⟩
  all_goals
    go_enter Try.func10, Try.ntmps10
    go_wp2_with fail
    go_at_call 14
    refine ((H1.out _)).mono ?_
    rintro e w1 ⟨rfl, hw1⟩
    have cw1_0_0 : w1.cell? ⟨W.heap.size, 0, none⟩ = some (.int .i64 ax) := cell_gr hw1 (by go_simp)
    have cw1_0_1 : w1.cell? ⟨W.heap.size, 1, none⟩ = some (.int .i64 ay) := cell_gr hw1 (by go_simp)
    have zw1_0 : W.heap.size < w1.heap.size := World.block_lt_of_cell? _ _ cw1_0_0
    have cw1_1_0 : w1.cell? ⟨W.heap.size + 1, 0, none⟩ = some (.int .i64 px) := cell_gr hw1 (by go_simp)
    have cw1_1_1 : w1.cell? ⟨W.heap.size + 1, 1, none⟩ = some (.int .i64 py) := cell_gr hw1 (by go_simp)
    have zw1_1 : W.heap.size + 1 < w1.heap.size := World.block_lt_of_cell? _ _ cw1_1_0
    have gw1 : Gr W w1 := Gr.trans (by go_grown) hw1
    clear hw1
    go_wp2_with fail
    go_at_call 14
    refine ((H2.out _)).mono ?_
    rintro e w2 ⟨rfl, hw2⟩
    have cw2_0_0 : w2.cell? ⟨W.heap.size, 0, none⟩ = some (.int .i64 ax) := cell_gr hw2 (by go_simp)
    have cw2_0_1 : w2.cell? ⟨W.heap.size, 1, none⟩ = some (.int .i64 ay) := cell_gr hw2 (by go_simp)
    have zw2_0 : W.heap.size < w2.heap.size := World.block_lt_of_cell? _ _ cw2_0_0
    have cw2_1_0 : w2.cell? ⟨W.heap.size + 1, 0, none⟩ = some (.int .i64 px) := cell_gr hw2 (by go_simp)
    have cw2_1_1 : w2.cell? ⟨W.heap.size + 1, 1, none⟩ = some (.int .i64 py) := cell_gr hw2 (by go_simp)
    have zw2_1 : W.heap.size + 1 < w2.heap.size := World.block_lt_of_cell? _ _ cw2_1_0
    have gw2 : Gr W w2 := Gr.trans (by have gg := gw1; have gs := gg.size; go_grown) hw2
    clear hw2 gw1 zw1_0 cw1_0_0 cw1_0_1 zw1_1 cw1_1_0 cw1_1_1
    go_wp2_with fail
    go_at_call 14
    refine ((H3.out _)).mono ?_
    rintro e w3 ⟨rfl, hw3⟩
    have cw3_0_0 : w3.cell? ⟨W.heap.size, 0, none⟩ = some (.int .i64 ax) := cell_gr hw3 (by go_simp)
    have cw3_0_1 : w3.cell? ⟨W.heap.size, 1, none⟩ = some (.int .i64 ay) := cell_gr hw3 (by go_simp)
    have zw3_0 : W.heap.size < w3.heap.size := World.block_lt_of_cell? _ _ cw3_0_0
    have cw3_1_0 : w3.cell? ⟨W.heap.size + 1, 0, none⟩ = some (.int .i64 px) := cell_gr hw3 (by go_simp)
    have cw3_1_1 : w3.cell? ⟨W.heap.size + 1, 1, none⟩ = some (.int .i64 py) := cell_gr hw3 (by go_simp)
    have zw3_1 : W.heap.size + 1 < w3.heap.size := World.block_lt_of_cell? _ _ cw3_1_0
    have cw3_2_0 : w3.cell? ⟨w2.heap.size, 0, none⟩ = some (.int .i64 mx) := cell_gr hw3 (by go_simp)
    have cw3_2_1 : w3.cell? ⟨w2.heap.size, 1, none⟩ = some (.int .i64 my) := cell_gr hw3 (by go_simp)
    have zw3_2 : w2.heap.size < w3.heap.size := World.block_lt_of_cell? _ _ cw3_2_0
    have cw3_3_0 : w3.cell? ⟨w2.heap.size + 1, 0, none⟩ = some (.int .i64 bx) := cell_gr hw3 (by go_simp)
    have cw3_3_1 : w3.cell? ⟨w2.heap.size + 1, 1, none⟩ = some (.int .i64 by') := cell_gr hw3 (by go_simp)
    have zw3_3 : w2.heap.size + 1 < w3.heap.size := World.block_lt_of_cell? _ _ cw3_3_0
    have gw3 : Gr W w3 := Gr.trans (by have gg := gw2; have gs := gg.size; go_grown) hw3
    clear hw3 gw2 zw2_0 cw2_0_0 cw2_0_1 zw2_1 cw2_1_0 cw2_1_1
    go_wp2_with fail
    go_at_call 14
    refine ((H4.out _)).mono ?_
    rintro e w4 ⟨rfl, hw4⟩
    have cw4_0_0 : w4.cell? ⟨W.heap.size, 0, none⟩ = some (.int .i64 ax) := cell_gr hw4 (by go_simp)
    have cw4_0_1 : w4.cell? ⟨W.heap.size, 1, none⟩ = some (.int .i64 ay) := cell_gr hw4 (by go_simp)
    have zw4_0 : W.heap.size < w4.heap.size := World.block_lt_of_cell? _ _ cw4_0_0
    have cw4_1_0 : w4.cell? ⟨W.heap.size + 1, 0, none⟩ = some (.int .i64 px) := cell_gr hw4 (by go_simp)
    have cw4_1_1 : w4.cell? ⟨W.heap.size + 1, 1, none⟩ = some (.int .i64 py) := cell_gr hw4 (by go_simp)
    have zw4_1 : W.heap.size + 1 < w4.heap.size := World.block_lt_of_cell? _ _ cw4_1_0
    have cw4_2_0 : w4.cell? ⟨w2.heap.size, 0, none⟩ = some (.int .i64 mx) := cell_gr hw4 (by go_simp)
    have cw4_2_1 : w4.cell? ⟨w2.heap.size, 1, none⟩ = some (.int .i64 my) := cell_gr hw4 (by go_simp)
    have zw4_2 : w2.heap.size < w4.heap.size := World.block_lt_of_cell? _ _ cw4_2_0
    have cw4_3_0 : w4.cell? ⟨w2.heap.size + 1, 0, none⟩ = some (.int .i64 bx) := cell_gr hw4 (by go_simp)
    have cw4_3_1 : w4.cell? ⟨w2.heap.size + 1, 1, none⟩ = some (.int .i64 by') := cell_gr hw4 (by go_simp)
    have zw4_3 : w2.heap.size + 1 < w4.heap.size := World.block_lt_of_cell? _ _ cw4_3_0
    have gw4 : Gr W w4 := Gr.trans (by have gg := gw3; have gs := gg.size; go_grown) hw4
    clear hw4 gw3 zw3_0 cw3_0_0 cw3_0_1 zw3_1 cw3_1_0 cw3_1_1 zw3_2 cw3_2_0 cw3_2_1 zw3_3 cw3_3_0 cw3_3_1
    go_wp2_with fail
    go_at_call 30
    refine ((H5.out _)).mono ?_
    rintro e w5 ⟨rfl, hw5⟩
    have cw5_0_0 : w5.cell? ⟨W.heap.size, 0, none⟩ = some (.int .i64 ax) := cell_gr hw5 (by go_simp)
    have cw5_0_1 : w5.cell? ⟨W.heap.size, 1, none⟩ = some (.int .i64 ay) := cell_gr hw5 (by go_simp)
    have zw5_0 : W.heap.size < w5.heap.size := World.block_lt_of_cell? _ _ cw5_0_0
    have cw5_1_0 : w5.cell? ⟨W.heap.size + 1, 0, none⟩ = some (.int .i64 px) := cell_gr hw5 (by go_simp)
    have cw5_1_1 : w5.cell? ⟨W.heap.size + 1, 1, none⟩ = some (.int .i64 py) := cell_gr hw5 (by go_simp)
    have zw5_1 : W.heap.size + 1 < w5.heap.size := World.block_lt_of_cell? _ _ cw5_1_0
    have cw5_2_0 : w5.cell? ⟨w2.heap.size, 0, none⟩ = some (.int .i64 mx) := cell_gr hw5 (by go_simp)
    have cw5_2_1 : w5.cell? ⟨w2.heap.size, 1, none⟩ = some (.int .i64 my) := cell_gr hw5 (by go_simp)
    have zw5_2 : w2.heap.size < w5.heap.size := World.block_lt_of_cell? _ _ cw5_2_0
    have cw5_3_0 : w5.cell? ⟨w2.heap.size + 1, 0, none⟩ = some (.int .i64 bx) := cell_gr hw5 (by go_simp)
    have cw5_3_1 : w5.cell? ⟨w2.heap.size + 1, 1, none⟩ = some (.int .i64 by') := cell_gr hw5 (by go_simp)
    have zw5_3 : w2.heap.size + 1 < w5.heap.size := World.block_lt_of_cell? _ _ cw5_3_0
    have gw5 : Gr W w5 := Gr.trans (by have gg := gw4; have gs := gg.size; go_grown) hw5
    clear hw5 gw4 zw4_0 cw4_0_0 cw4_0_1 zw4_1 cw4_1_0 cw4_1_1 zw4_2 cw4_2_0 cw4_2_1 zw4_3 cw4_3_0 cw4_3_1
    go_wp2_with fail
    go_at_call 30
    refine ((H6.out _)).mono ?_
    rintro e w6 ⟨rfl, hw6⟩
    have cw6_0_0 : w6.cell? ⟨W.heap.size, 0, none⟩ = some (.int .i64 ax) := cell_gr hw6 (by go_simp)
    have cw6_0_1 : w6.cell? ⟨W.heap.size, 1, none⟩ = some (.int .i64 ay) := cell_gr hw6 (by go_simp)
    have zw6_0 : W.heap.size < w6.heap.size := World.block_lt_of_cell? _ _ cw6_0_0
    have cw6_1_0 : w6.cell? ⟨W.heap.size + 1, 0, none⟩ = some (.int .i64 px) := cell_gr hw6 (by go_simp)
    have cw6_1_1 : w6.cell? ⟨W.heap.size + 1, 1, none⟩ = some (.int .i64 py) := cell_gr hw6 (by go_simp)
    have zw6_1 : W.heap.size + 1 < w6.heap.size := World.block_lt_of_cell? _ _ cw6_1_0
    have cw6_2_0 : w6.cell? ⟨w2.heap.size, 0, none⟩ = some (.int .i64 mx) := cell_gr hw6 (by go_simp)
    have cw6_2_1 : w6.cell? ⟨w2.heap.size, 1, none⟩ = some (.int .i64 my) := cell_gr hw6 (by go_simp)
    have zw6_2 : w2.heap.size < w6.heap.size := World.block_lt_of_cell? _ _ cw6_2_0
    have cw6_3_0 : w6.cell? ⟨w2.heap.size + 1, 0, none⟩ = some (.int .i64 bx) := cell_gr hw6 (by go_simp)
    have cw6_3_1 : w6.cell? ⟨w2.heap.size + 1, 1, none⟩ = some (.int .i64 by') := cell_gr hw6 (by go_simp)
    have zw6_3 : w2.heap.size + 1 < w6.heap.size := World.block_lt_of_cell? _ _ cw6_3_0
    have cw6_4_0 : w6.cell? ⟨w5.heap.size, 0, none⟩ = some (.int .u64 dh) := cell_gr hw6 (by go_simp)
    have cw6_4_1 : w6.cell? ⟨w5.heap.size, 1, none⟩ = some (.int .u64 dl) := cell_gr hw6 (by go_simp)
    have cw6_4_2 : w6.cell? ⟨w5.heap.size, 2, none⟩ = some (.int .u64 dd) := cell_gr hw6 (by go_simp)
    have zw6_4 : w5.heap.size < w6.heap.size := World.block_lt_of_cell? _ _ cw6_4_0
    have gw6 : Gr W w6 := Gr.trans (by have gg := gw5; have gs := gg.size; go_grown) hw6
    clear hw6 gw5 zw5_0 cw5_0_0 cw5_0_1 zw5_1 cw5_1_0 cw5_1_1 zw5_2 cw5_2_0 cw5_2_1 zw5_3 cw5_3_0 cw5_3_1
    have gle : W.heap.size ≤ w6.heap.size + 1 := by have := gw6.size; omega
    have nb0 : ¬ W.heap.size = w6.heap.size + 1 := by omega
    have nc0 : ¬ w6.heap.size + 1 = W.heap.size := by omega
    have nb1 : ¬ W.heap.size + 1 = w6.heap.size + 1 := by omega
    have nc1 : ¬ w6.heap.size + 1 = W.heap.size + 1 := by omega
    have nb2 : ¬ w2.heap.size = w6.heap.size + 1 := by omega
    have nc2 : ¬ w6.heap.size + 1 = w2.heap.size := by omega
    have nb3 : ¬ w2.heap.size + 1 = w6.heap.size + 1 := by omega
    have nc3 : ¬ w6.heap.size + 1 = w2.heap.size + 1 := by omega
    have nb4 : ¬ w5.heap.size = w6.heap.size + 1 := by omega
    have nc4 : ¬ w6.heap.size + 1 = w5.heap.size := by omega
    go_wp2_with fail
    go_at_call 20
    refine ((H7.out _)).mono ?_
    rintro e w7 ⟨rfl, hw7⟩
    have cw7_0_0 : w7.cell? ⟨W.heap.size, 0, none⟩ = some (.int .i64 ax) := cell_gr hw7 (by go_simp)
    have cw7_0_1 : w7.cell? ⟨W.heap.size, 1, none⟩ = some (.int .i64 ay) := cell_gr hw7 (by go_simp)
    have zw7_0 : W.heap.size < w7.heap.size := World.block_lt_of_cell? _ _ cw7_0_0
    have cw7_1_0 : w7.cell? ⟨W.heap.size + 1, 0, none⟩ = some (.int .i64 px) := cell_gr hw7 (by go_simp)
    have cw7_1_1 : w7.cell? ⟨W.heap.size + 1, 1, none⟩ = some (.int .i64 py) := cell_gr hw7 (by go_simp)
    have zw7_1 : W.heap.size + 1 < w7.heap.size := World.block_lt_of_cell? _ _ cw7_1_0
    have cw7_2_0 : w7.cell? ⟨w2.heap.size, 0, none⟩ = some (.int .i64 mx) := cell_gr hw7 (by go_simp)
    have cw7_2_1 : w7.cell? ⟨w2.heap.size, 1, none⟩ = some (.int .i64 my) := cell_gr hw7 (by go_simp)
    have zw7_2 : w2.heap.size < w7.heap.size := World.block_lt_of_cell? _ _ cw7_2_0
    have cw7_3_0 : w7.cell? ⟨w2.heap.size + 1, 0, none⟩ = some (.int .i64 bx) := cell_gr hw7 (by go_simp)
    have cw7_3_1 : w7.cell? ⟨w2.heap.size + 1, 1, none⟩ = some (.int .i64 by') := cell_gr hw7 (by go_simp)
    have zw7_3 : w2.heap.size + 1 < w7.heap.size := World.block_lt_of_cell? _ _ cw7_3_0
    have cw7_4_0 : w7.cell? ⟨w5.heap.size, 0, none⟩ = some (.int .u64 dh) := cell_gr hw7 (by go_simp)
    have cw7_4_1 : w7.cell? ⟨w5.heap.size, 1, none⟩ = some (.int .u64 dl) := cell_gr hw7 (by go_simp)
    have cw7_4_2 : w7.cell? ⟨w5.heap.size, 2, none⟩ = some (.int .u64 dd) := cell_gr hw7 (by go_simp)
    have zw7_4 : w5.heap.size < w7.heap.size := World.block_lt_of_cell? _ _ cw7_4_0
    have cw7_5_0 : w7.cell? ⟨w6.heap.size, 0, none⟩ = some (.int .u64 eh) := cell_gr hw7 (by go_simp)
    have cw7_5_1 : w7.cell? ⟨w6.heap.size, 1, none⟩ = some (.int .u64 el) := cell_gr hw7 (by go_simp)
    have cw7_5_2 : w7.cell? ⟨w6.heap.size, 2, none⟩ = some (.int .u64 ed) := cell_gr hw7 (by go_simp)
    have zw7_5 : w6.heap.size < w7.heap.size := World.block_lt_of_cell? _ _ cw7_5_0
    have cw7_6_0 : w7.cell? ⟨w6.heap.size + 1, 0, none⟩ = some (.int .u64 dh) := cell_gr hw7 (by go_simp)
    have fw7_6_0 : w7.frozen? ⟨w6.heap.size + 1, 0, none⟩ = false := frozen_gr (v := .int .u64 dh) hw7 (by go_simp) (by go_simp)
    have cw7_6_1 : w7.cell? ⟨w6.heap.size + 1, 1, none⟩ = some (.int .u64 dl) := cell_gr hw7 (by go_simp)
    have fw7_6_1 : w7.frozen? ⟨w6.heap.size + 1, 1, none⟩ = false := frozen_gr (v := .int .u64 dl) hw7 (by go_simp) (by go_simp)
    have cw7_6_2 : w7.cell? ⟨w6.heap.size + 1, 2, none⟩ = some (.int .u64 dd) := cell_gr hw7 (by go_simp)
    have fw7_6_2 : w7.frozen? ⟨w6.heap.size + 1, 2, none⟩ = false := frozen_gr (v := .int .u64 dd) hw7 (by go_simp) (by go_simp)
    have zw7_6 : w6.heap.size + 1 < w7.heap.size := World.block_lt_of_cell? _ _ cw7_6_0
    have gw7 : Gr W w7 := Gr.trans (by have gg := gw6; have gs := gg.size; go_grown) hw7
    clear hw7 gw6 zw6_0 cw6_0_0 cw6_0_1 zw6_1 cw6_1_0 cw6_1_1 zw6_2 cw6_2_0 cw6_2_1 zw6_3 cw6_3_0 cw6_3_1 zw6_4 cw6_4_0 cw6_4_1 cw6_4_2
    go_wp2_with fail
    generalize hhw8 : (((w7.setCell ⟨w6.heap.size + 1, 0, none⟩ (.int .u64 eh)).setCell ⟨w6.heap.size + 1, 1, none⟩ (.int .u64 el)).setCell ⟨w6.heap.size + 1, 2, none⟩ (.int .u64 ed)) = w8
    have cw8_0_0 : w8.cell? ⟨W.heap.size, 0, none⟩ = some (.int .i64 ax) := by subst hhw8; go_simp
    have cw8_0_1 : w8.cell? ⟨W.heap.size, 1, none⟩ = some (.int .i64 ay) := by subst hhw8; go_simp
    have zw8_0 : W.heap.size < w8.heap.size := World.block_lt_of_cell? _ _ cw8_0_0
    have cw8_1_0 : w8.cell? ⟨W.heap.size + 1, 0, none⟩ = some (.int .i64 px) := by subst hhw8; go_simp
    have cw8_1_1 : w8.cell? ⟨W.heap.size + 1, 1, none⟩ = some (.int .i64 py) := by subst hhw8; go_simp
    have zw8_1 : W.heap.size + 1 < w8.heap.size := World.block_lt_of_cell? _ _ cw8_1_0
    have cw8_2_0 : w8.cell? ⟨w2.heap.size, 0, none⟩ = some (.int .i64 mx) := by subst hhw8; go_simp
    have cw8_2_1 : w8.cell? ⟨w2.heap.size, 1, none⟩ = some (.int .i64 my) := by subst hhw8; go_simp
    have zw8_2 : w2.heap.size < w8.heap.size := World.block_lt_of_cell? _ _ cw8_2_0
    have cw8_3_0 : w8.cell? ⟨w2.heap.size + 1, 0, none⟩ = some (.int .i64 bx) := by subst hhw8; go_simp
    have cw8_3_1 : w8.cell? ⟨w2.heap.size + 1, 1, none⟩ = some (.int .i64 by') := by subst hhw8; go_simp
    have zw8_3 : w2.heap.size + 1 < w8.heap.size := World.block_lt_of_cell? _ _ cw8_3_0
    have cw8_4_0 : w8.cell? ⟨w5.heap.size, 0, none⟩ = some (.int .u64 dh) := by subst hhw8; go_simp
    have cw8_4_1 : w8.cell? ⟨w5.heap.size, 1, none⟩ = some (.int .u64 dl) := by subst hhw8; go_simp
    have cw8_4_2 : w8.cell? ⟨w5.heap.size, 2, none⟩ = some (.int .u64 dd) := by subst hhw8; go_simp
    have zw8_4 : w5.heap.size < w8.heap.size := World.block_lt_of_cell? _ _ cw8_4_0
    have cw8_5_0 : w8.cell? ⟨w6.heap.size, 0, none⟩ = some (.int .u64 eh) := by subst hhw8; go_simp
    have cw8_5_1 : w8.cell? ⟨w6.heap.size, 1, none⟩ = some (.int .u64 el) := by subst hhw8; go_simp
    have cw8_5_2 : w8.cell? ⟨w6.heap.size, 2, none⟩ = some (.int .u64 ed) := by subst hhw8; go_simp
    have zw8_5 : w6.heap.size < w8.heap.size := World.block_lt_of_cell? _ _ cw8_5_0
    have cw8_6_0 : w8.cell? ⟨w6.heap.size + 1, 0, none⟩ = some (.int .u64 eh) := by subst hhw8; go_simp
    have fw8_6_0 : w8.frozen? ⟨w6.heap.size + 1, 0, none⟩ = false := by subst hhw8; go_simp
    have cw8_6_1 : w8.cell? ⟨w6.heap.size + 1, 1, none⟩ = some (.int .u64 el) := by subst hhw8; go_simp
    have fw8_6_1 : w8.frozen? ⟨w6.heap.size + 1, 1, none⟩ = false := by subst hhw8; go_simp
    have cw8_6_2 : w8.cell? ⟨w6.heap.size + 1, 2, none⟩ = some (.int .u64 ed) := by subst hhw8; go_simp
    have fw8_6_2 : w8.frozen? ⟨w6.heap.size + 1, 2, none⟩ = false := by subst hhw8; go_simp
    have zw8_6 : w6.heap.size + 1 < w8.heap.size := World.block_lt_of_cell? _ _ cw8_6_0
    have gw8 : Gr W w8 := by subst hhw8; have gg := gw7; have gs := gg.size; go_grown
    clear hhw8 gw7 zw7_0 cw7_0_0 cw7_0_1 zw7_1 cw7_1_0 cw7_1_1 zw7_2 cw7_2_0 cw7_2_1 zw7_3 cw7_3_0 cw7_3_1 zw7_4 cw7_4_0 cw7_4_1 cw7_4_2 zw7_5 cw7_5_0 cw7_5_1 cw7_5_2 zw7_6 cw7_6_0 fw7_6_0 cw7_6_1 fw7_6_1 cw7_6_2 fw7_6_2
    go_wp2_with fail
    refine wp_region_spread (by kernel_rfl) (by kernel_rfl) ?_
    try simp only [List.append]
    repeat (first | go_big_quiet_skip | (go_big_quiet_want; go_big_quiet_op; (first | go_big_quiet_on | (apply Exists.intro; refine ⟨fun _ => ?_, ?_⟩; (· (first | (go_at_call 22; first | ((with_reducible refine ((H8.out _)).mono ?_); rintro e w' ⟨rfl, hg⟩; exact ⟨rfl, spread_gr hg⟩) | ((with_reducible refine ((H9.out _)).mono ?_); rintro e w' ⟨rfl, hg⟩; exact ⟨rfl, spread_gr hg⟩) | ((with_reducible refine ((HB1.out _)).mono ?_); rintro e w' ⟨rfl, hg⟩; exact ⟨rfl, spread_gr hg⟩) | ((with_reducible refine ((HB2.out _)).mono ?_); rintro e w' ⟨rfl, hg⟩; exact ⟨rfl, spread_gr hg⟩)) | (go_at_call 30; first | ((with_reducible refine ((HB3.out _)).mono ?_); rintro e w' ⟨rfl, hg⟩; exact ⟨rfl, spread_gr hg⟩)) | (go_at_call 32; first | ((with_reducible refine ((s4_awake _)).mono ?_); rintro e w' ⟨rfl, hg⟩; exact ⟨rfl, spread_gr hg⟩)))); go_big_quiet_on))))
    refine wpQuiet_nil ?_
    intro wr hr
    obtain ⟨mr, rfl⟩ := hr
    go_wp2_with fail
    go_ret
    exact ⟨rfl, Gr.trans (by have gg := gw8; have gs := gg.size; go_grown) (gr_spread _ _)⟩
set_option maxHeartbeats 8000000 in
set_option maxRecDepth 100000 in
theorem parts_ge (ax ay x y i j px py ix iy jx jy mx my bx by' dh dl dd eh el ed k : Int) (o o2 o3 : Bool) (W : World) (c0 : ¬ x < -1000) (c1 : ¬ 1000 < x) (c2 : ¬ y < -1000) (c3 : ¬ 1000 < y) (c4 : ¬ i < 0) (c5 : ¬ j < 0) (c6 : ¬ 1000 < i) (c7 : ¬ 1000 < j)
    (e1 : wrap64 (i * x) = ix) (e2 : wrap64 (i * y) = iy) (e3 : wrap64 (ax + ix) = mx) (e4 : wrap64 (ay + iy) = my) (e5 : wrap64 (j * x) = jx) (e6 : wrap64 (j * y) = jy) (e7 : wrap64 (mx + jx) = bx) (e8 : wrap64 (my + jy) = by')
    (f1 : IntKind.i64.wrap (i * x) = ix) (f2 : IntKind.i64.wrap (i * y) = iy) (f3 : IntKind.i64.wrap (ax + ix) = mx) (f4 : IntKind.i64.wrap (ay + iy) = my) (f5 : IntKind.i64.wrap (j * x) = jx) (f6 : IntKind.i64.wrap (j * y) = jy) (f7 : IntKind.i64.wrap (mx + jx) = bx) (f8 : IntKind.i64.wrap (my + jy) = by')
    (hk : decide (k < 0) = false) (hc : (o2 = true ∧ o = true) ∨ (o2 = false ∧ o = o3))
    (A1 : ∀ w, Calls Try.prog 14 #[.agg #[.int .i64 px, .int .i64 py]] w fun e w' => e = .returned (.bool true) ∧ Gr w w')
    (A2 : ∀ w, Calls Try.prog 14 #[.agg #[.int .i64 ax, .int .i64 ay]] w fun e w' => e = .returned (.bool true) ∧ Gr w w')
    (A3 : ∀ w, Calls Try.prog 14 #[.agg #[.int .i64 mx, .int .i64 my]] w fun e w' => e = .returned (.bool true) ∧ Gr w w')
    (A4 : ∀ w, Calls Try.prog 14 #[.agg #[.int .i64 bx, .int .i64 by']] w fun e w' => e = .returned (.bool true) ∧ Gr w w')
    (A5 : ∀ w, Calls Try.prog 30 #[.agg #[.int .i64 ax, .int .i64 ay], .agg #[.int .i64 mx, .int .i64 my], .agg #[.int .i64 px, .int .i64 py]] w fun e w' => e = .returned (.agg #[.int .u64 dh, .int .u64 dl, .int .u64 dd]) ∧ Gr w w')
    (A6 : ∀ w, Calls Try.prog 30 #[.agg #[.int .i64 mx, .int .i64 my], .agg #[.int .i64 bx, .int .i64 by'], .agg #[.int .i64 px, .int .i64 py]] w fun e w' => e = .returned (.agg #[.int .u64 eh, .int .u64 el, .int .u64 ed]) ∧ Gr w w')
    (A7 : ∀ w, Calls Try.prog 20 #[.agg #[.int .u64 eh, .int .u64 el, .int .u64 ed], .agg #[.int .u64 dh, .int .u64 dl, .int .u64 dd]] w fun e w' => e = .returned (.int .i64 k) ∧ Gr w w')
    (A8 : ∀ w, Calls Try.prog 22 #[.agg #[.int .i64 ax, .int .i64 ay], .agg #[.int .i64 bx, .int .i64 by'], .agg #[.int .i64 mx, .int .i64 my]] w fun e w' => e = .returned (.bool true) ∧ Gr w w')
    (A9 : ∀ w, Calls Try.prog 22 #[.agg #[.int .i64 ax, .int .i64 ay], .agg #[.int .i64 bx, .int .i64 by'], .agg #[.int .i64 px, .int .i64 py]] w fun e w' => e = .returned (.bool o) ∧ Gr w w')
    (B1 : ∀ w, Calls Try.prog 22 #[.agg #[.int .i64 ax, .int .i64 ay], .agg #[.int .i64 mx, .int .i64 my], .agg #[.int .i64 px, .int .i64 py]] w fun e w' => e = .returned (.bool o2) ∧ Gr w w')
    (B2 : ∀ w, Calls Try.prog 22 #[.agg #[.int .i64 mx, .int .i64 my], .agg #[.int .i64 bx, .int .i64 by'], .agg #[.int .i64 px, .int .i64 py]] w fun e w' => e = .returned (.bool o3) ∧ Gr w w')
    (B3 : ∀ w, Calls Try.prog 30 #[.agg #[.int .i64 ax, .int .i64 ay], .agg #[.int .i64 bx, .int .i64 by'], .agg #[.int .i64 px, .int .i64 py]] w fun e w' => e = .returned (.agg #[.int .u64 dh, .int .u64 dl, .int .u64 dd]) ∧ Gr w w') :
    Calls Try.prog 10 #[.agg #[.int .i64 ax, .int .i64 ay], .int .i64 x, .int .i64 y, .int .i64 i, .int .i64 j, .agg #[.int .i64 px, .int .i64 py]] W fun e w' => e = .returned (.bool true) ∧ Gr W w' := by
  have H1 := Lib.hid A1
  have H2 := Lib.hid A2
  have H3 := Lib.hid A3
  have H4 := Lib.hid A4
  have H5 := Lib.hid A5
  have H6 := Lib.hid A6
  have H7 := Lib.hid A7
  have H8 := Lib.hid A8
  have H9 := Lib.hid A9
  clear A1 A2 A3 A4 A5 A6 A7 A8 A9
  have HB1 := Lib.hid B1
  have HB2 := Lib.hid B2
  have HB3 := Lib.hid B3
  clear B1 B2 B3
  cases o3 <;> rcases hc with ⟨rfl, rfl⟩ | ⟨rfl, rfl⟩
  all_goals
    go_enter Try.func10, Try.ntmps10
    go_wp2_with fail
    go_at_call 14
    refine ((H1.out _)).mono ?_
    rintro e w1 ⟨rfl, hw1⟩
    have cw1_0_0 : w1.cell? ⟨W.heap.size, 0, none⟩ = some (.int .i64 ax) := cell_gr hw1 (by go_simp)
    have cw1_0_1 : w1.cell? ⟨W.heap.size, 1, none⟩ = some (.int .i64 ay) := cell_gr hw1 (by go_simp)
    have zw1_0 : W.heap.size < w1.heap.size := World.block_lt_of_cell? _ _ cw1_0_0
    have cw1_1_0 : w1.cell? ⟨W.heap.size + 1, 0, none⟩ = some (.int .i64 px) := cell_gr hw1 (by go_simp)
    have cw1_1_1 : w1.cell? ⟨W.heap.size + 1, 1, none⟩ = some (.int .i64 py) := cell_gr hw1 (by go_simp)
    have zw1_1 : W.heap.size + 1 < w1.heap.size := World.block_lt_of_cell? _ _ cw1_1_0
    have gw1 : Gr W w1 := Gr.trans (by go_grown) hw1
    clear hw1
    go_wp2_with fail
    go_at_call 14
    refine ((H2.out _)).mono ?_
    rintro e w2 ⟨rfl, hw2⟩
    have cw2_0_0 : w2.cell? ⟨W.heap.size, 0, none⟩ = some (.int .i64 ax) := cell_gr hw2 (by go_simp)
    have cw2_0_1 : w2.cell? ⟨W.heap.size, 1, none⟩ = some (.int .i64 ay) := cell_gr hw2 (by go_simp)
    have zw2_0 : W.heap.size < w2.heap.size := World.block_lt_of_cell? _ _ cw2_0_0
    have cw2_1_0 : w2.cell? ⟨W.heap.size + 1, 0, none⟩ = some (.int .i64 px) := cell_gr hw2 (by go_simp)
    have cw2_1_1 : w2.cell? ⟨W.heap.size + 1, 1, none⟩ = some (.int .i64 py) := cell_gr hw2 (by go_simp)
    have zw2_1 : W.heap.size + 1 < w2.heap.size := World.block_lt_of_cell? _ _ cw2_1_0
    have gw2 : Gr W w2 := Gr.trans (by have gg := gw1; have gs := gg.size; go_grown) hw2
    clear hw2 gw1 zw1_0 cw1_0_0 cw1_0_1 zw1_1 cw1_1_0 cw1_1_1
    go_wp2_with fail
    go_at_call 14
    refine ((H3.out _)).mono ?_
    rintro e w3 ⟨rfl, hw3⟩
    have cw3_0_0 : w3.cell? ⟨W.heap.size, 0, none⟩ = some (.int .i64 ax) := cell_gr hw3 (by go_simp)
    have cw3_0_1 : w3.cell? ⟨W.heap.size, 1, none⟩ = some (.int .i64 ay) := cell_gr hw3 (by go_simp)
    have zw3_0 : W.heap.size < w3.heap.size := World.block_lt_of_cell? _ _ cw3_0_0
    have cw3_1_0 : w3.cell? ⟨W.heap.size + 1, 0, none⟩ = some (.int .i64 px) := cell_gr hw3 (by go_simp)
    have cw3_1_1 : w3.cell? ⟨W.heap.size + 1, 1, none⟩ = some (.int .i64 py) := cell_gr hw3 (by go_simp)
    have zw3_1 : W.heap.size + 1 < w3.heap.size := World.block_lt_of_cell? _ _ cw3_1_0
    have cw3_2_0 : w3.cell? ⟨w2.heap.size, 0, none⟩ = some (.int .i64 mx) := cell_gr hw3 (by go_simp)
    have cw3_2_1 : w3.cell? ⟨w2.heap.size, 1, none⟩ = some (.int .i64 my) := cell_gr hw3 (by go_simp)
    have zw3_2 : w2.heap.size < w3.heap.size := World.block_lt_of_cell? _ _ cw3_2_0
    have cw3_3_0 : w3.cell? ⟨w2.heap.size + 1, 0, none⟩ = some (.int .i64 bx) := cell_gr hw3 (by go_simp)
    have cw3_3_1 : w3.cell? ⟨w2.heap.size + 1, 1, none⟩ = some (.int .i64 by') := cell_gr hw3 (by go_simp)
    have zw3_3 : w2.heap.size + 1 < w3.heap.size := World.block_lt_of_cell? _ _ cw3_3_0
    have gw3 : Gr W w3 := Gr.trans (by have gg := gw2; have gs := gg.size; go_grown) hw3
    clear hw3 gw2 zw2_0 cw2_0_0 cw2_0_1 zw2_1 cw2_1_0 cw2_1_1
    go_wp2_with fail
    go_at_call 14
    refine ((H4.out _)).mono ?_
    rintro e w4 ⟨rfl, hw4⟩
    have cw4_0_0 : w4.cell? ⟨W.heap.size, 0, none⟩ = some (.int .i64 ax) := cell_gr hw4 (by go_simp)
    have cw4_0_1 : w4.cell? ⟨W.heap.size, 1, none⟩ = some (.int .i64 ay) := cell_gr hw4 (by go_simp)
    have zw4_0 : W.heap.size < w4.heap.size := World.block_lt_of_cell? _ _ cw4_0_0
    have cw4_1_0 : w4.cell? ⟨W.heap.size + 1, 0, none⟩ = some (.int .i64 px) := cell_gr hw4 (by go_simp)
    have cw4_1_1 : w4.cell? ⟨W.heap.size + 1, 1, none⟩ = some (.int .i64 py) := cell_gr hw4 (by go_simp)
    have zw4_1 : W.heap.size + 1 < w4.heap.size := World.block_lt_of_cell? _ _ cw4_1_0
    have cw4_2_0 : w4.cell? ⟨w2.heap.size, 0, none⟩ = some (.int .i64 mx) := cell_gr hw4 (by go_simp)
    have cw4_2_1 : w4.cell? ⟨w2.heap.size, 1, none⟩ = some (.int .i64 my) := cell_gr hw4 (by go_simp)
    have zw4_2 : w2.heap.size < w4.heap.size := World.block_lt_of_cell? _ _ cw4_2_0
    have cw4_3_0 : w4.cell? ⟨w2.heap.size + 1, 0, none⟩ = some (.int .i64 bx) := cell_gr hw4 (by go_simp)
    have cw4_3_1 : w4.cell? ⟨w2.heap.size + 1, 1, none⟩ = some (.int .i64 by') := cell_gr hw4 (by go_simp)
    have zw4_3 : w2.heap.size + 1 < w4.heap.size := World.block_lt_of_cell? _ _ cw4_3_0
    have gw4 : Gr W w4 := Gr.trans (by have gg := gw3; have gs := gg.size; go_grown) hw4
    clear hw4 gw3 zw3_0 cw3_0_0 cw3_0_1 zw3_1 cw3_1_0 cw3_1_1 zw3_2 cw3_2_0 cw3_2_1 zw3_3 cw3_3_0 cw3_3_1
    go_wp2_with fail
    go_at_call 30
    refine ((H5.out _)).mono ?_
    rintro e w5 ⟨rfl, hw5⟩
    have cw5_0_0 : w5.cell? ⟨W.heap.size, 0, none⟩ = some (.int .i64 ax) := cell_gr hw5 (by go_simp)
    have cw5_0_1 : w5.cell? ⟨W.heap.size, 1, none⟩ = some (.int .i64 ay) := cell_gr hw5 (by go_simp)
    have zw5_0 : W.heap.size < w5.heap.size := World.block_lt_of_cell? _ _ cw5_0_0
    have cw5_1_0 : w5.cell? ⟨W.heap.size + 1, 0, none⟩ = some (.int .i64 px) := cell_gr hw5 (by go_simp)
    have cw5_1_1 : w5.cell? ⟨W.heap.size + 1, 1, none⟩ = some (.int .i64 py) := cell_gr hw5 (by go_simp)
    have zw5_1 : W.heap.size + 1 < w5.heap.size := World.block_lt_of_cell? _ _ cw5_1_0
    have cw5_2_0 : w5.cell? ⟨w2.heap.size, 0, none⟩ = some (.int .i64 mx) := cell_gr hw5 (by go_simp)
    have cw5_2_1 : w5.cell? ⟨w2.heap.size, 1, none⟩ = some (.int .i64 my) := cell_gr hw5 (by go_simp)
    have zw5_2 : w2.heap.size < w5.heap.size := World.block_lt_of_cell? _ _ cw5_2_0
    have cw5_3_0 : w5.cell? ⟨w2.heap.size + 1, 0, none⟩ = some (.int .i64 bx) := cell_gr hw5 (by go_simp)
    have cw5_3_1 : w5.cell? ⟨w2.heap.size + 1, 1, none⟩ = some (.int .i64 by') := cell_gr hw5 (by go_simp)
    have zw5_3 : w2.heap.size + 1 < w5.heap.size := World.block_lt_of_cell? _ _ cw5_3_0
    have gw5 : Gr W w5 := Gr.trans (by have gg := gw4; have gs := gg.size; go_grown) hw5
    clear hw5 gw4 zw4_0 cw4_0_0 cw4_0_1 zw4_1 cw4_1_0 cw4_1_1 zw4_2 cw4_2_0 cw4_2_1 zw4_3 cw4_3_0 cw4_3_1
    go_wp2_with fail
    go_at_call 30
    refine ((H6.out _)).mono ?_
    rintro e w6 ⟨rfl, hw6⟩
    have cw6_0_0 : w6.cell? ⟨W.heap.size, 0, none⟩ = some (.int .i64 ax) := cell_gr hw6 (by go_simp)
    have cw6_0_1 : w6.cell? ⟨W.heap.size, 1, none⟩ = some (.int .i64 ay) := cell_gr hw6 (by go_simp)
    have zw6_0 : W.heap.size < w6.heap.size := World.block_lt_of_cell? _ _ cw6_0_0
    have cw6_1_0 : w6.cell? ⟨W.heap.size + 1, 0, none⟩ = some (.int .i64 px) := cell_gr hw6 (by go_simp)
    have cw6_1_1 : w6.cell? ⟨W.heap.size + 1, 1, none⟩ = some (.int .i64 py) := cell_gr hw6 (by go_simp)
    have zw6_1 : W.heap.size + 1 < w6.heap.size := World.block_lt_of_cell? _ _ cw6_1_0
    have cw6_2_0 : w6.cell? ⟨w2.heap.size, 0, none⟩ = some (.int .i64 mx) := cell_gr hw6 (by go_simp)
    have cw6_2_1 : w6.cell? ⟨w2.heap.size, 1, none⟩ = some (.int .i64 my) := cell_gr hw6 (by go_simp)
    have zw6_2 : w2.heap.size < w6.heap.size := World.block_lt_of_cell? _ _ cw6_2_0
    have cw6_3_0 : w6.cell? ⟨w2.heap.size + 1, 0, none⟩ = some (.int .i64 bx) := cell_gr hw6 (by go_simp)
    have cw6_3_1 : w6.cell? ⟨w2.heap.size + 1, 1, none⟩ = some (.int .i64 by') := cell_gr hw6 (by go_simp)
    have zw6_3 : w2.heap.size + 1 < w6.heap.size := World.block_lt_of_cell? _ _ cw6_3_0
    have cw6_4_0 : w6.cell? ⟨w5.heap.size, 0, none⟩ = some (.int .u64 dh) := cell_gr hw6 (by go_simp)
    have cw6_4_1 : w6.cell? ⟨w5.heap.size, 1, none⟩ = some (.int .u64 dl) := cell_gr hw6 (by go_simp)
    have cw6_4_2 : w6.cell? ⟨w5.heap.size, 2, none⟩ = some (.int .u64 dd) := cell_gr hw6 (by go_simp)
    have zw6_4 : w5.heap.size < w6.heap.size := World.block_lt_of_cell? _ _ cw6_4_0
    have gw6 : Gr W w6 := Gr.trans (by have gg := gw5; have gs := gg.size; go_grown) hw6
    clear hw6 gw5 zw5_0 cw5_0_0 cw5_0_1 zw5_1 cw5_1_0 cw5_1_1 zw5_2 cw5_2_0 cw5_2_1 zw5_3 cw5_3_0 cw5_3_1
    have gle : W.heap.size ≤ w6.heap.size + 1 := by have := gw6.size; omega
    have nb0 : ¬ W.heap.size = w6.heap.size + 1 := by omega
    have nc0 : ¬ w6.heap.size + 1 = W.heap.size := by omega
    have nb1 : ¬ W.heap.size + 1 = w6.heap.size + 1 := by omega
    have nc1 : ¬ w6.heap.size + 1 = W.heap.size + 1 := by omega
    have nb2 : ¬ w2.heap.size = w6.heap.size + 1 := by omega
    have nc2 : ¬ w6.heap.size + 1 = w2.heap.size := by omega
    have nb3 : ¬ w2.heap.size + 1 = w6.heap.size + 1 := by omega
    have nc3 : ¬ w6.heap.size + 1 = w2.heap.size + 1 := by omega
    have nb4 : ¬ w5.heap.size = w6.heap.size + 1 := by omega
    have nc4 : ¬ w6.heap.size + 1 = w5.heap.size := by omega
    go_wp2_with fail
    go_at_call 20
    refine ((H7.out _)).mono ?_
    rintro e w7 ⟨rfl, hw7⟩
    have cw7_0_0 : w7.cell? ⟨W.heap.size, 0, none⟩ = some (.int .i64 ax) := cell_gr hw7 (by go_simp)
    have cw7_0_1 : w7.cell? ⟨W.heap.size, 1, none⟩ = some (.int .i64 ay) := cell_gr hw7 (by go_simp)
    have zw7_0 : W.heap.size < w7.heap.size := World.block_lt_of_cell? _ _ cw7_0_0
    have cw7_1_0 : w7.cell? ⟨W.heap.size + 1, 0, none⟩ = some (.int .i64 px) := cell_gr hw7 (by go_simp)
    have cw7_1_1 : w7.cell? ⟨W.heap.size + 1, 1, none⟩ = some (.int .i64 py) := cell_gr hw7 (by go_simp)
    have zw7_1 : W.heap.size + 1 < w7.heap.size := World.block_lt_of_cell? _ _ cw7_1_0
    have cw7_2_0 : w7.cell? ⟨w2.heap.size, 0, none⟩ = some (.int .i64 mx) := cell_gr hw7 (by go_simp)
    have cw7_2_1 : w7.cell? ⟨w2.heap.size, 1, none⟩ = some (.int .i64 my) := cell_gr hw7 (by go_simp)
    have zw7_2 : w2.heap.size < w7.heap.size := World.block_lt_of_cell? _ _ cw7_2_0
    have cw7_3_0 : w7.cell? ⟨w2.heap.size + 1, 0, none⟩ = some (.int .i64 bx) := cell_gr hw7 (by go_simp)
    have cw7_3_1 : w7.cell? ⟨w2.heap.size + 1, 1, none⟩ = some (.int .i64 by') := cell_gr hw7 (by go_simp)
    have zw7_3 : w2.heap.size + 1 < w7.heap.size := World.block_lt_of_cell? _ _ cw7_3_0
    have cw7_4_0 : w7.cell? ⟨w5.heap.size, 0, none⟩ = some (.int .u64 dh) := cell_gr hw7 (by go_simp)
    have cw7_4_1 : w7.cell? ⟨w5.heap.size, 1, none⟩ = some (.int .u64 dl) := cell_gr hw7 (by go_simp)
    have cw7_4_2 : w7.cell? ⟨w5.heap.size, 2, none⟩ = some (.int .u64 dd) := cell_gr hw7 (by go_simp)
    have zw7_4 : w5.heap.size < w7.heap.size := World.block_lt_of_cell? _ _ cw7_4_0
    have cw7_5_0 : w7.cell? ⟨w6.heap.size, 0, none⟩ = some (.int .u64 eh) := cell_gr hw7 (by go_simp)
    have cw7_5_1 : w7.cell? ⟨w6.heap.size, 1, none⟩ = some (.int .u64 el) := cell_gr hw7 (by go_simp)
    have cw7_5_2 : w7.cell? ⟨w6.heap.size, 2, none⟩ = some (.int .u64 ed) := cell_gr hw7 (by go_simp)
    have zw7_5 : w6.heap.size < w7.heap.size := World.block_lt_of_cell? _ _ cw7_5_0
    have cw7_6_0 : w7.cell? ⟨w6.heap.size + 1, 0, none⟩ = some (.int .u64 dh) := cell_gr hw7 (by go_simp)
    have fw7_6_0 : w7.frozen? ⟨w6.heap.size + 1, 0, none⟩ = false := frozen_gr (v := .int .u64 dh) hw7 (by go_simp) (by go_simp)
    have cw7_6_1 : w7.cell? ⟨w6.heap.size + 1, 1, none⟩ = some (.int .u64 dl) := cell_gr hw7 (by go_simp)
    have fw7_6_1 : w7.frozen? ⟨w6.heap.size + 1, 1, none⟩ = false := frozen_gr (v := .int .u64 dl) hw7 (by go_simp) (by go_simp)
    have cw7_6_2 : w7.cell? ⟨w6.heap.size + 1, 2, none⟩ = some (.int .u64 dd) := cell_gr hw7 (by go_simp)
    have fw7_6_2 : w7.frozen? ⟨w6.heap.size + 1, 2, none⟩ = false := frozen_gr (v := .int .u64 dd) hw7 (by go_simp) (by go_simp)
    have zw7_6 : w6.heap.size + 1 < w7.heap.size := World.block_lt_of_cell? _ _ cw7_6_0
    have gw7 : Gr W w7 := Gr.trans (by have gg := gw6; have gs := gg.size; go_grown) hw7
    clear hw7 gw6 zw6_0 cw6_0_0 cw6_0_1 zw6_1 cw6_1_0 cw6_1_1 zw6_2 cw6_2_0 cw6_2_1 zw6_3 cw6_3_0 cw6_3_1 zw6_4 cw6_4_0 cw6_4_1 cw6_4_2
    go_wp2_with fail
    refine wp_region_spread (by kernel_rfl) (by kernel_rfl) ?_
    try simp only [List.append]
    repeat (first | go_big_quiet_skip | (go_big_quiet_want; go_big_quiet_op; (first | go_big_quiet_on | (apply Exists.intro; refine ⟨fun _ => ?_, ?_⟩; (· (first | (go_at_call 22; first | ((with_reducible refine ((H8.out _)).mono ?_); rintro e w' ⟨rfl, hg⟩; exact ⟨rfl, spread_gr hg⟩) | ((with_reducible refine ((H9.out _)).mono ?_); rintro e w' ⟨rfl, hg⟩; exact ⟨rfl, spread_gr hg⟩) | ((with_reducible refine ((HB1.out _)).mono ?_); rintro e w' ⟨rfl, hg⟩; exact ⟨rfl, spread_gr hg⟩) | ((with_reducible refine ((HB2.out _)).mono ?_); rintro e w' ⟨rfl, hg⟩; exact ⟨rfl, spread_gr hg⟩)) | (go_at_call 30; first | ((with_reducible refine ((HB3.out _)).mono ?_); rintro e w' ⟨rfl, hg⟩; exact ⟨rfl, spread_gr hg⟩)) | (go_at_call 32; first | ((with_reducible refine ((s4_awake _)).mono ?_); rintro e w' ⟨rfl, hg⟩; exact ⟨rfl, spread_gr hg⟩)))); go_big_quiet_on))))
    refine wpQuiet_nil ?_
    intro wr hr
    obtain ⟨mr, rfl⟩ := hr
    go_wp2_with fail
    go_ret
    exact ⟨rfl, Gr.trans (by have gg := gw7; have gs := gg.size; go_grown) (gr_spread _ _)⟩
theorem cmp_lt0' {a b : Nat} : decide (cmpN a b < 0) = decide (a < b) := by
  unfold cmpN
  by_cases h : a < b
  · rw [if_pos h]; simp [h]
  · rw [if_neg h]; split <;> simp [h]
theorem walk_SegmParts (ax ay x y i j px py : Int) (h1 : (-9223372036854775808 ≤ ax ∧ ax ≤ 9223372036854775807) ∧ (-9223372036854775808 ≤ ay ∧ ay ≤ 9223372036854775807)) (h2 : -9223372036854775808 ≤ x ∧ x ≤ 9223372036854775807) (h3 : -9223372036854775808 ≤ y ∧ y ≤ 9223372036854775807) (h4 : -9223372036854775808 ≤ i ∧ i ≤ 9223372036854775807) (h5 : -9223372036854775808 ≤ j ∧ j ≤ 9223372036854775807) (h6 : (-9223372036854775808 ≤ px ∧ px ≤ 9223372036854775807) ∧ (-9223372036854775808 ≤ py ∧ py ≤ 9223372036854775807)) (W : World) :
    Calls Try.prog 10 #[.agg #[.int .i64 ax, .int .i64 ay], .int .i64 x, .int .i64 y, .int .i64 i, .int .i64 j, .agg #[.int .i64 px, .int .i64 py]] W fun e w' => e = .returned (.bool true) ∧ Gr W w' := by
  clear h1 h2 h3 h4 h5 h6
  by_cases hr : (¬ x < -1000 ∧ ¬ 1000 < x) ∧ (¬ y < -1000 ∧ ¬ 1000 < y) ∧ (¬ i < 0 ∧ ¬ j < 0) ∧ ¬ 1000 < i ∧ ¬ 1000 < j
  · obtain ⟨⟨c0, c1⟩, ⟨c2, c3⟩, ⟨c4, c5⟩, c6, c7⟩ := hr
    have Q1 := c_rPoint px py
    have Q2 := c_rPoint ax ay
    by_cases na : nearB ax ay = true
    · have b0 := nearB_iff.1 na
      have m1 := mul_near (x := i) (y := x) (by omega) (by omega)
      have m2 := mul_near (x := i) (y := y) (by omega) (by omega)
      have m3 := mul_near (x := j) (y := x) (by omega) (by omega)
      have m4 := mul_near (x := j) (y := y) (by omega) (by omega)
      have Q3 := c_rPoint (ax + i * x) (ay + i * y)
      have Q4 := c_rPoint (ax + i * x + j * x) (ay + i * y + j * y)
      have e1 : wrap64 (i * x) = i * x := IntWalk.wrap64_in _ (by omega)
      have e2 : wrap64 (i * y) = i * y := IntWalk.wrap64_in _ (by omega)
      have e3 : wrap64 (ax + i * x) = ax + i * x := IntWalk.wrap64_in _ (by omega)
      have e4 : wrap64 (ay + i * y) = ay + i * y := IntWalk.wrap64_in _ (by omega)
      have e5 : wrap64 (j * x) = j * x := IntWalk.wrap64_in _ (by omega)
      have e6 : wrap64 (j * y) = j * y := IntWalk.wrap64_in _ (by omega)
      have e7 : wrap64 (ax + i * x + j * x) = ax + i * x + j * x := IntWalk.wrap64_in _ (by omega)
      have e8 : wrap64 (ay + i * y + j * y) = ay + i * y + j * y := IntWalk.wrap64_in _ (by omega)
      have f1 : IntKind.i64.wrap (i * x) = i * x := IntWalk.i64_in _ (by omega)
      have f2 : IntKind.i64.wrap (i * y) = i * y := IntWalk.i64_in _ (by omega)
      have f3 : IntKind.i64.wrap (ax + i * x) = ax + i * x := IntWalk.i64_in _ (by omega)
      have f4 : IntKind.i64.wrap (ay + i * y) = ay + i * y := IntWalk.i64_in _ (by omega)
      have f5 : IntKind.i64.wrap (j * x) = j * x := IntWalk.i64_in _ (by omega)
      have f6 : IntKind.i64.wrap (j * y) = j * y := IntWalk.i64_in _ (by omega)
      have f7 : IntKind.i64.wrap (ax + i * x + j * x) = ax + i * x + j * x := IntWalk.i64_in _ (by omega)
      have f8 : IntKind.i64.wrap (ay + i * y + j * y) = ay + i * y + j * y := IntWalk.i64_in _ (by omega)
      by_cases hq : nearB px py = true ∧ nearB (ax + i * x) (ay + i * y) = true ∧ nearB (ax + i * x + j * x) (ay + i * y + j * y) = true
      · obtain ⟨np, nm, nb⟩ := hq
        rw [np] at Q1
        rw [na] at Q2
        rw [nm] at Q3
        rw [nb] at Q4
        have g1 : (nearB ax ay && nearB (ax + i * x) (ay + i * y) && nearB px py) = true := by rw [na, nm, np]; rfl
        have g2 : (nearB (ax + i * x) (ay + i * y) && nearB (ax + i * x + j * x) (ay + i * y + j * y) && nearB px py) = true := by rw [nm, nb, np]; rfl
        have g3 : (nearB ax ay && nearB (ax + i * x + j * x) (ay + i * y + j * y) && nearB px py) = true := by rw [na, nb, np]; rfl
        have D1 := c_gDist ax ay (ax + i * x) (ay + i * y) px py g1
        have D2 := c_gDist (ax + i * x) (ay + i * y) (ax + i * x + j * x) (ay + i * y + j * y) px py g2
        have D3 := c_gDist ax ay (ax + i * x + j * x) (ay + i * y + j * y) px py g3
        have O1 := c_gOn ax ay (ax + i * x + j * x) (ay + i * y + j * y) (ax + i * x) (ay + i * y)
        have O2 := c_gOn ax ay (ax + i * x + j * x) (ay + i * y + j * y) px py
        have O3 := c_gOn ax ay (ax + i * x) (ay + i * y) px py
        have O4 := c_gOn (ax + i * x) (ay + i * y) (ax + i * x + j * x) (ay + i * y + j * y) px py
        have om : onG ax ay (ax + i * x + j * x) (ay + i * y + j * y) (ax + i * x) (ay + i * y) = true := by
          unfold onG
          rw [na, nb, nm]
          simp only [Bool.and_self, Bool.true_and]
          rw [onF_iff, btw_iff]
          refine ⟨?_, by unfold cr; grind⟩
          have s1 : (0 ≤ i * x ∧ 0 ≤ j * x) ∨ (i * x ≤ 0 ∧ j * x ≤ 0) := by
            rcases Int.le_total 0 x with h | h
            · exact Or.inl ⟨Int.mul_nonneg (by omega) h, Int.mul_nonneg (by omega) h⟩
            · exact Or.inr ⟨Int.mul_nonpos_of_nonneg_of_nonpos (by omega) h, Int.mul_nonpos_of_nonneg_of_nonpos (by omega) h⟩
          have s2 : (0 ≤ i * y ∧ 0 ≤ j * y) ∨ (i * y ≤ 0 ∧ j * y ≤ 0) := by
            rcases Int.le_total 0 y with h | h
            · exact Or.inl ⟨Int.mul_nonneg (by omega) h, Int.mul_nonneg (by omega) h⟩
            · exact Or.inr ⟨Int.mul_nonpos_of_nonneg_of_nonpos (by omega) h, Int.mul_nonpos_of_nonneg_of_nonpos (by omega) h⟩
          omega
        rw [om] at O1
        rw [show onG ax ay (ax + i * x + j * x) (ay + i * y + j * y) px py = onF ax ay (ax + i * x + j * x) (ay + i * y + j * y) px py by unfold onG; rw [g3]; rfl] at O2
        rw [show onG ax ay (ax + i * x) (ay + i * y) px py = onF ax ay (ax + i * x) (ay + i * y) px py by unfold onG; rw [g1]; rfl] at O3
        rw [show onG (ax + i * x) (ay + i * y) (ax + i * x + j * x) (ay + i * y + j * y) px py = onF (ax + i * x) (ay + i * y) (ax + i * x + j * x) (ay + i * y + j * y) px py by unfold onG; rw [g2]; rfl] at O4
        have P := pieces ax ay x y px py i j (by omega) (by omega)
        rw [show ax + (i + j) * x = ax + i * x + j * x by rw [Int.add_mul]; omega, show ay + (i + j) * y = ay + i * y + j * y by rw [Int.add_mul]; omega] at P
        have z1 := sd_zero ax ay (ax + i * x) (ay + i * y) px py
        have z2 := sd_zero (ax + i * x) (ay + i * y) (ax + i * x + j * x) (ay + i * y + j * y) px py
        have z3 := sd_zero ax ay (ax + i * x + j * x) (ay + i * y + j * y) px py
        have k1 := sd_cop ax ay (ax + i * x) (ay + i * y) px py
        have k2 := sd_cop (ax + i * x) (ay + i * y) (ax + i * x + j * x) (ay + i * y + j * y) px py
        have b1 := sdN_bound g1
        have b2 := sdN_bound g2
        have CD := c_rCompareDist (sdN (ax + i * x) (ay + i * y) (ax + i * x + j * x) (ay + i * y + j * y) px py / 18446744073709551616) (sdN (ax + i * x) (ay + i * y) (ax + i * x + j * x) (ay + i * y + j * y) px py % 18446744073709551616) (sdD (ax + i * x) (ay + i * y) (ax + i * x + j * x) (ay + i * y + j * y) px py)
          (sdN ax ay (ax + i * x) (ay + i * y) px py / 18446744073709551616) (sdN ax ay (ax + i * x) (ay + i * y) px py % 18446744073709551616) (sdD ax ay (ax + i * x) (ay + i * y) px py)
          (by unfold Wd; omega) (by unfold Wd; omega) (by unfold Wd; omega) (by unfold Wd; omega) (by unfold Wd; omega) (by unfold Wd; omega)
        rw [val_back, val_back] at CD
        unfold cmpD at CD
        rw [if_neg (by omega), if_neg (by omega)] at CD
        unfold dsH dsL at D1 D2 D3
        generalize onF ax ay (ax + i * x + j * x) (ay + i * y + j * y) px py = o at *
        generalize onF ax ay (ax + i * x) (ay + i * y) px py = o2 at *
        generalize onF (ax + i * x) (ay + i * y) (ax + i * x + j * x) (ay + i * y + j * y) px py = o3 at *
        generalize sdN ax ay (ax + i * x + j * x) (ay + i * y + j * y) px py = N at *
        generalize sdD ax ay (ax + i * x + j * x) (ay + i * y + j * y) px py = D at *
        generalize sdN ax ay (ax + i * x) (ay + i * y) px py = N1 at *
        generalize sdD ax ay (ax + i * x) (ay + i * y) px py = DD1 at *
        generalize sdN (ax + i * x) (ay + i * y) (ax + i * x + j * x) (ay + i * y + j * y) px py = N2 at *
        generalize sdD (ax + i * x) (ay + i * y) (ax + i * x + j * x) (ay + i * y + j * y) px py = DD2 at *
        have ho : (o2 = true ∧ o = true) ∨ (o2 = false ∧ o = o3) := by
          have hz : o = true ↔ o2 = true ∨ o3 = true := by
            rw [← z1, ← z2, ← z3]
            rcases P with ⟨p1, p2, p3⟩ | ⟨p1, p2, p3⟩
            · rw [p1, p2]
              constructor
              · intro h; exact Or.inl h
              · rintro (h | h)
                · exact h
                · have : N1 * DD2 ≤ 0 := by rw [h.1] at p3; omega
                  have hN : N1 = 0 := by
                    rw [h.2, Nat.mul_one] at this
                    omega
                  have := k1.1
                  rw [hN, Nat.gcd_zero_left] at this
                  exact ⟨hN, this⟩
            · rw [p1, p2]
              constructor
              · intro h; exact Or.inr h
              · rintro (h | h)
                · have : N2 * DD1 ≤ 0 := by rw [h.1] at p3; omega
                  have hN : N2 = 0 := by
                    rw [h.2, Nat.mul_one] at this
                    omega
                  have := k2.1
                  rw [hN, Nat.gcd_zero_left] at this
                  exact ⟨hN, this⟩
                · exact h
          cases o2
          · right
            refine ⟨rfl, ?_⟩
            rw [Bool.eq_iff_iff, hz]
            simp
          · left
            exact ⟨rfl, hz.2 (Or.inl rfl)⟩
        by_cases hlt : N2 * DD1 < N1 * DD2
        · have hN : N = N2 ∧ D = DD2 := by
            rcases P with ⟨p1, p2, p3⟩ | ⟨p1, p2, p3⟩
            · omega
            · exact ⟨p1, p2⟩
          rw [hN.1, hN.2] at D3
          exact parts_lt ax ay x y i j px py (i * x) (i * y) (j * x) (j * y) (ax + i * x) (ay + i * y) (ax + i * x + j * x) (ay + i * y + j * y) _ _ _ _ _ _ _ _ _ _ W c0 c1 c2 c3 c4 c5 c6 c7 e1 e2 e3 e4 e5 e6 e7 e8 f1 f2 f3 f4 f5 f6 f7 f8 (by rw [cmp_lt0']; exact decide_eq_true hlt) ho Q1 Q2 Q3 Q4 D1 D2 CD O1 O2 O3 O4 D3
        · have hN : N = N1 ∧ D = DD1 := by
            rcases P with ⟨p1, p2, p3⟩ | ⟨p1, p2, p3⟩
            · exact ⟨p1, p2⟩
            · have := low_same k1.1 k2.1 k1.2 k2.2 (by omega)
              exact ⟨p1.trans this.1.symm, p2.trans this.2.symm⟩
          rw [hN.1, hN.2] at D3
          exact parts_ge ax ay x y i j px py (i * x) (i * y) (j * x) (j * y) (ax + i * x) (ay + i * y) (ax + i * x + j * x) (ay + i * y + j * y) _ _ _ _ _ _ _ _ _ _ W c0 c1 c2 c3 c4 c5 c6 c7 e1 e2 e3 e4 e5 e6 e7 e8 f1 f2 f3 f4 f5 f6 f7 f8 (by rw [cmp_lt0']; exact decide_eq_false hlt) ho Q1 Q2 Q3 Q4 D1 D2 CD O1 O2 O3 O4 D3
      · refine parts_no ax ay x y i j px py (i * x) (i * y) (j * x) (j * y) (ax + i * x) (ay + i * y) (ax + i * x + j * x) (ay + i * y + j * y) _ _ _ _ W c0 c1 c2 c3 c4 c5 c6 c7 e1 e2 e3 e4 e5 e6 e7 e8 f1 f2 f3 f4 f5 f6 f7 f8 ?_ Q1 Q2 Q3 Q4
        cases t1 : nearB px py <;> cases t3 : nearB (ax + i * x) (ay + i * y) <;> cases t4 : nearB (ax + i * x + j * x) (ay + i * y + j * y) <;> simp_all
    · have na' : nearB ax ay = false := by simpa using na
      rw [na'] at Q2
      have Q3 := c_rPoint 0 0
      cases t1 : nearB px py
      · rw [t1] at Q1
        exact parts_far ax ay x y i j px py false W c0 c1 c2 c3 c4 c5 c6 c7 (Or.inl rfl) Q1 Q2
      · rw [t1] at Q1
        exact parts_far ax ay x y i j px py true W c0 c1 c2 c3 c4 c5 c6 c7 (Or.inr rfl) Q1 Q2
  · refine parts_out ax ay x y i j px py W ?_
    omega
end Go.Proofs.Ythjhhnolkiejpaa
