/- PlaneSquares -/
import Derived.Test.YtffobfjjbcdbdaaPl
import Derived.Test.YtffobfjjbcdbdaaP
namespace Go.Proofs.Ytffobfjjbcdbdaa
set_option linter.unusedVariables false
open Go.ChangeShapes Go.WideShapes Go.ChangeAt Go.RowKit

theorem c_Num (h l d : Int) (w : World) : Calls Try.prog 41 #[.agg #[.int .u64 h, .int .u64 l, .int .u64 d]] w fun e w' => e = .returned (.agg #[.int .u64 h, .int .u64 l]) ∧ Gr w w' := by
  go_enter Try.func41, Try.ntmps41
  go_wp2
  go_returns
  exact ⟨rfl, by go_grown⟩

set_option maxHeartbeats 1000000 in
set_option maxRecDepth 100000 in
theorem squares_no (ax ay bx by' : Int) (q1 q2 : Bool) (W : World) (hq : q1 = false ∨ (q1 = true ∧ q2 = false))
    (A1 : ∀ w, Calls Try.prog 11 #[.agg #[.int .i64 ax, .int .i64 ay]] w fun e w' => e = .returned (.bool q1) ∧ Gr w w')
    (A2 : ∀ w, Calls Try.prog 11 #[.agg #[.int .i64 bx, .int .i64 by']] w fun e w' => e = .returned (.bool q2) ∧ Gr w w')
    (A3 : ∀ w, Calls Try.prog 18 #[.agg #[.int .i64 ax, .int .i64 ay], .agg #[.int .i64 bx, .int .i64 by']] w fun e w' => e = .returned (.agg #[.int .u64 0, .int .u64 0, .int .u64 0]) ∧ Gr w w') :
    Calls Try.prog 10 #[.agg #[.int .i64 ax, .int .i64 ay], .agg #[.int .i64 bx, .int .i64 by']] W fun e w' => e = .returned (.bool true) ∧ Gr W w' := by
  have H1 := Lib.hid A1
  have H2 := Lib.hid A2
  have H3 := Lib.hid A3
  clear A1 A2 A3
  rcases hq with rfl | ⟨rfl, rfl⟩
  · go_enter Try.func10, Try.ntmps10
    go_wp2_with fail
    go_at_call 11
    refine ((H1.out _)).mono ?_
    rintro e w1 ⟨rfl, hw1⟩
    have cw1_0_0 : w1.cell? ⟨W.heap.size, 0, none⟩ = some (.int .i64 ax) := cell_gr hw1 (by go_simp)
    have cw1_0_1 : w1.cell? ⟨W.heap.size, 1, none⟩ = some (.int .i64 ay) := cell_gr hw1 (by go_simp)
    have zw1_0 : W.heap.size < w1.heap.size := World.block_lt_of_cell? _ _ cw1_0_0
    have cw1_1_0 : w1.cell? ⟨W.heap.size + 1, 0, none⟩ = some (.int .i64 bx) := cell_gr hw1 (by go_simp)
    have cw1_1_1 : w1.cell? ⟨W.heap.size + 1, 1, none⟩ = some (.int .i64 by') := cell_gr hw1 (by go_simp)
    have zw1_1 : W.heap.size + 1 < w1.heap.size := World.block_lt_of_cell? _ _ cw1_1_0
    have gw1 : Gr W w1 := Gr.trans (by go_grown) hw1
    clear hw1
    go_wp2_with fail
    go_at_call 18
    refine ((H3.out _)).mono ?_
    rintro e w2 ⟨rfl, hw2⟩
    have cw2_0_0 : w2.cell? ⟨W.heap.size, 0, none⟩ = some (.int .i64 ax) := cell_gr hw2 (by go_simp)
    have cw2_0_1 : w2.cell? ⟨W.heap.size, 1, none⟩ = some (.int .i64 ay) := cell_gr hw2 (by go_simp)
    have zw2_0 : W.heap.size < w2.heap.size := World.block_lt_of_cell? _ _ cw2_0_0
    have cw2_1_0 : w2.cell? ⟨W.heap.size + 1, 0, none⟩ = some (.int .i64 bx) := cell_gr hw2 (by go_simp)
    have cw2_1_1 : w2.cell? ⟨W.heap.size + 1, 1, none⟩ = some (.int .i64 by') := cell_gr hw2 (by go_simp)
    have zw2_1 : W.heap.size + 1 < w2.heap.size := World.block_lt_of_cell? _ _ cw2_1_0
    have gw2 : Gr W w2 := Gr.trans (by have gg := gw1; have gs := gg.size; go_grown) hw2
    clear hw2 gw1 zw1_0 cw1_0_0 cw1_0_1 zw1_1 cw1_1_0 cw1_1_1
    go_wp2_with fail
    go_at_call 20
    refine ((p_awake _)).mono ?_
    rintro e w3 ⟨rfl, hw3⟩
    have cw3_0_0 : w3.cell? ⟨W.heap.size, 0, none⟩ = some (.int .i64 ax) := cell_gr hw3 (by go_simp)
    have cw3_0_1 : w3.cell? ⟨W.heap.size, 1, none⟩ = some (.int .i64 ay) := cell_gr hw3 (by go_simp)
    have zw3_0 : W.heap.size < w3.heap.size := World.block_lt_of_cell? _ _ cw3_0_0
    have cw3_1_0 : w3.cell? ⟨W.heap.size + 1, 0, none⟩ = some (.int .i64 bx) := cell_gr hw3 (by go_simp)
    have cw3_1_1 : w3.cell? ⟨W.heap.size + 1, 1, none⟩ = some (.int .i64 by') := cell_gr hw3 (by go_simp)
    have zw3_1 : W.heap.size + 1 < w3.heap.size := World.block_lt_of_cell? _ _ cw3_1_0
    have gw3 : Gr W w3 := Gr.trans (by have gg := gw2; have gs := gg.size; go_grown) hw3
    clear hw3 gw2 zw2_0 cw2_0_0 cw2_0_1 zw2_1 cw2_1_0 cw2_1_1
    go_wp2_with fail
    go_ret
    exact ⟨rfl, by go_grown⟩
  · go_enter Try.func10, Try.ntmps10
    go_wp2_with fail
    go_at_call 11
    refine ((H1.out _)).mono ?_
    rintro e w1 ⟨rfl, hw1⟩
    have cw1_0_0 : w1.cell? ⟨W.heap.size, 0, none⟩ = some (.int .i64 ax) := cell_gr hw1 (by go_simp)
    have cw1_0_1 : w1.cell? ⟨W.heap.size, 1, none⟩ = some (.int .i64 ay) := cell_gr hw1 (by go_simp)
    have zw1_0 : W.heap.size < w1.heap.size := World.block_lt_of_cell? _ _ cw1_0_0
    have cw1_1_0 : w1.cell? ⟨W.heap.size + 1, 0, none⟩ = some (.int .i64 bx) := cell_gr hw1 (by go_simp)
    have cw1_1_1 : w1.cell? ⟨W.heap.size + 1, 1, none⟩ = some (.int .i64 by') := cell_gr hw1 (by go_simp)
    have zw1_1 : W.heap.size + 1 < w1.heap.size := World.block_lt_of_cell? _ _ cw1_1_0
    have gw1 : Gr W w1 := Gr.trans (by go_grown) hw1
    clear hw1
    go_wp2_with fail
    go_at_call 11
    refine ((H2.out _)).mono ?_
    rintro e w2 ⟨rfl, hw2⟩
    have cw2_0_0 : w2.cell? ⟨W.heap.size, 0, none⟩ = some (.int .i64 ax) := cell_gr hw2 (by go_simp)
    have cw2_0_1 : w2.cell? ⟨W.heap.size, 1, none⟩ = some (.int .i64 ay) := cell_gr hw2 (by go_simp)
    have zw2_0 : W.heap.size < w2.heap.size := World.block_lt_of_cell? _ _ cw2_0_0
    have cw2_1_0 : w2.cell? ⟨W.heap.size + 1, 0, none⟩ = some (.int .i64 bx) := cell_gr hw2 (by go_simp)
    have cw2_1_1 : w2.cell? ⟨W.heap.size + 1, 1, none⟩ = some (.int .i64 by') := cell_gr hw2 (by go_simp)
    have zw2_1 : W.heap.size + 1 < w2.heap.size := World.block_lt_of_cell? _ _ cw2_1_0
    have gw2 : Gr W w2 := Gr.trans (by have gg := gw1; have gs := gg.size; go_grown) hw2
    clear hw2 gw1 zw1_0 cw1_0_0 cw1_0_1 zw1_1 cw1_1_0 cw1_1_1
    go_wp2_with fail
    go_at_call 18
    refine ((H3.out _)).mono ?_
    rintro e w3 ⟨rfl, hw3⟩
    have cw3_0_0 : w3.cell? ⟨W.heap.size, 0, none⟩ = some (.int .i64 ax) := cell_gr hw3 (by go_simp)
    have cw3_0_1 : w3.cell? ⟨W.heap.size, 1, none⟩ = some (.int .i64 ay) := cell_gr hw3 (by go_simp)
    have zw3_0 : W.heap.size < w3.heap.size := World.block_lt_of_cell? _ _ cw3_0_0
    have cw3_1_0 : w3.cell? ⟨W.heap.size + 1, 0, none⟩ = some (.int .i64 bx) := cell_gr hw3 (by go_simp)
    have cw3_1_1 : w3.cell? ⟨W.heap.size + 1, 1, none⟩ = some (.int .i64 by') := cell_gr hw3 (by go_simp)
    have zw3_1 : W.heap.size + 1 < w3.heap.size := World.block_lt_of_cell? _ _ cw3_1_0
    have gw3 : Gr W w3 := Gr.trans (by have gg := gw2; have gs := gg.size; go_grown) hw3
    clear hw3 gw2 zw2_0 cw2_0_0 cw2_0_1 zw2_1 cw2_1_0 cw2_1_1
    go_wp2_with fail
    go_at_call 20
    refine ((p_awake _)).mono ?_
    rintro e w4 ⟨rfl, hw4⟩
    have cw4_0_0 : w4.cell? ⟨W.heap.size, 0, none⟩ = some (.int .i64 ax) := cell_gr hw4 (by go_simp)
    have cw4_0_1 : w4.cell? ⟨W.heap.size, 1, none⟩ = some (.int .i64 ay) := cell_gr hw4 (by go_simp)
    have zw4_0 : W.heap.size < w4.heap.size := World.block_lt_of_cell? _ _ cw4_0_0
    have cw4_1_0 : w4.cell? ⟨W.heap.size + 1, 0, none⟩ = some (.int .i64 bx) := cell_gr hw4 (by go_simp)
    have cw4_1_1 : w4.cell? ⟨W.heap.size + 1, 1, none⟩ = some (.int .i64 by') := cell_gr hw4 (by go_simp)
    have zw4_1 : W.heap.size + 1 < w4.heap.size := World.block_lt_of_cell? _ _ cw4_1_0
    have gw4 : Gr W w4 := Gr.trans (by have gg := gw3; have gs := gg.size; go_grown) hw4
    clear hw4 gw3 zw3_0 cw3_0_0 cw3_0_1 zw3_1 cw3_1_0 cw3_1_1
    go_wp2_with fail
    go_ret
    exact ⟨rfl, by go_grown⟩

set_option maxHeartbeats 1000000 in
set_option maxRecDepth 100000 in
theorem squares_yes (ax ay bx by' : Int) (s1 s2 s : Nat) (eb : Bool) (W : World)
    (E1 : ∀ w, (binOp .eql 32 (.agg #[.int .u64 0, .int .u64 s, .int .u64 1]) (.agg #[.int .u64 0, .int .u64 0, .int .u64 1])).run Try.prog w = .ok (.bool eb) w)
    (E2 : ∀ w, (binOp .eql 23 (.agg #[.int .i64 ax, .int .i64 ay]) (.agg #[.int .i64 bx, .int .i64 by'])).run Try.prog w = .ok (.bool eb) w)
    (A1 : ∀ w, Calls Try.prog 11 #[.agg #[.int .i64 ax, .int .i64 ay]] w fun e w' => e = .returned (.bool true) ∧ Gr w w')
    (A2 : ∀ w, Calls Try.prog 11 #[.agg #[.int .i64 bx, .int .i64 by']] w fun e w' => e = .returned (.bool true) ∧ Gr w w')
    (A3 : ∀ w, Calls Try.prog 18 #[.agg #[.int .i64 ax, .int .i64 ay], .agg #[.int .i64 bx, .int .i64 ay]] w fun e w' => e = .returned (.agg #[.int .u64 0, .int .u64 s1, .int .u64 1]) ∧ Gr w w')
    (A4 : ∀ w, Calls Try.prog 18 #[.agg #[.int .i64 bx, .int .i64 ay], .agg #[.int .i64 bx, .int .i64 by']] w fun e w' => e = .returned (.agg #[.int .u64 0, .int .u64 s2, .int .u64 1]) ∧ Gr w w')
    (A5 : ∀ w, Calls Try.prog 18 #[.agg #[.int .i64 ax, .int .i64 ay], .agg #[.int .i64 bx, .int .i64 by']] w fun e w' => e = .returned (.agg #[.int .u64 0, .int .u64 s, .int .u64 1]) ∧ Gr w w')
    (A6 : ∀ w, Calls Try.prog 18 #[.agg #[.int .i64 bx, .int .i64 by'], .agg #[.int .i64 ax, .int .i64 ay]] w fun e w' => e = .returned (.agg #[.int .u64 0, .int .u64 s, .int .u64 1]) ∧ Gr w w')
    (A7 : ∀ w, Calls Try.prog 39 #[.agg #[.int .u64 0, .int .u64 s1], .agg #[.int .u64 0, .int .u64 s2]] w fun e w' => e = .returned (.tuple #[.agg #[.int .u64 0, .int .u64 s], .bool false]) ∧ Gr w w')
    (A8 : ∀ w, Calls Try.prog 34 #[.agg #[.int .i64 ax, .int .i64 ay, .int .i64 ax, .int .i64 ay], .agg #[.int .i64 bx, .int .i64 by']] w fun e w' => e = .returned (.agg #[.int .u64 0, .int .u64 s, .int .u64 1]) ∧ Gr w w') :
    Calls Try.prog 10 #[.agg #[.int .i64 ax, .int .i64 ay], .agg #[.int .i64 bx, .int .i64 by']] W fun e w' => e = .returned (.bool true) ∧ Gr W w' := by
  have H1 := Lib.hid A1
  have H2 := Lib.hid A2
  have H3 := Lib.hid A3
  have H4 := Lib.hid A4
  have H5 := Lib.hid A5
  have H6 := Lib.hid A6
  have H7 := Lib.hid A7
  have H8 := Lib.hid A8
  clear A1 A2 A3 A4 A5 A6 A7 A8
  go_enter Try.func10, Try.ntmps10
  go_wp2_with fail
  go_at_call 11
  refine ((H1.out _)).mono ?_
  rintro e w1 ⟨rfl, hw1⟩
  have cw1_0_0 : w1.cell? ⟨W.heap.size, 0, none⟩ = some (.int .i64 ax) := cell_gr hw1 (by go_simp)
  have cw1_0_1 : w1.cell? ⟨W.heap.size, 1, none⟩ = some (.int .i64 ay) := cell_gr hw1 (by go_simp)
  have zw1_0 : W.heap.size < w1.heap.size := World.block_lt_of_cell? _ _ cw1_0_0
  have cw1_1_0 : w1.cell? ⟨W.heap.size + 1, 0, none⟩ = some (.int .i64 bx) := cell_gr hw1 (by go_simp)
  have cw1_1_1 : w1.cell? ⟨W.heap.size + 1, 1, none⟩ = some (.int .i64 by') := cell_gr hw1 (by go_simp)
  have zw1_1 : W.heap.size + 1 < w1.heap.size := World.block_lt_of_cell? _ _ cw1_1_0
  have gw1 : Gr W w1 := Gr.trans (by go_grown) hw1
  clear hw1
  go_wp2_with fail
  go_at_call 11
  refine ((H2.out _)).mono ?_
  rintro e w2 ⟨rfl, hw2⟩
  have cw2_0_0 : w2.cell? ⟨W.heap.size, 0, none⟩ = some (.int .i64 ax) := cell_gr hw2 (by go_simp)
  have cw2_0_1 : w2.cell? ⟨W.heap.size, 1, none⟩ = some (.int .i64 ay) := cell_gr hw2 (by go_simp)
  have zw2_0 : W.heap.size < w2.heap.size := World.block_lt_of_cell? _ _ cw2_0_0
  have cw2_1_0 : w2.cell? ⟨W.heap.size + 1, 0, none⟩ = some (.int .i64 bx) := cell_gr hw2 (by go_simp)
  have cw2_1_1 : w2.cell? ⟨W.heap.size + 1, 1, none⟩ = some (.int .i64 by') := cell_gr hw2 (by go_simp)
  have zw2_1 : W.heap.size + 1 < w2.heap.size := World.block_lt_of_cell? _ _ cw2_1_0
  have gw2 : Gr W w2 := Gr.trans (by have gg := gw1; have gs := gg.size; go_grown) hw2
  clear hw2 gw1 zw1_0 cw1_0_0 cw1_0_1 zw1_1 cw1_1_0 cw1_1_1
  go_wp2_with fail
  go_at_call 18
  refine ((H3.out _)).mono ?_
  rintro e w3 ⟨rfl, hw3⟩
  have cw3_0_0 : w3.cell? ⟨W.heap.size, 0, none⟩ = some (.int .i64 ax) := cell_gr hw3 (by go_simp)
  have cw3_0_1 : w3.cell? ⟨W.heap.size, 1, none⟩ = some (.int .i64 ay) := cell_gr hw3 (by go_simp)
  have zw3_0 : W.heap.size < w3.heap.size := World.block_lt_of_cell? _ _ cw3_0_0
  have cw3_1_0 : w3.cell? ⟨W.heap.size + 1, 0, none⟩ = some (.int .i64 bx) := cell_gr hw3 (by go_simp)
  have cw3_1_1 : w3.cell? ⟨W.heap.size + 1, 1, none⟩ = some (.int .i64 by') := cell_gr hw3 (by go_simp)
  have zw3_1 : W.heap.size + 1 < w3.heap.size := World.block_lt_of_cell? _ _ cw3_1_0
  have cw3_2_0 : w3.cell? ⟨w2.heap.size, 0, none⟩ = some (.int .i64 bx) := cell_gr hw3 (by go_simp)
  have cw3_2_1 : w3.cell? ⟨w2.heap.size, 1, none⟩ = some (.int .i64 ay) := cell_gr hw3 (by go_simp)
  have zw3_2 : w2.heap.size < w3.heap.size := World.block_lt_of_cell? _ _ cw3_2_0
  have gw3 : Gr W w3 := Gr.trans (by have gg := gw2; have gs := gg.size; go_grown) hw3
  clear hw3 gw2 zw2_0 cw2_0_0 cw2_0_1 zw2_1 cw2_1_0 cw2_1_1
  go_wp2_with fail
  go_at_call 18
  refine ((H4.out _)).mono ?_
  rintro e w4 ⟨rfl, hw4⟩
  have cw4_0_0 : w4.cell? ⟨W.heap.size, 0, none⟩ = some (.int .i64 ax) := cell_gr hw4 (by go_simp)
  have cw4_0_1 : w4.cell? ⟨W.heap.size, 1, none⟩ = some (.int .i64 ay) := cell_gr hw4 (by go_simp)
  have zw4_0 : W.heap.size < w4.heap.size := World.block_lt_of_cell? _ _ cw4_0_0
  have cw4_1_0 : w4.cell? ⟨W.heap.size + 1, 0, none⟩ = some (.int .i64 bx) := cell_gr hw4 (by go_simp)
  have cw4_1_1 : w4.cell? ⟨W.heap.size + 1, 1, none⟩ = some (.int .i64 by') := cell_gr hw4 (by go_simp)
  have zw4_1 : W.heap.size + 1 < w4.heap.size := World.block_lt_of_cell? _ _ cw4_1_0
  have cw4_2_0 : w4.cell? ⟨w2.heap.size, 0, none⟩ = some (.int .i64 bx) := cell_gr hw4 (by go_simp)
  have cw4_2_1 : w4.cell? ⟨w2.heap.size, 1, none⟩ = some (.int .i64 ay) := cell_gr hw4 (by go_simp)
  have zw4_2 : w2.heap.size < w4.heap.size := World.block_lt_of_cell? _ _ cw4_2_0
  have cw4_3_0 : w4.cell? ⟨w3.heap.size, 0, none⟩ = some (.int .u64 0) := cell_gr hw4 (by go_simp)
  have cw4_3_1 : w4.cell? ⟨w3.heap.size, 1, none⟩ = some (.int .u64 s1) := cell_gr hw4 (by go_simp)
  have cw4_3_2 : w4.cell? ⟨w3.heap.size, 2, none⟩ = some (.int .u64 1) := cell_gr hw4 (by go_simp)
  have zw4_3 : w3.heap.size < w4.heap.size := World.block_lt_of_cell? _ _ cw4_3_0
  have gw4 : Gr W w4 := Gr.trans (by have gg := gw3; have gs := gg.size; go_grown) hw4
  clear hw4 gw3 zw3_0 cw3_0_0 cw3_0_1 zw3_1 cw3_1_0 cw3_1_1 zw3_2 cw3_2_0 cw3_2_1
  go_wp2_with fail
  refine Hm.wp_region_made 10 8 9 8 #[.int .u64 0, .int .u64 0] #[.int .u64 0, .int .u64 s] 43 (by kernel_rfl) (by simp only [List.getElem?_toArray, List.getElem?_cons_succ, List.getElem?_cons_zero] <;> rfl) (by simp only [List.getElem?_toArray, List.getElem?_cons_succ, List.getElem?_cons_zero] <;> rfl) (by kernel_rfl) (fun _ _ => ?_) ?_
  · unfold Oper.wp; go_simp
  intro KQ hKQ
  repeat (first | (refine Hm.wpG_sp (by decide) ?_ ?_; (· (try dsimp only); first | (rw [if_neg (by decide)]; trivial) | (rw [if_pos rfl]; (intro B w' g hB hw; have c0 : w'.cell? ⟨B, 0, none⟩ = some (.int .u64 0) := Hm.cell_of_heap hw 0; have f0 := Hm.frozen_of_heap hw 0; have c1 : w'.cell? ⟨B, 1, none⟩ = some (.int .u64 0) := Hm.cell_of_heap hw 1; have f1 := Hm.frozen_of_heap hw 1; unfold Oper.wp; go_simp; exact ⟨((g.setCell hB _).setCell hB _), (Hm.heap_set_same (Hm.heap_set_same hw))⟩)))) | (refine Hm.wpG_skip (by decide) rfl ?_; simp only [Act.put, List.setIfInBounds_toArray, List.set_cons_zero, List.set_cons_succ]) | (refine Hm.wpG_want (by decide) rfl ?_; apply Exists.intro; refine ⟨?_, ?_⟩; (· intro wx gx; (obtain ⟨mx, rfl⟩ := spread_of_gr gx; clear gx); all_goals (apply Hd.gAt_of_quiet; intro K hK; go_big_quiet_op; first | exact hK _ rfl | (apply Exists.intro; refine ⟨fun _ => ?_, ?_⟩; (· (first | (go_at_call 41; first | ((with_reducible refine ((c_Num _ _ _ _)).mono ?_); rintro e w' ⟨rfl, hg⟩; exact ⟨rfl, spread_gr hg⟩)) | (go_at_call 39; first | ((with_reducible refine ((H7.out _)).mono ?_); rintro e w' ⟨rfl, hg⟩; exact ⟨rfl, spread_gr hg⟩)))); exact hK _ rfl))); try simp only [Act.put, List.setIfInBounds_toArray, List.set_cons_zero, List.set_cons_succ]))
  refine Hm.wpG_nil (hKQ _ ?_)
  clear hKQ KQ
  intro B5 w5 hw5 hBw5 hhw5
  have cw5_0_0 : w5.cell? ⟨W.heap.size, 0, none⟩ = some (.int .i64 ax) := cell_gr hw5 (by go_simp)
  have cw5_0_1 : w5.cell? ⟨W.heap.size, 1, none⟩ = some (.int .i64 ay) := cell_gr hw5 (by go_simp)
  have zw5_0 : W.heap.size < w5.heap.size := World.block_lt_of_cell? _ _ cw5_0_0
  have cw5_1_0 : w5.cell? ⟨W.heap.size + 1, 0, none⟩ = some (.int .i64 bx) := cell_gr hw5 (by go_simp)
  have cw5_1_1 : w5.cell? ⟨W.heap.size + 1, 1, none⟩ = some (.int .i64 by') := cell_gr hw5 (by go_simp)
  have zw5_1 : W.heap.size + 1 < w5.heap.size := World.block_lt_of_cell? _ _ cw5_1_0
  have cw5_2_0 : w5.cell? ⟨w2.heap.size, 0, none⟩ = some (.int .i64 bx) := cell_gr hw5 (by go_simp)
  have cw5_2_1 : w5.cell? ⟨w2.heap.size, 1, none⟩ = some (.int .i64 ay) := cell_gr hw5 (by go_simp)
  have zw5_2 : w2.heap.size < w5.heap.size := World.block_lt_of_cell? _ _ cw5_2_0
  have cw5_3_0 : w5.cell? ⟨w3.heap.size, 0, none⟩ = some (.int .u64 0) := cell_gr hw5 (by go_simp)
  have cw5_3_1 : w5.cell? ⟨w3.heap.size, 1, none⟩ = some (.int .u64 s1) := cell_gr hw5 (by go_simp)
  have cw5_3_2 : w5.cell? ⟨w3.heap.size, 2, none⟩ = some (.int .u64 1) := cell_gr hw5 (by go_simp)
  have zw5_3 : w3.heap.size < w5.heap.size := World.block_lt_of_cell? _ _ cw5_3_0
  have cw5_4_0 : w5.cell? ⟨w4.heap.size, 0, none⟩ = some (.int .u64 0) := cell_gr hw5 (by go_simp)
  have cw5_4_1 : w5.cell? ⟨w4.heap.size, 1, none⟩ = some (.int .u64 s2) := cell_gr hw5 (by go_simp)
  have cw5_4_2 : w5.cell? ⟨w4.heap.size, 2, none⟩ = some (.int .u64 1) := cell_gr hw5 (by go_simp)
  have zw5_4 : w4.heap.size < w5.heap.size := World.block_lt_of_cell? _ _ cw5_4_0
  have cw5_5_0 : w5.cell? ⟨B5, 0, none⟩ = some (.int .u64 0) := Hm.cell_of_heap hhw5 0
  have cw5_5_1 : w5.cell? ⟨B5, 1, none⟩ = some (.int .u64 s) := Hm.cell_of_heap hhw5 1
  have zw5_5 : B5 < w5.heap.size := World.block_lt_of_cell? _ _ cw5_5_0
  have gw5 : Gr W w5 := Gr.trans (by have gg := gw4; have gs := gg.size; go_grown) hw5
  clear hw5 hBw5 hhw5 gw4 zw4_0 cw4_0_0 cw4_0_1 zw4_1 cw4_1_0 cw4_1_1 zw4_2 cw4_2_0 cw4_2_1 zw4_3 cw4_3_0 cw4_3_1 cw4_3_2
  go_wp2_with fail
  go_at_call 18
  refine ((H5.out _)).mono ?_
  rintro e w6 ⟨rfl, hw6⟩
  have cw6_0_0 : w6.cell? ⟨W.heap.size, 0, none⟩ = some (.int .i64 ax) := cell_gr hw6 (by go_simp)
  have cw6_0_1 : w6.cell? ⟨W.heap.size, 1, none⟩ = some (.int .i64 ay) := cell_gr hw6 (by go_simp)
  have zw6_0 : W.heap.size < w6.heap.size := World.block_lt_of_cell? _ _ cw6_0_0
  have cw6_1_0 : w6.cell? ⟨W.heap.size + 1, 0, none⟩ = some (.int .i64 bx) := cell_gr hw6 (by go_simp)
  have cw6_1_1 : w6.cell? ⟨W.heap.size + 1, 1, none⟩ = some (.int .i64 by') := cell_gr hw6 (by go_simp)
  have zw6_1 : W.heap.size + 1 < w6.heap.size := World.block_lt_of_cell? _ _ cw6_1_0
  have cw6_2_0 : w6.cell? ⟨w2.heap.size, 0, none⟩ = some (.int .i64 bx) := cell_gr hw6 (by go_simp)
  have cw6_2_1 : w6.cell? ⟨w2.heap.size, 1, none⟩ = some (.int .i64 ay) := cell_gr hw6 (by go_simp)
  have zw6_2 : w2.heap.size < w6.heap.size := World.block_lt_of_cell? _ _ cw6_2_0
  have cw6_3_0 : w6.cell? ⟨w3.heap.size, 0, none⟩ = some (.int .u64 0) := cell_gr hw6 (by go_simp)
  have cw6_3_1 : w6.cell? ⟨w3.heap.size, 1, none⟩ = some (.int .u64 s1) := cell_gr hw6 (by go_simp)
  have cw6_3_2 : w6.cell? ⟨w3.heap.size, 2, none⟩ = some (.int .u64 1) := cell_gr hw6 (by go_simp)
  have zw6_3 : w3.heap.size < w6.heap.size := World.block_lt_of_cell? _ _ cw6_3_0
  have cw6_4_0 : w6.cell? ⟨w4.heap.size, 0, none⟩ = some (.int .u64 0) := cell_gr hw6 (by go_simp)
  have cw6_4_1 : w6.cell? ⟨w4.heap.size, 1, none⟩ = some (.int .u64 s2) := cell_gr hw6 (by go_simp)
  have cw6_4_2 : w6.cell? ⟨w4.heap.size, 2, none⟩ = some (.int .u64 1) := cell_gr hw6 (by go_simp)
  have zw6_4 : w4.heap.size < w6.heap.size := World.block_lt_of_cell? _ _ cw6_4_0
  have cw6_5_0 : w6.cell? ⟨B5, 0, none⟩ = some (.int .u64 0) := cell_gr hw6 (by go_simp)
  have cw6_5_1 : w6.cell? ⟨B5, 1, none⟩ = some (.int .u64 s) := cell_gr hw6 (by go_simp)
  have zw6_5 : B5 < w6.heap.size := World.block_lt_of_cell? _ _ cw6_5_0
  have gw6 : Gr W w6 := Gr.trans (by have gg := gw5; have gs := gg.size; go_grown) hw6
  clear hw6 gw5 zw5_0 cw5_0_0 cw5_0_1 zw5_1 cw5_1_0 cw5_1_1 zw5_2 cw5_2_0 cw5_2_1 zw5_3 cw5_3_0 cw5_3_1 cw5_3_2 zw5_4 cw5_4_0 cw5_4_1 cw5_4_2 zw5_5 cw5_5_0 cw5_5_1
  go_wp2_with fail
  refine wp_region_spread (by kernel_rfl) (by kernel_rfl) ?_
  repeat (first | go_big_quiet_skip | (go_big_quiet_want; go_big_quiet_op; (first | go_big_quiet_on | (apply Exists.intro; refine ⟨fun _ => ?_, ?_⟩; (· (first | (go_at_call 18; first | ((with_reducible refine ((H6.out _)).mono ?_); rintro e w' ⟨rfl, hg⟩; exact ⟨rfl, spread_gr hg⟩)) | (go_at_call 41; first | ((with_reducible refine ((c_Num _ _ _ _)).mono ?_); rintro e w' ⟨rfl, hg⟩; exact ⟨rfl, spread_gr hg⟩)) | (go_at_call 34; first | ((with_reducible refine ((H8.out _)).mono ?_); rintro e w' ⟨rfl, hg⟩; exact ⟨rfl, spread_gr hg⟩)) | (go_at_call 20; first | ((with_reducible refine ((p_awake _)).mono ?_); rintro e w' ⟨rfl, hg⟩; exact ⟨rfl, spread_gr hg⟩)))); go_big_quiet_on))))
  refine wpQuiet_nil ?_
  intro wr hr
  obtain ⟨mr, rfl⟩ := hr
  go_wp2_with fail
  go_ret
  exact ⟨rfl, Gr.trans (by have gg := gw6; have gs := gg.size; go_grown) (gr_spread _ _)⟩

theorem sqZ_nonneg (ax ay bx by' : Int) : 0 ≤ sqZ ax ay bx by' := by
  have a1 := sq_nonneg (bx - ax)
  have a2 := sq_nonneg (by' - ay)
  unfold sqZ; omega
theorem sqZ_bound {ax ay bx by' : Int} (h1 : nearB ax ay = true) (h2 : nearB bx by' = true) : sqZ ax ay bx by' ≤ 9223372019674906632 := by
  have n1 := nearB_iff.1 h1
  have n2 := nearB_iff.1 h2
  have m1 := mul_near (x := bx - ax) (y := bx - ax) (by omega) (by omega)
  have m2 := mul_near (x := by' - ay) (y := by' - ay) (by omega) (by omega)
  unfold sqZ; omega
theorem sqZ_comm (ax ay bx by' : Int) : sqZ bx by' ax ay = sqZ ax ay bx by' := by unfold sqZ; grind
theorem sqZ_split (ax ay bx by' : Int) : sqZ ax ay bx by' = sqZ ax ay bx ay + sqZ bx ay bx by' := by unfold sqZ; grind
theorem sqZ_zero (ax ay bx by' : Int) : sqZ ax ay bx by' = 0 ↔ ax = bx ∧ ay = by' := by
  have a1 := sq_nonneg (bx - ax)
  have a2 := sq_nonneg (by' - ay)
  have b1 := sq_zero (x := bx - ax)
  have b2 := sq_zero (x := by' - ay)
  unfold sqZ
  constructor
  · intro h
    have d1 := b1.1 (by omega)
    have d2 := b2.1 (by omega)
    omega
  · rintro ⟨rfl, rfl⟩
    simp
theorem bey_sq (a v : Int) : beyZ a a v * beyZ a a v = (v - a) * (v - a) := by
  unfold beyZ
  split
  · grind
  · split
    · rfl
    · have : v - a = 0 := by omega
      rw [this]
theorem eqPt (ax ay bx by' : Int) (w : World) : (binOp .eql 23 (.agg #[.int .i64 ax, .int .i64 ay]) (.agg #[.int .i64 bx, .int .i64 by'])).run Try.prog w = .ok (.bool (decide (ax = bx ∧ ay = by'))) w := by
  by_cases h1 : ax = bx
  · subst h1
    by_cases h2 : ay = by'
    · subst h2
      simp [go_sem]
    · have e : (ay == by') = false := by simpa using h2
      simp [go_sem, h2, e]
  · have e : (ax == bx) = false := by simpa using h1
    simp [go_sem, h1, e]
theorem walk_PlaneSquares (ax ay bx by' : Int) (h1 : (-9223372036854775808 ≤ ax ∧ ax ≤ 9223372036854775807) ∧ (-9223372036854775808 ≤ ay ∧ ay ≤ 9223372036854775807)) (h2 : (-9223372036854775808 ≤ bx ∧ bx ≤ 9223372036854775807) ∧ (-9223372036854775808 ≤ by' ∧ by' ≤ 9223372036854775807)) (W : World) :
    Calls Try.prog 10 #[.agg #[.int .i64 ax, .int .i64 ay], .agg #[.int .i64 bx, .int .i64 by']] W fun e w' => e = .returned (.bool true) ∧ Gr W w' := by
  clear h1 h2
  have P1 := c_rPoint ax ay
  have P2 := c_rPoint bx by'
  by_cases hq : nearB ax ay = true ∧ nearB bx by' = true
  · have hc : nearB bx ay = true := by
      rw [nearB_iff] at *
      rw [nearB_iff] at hq
      omega
    have n1 := nearB_iff.1 hq.1
    rw [hq.1] at P1
    rw [hq.2] at P2
    obtain ⟨s1, e1⟩ : ∃ s : Nat, (s : Int) = sqZ ax ay bx ay := ⟨_, Int.toNat_of_nonneg (sqZ_nonneg _ _ _ _)⟩
    obtain ⟨s2, e2⟩ : ∃ s : Nat, (s : Int) = sqZ bx ay bx by' := ⟨_, Int.toNat_of_nonneg (sqZ_nonneg _ _ _ _)⟩
    obtain ⟨s, e3⟩ : ∃ s : Nat, (s : Int) = sqZ ax ay bx by' := ⟨_, Int.toNat_of_nonneg (sqZ_nonneg _ _ _ _)⟩
    have b3 := sqZ_bound hq.1 hq.2
    have es : s = s1 + s2 := by have := sqZ_split ax ay bx by'; omega
    have A3 := fun w => c_Square2 ax ay bx ay w ⟨hq.1, hc⟩
    have A4 := fun w => c_Square2 bx ay bx by' w ⟨hc, hq.2⟩
    have A5 := fun w => c_Square2 ax ay bx by' w hq
    have A6 := fun w => c_Square2 bx by' ax ay w ⟨hq.2, hq.1⟩
    have A8 := fun w => c_Dist ax ay ax ay bx by' w ⟨boxB_iff.2 ⟨⟨hq.1, hq.1⟩, Int.le_refl _, Int.le_refl _⟩, hq.2⟩
    have ed : distZ ax ay ax ay bx by' = sqZ ax ay bx by' := by unfold distZ sqZ; rw [bey_sq, bey_sq]
    rw [ed] at A8
    rw [sqZ_comm] at A6
    rw [← e1] at A3
    rw [← e2] at A4
    rw [← e3] at A5 A6 A8
    have A7 := c_rAdd 0 s1 0 s2 (by unfold Wd; omega) (by unfold Wd; omega) (by unfold Wd; omega) (by unfold Wd; omega)
    have v1 : val 0 s1 + val 0 s2 = s := by unfold val; omega
    rw [v1, show s / 18446744073709551616 = 0 by omega, show s % 18446744073709551616 = s by omega] at A7
    have E1 := eqDist s 0
    have E2 := eqPt ax ay bx by'
    have ez : decide ((s : Int) = 0) = decide (ax = bx ∧ ay = by') := by
      rw [decide_eq_decide, e3]
      exact sqZ_zero ax ay bx by'
    rw [ez] at E1
    exact squares_yes ax ay bx by' s1 s2 s _ W E1 E2 P1 P2 A3 A4 A5 A6 A7 A8
  · have hn : (nearB ax ay && nearB bx by') = false := by
      rw [← Bool.not_eq_true, Bool.and_eq_true]
      exact hq
    refine squares_no ax ay bx by' _ _ W ?_ P1 P2 (fun w => c_Square_no ax ay bx by' w hn)
    cases h1 : nearB ax ay <;> cases h2 : nearB bx by' <;> simp_all
end Go.Proofs.Ytffobfjjbcdbdaa
