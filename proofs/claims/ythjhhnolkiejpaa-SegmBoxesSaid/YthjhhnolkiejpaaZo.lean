/- the document's own MeetsBox and SegDist; SegmAsks -/
import Derived.Test.YthjhhnolkiejpaaZm
import Derived.Test.YthjhhnolkiejpaaZn
import Derived.Test.YthjhhnolkiejpaaRs
import Derived.Test.YthjhhnolkiejpaaPn
namespace Go.Proofs.Ythjhhnolkiejpaa
set_option linter.unusedVariables false
open Go.ChangeShapes Go.WideShapes Go.ChangeAt Go.RowKit

theorem val_join (n : Nat) : val (n / 18446744073709551616) (n % 18446744073709551616) = n := by unfold val; omega
theorem field_lo (h l : Int) (w : World) : (Instr.field 89 (.agg #[.int .u64 h, .int .u64 l]) 1).run Try.prog w = .ok (.int .u64 l) w := by kernel_rfl
theorem c_dot (ax ay bx by' px py : Int) (h1 : nearB ax ay = true) (h2 : nearB bx by' = true) (h3 : nearB px py = true) (W : World) :
    Calls Try.prog 76 #[.agg #[.int .i64 ax, .int .i64 ay], .agg #[.int .i64 bx, .int .i64 by'], .agg #[.int .i64 px, .int .i64 py]] W fun e w' => e = .returned (.int .i64 (alZ ax ay bx by' px py)) ∧ Gr W w' := by
  have n1 := nearB_iff.1 h1
  have n2 := nearB_iff.1 h2
  have n3 := nearB_iff.1 h3
  have m1 := mul_near (x := bx - ax) (y := px - ax) (by omega) (by omega)
  have m2 := mul_near (x := by' - ay) (y := py - ay) (by omega) (by omega)
  unfold alZ
  obtain ⟨p1, hp1⟩ : ∃ p, p = (bx - ax) * (px - ax) := ⟨_, rfl⟩
  obtain ⟨p2, hp2⟩ : ∃ p, p = (by' - ay) * (py - ay) := ⟨_, rfl⟩
  rw [← hp1] at m1
  rw [← hp2] at m2
  have e1 : wrap64 (bx - ax) = bx - ax := IntWalk.wrap64_in _ (by omega)
  have e2 : wrap64 (px - ax) = px - ax := IntWalk.wrap64_in _ (by omega)
  have e3 : wrap64 (by' - ay) = by' - ay := IntWalk.wrap64_in _ (by omega)
  have e4 : wrap64 (py - ay) = py - ay := IntWalk.wrap64_in _ (by omega)
  have e5 : wrap64 ((bx - ax) * (px - ax)) = p1 := by rw [← hp1]; exact IntWalk.wrap64_in _ (by omega)
  have e6 : wrap64 ((by' - ay) * (py - ay)) = p2 := by rw [← hp2]; exact IntWalk.wrap64_in _ (by omega)
  have e7 : wrap64 (p1 + p2) = p1 + p2 := IntWalk.wrap64_in _ (by omega)
  have f1 : IntKind.i64.wrap (bx - ax) = bx - ax := IntWalk.i64_in _ (by omega)
  have f2 : IntKind.i64.wrap (px - ax) = px - ax := IntWalk.i64_in _ (by omega)
  have f3 : IntKind.i64.wrap (by' - ay) = by' - ay := IntWalk.i64_in _ (by omega)
  have f4 : IntKind.i64.wrap (py - ay) = py - ay := IntWalk.i64_in _ (by omega)
  have f5 : IntKind.i64.wrap ((bx - ax) * (px - ax)) = p1 := by rw [← hp1]; exact IntWalk.i64_in _ (by omega)
  have f6 : IntKind.i64.wrap ((by' - ay) * (py - ay)) = p2 := by rw [← hp2]; exact IntWalk.i64_in _ (by omega)
  have f7 : IntKind.i64.wrap (p1 + p2) = p1 + p2 := IntWalk.i64_in _ (by omega)
  rw [← hp1, ← hp2]
  clear n1 n2 n3 h1 h2 h3 m1 m2 hp1 hp2
  go_enter Try.func76, Try.ntmps76
  go_wp2_with fail
  go_ret
  exact ⟨rfl, by go_grown⟩

set_option maxHeartbeats 4000000 in
set_option maxRecDepth 100000 in
theorem rsd_no (ax ay bx by' px py : Int) (q1 q2 q3 : Bool) (W : World) (hc : q1 = false ∨ (q1 = true ∧ q2 = false) ∨ (q1 = true ∧ q2 = true ∧ q3 = false))
    (A1 : ∀ w, Calls Try.prog 14 #[.agg #[.int .i64 ax, .int .i64 ay]] w fun e w' => e = .returned (.bool q1) ∧ Gr w w')
    (A2 : ∀ w, Calls Try.prog 14 #[.agg #[.int .i64 bx, .int .i64 by']] w fun e w' => e = .returned (.bool q2) ∧ Gr w w')
    (A3 : ∀ w, Calls Try.prog 14 #[.agg #[.int .i64 px, .int .i64 py]] w fun e w' => e = .returned (.bool q3) ∧ Gr w w') :
    Calls Try.prog 31 #[.agg #[.int .i64 ax, .int .i64 ay], .agg #[.int .i64 bx, .int .i64 by'], .agg #[.int .i64 px, .int .i64 py]] W fun e w' => e = .returned (.agg #[.int .u64 0, .int .u64 0, .int .u64 0]) ∧ Gr W w' := by
  have H1 := Lib.hid A1
  have H2 := Lib.hid A2
  have H3 := Lib.hid A3
  clear A1 A2 A3
  rcases hc with rfl | ⟨rfl, rfl⟩ | ⟨rfl, rfl, rfl⟩
  · go_enter Try.func31, Try.ntmps31
    go_wp2_with fail
    go_at_call 14
    refine ((H1.out _)).mono ?_
    rintro e w1 ⟨rfl, hw1⟩
    have cw1_0_0 : w1.cell? ⟨W.heap.size, 0, none⟩ = some (.int .i64 ax) := cell_gr hw1 (by go_simp)
    have cw1_0_1 : w1.cell? ⟨W.heap.size, 1, none⟩ = some (.int .i64 ay) := cell_gr hw1 (by go_simp)
    have zw1_0 : W.heap.size < w1.heap.size := World.block_lt_of_cell? _ _ cw1_0_0
    have cw1_1_0 : w1.cell? ⟨W.heap.size + 1, 0, none⟩ = some (.int .i64 bx) := cell_gr hw1 (by go_simp)
    have cw1_1_1 : w1.cell? ⟨W.heap.size + 1, 1, none⟩ = some (.int .i64 by') := cell_gr hw1 (by go_simp)
    have zw1_1 : W.heap.size + 1 < w1.heap.size := World.block_lt_of_cell? _ _ cw1_1_0
    have cw1_2_0 : w1.cell? ⟨W.heap.size + 1 + 1, 0, none⟩ = some (.int .i64 px) := cell_gr hw1 (by go_simp)
    have cw1_2_1 : w1.cell? ⟨W.heap.size + 1 + 1, 1, none⟩ = some (.int .i64 py) := cell_gr hw1 (by go_simp)
    have zw1_2 : W.heap.size + 1 + 1 < w1.heap.size := World.block_lt_of_cell? _ _ cw1_2_0
    have cw1_3_0 : w1.cell? ⟨W.heap.size + 1 + 1 + 1, 0, none⟩ = some (.int .u64 0) := cell_gr hw1 (by go_simp)
    have fw1_3_0 : w1.frozen? ⟨W.heap.size + 1 + 1 + 1, 0, none⟩ = false := frozen_gr (v := .int .u64 0) hw1 (by go_simp) (by go_simp)
    have cw1_3_1 : w1.cell? ⟨W.heap.size + 1 + 1 + 1, 1, none⟩ = some (.int .u64 0) := cell_gr hw1 (by go_simp)
    have fw1_3_1 : w1.frozen? ⟨W.heap.size + 1 + 1 + 1, 1, none⟩ = false := frozen_gr (v := .int .u64 0) hw1 (by go_simp) (by go_simp)
    have cw1_3_2 : w1.cell? ⟨W.heap.size + 1 + 1 + 1, 2, none⟩ = some (.int .u64 0) := cell_gr hw1 (by go_simp)
    have fw1_3_2 : w1.frozen? ⟨W.heap.size + 1 + 1 + 1, 2, none⟩ = false := frozen_gr (v := .int .u64 0) hw1 (by go_simp) (by go_simp)
    have zw1_3 : W.heap.size + 1 + 1 + 1 < w1.heap.size := World.block_lt_of_cell? _ _ cw1_3_0
    have gw1 : Gr W w1 := Gr.trans (by go_grown) hw1
    clear hw1
    go_wp2_with fail
    refine bodyPost_ret (v := .agg #[.int .u64 0, .int .u64 0, .int .u64 0]) (by simp [results, Try.results31, go_sem, *]) rfl ⟨rfl, by go_grown⟩
  · go_enter Try.func31, Try.ntmps31
    go_wp2_with fail
    go_at_call 14
    refine ((H1.out _)).mono ?_
    rintro e w1 ⟨rfl, hw1⟩
    have cw1_0_0 : w1.cell? ⟨W.heap.size, 0, none⟩ = some (.int .i64 ax) := cell_gr hw1 (by go_simp)
    have cw1_0_1 : w1.cell? ⟨W.heap.size, 1, none⟩ = some (.int .i64 ay) := cell_gr hw1 (by go_simp)
    have zw1_0 : W.heap.size < w1.heap.size := World.block_lt_of_cell? _ _ cw1_0_0
    have cw1_1_0 : w1.cell? ⟨W.heap.size + 1, 0, none⟩ = some (.int .i64 bx) := cell_gr hw1 (by go_simp)
    have cw1_1_1 : w1.cell? ⟨W.heap.size + 1, 1, none⟩ = some (.int .i64 by') := cell_gr hw1 (by go_simp)
    have zw1_1 : W.heap.size + 1 < w1.heap.size := World.block_lt_of_cell? _ _ cw1_1_0
    have cw1_2_0 : w1.cell? ⟨W.heap.size + 1 + 1, 0, none⟩ = some (.int .i64 px) := cell_gr hw1 (by go_simp)
    have cw1_2_1 : w1.cell? ⟨W.heap.size + 1 + 1, 1, none⟩ = some (.int .i64 py) := cell_gr hw1 (by go_simp)
    have zw1_2 : W.heap.size + 1 + 1 < w1.heap.size := World.block_lt_of_cell? _ _ cw1_2_0
    have cw1_3_0 : w1.cell? ⟨W.heap.size + 1 + 1 + 1, 0, none⟩ = some (.int .u64 0) := cell_gr hw1 (by go_simp)
    have fw1_3_0 : w1.frozen? ⟨W.heap.size + 1 + 1 + 1, 0, none⟩ = false := frozen_gr (v := .int .u64 0) hw1 (by go_simp) (by go_simp)
    have cw1_3_1 : w1.cell? ⟨W.heap.size + 1 + 1 + 1, 1, none⟩ = some (.int .u64 0) := cell_gr hw1 (by go_simp)
    have fw1_3_1 : w1.frozen? ⟨W.heap.size + 1 + 1 + 1, 1, none⟩ = false := frozen_gr (v := .int .u64 0) hw1 (by go_simp) (by go_simp)
    have cw1_3_2 : w1.cell? ⟨W.heap.size + 1 + 1 + 1, 2, none⟩ = some (.int .u64 0) := cell_gr hw1 (by go_simp)
    have fw1_3_2 : w1.frozen? ⟨W.heap.size + 1 + 1 + 1, 2, none⟩ = false := frozen_gr (v := .int .u64 0) hw1 (by go_simp) (by go_simp)
    have zw1_3 : W.heap.size + 1 + 1 + 1 < w1.heap.size := World.block_lt_of_cell? _ _ cw1_3_0
    have gw1 : Gr W w1 := Gr.trans (by go_grown) hw1
    clear hw1
    go_wp2_with fail
    go_at_call 14
    refine ((H2.out _)).mono ?_
    rintro e w2 ⟨rfl, hw2⟩
    have cw2_0_0 : w2.cell? ⟨W.heap.size, 0, none⟩ = some (.int .i64 ax) := cell_gr hw2 (by go_simp)
    have cw2_0_1 : w2.cell? ⟨W.heap.size, 1, none⟩ = some (.int .i64 ay) := cell_gr hw2 (by go_simp)
    have zw2_0 : W.heap.size < w2.heap.size := World.block_lt_of_cell? _ _ cw2_0_0
    have cw2_1_0 : w2.cell? ⟨W.heap.size + 1, 0, none⟩ = some (.int .i64 bx) := cell_gr hw2 (by go_simp)
    have cw2_1_1 : w2.cell? ⟨W.heap.size + 1, 1, none⟩ = some (.int .i64 by') := cell_gr hw2 (by go_simp)
    have zw2_1 : W.heap.size + 1 < w2.heap.size := World.block_lt_of_cell? _ _ cw2_1_0
    have cw2_2_0 : w2.cell? ⟨W.heap.size + 1 + 1, 0, none⟩ = some (.int .i64 px) := cell_gr hw2 (by go_simp)
    have cw2_2_1 : w2.cell? ⟨W.heap.size + 1 + 1, 1, none⟩ = some (.int .i64 py) := cell_gr hw2 (by go_simp)
    have zw2_2 : W.heap.size + 1 + 1 < w2.heap.size := World.block_lt_of_cell? _ _ cw2_2_0
    have cw2_3_0 : w2.cell? ⟨W.heap.size + 1 + 1 + 1, 0, none⟩ = some (.int .u64 0) := cell_gr hw2 (by go_simp)
    have fw2_3_0 : w2.frozen? ⟨W.heap.size + 1 + 1 + 1, 0, none⟩ = false := frozen_gr (v := .int .u64 0) hw2 (by go_simp) (by go_simp)
    have cw2_3_1 : w2.cell? ⟨W.heap.size + 1 + 1 + 1, 1, none⟩ = some (.int .u64 0) := cell_gr hw2 (by go_simp)
    have fw2_3_1 : w2.frozen? ⟨W.heap.size + 1 + 1 + 1, 1, none⟩ = false := frozen_gr (v := .int .u64 0) hw2 (by go_simp) (by go_simp)
    have cw2_3_2 : w2.cell? ⟨W.heap.size + 1 + 1 + 1, 2, none⟩ = some (.int .u64 0) := cell_gr hw2 (by go_simp)
    have fw2_3_2 : w2.frozen? ⟨W.heap.size + 1 + 1 + 1, 2, none⟩ = false := frozen_gr (v := .int .u64 0) hw2 (by go_simp) (by go_simp)
    have zw2_3 : W.heap.size + 1 + 1 + 1 < w2.heap.size := World.block_lt_of_cell? _ _ cw2_3_0
    have gw2 : Gr W w2 := Gr.trans (by have gg := gw1; have gs := gg.size; go_grown) hw2
    clear hw2 gw1 zw1_0 cw1_0_0 cw1_0_1 zw1_1 cw1_1_0 cw1_1_1 zw1_2 cw1_2_0 cw1_2_1 zw1_3 cw1_3_0 fw1_3_0 cw1_3_1 fw1_3_1 cw1_3_2 fw1_3_2
    go_wp2_with fail
    refine bodyPost_ret (v := .agg #[.int .u64 0, .int .u64 0, .int .u64 0]) (by simp [results, Try.results31, go_sem, *]) rfl ⟨rfl, by go_grown⟩
  · go_enter Try.func31, Try.ntmps31
    go_wp2_with fail
    go_at_call 14
    refine ((H1.out _)).mono ?_
    rintro e w1 ⟨rfl, hw1⟩
    have cw1_0_0 : w1.cell? ⟨W.heap.size, 0, none⟩ = some (.int .i64 ax) := cell_gr hw1 (by go_simp)
    have cw1_0_1 : w1.cell? ⟨W.heap.size, 1, none⟩ = some (.int .i64 ay) := cell_gr hw1 (by go_simp)
    have zw1_0 : W.heap.size < w1.heap.size := World.block_lt_of_cell? _ _ cw1_0_0
    have cw1_1_0 : w1.cell? ⟨W.heap.size + 1, 0, none⟩ = some (.int .i64 bx) := cell_gr hw1 (by go_simp)
    have cw1_1_1 : w1.cell? ⟨W.heap.size + 1, 1, none⟩ = some (.int .i64 by') := cell_gr hw1 (by go_simp)
    have zw1_1 : W.heap.size + 1 < w1.heap.size := World.block_lt_of_cell? _ _ cw1_1_0
    have cw1_2_0 : w1.cell? ⟨W.heap.size + 1 + 1, 0, none⟩ = some (.int .i64 px) := cell_gr hw1 (by go_simp)
    have cw1_2_1 : w1.cell? ⟨W.heap.size + 1 + 1, 1, none⟩ = some (.int .i64 py) := cell_gr hw1 (by go_simp)
    have zw1_2 : W.heap.size + 1 + 1 < w1.heap.size := World.block_lt_of_cell? _ _ cw1_2_0
    have cw1_3_0 : w1.cell? ⟨W.heap.size + 1 + 1 + 1, 0, none⟩ = some (.int .u64 0) := cell_gr hw1 (by go_simp)
    have fw1_3_0 : w1.frozen? ⟨W.heap.size + 1 + 1 + 1, 0, none⟩ = false := frozen_gr (v := .int .u64 0) hw1 (by go_simp) (by go_simp)
    have cw1_3_1 : w1.cell? ⟨W.heap.size + 1 + 1 + 1, 1, none⟩ = some (.int .u64 0) := cell_gr hw1 (by go_simp)
    have fw1_3_1 : w1.frozen? ⟨W.heap.size + 1 + 1 + 1, 1, none⟩ = false := frozen_gr (v := .int .u64 0) hw1 (by go_simp) (by go_simp)
    have cw1_3_2 : w1.cell? ⟨W.heap.size + 1 + 1 + 1, 2, none⟩ = some (.int .u64 0) := cell_gr hw1 (by go_simp)
    have fw1_3_2 : w1.frozen? ⟨W.heap.size + 1 + 1 + 1, 2, none⟩ = false := frozen_gr (v := .int .u64 0) hw1 (by go_simp) (by go_simp)
    have zw1_3 : W.heap.size + 1 + 1 + 1 < w1.heap.size := World.block_lt_of_cell? _ _ cw1_3_0
    have gw1 : Gr W w1 := Gr.trans (by go_grown) hw1
    clear hw1
    go_wp2_with fail
    go_at_call 14
    refine ((H2.out _)).mono ?_
    rintro e w2 ⟨rfl, hw2⟩
    have cw2_0_0 : w2.cell? ⟨W.heap.size, 0, none⟩ = some (.int .i64 ax) := cell_gr hw2 (by go_simp)
    have cw2_0_1 : w2.cell? ⟨W.heap.size, 1, none⟩ = some (.int .i64 ay) := cell_gr hw2 (by go_simp)
    have zw2_0 : W.heap.size < w2.heap.size := World.block_lt_of_cell? _ _ cw2_0_0
    have cw2_1_0 : w2.cell? ⟨W.heap.size + 1, 0, none⟩ = some (.int .i64 bx) := cell_gr hw2 (by go_simp)
    have cw2_1_1 : w2.cell? ⟨W.heap.size + 1, 1, none⟩ = some (.int .i64 by') := cell_gr hw2 (by go_simp)
    have zw2_1 : W.heap.size + 1 < w2.heap.size := World.block_lt_of_cell? _ _ cw2_1_0
    have cw2_2_0 : w2.cell? ⟨W.heap.size + 1 + 1, 0, none⟩ = some (.int .i64 px) := cell_gr hw2 (by go_simp)
    have cw2_2_1 : w2.cell? ⟨W.heap.size + 1 + 1, 1, none⟩ = some (.int .i64 py) := cell_gr hw2 (by go_simp)
    have zw2_2 : W.heap.size + 1 + 1 < w2.heap.size := World.block_lt_of_cell? _ _ cw2_2_0
    have cw2_3_0 : w2.cell? ⟨W.heap.size + 1 + 1 + 1, 0, none⟩ = some (.int .u64 0) := cell_gr hw2 (by go_simp)
    have fw2_3_0 : w2.frozen? ⟨W.heap.size + 1 + 1 + 1, 0, none⟩ = false := frozen_gr (v := .int .u64 0) hw2 (by go_simp) (by go_simp)
    have cw2_3_1 : w2.cell? ⟨W.heap.size + 1 + 1 + 1, 1, none⟩ = some (.int .u64 0) := cell_gr hw2 (by go_simp)
    have fw2_3_1 : w2.frozen? ⟨W.heap.size + 1 + 1 + 1, 1, none⟩ = false := frozen_gr (v := .int .u64 0) hw2 (by go_simp) (by go_simp)
    have cw2_3_2 : w2.cell? ⟨W.heap.size + 1 + 1 + 1, 2, none⟩ = some (.int .u64 0) := cell_gr hw2 (by go_simp)
    have fw2_3_2 : w2.frozen? ⟨W.heap.size + 1 + 1 + 1, 2, none⟩ = false := frozen_gr (v := .int .u64 0) hw2 (by go_simp) (by go_simp)
    have zw2_3 : W.heap.size + 1 + 1 + 1 < w2.heap.size := World.block_lt_of_cell? _ _ cw2_3_0
    have gw2 : Gr W w2 := Gr.trans (by have gg := gw1; have gs := gg.size; go_grown) hw2
    clear hw2 gw1 zw1_0 cw1_0_0 cw1_0_1 zw1_1 cw1_1_0 cw1_1_1 zw1_2 cw1_2_0 cw1_2_1 zw1_3 cw1_3_0 fw1_3_0 cw1_3_1 fw1_3_1 cw1_3_2 fw1_3_2
    go_wp2_with fail
    go_at_call 14
    refine ((H3.out _)).mono ?_
    rintro e w3 ⟨rfl, hw3⟩
    have cw3_0_0 : w3.cell? ⟨W.heap.size, 0, none⟩ = some (.int .i64 ax) := cell_gr hw3 (by go_simp)
    have cw3_0_1 : w3.cell? ⟨W.heap.size, 1, none⟩ = some (.int .i64 ay) := cell_gr hw3 (by go_simp)
    have zw3_0 : W.heap.size < w3.heap.size := World.block_lt_of_cell? _ _ cw3_0_0
    have cw3_1_0 : w3.cell? ⟨W.heap.size + 1, 0, none⟩ = some (.int .i64 bx) := cell_gr hw3 (by go_simp)
    have cw3_1_1 : w3.cell? ⟨W.heap.size + 1, 1, none⟩ = some (.int .i64 by') := cell_gr hw3 (by go_simp)
    have zw3_1 : W.heap.size + 1 < w3.heap.size := World.block_lt_of_cell? _ _ cw3_1_0
    have cw3_2_0 : w3.cell? ⟨W.heap.size + 1 + 1, 0, none⟩ = some (.int .i64 px) := cell_gr hw3 (by go_simp)
    have cw3_2_1 : w3.cell? ⟨W.heap.size + 1 + 1, 1, none⟩ = some (.int .i64 py) := cell_gr hw3 (by go_simp)
    have zw3_2 : W.heap.size + 1 + 1 < w3.heap.size := World.block_lt_of_cell? _ _ cw3_2_0
    have cw3_3_0 : w3.cell? ⟨W.heap.size + 1 + 1 + 1, 0, none⟩ = some (.int .u64 0) := cell_gr hw3 (by go_simp)
    have fw3_3_0 : w3.frozen? ⟨W.heap.size + 1 + 1 + 1, 0, none⟩ = false := frozen_gr (v := .int .u64 0) hw3 (by go_simp) (by go_simp)
    have cw3_3_1 : w3.cell? ⟨W.heap.size + 1 + 1 + 1, 1, none⟩ = some (.int .u64 0) := cell_gr hw3 (by go_simp)
    have fw3_3_1 : w3.frozen? ⟨W.heap.size + 1 + 1 + 1, 1, none⟩ = false := frozen_gr (v := .int .u64 0) hw3 (by go_simp) (by go_simp)
    have cw3_3_2 : w3.cell? ⟨W.heap.size + 1 + 1 + 1, 2, none⟩ = some (.int .u64 0) := cell_gr hw3 (by go_simp)
    have fw3_3_2 : w3.frozen? ⟨W.heap.size + 1 + 1 + 1, 2, none⟩ = false := frozen_gr (v := .int .u64 0) hw3 (by go_simp) (by go_simp)
    have zw3_3 : W.heap.size + 1 + 1 + 1 < w3.heap.size := World.block_lt_of_cell? _ _ cw3_3_0
    have gw3 : Gr W w3 := Gr.trans (by have gg := gw2; have gs := gg.size; go_grown) hw3
    clear hw3 gw2 zw2_0 cw2_0_0 cw2_0_1 zw2_1 cw2_1_0 cw2_1_1 zw2_2 cw2_2_0 cw2_2_1 zw2_3 cw2_3_0 fw2_3_0 cw2_3_1 fw2_3_1 cw2_3_2 fw2_3_2
    go_wp2_with fail
    refine bodyPost_ret (v := .agg #[.int .u64 0, .int .u64 0, .int .u64 0]) (by simp [results, Try.results31, go_sem, *]) rfl ⟨rfl, by go_grown⟩
set_option maxHeartbeats 4000000 in
set_option maxRecDepth 100000 in
theorem rsd_yes (ax ay bx by' px py d1 d2 s1 s2 c h l wh qh ql qd r1 r2 r3 x y : Int) (eb : Bool) (W : World)
    (E : ∀ w, (binOp .eql 24 (.agg #[.int .i64 ax, .int .i64 ay]) (.agg #[.int .i64 bx, .int .i64 by'])).run Try.prog w = .ok (.bool eb) w)
    (x1 : wrap64 (ax - bx) = x) (x2 : IntKind.i64.wrap (ax - bx) = x) (y1 : wrap64 (ay - by') = y) (y2 : IntKind.i64.wrap (ay - by') = y)
    (A1 : ∀ w, Calls Try.prog 14 #[.agg #[.int .i64 ax, .int .i64 ay]] w fun e w' => e = .returned (.bool true) ∧ Gr w w')
    (A2 : ∀ w, Calls Try.prog 14 #[.agg #[.int .i64 bx, .int .i64 by']] w fun e w' => e = .returned (.bool true) ∧ Gr w w')
    (A3 : ∀ w, Calls Try.prog 14 #[.agg #[.int .i64 px, .int .i64 py]] w fun e w' => e = .returned (.bool true) ∧ Gr w w')
    (A4 : ∀ w, Calls Try.prog 76 #[.agg #[.int .i64 ax, .int .i64 ay], .agg #[.int .i64 bx, .int .i64 by'], .agg #[.int .i64 px, .int .i64 py]] w fun e w' => e = .returned (.int .i64 d1) ∧ Gr w w')
    (A5 : ∀ w, Calls Try.prog 76 #[.agg #[.int .i64 bx, .int .i64 by'], .agg #[.int .i64 ax, .int .i64 ay], .agg #[.int .i64 px, .int .i64 py]] w fun e w' => e = .returned (.int .i64 d2) ∧ Gr w w')
    (A6 : ∀ w, Calls Try.prog 33 #[.agg #[.int .i64 ax, .int .i64 ay], .agg #[.int .i64 px, .int .i64 py]] w fun e w' => e = .returned (.agg #[.int .u64 0, .int .u64 s1, .int .u64 1]) ∧ Gr w w')
    (A7 : ∀ w, Calls Try.prog 33 #[.agg #[.int .i64 bx, .int .i64 by'], .agg #[.int .i64 px, .int .i64 py]] w fun e w' => e = .returned (.agg #[.int .u64 0, .int .u64 s2, .int .u64 1]) ∧ Gr w w')
    (A8 : ∀ w, Calls Try.prog 67 #[.agg #[.int .i64 ax, .int .i64 ay], .agg #[.int .i64 bx, .int .i64 by'], .agg #[.int .i64 px, .int .i64 py]] w fun e w' => e = .returned (.int .i64 c) ∧ Gr w w')
    (A9 : ∀ w, Calls Try.prog 78 #[.int .i64 c] w fun e w' => e = .returned (.agg #[.int .u64 h, .int .u64 l]) ∧ Gr w w')
    (A0 : ∀ w, Calls Try.prog 79 #[.int .i64 x, .int .i64 y] w fun e w' => e = .returned (.agg #[.int .u64 0, .int .u64 wh]) ∧ Gr w w')
    (hc : (eb = true ∧ r1 = 0 ∧ r2 = s1 ∧ r3 = 1) ∨ (eb = false ∧ d1 ≤ 0 ∧ r1 = 0 ∧ r2 = s1 ∧ r3 = 1) ∨ (eb = false ∧ ¬ d1 ≤ 0 ∧ d2 ≤ 0 ∧ r1 = 0 ∧ r2 = s2 ∧ r3 = 1) ∨ (eb = false ∧ ¬ d1 ≤ 0 ∧ ¬ d2 ≤ 0 ∧ r1 = qh ∧ r2 = ql ∧ r3 = qd ∧ ∀ w, Calls Try.prog 77 #[.agg #[.int .u64 h, .int .u64 l], .int .u64 wh] w fun e w' => e = .returned (.agg #[.int .u64 qh, .int .u64 ql, .int .u64 qd]) ∧ Gr w w')) :
    Calls Try.prog 31 #[.agg #[.int .i64 ax, .int .i64 ay], .agg #[.int .i64 bx, .int .i64 by'], .agg #[.int .i64 px, .int .i64 py]] W fun e w' => e = .returned (.agg #[.int .u64 r1, .int .u64 r2, .int .u64 r3]) ∧ Gr W w' := by
  have H1 := Lib.hid A1
  have H2 := Lib.hid A2
  have H3 := Lib.hid A3
  have H4 := Lib.hid A4
  have H5 := Lib.hid A5
  have H6 := Lib.hid A6
  have H7 := Lib.hid A7
  have H8 := Lib.hid A8
  have H9 := Lib.hid A9
  have H0 := Lib.hid A0
  clear A1 A2 A3 A4 A5 A6 A7 A8 A9 A0
  rcases hc with ⟨rfl, rfl, rfl, rfl⟩ | ⟨rfl, c1, rfl, rfl, rfl⟩ | ⟨rfl, c1, c2, rfl, rfl, rfl⟩ | ⟨rfl, c1, c2, rfl, rfl, rfl, AL⟩
  · go_enter Try.func31, Try.ntmps31
    go_wp2_with fail
    go_at_call 14
    refine ((H1.out _)).mono ?_
    rintro e w1 ⟨rfl, hw1⟩
    have cw1_0_0 : w1.cell? ⟨W.heap.size, 0, none⟩ = some (.int .i64 ax) := cell_gr hw1 (by go_simp)
    have cw1_0_1 : w1.cell? ⟨W.heap.size, 1, none⟩ = some (.int .i64 ay) := cell_gr hw1 (by go_simp)
    have zw1_0 : W.heap.size < w1.heap.size := World.block_lt_of_cell? _ _ cw1_0_0
    have cw1_1_0 : w1.cell? ⟨W.heap.size + 1, 0, none⟩ = some (.int .i64 bx) := cell_gr hw1 (by go_simp)
    have cw1_1_1 : w1.cell? ⟨W.heap.size + 1, 1, none⟩ = some (.int .i64 by') := cell_gr hw1 (by go_simp)
    have zw1_1 : W.heap.size + 1 < w1.heap.size := World.block_lt_of_cell? _ _ cw1_1_0
    have cw1_2_0 : w1.cell? ⟨W.heap.size + 1 + 1, 0, none⟩ = some (.int .i64 px) := cell_gr hw1 (by go_simp)
    have cw1_2_1 : w1.cell? ⟨W.heap.size + 1 + 1, 1, none⟩ = some (.int .i64 py) := cell_gr hw1 (by go_simp)
    have zw1_2 : W.heap.size + 1 + 1 < w1.heap.size := World.block_lt_of_cell? _ _ cw1_2_0
    have cw1_3_0 : w1.cell? ⟨W.heap.size + 1 + 1 + 1, 0, none⟩ = some (.int .u64 0) := cell_gr hw1 (by go_simp)
    have fw1_3_0 : w1.frozen? ⟨W.heap.size + 1 + 1 + 1, 0, none⟩ = false := frozen_gr (v := .int .u64 0) hw1 (by go_simp) (by go_simp)
    have cw1_3_1 : w1.cell? ⟨W.heap.size + 1 + 1 + 1, 1, none⟩ = some (.int .u64 0) := cell_gr hw1 (by go_simp)
    have fw1_3_1 : w1.frozen? ⟨W.heap.size + 1 + 1 + 1, 1, none⟩ = false := frozen_gr (v := .int .u64 0) hw1 (by go_simp) (by go_simp)
    have cw1_3_2 : w1.cell? ⟨W.heap.size + 1 + 1 + 1, 2, none⟩ = some (.int .u64 0) := cell_gr hw1 (by go_simp)
    have fw1_3_2 : w1.frozen? ⟨W.heap.size + 1 + 1 + 1, 2, none⟩ = false := frozen_gr (v := .int .u64 0) hw1 (by go_simp) (by go_simp)
    have zw1_3 : W.heap.size + 1 + 1 + 1 < w1.heap.size := World.block_lt_of_cell? _ _ cw1_3_0
    have gw1 : Gr W w1 := Gr.trans (by go_grown) hw1
    clear hw1
    go_wp2_with fail
    go_at_call 14
    refine ((H2.out _)).mono ?_
    rintro e w2 ⟨rfl, hw2⟩
    have cw2_0_0 : w2.cell? ⟨W.heap.size, 0, none⟩ = some (.int .i64 ax) := cell_gr hw2 (by go_simp)
    have cw2_0_1 : w2.cell? ⟨W.heap.size, 1, none⟩ = some (.int .i64 ay) := cell_gr hw2 (by go_simp)
    have zw2_0 : W.heap.size < w2.heap.size := World.block_lt_of_cell? _ _ cw2_0_0
    have cw2_1_0 : w2.cell? ⟨W.heap.size + 1, 0, none⟩ = some (.int .i64 bx) := cell_gr hw2 (by go_simp)
    have cw2_1_1 : w2.cell? ⟨W.heap.size + 1, 1, none⟩ = some (.int .i64 by') := cell_gr hw2 (by go_simp)
    have zw2_1 : W.heap.size + 1 < w2.heap.size := World.block_lt_of_cell? _ _ cw2_1_0
    have cw2_2_0 : w2.cell? ⟨W.heap.size + 1 + 1, 0, none⟩ = some (.int .i64 px) := cell_gr hw2 (by go_simp)
    have cw2_2_1 : w2.cell? ⟨W.heap.size + 1 + 1, 1, none⟩ = some (.int .i64 py) := cell_gr hw2 (by go_simp)
    have zw2_2 : W.heap.size + 1 + 1 < w2.heap.size := World.block_lt_of_cell? _ _ cw2_2_0
    have cw2_3_0 : w2.cell? ⟨W.heap.size + 1 + 1 + 1, 0, none⟩ = some (.int .u64 0) := cell_gr hw2 (by go_simp)
    have fw2_3_0 : w2.frozen? ⟨W.heap.size + 1 + 1 + 1, 0, none⟩ = false := frozen_gr (v := .int .u64 0) hw2 (by go_simp) (by go_simp)
    have cw2_3_1 : w2.cell? ⟨W.heap.size + 1 + 1 + 1, 1, none⟩ = some (.int .u64 0) := cell_gr hw2 (by go_simp)
    have fw2_3_1 : w2.frozen? ⟨W.heap.size + 1 + 1 + 1, 1, none⟩ = false := frozen_gr (v := .int .u64 0) hw2 (by go_simp) (by go_simp)
    have cw2_3_2 : w2.cell? ⟨W.heap.size + 1 + 1 + 1, 2, none⟩ = some (.int .u64 0) := cell_gr hw2 (by go_simp)
    have fw2_3_2 : w2.frozen? ⟨W.heap.size + 1 + 1 + 1, 2, none⟩ = false := frozen_gr (v := .int .u64 0) hw2 (by go_simp) (by go_simp)
    have zw2_3 : W.heap.size + 1 + 1 + 1 < w2.heap.size := World.block_lt_of_cell? _ _ cw2_3_0
    have gw2 : Gr W w2 := Gr.trans (by have gg := gw1; have gs := gg.size; go_grown) hw2
    clear hw2 gw1 zw1_0 cw1_0_0 cw1_0_1 zw1_1 cw1_1_0 cw1_1_1 zw1_2 cw1_2_0 cw1_2_1 zw1_3 cw1_3_0 fw1_3_0 cw1_3_1 fw1_3_1 cw1_3_2 fw1_3_2
    go_wp2_with fail
    go_at_call 14
    refine ((H3.out _)).mono ?_
    rintro e w3 ⟨rfl, hw3⟩
    have cw3_0_0 : w3.cell? ⟨W.heap.size, 0, none⟩ = some (.int .i64 ax) := cell_gr hw3 (by go_simp)
    have cw3_0_1 : w3.cell? ⟨W.heap.size, 1, none⟩ = some (.int .i64 ay) := cell_gr hw3 (by go_simp)
    have zw3_0 : W.heap.size < w3.heap.size := World.block_lt_of_cell? _ _ cw3_0_0
    have cw3_1_0 : w3.cell? ⟨W.heap.size + 1, 0, none⟩ = some (.int .i64 bx) := cell_gr hw3 (by go_simp)
    have cw3_1_1 : w3.cell? ⟨W.heap.size + 1, 1, none⟩ = some (.int .i64 by') := cell_gr hw3 (by go_simp)
    have zw3_1 : W.heap.size + 1 < w3.heap.size := World.block_lt_of_cell? _ _ cw3_1_0
    have cw3_2_0 : w3.cell? ⟨W.heap.size + 1 + 1, 0, none⟩ = some (.int .i64 px) := cell_gr hw3 (by go_simp)
    have cw3_2_1 : w3.cell? ⟨W.heap.size + 1 + 1, 1, none⟩ = some (.int .i64 py) := cell_gr hw3 (by go_simp)
    have zw3_2 : W.heap.size + 1 + 1 < w3.heap.size := World.block_lt_of_cell? _ _ cw3_2_0
    have cw3_3_0 : w3.cell? ⟨W.heap.size + 1 + 1 + 1, 0, none⟩ = some (.int .u64 0) := cell_gr hw3 (by go_simp)
    have fw3_3_0 : w3.frozen? ⟨W.heap.size + 1 + 1 + 1, 0, none⟩ = false := frozen_gr (v := .int .u64 0) hw3 (by go_simp) (by go_simp)
    have cw3_3_1 : w3.cell? ⟨W.heap.size + 1 + 1 + 1, 1, none⟩ = some (.int .u64 0) := cell_gr hw3 (by go_simp)
    have fw3_3_1 : w3.frozen? ⟨W.heap.size + 1 + 1 + 1, 1, none⟩ = false := frozen_gr (v := .int .u64 0) hw3 (by go_simp) (by go_simp)
    have cw3_3_2 : w3.cell? ⟨W.heap.size + 1 + 1 + 1, 2, none⟩ = some (.int .u64 0) := cell_gr hw3 (by go_simp)
    have fw3_3_2 : w3.frozen? ⟨W.heap.size + 1 + 1 + 1, 2, none⟩ = false := frozen_gr (v := .int .u64 0) hw3 (by go_simp) (by go_simp)
    have zw3_3 : W.heap.size + 1 + 1 + 1 < w3.heap.size := World.block_lt_of_cell? _ _ cw3_3_0
    have gw3 : Gr W w3 := Gr.trans (by have gg := gw2; have gs := gg.size; go_grown) hw3
    clear hw3 gw2 zw2_0 cw2_0_0 cw2_0_1 zw2_1 cw2_1_0 cw2_1_1 zw2_2 cw2_2_0 cw2_2_1 zw2_3 cw2_3_0 fw2_3_0 cw2_3_1 fw2_3_1 cw2_3_2 fw2_3_2
    go_wp2_with fail
    go_at_call 33
    refine ((H6.out _)).mono ?_
    rintro e w4 ⟨rfl, hw4⟩
    have cw4_0_0 : w4.cell? ⟨W.heap.size, 0, none⟩ = some (.int .i64 ax) := cell_gr hw4 (by go_simp)
    have cw4_0_1 : w4.cell? ⟨W.heap.size, 1, none⟩ = some (.int .i64 ay) := cell_gr hw4 (by go_simp)
    have zw4_0 : W.heap.size < w4.heap.size := World.block_lt_of_cell? _ _ cw4_0_0
    have cw4_1_0 : w4.cell? ⟨W.heap.size + 1, 0, none⟩ = some (.int .i64 bx) := cell_gr hw4 (by go_simp)
    have cw4_1_1 : w4.cell? ⟨W.heap.size + 1, 1, none⟩ = some (.int .i64 by') := cell_gr hw4 (by go_simp)
    have zw4_1 : W.heap.size + 1 < w4.heap.size := World.block_lt_of_cell? _ _ cw4_1_0
    have cw4_2_0 : w4.cell? ⟨W.heap.size + 1 + 1, 0, none⟩ = some (.int .i64 px) := cell_gr hw4 (by go_simp)
    have cw4_2_1 : w4.cell? ⟨W.heap.size + 1 + 1, 1, none⟩ = some (.int .i64 py) := cell_gr hw4 (by go_simp)
    have zw4_2 : W.heap.size + 1 + 1 < w4.heap.size := World.block_lt_of_cell? _ _ cw4_2_0
    have cw4_3_0 : w4.cell? ⟨W.heap.size + 1 + 1 + 1, 0, none⟩ = some (.int .u64 0) := cell_gr hw4 (by go_simp)
    have fw4_3_0 : w4.frozen? ⟨W.heap.size + 1 + 1 + 1, 0, none⟩ = false := frozen_gr (v := .int .u64 0) hw4 (by go_simp) (by go_simp)
    have cw4_3_1 : w4.cell? ⟨W.heap.size + 1 + 1 + 1, 1, none⟩ = some (.int .u64 0) := cell_gr hw4 (by go_simp)
    have fw4_3_1 : w4.frozen? ⟨W.heap.size + 1 + 1 + 1, 1, none⟩ = false := frozen_gr (v := .int .u64 0) hw4 (by go_simp) (by go_simp)
    have cw4_3_2 : w4.cell? ⟨W.heap.size + 1 + 1 + 1, 2, none⟩ = some (.int .u64 0) := cell_gr hw4 (by go_simp)
    have fw4_3_2 : w4.frozen? ⟨W.heap.size + 1 + 1 + 1, 2, none⟩ = false := frozen_gr (v := .int .u64 0) hw4 (by go_simp) (by go_simp)
    have zw4_3 : W.heap.size + 1 + 1 + 1 < w4.heap.size := World.block_lt_of_cell? _ _ cw4_3_0
    have gw4 : Gr W w4 := Gr.trans (by have gg := gw3; have gs := gg.size; go_grown) hw4
    clear hw4 gw3 zw3_0 cw3_0_0 cw3_0_1 zw3_1 cw3_1_0 cw3_1_1 zw3_2 cw3_2_0 cw3_2_1 zw3_3 cw3_3_0 fw3_3_0 cw3_3_1 fw3_3_1 cw3_3_2 fw3_3_2
    go_wp2_with fail
    refine bodyPost_ret (v := .agg #[.int .u64 0, .int .u64 r2, .int .u64 1]) (by simp [results, Try.results31, go_sem, *]) rfl ⟨rfl, by go_grown⟩
  · go_enter Try.func31, Try.ntmps31
    go_wp2_with fail
    go_at_call 14
    refine ((H1.out _)).mono ?_
    rintro e w1 ⟨rfl, hw1⟩
    have cw1_0_0 : w1.cell? ⟨W.heap.size, 0, none⟩ = some (.int .i64 ax) := cell_gr hw1 (by go_simp)
    have cw1_0_1 : w1.cell? ⟨W.heap.size, 1, none⟩ = some (.int .i64 ay) := cell_gr hw1 (by go_simp)
    have zw1_0 : W.heap.size < w1.heap.size := World.block_lt_of_cell? _ _ cw1_0_0
    have cw1_1_0 : w1.cell? ⟨W.heap.size + 1, 0, none⟩ = some (.int .i64 bx) := cell_gr hw1 (by go_simp)
    have cw1_1_1 : w1.cell? ⟨W.heap.size + 1, 1, none⟩ = some (.int .i64 by') := cell_gr hw1 (by go_simp)
    have zw1_1 : W.heap.size + 1 < w1.heap.size := World.block_lt_of_cell? _ _ cw1_1_0
    have cw1_2_0 : w1.cell? ⟨W.heap.size + 1 + 1, 0, none⟩ = some (.int .i64 px) := cell_gr hw1 (by go_simp)
    have cw1_2_1 : w1.cell? ⟨W.heap.size + 1 + 1, 1, none⟩ = some (.int .i64 py) := cell_gr hw1 (by go_simp)
    have zw1_2 : W.heap.size + 1 + 1 < w1.heap.size := World.block_lt_of_cell? _ _ cw1_2_0
    have cw1_3_0 : w1.cell? ⟨W.heap.size + 1 + 1 + 1, 0, none⟩ = some (.int .u64 0) := cell_gr hw1 (by go_simp)
    have fw1_3_0 : w1.frozen? ⟨W.heap.size + 1 + 1 + 1, 0, none⟩ = false := frozen_gr (v := .int .u64 0) hw1 (by go_simp) (by go_simp)
    have cw1_3_1 : w1.cell? ⟨W.heap.size + 1 + 1 + 1, 1, none⟩ = some (.int .u64 0) := cell_gr hw1 (by go_simp)
    have fw1_3_1 : w1.frozen? ⟨W.heap.size + 1 + 1 + 1, 1, none⟩ = false := frozen_gr (v := .int .u64 0) hw1 (by go_simp) (by go_simp)
    have cw1_3_2 : w1.cell? ⟨W.heap.size + 1 + 1 + 1, 2, none⟩ = some (.int .u64 0) := cell_gr hw1 (by go_simp)
    have fw1_3_2 : w1.frozen? ⟨W.heap.size + 1 + 1 + 1, 2, none⟩ = false := frozen_gr (v := .int .u64 0) hw1 (by go_simp) (by go_simp)
    have zw1_3 : W.heap.size + 1 + 1 + 1 < w1.heap.size := World.block_lt_of_cell? _ _ cw1_3_0
    have gw1 : Gr W w1 := Gr.trans (by go_grown) hw1
    clear hw1
    go_wp2_with fail
    go_at_call 14
    refine ((H2.out _)).mono ?_
    rintro e w2 ⟨rfl, hw2⟩
    have cw2_0_0 : w2.cell? ⟨W.heap.size, 0, none⟩ = some (.int .i64 ax) := cell_gr hw2 (by go_simp)
    have cw2_0_1 : w2.cell? ⟨W.heap.size, 1, none⟩ = some (.int .i64 ay) := cell_gr hw2 (by go_simp)
    have zw2_0 : W.heap.size < w2.heap.size := World.block_lt_of_cell? _ _ cw2_0_0
    have cw2_1_0 : w2.cell? ⟨W.heap.size + 1, 0, none⟩ = some (.int .i64 bx) := cell_gr hw2 (by go_simp)
    have cw2_1_1 : w2.cell? ⟨W.heap.size + 1, 1, none⟩ = some (.int .i64 by') := cell_gr hw2 (by go_simp)
    have zw2_1 : W.heap.size + 1 < w2.heap.size := World.block_lt_of_cell? _ _ cw2_1_0
    have cw2_2_0 : w2.cell? ⟨W.heap.size + 1 + 1, 0, none⟩ = some (.int .i64 px) := cell_gr hw2 (by go_simp)
    have cw2_2_1 : w2.cell? ⟨W.heap.size + 1 + 1, 1, none⟩ = some (.int .i64 py) := cell_gr hw2 (by go_simp)
    have zw2_2 : W.heap.size + 1 + 1 < w2.heap.size := World.block_lt_of_cell? _ _ cw2_2_0
    have cw2_3_0 : w2.cell? ⟨W.heap.size + 1 + 1 + 1, 0, none⟩ = some (.int .u64 0) := cell_gr hw2 (by go_simp)
    have fw2_3_0 : w2.frozen? ⟨W.heap.size + 1 + 1 + 1, 0, none⟩ = false := frozen_gr (v := .int .u64 0) hw2 (by go_simp) (by go_simp)
    have cw2_3_1 : w2.cell? ⟨W.heap.size + 1 + 1 + 1, 1, none⟩ = some (.int .u64 0) := cell_gr hw2 (by go_simp)
    have fw2_3_1 : w2.frozen? ⟨W.heap.size + 1 + 1 + 1, 1, none⟩ = false := frozen_gr (v := .int .u64 0) hw2 (by go_simp) (by go_simp)
    have cw2_3_2 : w2.cell? ⟨W.heap.size + 1 + 1 + 1, 2, none⟩ = some (.int .u64 0) := cell_gr hw2 (by go_simp)
    have fw2_3_2 : w2.frozen? ⟨W.heap.size + 1 + 1 + 1, 2, none⟩ = false := frozen_gr (v := .int .u64 0) hw2 (by go_simp) (by go_simp)
    have zw2_3 : W.heap.size + 1 + 1 + 1 < w2.heap.size := World.block_lt_of_cell? _ _ cw2_3_0
    have gw2 : Gr W w2 := Gr.trans (by have gg := gw1; have gs := gg.size; go_grown) hw2
    clear hw2 gw1 zw1_0 cw1_0_0 cw1_0_1 zw1_1 cw1_1_0 cw1_1_1 zw1_2 cw1_2_0 cw1_2_1 zw1_3 cw1_3_0 fw1_3_0 cw1_3_1 fw1_3_1 cw1_3_2 fw1_3_2
    go_wp2_with fail
    go_at_call 14
    refine ((H3.out _)).mono ?_
    rintro e w3 ⟨rfl, hw3⟩
    have cw3_0_0 : w3.cell? ⟨W.heap.size, 0, none⟩ = some (.int .i64 ax) := cell_gr hw3 (by go_simp)
    have cw3_0_1 : w3.cell? ⟨W.heap.size, 1, none⟩ = some (.int .i64 ay) := cell_gr hw3 (by go_simp)
    have zw3_0 : W.heap.size < w3.heap.size := World.block_lt_of_cell? _ _ cw3_0_0
    have cw3_1_0 : w3.cell? ⟨W.heap.size + 1, 0, none⟩ = some (.int .i64 bx) := cell_gr hw3 (by go_simp)
    have cw3_1_1 : w3.cell? ⟨W.heap.size + 1, 1, none⟩ = some (.int .i64 by') := cell_gr hw3 (by go_simp)
    have zw3_1 : W.heap.size + 1 < w3.heap.size := World.block_lt_of_cell? _ _ cw3_1_0
    have cw3_2_0 : w3.cell? ⟨W.heap.size + 1 + 1, 0, none⟩ = some (.int .i64 px) := cell_gr hw3 (by go_simp)
    have cw3_2_1 : w3.cell? ⟨W.heap.size + 1 + 1, 1, none⟩ = some (.int .i64 py) := cell_gr hw3 (by go_simp)
    have zw3_2 : W.heap.size + 1 + 1 < w3.heap.size := World.block_lt_of_cell? _ _ cw3_2_0
    have cw3_3_0 : w3.cell? ⟨W.heap.size + 1 + 1 + 1, 0, none⟩ = some (.int .u64 0) := cell_gr hw3 (by go_simp)
    have fw3_3_0 : w3.frozen? ⟨W.heap.size + 1 + 1 + 1, 0, none⟩ = false := frozen_gr (v := .int .u64 0) hw3 (by go_simp) (by go_simp)
    have cw3_3_1 : w3.cell? ⟨W.heap.size + 1 + 1 + 1, 1, none⟩ = some (.int .u64 0) := cell_gr hw3 (by go_simp)
    have fw3_3_1 : w3.frozen? ⟨W.heap.size + 1 + 1 + 1, 1, none⟩ = false := frozen_gr (v := .int .u64 0) hw3 (by go_simp) (by go_simp)
    have cw3_3_2 : w3.cell? ⟨W.heap.size + 1 + 1 + 1, 2, none⟩ = some (.int .u64 0) := cell_gr hw3 (by go_simp)
    have fw3_3_2 : w3.frozen? ⟨W.heap.size + 1 + 1 + 1, 2, none⟩ = false := frozen_gr (v := .int .u64 0) hw3 (by go_simp) (by go_simp)
    have zw3_3 : W.heap.size + 1 + 1 + 1 < w3.heap.size := World.block_lt_of_cell? _ _ cw3_3_0
    have gw3 : Gr W w3 := Gr.trans (by have gg := gw2; have gs := gg.size; go_grown) hw3
    clear hw3 gw2 zw2_0 cw2_0_0 cw2_0_1 zw2_1 cw2_1_0 cw2_1_1 zw2_2 cw2_2_0 cw2_2_1 zw2_3 cw2_3_0 fw2_3_0 cw2_3_1 fw2_3_1 cw2_3_2 fw2_3_2
    go_wp2_with fail
    go_at_call 76
    refine ((H4.out _)).mono ?_
    rintro e w4 ⟨rfl, hw4⟩
    have cw4_0_0 : w4.cell? ⟨W.heap.size, 0, none⟩ = some (.int .i64 ax) := cell_gr hw4 (by go_simp)
    have cw4_0_1 : w4.cell? ⟨W.heap.size, 1, none⟩ = some (.int .i64 ay) := cell_gr hw4 (by go_simp)
    have zw4_0 : W.heap.size < w4.heap.size := World.block_lt_of_cell? _ _ cw4_0_0
    have cw4_1_0 : w4.cell? ⟨W.heap.size + 1, 0, none⟩ = some (.int .i64 bx) := cell_gr hw4 (by go_simp)
    have cw4_1_1 : w4.cell? ⟨W.heap.size + 1, 1, none⟩ = some (.int .i64 by') := cell_gr hw4 (by go_simp)
    have zw4_1 : W.heap.size + 1 < w4.heap.size := World.block_lt_of_cell? _ _ cw4_1_0
    have cw4_2_0 : w4.cell? ⟨W.heap.size + 1 + 1, 0, none⟩ = some (.int .i64 px) := cell_gr hw4 (by go_simp)
    have cw4_2_1 : w4.cell? ⟨W.heap.size + 1 + 1, 1, none⟩ = some (.int .i64 py) := cell_gr hw4 (by go_simp)
    have zw4_2 : W.heap.size + 1 + 1 < w4.heap.size := World.block_lt_of_cell? _ _ cw4_2_0
    have cw4_3_0 : w4.cell? ⟨W.heap.size + 1 + 1 + 1, 0, none⟩ = some (.int .u64 0) := cell_gr hw4 (by go_simp)
    have fw4_3_0 : w4.frozen? ⟨W.heap.size + 1 + 1 + 1, 0, none⟩ = false := frozen_gr (v := .int .u64 0) hw4 (by go_simp) (by go_simp)
    have cw4_3_1 : w4.cell? ⟨W.heap.size + 1 + 1 + 1, 1, none⟩ = some (.int .u64 0) := cell_gr hw4 (by go_simp)
    have fw4_3_1 : w4.frozen? ⟨W.heap.size + 1 + 1 + 1, 1, none⟩ = false := frozen_gr (v := .int .u64 0) hw4 (by go_simp) (by go_simp)
    have cw4_3_2 : w4.cell? ⟨W.heap.size + 1 + 1 + 1, 2, none⟩ = some (.int .u64 0) := cell_gr hw4 (by go_simp)
    have fw4_3_2 : w4.frozen? ⟨W.heap.size + 1 + 1 + 1, 2, none⟩ = false := frozen_gr (v := .int .u64 0) hw4 (by go_simp) (by go_simp)
    have zw4_3 : W.heap.size + 1 + 1 + 1 < w4.heap.size := World.block_lt_of_cell? _ _ cw4_3_0
    have gw4 : Gr W w4 := Gr.trans (by have gg := gw3; have gs := gg.size; go_grown) hw4
    clear hw4 gw3 zw3_0 cw3_0_0 cw3_0_1 zw3_1 cw3_1_0 cw3_1_1 zw3_2 cw3_2_0 cw3_2_1 zw3_3 cw3_3_0 fw3_3_0 cw3_3_1 fw3_3_1 cw3_3_2 fw3_3_2
    go_wp2_with fail
    go_at_call 33
    refine ((H6.out _)).mono ?_
    rintro e w5 ⟨rfl, hw5⟩
    have cw5_0_0 : w5.cell? ⟨W.heap.size, 0, none⟩ = some (.int .i64 ax) := cell_gr hw5 (by go_simp)
    have cw5_0_1 : w5.cell? ⟨W.heap.size, 1, none⟩ = some (.int .i64 ay) := cell_gr hw5 (by go_simp)
    have zw5_0 : W.heap.size < w5.heap.size := World.block_lt_of_cell? _ _ cw5_0_0
    have cw5_1_0 : w5.cell? ⟨W.heap.size + 1, 0, none⟩ = some (.int .i64 bx) := cell_gr hw5 (by go_simp)
    have cw5_1_1 : w5.cell? ⟨W.heap.size + 1, 1, none⟩ = some (.int .i64 by') := cell_gr hw5 (by go_simp)
    have zw5_1 : W.heap.size + 1 < w5.heap.size := World.block_lt_of_cell? _ _ cw5_1_0
    have cw5_2_0 : w5.cell? ⟨W.heap.size + 1 + 1, 0, none⟩ = some (.int .i64 px) := cell_gr hw5 (by go_simp)
    have cw5_2_1 : w5.cell? ⟨W.heap.size + 1 + 1, 1, none⟩ = some (.int .i64 py) := cell_gr hw5 (by go_simp)
    have zw5_2 : W.heap.size + 1 + 1 < w5.heap.size := World.block_lt_of_cell? _ _ cw5_2_0
    have cw5_3_0 : w5.cell? ⟨W.heap.size + 1 + 1 + 1, 0, none⟩ = some (.int .u64 0) := cell_gr hw5 (by go_simp)
    have fw5_3_0 : w5.frozen? ⟨W.heap.size + 1 + 1 + 1, 0, none⟩ = false := frozen_gr (v := .int .u64 0) hw5 (by go_simp) (by go_simp)
    have cw5_3_1 : w5.cell? ⟨W.heap.size + 1 + 1 + 1, 1, none⟩ = some (.int .u64 0) := cell_gr hw5 (by go_simp)
    have fw5_3_1 : w5.frozen? ⟨W.heap.size + 1 + 1 + 1, 1, none⟩ = false := frozen_gr (v := .int .u64 0) hw5 (by go_simp) (by go_simp)
    have cw5_3_2 : w5.cell? ⟨W.heap.size + 1 + 1 + 1, 2, none⟩ = some (.int .u64 0) := cell_gr hw5 (by go_simp)
    have fw5_3_2 : w5.frozen? ⟨W.heap.size + 1 + 1 + 1, 2, none⟩ = false := frozen_gr (v := .int .u64 0) hw5 (by go_simp) (by go_simp)
    have zw5_3 : W.heap.size + 1 + 1 + 1 < w5.heap.size := World.block_lt_of_cell? _ _ cw5_3_0
    have gw5 : Gr W w5 := Gr.trans (by have gg := gw4; have gs := gg.size; go_grown) hw5
    clear hw5 gw4 zw4_0 cw4_0_0 cw4_0_1 zw4_1 cw4_1_0 cw4_1_1 zw4_2 cw4_2_0 cw4_2_1 zw4_3 cw4_3_0 fw4_3_0 cw4_3_1 fw4_3_1 cw4_3_2 fw4_3_2
    go_wp2_with fail
    refine bodyPost_ret (v := .agg #[.int .u64 0, .int .u64 r2, .int .u64 1]) (by simp [results, Try.results31, go_sem, *]) rfl ⟨rfl, by go_grown⟩
  · go_enter Try.func31, Try.ntmps31
    go_wp2_with fail
    go_at_call 14
    refine ((H1.out _)).mono ?_
    rintro e w1 ⟨rfl, hw1⟩
    have cw1_0_0 : w1.cell? ⟨W.heap.size, 0, none⟩ = some (.int .i64 ax) := cell_gr hw1 (by go_simp)
    have cw1_0_1 : w1.cell? ⟨W.heap.size, 1, none⟩ = some (.int .i64 ay) := cell_gr hw1 (by go_simp)
    have zw1_0 : W.heap.size < w1.heap.size := World.block_lt_of_cell? _ _ cw1_0_0
    have cw1_1_0 : w1.cell? ⟨W.heap.size + 1, 0, none⟩ = some (.int .i64 bx) := cell_gr hw1 (by go_simp)
    have cw1_1_1 : w1.cell? ⟨W.heap.size + 1, 1, none⟩ = some (.int .i64 by') := cell_gr hw1 (by go_simp)
    have zw1_1 : W.heap.size + 1 < w1.heap.size := World.block_lt_of_cell? _ _ cw1_1_0
    have cw1_2_0 : w1.cell? ⟨W.heap.size + 1 + 1, 0, none⟩ = some (.int .i64 px) := cell_gr hw1 (by go_simp)
    have cw1_2_1 : w1.cell? ⟨W.heap.size + 1 + 1, 1, none⟩ = some (.int .i64 py) := cell_gr hw1 (by go_simp)
    have zw1_2 : W.heap.size + 1 + 1 < w1.heap.size := World.block_lt_of_cell? _ _ cw1_2_0
    have cw1_3_0 : w1.cell? ⟨W.heap.size + 1 + 1 + 1, 0, none⟩ = some (.int .u64 0) := cell_gr hw1 (by go_simp)
    have fw1_3_0 : w1.frozen? ⟨W.heap.size + 1 + 1 + 1, 0, none⟩ = false := frozen_gr (v := .int .u64 0) hw1 (by go_simp) (by go_simp)
    have cw1_3_1 : w1.cell? ⟨W.heap.size + 1 + 1 + 1, 1, none⟩ = some (.int .u64 0) := cell_gr hw1 (by go_simp)
    have fw1_3_1 : w1.frozen? ⟨W.heap.size + 1 + 1 + 1, 1, none⟩ = false := frozen_gr (v := .int .u64 0) hw1 (by go_simp) (by go_simp)
    have cw1_3_2 : w1.cell? ⟨W.heap.size + 1 + 1 + 1, 2, none⟩ = some (.int .u64 0) := cell_gr hw1 (by go_simp)
    have fw1_3_2 : w1.frozen? ⟨W.heap.size + 1 + 1 + 1, 2, none⟩ = false := frozen_gr (v := .int .u64 0) hw1 (by go_simp) (by go_simp)
    have zw1_3 : W.heap.size + 1 + 1 + 1 < w1.heap.size := World.block_lt_of_cell? _ _ cw1_3_0
    have gw1 : Gr W w1 := Gr.trans (by go_grown) hw1
    clear hw1
    go_wp2_with fail
    go_at_call 14
    refine ((H2.out _)).mono ?_
    rintro e w2 ⟨rfl, hw2⟩
    have cw2_0_0 : w2.cell? ⟨W.heap.size, 0, none⟩ = some (.int .i64 ax) := cell_gr hw2 (by go_simp)
    have cw2_0_1 : w2.cell? ⟨W.heap.size, 1, none⟩ = some (.int .i64 ay) := cell_gr hw2 (by go_simp)
    have zw2_0 : W.heap.size < w2.heap.size := World.block_lt_of_cell? _ _ cw2_0_0
    have cw2_1_0 : w2.cell? ⟨W.heap.size + 1, 0, none⟩ = some (.int .i64 bx) := cell_gr hw2 (by go_simp)
    have cw2_1_1 : w2.cell? ⟨W.heap.size + 1, 1, none⟩ = some (.int .i64 by') := cell_gr hw2 (by go_simp)
    have zw2_1 : W.heap.size + 1 < w2.heap.size := World.block_lt_of_cell? _ _ cw2_1_0
    have cw2_2_0 : w2.cell? ⟨W.heap.size + 1 + 1, 0, none⟩ = some (.int .i64 px) := cell_gr hw2 (by go_simp)
    have cw2_2_1 : w2.cell? ⟨W.heap.size + 1 + 1, 1, none⟩ = some (.int .i64 py) := cell_gr hw2 (by go_simp)
    have zw2_2 : W.heap.size + 1 + 1 < w2.heap.size := World.block_lt_of_cell? _ _ cw2_2_0
    have cw2_3_0 : w2.cell? ⟨W.heap.size + 1 + 1 + 1, 0, none⟩ = some (.int .u64 0) := cell_gr hw2 (by go_simp)
    have fw2_3_0 : w2.frozen? ⟨W.heap.size + 1 + 1 + 1, 0, none⟩ = false := frozen_gr (v := .int .u64 0) hw2 (by go_simp) (by go_simp)
    have cw2_3_1 : w2.cell? ⟨W.heap.size + 1 + 1 + 1, 1, none⟩ = some (.int .u64 0) := cell_gr hw2 (by go_simp)
    have fw2_3_1 : w2.frozen? ⟨W.heap.size + 1 + 1 + 1, 1, none⟩ = false := frozen_gr (v := .int .u64 0) hw2 (by go_simp) (by go_simp)
    have cw2_3_2 : w2.cell? ⟨W.heap.size + 1 + 1 + 1, 2, none⟩ = some (.int .u64 0) := cell_gr hw2 (by go_simp)
    have fw2_3_2 : w2.frozen? ⟨W.heap.size + 1 + 1 + 1, 2, none⟩ = false := frozen_gr (v := .int .u64 0) hw2 (by go_simp) (by go_simp)
    have zw2_3 : W.heap.size + 1 + 1 + 1 < w2.heap.size := World.block_lt_of_cell? _ _ cw2_3_0
    have gw2 : Gr W w2 := Gr.trans (by have gg := gw1; have gs := gg.size; go_grown) hw2
    clear hw2 gw1 zw1_0 cw1_0_0 cw1_0_1 zw1_1 cw1_1_0 cw1_1_1 zw1_2 cw1_2_0 cw1_2_1 zw1_3 cw1_3_0 fw1_3_0 cw1_3_1 fw1_3_1 cw1_3_2 fw1_3_2
    go_wp2_with fail
    go_at_call 14
    refine ((H3.out _)).mono ?_
    rintro e w3 ⟨rfl, hw3⟩
    have cw3_0_0 : w3.cell? ⟨W.heap.size, 0, none⟩ = some (.int .i64 ax) := cell_gr hw3 (by go_simp)
    have cw3_0_1 : w3.cell? ⟨W.heap.size, 1, none⟩ = some (.int .i64 ay) := cell_gr hw3 (by go_simp)
    have zw3_0 : W.heap.size < w3.heap.size := World.block_lt_of_cell? _ _ cw3_0_0
    have cw3_1_0 : w3.cell? ⟨W.heap.size + 1, 0, none⟩ = some (.int .i64 bx) := cell_gr hw3 (by go_simp)
    have cw3_1_1 : w3.cell? ⟨W.heap.size + 1, 1, none⟩ = some (.int .i64 by') := cell_gr hw3 (by go_simp)
    have zw3_1 : W.heap.size + 1 < w3.heap.size := World.block_lt_of_cell? _ _ cw3_1_0
    have cw3_2_0 : w3.cell? ⟨W.heap.size + 1 + 1, 0, none⟩ = some (.int .i64 px) := cell_gr hw3 (by go_simp)
    have cw3_2_1 : w3.cell? ⟨W.heap.size + 1 + 1, 1, none⟩ = some (.int .i64 py) := cell_gr hw3 (by go_simp)
    have zw3_2 : W.heap.size + 1 + 1 < w3.heap.size := World.block_lt_of_cell? _ _ cw3_2_0
    have cw3_3_0 : w3.cell? ⟨W.heap.size + 1 + 1 + 1, 0, none⟩ = some (.int .u64 0) := cell_gr hw3 (by go_simp)
    have fw3_3_0 : w3.frozen? ⟨W.heap.size + 1 + 1 + 1, 0, none⟩ = false := frozen_gr (v := .int .u64 0) hw3 (by go_simp) (by go_simp)
    have cw3_3_1 : w3.cell? ⟨W.heap.size + 1 + 1 + 1, 1, none⟩ = some (.int .u64 0) := cell_gr hw3 (by go_simp)
    have fw3_3_1 : w3.frozen? ⟨W.heap.size + 1 + 1 + 1, 1, none⟩ = false := frozen_gr (v := .int .u64 0) hw3 (by go_simp) (by go_simp)
    have cw3_3_2 : w3.cell? ⟨W.heap.size + 1 + 1 + 1, 2, none⟩ = some (.int .u64 0) := cell_gr hw3 (by go_simp)
    have fw3_3_2 : w3.frozen? ⟨W.heap.size + 1 + 1 + 1, 2, none⟩ = false := frozen_gr (v := .int .u64 0) hw3 (by go_simp) (by go_simp)
    have zw3_3 : W.heap.size + 1 + 1 + 1 < w3.heap.size := World.block_lt_of_cell? _ _ cw3_3_0
    have gw3 : Gr W w3 := Gr.trans (by have gg := gw2; have gs := gg.size; go_grown) hw3
    clear hw3 gw2 zw2_0 cw2_0_0 cw2_0_1 zw2_1 cw2_1_0 cw2_1_1 zw2_2 cw2_2_0 cw2_2_1 zw2_3 cw2_3_0 fw2_3_0 cw2_3_1 fw2_3_1 cw2_3_2 fw2_3_2
    go_wp2_with fail
    go_at_call 76
    refine ((H4.out _)).mono ?_
    rintro e w4 ⟨rfl, hw4⟩
    have cw4_0_0 : w4.cell? ⟨W.heap.size, 0, none⟩ = some (.int .i64 ax) := cell_gr hw4 (by go_simp)
    have cw4_0_1 : w4.cell? ⟨W.heap.size, 1, none⟩ = some (.int .i64 ay) := cell_gr hw4 (by go_simp)
    have zw4_0 : W.heap.size < w4.heap.size := World.block_lt_of_cell? _ _ cw4_0_0
    have cw4_1_0 : w4.cell? ⟨W.heap.size + 1, 0, none⟩ = some (.int .i64 bx) := cell_gr hw4 (by go_simp)
    have cw4_1_1 : w4.cell? ⟨W.heap.size + 1, 1, none⟩ = some (.int .i64 by') := cell_gr hw4 (by go_simp)
    have zw4_1 : W.heap.size + 1 < w4.heap.size := World.block_lt_of_cell? _ _ cw4_1_0
    have cw4_2_0 : w4.cell? ⟨W.heap.size + 1 + 1, 0, none⟩ = some (.int .i64 px) := cell_gr hw4 (by go_simp)
    have cw4_2_1 : w4.cell? ⟨W.heap.size + 1 + 1, 1, none⟩ = some (.int .i64 py) := cell_gr hw4 (by go_simp)
    have zw4_2 : W.heap.size + 1 + 1 < w4.heap.size := World.block_lt_of_cell? _ _ cw4_2_0
    have cw4_3_0 : w4.cell? ⟨W.heap.size + 1 + 1 + 1, 0, none⟩ = some (.int .u64 0) := cell_gr hw4 (by go_simp)
    have fw4_3_0 : w4.frozen? ⟨W.heap.size + 1 + 1 + 1, 0, none⟩ = false := frozen_gr (v := .int .u64 0) hw4 (by go_simp) (by go_simp)
    have cw4_3_1 : w4.cell? ⟨W.heap.size + 1 + 1 + 1, 1, none⟩ = some (.int .u64 0) := cell_gr hw4 (by go_simp)
    have fw4_3_1 : w4.frozen? ⟨W.heap.size + 1 + 1 + 1, 1, none⟩ = false := frozen_gr (v := .int .u64 0) hw4 (by go_simp) (by go_simp)
    have cw4_3_2 : w4.cell? ⟨W.heap.size + 1 + 1 + 1, 2, none⟩ = some (.int .u64 0) := cell_gr hw4 (by go_simp)
    have fw4_3_2 : w4.frozen? ⟨W.heap.size + 1 + 1 + 1, 2, none⟩ = false := frozen_gr (v := .int .u64 0) hw4 (by go_simp) (by go_simp)
    have zw4_3 : W.heap.size + 1 + 1 + 1 < w4.heap.size := World.block_lt_of_cell? _ _ cw4_3_0
    have gw4 : Gr W w4 := Gr.trans (by have gg := gw3; have gs := gg.size; go_grown) hw4
    clear hw4 gw3 zw3_0 cw3_0_0 cw3_0_1 zw3_1 cw3_1_0 cw3_1_1 zw3_2 cw3_2_0 cw3_2_1 zw3_3 cw3_3_0 fw3_3_0 cw3_3_1 fw3_3_1 cw3_3_2 fw3_3_2
    go_wp2_with fail
    go_at_call 76
    refine ((H5.out _)).mono ?_
    rintro e w5 ⟨rfl, hw5⟩
    have cw5_0_0 : w5.cell? ⟨W.heap.size, 0, none⟩ = some (.int .i64 ax) := cell_gr hw5 (by go_simp)
    have cw5_0_1 : w5.cell? ⟨W.heap.size, 1, none⟩ = some (.int .i64 ay) := cell_gr hw5 (by go_simp)
    have zw5_0 : W.heap.size < w5.heap.size := World.block_lt_of_cell? _ _ cw5_0_0
    have cw5_1_0 : w5.cell? ⟨W.heap.size + 1, 0, none⟩ = some (.int .i64 bx) := cell_gr hw5 (by go_simp)
    have cw5_1_1 : w5.cell? ⟨W.heap.size + 1, 1, none⟩ = some (.int .i64 by') := cell_gr hw5 (by go_simp)
    have zw5_1 : W.heap.size + 1 < w5.heap.size := World.block_lt_of_cell? _ _ cw5_1_0
    have cw5_2_0 : w5.cell? ⟨W.heap.size + 1 + 1, 0, none⟩ = some (.int .i64 px) := cell_gr hw5 (by go_simp)
    have cw5_2_1 : w5.cell? ⟨W.heap.size + 1 + 1, 1, none⟩ = some (.int .i64 py) := cell_gr hw5 (by go_simp)
    have zw5_2 : W.heap.size + 1 + 1 < w5.heap.size := World.block_lt_of_cell? _ _ cw5_2_0
    have cw5_3_0 : w5.cell? ⟨W.heap.size + 1 + 1 + 1, 0, none⟩ = some (.int .u64 0) := cell_gr hw5 (by go_simp)
    have fw5_3_0 : w5.frozen? ⟨W.heap.size + 1 + 1 + 1, 0, none⟩ = false := frozen_gr (v := .int .u64 0) hw5 (by go_simp) (by go_simp)
    have cw5_3_1 : w5.cell? ⟨W.heap.size + 1 + 1 + 1, 1, none⟩ = some (.int .u64 0) := cell_gr hw5 (by go_simp)
    have fw5_3_1 : w5.frozen? ⟨W.heap.size + 1 + 1 + 1, 1, none⟩ = false := frozen_gr (v := .int .u64 0) hw5 (by go_simp) (by go_simp)
    have cw5_3_2 : w5.cell? ⟨W.heap.size + 1 + 1 + 1, 2, none⟩ = some (.int .u64 0) := cell_gr hw5 (by go_simp)
    have fw5_3_2 : w5.frozen? ⟨W.heap.size + 1 + 1 + 1, 2, none⟩ = false := frozen_gr (v := .int .u64 0) hw5 (by go_simp) (by go_simp)
    have zw5_3 : W.heap.size + 1 + 1 + 1 < w5.heap.size := World.block_lt_of_cell? _ _ cw5_3_0
    have gw5 : Gr W w5 := Gr.trans (by have gg := gw4; have gs := gg.size; go_grown) hw5
    clear hw5 gw4 zw4_0 cw4_0_0 cw4_0_1 zw4_1 cw4_1_0 cw4_1_1 zw4_2 cw4_2_0 cw4_2_1 zw4_3 cw4_3_0 fw4_3_0 cw4_3_1 fw4_3_1 cw4_3_2 fw4_3_2
    go_wp2_with fail
    go_at_call 33
    refine ((H7.out _)).mono ?_
    rintro e w6 ⟨rfl, hw6⟩
    have cw6_0_0 : w6.cell? ⟨W.heap.size, 0, none⟩ = some (.int .i64 ax) := cell_gr hw6 (by go_simp)
    have cw6_0_1 : w6.cell? ⟨W.heap.size, 1, none⟩ = some (.int .i64 ay) := cell_gr hw6 (by go_simp)
    have zw6_0 : W.heap.size < w6.heap.size := World.block_lt_of_cell? _ _ cw6_0_0
    have cw6_1_0 : w6.cell? ⟨W.heap.size + 1, 0, none⟩ = some (.int .i64 bx) := cell_gr hw6 (by go_simp)
    have cw6_1_1 : w6.cell? ⟨W.heap.size + 1, 1, none⟩ = some (.int .i64 by') := cell_gr hw6 (by go_simp)
    have zw6_1 : W.heap.size + 1 < w6.heap.size := World.block_lt_of_cell? _ _ cw6_1_0
    have cw6_2_0 : w6.cell? ⟨W.heap.size + 1 + 1, 0, none⟩ = some (.int .i64 px) := cell_gr hw6 (by go_simp)
    have cw6_2_1 : w6.cell? ⟨W.heap.size + 1 + 1, 1, none⟩ = some (.int .i64 py) := cell_gr hw6 (by go_simp)
    have zw6_2 : W.heap.size + 1 + 1 < w6.heap.size := World.block_lt_of_cell? _ _ cw6_2_0
    have cw6_3_0 : w6.cell? ⟨W.heap.size + 1 + 1 + 1, 0, none⟩ = some (.int .u64 0) := cell_gr hw6 (by go_simp)
    have fw6_3_0 : w6.frozen? ⟨W.heap.size + 1 + 1 + 1, 0, none⟩ = false := frozen_gr (v := .int .u64 0) hw6 (by go_simp) (by go_simp)
    have cw6_3_1 : w6.cell? ⟨W.heap.size + 1 + 1 + 1, 1, none⟩ = some (.int .u64 0) := cell_gr hw6 (by go_simp)
    have fw6_3_1 : w6.frozen? ⟨W.heap.size + 1 + 1 + 1, 1, none⟩ = false := frozen_gr (v := .int .u64 0) hw6 (by go_simp) (by go_simp)
    have cw6_3_2 : w6.cell? ⟨W.heap.size + 1 + 1 + 1, 2, none⟩ = some (.int .u64 0) := cell_gr hw6 (by go_simp)
    have fw6_3_2 : w6.frozen? ⟨W.heap.size + 1 + 1 + 1, 2, none⟩ = false := frozen_gr (v := .int .u64 0) hw6 (by go_simp) (by go_simp)
    have zw6_3 : W.heap.size + 1 + 1 + 1 < w6.heap.size := World.block_lt_of_cell? _ _ cw6_3_0
    have gw6 : Gr W w6 := Gr.trans (by have gg := gw5; have gs := gg.size; go_grown) hw6
    clear hw6 gw5 zw5_0 cw5_0_0 cw5_0_1 zw5_1 cw5_1_0 cw5_1_1 zw5_2 cw5_2_0 cw5_2_1 zw5_3 cw5_3_0 fw5_3_0 cw5_3_1 fw5_3_1 cw5_3_2 fw5_3_2
    go_wp2_with fail
    refine bodyPost_ret (v := .agg #[.int .u64 0, .int .u64 r2, .int .u64 1]) (by simp [results, Try.results31, go_sem, *]) rfl ⟨rfl, by go_grown⟩
  · have HL := Lib.hid AL
    clear AL
    have FD := field_lo 0 wh
    go_enter Try.func31, Try.ntmps31
    go_wp2_with fail
    go_at_call 14
    refine ((H1.out _)).mono ?_
    rintro e w1 ⟨rfl, hw1⟩
    have cw1_0_0 : w1.cell? ⟨W.heap.size, 0, none⟩ = some (.int .i64 ax) := cell_gr hw1 (by go_simp)
    have cw1_0_1 : w1.cell? ⟨W.heap.size, 1, none⟩ = some (.int .i64 ay) := cell_gr hw1 (by go_simp)
    have zw1_0 : W.heap.size < w1.heap.size := World.block_lt_of_cell? _ _ cw1_0_0
    have cw1_1_0 : w1.cell? ⟨W.heap.size + 1, 0, none⟩ = some (.int .i64 bx) := cell_gr hw1 (by go_simp)
    have cw1_1_1 : w1.cell? ⟨W.heap.size + 1, 1, none⟩ = some (.int .i64 by') := cell_gr hw1 (by go_simp)
    have zw1_1 : W.heap.size + 1 < w1.heap.size := World.block_lt_of_cell? _ _ cw1_1_0
    have cw1_2_0 : w1.cell? ⟨W.heap.size + 1 + 1, 0, none⟩ = some (.int .i64 px) := cell_gr hw1 (by go_simp)
    have cw1_2_1 : w1.cell? ⟨W.heap.size + 1 + 1, 1, none⟩ = some (.int .i64 py) := cell_gr hw1 (by go_simp)
    have zw1_2 : W.heap.size + 1 + 1 < w1.heap.size := World.block_lt_of_cell? _ _ cw1_2_0
    have cw1_3_0 : w1.cell? ⟨W.heap.size + 1 + 1 + 1, 0, none⟩ = some (.int .u64 0) := cell_gr hw1 (by go_simp)
    have fw1_3_0 : w1.frozen? ⟨W.heap.size + 1 + 1 + 1, 0, none⟩ = false := frozen_gr (v := .int .u64 0) hw1 (by go_simp) (by go_simp)
    have cw1_3_1 : w1.cell? ⟨W.heap.size + 1 + 1 + 1, 1, none⟩ = some (.int .u64 0) := cell_gr hw1 (by go_simp)
    have fw1_3_1 : w1.frozen? ⟨W.heap.size + 1 + 1 + 1, 1, none⟩ = false := frozen_gr (v := .int .u64 0) hw1 (by go_simp) (by go_simp)
    have cw1_3_2 : w1.cell? ⟨W.heap.size + 1 + 1 + 1, 2, none⟩ = some (.int .u64 0) := cell_gr hw1 (by go_simp)
    have fw1_3_2 : w1.frozen? ⟨W.heap.size + 1 + 1 + 1, 2, none⟩ = false := frozen_gr (v := .int .u64 0) hw1 (by go_simp) (by go_simp)
    have zw1_3 : W.heap.size + 1 + 1 + 1 < w1.heap.size := World.block_lt_of_cell? _ _ cw1_3_0
    have gw1 : Gr W w1 := Gr.trans (by go_grown) hw1
    clear hw1
    go_wp2_with fail
    go_at_call 14
    refine ((H2.out _)).mono ?_
    rintro e w2 ⟨rfl, hw2⟩
    have cw2_0_0 : w2.cell? ⟨W.heap.size, 0, none⟩ = some (.int .i64 ax) := cell_gr hw2 (by go_simp)
    have cw2_0_1 : w2.cell? ⟨W.heap.size, 1, none⟩ = some (.int .i64 ay) := cell_gr hw2 (by go_simp)
    have zw2_0 : W.heap.size < w2.heap.size := World.block_lt_of_cell? _ _ cw2_0_0
    have cw2_1_0 : w2.cell? ⟨W.heap.size + 1, 0, none⟩ = some (.int .i64 bx) := cell_gr hw2 (by go_simp)
    have cw2_1_1 : w2.cell? ⟨W.heap.size + 1, 1, none⟩ = some (.int .i64 by') := cell_gr hw2 (by go_simp)
    have zw2_1 : W.heap.size + 1 < w2.heap.size := World.block_lt_of_cell? _ _ cw2_1_0
    have cw2_2_0 : w2.cell? ⟨W.heap.size + 1 + 1, 0, none⟩ = some (.int .i64 px) := cell_gr hw2 (by go_simp)
    have cw2_2_1 : w2.cell? ⟨W.heap.size + 1 + 1, 1, none⟩ = some (.int .i64 py) := cell_gr hw2 (by go_simp)
    have zw2_2 : W.heap.size + 1 + 1 < w2.heap.size := World.block_lt_of_cell? _ _ cw2_2_0
    have cw2_3_0 : w2.cell? ⟨W.heap.size + 1 + 1 + 1, 0, none⟩ = some (.int .u64 0) := cell_gr hw2 (by go_simp)
    have fw2_3_0 : w2.frozen? ⟨W.heap.size + 1 + 1 + 1, 0, none⟩ = false := frozen_gr (v := .int .u64 0) hw2 (by go_simp) (by go_simp)
    have cw2_3_1 : w2.cell? ⟨W.heap.size + 1 + 1 + 1, 1, none⟩ = some (.int .u64 0) := cell_gr hw2 (by go_simp)
    have fw2_3_1 : w2.frozen? ⟨W.heap.size + 1 + 1 + 1, 1, none⟩ = false := frozen_gr (v := .int .u64 0) hw2 (by go_simp) (by go_simp)
    have cw2_3_2 : w2.cell? ⟨W.heap.size + 1 + 1 + 1, 2, none⟩ = some (.int .u64 0) := cell_gr hw2 (by go_simp)
    have fw2_3_2 : w2.frozen? ⟨W.heap.size + 1 + 1 + 1, 2, none⟩ = false := frozen_gr (v := .int .u64 0) hw2 (by go_simp) (by go_simp)
    have zw2_3 : W.heap.size + 1 + 1 + 1 < w2.heap.size := World.block_lt_of_cell? _ _ cw2_3_0
    have gw2 : Gr W w2 := Gr.trans (by have gg := gw1; have gs := gg.size; go_grown) hw2
    clear hw2 gw1 zw1_0 cw1_0_0 cw1_0_1 zw1_1 cw1_1_0 cw1_1_1 zw1_2 cw1_2_0 cw1_2_1 zw1_3 cw1_3_0 fw1_3_0 cw1_3_1 fw1_3_1 cw1_3_2 fw1_3_2
    go_wp2_with fail
    go_at_call 14
    refine ((H3.out _)).mono ?_
    rintro e w3 ⟨rfl, hw3⟩
    have cw3_0_0 : w3.cell? ⟨W.heap.size, 0, none⟩ = some (.int .i64 ax) := cell_gr hw3 (by go_simp)
    have cw3_0_1 : w3.cell? ⟨W.heap.size, 1, none⟩ = some (.int .i64 ay) := cell_gr hw3 (by go_simp)
    have zw3_0 : W.heap.size < w3.heap.size := World.block_lt_of_cell? _ _ cw3_0_0
    have cw3_1_0 : w3.cell? ⟨W.heap.size + 1, 0, none⟩ = some (.int .i64 bx) := cell_gr hw3 (by go_simp)
    have cw3_1_1 : w3.cell? ⟨W.heap.size + 1, 1, none⟩ = some (.int .i64 by') := cell_gr hw3 (by go_simp)
    have zw3_1 : W.heap.size + 1 < w3.heap.size := World.block_lt_of_cell? _ _ cw3_1_0
    have cw3_2_0 : w3.cell? ⟨W.heap.size + 1 + 1, 0, none⟩ = some (.int .i64 px) := cell_gr hw3 (by go_simp)
    have cw3_2_1 : w3.cell? ⟨W.heap.size + 1 + 1, 1, none⟩ = some (.int .i64 py) := cell_gr hw3 (by go_simp)
    have zw3_2 : W.heap.size + 1 + 1 < w3.heap.size := World.block_lt_of_cell? _ _ cw3_2_0
    have cw3_3_0 : w3.cell? ⟨W.heap.size + 1 + 1 + 1, 0, none⟩ = some (.int .u64 0) := cell_gr hw3 (by go_simp)
    have fw3_3_0 : w3.frozen? ⟨W.heap.size + 1 + 1 + 1, 0, none⟩ = false := frozen_gr (v := .int .u64 0) hw3 (by go_simp) (by go_simp)
    have cw3_3_1 : w3.cell? ⟨W.heap.size + 1 + 1 + 1, 1, none⟩ = some (.int .u64 0) := cell_gr hw3 (by go_simp)
    have fw3_3_1 : w3.frozen? ⟨W.heap.size + 1 + 1 + 1, 1, none⟩ = false := frozen_gr (v := .int .u64 0) hw3 (by go_simp) (by go_simp)
    have cw3_3_2 : w3.cell? ⟨W.heap.size + 1 + 1 + 1, 2, none⟩ = some (.int .u64 0) := cell_gr hw3 (by go_simp)
    have fw3_3_2 : w3.frozen? ⟨W.heap.size + 1 + 1 + 1, 2, none⟩ = false := frozen_gr (v := .int .u64 0) hw3 (by go_simp) (by go_simp)
    have zw3_3 : W.heap.size + 1 + 1 + 1 < w3.heap.size := World.block_lt_of_cell? _ _ cw3_3_0
    have gw3 : Gr W w3 := Gr.trans (by have gg := gw2; have gs := gg.size; go_grown) hw3
    clear hw3 gw2 zw2_0 cw2_0_0 cw2_0_1 zw2_1 cw2_1_0 cw2_1_1 zw2_2 cw2_2_0 cw2_2_1 zw2_3 cw2_3_0 fw2_3_0 cw2_3_1 fw2_3_1 cw2_3_2 fw2_3_2
    go_wp2_with fail
    go_at_call 76
    refine ((H4.out _)).mono ?_
    rintro e w4 ⟨rfl, hw4⟩
    have cw4_0_0 : w4.cell? ⟨W.heap.size, 0, none⟩ = some (.int .i64 ax) := cell_gr hw4 (by go_simp)
    have cw4_0_1 : w4.cell? ⟨W.heap.size, 1, none⟩ = some (.int .i64 ay) := cell_gr hw4 (by go_simp)
    have zw4_0 : W.heap.size < w4.heap.size := World.block_lt_of_cell? _ _ cw4_0_0
    have cw4_1_0 : w4.cell? ⟨W.heap.size + 1, 0, none⟩ = some (.int .i64 bx) := cell_gr hw4 (by go_simp)
    have cw4_1_1 : w4.cell? ⟨W.heap.size + 1, 1, none⟩ = some (.int .i64 by') := cell_gr hw4 (by go_simp)
    have zw4_1 : W.heap.size + 1 < w4.heap.size := World.block_lt_of_cell? _ _ cw4_1_0
    have cw4_2_0 : w4.cell? ⟨W.heap.size + 1 + 1, 0, none⟩ = some (.int .i64 px) := cell_gr hw4 (by go_simp)
    have cw4_2_1 : w4.cell? ⟨W.heap.size + 1 + 1, 1, none⟩ = some (.int .i64 py) := cell_gr hw4 (by go_simp)
    have zw4_2 : W.heap.size + 1 + 1 < w4.heap.size := World.block_lt_of_cell? _ _ cw4_2_0
    have cw4_3_0 : w4.cell? ⟨W.heap.size + 1 + 1 + 1, 0, none⟩ = some (.int .u64 0) := cell_gr hw4 (by go_simp)
    have fw4_3_0 : w4.frozen? ⟨W.heap.size + 1 + 1 + 1, 0, none⟩ = false := frozen_gr (v := .int .u64 0) hw4 (by go_simp) (by go_simp)
    have cw4_3_1 : w4.cell? ⟨W.heap.size + 1 + 1 + 1, 1, none⟩ = some (.int .u64 0) := cell_gr hw4 (by go_simp)
    have fw4_3_1 : w4.frozen? ⟨W.heap.size + 1 + 1 + 1, 1, none⟩ = false := frozen_gr (v := .int .u64 0) hw4 (by go_simp) (by go_simp)
    have cw4_3_2 : w4.cell? ⟨W.heap.size + 1 + 1 + 1, 2, none⟩ = some (.int .u64 0) := cell_gr hw4 (by go_simp)
    have fw4_3_2 : w4.frozen? ⟨W.heap.size + 1 + 1 + 1, 2, none⟩ = false := frozen_gr (v := .int .u64 0) hw4 (by go_simp) (by go_simp)
    have zw4_3 : W.heap.size + 1 + 1 + 1 < w4.heap.size := World.block_lt_of_cell? _ _ cw4_3_0
    have gw4 : Gr W w4 := Gr.trans (by have gg := gw3; have gs := gg.size; go_grown) hw4
    clear hw4 gw3 zw3_0 cw3_0_0 cw3_0_1 zw3_1 cw3_1_0 cw3_1_1 zw3_2 cw3_2_0 cw3_2_1 zw3_3 cw3_3_0 fw3_3_0 cw3_3_1 fw3_3_1 cw3_3_2 fw3_3_2
    go_wp2_with fail
    go_at_call 76
    refine ((H5.out _)).mono ?_
    rintro e w5 ⟨rfl, hw5⟩
    have cw5_0_0 : w5.cell? ⟨W.heap.size, 0, none⟩ = some (.int .i64 ax) := cell_gr hw5 (by go_simp)
    have cw5_0_1 : w5.cell? ⟨W.heap.size, 1, none⟩ = some (.int .i64 ay) := cell_gr hw5 (by go_simp)
    have zw5_0 : W.heap.size < w5.heap.size := World.block_lt_of_cell? _ _ cw5_0_0
    have cw5_1_0 : w5.cell? ⟨W.heap.size + 1, 0, none⟩ = some (.int .i64 bx) := cell_gr hw5 (by go_simp)
    have cw5_1_1 : w5.cell? ⟨W.heap.size + 1, 1, none⟩ = some (.int .i64 by') := cell_gr hw5 (by go_simp)
    have zw5_1 : W.heap.size + 1 < w5.heap.size := World.block_lt_of_cell? _ _ cw5_1_0
    have cw5_2_0 : w5.cell? ⟨W.heap.size + 1 + 1, 0, none⟩ = some (.int .i64 px) := cell_gr hw5 (by go_simp)
    have cw5_2_1 : w5.cell? ⟨W.heap.size + 1 + 1, 1, none⟩ = some (.int .i64 py) := cell_gr hw5 (by go_simp)
    have zw5_2 : W.heap.size + 1 + 1 < w5.heap.size := World.block_lt_of_cell? _ _ cw5_2_0
    have cw5_3_0 : w5.cell? ⟨W.heap.size + 1 + 1 + 1, 0, none⟩ = some (.int .u64 0) := cell_gr hw5 (by go_simp)
    have fw5_3_0 : w5.frozen? ⟨W.heap.size + 1 + 1 + 1, 0, none⟩ = false := frozen_gr (v := .int .u64 0) hw5 (by go_simp) (by go_simp)
    have cw5_3_1 : w5.cell? ⟨W.heap.size + 1 + 1 + 1, 1, none⟩ = some (.int .u64 0) := cell_gr hw5 (by go_simp)
    have fw5_3_1 : w5.frozen? ⟨W.heap.size + 1 + 1 + 1, 1, none⟩ = false := frozen_gr (v := .int .u64 0) hw5 (by go_simp) (by go_simp)
    have cw5_3_2 : w5.cell? ⟨W.heap.size + 1 + 1 + 1, 2, none⟩ = some (.int .u64 0) := cell_gr hw5 (by go_simp)
    have fw5_3_2 : w5.frozen? ⟨W.heap.size + 1 + 1 + 1, 2, none⟩ = false := frozen_gr (v := .int .u64 0) hw5 (by go_simp) (by go_simp)
    have zw5_3 : W.heap.size + 1 + 1 + 1 < w5.heap.size := World.block_lt_of_cell? _ _ cw5_3_0
    have gw5 : Gr W w5 := Gr.trans (by have gg := gw4; have gs := gg.size; go_grown) hw5
    clear hw5 gw4 zw4_0 cw4_0_0 cw4_0_1 zw4_1 cw4_1_0 cw4_1_1 zw4_2 cw4_2_0 cw4_2_1 zw4_3 cw4_3_0 fw4_3_0 cw4_3_1 fw4_3_1 cw4_3_2 fw4_3_2
    go_wp2_with fail
    refine Hd.wp_region_tail 18 (by kernel_rfl) (by kernel_rfl) ?_
    intro KQ hKQ
    repeat (first | (refine Hd.wpG_skip (by decide) rfl ?_; simp only [Act.put, List.setIfInBounds_toArray, List.set_cons_zero, List.set_cons_succ]) | (refine Hd.wpG_want (by decide) rfl ?_; apply Exists.intro; refine ⟨?_, ?_⟩; (· intro wx gx; (obtain ⟨mx, rfl⟩ := gx); all_goals (apply Hd.gAt_of_quiet; intro K hK; go_big_quiet_op; first | exact hK _ rfl | (apply Exists.intro; refine ⟨fun _ => ?_, ?_⟩; (· (first | (go_at_call 67; first | ((with_reducible refine ((H8.out _)).mono ?_); rintro e w' ⟨rfl, hg⟩; exact ⟨rfl, spread_gr hg⟩)) | (go_at_call 78; first | ((with_reducible refine ((H9.out _)).mono ?_); rintro e w' ⟨rfl, hg⟩; exact ⟨rfl, spread_gr hg⟩)) | (go_at_call 79; first | ((with_reducible refine ((H0.out _)).mono ?_); rintro e w' ⟨rfl, hg⟩; exact ⟨rfl, spread_gr hg⟩)) | (go_at_call 77; first | ((with_reducible refine ((HL.out _)).mono ?_); rintro e w' ⟨rfl, hg⟩; exact ⟨rfl, spread_gr hg⟩)))); exact hK _ rfl))); try simp only [Act.put, List.setIfInBounds_toArray, List.set_cons_zero, List.set_cons_succ]))
    refine Hd.wpG_nil (hKQ _ ?_)
    clear hKQ KQ
    intro w6 hhw6
    have hw6 := Hd.gr_of_spread hhw6
    have cw6_0_0 : w6.cell? ⟨W.heap.size, 0, none⟩ = some (.int .i64 ax) := cell_gr hw6 (by go_simp)
    have cw6_0_1 : w6.cell? ⟨W.heap.size, 1, none⟩ = some (.int .i64 ay) := cell_gr hw6 (by go_simp)
    have zw6_0 : W.heap.size < w6.heap.size := World.block_lt_of_cell? _ _ cw6_0_0
    have cw6_1_0 : w6.cell? ⟨W.heap.size + 1, 0, none⟩ = some (.int .i64 bx) := cell_gr hw6 (by go_simp)
    have cw6_1_1 : w6.cell? ⟨W.heap.size + 1, 1, none⟩ = some (.int .i64 by') := cell_gr hw6 (by go_simp)
    have zw6_1 : W.heap.size + 1 < w6.heap.size := World.block_lt_of_cell? _ _ cw6_1_0
    have cw6_2_0 : w6.cell? ⟨W.heap.size + 1 + 1, 0, none⟩ = some (.int .i64 px) := cell_gr hw6 (by go_simp)
    have cw6_2_1 : w6.cell? ⟨W.heap.size + 1 + 1, 1, none⟩ = some (.int .i64 py) := cell_gr hw6 (by go_simp)
    have zw6_2 : W.heap.size + 1 + 1 < w6.heap.size := World.block_lt_of_cell? _ _ cw6_2_0
    have cw6_3_0 : w6.cell? ⟨W.heap.size + 1 + 1 + 1, 0, none⟩ = some (.int .u64 0) := cell_gr hw6 (by go_simp)
    have fw6_3_0 : w6.frozen? ⟨W.heap.size + 1 + 1 + 1, 0, none⟩ = false := frozen_gr (v := .int .u64 0) hw6 (by go_simp) (by go_simp)
    have cw6_3_1 : w6.cell? ⟨W.heap.size + 1 + 1 + 1, 1, none⟩ = some (.int .u64 0) := cell_gr hw6 (by go_simp)
    have fw6_3_1 : w6.frozen? ⟨W.heap.size + 1 + 1 + 1, 1, none⟩ = false := frozen_gr (v := .int .u64 0) hw6 (by go_simp) (by go_simp)
    have cw6_3_2 : w6.cell? ⟨W.heap.size + 1 + 1 + 1, 2, none⟩ = some (.int .u64 0) := cell_gr hw6 (by go_simp)
    have fw6_3_2 : w6.frozen? ⟨W.heap.size + 1 + 1 + 1, 2, none⟩ = false := frozen_gr (v := .int .u64 0) hw6 (by go_simp) (by go_simp)
    have zw6_3 : W.heap.size + 1 + 1 + 1 < w6.heap.size := World.block_lt_of_cell? _ _ cw6_3_0
    have gw6 : Gr W w6 := Gr.trans (by have gg := gw5; have gs := gg.size; go_grown) hw6
    clear hw6 hhw6 gw5 zw5_0 cw5_0_0 cw5_0_1 zw5_1 cw5_1_0 cw5_1_1 zw5_2 cw5_2_0 cw5_2_1 zw5_3 cw5_3_0 fw5_3_0 cw5_3_1 fw5_3_1 cw5_3_2 fw5_3_2
    go_wp2_with fail
    refine bodyPost_ret (v := .agg #[.int .u64 r1, .int .u64 r2, .int .u64 r3]) (by simp [results, Try.results31, go_sem, *]) rfl ⟨rfl, by go_grown⟩
theorem eqPt4 (ax ay bx by' : Int) (w : World) : (binOp .eql 24 (.agg #[.int .i64 ax, .int .i64 ay]) (.agg #[.int .i64 bx, .int .i64 by'])).run Try.prog w = .ok (.bool (decide (ax = bx ∧ ay = by'))) w := eqPt ax ay bx by' w
theorem c_rSegDist (ax ay bx by' px py : Int) (h : (nearB ax ay && nearB bx by' && nearB px py) = true) (W : World) :
    Calls Try.prog 31 #[.agg #[.int .i64 ax, .int .i64 ay], .agg #[.int .i64 bx, .int .i64 by'], .agg #[.int .i64 px, .int .i64 py]] W fun e w' => e = .returned (.agg #[.int .u64 (dsH ax ay bx by' px py), .int .u64 (dsL ax ay bx by' px py), .int .u64 (sdD ax ay bx by' px py)]) ∧ Gr W w' := by
  have hn : (nearB ax ay = true ∧ nearB bx by' = true) ∧ nearB px py = true := by simpa using h
  obtain ⟨⟨n1, n2⟩, n3⟩ := hn
  have b1 := nearB_iff.1 n1
  have b2 := nearB_iff.1 n2
  have Q1 := c_rPoint ax ay
  have Q2 := c_rPoint bx by'
  have Q3 := c_rPoint px py
  rw [n1] at Q1
  rw [n2] at Q2
  rw [n3] at Q3
  obtain ⟨s1, hs1⟩ : ∃ s : Nat, (s : Int) = sqZ ax ay px py := ⟨_, Int.toNat_of_nonneg (sq_nn _ _ _ _)⟩
  obtain ⟨s2, hs2⟩ : ∃ s : Nat, (s : Int) = sqZ bx by' px py := ⟨_, Int.toNat_of_nonneg (sq_nn _ _ _ _)⟩
  obtain ⟨wh, hwh⟩ : ∃ s : Nat, (s : Int) = sqZ ax ay bx by' := ⟨_, Int.toNat_of_nonneg (sq_nn _ _ _ _)⟩
  have S1 := c_rSq ax ay px py n1 n3 s1 hs1
  have S2 := c_rSq bx by' px py n2 n3 s2 hs2
  have D1 := c_dot ax ay bx by' px py n1 n2 n3
  have D2 := c_dot bx by' ax ay px py n2 n1 n3
  have C := c_rCross ax ay bx by' px py
  obtain ⟨ce, cb⟩ := cr_bound h
  rw [ce] at C
  have SQ := c_rSquare (cr ax ay bx by' px py) (by omega)
  have SM := c_sum (ax - bx) (ay - by') (by omega) (by omega) wh (by rw [hwh]; unfold sqZ; grind)
  have da := dot_al ax ay bx by' px py
  have t1 : (sqZ ax ay px py).toNat = s1 := by omega
  have t2 : (sqZ bx by' px py).toNat = s2 := by omega
  have t3 : (sqZ ax ay bx by').toNat = wh := by omega
  have q1 := sqZ_bound n1 n3
  have q2 := sqZ_bound n2 n3
  have q3 := sqZ_bound n1 n2
  refine rsd_yes ax ay bx by' px py _ _ s1 s2 _ _ _ wh ((lowN ((cr ax ay bx by' px py).natAbs * (cr ax ay bx by' px py).natAbs) wh / 18446744073709551616 : Nat) : Int) ((lowN ((cr ax ay bx by' px py).natAbs * (cr ax ay bx by' px py).natAbs) wh % 18446744073709551616 : Nat) : Int) (lowD ((cr ax ay bx by' px py).natAbs * (cr ax ay bx by' px py).natAbs) wh) _ _ _ _ _ _ W (eqPt4 ax ay bx by') (IntWalk.wrap64_in _ (by omega)) (IntWalk.i64_in _ (by omega)) (IntWalk.wrap64_in _ (by omega)) (IntWalk.i64_in _ (by omega)) Q1 Q2 Q3 D1 D2 S1 S2 C SQ SM ?_
  unfold dsH dsL sdN sdD
  rw [t1, t2, t3]
  by_cases eb : ax = bx ∧ ay = by'
  · left
    have ea : alZ ax ay bx by' px py = 0 := by
      obtain ⟨rfl, rfl⟩ := eb
      unfold alZ; simp
    rw [if_pos (by omega), if_pos (by omega)]
    refine ⟨decide_eq_true eb, ?_, ?_, rfl⟩ <;> omega
  · right
    by_cases c1 : alZ ax ay bx by' px py ≤ 0
    · left
      rw [if_pos c1, if_pos c1]
      refine ⟨decide_eq_false eb, c1, ?_, ?_, rfl⟩ <;> omega
    · right
      rw [if_neg c1, if_neg c1]
      by_cases c2 : sqZ ax ay bx by' ≤ alZ ax ay bx by' px py
      · left
        rw [if_pos c2, if_pos c2]
        refine ⟨decide_eq_false eb, c1, by omega, ?_, ?_, rfl⟩ <;> omega
      · right
        rw [if_neg c2, if_neg c2]
        refine ⟨decide_eq_false eb, c1, by omega, rfl, rfl, rfl, fun w => ?_⟩
        have cc : (cr ax ay bx by' px py).natAbs * (cr ax ay bx by' px py).natAbs ≤ 9223372019674906632 * 9223372019674906632 := Nat.mul_le_mul (by omega) (by omega)
        have M := c_Lowest ((cr ax ay bx by' px py).natAbs * (cr ax ay bx by' px py).natAbs / 18446744073709551616) ((cr ax ay bx by' px py).natAbs * (cr ax ay bx by' px py).natAbs % 18446744073709551616) wh (by unfold Wd; omega) (by unfold Wd; omega) (by unfold Wd; omega) (by omega) w
        rw [val_join] at M
        exact M
theorem c_rSegDist_no (ax ay bx by' px py : Int) (h : (nearB ax ay && nearB bx by' && nearB px py) = false) (W : World) :
    Calls Try.prog 31 #[.agg #[.int .i64 ax, .int .i64 ay], .agg #[.int .i64 bx, .int .i64 by'], .agg #[.int .i64 px, .int .i64 py]] W fun e w' => e = .returned (.agg #[.int .u64 0, .int .u64 0, .int .u64 0]) ∧ Gr W w' := by
  refine rsd_no ax ay bx by' px py _ _ _ W ?_ (c_rPoint ax ay) (c_rPoint bx by') (c_rPoint px py)
  cases g1 : nearB ax ay <;> cases g2 : nearB bx by' <;> cases g3 : nearB px py <;> simp_all
set_option maxHeartbeats 1000000 in
set_option maxRecDepth 100000 in
theorem c_corners (lx ly hx hy : Int) (W : World) : Calls Try.prog 71 #[.agg #[.int .i64 lx, .int .i64 ly, .int .i64 hx, .int .i64 hy]] W fun e w' => ∃ B, e = .returned (.slice (some ⟨B, 0, none⟩) 4 4) ∧ w'.cell? ⟨B, 0, none⟩ = some (.int .i64 lx) ∧ w'.cell? ⟨B, 1, none⟩ = some (.int .i64 ly) ∧ w'.cell? ⟨B, 2, none⟩ = some (.int .i64 hx) ∧ w'.cell? ⟨B, 3, none⟩ = some (.int .i64 ly) ∧ w'.cell? ⟨B, 4, none⟩ = some (.int .i64 hx) ∧ w'.cell? ⟨B, 5, none⟩ = some (.int .i64 hy) ∧ w'.cell? ⟨B, 6, none⟩ = some (.int .i64 lx) ∧ w'.cell? ⟨B, 7, none⟩ = some (.int .i64 hy) ∧ Gr W w' := by
  go_enter Try.func71, Try.ntmps71
  go_wp2_with fail
  go_ret
  exact ⟨_, rfl, by go_simp, by go_simp, by go_simp, by go_simp, by go_simp, by go_simp, by go_simp, by go_simp, by go_grown⟩
end Go.Proofs.Ythjhhnolkiejpaa
