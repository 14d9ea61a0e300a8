/- plane.Around of two points; segm.MeetsBox -/
import Derived.Test.YtenngnlphecdeaaGreatDoorZe
import Derived.Deep.RegionWith
namespace Go.Proofs.YtenngnlphecdeaaGreatDoor
set_option linter.unusedVariables false
open Go.ChangeShapes Go.WideShapes Go.ChangeAt Go.RowKit

set_option maxHeartbeats 4000000 in
set_option maxRecDepth 100000 in
theorem around_core (ax ay bx by' lx ly hx hy : Int) (B : Nat) (W : World) (hB : B < W.heap.size) (k0 : W.cell? ⟨B, 0, none⟩ = some (.int .i64 ax)) (k1 : W.cell? ⟨B, 1, none⟩ = some (.int .i64 ay)) (k2 : W.cell? ⟨B, 2, none⟩ = some (.int .i64 bx)) (k3 : W.cell? ⟨B, 3, none⟩ = some (.int .i64 by'))
    (A1 : ∀ w, Calls Tryz.prog 80 #[.agg #[.int .i64 ax, .int .i64 ay, .int .i64 ax, .int .i64 ay], .agg #[.int .i64 ax, .int .i64 ay, .int .i64 ax, .int .i64 ay]] w fun e w' => e = .returned (.agg #[.int .i64 ax, .int .i64 ay, .int .i64 ax, .int .i64 ay]) ∧ Gr w w')
    (A2 : ∀ w, Calls Tryz.prog 80 #[.agg #[.int .i64 ax, .int .i64 ay, .int .i64 ax, .int .i64 ay], .agg #[.int .i64 bx, .int .i64 by', .int .i64 bx, .int .i64 by']] w fun e w' => e = .returned (.agg #[.int .i64 lx, .int .i64 ly, .int .i64 hx, .int .i64 hy]) ∧ Gr w w') :
    Calls Tryz.prog 75 #[.slice (some ⟨B, 0, none⟩) 2 2] W fun e w' => e = .returned (.agg #[.int .i64 lx, .int .i64 ly, .int .i64 hx, .int .i64 hy]) ∧ Gr W w' := by
  have H1 := Lib.hid A1
  have H2 := Lib.hid A2
  clear A1 A2
  have nB1 : ¬ B = W.heap.size + 1 := by omega
  have nB2 : ¬ W.heap.size + 1 = B := by omega
  have nB3 : ¬ B = W.heap.size := by omega
  have nB4 : ¬ W.heap.size = B := by omega
  go_enter Tryz.func75, Tryz.ntmps75
  go_wp2_with fail
  refine wp_loop_rounds 3 ?_
  rw [rounds_succ]
  go_wp2_with fail
  go_at_call 80
  refine ((H1.out _)).mono ?_
  rintro e w1 ⟨rfl, hw1⟩
  have cw1_0_0 : w1.cell? ⟨W.heap.size, 0, none⟩ = some (.int .i64 0) := cell_gr hw1 (by go_simp)
  have fw1_0_0 : w1.frozen? ⟨W.heap.size, 0, none⟩ = false := frozen_gr (v := .int .i64 0) hw1 (by go_simp) (by go_simp)
  have cw1_0_1 : w1.cell? ⟨W.heap.size, 1, none⟩ = some (.int .i64 0) := cell_gr hw1 (by go_simp)
  have fw1_0_1 : w1.frozen? ⟨W.heap.size, 1, none⟩ = false := frozen_gr (v := .int .i64 0) hw1 (by go_simp) (by go_simp)
  have cw1_0_2 : w1.cell? ⟨W.heap.size, 2, none⟩ = some (.int .i64 0) := cell_gr hw1 (by go_simp)
  have fw1_0_2 : w1.frozen? ⟨W.heap.size, 2, none⟩ = false := frozen_gr (v := .int .i64 0) hw1 (by go_simp) (by go_simp)
  have cw1_0_3 : w1.cell? ⟨W.heap.size, 3, none⟩ = some (.int .i64 0) := cell_gr hw1 (by go_simp)
  have fw1_0_3 : w1.frozen? ⟨W.heap.size, 3, none⟩ = false := frozen_gr (v := .int .i64 0) hw1 (by go_simp) (by go_simp)
  have zw1_0 : W.heap.size < w1.heap.size := World.block_lt_of_cell? _ _ cw1_0_0
  have cw1_1_0 : w1.cell? ⟨W.heap.size + 1, 0, none⟩ = some (.int .i64 ax) := cell_gr hw1 (by go_simp)
  have fw1_1_0 : w1.frozen? ⟨W.heap.size + 1, 0, none⟩ = false := frozen_gr (v := .int .i64 ax) hw1 (by go_simp) (by go_simp)
  have cw1_1_1 : w1.cell? ⟨W.heap.size + 1, 1, none⟩ = some (.int .i64 ay) := cell_gr hw1 (by go_simp)
  have fw1_1_1 : w1.frozen? ⟨W.heap.size + 1, 1, none⟩ = false := frozen_gr (v := .int .i64 ay) hw1 (by go_simp) (by go_simp)
  have cw1_1_2 : w1.cell? ⟨W.heap.size + 1, 2, none⟩ = some (.int .i64 ax) := cell_gr hw1 (by go_simp)
  have fw1_1_2 : w1.frozen? ⟨W.heap.size + 1, 2, none⟩ = false := frozen_gr (v := .int .i64 ax) hw1 (by go_simp) (by go_simp)
  have cw1_1_3 : w1.cell? ⟨W.heap.size + 1, 3, none⟩ = some (.int .i64 ay) := cell_gr hw1 (by go_simp)
  have fw1_1_3 : w1.frozen? ⟨W.heap.size + 1, 3, none⟩ = false := frozen_gr (v := .int .i64 ay) hw1 (by go_simp) (by go_simp)
  have zw1_1 : W.heap.size + 1 < w1.heap.size := World.block_lt_of_cell? _ _ cw1_1_0
  have gw1 : Gr W w1 := Gr.trans (by go_grown) hw1
  clear hw1
  have j2 := cell_gr gw1 k2
  have j3 := cell_gr gw1 k3
  clear k0 k1 k2 k3
  have zB := World.block_lt_of_cell? _ _ j2
  go_wp2_with fail
  rw [rounds_succ]
  go_wp2_with fail
  go_at_call 80
  refine ((H2.out _)).mono ?_
  rintro e w2 ⟨rfl, hw2⟩
  have cw2_0_0 : w2.cell? ⟨W.heap.size, 0, none⟩ = some (.int .i64 0) := cell_gr hw2 (by go_simp)
  have fw2_0_0 : w2.frozen? ⟨W.heap.size, 0, none⟩ = false := frozen_gr (v := .int .i64 0) hw2 (by go_simp) (by go_simp)
  have cw2_0_1 : w2.cell? ⟨W.heap.size, 1, none⟩ = some (.int .i64 0) := cell_gr hw2 (by go_simp)
  have fw2_0_1 : w2.frozen? ⟨W.heap.size, 1, none⟩ = false := frozen_gr (v := .int .i64 0) hw2 (by go_simp) (by go_simp)
  have cw2_0_2 : w2.cell? ⟨W.heap.size, 2, none⟩ = some (.int .i64 0) := cell_gr hw2 (by go_simp)
  have fw2_0_2 : w2.frozen? ⟨W.heap.size, 2, none⟩ = false := frozen_gr (v := .int .i64 0) hw2 (by go_simp) (by go_simp)
  have cw2_0_3 : w2.cell? ⟨W.heap.size, 3, none⟩ = some (.int .i64 0) := cell_gr hw2 (by go_simp)
  have fw2_0_3 : w2.frozen? ⟨W.heap.size, 3, none⟩ = false := frozen_gr (v := .int .i64 0) hw2 (by go_simp) (by go_simp)
  have zw2_0 : W.heap.size < w2.heap.size := World.block_lt_of_cell? _ _ cw2_0_0
  have cw2_1_0 : w2.cell? ⟨W.heap.size + 1, 0, none⟩ = some (.int .i64 ax) := cell_gr hw2 (by go_simp)
  have fw2_1_0 : w2.frozen? ⟨W.heap.size + 1, 0, none⟩ = false := frozen_gr (v := .int .i64 ax) hw2 (by go_simp) (by go_simp)
  have cw2_1_1 : w2.cell? ⟨W.heap.size + 1, 1, none⟩ = some (.int .i64 ay) := cell_gr hw2 (by go_simp)
  have fw2_1_1 : w2.frozen? ⟨W.heap.size + 1, 1, none⟩ = false := frozen_gr (v := .int .i64 ay) hw2 (by go_simp) (by go_simp)
  have cw2_1_2 : w2.cell? ⟨W.heap.size + 1, 2, none⟩ = some (.int .i64 ax) := cell_gr hw2 (by go_simp)
  have fw2_1_2 : w2.frozen? ⟨W.heap.size + 1, 2, none⟩ = false := frozen_gr (v := .int .i64 ax) hw2 (by go_simp) (by go_simp)
  have cw2_1_3 : w2.cell? ⟨W.heap.size + 1, 3, none⟩ = some (.int .i64 ay) := cell_gr hw2 (by go_simp)
  have fw2_1_3 : w2.frozen? ⟨W.heap.size + 1, 3, none⟩ = false := frozen_gr (v := .int .i64 ay) hw2 (by go_simp) (by go_simp)
  have zw2_1 : W.heap.size + 1 < w2.heap.size := World.block_lt_of_cell? _ _ cw2_1_0
  have gw2 : Gr W w2 := Gr.trans (by have gg := gw1; have gs := gg.size; go_grown) hw2
  clear hw2 gw1 zw1_0 cw1_0_0 fw1_0_0 cw1_0_1 fw1_0_1 cw1_0_2 fw1_0_2 cw1_0_3 fw1_0_3 zw1_1 cw1_1_0 fw1_1_0 cw1_1_1 fw1_1_1 cw1_1_2 fw1_1_2 cw1_1_3 fw1_1_3
  go_wp2_with fail
  rw [rounds_succ]
  go_wp2_with fail
  refine bodyPost_ret (v := .agg #[.int .i64 lx, .int .i64 ly, .int .i64 hx, .int .i64 hy]) (by simp [results, Tryz.results75, go_sem, *]) rfl ⟨rfl, by go_grown⟩
theorem c_Around2 (ax ay bx by' : Int) (B : Nat) (W : World) (hB : B < W.heap.size) (k0 : W.cell? ⟨B, 0, none⟩ = some (.int .i64 ax)) (k1 : W.cell? ⟨B, 1, none⟩ = some (.int .i64 ay)) (k2 : W.cell? ⟨B, 2, none⟩ = some (.int .i64 bx)) (k3 : W.cell? ⟨B, 3, none⟩ = some (.int .i64 by')) :
    Calls Tryz.prog 75 #[.slice (some ⟨B, 0, none⟩) 2 2] W fun e w' => e = .returned (.agg #[.int .i64 (minZ ax bx), .int .i64 (minZ ay by'), .int .i64 (maxZ ax bx), .int .i64 (maxZ ay by')]) ∧ Gr W w' :=
  around_core ax ay bx by' _ _ _ _ B W hB k0 k1 k2 k3 (c_join_self ax ay ax ay) (c_join ax ay ax ay bx by' bx by')
end Go.Proofs.YtenngnlphecdeaaGreatDoor
