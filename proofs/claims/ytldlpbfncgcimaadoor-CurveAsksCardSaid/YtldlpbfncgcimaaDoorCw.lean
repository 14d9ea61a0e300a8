/- Hilbert and Unhilbert: refused, of both  -/
import Derived.Test.YtldlpbfncgcimaaDoorCv
namespace Go.Proofs.YtldlpbfncgcimaaDoor
set_option linter.unusedVariables false
open Go.ChangeShapes Go.WideShapes Go.ChangeAt Go.RowKit

set_option maxRecDepth 100000 in
theorem hil_arg (x y n : Int) (W : World) (h : decide (n < 1) = true ∨ (decide (n < 1) = false ∧ decide ((31 : Int) < n) = true)) :
    Calls Tryd.prog 34 #[.agg #[.int .i64 x, .int .i64 y], .int .i64 n] W (RefusedT W 1 (.int .u64 0)) := by
  rcases h with t1 | ⟨t1, t2⟩
  all_goals
    go_enter Tryd.func34, Tryd.ntmps34
    go_wp2_with fail
    go_at_call 53
    refine (c_refuse _ _).mono ?_
    rintro e w2 ⟨B, rfl, hB, hF, hg⟩
    go_wp2_with fail
    go_ret2
    exact ⟨B, rfl, by simp at hB; omega, hF, Gr.trans (by go_grown) hg⟩
set_option maxRecDepth 100000 in
theorem rhil_arg (x y n : Int) (W : World) (h : decide (n < 1) = true ∨ (decide (n < 1) = false ∧ decide ((31 : Int) < n) = true)) :
    Calls Tryd.prog 35 #[.agg #[.int .i64 x, .int .i64 y], .int .i64 n] W fun e w' => e = .returned (.tuple #[.int .u64 0, .int .i64 1]) ∧ Gr W w' := by
  rcases h with t1 | ⟨t1, t2⟩
  all_goals
    go_enter Tryd.func35, Tryd.ntmps35
    go_wp2_with fail
    go_ret2
    exact ⟨rfl, by go_grown⟩
set_option maxHeartbeats 2000000 in
set_option maxRecDepth 100000 in
theorem hil_range (x y : Int) (n E : Nat) (W : World) (t1 : decide ((n : Int) < 1) = false) (t2 : decide ((31 : Int) < (n : Int)) = false) (n0 : (0 : Int) ≤ (n : Int)) (n1 : (n : Int) ≤ 31) (k4 : (2 : Int) ^ min n 64 = E) (k5 : (2 : Int) ^ n = E) (k6 : IntKind.i64.wrap (E : Int) = E)
    (h : decide (x < 0) = true ∨ (decide (x < 0) = false ∧ decide ((E : Int) ≤ x) = true) ∨ (decide (x < 0) = false ∧ decide ((E : Int) ≤ x) = false ∧ decide (y < 0) = true) ∨ (decide (x < 0) = false ∧ decide ((E : Int) ≤ x) = false ∧ decide (y < 0) = false ∧ decide ((E : Int) ≤ y) = true)) :
    Calls Tryd.prog 34 #[.agg #[.int .i64 x, .int .i64 y], .int .i64 n] W (RefusedT W 2 (.int .u64 0)) := by
  rcases h with h | ⟨h, h2⟩ | ⟨h, h2, h3⟩ | ⟨h, h2, h3, h4⟩
  all_goals
    go_enter Tryd.func34, Tryd.ntmps34
    go_wp2_with fail
    go_at_call 53
    refine (c_refuse _ _).mono ?_
    rintro e w2 ⟨B, rfl, hB, hF, hg⟩
    go_wp2_with fail
    go_ret2
    exact ⟨B, rfl, by simp at hB; omega, hF, Gr.trans (by go_grown) hg⟩
set_option maxHeartbeats 2000000 in
set_option maxRecDepth 100000 in
theorem rhil_range (x y : Int) (n E : Nat) (W : World) (t1 : decide ((n : Int) < 1) = false) (t2 : decide ((31 : Int) < (n : Int)) = false) (n0 : (0 : Int) ≤ (n : Int)) (n1 : (n : Int) ≤ 31) (k4 : (2 : Int) ^ min n 64 = E) (k5 : (2 : Int) ^ n = E) (k6 : IntKind.i64.wrap (E : Int) = E)
    (h : decide (x < 0) = true ∨ (decide (x < 0) = false ∧ decide (y < 0) = true) ∨ (decide (x < 0) = false ∧ decide (y < 0) = false ∧ decide ((E : Int) ≤ x) = true) ∨ (decide (x < 0) = false ∧ decide ((E : Int) ≤ x) = false ∧ decide (y < 0) = false ∧ decide ((E : Int) ≤ y) = true)) :
    Calls Tryd.prog 35 #[.agg #[.int .i64 x, .int .i64 y], .int .i64 n] W fun e w' => e = .returned (.tuple #[.int .u64 0, .int .i64 2]) ∧ Gr W w' := by
  rcases h with h | ⟨h, h2⟩ | ⟨h, h2, h3⟩ | ⟨h, h2, h3, h4⟩
  all_goals
    go_enter Tryd.func35, Tryd.ntmps35
    go_wp2_with fail
    generalize hhw1 : (W.alloc (.cells #[.int .i64 x, .int .i64 y] 54)) = w1
    have cw1_0_0 : w1.cell? ⟨W.heap.size, 0, none⟩ = some (.int .i64 x) := by subst hhw1; go_simp
    have cw1_0_1 : w1.cell? ⟨W.heap.size, 1, none⟩ = some (.int .i64 y) := by subst hhw1; go_simp
    have zw1_0 : W.heap.size < w1.heap.size := World.block_lt_of_cell? _ _ cw1_0_0
    have gw1 : Gr W w1 := by subst hhw1; go_grown
    clear hhw1
    go_wp2_with fail
    refine wp_region_spread (by kernel_rfl) (by kernel_rfl) ?_
    try simp only [List.append]
    repeat (first | go_big_quiet_skip | (go_big_quiet_want; go_big_quiet_op; (first | go_big_quiet_on | (apply Exists.intro; refine ⟨fun _ => ?_, ?_⟩; (· fail); go_big_quiet_on))))
    refine wpQuiet_nil ?_
    intro w2 hhw2
    have hw2 := Hd.gr_of_spread hhw2
    have cw2_0_0 : w2.cell? ⟨W.heap.size, 0, none⟩ = some (.int .i64 x) := cell_gr hw2 (by go_simp)
    have cw2_0_1 : w2.cell? ⟨W.heap.size, 1, none⟩ = some (.int .i64 y) := cell_gr hw2 (by go_simp)
    have zw2_0 : W.heap.size < w2.heap.size := World.block_lt_of_cell? _ _ cw2_0_0
    have gw2 : Gr W w2 := Gr.trans (by have gg := gw1; have gs := gg.size; go_grown) hw2
    clear hw2 hhw2 gw1 zw1_0 cw1_0_0 cw1_0_1
    go_wp2_with fail
    go_ret2
    exact ⟨rfl, gw2⟩
set_option maxRecDepth 100000 in
theorem unh_arg (v : Nat) (n : Int) (W : World) (h : decide (n < 1) = true ∨ (decide (n < 1) = false ∧ decide ((31 : Int) < n) = true)) :
    Calls Tryd.prog 36 #[.int .u64 v, .int .i64 n] W (RefusedT W 1 (.agg #[.int .i64 0, .int .i64 0])) := by
  rcases h with t1 | ⟨t1, t2⟩
  all_goals
    go_enter Tryd.func36, Tryd.ntmps36
    go_wp2_with fail
    go_at_call 53
    refine (c_refuse _ _).mono ?_
    rintro e w3 ⟨B, rfl, hB, hF, hg⟩
    have c0 : w3.cell? ⟨W.heap.size, 0, none⟩ = some (.int .i64 0) := cell_gr hg (by go_simp)
    have c1 : w3.cell? ⟨W.heap.size, 1, none⟩ = some (.int .i64 0) := cell_gr hg (by go_simp)
    have f0 : w3.frozen? ⟨W.heap.size, 0, none⟩ = false := frozen_gr (v := .int .i64 0) hg (by go_simp) (by go_simp)
    have f1 : w3.frozen? ⟨W.heap.size, 1, none⟩ = false := frozen_gr (v := .int .i64 0) hg (by go_simp) (by go_simp)
    have g3 : Gr W w3 := Gr.trans (by go_grown) hg
    obtain ⟨F0, F1, F2⟩ := hF
    have zs : W.heap.size + 1 ≤ B := by simp at hB; omega
    have nB : ¬ B = W.heap.size := by omega
    have zb := World.block_lt_of_cell? _ _ F0
    have zs' : W.heap.size ≤ B := by omega
    clear hg
    go_wp2_with fail
    refine bodyPost_ret (v := .tuple #[.agg #[.int .i64 0, .int .i64 0], .iface 90 (.pointer (some ⟨B, 0, none⟩))]) (by simp [results, Tryd.results36, go_sem, *]) rfl ⟨B, rfl, zs', ⟨by go_simp, by go_simp, by go_simp⟩, by have gg := g3; have gs := gg.size; go_grown⟩
set_option maxRecDepth 100000 in
theorem unh_range (v n d : Nat) (W : World) (t1 : decide ((n : Int) < 1) = false) (t2 : decide ((31 : Int) < (n : Int)) = false) (n0 : (0 : Int) ≤ (n : Int)) (n1 : (n : Int) ≤ 31) (k1 : (v : Int) / 2 ^ (2 * n) = d) (k2 : ((d : Int) == 0) = false) (k3 : ((d : Int) != 0) = true) :
    Calls Tryd.prog 36 #[.int .u64 v, .int .i64 n] W (RefusedT W 2 (.agg #[.int .i64 0, .int .i64 0])) := by
  go_enter Tryd.func36, Tryd.ntmps36
  go_wp2_with fail
  go_at_call 53
  refine (c_refuse _ _).mono ?_
  rintro e w3 ⟨B, rfl, hB, hF, hg⟩
  have c0 : w3.cell? ⟨W.heap.size, 0, none⟩ = some (.int .i64 0) := cell_gr hg (by go_simp)
  have c1 : w3.cell? ⟨W.heap.size, 1, none⟩ = some (.int .i64 0) := cell_gr hg (by go_simp)
  have f0 : w3.frozen? ⟨W.heap.size, 0, none⟩ = false := frozen_gr (v := .int .i64 0) hg (by go_simp) (by go_simp)
  have f1 : w3.frozen? ⟨W.heap.size, 1, none⟩ = false := frozen_gr (v := .int .i64 0) hg (by go_simp) (by go_simp)
  have g3 : Gr W w3 := Gr.trans (by go_grown) hg
  obtain ⟨F0, F1, F2⟩ := hF
  have zs : W.heap.size + 1 ≤ B := by simp at hB; omega
  have nB : ¬ B = W.heap.size := by omega
  have zb := World.block_lt_of_cell? _ _ F0
  have zs' : W.heap.size ≤ B := by omega
  clear hg
  go_wp2_with fail
  refine bodyPost_ret (v := .tuple #[.agg #[.int .i64 0, .int .i64 0], .iface 90 (.pointer (some ⟨B, 0, none⟩))]) (by simp [results, Tryd.results36, go_sem, *]) rfl ⟨B, rfl, zs', ⟨by go_simp, by go_simp, by go_simp⟩, by have gg := g3; have gs := gg.size; go_grown⟩
set_option maxRecDepth 100000 in
theorem runh_arg (v : Nat) (n : Int) (W : World) (h : decide (n < 1) = true ∨ (decide (n < 1) = false ∧ decide ((31 : Int) < n) = true)) :
    Calls Tryd.prog 37 #[.int .u64 v, .int .i64 n] W fun e w' => e = .returned (.tuple #[.agg #[.int .i64 0, .int .i64 0], .int .i64 1]) ∧ Gr W w' := by
  rcases h with t1 | ⟨t1, t2⟩
  all_goals
    go_enter Tryd.func37, Tryd.ntmps37
    go_wp2_with fail
    refine bodyPost_ret (v := .tuple #[.agg #[.int .i64 0, .int .i64 0], .int .i64 1]) (by simp [results, Tryd.results37, go_sem, *]) rfl ⟨rfl, by go_grown⟩
set_option maxRecDepth 100000 in
theorem runh_range (v n d : Nat) (W : World) (t1 : decide ((n : Int) < 1) = false) (t2 : decide ((31 : Int) < (n : Int)) = false) (n0 : (0 : Int) ≤ (n : Int)) (n1 : (n : Int) ≤ 31) (k1 : (v : Int) / 2 ^ (2 * n) = d) (k2 : decide ((0 : Int) < (d : Int)) = true) (k3 : decide (0 < d) = true) :
    Calls Tryd.prog 37 #[.int .u64 v, .int .i64 n] W fun e w' => e = .returned (.tuple #[.agg #[.int .i64 0, .int .i64 0], .int .i64 2]) ∧ Gr W w' := by
  go_enter Tryd.func37, Tryd.ntmps37
  go_wp2_with fail
  refine bodyPost_ret (v := .tuple #[.agg #[.int .i64 0, .int .i64 0], .int .i64 2]) (by simp [results, Tryd.results37, go_sem, *]) rfl ⟨rfl, by go_grown⟩
end Go.Proofs.YtldlpbfncgcimaaDoor
