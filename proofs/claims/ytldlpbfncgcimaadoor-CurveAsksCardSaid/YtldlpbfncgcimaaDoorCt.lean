/- CurveBack -/
import Derived.Test.YtldlpbfncgcimaaDoorCs
namespace Go.Proofs.YtldlpbfncgcimaaDoor
set_option linter.unusedVariables false
open Go.ChangeShapes Go.WideShapes Go.ChangeAt Go.RowKit

set_option maxRecDepth 100000 in
theorem back_skip (px py : Int) (v : Nat) (n : Int) (W : World) (hE : ErrT W) (h : decide (n < 1) = true ∨ (decide (n < 1) = false ∧ decide ((31 : Int) < n) = true)) :
    Calls Tryd.prog 10 #[.agg #[.int .i64 px, .int .i64 py], .int .u64 v, .int .i64 n] W fun e w' => e = .returned (.bool true) ∧ Gr W w' := by
  have HAW := Lib.hid (fun w (g : Gr W w) => p19_awake w (errT_gr hE g))
  clear hE
  rcases h with t1 | ⟨t1, t2⟩
  all_goals
    go_enter Tryd.func10, Tryd.ntmps10
    go_wp2_with fail
    go_at_call 40
    (with_reducible refine ((HAW.out _ (by go_grown))).mono ?_)
    rintro e w1 ⟨rfl, hw1⟩
    have gw1 : Gr W w1 := Gr.trans (by go_grown) hw1
    clear hw1
    go_wp2_with fail
    go_ret
    exact ⟨rfl, gw1⟩
set_option maxHeartbeats 8000000 in
set_option maxRecDepth 100000 in
theorem back_yes (px py : Int) (z v v' N E n ax ay : Nat) (W : World) (hE : ErrT W) (t1 : decide ((n : Int) < 1) = false) (t2 : decide ((31 : Int) < (n : Int)) = false) (n0 : (0 : Int) ≤ (n : Int)) (n1 : (n : Int) ≤ 31)
    (k1 : (2 : Int) ^ (2 * n) = N) (k2 : IntKind.u64.wrap (N : Int) = N) (k3 : IntKind.u64.wrap ((N : Int) - 1) = (N : Int) - 1) (k4 : (2 : Int) ^ min n 64 = E) (k5 : (2 : Int) ^ n = E) (k6 : IntKind.i64.wrap (E : Int) = E)
    (k9 : bits BinOp.and IntKind.u64 (v : Int) ((N : Int) - 1) = (v' : Int)) (u1 : decide ((0 : Int) ≤ (ax : Int)) = true) (u2 : decide ((0 : Int) ≤ (ay : Int)) = true) (u3 : decide ((ax : Int) < (E : Int)) = true) (u4 : decide ((ay : Int) < (E : Int)) = true) (u5 : decide (ax < E) = true) (u6 : decide (ay < E) = true)
    (A1 : ∀ w, Calls Tryd.prog 30 #[.agg #[.int .i64 px, .int .i64 py]] w fun e w' => e = .returned (.tuple #[.int .u64 z, .nilIface]) ∧ Gr w w') (A2 : ∀ w, Calls Tryd.prog 41 #[.agg #[.int .i64 px, .int .i64 py]] w fun e w' => e = .returned (.bool true) ∧ Gr w w') (A3 : ∀ w, Calls Tryd.prog 32 #[.int .u64 z] w fun e w' => e = .returned (.tuple #[.agg #[.int .i64 px, .int .i64 py], .nilIface]) ∧ Gr w w')
    (A4 : ∀ w, Calls Tryd.prog 36 #[.int .u64 v', .int .i64 n] w fun e w' => e = .returned (.tuple #[.agg #[.int .i64 ax, .int .i64 ay], .nilIface]) ∧ Gr w w') (A5 : ∀ w, Calls Tryd.prog 34 #[.agg #[.int .i64 ax, .int .i64 ay], .int .i64 n] w fun e w' => e = .returned (.tuple #[.int .u64 v', .nilIface]) ∧ Gr w w') :
    Calls Tryd.prog 10 #[.agg #[.int .i64 px, .int .i64 py], .int .u64 v, .int .i64 n] W fun e w' => e = .returned (.bool true) ∧ Gr W w' := by
  have HAW := Lib.hid (fun w (g : Gr W w) => p19_awake w (errT_gr hE g))
  clear hE
  have H1 := Lib.hid A1
  have H2 := Lib.hid A2
  have H3 := Lib.hid A3
  have H4 := Lib.hid A4
  have H5 := Lib.hid A5
  clear A1 A2 A3 A4 A5
  go_enter Tryd.func10, Tryd.ntmps10
  go_wp2_with fail
  go_at_call 30
  (with_reducible refine ((H1.out _)).mono ?_)
  rintro e w1 ⟨rfl, hw1⟩
  have cw1_0_0 : w1.cell? ⟨W.heap.size, 0, none⟩ = some (.int .i64 px) := cell_gr hw1 (by go_simp)
  have cw1_0_1 : w1.cell? ⟨W.heap.size, 1, none⟩ = some (.int .i64 py) := cell_gr hw1 (by go_simp)
  have zw1_0 : W.heap.size < w1.heap.size := World.block_lt_of_cell? _ _ cw1_0_0
  have gw1 : Gr W w1 := Gr.trans (by go_grown) hw1
  clear hw1
  go_wp2_with fail
  refine wp_region_spread (by kernel_rfl) (by kernel_rfl) ?_
  try simp only [List.append]
  repeat (first | go_big_quiet_skip | (go_big_quiet_want; go_big_quiet_op; (first | go_big_quiet_on | (apply Exists.intro; refine ⟨fun _ => ?_, ?_⟩; (· (first | (go_at_call 41; first | ((with_reducible refine ((H2.out _)).mono ?_); rintro e w' ⟨rfl, hg⟩; exact ⟨rfl, spread_gr hg⟩)))); go_big_quiet_on))))
  refine wpQuiet_nil ?_
  intro w2 hhw2
  have hw2 := Hd.gr_of_spread hhw2
  have cw2_0_0 : w2.cell? ⟨W.heap.size, 0, none⟩ = some (.int .i64 px) := cell_gr hw2 (by go_simp)
  have cw2_0_1 : w2.cell? ⟨W.heap.size, 1, none⟩ = some (.int .i64 py) := cell_gr hw2 (by go_simp)
  have zw2_0 : W.heap.size < w2.heap.size := World.block_lt_of_cell? _ _ cw2_0_0
  have gw2 : Gr W w2 := Gr.trans (by have gg := gw1; have gs := gg.size; go_grown) hw2
  clear hw2 hhw2 gw1 zw1_0 cw1_0_0 cw1_0_1
  go_wp2_with fail
  go_at_call 32
  (with_reducible refine ((H3.out _)).mono ?_)
  rintro e w3 ⟨rfl, hw3⟩
  have cw3_0_0 : w3.cell? ⟨W.heap.size, 0, none⟩ = some (.int .i64 px) := cell_gr hw3 (by go_simp)
  have cw3_0_1 : w3.cell? ⟨W.heap.size, 1, none⟩ = some (.int .i64 py) := cell_gr hw3 (by go_simp)
  have zw3_0 : W.heap.size < w3.heap.size := World.block_lt_of_cell? _ _ cw3_0_0
  have gw3 : Gr W w3 := Gr.trans (by have gg := gw2; have gs := gg.size; go_grown) hw3
  clear hw3 gw2 zw2_0 cw2_0_0 cw2_0_1
  go_wp2_with fail
  go_at_call 36
  (with_reducible refine ((H4.out _)).mono ?_)
  rintro e w4 ⟨rfl, hw4⟩
  have cw4_0_0 : w4.cell? ⟨W.heap.size, 0, none⟩ = some (.int .i64 px) := cell_gr hw4 (by go_simp)
  have cw4_0_1 : w4.cell? ⟨W.heap.size, 1, none⟩ = some (.int .i64 py) := cell_gr hw4 (by go_simp)
  have zw4_0 : W.heap.size < w4.heap.size := World.block_lt_of_cell? _ _ cw4_0_0
  have cw4_1_0 : w4.cell? ⟨w3.heap.size, 0, none⟩ = some (.int .i64 px) := cell_gr hw4 (by go_simp)
  have cw4_1_1 : w4.cell? ⟨w3.heap.size, 1, none⟩ = some (.int .i64 py) := cell_gr hw4 (by go_simp)
  have zw4_1 : w3.heap.size < w4.heap.size := World.block_lt_of_cell? _ _ cw4_1_0
  have gw4 : Gr W w4 := Gr.trans (by have gg := gw3; have gs := gg.size; go_grown) hw4
  clear hw4 gw3 zw3_0 cw3_0_0 cw3_0_1
  go_wp2_with fail
  go_at_call 34
  (with_reducible refine ((H5.out _)).mono ?_)
  rintro e w5 ⟨rfl, hw5⟩
  have cw5_0_0 : w5.cell? ⟨W.heap.size, 0, none⟩ = some (.int .i64 px) := cell_gr hw5 (by go_simp)
  have cw5_0_1 : w5.cell? ⟨W.heap.size, 1, none⟩ = some (.int .i64 py) := cell_gr hw5 (by go_simp)
  have zw5_0 : W.heap.size < w5.heap.size := World.block_lt_of_cell? _ _ cw5_0_0
  have cw5_1_0 : w5.cell? ⟨w3.heap.size, 0, none⟩ = some (.int .i64 px) := cell_gr hw5 (by go_simp)
  have cw5_1_1 : w5.cell? ⟨w3.heap.size, 1, none⟩ = some (.int .i64 py) := cell_gr hw5 (by go_simp)
  have zw5_1 : w3.heap.size < w5.heap.size := World.block_lt_of_cell? _ _ cw5_1_0
  have cw5_2_0 : w5.cell? ⟨w4.heap.size, 0, none⟩ = some (.int .i64 ax) := cell_gr hw5 (by go_simp)
  have cw5_2_1 : w5.cell? ⟨w4.heap.size, 1, none⟩ = some (.int .i64 ay) := cell_gr hw5 (by go_simp)
  have zw5_2 : w4.heap.size < w5.heap.size := World.block_lt_of_cell? _ _ cw5_2_0
  have gw5 : Gr W w5 := Gr.trans (by have gg := gw4; have gs := gg.size; go_grown) hw5
  clear hw5 gw4 zw4_0 cw4_0_0 cw4_0_1 zw4_1 cw4_1_0 cw4_1_1
  go_wp2_with fail
  refine wp_region_spread (by kernel_rfl) (by kernel_rfl) ?_
  try simp only [List.append]
  repeat (first | go_big_quiet_skip | (go_big_quiet_want; go_big_quiet_op; (first | go_big_quiet_on | (apply Exists.intro; refine ⟨fun _ => ?_, ?_⟩; (· (first | (go_at_call 40; first | ((with_reducible refine ((HAW.out _ (Gr.trans (by have gg := gw5; have gs := gg.size; go_grown) (gr_spread _ _)))).mono ?_); rintro e w' ⟨rfl, hg⟩; exact ⟨rfl, spread_gr hg⟩)))); go_big_quiet_on))))
  refine wpQuiet_nil ?_
  intro wr hr
  obtain ⟨mr, rfl⟩ := hr
  go_wp2_with fail
  go_ret
  exact ⟨rfl, Gr.trans (by have gg := gw5; have gs := gg.size; go_grown) (gr_spread _ _)⟩
set_option maxHeartbeats 8000000 in
set_option maxRecDepth 100000 in
theorem back_no (px py : Int) (v v' N E n ax ay : Nat) (W : World) (hE : ErrT W) (t1 : decide ((n : Int) < 1) = false) (t2 : decide ((31 : Int) < (n : Int)) = false) (n0 : (0 : Int) ≤ (n : Int)) (n1 : (n : Int) ≤ 31)
    (k1 : (2 : Int) ^ (2 * n) = N) (k2 : IntKind.u64.wrap (N : Int) = N) (k3 : IntKind.u64.wrap ((N : Int) - 1) = (N : Int) - 1) (k4 : (2 : Int) ^ min n 64 = E) (k5 : (2 : Int) ^ n = E) (k6 : IntKind.i64.wrap (E : Int) = E)
    (k9 : bits BinOp.and IntKind.u64 (v : Int) ((N : Int) - 1) = (v' : Int)) (u1 : decide ((0 : Int) ≤ (ax : Int)) = true) (u2 : decide ((0 : Int) ≤ (ay : Int)) = true) (u3 : decide ((ax : Int) < (E : Int)) = true) (u4 : decide ((ay : Int) < (E : Int)) = true) (u5 : decide (ax < E) = true) (u6 : decide (ay < E) = true)
    (hp : nearB px py = false) (A2 : ∀ w, Calls Tryd.prog 41 #[.agg #[.int .i64 px, .int .i64 py]] w fun e w' => e = .returned (.bool false) ∧ Gr w w')
    (A4 : ∀ w, Calls Tryd.prog 36 #[.int .u64 v', .int .i64 n] w fun e w' => e = .returned (.tuple #[.agg #[.int .i64 ax, .int .i64 ay], .nilIface]) ∧ Gr w w') (A5 : ∀ w, Calls Tryd.prog 34 #[.agg #[.int .i64 ax, .int .i64 ay], .int .i64 n] w fun e w' => e = .returned (.tuple #[.int .u64 v', .nilIface]) ∧ Gr w w') :
    Calls Tryd.prog 10 #[.agg #[.int .i64 px, .int .i64 py], .int .u64 v, .int .i64 n] W fun e w' => e = .returned (.bool true) ∧ Gr W w' := by
  have HAW := Lib.hid (fun w (g : Gr W w) => p19_awake w (errT_gr hE g))
  have A1 := fun w => c_Z_no px py hp w
  clear hE hp
  have H1 := Lib.hid A1
  have H2 := Lib.hid A2
  have H4 := Lib.hid A4
  have H5 := Lib.hid A5
  clear A1 A2 A4 A5
  go_enter Tryd.func10, Tryd.ntmps10
  go_wp2_with fail
  go_at_call 30
  refine (H1.out _).mono ?_
  rintro e w1 ⟨B, rfl, hB, hF, hg⟩
  have c0 : w1.cell? ⟨W.heap.size, 0, none⟩ = some (.int .i64 px) := cell_gr hg (by go_simp)
  have c1 : w1.cell? ⟨W.heap.size, 1, none⟩ = some (.int .i64 py) := cell_gr hg (by go_simp)
  have zc := World.block_lt_of_cell? _ _ c0
  have gw1 : Gr W w1 := Gr.trans (by go_grown) hg
  clear hg hF hB
  go_wp2_with fail
  refine wp_region_spread (by kernel_rfl) (by kernel_rfl) ?_
  try simp only [List.append]
  repeat (first | go_big_quiet_skip | (go_big_quiet_want; go_big_quiet_op; (first | go_big_quiet_on | (apply Exists.intro; refine ⟨fun _ => ?_, ?_⟩; (· (first | (go_at_call 41; first | ((with_reducible refine ((H2.out _)).mono ?_); rintro e w' ⟨rfl, hg⟩; exact ⟨rfl, spread_gr hg⟩)))); go_big_quiet_on))))
  refine wpQuiet_nil ?_
  intro w2 hhw2
  have hw2 := Hd.gr_of_spread hhw2
  have cw2_0_0 : w2.cell? ⟨W.heap.size, 0, none⟩ = some (.int .i64 px) := cell_gr hw2 (by go_simp)
  have cw2_0_1 : w2.cell? ⟨W.heap.size, 1, none⟩ = some (.int .i64 py) := cell_gr hw2 (by go_simp)
  have zw2_0 : W.heap.size < w2.heap.size := World.block_lt_of_cell? _ _ cw2_0_0
  have gw2 : Gr W w2 := Gr.trans (by have gg := gw1; have gs := gg.size; go_grown) hw2
  clear hw2 hhw2 gw1
  go_wp2_with fail
  go_at_call 36
  (with_reducible refine ((H4.out _)).mono ?_)
  rintro e w4 ⟨rfl, hw4⟩
  have cw4_0_0 : w4.cell? ⟨W.heap.size, 0, none⟩ = some (.int .i64 px) := cell_gr hw4 (by go_simp)
  have cw4_0_1 : w4.cell? ⟨W.heap.size, 1, none⟩ = some (.int .i64 py) := cell_gr hw4 (by go_simp)
  have zw4_0 : W.heap.size < w4.heap.size := World.block_lt_of_cell? _ _ cw4_0_0
  have gw4 : Gr W w4 := Gr.trans (by have gg := gw2; have gs := gg.size; go_grown) hw4
  clear hw4 gw2 zw2_0 cw2_0_0 cw2_0_1
  go_wp2_with fail
  go_at_call 34
  (with_reducible refine ((H5.out _)).mono ?_)
  rintro e w5 ⟨rfl, hw5⟩
  have cw5_0_0 : w5.cell? ⟨W.heap.size, 0, none⟩ = some (.int .i64 px) := cell_gr hw5 (by go_simp)
  have cw5_0_1 : w5.cell? ⟨W.heap.size, 1, none⟩ = some (.int .i64 py) := cell_gr hw5 (by go_simp)
  have zw5_0 : W.heap.size < w5.heap.size := World.block_lt_of_cell? _ _ cw5_0_0
  have cw5_1_0 : w5.cell? ⟨w4.heap.size, 0, none⟩ = some (.int .i64 ax) := cell_gr hw5 (by go_simp)
  have cw5_1_1 : w5.cell? ⟨w4.heap.size, 1, none⟩ = some (.int .i64 ay) := cell_gr hw5 (by go_simp)
  have zw5_1 : w4.heap.size < w5.heap.size := World.block_lt_of_cell? _ _ cw5_1_0
  have gw5 : Gr W w5 := Gr.trans (by have gg := gw4; have gs := gg.size; go_grown) hw5
  clear hw5 gw4 zw4_0 cw4_0_0 cw4_0_1
  go_wp2_with fail
  refine wp_region_spread (by kernel_rfl) (by kernel_rfl) ?_
  try simp only [List.append]
  repeat (first | go_big_quiet_skip | (go_big_quiet_want; go_big_quiet_op; (first | go_big_quiet_on | (apply Exists.intro; refine ⟨fun _ => ?_, ?_⟩; (· (first | (go_at_call 40; first | ((with_reducible refine ((HAW.out _ (Gr.trans (by have gg := gw5; have gs := gg.size; go_grown) (gr_spread _ _)))).mono ?_); rintro e w' ⟨rfl, hg⟩; exact ⟨rfl, spread_gr hg⟩)))); go_big_quiet_on))))
  refine wpQuiet_nil ?_
  intro wr hr
  obtain ⟨mr, rfl⟩ := hr
  go_wp2_with fail
  go_ret
  exact ⟨rfl, Gr.trans (by have gg := gw5; have gs := gg.size; go_grown) (gr_spread _ _)⟩
theorem walk_CurveBack (px py : Int) (v : Nat) (n : Int) (B0 : (-9223372036854775808 ≤ px ∧ px ≤ 9223372036854775807) ∧ (-9223372036854775808 ≤ py ∧ py ≤ 9223372036854775807)) (B1 : Wd v) (B2 : -9223372036854775808 ≤ n ∧ n ≤ 9223372036854775807) (W : World) (hE : ErrT W) :
    Calls Tryd.prog 10 #[.agg #[.int .i64 px, .int .i64 py], .int .u64 v, .int .i64 n] W fun e w' => e = .returned (.bool true) ∧ Gr W w' := by
  by_cases h1 : n < 1
  · exact back_skip px py v n W hE (Or.inl (decide_eq_true h1))
  by_cases h2 : 31 < n
  · exact back_skip px py v n W hE (Or.inr ⟨decide_eq_false h1, decide_eq_true h2⟩)
  obtain ⟨m, rfl⟩ : ∃ m : Nat, n = m := ⟨n.toNat, (Int.toNat_of_nonneg (by omega)).symm⟩
  have hm : 1 ≤ m ∧ m ≤ 31 := by omega
  obtain ⟨N, E, eN, eE, N4, Nb, E2, Eb, k1, k2, k3, k4, k5, k6, k7, k8⟩ := pow_words hm
  have k9 := and_top (n := m) B1 (by rw [← eN]; exact Nb)
  rw [← eN] at k9
  have hlt : v % N < N := Nat.mod_lt _ (by omega)
  have l := Cv.uX_lt m (v % N)
  have A4 := fun w => c_Unhilbert (v % N) m hm (by rw [← eN]; exact hlt) w
  have A5 := fun w => c_Hilbert (Cv.uX m (v % N)).1 (Cv.uX m (v % N)).2 m hm l.1 l.2 w
  rw [Cv.hil_uX, ← eN, Nat.mod_eq_of_lt hlt] at A5
  rw [← eE] at l
  have A2 := fun w => c_rPoint px py w
  cases hp : nearB px py with
  | true =>
    rw [hp] at A2
    obtain ⟨b1, b2, b3, b4⟩ := nearB_iff.1 hp
    obtain ⟨X1, hX1⟩ : ∃ n : Nat, (n : Int) = px + 1073741824 := ⟨(px + 1073741824).toNat, Int.toNat_of_nonneg (by omega)⟩
    obtain ⟨Y1, hY1⟩ : ∃ n : Nat, (n : Int) = py + 1073741824 := ⟨(py + 1073741824).toNat, Int.toNat_of_nonneg (by omega)⟩
    exact back_yes px py (Cv.zv X1 Y1) v (v % N) N E m _ _ W hE (decide_eq_false h1) (decide_eq_false h2) (by omega) (by omega) k1 k2 k3 k4 k5 k6 k9 (decide_eq_true (by omega)) (decide_eq_true (by omega)) (decide_eq_true (by omega)) (decide_eq_true (by omega)) (decide_eq_true l.1) (decide_eq_true l.2)
      (fun w => c_Z px py X1 Y1 hp hX1 hY1 w) A2 (fun w => c_Unz X1 Y1 (by omega) (by omega) px py hX1 hY1 hp w) A4 A5
  | false =>
    rw [hp] at A2
    exact back_no px py v (v % N) N E m _ _ W hE (decide_eq_false h1) (decide_eq_false h2) (by omega) (by omega) k1 k2 k3 k4 k5 k6 k9 (decide_eq_true (by omega)) (decide_eq_true (by omega)) (decide_eq_true (by omega)) (decide_eq_true (by omega)) (decide_eq_true l.1) (decide_eq_true l.2)
      hp A2 A4 A5
end Go.Proofs.YtldlpbfncgcimaaDoor
