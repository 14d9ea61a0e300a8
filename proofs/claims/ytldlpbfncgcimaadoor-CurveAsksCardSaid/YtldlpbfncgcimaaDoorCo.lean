/- CurveNeighbours -/
import Derived.Test.YtldlpbfncgcimaaDoorCm
import Derived.Test.YtldlpbfncgcimaaDoorCn
namespace Go.Proofs.YtldlpbfncgcimaaDoor
set_option linter.unusedVariables false
open Go.ChangeShapes Go.WideShapes Go.ChangeAt Go.RowKit

set_option maxRecDepth 100000 in
theorem nb_skip (v : Nat) (n : Int) (W : World) (hE : ErrT W) (h : decide (n < 1) = true ∨ (decide (n < 1) = false ∧ decide ((31 : Int) < n) = true)) :
    Calls Tryd.prog 11 #[.int .u64 v, .int .i64 n] W fun e w' => e = .returned (.bool true) ∧ Gr W w' := by
  have HAW := Lib.hid (fun w (g : Gr W w) => p19_awake w (errT_gr hE g))
  clear hE
  rcases h with t1 | ⟨t1, t2⟩
  all_goals
    go_enter Tryd.func11, Tryd.ntmps11
    go_wp2_with fail
    go_at_call 40
    refine ((HAW.out _ (by go_grown))).mono ?_
    rintro e w1 ⟨rfl, hw1⟩
    have gw1 : Gr W w1 := Gr.trans (by go_grown) hw1
    clear hw1
    go_wp2_with fail
    go_ret
    exact ⟨rfl, gw1⟩
/-- What the words say of four to the n-th, and two. -/
theorem pow_words {n : Nat} (hn : 1 ≤ n ∧ n ≤ 31) : ∃ N E : Nat, N = 4 ^ n ∧ E = 2 ^ n ∧ 4 ≤ N ∧ N ≤ 4611686018427387904 ∧ 2 ≤ E ∧ E ≤ 2147483648 ∧ (2 : Int) ^ (2 * n) = N ∧ IntKind.u64.wrap (N : Int) = N ∧ IntKind.u64.wrap ((N : Int) - 1) = (N : Int) - 1 ∧ (2 : Int) ^ min n 64 = E ∧ (2 : Int) ^ n = E ∧ IntKind.i64.wrap (E : Int) = E ∧ IntKind.i64.wrap ((E : Int) - 1) = (E : Int) - 1 ∧ wrap64 ((E : Int) - 1) = (E : Int) - 1 := by
  have h1 : (4 : Nat) ^ n ≤ 4 ^ 31 := Nat.pow_le_pow_right (by omega) hn.2
  have h2 : (2 : Nat) ^ n ≤ 2 ^ 31 := Nat.pow_le_pow_right (by omega) hn.2
  have h3 : (4 : Nat) ^ 1 ≤ 4 ^ n := Nat.pow_le_pow_right (by omega) hn.1
  have h4 : (2 : Nat) ^ 1 ≤ 2 ^ n := Nat.pow_le_pow_right (by omega) hn.1
  rw [show (4 : Nat) ^ 31 = 4611686018427387904 from rfl] at h1
  refine ⟨4 ^ n, 2 ^ n, rfl, rfl, by omega, h1, by omega, by omega, ?_, IntWalk.u64_in _ (by omega), IntWalk.u64_in _ (by omega), ?_, by norm_cast, IntWalk.i64_in _ (by omega), IntWalk.i64_in _ (by omega), IntWalk.wrap64_in _ (by omega)⟩
  · rw [show (4 : Nat) ^ n = 2 ^ (2 * n) by rw [Nat.pow_mul]]; norm_cast
  · rw [Nat.min_eq_left (by omega)]; norm_cast
theorem and_top {v n : Nat} (hv : v < 18446744073709551616) (hn : 4 ^ n ≤ 4611686018427387904) : bits BinOp.and IntKind.u64 (v : Int) (((4 ^ n : Nat) : Int) - 1) = ((v % 4 ^ n : Nat) : Int) := by
  have hp : 0 < 4 ^ n := Nat.pow_pos (by omega)
  rw [show (((4 ^ n : Nat) : Int) - 1) = ((4 ^ n - 1 : Nat) : Int) by omega, bits_and_u64_nat v _ hv (by omega), show (4 : Nat) ^ n = 2 ^ (2 * n) by rw [Nat.pow_mul], Nat.and_two_pow_sub_one_eq_mod]
set_option maxHeartbeats 4000000 in
set_option maxRecDepth 100000 in
theorem nb_top (v v' N E n : Nat) (W : World) (hE : ErrT W) (t1 : decide ((n : Int) < 1) = false) (t2 : decide ((31 : Int) < (n : Int)) = false) (n0 : (0 : Int) ≤ (n : Int)) (n1 : (n : Int) ≤ 31)
    (k1 : (2 : Int) ^ (2 * n) = N) (k2 : IntKind.u64.wrap (N : Int) = N) (k3 : IntKind.u64.wrap ((N : Int) - 1) = (N : Int) - 1) (k4 : (2 : Int) ^ min n 64 = E) (k5 : (2 : Int) ^ n = E) (k6 : IntKind.i64.wrap (E : Int) = E) (k7 : IntKind.i64.wrap ((E : Int) - 1) = (E : Int) - 1) (k8 : wrap64 ((E : Int) - 1) = (E : Int) - 1)
    (k9 : bits BinOp.and IntKind.u64 (v : Int) ((N : Int) - 1) = (v' : Int)) (t3 : ((v' : Int) == (N : Int) - 1) = true)
    (A1 : ∀ w, Calls Tryd.prog 36 #[.int .u64 0, .int .i64 n] w fun e w' => e = .returned (.tuple #[.agg #[.int .i64 0, .int .i64 0], .nilIface]) ∧ Gr w w') (A2 : ∀ w, Calls Tryd.prog 36 #[.int .u64 ((N : Int) - 1), .int .i64 n] w fun e w' => e = .returned (.tuple #[.agg #[.int .i64 ((E : Int) - 1), .int .i64 0], .nilIface]) ∧ Gr w w') :
    Calls Tryd.prog 11 #[.int .u64 v, .int .i64 n] W fun e w' => e = .returned (.bool true) ∧ Gr W w' := by
  have HAW := Lib.hid (fun w (g : Gr W w) => p19_awake w (errT_gr hE g))
  clear hE
  have H1 := Lib.hid A1
  have H2 := Lib.hid A2
  clear A1 A2
  go_enter Tryd.func11, Tryd.ntmps11
  go_wp2_with fail
  go_at_call 36
  refine ((H1.out _)).mono ?_
  rintro e w1 ⟨rfl, hw1⟩
  have gw1 : Gr W w1 := Gr.trans (by go_grown) hw1
  clear hw1
  go_wp2_with fail
  go_at_call 36
  refine ((H2.out _)).mono ?_
  rintro e w2 ⟨rfl, hw2⟩
  have cw2_0_0 : w2.cell? ⟨w1.heap.size, 0, none⟩ = some (.int .i64 0) := cell_gr hw2 (by go_simp)
  have cw2_0_1 : w2.cell? ⟨w1.heap.size, 1, none⟩ = some (.int .i64 0) := cell_gr hw2 (by go_simp)
  have zw2_0 : w1.heap.size < w2.heap.size := World.block_lt_of_cell? _ _ cw2_0_0
  have gw2 : Gr W w2 := Gr.trans (by have gg := gw1; have gs := gg.size; go_grown) hw2
  clear hw2 gw1
  go_wp2_with fail
  generalize hhw3 : (w2.alloc (.cells #[.int .i64 ((E : Int) - 1), .int .i64 0] 54)) = w3
  have cw3_0_0 : w3.cell? ⟨w1.heap.size, 0, none⟩ = some (.int .i64 0) := by subst hhw3; go_simp
  have cw3_0_1 : w3.cell? ⟨w1.heap.size, 1, none⟩ = some (.int .i64 0) := by subst hhw3; go_simp
  have zw3_0 : w1.heap.size < w3.heap.size := World.block_lt_of_cell? _ _ cw3_0_0
  have cw3_1_0 : w3.cell? ⟨w2.heap.size, 0, none⟩ = some (.int .i64 ((E : Int) - 1)) := by subst hhw3; go_simp
  have cw3_1_1 : w3.cell? ⟨w2.heap.size, 1, none⟩ = some (.int .i64 0) := by subst hhw3; go_simp
  have zw3_1 : w2.heap.size < w3.heap.size := World.block_lt_of_cell? _ _ cw3_1_0
  have gw3 : Gr W w3 := by subst hhw3; have gg := gw2; have gs := gg.size; go_grown
  clear hhw3 gw2 zw2_0 cw2_0_0 cw2_0_1
  go_wp2_with fail
  refine wp_region_spread (by kernel_rfl) (by kernel_rfl) ?_
  try simp only [List.append]
  repeat (first | go_big_quiet_skip | (go_big_quiet_want; go_big_quiet_op; (first | go_big_quiet_on | (apply Exists.intro; refine ⟨fun _ => ?_, ?_⟩; (· (first | (go_at_call 40; first | ((with_reducible refine ((HAW.out _ (Gr.trans (by have gg := gw3; have gs := gg.size; go_grown) (gr_spread _ _)))).mono ?_); rintro e w' ⟨rfl, hg⟩; exact ⟨rfl, spread_gr hg⟩)))); go_big_quiet_on))))
  refine wpQuiet_nil ?_
  intro wr hr
  obtain ⟨mr, rfl⟩ := hr
  go_wp2_with fail
  go_ret
  exact ⟨rfl, Gr.trans (by have gg := gw3; have gs := gg.size; go_grown) (gr_spread _ _)⟩
set_option maxHeartbeats 4000000 in
set_option maxRecDepth 100000 in
theorem nb_go (v v' N n ax ay bx by' : Nat) (dx dy : Int) (W : World) (hE : ErrT W) (t1 : decide ((n : Int) < 1) = false) (t2 : decide ((31 : Int) < (n : Int)) = false) (n0 : (0 : Int) ≤ (n : Int)) (n1 : (n : Int) ≤ 31)
    (k1 : (2 : Int) ^ (2 * n) = N) (k2 : IntKind.u64.wrap (N : Int) = N) (k3 : IntKind.u64.wrap ((N : Int) - 1) = (N : Int) - 1)
    (k9 : bits BinOp.and IntKind.u64 (v : Int) ((N : Int) - 1) = (v' : Int)) (t3 : ((v' : Int) == (N : Int) - 1) = false) (k10 : IntKind.u64.wrap ((v' : Int) + 1) = (v' : Int) + 1)
    (A1 : ∀ w, Calls Tryd.prog 36 #[.int .u64 v', .int .i64 n] w fun e w' => e = .returned (.tuple #[.agg #[.int .i64 ax, .int .i64 ay], .nilIface]) ∧ Gr w w') (A2 : ∀ w, Calls Tryd.prog 36 #[.int .u64 ((v' : Int) + 1), .int .i64 n] w fun e w' => e = .returned (.tuple #[.agg #[.int .i64 bx, .int .i64 by'], .nilIface]) ∧ Gr w w')
    (b1 : (ax : Int) ≤ 2147483648) (b2 : (ay : Int) ≤ 2147483648) (b3 : (bx : Int) ≤ 2147483648) (b4 : (by' : Int) ≤ 2147483648) (ex : (ax : Int) - bx = dx) (ey : (ay : Int) - by' = dy)
    (hd : (dx = 0 ∧ (dy = 1 ∨ dy = -1)) ∨ ((dx = 1 ∨ dx = -1) ∧ dy = 0)) :
    Calls Tryd.prog 11 #[.int .u64 v, .int .i64 n] W fun e w' => e = .returned (.bool true) ∧ Gr W w' := by
  have HAW := Lib.hid (fun w (g : Gr W w) => p19_awake w (errT_gr hE g))
  clear hE
  have H1 := Lib.hid A1
  have H2 := Lib.hid A2
  clear A1 A2
  rcases hd with ⟨rfl, rfl | rfl⟩ | ⟨rfl | rfl, rfl⟩
  all_goals
    go_enter Tryd.func11, Tryd.ntmps11
    go_wp2_with fail
    go_at_call 36
    refine ((H1.out _)).mono ?_
    rintro e w1 ⟨rfl, hw1⟩
    have gw1 : Gr W w1 := Gr.trans (by go_grown) hw1
    clear hw1
    go_wp2_with fail
    go_at_call 36
    refine ((H2.out _)).mono ?_
    rintro e w2 ⟨rfl, hw2⟩
    have cw2_0_0 : w2.cell? ⟨w1.heap.size, 0, none⟩ = some (.int .i64 ax) := cell_gr hw2 (by go_simp)
    have cw2_0_1 : w2.cell? ⟨w1.heap.size, 1, none⟩ = some (.int .i64 ay) := cell_gr hw2 (by go_simp)
    have zw2_0 : w1.heap.size < w2.heap.size := World.block_lt_of_cell? _ _ cw2_0_0
    have gw2 : Gr W w2 := Gr.trans (by have gg := gw1; have gs := gg.size; go_grown) hw2
    clear hw2 gw1
    go_wp2_with fail
    go_at_call 40
    refine ((HAW.out _ (by have gg := gw2; have gs := gg.size; go_grown))).mono ?_
    rintro e w3 ⟨rfl, hw3⟩
    have cw3_0_0 : w3.cell? ⟨w1.heap.size, 0, none⟩ = some (.int .i64 ax) := cell_gr hw3 (by go_simp)
    have cw3_0_1 : w3.cell? ⟨w1.heap.size, 1, none⟩ = some (.int .i64 ay) := cell_gr hw3 (by go_simp)
    have zw3_0 : w1.heap.size < w3.heap.size := World.block_lt_of_cell? _ _ cw3_0_0
    have cw3_1_0 : w3.cell? ⟨w2.heap.size, 0, none⟩ = some (.int .i64 bx) := cell_gr hw3 (by go_simp)
    have cw3_1_1 : w3.cell? ⟨w2.heap.size, 1, none⟩ = some (.int .i64 by') := cell_gr hw3 (by go_simp)
    have zw3_1 : w2.heap.size < w3.heap.size := World.block_lt_of_cell? _ _ cw3_1_0
    have gw3 : Gr W w3 := Gr.trans (by have gg := gw2; have gs := gg.size; go_grown) hw3
    clear hw3 gw2 zw2_0 cw2_0_0 cw2_0_1
    go_wp2_with fail
    go_ret
    exact ⟨rfl, gw3⟩
theorem walk_CurveNeighbours (v : Nat) (n : Int) (B0 : Wd v) (B1 : -9223372036854775808 ≤ n ∧ n ≤ 9223372036854775807) (W : World) (hE : ErrT W) :
    Calls Tryd.prog 11 #[.int .u64 v, .int .i64 n] W fun e w' => e = .returned (.bool true) ∧ Gr W w' := by
  by_cases h1 : n < 1
  · exact nb_skip v n W hE (Or.inl (decide_eq_true h1))
  by_cases h2 : 31 < n
  · exact nb_skip v n W hE (Or.inr ⟨decide_eq_false h1, decide_eq_true h2⟩)
  obtain ⟨m, rfl⟩ : ∃ m : Nat, n = m := ⟨n.toNat, (Int.toNat_of_nonneg (by omega)).symm⟩
  have hm : 1 ≤ m ∧ m ≤ 31 := by omega
  obtain ⟨N, E, eN, eE, N4, Nb, E2, Eb, k1, k2, k3, k4, k5, k6, k7, k8⟩ := pow_words hm
  have k9 := and_top (n := m) B0 (by rw [← eN]; exact Nb)
  rw [← eN] at k9
  have hlt : v % N < N := Nat.mod_lt _ (by omega)
  by_cases ht : v % N = N - 1
  · have A1 := fun w => c_Unhilbert 0 m hm (by rw [← eN]; omega) w
    have A2 := fun w => c_Unhilbert (N - 1) m hm (by rw [← eN]; omega) w
    rw [Cv.uX_zero (j := m) (v := 0) (Nat.zero_mod _)] at A1
    rw [Cv.uX_top (j := m) (v := N - 1) (by rw [← eN]; exact Nat.mod_eq_of_lt (by omega))] at A2
    refine nb_top v (v % N) N E m W hE (decide_eq_false h1) (decide_eq_false h2) (by omega) (by omega) k1 k2 k3 k4 k5 k6 k7 k8 k9 (by rw [beq_iff_eq]; omega) A1 (fun w => ?_)
    have C := A2 w
    rw [show (((N - 1 : Nat)) : Int) = (N : Int) - 1 by omega] at C
    rw [← eE] at C
    rw [show ((((E - 1, 0) : Nat × Nat).1 : Nat) : Int) = (E : Int) - 1 by show ((E - 1 : Nat) : Int) = _; omega] at C
    exact C
  · have A1 := fun w => c_Unhilbert (v % N) m hm (by rw [← eN]; omega) w
    have A2 := fun w => c_Unhilbert (v % N + 1) m hm (by rw [← eN]; omega) w
    have l1 := Cv.uX_lt m (v % N)
    have l2 := Cv.uX_lt m (v % N + 1)
    have hadj := Cv.uX_adj (j := m) (v := v % N) (by rw [← eN, Nat.mod_eq_of_lt hlt]; exact ht)
    rw [← eE] at l1 l2
    unfold Cv.adj at hadj
    refine nb_go v (v % N) N m (Cv.uX m (v % N)).1 (Cv.uX m (v % N)).2 (Cv.uX m (v % N + 1)).1 (Cv.uX m (v % N + 1)).2 _ _ W hE (decide_eq_false h1) (decide_eq_false h2) (by omega) (by omega) k1 k2 k3 k9 ?_ (IntWalk.u64_in _ (by omega)) A1 (fun w => ?_) (by omega) (by omega) (by omega) (by omega) rfl rfl (by omega)
    · rw [← Bool.not_eq_true, beq_iff_eq]; omega
    · have C := A2 w
      rw [show (((v % N + 1 : Nat)) : Int) = ((v % N : Nat) : Int) + 1 by omega] at C
      exact C
end Go.Proofs.YtldlpbfncgcimaaDoor
