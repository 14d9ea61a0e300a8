/- the document's own products -/
import Derived.Test.YtfamocpbmbhmbaaDoorRm
namespace Go.Proofs.YtfamocpbmbhmbaaDoor
set_option linter.unusedVariables false
open Go.ChangeShapes Go.WideShapes Go.ChangeAt Go.RowKit

theorem or_words (x y : Nat) (hx : Hw x) (hy : Hw y) : bits BinOp.or IntKind.u64 (x : Int) ((y * 4294967296 : Nat) : Int) = ((x + y * 4294967296 : Nat) : Int) := by
  refine or_u64 x (y * 4294967296) (by unfold Hw at hx; unfold Wd; omega) (by unfold Hw at hy; unfold Wd; omega) ?_
  have h := Nat.two_pow_add_eq_or_of_lt (i := 32) (b := x) (by unfold Hw at hx; omega) y
  rw [show 2 ^ 32 * y = y * 4294967296 by omega] at h
  rw [Nat.or_comm, ← h, Nat.add_comm]
set_option maxRecDepth 100000 in
theorem c_join0 (O n cap x y : Nat) (w : World) (hn : (2 : Int) ≤ (n : Int)) (hx : Hw x) (hy : Hw y) (k0 : w.cell? ⟨O, 0, none⟩ = some (.int .u64 x)) (k1 : w.cell? ⟨O, 1, none⟩ = some (.int .u64 y)) :
    Calls Tryd.prog 67 #[.slice (some ⟨O, 0, none⟩) n cap, .int .i64 0] w fun e w' => e = .returned (.int .u64 ((x + y * 4294967296 : Nat) : Int)) ∧ Gr w w' := by
  have q1 : IntKind.u64.wrap ((y : Int) * 4294967296) = ((y * 4294967296 : Nat) : Int) := by
    rw [IntKind.wrap_u64]; unfold Hw at hy; omega
  have q2 := or_words x y hx hy
  obtain ⟨z, hz⟩ : ∃ z, z = y * 4294967296 := ⟨_, rfl⟩
  obtain ⟨s, hs⟩ : ∃ s, s = x + y * 4294967296 := ⟨_, rfl⟩
  rw [← hs, ← hz] at q2
  rw [← hz] at q1
  rw [← hs]
  clear hs hz hx hy
  have l0 : (0 : Int) < (n : Int) := by omega
  have l1 : (1 : Int) < (n : Int) := by omega
  have l2 : 0 < n := by omega
  have l3 : 1 < n := by omega
  clear hn
  go_enter Tryd.func67, Tryd.ntmps67
  go_wp2_with fail
  refine wp_region_spread (by kernel_rfl) (by kernel_rfl) ?_
  try simp only [List.append]
  repeat (first | go_big_quiet_skip | (go_big_quiet_want; go_big_quiet_op; (first | go_big_quiet_on | (apply Exists.intro; refine ⟨fun _ => ?_, ?_⟩; (· fail); go_big_quiet_on))))
  refine wpQuiet_nil ?_
  intro wr hr
  obtain ⟨mr, rfl⟩ := hr
  go_wp2_with fail
  go_ret
  exact ⟨rfl, Gr.trans (by go_grown) (gr_spread _ _)⟩
set_option maxRecDepth 100000 in
theorem c_join1 (O n cap x y : Nat) (w : World) (hn : (4 : Int) ≤ (n : Int)) (hx : Hw x) (hy : Hw y) (k0 : w.cell? ⟨O, 2, none⟩ = some (.int .u64 x)) (k1 : w.cell? ⟨O, 3, none⟩ = some (.int .u64 y)) :
    Calls Tryd.prog 67 #[.slice (some ⟨O, 0, none⟩) n cap, .int .i64 1] w fun e w' => e = .returned (.int .u64 ((x + y * 4294967296 : Nat) : Int)) ∧ Gr w w' := by
  have q1 : IntKind.u64.wrap ((y : Int) * 4294967296) = ((y * 4294967296 : Nat) : Int) := by
    rw [IntKind.wrap_u64]; unfold Hw at hy; omega
  have q2 := or_words x y hx hy
  obtain ⟨z, hz⟩ : ∃ z, z = y * 4294967296 := ⟨_, rfl⟩
  obtain ⟨s, hs⟩ : ∃ s, s = x + y * 4294967296 := ⟨_, rfl⟩
  rw [← hs, ← hz] at q2
  rw [← hz] at q1
  rw [← hs]
  clear hs hz hx hy
  have l0 : (2 : Int) < (n : Int) := by omega
  have l1 : (3 : Int) < (n : Int) := by omega
  have l2 : 2 < n := by omega
  have l3 : 3 < n := by omega
  clear hn
  go_enter Tryd.func67, Tryd.ntmps67
  go_wp2_with fail
  refine wp_region_spread (by kernel_rfl) (by kernel_rfl) ?_
  try simp only [List.append]
  repeat (first | go_big_quiet_skip | (go_big_quiet_want; go_big_quiet_op; (first | go_big_quiet_on | (apply Exists.intro; refine ⟨fun _ => ?_, ?_⟩; (· fail); go_big_quiet_on))))
  refine wpQuiet_nil ?_
  intro wr hr
  obtain ⟨mr, rfl⟩ := hr
  go_wp2_with fail
  go_ret
  exact ⟨rfl, Gr.trans (by go_grown) (gr_spread _ _)⟩
set_option maxRecDepth 100000 in
theorem c_join2 (O n cap x y : Nat) (w : World) (hn : (6 : Int) ≤ (n : Int)) (hx : Hw x) (hy : Hw y) (k0 : w.cell? ⟨O, 4, none⟩ = some (.int .u64 x)) (k1 : w.cell? ⟨O, 5, none⟩ = some (.int .u64 y)) :
    Calls Tryd.prog 67 #[.slice (some ⟨O, 0, none⟩) n cap, .int .i64 2] w fun e w' => e = .returned (.int .u64 ((x + y * 4294967296 : Nat) : Int)) ∧ Gr w w' := by
  have q1 : IntKind.u64.wrap ((y : Int) * 4294967296) = ((y * 4294967296 : Nat) : Int) := by
    rw [IntKind.wrap_u64]; unfold Hw at hy; omega
  have q2 := or_words x y hx hy
  obtain ⟨z, hz⟩ : ∃ z, z = y * 4294967296 := ⟨_, rfl⟩
  obtain ⟨s, hs⟩ : ∃ s, s = x + y * 4294967296 := ⟨_, rfl⟩
  rw [← hs, ← hz] at q2
  rw [← hz] at q1
  rw [← hs]
  clear hs hz hx hy
  have l0 : (4 : Int) < (n : Int) := by omega
  have l1 : (5 : Int) < (n : Int) := by omega
  have l2 : 4 < n := by omega
  have l3 : 5 < n := by omega
  clear hn
  go_enter Tryd.func67, Tryd.ntmps67
  go_wp2_with fail
  refine wp_region_spread (by kernel_rfl) (by kernel_rfl) ?_
  try simp only [List.append]
  repeat (first | go_big_quiet_skip | (go_big_quiet_want; go_big_quiet_op; (first | go_big_quiet_on | (apply Exists.intro; refine ⟨fun _ => ?_, ?_⟩; (· fail); go_big_quiet_on))))
  refine wpQuiet_nil ?_
  intro wr hr
  obtain ⟨mr, rfl⟩ := hr
  go_wp2_with fail
  go_ret
  exact ⟨rfl, Gr.trans (by go_grown) (gr_spread _ _)⟩

/-- The product of two numbers of two words of 32 bits, and its words. -/
theorem c_times22 (a0 a1 b0 b1 : Nat) (h1 : Hw a0) (h2 : Hw a1) (h3 : Hw b0) (h4 : Hw b1) : ∃ o0 o1 o2 o3 : Nat, Hw o0 ∧ Hw o1 ∧ Hw o2 ∧ Hw o3 ∧
    (a0 + a1 * 4294967296) * (b0 + b1 * 4294967296) = (o0 + o1 * 4294967296) + (o2 + o3 * 4294967296) * 18446744073709551616 ∧
    ∀ (A B ca cb : Nat) (w : World), A < w.heap.size → B < w.heap.size → w.cell? ⟨A, 0, none⟩ = some (.int .u64 a0) → w.cell? ⟨A, 1, none⟩ = some (.int .u64 a1) → w.cell? ⟨B, 0, none⟩ = some (.int .u64 b0) → w.cell? ⟨B, 1, none⟩ = some (.int .u64 b1) →
    Calls Tryd.prog 65 #[.slice (some ⟨A, 0, none⟩) 2 ca, .slice (some ⟨B, 0, none⟩) 2 cb] w fun e w' => ∃ O, e = .returned (.slice (some ⟨O, 0, none⟩) 4 4) ∧ w'.cell? ⟨O, 0, none⟩ = some (.int .u64 o0) ∧ w'.cell? ⟨O, 1, none⟩ = some (.int .u64 o1) ∧ w'.cell? ⟨O, 2, none⟩ = some (.int .u64 o2) ∧ w'.cell? ⟨O, 3, none⟩ = some (.int .u64 o3) ∧ Gr w w' := by
  have b00 := hw_mul h1 h3
  have b01 := hw_mul h1 h4
  have b10 := hw_mul h2 h3
  have b11 := hw_mul h2 h4
  obtain ⟨p00, e00⟩ : ∃ p, p = a0 * b0 := ⟨_, rfl⟩
  obtain ⟨p01, e01⟩ : ∃ p, p = a0 * b1 := ⟨_, rfl⟩
  obtain ⟨p10, e10⟩ : ∃ p, p = a1 * b0 := ⟨_, rfl⟩
  obtain ⟨p11, e11⟩ : ∃ p, p = a1 * b1 := ⟨_, rfl⟩
  have eP : (a0 + a1 * 4294967296) * (b0 + b1 * 4294967296) = p00 + (p01 + p10) * 4294967296 + p11 * 18446744073709551616 := by
    rw [e00, e01, e10, e11]; grind
  rw [eP]
  have m00 : IntKind.u64.wrap ((a0 : Int) * (b0 : Int)) = (p00 : Int) := by rw [← Int.natCast_mul, ← e00]; exact IntWalk.u64_in _ (by omega)
  have m01 : IntKind.u64.wrap ((a0 : Int) * (b1 : Int)) = (p01 : Int) := by rw [← Int.natCast_mul, ← e01]; exact IntWalk.u64_in _ (by omega)
  have m10 : IntKind.u64.wrap ((a1 : Int) * (b0 : Int)) = (p10 : Int) := by rw [← Int.natCast_mul, ← e10]; exact IntWalk.u64_in _ (by omega)
  have m11 : IntKind.u64.wrap ((a1 : Int) * (b1 : Int)) = (p11 : Int) := by rw [← Int.natCast_mul, ← e11]; exact IntWalk.u64_in _ (by omega)
  rw [← e00] at b00
  rw [← e01] at b01
  rw [← e10] at b10
  rw [← e11] at b11
  clear eP e00 e01 e10 e11 h1 h2 h3 h4
  obtain ⟨c00, ec00⟩ : ∃ c, c = p00 / 4294967296 := ⟨_, rfl⟩
  obtain ⟨v01, ev01⟩ : ∃ v, v = p01 + c00 := ⟨_, rfl⟩
  obtain ⟨o1, eo1⟩ : ∃ v, v = v01 % 4294967296 := ⟨_, rfl⟩
  obtain ⟨c01, ec01⟩ : ∃ v, v = v01 / 4294967296 := ⟨_, rfl⟩
  obtain ⟨v10, ev10⟩ : ∃ v, v = p10 + o1 := ⟨_, rfl⟩
  obtain ⟨c10, ec10⟩ : ∃ v, v = v10 / 4294967296 := ⟨_, rfl⟩
  obtain ⟨t11, et11⟩ : ∃ v, v = p11 + c01 := ⟨_, rfl⟩
  obtain ⟨v11, ev11⟩ : ∃ v, v = t11 + c10 := ⟨_, rfl⟩
  refine ⟨p00 % 4294967296, v10 % 4294967296, v11 % 4294967296, v11 / 4294967296, by unfold Hw; omega, by unfold Hw; omega, by unfold Hw; omega, by unfold Hw; omega, by omega, fun A B ca cb w hA hB k1 k2 k3 k4 => ?_⟩
  exact times22_walk a0 a1 b0 b1 p00 p01 p10 p11 v01 v10 t11 v11 _ c00 o1 c01 _ c10 _ _ A B ca cb w hA hB k1 k2 k3 k4 m00 m01 m10 m11
    (IntWalk.u64_in _ (by omega)) (IntWalk.u64_in _ (by omega)) (IntWalk.u64_in _ (by omega))
    (by rw [← Int.natCast_add, ← ev01]; exact IntWalk.u64_in _ (by omega)) (by rw [← Int.natCast_add, ← ev10]; exact IntWalk.u64_in _ (by omega)) (by rw [← Int.natCast_add, ← et11]; exact IntWalk.u64_in _ (by omega)) (by rw [← Int.natCast_add, ← ev11]; exact IntWalk.u64_in _ (by omega))
    (mask32 _ (by unfold Wd; omega)) (by rw [mask32 _ (by unfold Wd; omega), eo1]) (mask32 _ (by unfold Wd; omega)) (mask32 _ (by unfold Wd; omega))
    (by omega) (by omega) (by omega) (by omega)

set_option maxHeartbeats 1000000 in
set_option maxRecDepth 100000 in
theorem c_rMul (a b : Nat) (ha : Wd a) (hb : Wd b) (w : World) :
    Calls Tryd.prog 46 #[.int .u64 a, .int .u64 b] w fun e w' => e = .returned (.agg #[.int .u64 (a * b / 18446744073709551616 : Nat), .int .u64 (a * b % 18446744073709551616 : Nat)]) ∧ Gr w w' := by
  obtain ⟨o0, o1, o2, o3, g0, g1, g2, g3, eq, T⟩ := c_times22 (a % 4294967296) (a / 4294967296) (b % 4294967296) (b / 4294967296) (by unfold Hw; omega) (by unfold Hw Wd at *; omega) (by unfold Hw; omega) (by unfold Hw Wd at *; omega)
  rw [show a % 4294967296 + a / 4294967296 * 4294967296 = a by omega, show b % 4294967296 + b / 4294967296 * 4294967296 = b by omega] at eq
  obtain ⟨hi, ehi⟩ : ∃ x, x = a * b / 18446744073709551616 := ⟨_, rfl⟩
  obtain ⟨lo, elo⟩ : ∃ x, x = a * b % 18446744073709551616 := ⟨_, rfl⟩
  have e1 : o2 + o3 * 4294967296 = hi := by rw [ehi, eq]; unfold Hw at *; omega
  have e2 : o0 + o1 * 4294967296 = lo := by rw [elo, eq]; unfold Hw at *; omega
  rw [← ehi, ← elo]
  have W1 := c_words1 a ha
  have W2 := c_words1 b hb
  have J0 := fun O w k0 k1 => c_join0 O 4 4 o0 o1 w (by omega) g0 g1 k0 k1
  have J1 := fun O w k0 k1 => c_join1 O 4 4 o2 o3 w (by omega) g2 g3 k0 k1
  rw [e2] at J0
  rw [e1] at J1
  have H1 := Lib.hid W1
  have H2 := Lib.hid W2
  have H3 := Lib.hid T
  have H4 := Lib.hid J0
  have H5 := Lib.hid J1
  obtain ⟨a0, ea0⟩ : ∃ x, x = a % 4294967296 := ⟨_, rfl⟩
  obtain ⟨a1, ea1⟩ : ∃ x, x = a / 4294967296 := ⟨_, rfl⟩
  obtain ⟨b0, eb0⟩ : ∃ x, x = b % 4294967296 := ⟨_, rfl⟩
  obtain ⟨b1, eb1⟩ : ∃ x, x = b / 4294967296 := ⟨_, rfl⟩
  rw [← ea0, ← ea1] at H1
  rw [← eb0, ← eb1] at H2
  rw [← ea0, ← ea1, ← eb0, ← eb1] at H3
  clear W1 W2 T J0 J1 e1 e2 ehi elo eq g0 g1 g2 g3 ea0 ea1 eb0 eb1 ha hb
  go_enter Tryd.func46, Tryd.ntmps46
  go_wp2_with fail
  go_at_call 66
  refine (H1.out _ _ (by simp) (by go_simp)).mono ?_
  rintro e w1 ⟨A, ca, rfl, hA, ka0, ka1, h1⟩
  have r0 : w1.cell? ⟨w.heap.size, 0, none⟩ = some (.int .u64 0) := cell_gr h1 (by go_simp)
  have r1 : w1.cell? ⟨w.heap.size, 1, none⟩ = some (.int .u64 0) := cell_gr h1 (by go_simp)
  have f0 : w1.frozen? ⟨w.heap.size, 0, none⟩ = false := frozen_gr (v := .int .u64 0) h1 (by go_simp) (by go_simp)
  have f1 : w1.frozen? ⟨w.heap.size, 1, none⟩ = false := frozen_gr (v := .int .u64 0) h1 (by go_simp) (by go_simp)
  have zr := World.block_lt_of_cell? _ _ r0
  have zA := World.block_lt_of_cell? _ _ ka0
  have gw1 : Gr w w1 := Gr.trans (by go_grown) h1
  clear h1 hA
  go_wp2_with fail
  go_at_call 66
  refine (H2.out _ _ (by simp) (by go_simp)).mono ?_
  rintro e w2 ⟨B, cb, rfl, hB, kb0, kb1, h2⟩
  have h2' : Gr w1 w2 := Gr.trans (by go_grown) h2
  have gw2 : Gr w w2 := Gr.trans gw1 h2'
  have f0' := frozen_gr h2' r0 f0
  have f1' := frozen_gr h2' r1 f1
  replace r0 := cell_gr h2' r0
  replace r1 := cell_gr h2' r1
  replace ka0 := cell_gr h2' ka0
  replace ka1 := cell_gr h2' ka1
  clear f0 f1 zr zA
  have zr := World.block_lt_of_cell? _ _ r0
  have zA := World.block_lt_of_cell? _ _ ka0
  have zB := World.block_lt_of_cell? _ _ kb0
  clear h2 hB h2' gw1
  go_wp2_with fail
  go_at_call 65
  refine (H3.out _ _ _ _ _ zA zB ka0 ka1 kb0 kb1).mono ?_
  rintro e w3 ⟨O, rfl, k0, k1, k2, k3, h3⟩
  have f0 := frozen_gr h3 r0 f0'
  have f1 := frozen_gr h3 r1 f1'
  replace r0 := cell_gr h3 r0
  replace r1 := cell_gr h3 r1
  have gw3 : Gr w w3 := Gr.trans gw2 h3
  clear f0' f1' zr zA zB ka0 ka1 kb0 kb1 h3 gw2
  have zr := World.block_lt_of_cell? _ _ r0
  have zO := World.block_lt_of_cell? _ _ k0
  go_wp2_with fail
  go_at_call 67
  refine ((H5.out _ _ (by go_simp) (by go_simp))).mono ?_
  rintro e w4 ⟨rfl, hw4⟩
  have cw4_0_0 : w4.cell? ⟨w.heap.size, 0, none⟩ = some (.int .u64 0) := cell_gr hw4 (by go_simp)
  have fw4_0_0 : w4.frozen? ⟨w.heap.size, 0, none⟩ = false := frozen_gr (v := .int .u64 0) hw4 (by go_simp) (by go_simp)
  have cw4_0_1 : w4.cell? ⟨w.heap.size, 1, none⟩ = some (.int .u64 0) := cell_gr hw4 (by go_simp)
  have fw4_0_1 : w4.frozen? ⟨w.heap.size, 1, none⟩ = false := frozen_gr (v := .int .u64 0) hw4 (by go_simp) (by go_simp)
  have zw4_0 : w.heap.size < w4.heap.size := World.block_lt_of_cell? _ _ cw4_0_0
  have cw4_1_0 : w4.cell? ⟨O, 0, none⟩ = some (.int .u64 o0) := cell_gr hw4 (by go_simp)
  have cw4_1_1 : w4.cell? ⟨O, 1, none⟩ = some (.int .u64 o1) := cell_gr hw4 (by go_simp)
  have cw4_1_2 : w4.cell? ⟨O, 2, none⟩ = some (.int .u64 o2) := cell_gr hw4 (by go_simp)
  have cw4_1_3 : w4.cell? ⟨O, 3, none⟩ = some (.int .u64 o3) := cell_gr hw4 (by go_simp)
  have zw4_1 : O < w4.heap.size := World.block_lt_of_cell? _ _ cw4_1_0
  have gw4 : Gr w w4 := Gr.trans (by have gg := gw3; have gs := gg.size; go_grown) hw4
  clear hw4 gw3
  go_wp2_with fail
  go_at_call 67
  refine ((H4.out _ _ (by go_simp) (by go_simp))).mono ?_
  rintro e w5 ⟨rfl, hw5⟩
  have cw5_0_0 : w5.cell? ⟨w.heap.size, 0, none⟩ = some (.int .u64 0) := cell_gr hw5 (by go_simp)
  have fw5_0_0 : w5.frozen? ⟨w.heap.size, 0, none⟩ = false := frozen_gr (v := .int .u64 0) hw5 (by go_simp) (by go_simp)
  have cw5_0_1 : w5.cell? ⟨w.heap.size, 1, none⟩ = some (.int .u64 0) := cell_gr hw5 (by go_simp)
  have fw5_0_1 : w5.frozen? ⟨w.heap.size, 1, none⟩ = false := frozen_gr (v := .int .u64 0) hw5 (by go_simp) (by go_simp)
  have zw5_0 : w.heap.size < w5.heap.size := World.block_lt_of_cell? _ _ cw5_0_0
  have cw5_1_0 : w5.cell? ⟨O, 0, none⟩ = some (.int .u64 o0) := cell_gr hw5 (by go_simp)
  have cw5_1_1 : w5.cell? ⟨O, 1, none⟩ = some (.int .u64 o1) := cell_gr hw5 (by go_simp)
  have cw5_1_2 : w5.cell? ⟨O, 2, none⟩ = some (.int .u64 o2) := cell_gr hw5 (by go_simp)
  have cw5_1_3 : w5.cell? ⟨O, 3, none⟩ = some (.int .u64 o3) := cell_gr hw5 (by go_simp)
  have zw5_1 : O < w5.heap.size := World.block_lt_of_cell? _ _ cw5_1_0
  have gw5 : Gr w w5 := Gr.trans (by have gg := gw4; have gs := gg.size; go_grown) hw5
  clear hw5 gw4 zw4_0 cw4_0_0 fw4_0_0 cw4_0_1 fw4_0_1 zw4_1 cw4_1_0 cw4_1_1 cw4_1_2 cw4_1_3
  go_wp2_with fail
  refine bodyPost_ret (v := .agg #[.int .u64 hi, .int .u64 lo]) (by simp [results, Tryd.results46, go_sem, *]) rfl ⟨rfl, by have gg := gw5; have gs := gg.size; go_grown⟩
end Go.Proofs.YtfamocpbmbhmbaaDoor
