/- CurveAsks -/
import Derived.Test.YtldlpbfncgcimaaDoorCx
import Derived.Test.YtldlpbfncgcimaaDoorCy
namespace Go.Proofs.YtldlpbfncgcimaaDoor
set_option linter.unusedVariables false
open Go.ChangeShapes Go.WideShapes Go.ChangeAt Go.RowKit

theorem bits_cases (n : Int) : (decide (n < 1) = true ∨ (decide (n < 1) = false ∧ decide ((31 : Int) < n) = true)) ∨ ∃ m : Nat, n = m ∧ 1 ≤ m ∧ m ≤ 31 := by
  by_cases h1 : n < 1
  · exact Or.inl (Or.inl (decide_eq_true h1))
  · by_cases h2 : 31 < n
    · exact Or.inl (Or.inr ⟨decide_eq_false h1, decide_eq_true h2⟩)
    · exact Or.inr ⟨n.toNat, (Int.toNat_of_nonneg (by omega)).symm, by omega, by omega⟩
theorem Hilbert_both (x y n : Int) : ∃ z k : Nat, (∀ w, Calls Tryd.prog 34 #[.agg #[.int .i64 x, .int .i64 y], .int .i64 n] w (Ans w (.int .u64 z) k)) ∧ ∀ w, Calls Tryd.prog 35 #[.agg #[.int .i64 x, .int .i64 y], .int .i64 n] w fun e w' => e = .returned (.tuple #[.int .u64 z, .int .i64 k]) ∧ Gr w w' := by
  rcases bits_cases n with h | ⟨m, rfl, m1, m2⟩
  · exact ⟨0, 1, fun w => (hil_arg x y n w h).mono fun e w' hh => ans_ref (k := 1) (by omega) hh, fun w => rhil_arg x y n w h⟩
  · obtain ⟨N, E, eN, eE, N4, Nb, E2, Eb, k1, k2, k3, k4, k5, k6, k7, k8⟩ := pow_words ⟨m1, m2⟩
    have t1 : decide ((m : Int) < 1) = false := decide_eq_false (by omega)
    have t2 : decide ((31 : Int) < (m : Int)) = false := decide_eq_false (by omega)
    by_cases hx0 : x < 0
    · exact ⟨0, 2, fun w => (hil_range x y m E w t1 t2 (by omega) (by omega) k4 k5 k6 (Or.inl (decide_eq_true hx0))).mono fun e w' hh => ans_ref (k := 2) (by omega) hh, fun w => rhil_range x y m E w t1 t2 (by omega) (by omega) k4 k5 k6 (Or.inl (decide_eq_true hx0))⟩
    have dx0 : decide (x < 0) = false := decide_eq_false hx0
    by_cases hy0 : y < 0
    · refine ⟨0, 2, fun w => (hil_range x y m E w t1 t2 (by omega) (by omega) k4 k5 k6 ?_).mono fun e w' hh => ans_ref (k := 2) (by omega) hh, fun w => rhil_range x y m E w t1 t2 (by omega) (by omega) k4 k5 k6 (Or.inr (Or.inl ⟨dx0, decide_eq_true hy0⟩))⟩
      by_cases hx : (E : Int) ≤ x
      · exact Or.inr (Or.inl ⟨dx0, decide_eq_true hx⟩)
      · exact Or.inr (Or.inr (Or.inl ⟨dx0, decide_eq_false hx, decide_eq_true hy0⟩))
    have dy0 : decide (y < 0) = false := decide_eq_false hy0
    by_cases hx : (E : Int) ≤ x
    · exact ⟨0, 2, fun w => (hil_range x y m E w t1 t2 (by omega) (by omega) k4 k5 k6 (Or.inr (Or.inl ⟨dx0, decide_eq_true hx⟩))).mono fun e w' hh => ans_ref (k := 2) (by omega) hh, fun w => rhil_range x y m E w t1 t2 (by omega) (by omega) k4 k5 k6 (Or.inr (Or.inr (Or.inl ⟨dx0, dy0, decide_eq_true hx⟩)))⟩
    by_cases hy : (E : Int) ≤ y
    · exact ⟨0, 2, fun w => (hil_range x y m E w t1 t2 (by omega) (by omega) k4 k5 k6 (Or.inr (Or.inr (Or.inr ⟨dx0, decide_eq_false hx, dy0, decide_eq_true hy⟩)))).mono fun e w' hh => ans_ref (k := 2) (by omega) hh, fun w => rhil_range x y m E w t1 t2 (by omega) (by omega) k4 k5 k6 (Or.inr (Or.inr (Or.inr ⟨dx0, decide_eq_false hx, dy0, decide_eq_true hy⟩)))⟩
    obtain ⟨a, rfl⟩ : ∃ a : Nat, x = a := ⟨x.toNat, (Int.toNat_of_nonneg (by omega)).symm⟩
    obtain ⟨b, rfl⟩ : ∃ b : Nat, y = b := ⟨y.toNat, (Int.toNat_of_nonneg (by omega)).symm⟩
    exact ⟨Cv.hil m a b, 0, fun w => (c_Hilbert a b m ⟨m1, m2⟩ (by rw [← eE]; omega) (by rw [← eE]; omega) w).mono fun e w' hh => ans_nil hh, fun w => c_rHilbert a b m ⟨m1, m2⟩ (by rw [← eE]; omega) (by rw [← eE]; omega) w⟩
theorem Unhilbert_both (v : Nat) (n : Int) (hv : Wd v) : ∃ (x y : Int) (k : Nat), (∀ w, Calls Tryd.prog 36 #[.int .u64 v, .int .i64 n] w (Ans w (.agg #[.int .i64 x, .int .i64 y]) k)) ∧ ∀ w, Calls Tryd.prog 37 #[.int .u64 v, .int .i64 n] w fun e w' => e = .returned (.tuple #[.agg #[.int .i64 x, .int .i64 y], .int .i64 k]) ∧ Gr w w' := by
  rcases bits_cases n with h | ⟨m, rfl, m1, m2⟩
  · exact ⟨0, 0, 1, fun w => (unh_arg v n w h).mono fun e w' hh => ans_ref (k := 1) (by omega) hh, fun w => runh_arg v n w h⟩
  · have t1 : decide ((m : Int) < 1) = false := decide_eq_false (by omega)
    have t2 : decide ((31 : Int) < (m : Int)) = false := decide_eq_false (by omega)
    by_cases hlt : v < 4 ^ m
    · exact ⟨_, _, 0, fun w => (c_Unhilbert v m ⟨m1, m2⟩ hlt w).mono fun e w' hh => ans_nil hh, fun w => c_rUnhilbert v m ⟨m1, m2⟩ hlt w⟩
    · have hp : 0 < 4 ^ m := Nat.pow_pos (by omega)
      have hd : 0 < v / 4 ^ m := Nat.div_pos (by omega) hp
      obtain ⟨d, ed⟩ : ∃ d, d = v / 4 ^ m := ⟨_, rfl⟩
      rw [← ed] at hd
      have k1 : (v : Int) / 2 ^ (2 * m) = d := by
        rw [ed, show (4 : Nat) ^ m = 2 ^ (2 * m) by rw [Nat.pow_mul]]; norm_cast
      exact ⟨0, 0, 2, fun w => (unh_range v m d w t1 t2 (by omega) (by omega) k1 (by rw [← Bool.not_eq_true, beq_iff_eq]; omega) (by rw [bne_iff_ne]; omega)).mono fun e w' hh => ans_ref (k := 2) (by omega) hh, fun w => runh_range v m d w t1 t2 (by omega) (by omega) k1 (decide_eq_true (by omega)) (decide_eq_true hd)⟩

set_option maxHeartbeats 8000000 in
set_option maxRecDepth 100000 in
theorem asks_core (px py n lx ly hx hy x1 y1 x2 y2 x3 y3 : Int) (v z1 z2 k1 k2 k3 k4 k5 : Nat) (W : World) (hE : ErrT W)
    (A1 : ∀ w, Calls Tryd.prog 30 #[.agg #[.int .i64 px, .int .i64 py]] w (Ans w (.int .u64 z1) k1)) (A2 : ∀ w, Calls Tryd.prog 31 #[.agg #[.int .i64 px, .int .i64 py]] w fun e w' => e = .returned (.tuple #[.int .u64 z1, .int .i64 k1]) ∧ Gr w w')
    (A3 : ∀ w, Calls Tryd.prog 32 #[.int .u64 v] w (Ans w (.agg #[.int .i64 x1, .int .i64 y1]) k2)) (A4 : ∀ w, Calls Tryd.prog 33 #[.int .u64 v] w fun e w' => e = .returned (.tuple #[.agg #[.int .i64 x1, .int .i64 y1], .int .i64 k2]) ∧ Gr w w')
    (A5 : ∀ w, Calls Tryd.prog 34 #[.agg #[.int .i64 px, .int .i64 py], .int .i64 n] w (Ans w (.int .u64 z2) k3)) (A6 : ∀ w, Calls Tryd.prog 35 #[.agg #[.int .i64 px, .int .i64 py], .int .i64 n] w fun e w' => e = .returned (.tuple #[.int .u64 z2, .int .i64 k3]) ∧ Gr w w')
    (A7 : ∀ w, Calls Tryd.prog 36 #[.int .u64 v, .int .i64 n] w (Ans w (.agg #[.int .i64 x2, .int .i64 y2]) k4)) (A8 : ∀ w, Calls Tryd.prog 37 #[.int .u64 v, .int .i64 n] w fun e w' => e = .returned (.tuple #[.agg #[.int .i64 x2, .int .i64 y2], .int .i64 k4]) ∧ Gr w w')
    (A9 : ∀ w, Calls Tryd.prog 38 #[.agg #[.int .i64 lx, .int .i64 ly, .int .i64 hx, .int .i64 hy]] w (Ans w (.agg #[.int .i64 x3, .int .i64 y3]) k5)) (A0 : ∀ w, Calls Tryd.prog 39 #[.agg #[.int .i64 lx, .int .i64 ly, .int .i64 hx, .int .i64 hy]] w fun e w' => e = .returned (.tuple #[.agg #[.int .i64 x3, .int .i64 y3], .int .i64 k5]) ∧ Gr w w') :
    Calls Tryd.prog 9 #[.agg #[.int .i64 px, .int .i64 py], .int .u64 v, .int .i64 n, .agg #[.int .i64 lx, .int .i64 ly, .int .i64 hx, .int .i64 hy]] W fun e w' => e = .returned (.bool true) ∧ Gr W w' := by
  have HAW := Lib.hid (fun w (g : Gr W w) => p19_awake w (errT_gr hE g))
  have HT := Lib.hid (fun w (g : Gr W w) => errT_gr hE g)
  clear hE
  have H1 := Lib.hid A1
  have H2 := Lib.hid A2
  have H3 := Lib.hid A3
  have H4 := Lib.hid A4
  have H5 := Lib.hid A5
  have H6 := Lib.hid A6
  have H7 := Lib.hid A7
  have H8 := Lib.hid A8
  have H9 := Lib.hid A9
  have H0 := Lib.hid A0
  clear A1 A2 A3 A4 A5 A6 A7 A8 A9 A0
  go_enter Tryd.func9, Tryd.ntmps9
  go_wp2_with fail
  go_at_call 30
  refine ((H1.out _)).mono ?_
  rintro e w1 ⟨vw1, rfl, Ew1, hw1⟩
  have cw1_0_0 : w1.cell? ⟨W.heap.size, 0, none⟩ = some (.int .i64 px) := cell_gr hw1 (by go_simp)
  have cw1_0_1 : w1.cell? ⟨W.heap.size, 1, none⟩ = some (.int .i64 py) := cell_gr hw1 (by go_simp)
  have zw1_0 : W.heap.size < w1.heap.size := World.block_lt_of_cell? _ _ cw1_0_0
  have cw1_1_0 : w1.cell? ⟨W.heap.size + 1, 0, none⟩ = some (.int .i64 lx) := cell_gr hw1 (by go_simp)
  have cw1_1_1 : w1.cell? ⟨W.heap.size + 1, 1, none⟩ = some (.int .i64 ly) := cell_gr hw1 (by go_simp)
  have cw1_1_2 : w1.cell? ⟨W.heap.size + 1, 2, none⟩ = some (.int .i64 hx) := cell_gr hw1 (by go_simp)
  have cw1_1_3 : w1.cell? ⟨W.heap.size + 1, 3, none⟩ = some (.int .i64 hy) := cell_gr hw1 (by go_simp)
  have zw1_1 : W.heap.size + 1 < w1.heap.size := World.block_lt_of_cell? _ _ cw1_1_0
  have gw1 : Gr W w1 := Gr.trans (by go_grown) hw1
  clear hw1
  go_wp2_with fail
  go_at_call 31
  (with_reducible refine ((H2.out _)).mono ?_)
  rintro e w2 ⟨rfl, hw2⟩
  replace Ew1 := errIs_gr Ew1 (Gr.trans (by go_grown) hw2)
  have cw2_0_0 : w2.cell? ⟨W.heap.size, 0, none⟩ = some (.int .i64 px) := cell_gr hw2 (by go_simp)
  have cw2_0_1 : w2.cell? ⟨W.heap.size, 1, none⟩ = some (.int .i64 py) := cell_gr hw2 (by go_simp)
  have zw2_0 : W.heap.size < w2.heap.size := World.block_lt_of_cell? _ _ cw2_0_0
  have cw2_1_0 : w2.cell? ⟨W.heap.size + 1, 0, none⟩ = some (.int .i64 lx) := cell_gr hw2 (by go_simp)
  have cw2_1_1 : w2.cell? ⟨W.heap.size + 1, 1, none⟩ = some (.int .i64 ly) := cell_gr hw2 (by go_simp)
  have cw2_1_2 : w2.cell? ⟨W.heap.size + 1, 2, none⟩ = some (.int .i64 hx) := cell_gr hw2 (by go_simp)
  have cw2_1_3 : w2.cell? ⟨W.heap.size + 1, 3, none⟩ = some (.int .i64 hy) := cell_gr hw2 (by go_simp)
  have zw2_1 : W.heap.size + 1 < w2.heap.size := World.block_lt_of_cell? _ _ cw2_1_0
  have gw2 : Gr W w2 := Gr.trans (by have gg := gw1; have gs := gg.size; go_grown) hw2
  clear hw2 gw1 zw1_0 cw1_0_0 cw1_0_1 zw1_1 cw1_1_0 cw1_1_1 cw1_1_2 cw1_1_3
  go_wp2_with fail
  go_at_call 32
  refine ((H3.out _)).mono ?_
  rintro e w3 ⟨vw3, rfl, Ew3, hw3⟩
  replace Ew1 := errIs_gr Ew1 (Gr.trans (by go_grown) hw3)
  have cw3_0_0 : w3.cell? ⟨W.heap.size, 0, none⟩ = some (.int .i64 px) := cell_gr hw3 (by go_simp)
  have cw3_0_1 : w3.cell? ⟨W.heap.size, 1, none⟩ = some (.int .i64 py) := cell_gr hw3 (by go_simp)
  have zw3_0 : W.heap.size < w3.heap.size := World.block_lt_of_cell? _ _ cw3_0_0
  have cw3_1_0 : w3.cell? ⟨W.heap.size + 1, 0, none⟩ = some (.int .i64 lx) := cell_gr hw3 (by go_simp)
  have cw3_1_1 : w3.cell? ⟨W.heap.size + 1, 1, none⟩ = some (.int .i64 ly) := cell_gr hw3 (by go_simp)
  have cw3_1_2 : w3.cell? ⟨W.heap.size + 1, 2, none⟩ = some (.int .i64 hx) := cell_gr hw3 (by go_simp)
  have cw3_1_3 : w3.cell? ⟨W.heap.size + 1, 3, none⟩ = some (.int .i64 hy) := cell_gr hw3 (by go_simp)
  have zw3_1 : W.heap.size + 1 < w3.heap.size := World.block_lt_of_cell? _ _ cw3_1_0
  have gw3 : Gr W w3 := Gr.trans (by have gg := gw2; have gs := gg.size; go_grown) hw3
  clear hw3 gw2 zw2_0 cw2_0_0 cw2_0_1 zw2_1 cw2_1_0 cw2_1_1 cw2_1_2 cw2_1_3
  go_wp2_with fail
  go_at_call 33
  (with_reducible refine ((H4.out _)).mono ?_)
  rintro e w4 ⟨rfl, hw4⟩
  replace Ew1 := errIs_gr Ew1 (Gr.trans (by go_grown) hw4)
  replace Ew3 := errIs_gr Ew3 (Gr.trans (by go_grown) hw4)
  have cw4_0_0 : w4.cell? ⟨W.heap.size, 0, none⟩ = some (.int .i64 px) := cell_gr hw4 (by go_simp)
  have cw4_0_1 : w4.cell? ⟨W.heap.size, 1, none⟩ = some (.int .i64 py) := cell_gr hw4 (by go_simp)
  have zw4_0 : W.heap.size < w4.heap.size := World.block_lt_of_cell? _ _ cw4_0_0
  have cw4_1_0 : w4.cell? ⟨W.heap.size + 1, 0, none⟩ = some (.int .i64 lx) := cell_gr hw4 (by go_simp)
  have cw4_1_1 : w4.cell? ⟨W.heap.size + 1, 1, none⟩ = some (.int .i64 ly) := cell_gr hw4 (by go_simp)
  have cw4_1_2 : w4.cell? ⟨W.heap.size + 1, 2, none⟩ = some (.int .i64 hx) := cell_gr hw4 (by go_simp)
  have cw4_1_3 : w4.cell? ⟨W.heap.size + 1, 3, none⟩ = some (.int .i64 hy) := cell_gr hw4 (by go_simp)
  have zw4_1 : W.heap.size + 1 < w4.heap.size := World.block_lt_of_cell? _ _ cw4_1_0
  have cw4_2_0 : w4.cell? ⟨w3.heap.size, 0, none⟩ = some (.int .i64 x1) := cell_gr hw4 (by go_simp)
  have cw4_2_1 : w4.cell? ⟨w3.heap.size, 1, none⟩ = some (.int .i64 y1) := cell_gr hw4 (by go_simp)
  have zw4_2 : w3.heap.size < w4.heap.size := World.block_lt_of_cell? _ _ cw4_2_0
  have gw4 : Gr W w4 := Gr.trans (by have gg := gw3; have gs := gg.size; go_grown) hw4
  clear hw4 gw3 zw3_0 cw3_0_0 cw3_0_1 zw3_1 cw3_1_0 cw3_1_1 cw3_1_2 cw3_1_3
  go_wp2_with fail
  go_at_call 34
  refine ((H5.out _)).mono ?_
  rintro e w5 ⟨vw5, rfl, Ew5, hw5⟩
  replace Ew1 := errIs_gr Ew1 (Gr.trans (by go_grown) hw5)
  replace Ew3 := errIs_gr Ew3 (Gr.trans (by go_grown) hw5)
  have cw5_0_0 : w5.cell? ⟨W.heap.size, 0, none⟩ = some (.int .i64 px) := cell_gr hw5 (by go_simp)
  have cw5_0_1 : w5.cell? ⟨W.heap.size, 1, none⟩ = some (.int .i64 py) := cell_gr hw5 (by go_simp)
  have zw5_0 : W.heap.size < w5.heap.size := World.block_lt_of_cell? _ _ cw5_0_0
  have cw5_1_0 : w5.cell? ⟨W.heap.size + 1, 0, none⟩ = some (.int .i64 lx) := cell_gr hw5 (by go_simp)
  have cw5_1_1 : w5.cell? ⟨W.heap.size + 1, 1, none⟩ = some (.int .i64 ly) := cell_gr hw5 (by go_simp)
  have cw5_1_2 : w5.cell? ⟨W.heap.size + 1, 2, none⟩ = some (.int .i64 hx) := cell_gr hw5 (by go_simp)
  have cw5_1_3 : w5.cell? ⟨W.heap.size + 1, 3, none⟩ = some (.int .i64 hy) := cell_gr hw5 (by go_simp)
  have zw5_1 : W.heap.size + 1 < w5.heap.size := World.block_lt_of_cell? _ _ cw5_1_0
  have cw5_2_0 : w5.cell? ⟨w3.heap.size, 0, none⟩ = some (.int .i64 x1) := cell_gr hw5 (by go_simp)
  have cw5_2_1 : w5.cell? ⟨w3.heap.size, 1, none⟩ = some (.int .i64 y1) := cell_gr hw5 (by go_simp)
  have zw5_2 : w3.heap.size < w5.heap.size := World.block_lt_of_cell? _ _ cw5_2_0
  have cw5_3_0 : w5.cell? ⟨w4.heap.size, 0, none⟩ = some (.int .i64 x1) := cell_gr hw5 (by go_simp)
  have cw5_3_1 : w5.cell? ⟨w4.heap.size, 1, none⟩ = some (.int .i64 y1) := cell_gr hw5 (by go_simp)
  have zw5_3 : w4.heap.size < w5.heap.size := World.block_lt_of_cell? _ _ cw5_3_0
  have gw5 : Gr W w5 := Gr.trans (by have gg := gw4; have gs := gg.size; go_grown) hw5
  clear hw5 gw4 zw4_0 cw4_0_0 cw4_0_1 zw4_1 cw4_1_0 cw4_1_1 cw4_1_2 cw4_1_3 zw4_2 cw4_2_0 cw4_2_1
  go_wp2_with fail
  go_at_call 35
  (with_reducible refine ((H6.out _)).mono ?_)
  rintro e w6 ⟨rfl, hw6⟩
  replace Ew1 := errIs_gr Ew1 (Gr.trans (by go_grown) hw6)
  replace Ew3 := errIs_gr Ew3 (Gr.trans (by go_grown) hw6)
  replace Ew5 := errIs_gr Ew5 (Gr.trans (by go_grown) hw6)
  have cw6_0_0 : w6.cell? ⟨W.heap.size, 0, none⟩ = some (.int .i64 px) := cell_gr hw6 (by go_simp)
  have cw6_0_1 : w6.cell? ⟨W.heap.size, 1, none⟩ = some (.int .i64 py) := cell_gr hw6 (by go_simp)
  have zw6_0 : W.heap.size < w6.heap.size := World.block_lt_of_cell? _ _ cw6_0_0
  have cw6_1_0 : w6.cell? ⟨W.heap.size + 1, 0, none⟩ = some (.int .i64 lx) := cell_gr hw6 (by go_simp)
  have cw6_1_1 : w6.cell? ⟨W.heap.size + 1, 1, none⟩ = some (.int .i64 ly) := cell_gr hw6 (by go_simp)
  have cw6_1_2 : w6.cell? ⟨W.heap.size + 1, 2, none⟩ = some (.int .i64 hx) := cell_gr hw6 (by go_simp)
  have cw6_1_3 : w6.cell? ⟨W.heap.size + 1, 3, none⟩ = some (.int .i64 hy) := cell_gr hw6 (by go_simp)
  have zw6_1 : W.heap.size + 1 < w6.heap.size := World.block_lt_of_cell? _ _ cw6_1_0
  have cw6_2_0 : w6.cell? ⟨w3.heap.size, 0, none⟩ = some (.int .i64 x1) := cell_gr hw6 (by go_simp)
  have cw6_2_1 : w6.cell? ⟨w3.heap.size, 1, none⟩ = some (.int .i64 y1) := cell_gr hw6 (by go_simp)
  have zw6_2 : w3.heap.size < w6.heap.size := World.block_lt_of_cell? _ _ cw6_2_0
  have cw6_3_0 : w6.cell? ⟨w4.heap.size, 0, none⟩ = some (.int .i64 x1) := cell_gr hw6 (by go_simp)
  have cw6_3_1 : w6.cell? ⟨w4.heap.size, 1, none⟩ = some (.int .i64 y1) := cell_gr hw6 (by go_simp)
  have zw6_3 : w4.heap.size < w6.heap.size := World.block_lt_of_cell? _ _ cw6_3_0
  have gw6 : Gr W w6 := Gr.trans (by have gg := gw5; have gs := gg.size; go_grown) hw6
  clear hw6 gw5 zw5_0 cw5_0_0 cw5_0_1 zw5_1 cw5_1_0 cw5_1_1 cw5_1_2 cw5_1_3 zw5_2 cw5_2_0 cw5_2_1 zw5_3 cw5_3_0 cw5_3_1
  go_wp2_with fail
  go_at_call 36
  refine ((H7.out _)).mono ?_
  rintro e w7 ⟨vw7, rfl, Ew7, hw7⟩
  replace Ew1 := errIs_gr Ew1 (Gr.trans (by go_grown) hw7)
  replace Ew3 := errIs_gr Ew3 (Gr.trans (by go_grown) hw7)
  replace Ew5 := errIs_gr Ew5 (Gr.trans (by go_grown) hw7)
  have cw7_0_0 : w7.cell? ⟨W.heap.size, 0, none⟩ = some (.int .i64 px) := cell_gr hw7 (by go_simp)
  have cw7_0_1 : w7.cell? ⟨W.heap.size, 1, none⟩ = some (.int .i64 py) := cell_gr hw7 (by go_simp)
  have zw7_0 : W.heap.size < w7.heap.size := World.block_lt_of_cell? _ _ cw7_0_0
  have cw7_1_0 : w7.cell? ⟨W.heap.size + 1, 0, none⟩ = some (.int .i64 lx) := cell_gr hw7 (by go_simp)
  have cw7_1_1 : w7.cell? ⟨W.heap.size + 1, 1, none⟩ = some (.int .i64 ly) := cell_gr hw7 (by go_simp)
  have cw7_1_2 : w7.cell? ⟨W.heap.size + 1, 2, none⟩ = some (.int .i64 hx) := cell_gr hw7 (by go_simp)
  have cw7_1_3 : w7.cell? ⟨W.heap.size + 1, 3, none⟩ = some (.int .i64 hy) := cell_gr hw7 (by go_simp)
  have zw7_1 : W.heap.size + 1 < w7.heap.size := World.block_lt_of_cell? _ _ cw7_1_0
  have cw7_2_0 : w7.cell? ⟨w3.heap.size, 0, none⟩ = some (.int .i64 x1) := cell_gr hw7 (by go_simp)
  have cw7_2_1 : w7.cell? ⟨w3.heap.size, 1, none⟩ = some (.int .i64 y1) := cell_gr hw7 (by go_simp)
  have zw7_2 : w3.heap.size < w7.heap.size := World.block_lt_of_cell? _ _ cw7_2_0
  have cw7_3_0 : w7.cell? ⟨w4.heap.size, 0, none⟩ = some (.int .i64 x1) := cell_gr hw7 (by go_simp)
  have cw7_3_1 : w7.cell? ⟨w4.heap.size, 1, none⟩ = some (.int .i64 y1) := cell_gr hw7 (by go_simp)
  have zw7_3 : w4.heap.size < w7.heap.size := World.block_lt_of_cell? _ _ cw7_3_0
  have gw7 : Gr W w7 := Gr.trans (by have gg := gw6; have gs := gg.size; go_grown) hw7
  clear hw7 gw6 zw6_0 cw6_0_0 cw6_0_1 zw6_1 cw6_1_0 cw6_1_1 cw6_1_2 cw6_1_3 zw6_2 cw6_2_0 cw6_2_1 zw6_3 cw6_3_0 cw6_3_1
  go_wp2_with fail
  go_at_call 37
  (with_reducible refine ((H8.out _)).mono ?_)
  rintro e w8 ⟨rfl, hw8⟩
  replace Ew1 := errIs_gr Ew1 (Gr.trans (by go_grown) hw8)
  replace Ew3 := errIs_gr Ew3 (Gr.trans (by go_grown) hw8)
  replace Ew5 := errIs_gr Ew5 (Gr.trans (by go_grown) hw8)
  replace Ew7 := errIs_gr Ew7 (Gr.trans (by go_grown) hw8)
  have cw8_0_0 : w8.cell? ⟨W.heap.size, 0, none⟩ = some (.int .i64 px) := cell_gr hw8 (by go_simp)
  have cw8_0_1 : w8.cell? ⟨W.heap.size, 1, none⟩ = some (.int .i64 py) := cell_gr hw8 (by go_simp)
  have zw8_0 : W.heap.size < w8.heap.size := World.block_lt_of_cell? _ _ cw8_0_0
  have cw8_1_0 : w8.cell? ⟨W.heap.size + 1, 0, none⟩ = some (.int .i64 lx) := cell_gr hw8 (by go_simp)
  have cw8_1_1 : w8.cell? ⟨W.heap.size + 1, 1, none⟩ = some (.int .i64 ly) := cell_gr hw8 (by go_simp)
  have cw8_1_2 : w8.cell? ⟨W.heap.size + 1, 2, none⟩ = some (.int .i64 hx) := cell_gr hw8 (by go_simp)
  have cw8_1_3 : w8.cell? ⟨W.heap.size + 1, 3, none⟩ = some (.int .i64 hy) := cell_gr hw8 (by go_simp)
  have zw8_1 : W.heap.size + 1 < w8.heap.size := World.block_lt_of_cell? _ _ cw8_1_0
  have cw8_2_0 : w8.cell? ⟨w3.heap.size, 0, none⟩ = some (.int .i64 x1) := cell_gr hw8 (by go_simp)
  have cw8_2_1 : w8.cell? ⟨w3.heap.size, 1, none⟩ = some (.int .i64 y1) := cell_gr hw8 (by go_simp)
  have zw8_2 : w3.heap.size < w8.heap.size := World.block_lt_of_cell? _ _ cw8_2_0
  have cw8_3_0 : w8.cell? ⟨w4.heap.size, 0, none⟩ = some (.int .i64 x1) := cell_gr hw8 (by go_simp)
  have cw8_3_1 : w8.cell? ⟨w4.heap.size, 1, none⟩ = some (.int .i64 y1) := cell_gr hw8 (by go_simp)
  have zw8_3 : w4.heap.size < w8.heap.size := World.block_lt_of_cell? _ _ cw8_3_0
  have cw8_4_0 : w8.cell? ⟨w7.heap.size, 0, none⟩ = some (.int .i64 x2) := cell_gr hw8 (by go_simp)
  have cw8_4_1 : w8.cell? ⟨w7.heap.size, 1, none⟩ = some (.int .i64 y2) := cell_gr hw8 (by go_simp)
  have zw8_4 : w7.heap.size < w8.heap.size := World.block_lt_of_cell? _ _ cw8_4_0
  have gw8 : Gr W w8 := Gr.trans (by have gg := gw7; have gs := gg.size; go_grown) hw8
  clear hw8 gw7 zw7_0 cw7_0_0 cw7_0_1 zw7_1 cw7_1_0 cw7_1_1 cw7_1_2 cw7_1_3 zw7_2 cw7_2_0 cw7_2_1 zw7_3 cw7_3_0 cw7_3_1
  go_wp2_with fail
  go_at_call 38
  refine ((H9.out _)).mono ?_
  rintro e w9 ⟨vw9, rfl, Ew9, hw9⟩
  replace Ew1 := errIs_gr Ew1 (Gr.trans (by go_grown) hw9)
  replace Ew3 := errIs_gr Ew3 (Gr.trans (by go_grown) hw9)
  replace Ew5 := errIs_gr Ew5 (Gr.trans (by go_grown) hw9)
  replace Ew7 := errIs_gr Ew7 (Gr.trans (by go_grown) hw9)
  have cw9_0_0 : w9.cell? ⟨W.heap.size, 0, none⟩ = some (.int .i64 px) := cell_gr hw9 (by go_simp)
  have cw9_0_1 : w9.cell? ⟨W.heap.size, 1, none⟩ = some (.int .i64 py) := cell_gr hw9 (by go_simp)
  have zw9_0 : W.heap.size < w9.heap.size := World.block_lt_of_cell? _ _ cw9_0_0
  have cw9_1_0 : w9.cell? ⟨W.heap.size + 1, 0, none⟩ = some (.int .i64 lx) := cell_gr hw9 (by go_simp)
  have cw9_1_1 : w9.cell? ⟨W.heap.size + 1, 1, none⟩ = some (.int .i64 ly) := cell_gr hw9 (by go_simp)
  have cw9_1_2 : w9.cell? ⟨W.heap.size + 1, 2, none⟩ = some (.int .i64 hx) := cell_gr hw9 (by go_simp)
  have cw9_1_3 : w9.cell? ⟨W.heap.size + 1, 3, none⟩ = some (.int .i64 hy) := cell_gr hw9 (by go_simp)
  have zw9_1 : W.heap.size + 1 < w9.heap.size := World.block_lt_of_cell? _ _ cw9_1_0
  have cw9_2_0 : w9.cell? ⟨w3.heap.size, 0, none⟩ = some (.int .i64 x1) := cell_gr hw9 (by go_simp)
  have cw9_2_1 : w9.cell? ⟨w3.heap.size, 1, none⟩ = some (.int .i64 y1) := cell_gr hw9 (by go_simp)
  have zw9_2 : w3.heap.size < w9.heap.size := World.block_lt_of_cell? _ _ cw9_2_0
  have cw9_3_0 : w9.cell? ⟨w4.heap.size, 0, none⟩ = some (.int .i64 x1) := cell_gr hw9 (by go_simp)
  have cw9_3_1 : w9.cell? ⟨w4.heap.size, 1, none⟩ = some (.int .i64 y1) := cell_gr hw9 (by go_simp)
  have zw9_3 : w4.heap.size < w9.heap.size := World.block_lt_of_cell? _ _ cw9_3_0
  have cw9_4_0 : w9.cell? ⟨w7.heap.size, 0, none⟩ = some (.int .i64 x2) := cell_gr hw9 (by go_simp)
  have cw9_4_1 : w9.cell? ⟨w7.heap.size, 1, none⟩ = some (.int .i64 y2) := cell_gr hw9 (by go_simp)
  have zw9_4 : w7.heap.size < w9.heap.size := World.block_lt_of_cell? _ _ cw9_4_0
  have cw9_5_0 : w9.cell? ⟨w8.heap.size, 0, none⟩ = some (.int .i64 x2) := cell_gr hw9 (by go_simp)
  have cw9_5_1 : w9.cell? ⟨w8.heap.size, 1, none⟩ = some (.int .i64 y2) := cell_gr hw9 (by go_simp)
  have zw9_5 : w8.heap.size < w9.heap.size := World.block_lt_of_cell? _ _ cw9_5_0
  have gw9 : Gr W w9 := Gr.trans (by have gg := gw8; have gs := gg.size; go_grown) hw9
  clear hw9 gw8 zw8_0 cw8_0_0 cw8_0_1 zw8_1 cw8_1_0 cw8_1_1 cw8_1_2 cw8_1_3 zw8_2 cw8_2_0 cw8_2_1 zw8_3 cw8_3_0 cw8_3_1 zw8_4 cw8_4_0 cw8_4_1
  go_wp2_with fail
  go_at_call 39
  (with_reducible refine ((H0.out _)).mono ?_)
  rintro e w10 ⟨rfl, hw10⟩
  replace Ew1 := errIs_gr Ew1 (Gr.trans (by go_grown) hw10)
  replace Ew3 := errIs_gr Ew3 (Gr.trans (by go_grown) hw10)
  replace Ew5 := errIs_gr Ew5 (Gr.trans (by go_grown) hw10)
  replace Ew7 := errIs_gr Ew7 (Gr.trans (by go_grown) hw10)
  replace Ew9 := errIs_gr Ew9 (Gr.trans (by go_grown) hw10)
  have cw10_0_0 : w10.cell? ⟨W.heap.size, 0, none⟩ = some (.int .i64 px) := cell_gr hw10 (by go_simp)
  have cw10_0_1 : w10.cell? ⟨W.heap.size, 1, none⟩ = some (.int .i64 py) := cell_gr hw10 (by go_simp)
  have zw10_0 : W.heap.size < w10.heap.size := World.block_lt_of_cell? _ _ cw10_0_0
  have cw10_1_0 : w10.cell? ⟨W.heap.size + 1, 0, none⟩ = some (.int .i64 lx) := cell_gr hw10 (by go_simp)
  have cw10_1_1 : w10.cell? ⟨W.heap.size + 1, 1, none⟩ = some (.int .i64 ly) := cell_gr hw10 (by go_simp)
  have cw10_1_2 : w10.cell? ⟨W.heap.size + 1, 2, none⟩ = some (.int .i64 hx) := cell_gr hw10 (by go_simp)
  have cw10_1_3 : w10.cell? ⟨W.heap.size + 1, 3, none⟩ = some (.int .i64 hy) := cell_gr hw10 (by go_simp)
  have zw10_1 : W.heap.size + 1 < w10.heap.size := World.block_lt_of_cell? _ _ cw10_1_0
  have cw10_2_0 : w10.cell? ⟨w3.heap.size, 0, none⟩ = some (.int .i64 x1) := cell_gr hw10 (by go_simp)
  have cw10_2_1 : w10.cell? ⟨w3.heap.size, 1, none⟩ = some (.int .i64 y1) := cell_gr hw10 (by go_simp)
  have zw10_2 : w3.heap.size < w10.heap.size := World.block_lt_of_cell? _ _ cw10_2_0
  have cw10_3_0 : w10.cell? ⟨w4.heap.size, 0, none⟩ = some (.int .i64 x1) := cell_gr hw10 (by go_simp)
  have cw10_3_1 : w10.cell? ⟨w4.heap.size, 1, none⟩ = some (.int .i64 y1) := cell_gr hw10 (by go_simp)
  have zw10_3 : w4.heap.size < w10.heap.size := World.block_lt_of_cell? _ _ cw10_3_0
  have cw10_4_0 : w10.cell? ⟨w7.heap.size, 0, none⟩ = some (.int .i64 x2) := cell_gr hw10 (by go_simp)
  have cw10_4_1 : w10.cell? ⟨w7.heap.size, 1, none⟩ = some (.int .i64 y2) := cell_gr hw10 (by go_simp)
  have zw10_4 : w7.heap.size < w10.heap.size := World.block_lt_of_cell? _ _ cw10_4_0
  have cw10_5_0 : w10.cell? ⟨w8.heap.size, 0, none⟩ = some (.int .i64 x2) := cell_gr hw10 (by go_simp)
  have cw10_5_1 : w10.cell? ⟨w8.heap.size, 1, none⟩ = some (.int .i64 y2) := cell_gr hw10 (by go_simp)
  have zw10_5 : w8.heap.size < w10.heap.size := World.block_lt_of_cell? _ _ cw10_5_0
  have cw10_6_0 : w10.cell? ⟨w9.heap.size, 0, none⟩ = some (.int .i64 x3) := cell_gr hw10 (by go_simp)
  have cw10_6_1 : w10.cell? ⟨w9.heap.size, 1, none⟩ = some (.int .i64 y3) := cell_gr hw10 (by go_simp)
  have zw10_6 : w9.heap.size < w10.heap.size := World.block_lt_of_cell? _ _ cw10_6_0
  have gw10 : Gr W w10 := Gr.trans (by have gg := gw9; have gs := gg.size; go_grown) hw10
  clear hw10 gw9 zw9_0 cw9_0_0 cw9_0_1 zw9_1 cw9_1_0 cw9_1_1 cw9_1_2 cw9_1_3 zw9_2 cw9_2_0 cw9_2_1 zw9_3 cw9_3_0 cw9_3_1 zw9_4 cw9_4_0 cw9_4_1 zw9_5 cw9_5_0 cw9_5_1
  go_wp2_with fail
  go_at_call 26
  refine ((c_AlIs_any vw1 k1 _ (HT.out _ (by have gg := gw10; have gs := gg.size; go_grown)) (errIs_gr Ew1 (by go_grown)))).mono ?_
  rintro e w11 ⟨rfl, hw11⟩
  replace Ew1 := errIs_gr Ew1 (Gr.trans (by go_grown) hw11)
  replace Ew3 := errIs_gr Ew3 (Gr.trans (by go_grown) hw11)
  replace Ew5 := errIs_gr Ew5 (Gr.trans (by go_grown) hw11)
  replace Ew7 := errIs_gr Ew7 (Gr.trans (by go_grown) hw11)
  replace Ew9 := errIs_gr Ew9 (Gr.trans (by go_grown) hw11)
  have cw11_0_0 : w11.cell? ⟨W.heap.size, 0, none⟩ = some (.int .i64 px) := cell_gr hw11 (by go_simp)
  have cw11_0_1 : w11.cell? ⟨W.heap.size, 1, none⟩ = some (.int .i64 py) := cell_gr hw11 (by go_simp)
  have zw11_0 : W.heap.size < w11.heap.size := World.block_lt_of_cell? _ _ cw11_0_0
  have cw11_1_0 : w11.cell? ⟨W.heap.size + 1, 0, none⟩ = some (.int .i64 lx) := cell_gr hw11 (by go_simp)
  have cw11_1_1 : w11.cell? ⟨W.heap.size + 1, 1, none⟩ = some (.int .i64 ly) := cell_gr hw11 (by go_simp)
  have cw11_1_2 : w11.cell? ⟨W.heap.size + 1, 2, none⟩ = some (.int .i64 hx) := cell_gr hw11 (by go_simp)
  have cw11_1_3 : w11.cell? ⟨W.heap.size + 1, 3, none⟩ = some (.int .i64 hy) := cell_gr hw11 (by go_simp)
  have zw11_1 : W.heap.size + 1 < w11.heap.size := World.block_lt_of_cell? _ _ cw11_1_0
  have cw11_2_0 : w11.cell? ⟨w3.heap.size, 0, none⟩ = some (.int .i64 x1) := cell_gr hw11 (by go_simp)
  have cw11_2_1 : w11.cell? ⟨w3.heap.size, 1, none⟩ = some (.int .i64 y1) := cell_gr hw11 (by go_simp)
  have zw11_2 : w3.heap.size < w11.heap.size := World.block_lt_of_cell? _ _ cw11_2_0
  have cw11_3_0 : w11.cell? ⟨w4.heap.size, 0, none⟩ = some (.int .i64 x1) := cell_gr hw11 (by go_simp)
  have cw11_3_1 : w11.cell? ⟨w4.heap.size, 1, none⟩ = some (.int .i64 y1) := cell_gr hw11 (by go_simp)
  have zw11_3 : w4.heap.size < w11.heap.size := World.block_lt_of_cell? _ _ cw11_3_0
  have cw11_4_0 : w11.cell? ⟨w7.heap.size, 0, none⟩ = some (.int .i64 x2) := cell_gr hw11 (by go_simp)
  have cw11_4_1 : w11.cell? ⟨w7.heap.size, 1, none⟩ = some (.int .i64 y2) := cell_gr hw11 (by go_simp)
  have zw11_4 : w7.heap.size < w11.heap.size := World.block_lt_of_cell? _ _ cw11_4_0
  have cw11_5_0 : w11.cell? ⟨w8.heap.size, 0, none⟩ = some (.int .i64 x2) := cell_gr hw11 (by go_simp)
  have cw11_5_1 : w11.cell? ⟨w8.heap.size, 1, none⟩ = some (.int .i64 y2) := cell_gr hw11 (by go_simp)
  have zw11_5 : w8.heap.size < w11.heap.size := World.block_lt_of_cell? _ _ cw11_5_0
  have cw11_6_0 : w11.cell? ⟨w9.heap.size, 0, none⟩ = some (.int .i64 x3) := cell_gr hw11 (by go_simp)
  have cw11_6_1 : w11.cell? ⟨w9.heap.size, 1, none⟩ = some (.int .i64 y3) := cell_gr hw11 (by go_simp)
  have zw11_6 : w9.heap.size < w11.heap.size := World.block_lt_of_cell? _ _ cw11_6_0
  have cw11_7_0 : w11.cell? ⟨w10.heap.size, 0, none⟩ = some (.int .i64 x3) := cell_gr hw11 (by go_simp)
  have cw11_7_1 : w11.cell? ⟨w10.heap.size, 1, none⟩ = some (.int .i64 y3) := cell_gr hw11 (by go_simp)
  have zw11_7 : w10.heap.size < w11.heap.size := World.block_lt_of_cell? _ _ cw11_7_0
  have gw11 : Gr W w11 := Gr.trans (by have gg := gw10; have gs := gg.size; go_grown) hw11
  clear hw11 gw10 zw10_0 cw10_0_0 cw10_0_1 zw10_1 cw10_1_0 cw10_1_1 cw10_1_2 cw10_1_3 zw10_2 cw10_2_0 cw10_2_1 zw10_3 cw10_3_0 cw10_3_1 zw10_4 cw10_4_0 cw10_4_1 zw10_5 cw10_5_0 cw10_5_1 zw10_6 cw10_6_0 cw10_6_1
  go_wp2_with fail
  go_at_call 26
  refine ((c_AlIs_any vw3 k2 _ (HT.out _ (by have gg := gw11; have gs := gg.size; go_grown)) (errIs_gr Ew3 (by go_grown)))).mono ?_
  rintro e w12 ⟨rfl, hw12⟩
  replace Ew1 := errIs_gr Ew1 (Gr.trans (by go_grown) hw12)
  replace Ew3 := errIs_gr Ew3 (Gr.trans (by go_grown) hw12)
  replace Ew5 := errIs_gr Ew5 (Gr.trans (by go_grown) hw12)
  replace Ew7 := errIs_gr Ew7 (Gr.trans (by go_grown) hw12)
  replace Ew9 := errIs_gr Ew9 (Gr.trans (by go_grown) hw12)
  have cw12_0_0 : w12.cell? ⟨W.heap.size, 0, none⟩ = some (.int .i64 px) := cell_gr hw12 (by go_simp)
  have cw12_0_1 : w12.cell? ⟨W.heap.size, 1, none⟩ = some (.int .i64 py) := cell_gr hw12 (by go_simp)
  have zw12_0 : W.heap.size < w12.heap.size := World.block_lt_of_cell? _ _ cw12_0_0
  have cw12_1_0 : w12.cell? ⟨W.heap.size + 1, 0, none⟩ = some (.int .i64 lx) := cell_gr hw12 (by go_simp)
  have cw12_1_1 : w12.cell? ⟨W.heap.size + 1, 1, none⟩ = some (.int .i64 ly) := cell_gr hw12 (by go_simp)
  have cw12_1_2 : w12.cell? ⟨W.heap.size + 1, 2, none⟩ = some (.int .i64 hx) := cell_gr hw12 (by go_simp)
  have cw12_1_3 : w12.cell? ⟨W.heap.size + 1, 3, none⟩ = some (.int .i64 hy) := cell_gr hw12 (by go_simp)
  have zw12_1 : W.heap.size + 1 < w12.heap.size := World.block_lt_of_cell? _ _ cw12_1_0
  have cw12_2_0 : w12.cell? ⟨w3.heap.size, 0, none⟩ = some (.int .i64 x1) := cell_gr hw12 (by go_simp)
  have cw12_2_1 : w12.cell? ⟨w3.heap.size, 1, none⟩ = some (.int .i64 y1) := cell_gr hw12 (by go_simp)
  have zw12_2 : w3.heap.size < w12.heap.size := World.block_lt_of_cell? _ _ cw12_2_0
  have cw12_3_0 : w12.cell? ⟨w4.heap.size, 0, none⟩ = some (.int .i64 x1) := cell_gr hw12 (by go_simp)
  have cw12_3_1 : w12.cell? ⟨w4.heap.size, 1, none⟩ = some (.int .i64 y1) := cell_gr hw12 (by go_simp)
  have zw12_3 : w4.heap.size < w12.heap.size := World.block_lt_of_cell? _ _ cw12_3_0
  have cw12_4_0 : w12.cell? ⟨w7.heap.size, 0, none⟩ = some (.int .i64 x2) := cell_gr hw12 (by go_simp)
  have cw12_4_1 : w12.cell? ⟨w7.heap.size, 1, none⟩ = some (.int .i64 y2) := cell_gr hw12 (by go_simp)
  have zw12_4 : w7.heap.size < w12.heap.size := World.block_lt_of_cell? _ _ cw12_4_0
  have cw12_5_0 : w12.cell? ⟨w8.heap.size, 0, none⟩ = some (.int .i64 x2) := cell_gr hw12 (by go_simp)
  have cw12_5_1 : w12.cell? ⟨w8.heap.size, 1, none⟩ = some (.int .i64 y2) := cell_gr hw12 (by go_simp)
  have zw12_5 : w8.heap.size < w12.heap.size := World.block_lt_of_cell? _ _ cw12_5_0
  have cw12_6_0 : w12.cell? ⟨w9.heap.size, 0, none⟩ = some (.int .i64 x3) := cell_gr hw12 (by go_simp)
  have cw12_6_1 : w12.cell? ⟨w9.heap.size, 1, none⟩ = some (.int .i64 y3) := cell_gr hw12 (by go_simp)
  have zw12_6 : w9.heap.size < w12.heap.size := World.block_lt_of_cell? _ _ cw12_6_0
  have cw12_7_0 : w12.cell? ⟨w10.heap.size, 0, none⟩ = some (.int .i64 x3) := cell_gr hw12 (by go_simp)
  have cw12_7_1 : w12.cell? ⟨w10.heap.size, 1, none⟩ = some (.int .i64 y3) := cell_gr hw12 (by go_simp)
  have zw12_7 : w10.heap.size < w12.heap.size := World.block_lt_of_cell? _ _ cw12_7_0
  have gw12 : Gr W w12 := Gr.trans (by have gg := gw11; have gs := gg.size; go_grown) hw12
  clear hw12 gw11 zw11_0 cw11_0_0 cw11_0_1 zw11_1 cw11_1_0 cw11_1_1 cw11_1_2 cw11_1_3 zw11_2 cw11_2_0 cw11_2_1 zw11_3 cw11_3_0 cw11_3_1 zw11_4 cw11_4_0 cw11_4_1 zw11_5 cw11_5_0 cw11_5_1 zw11_6 cw11_6_0 cw11_6_1 zw11_7 cw11_7_0 cw11_7_1
  go_wp2_with fail
  go_at_call 26
  refine ((c_AlIs_any vw5 k3 _ (HT.out _ (by have gg := gw12; have gs := gg.size; go_grown)) (errIs_gr Ew5 (by go_grown)))).mono ?_
  rintro e w13 ⟨rfl, hw13⟩
  replace Ew1 := errIs_gr Ew1 (Gr.trans (by go_grown) hw13)
  replace Ew3 := errIs_gr Ew3 (Gr.trans (by go_grown) hw13)
  replace Ew5 := errIs_gr Ew5 (Gr.trans (by go_grown) hw13)
  replace Ew7 := errIs_gr Ew7 (Gr.trans (by go_grown) hw13)
  replace Ew9 := errIs_gr Ew9 (Gr.trans (by go_grown) hw13)
  have cw13_0_0 : w13.cell? ⟨W.heap.size, 0, none⟩ = some (.int .i64 px) := cell_gr hw13 (by go_simp)
  have cw13_0_1 : w13.cell? ⟨W.heap.size, 1, none⟩ = some (.int .i64 py) := cell_gr hw13 (by go_simp)
  have zw13_0 : W.heap.size < w13.heap.size := World.block_lt_of_cell? _ _ cw13_0_0
  have cw13_1_0 : w13.cell? ⟨W.heap.size + 1, 0, none⟩ = some (.int .i64 lx) := cell_gr hw13 (by go_simp)
  have cw13_1_1 : w13.cell? ⟨W.heap.size + 1, 1, none⟩ = some (.int .i64 ly) := cell_gr hw13 (by go_simp)
  have cw13_1_2 : w13.cell? ⟨W.heap.size + 1, 2, none⟩ = some (.int .i64 hx) := cell_gr hw13 (by go_simp)
  have cw13_1_3 : w13.cell? ⟨W.heap.size + 1, 3, none⟩ = some (.int .i64 hy) := cell_gr hw13 (by go_simp)
  have zw13_1 : W.heap.size + 1 < w13.heap.size := World.block_lt_of_cell? _ _ cw13_1_0
  have cw13_2_0 : w13.cell? ⟨w3.heap.size, 0, none⟩ = some (.int .i64 x1) := cell_gr hw13 (by go_simp)
  have cw13_2_1 : w13.cell? ⟨w3.heap.size, 1, none⟩ = some (.int .i64 y1) := cell_gr hw13 (by go_simp)
  have zw13_2 : w3.heap.size < w13.heap.size := World.block_lt_of_cell? _ _ cw13_2_0
  have cw13_3_0 : w13.cell? ⟨w4.heap.size, 0, none⟩ = some (.int .i64 x1) := cell_gr hw13 (by go_simp)
  have cw13_3_1 : w13.cell? ⟨w4.heap.size, 1, none⟩ = some (.int .i64 y1) := cell_gr hw13 (by go_simp)
  have zw13_3 : w4.heap.size < w13.heap.size := World.block_lt_of_cell? _ _ cw13_3_0
  have cw13_4_0 : w13.cell? ⟨w7.heap.size, 0, none⟩ = some (.int .i64 x2) := cell_gr hw13 (by go_simp)
  have cw13_4_1 : w13.cell? ⟨w7.heap.size, 1, none⟩ = some (.int .i64 y2) := cell_gr hw13 (by go_simp)
  have zw13_4 : w7.heap.size < w13.heap.size := World.block_lt_of_cell? _ _ cw13_4_0
  have cw13_5_0 : w13.cell? ⟨w8.heap.size, 0, none⟩ = some (.int .i64 x2) := cell_gr hw13 (by go_simp)
  have cw13_5_1 : w13.cell? ⟨w8.heap.size, 1, none⟩ = some (.int .i64 y2) := cell_gr hw13 (by go_simp)
  have zw13_5 : w8.heap.size < w13.heap.size := World.block_lt_of_cell? _ _ cw13_5_0
  have cw13_6_0 : w13.cell? ⟨w9.heap.size, 0, none⟩ = some (.int .i64 x3) := cell_gr hw13 (by go_simp)
  have cw13_6_1 : w13.cell? ⟨w9.heap.size, 1, none⟩ = some (.int .i64 y3) := cell_gr hw13 (by go_simp)
  have zw13_6 : w9.heap.size < w13.heap.size := World.block_lt_of_cell? _ _ cw13_6_0
  have cw13_7_0 : w13.cell? ⟨w10.heap.size, 0, none⟩ = some (.int .i64 x3) := cell_gr hw13 (by go_simp)
  have cw13_7_1 : w13.cell? ⟨w10.heap.size, 1, none⟩ = some (.int .i64 y3) := cell_gr hw13 (by go_simp)
  have zw13_7 : w10.heap.size < w13.heap.size := World.block_lt_of_cell? _ _ cw13_7_0
  have gw13 : Gr W w13 := Gr.trans (by have gg := gw12; have gs := gg.size; go_grown) hw13
  clear hw13 gw12 zw12_0 cw12_0_0 cw12_0_1 zw12_1 cw12_1_0 cw12_1_1 cw12_1_2 cw12_1_3 zw12_2 cw12_2_0 cw12_2_1 zw12_3 cw12_3_0 cw12_3_1 zw12_4 cw12_4_0 cw12_4_1 zw12_5 cw12_5_0 cw12_5_1 zw12_6 cw12_6_0 cw12_6_1 zw12_7 cw12_7_0 cw12_7_1
  go_wp2_with fail
  go_at_call 26
  refine ((c_AlIs_any vw7 k4 _ (HT.out _ (by have gg := gw13; have gs := gg.size; go_grown)) (errIs_gr Ew7 (by go_grown)))).mono ?_
  rintro e w14 ⟨rfl, hw14⟩
  replace Ew1 := errIs_gr Ew1 (Gr.trans (by go_grown) hw14)
  replace Ew3 := errIs_gr Ew3 (Gr.trans (by go_grown) hw14)
  replace Ew5 := errIs_gr Ew5 (Gr.trans (by go_grown) hw14)
  replace Ew7 := errIs_gr Ew7 (Gr.trans (by go_grown) hw14)
  replace Ew9 := errIs_gr Ew9 (Gr.trans (by go_grown) hw14)
  have cw14_0_0 : w14.cell? ⟨W.heap.size, 0, none⟩ = some (.int .i64 px) := cell_gr hw14 (by go_simp)
  have cw14_0_1 : w14.cell? ⟨W.heap.size, 1, none⟩ = some (.int .i64 py) := cell_gr hw14 (by go_simp)
  have zw14_0 : W.heap.size < w14.heap.size := World.block_lt_of_cell? _ _ cw14_0_0
  have cw14_1_0 : w14.cell? ⟨W.heap.size + 1, 0, none⟩ = some (.int .i64 lx) := cell_gr hw14 (by go_simp)
  have cw14_1_1 : w14.cell? ⟨W.heap.size + 1, 1, none⟩ = some (.int .i64 ly) := cell_gr hw14 (by go_simp)
  have cw14_1_2 : w14.cell? ⟨W.heap.size + 1, 2, none⟩ = some (.int .i64 hx) := cell_gr hw14 (by go_simp)
  have cw14_1_3 : w14.cell? ⟨W.heap.size + 1, 3, none⟩ = some (.int .i64 hy) := cell_gr hw14 (by go_simp)
  have zw14_1 : W.heap.size + 1 < w14.heap.size := World.block_lt_of_cell? _ _ cw14_1_0
  have cw14_2_0 : w14.cell? ⟨w3.heap.size, 0, none⟩ = some (.int .i64 x1) := cell_gr hw14 (by go_simp)
  have cw14_2_1 : w14.cell? ⟨w3.heap.size, 1, none⟩ = some (.int .i64 y1) := cell_gr hw14 (by go_simp)
  have zw14_2 : w3.heap.size < w14.heap.size := World.block_lt_of_cell? _ _ cw14_2_0
  have cw14_3_0 : w14.cell? ⟨w4.heap.size, 0, none⟩ = some (.int .i64 x1) := cell_gr hw14 (by go_simp)
  have cw14_3_1 : w14.cell? ⟨w4.heap.size, 1, none⟩ = some (.int .i64 y1) := cell_gr hw14 (by go_simp)
  have zw14_3 : w4.heap.size < w14.heap.size := World.block_lt_of_cell? _ _ cw14_3_0
  have cw14_4_0 : w14.cell? ⟨w7.heap.size, 0, none⟩ = some (.int .i64 x2) := cell_gr hw14 (by go_simp)
  have cw14_4_1 : w14.cell? ⟨w7.heap.size, 1, none⟩ = some (.int .i64 y2) := cell_gr hw14 (by go_simp)
  have zw14_4 : w7.heap.size < w14.heap.size := World.block_lt_of_cell? _ _ cw14_4_0
  have cw14_5_0 : w14.cell? ⟨w8.heap.size, 0, none⟩ = some (.int .i64 x2) := cell_gr hw14 (by go_simp)
  have cw14_5_1 : w14.cell? ⟨w8.heap.size, 1, none⟩ = some (.int .i64 y2) := cell_gr hw14 (by go_simp)
  have zw14_5 : w8.heap.size < w14.heap.size := World.block_lt_of_cell? _ _ cw14_5_0
  have cw14_6_0 : w14.cell? ⟨w9.heap.size, 0, none⟩ = some (.int .i64 x3) := cell_gr hw14 (by go_simp)
  have cw14_6_1 : w14.cell? ⟨w9.heap.size, 1, none⟩ = some (.int .i64 y3) := cell_gr hw14 (by go_simp)
  have zw14_6 : w9.heap.size < w14.heap.size := World.block_lt_of_cell? _ _ cw14_6_0
  have cw14_7_0 : w14.cell? ⟨w10.heap.size, 0, none⟩ = some (.int .i64 x3) := cell_gr hw14 (by go_simp)
  have cw14_7_1 : w14.cell? ⟨w10.heap.size, 1, none⟩ = some (.int .i64 y3) := cell_gr hw14 (by go_simp)
  have zw14_7 : w10.heap.size < w14.heap.size := World.block_lt_of_cell? _ _ cw14_7_0
  have gw14 : Gr W w14 := Gr.trans (by have gg := gw13; have gs := gg.size; go_grown) hw14
  clear hw14 gw13 zw13_0 cw13_0_0 cw13_0_1 zw13_1 cw13_1_0 cw13_1_1 cw13_1_2 cw13_1_3 zw13_2 cw13_2_0 cw13_2_1 zw13_3 cw13_3_0 cw13_3_1 zw13_4 cw13_4_0 cw13_4_1 zw13_5 cw13_5_0 cw13_5_1 zw13_6 cw13_6_0 cw13_6_1 zw13_7 cw13_7_0 cw13_7_1
  go_wp2_with fail
  go_at_call 26
  refine ((c_AlIs_any vw9 k5 _ (HT.out _ (by have gg := gw14; have gs := gg.size; go_grown)) (errIs_gr Ew9 (by go_grown)))).mono ?_
  rintro e w15 ⟨rfl, hw15⟩
  replace Ew1 := errIs_gr Ew1 (Gr.trans (by go_grown) hw15)
  replace Ew3 := errIs_gr Ew3 (Gr.trans (by go_grown) hw15)
  replace Ew5 := errIs_gr Ew5 (Gr.trans (by go_grown) hw15)
  replace Ew7 := errIs_gr Ew7 (Gr.trans (by go_grown) hw15)
  replace Ew9 := errIs_gr Ew9 (Gr.trans (by go_grown) hw15)
  have cw15_0_0 : w15.cell? ⟨W.heap.size, 0, none⟩ = some (.int .i64 px) := cell_gr hw15 (by go_simp)
  have cw15_0_1 : w15.cell? ⟨W.heap.size, 1, none⟩ = some (.int .i64 py) := cell_gr hw15 (by go_simp)
  have zw15_0 : W.heap.size < w15.heap.size := World.block_lt_of_cell? _ _ cw15_0_0
  have cw15_1_0 : w15.cell? ⟨W.heap.size + 1, 0, none⟩ = some (.int .i64 lx) := cell_gr hw15 (by go_simp)
  have cw15_1_1 : w15.cell? ⟨W.heap.size + 1, 1, none⟩ = some (.int .i64 ly) := cell_gr hw15 (by go_simp)
  have cw15_1_2 : w15.cell? ⟨W.heap.size + 1, 2, none⟩ = some (.int .i64 hx) := cell_gr hw15 (by go_simp)
  have cw15_1_3 : w15.cell? ⟨W.heap.size + 1, 3, none⟩ = some (.int .i64 hy) := cell_gr hw15 (by go_simp)
  have zw15_1 : W.heap.size + 1 < w15.heap.size := World.block_lt_of_cell? _ _ cw15_1_0
  have cw15_2_0 : w15.cell? ⟨w3.heap.size, 0, none⟩ = some (.int .i64 x1) := cell_gr hw15 (by go_simp)
  have cw15_2_1 : w15.cell? ⟨w3.heap.size, 1, none⟩ = some (.int .i64 y1) := cell_gr hw15 (by go_simp)
  have zw15_2 : w3.heap.size < w15.heap.size := World.block_lt_of_cell? _ _ cw15_2_0
  have cw15_3_0 : w15.cell? ⟨w4.heap.size, 0, none⟩ = some (.int .i64 x1) := cell_gr hw15 (by go_simp)
  have cw15_3_1 : w15.cell? ⟨w4.heap.size, 1, none⟩ = some (.int .i64 y1) := cell_gr hw15 (by go_simp)
  have zw15_3 : w4.heap.size < w15.heap.size := World.block_lt_of_cell? _ _ cw15_3_0
  have cw15_4_0 : w15.cell? ⟨w7.heap.size, 0, none⟩ = some (.int .i64 x2) := cell_gr hw15 (by go_simp)
  have cw15_4_1 : w15.cell? ⟨w7.heap.size, 1, none⟩ = some (.int .i64 y2) := cell_gr hw15 (by go_simp)
  have zw15_4 : w7.heap.size < w15.heap.size := World.block_lt_of_cell? _ _ cw15_4_0
  have cw15_5_0 : w15.cell? ⟨w8.heap.size, 0, none⟩ = some (.int .i64 x2) := cell_gr hw15 (by go_simp)
  have cw15_5_1 : w15.cell? ⟨w8.heap.size, 1, none⟩ = some (.int .i64 y2) := cell_gr hw15 (by go_simp)
  have zw15_5 : w8.heap.size < w15.heap.size := World.block_lt_of_cell? _ _ cw15_5_0
  have cw15_6_0 : w15.cell? ⟨w9.heap.size, 0, none⟩ = some (.int .i64 x3) := cell_gr hw15 (by go_simp)
  have cw15_6_1 : w15.cell? ⟨w9.heap.size, 1, none⟩ = some (.int .i64 y3) := cell_gr hw15 (by go_simp)
  have zw15_6 : w9.heap.size < w15.heap.size := World.block_lt_of_cell? _ _ cw15_6_0
  have cw15_7_0 : w15.cell? ⟨w10.heap.size, 0, none⟩ = some (.int .i64 x3) := cell_gr hw15 (by go_simp)
  have cw15_7_1 : w15.cell? ⟨w10.heap.size, 1, none⟩ = some (.int .i64 y3) := cell_gr hw15 (by go_simp)
  have zw15_7 : w10.heap.size < w15.heap.size := World.block_lt_of_cell? _ _ cw15_7_0
  have gw15 : Gr W w15 := Gr.trans (by have gg := gw14; have gs := gg.size; go_grown) hw15
  clear hw15 gw14 zw14_0 cw14_0_0 cw14_0_1 zw14_1 cw14_1_0 cw14_1_1 cw14_1_2 cw14_1_3 zw14_2 cw14_2_0 cw14_2_1 zw14_3 cw14_3_0 cw14_3_1 zw14_4 cw14_4_0 cw14_4_1 zw14_5 cw14_5_0 cw14_5_1 zw14_6 cw14_6_0 cw14_6_1 zw14_7 cw14_7_0 cw14_7_1
  go_wp2_with fail
  go_at_call 40
  (with_reducible refine ((HAW.out _ (by have gg := gw15; have gs := gg.size; go_grown))).mono ?_)
  rintro e w16 ⟨rfl, hw16⟩
  replace Ew1 := errIs_gr Ew1 (Gr.trans (by go_grown) hw16)
  replace Ew3 := errIs_gr Ew3 (Gr.trans (by go_grown) hw16)
  replace Ew5 := errIs_gr Ew5 (Gr.trans (by go_grown) hw16)
  replace Ew7 := errIs_gr Ew7 (Gr.trans (by go_grown) hw16)
  replace Ew9 := errIs_gr Ew9 (Gr.trans (by go_grown) hw16)
  have cw16_0_0 : w16.cell? ⟨W.heap.size, 0, none⟩ = some (.int .i64 px) := cell_gr hw16 (by go_simp)
  have cw16_0_1 : w16.cell? ⟨W.heap.size, 1, none⟩ = some (.int .i64 py) := cell_gr hw16 (by go_simp)
  have zw16_0 : W.heap.size < w16.heap.size := World.block_lt_of_cell? _ _ cw16_0_0
  have cw16_1_0 : w16.cell? ⟨W.heap.size + 1, 0, none⟩ = some (.int .i64 lx) := cell_gr hw16 (by go_simp)
  have cw16_1_1 : w16.cell? ⟨W.heap.size + 1, 1, none⟩ = some (.int .i64 ly) := cell_gr hw16 (by go_simp)
  have cw16_1_2 : w16.cell? ⟨W.heap.size + 1, 2, none⟩ = some (.int .i64 hx) := cell_gr hw16 (by go_simp)
  have cw16_1_3 : w16.cell? ⟨W.heap.size + 1, 3, none⟩ = some (.int .i64 hy) := cell_gr hw16 (by go_simp)
  have zw16_1 : W.heap.size + 1 < w16.heap.size := World.block_lt_of_cell? _ _ cw16_1_0
  have cw16_2_0 : w16.cell? ⟨w3.heap.size, 0, none⟩ = some (.int .i64 x1) := cell_gr hw16 (by go_simp)
  have cw16_2_1 : w16.cell? ⟨w3.heap.size, 1, none⟩ = some (.int .i64 y1) := cell_gr hw16 (by go_simp)
  have zw16_2 : w3.heap.size < w16.heap.size := World.block_lt_of_cell? _ _ cw16_2_0
  have cw16_3_0 : w16.cell? ⟨w4.heap.size, 0, none⟩ = some (.int .i64 x1) := cell_gr hw16 (by go_simp)
  have cw16_3_1 : w16.cell? ⟨w4.heap.size, 1, none⟩ = some (.int .i64 y1) := cell_gr hw16 (by go_simp)
  have zw16_3 : w4.heap.size < w16.heap.size := World.block_lt_of_cell? _ _ cw16_3_0
  have cw16_4_0 : w16.cell? ⟨w7.heap.size, 0, none⟩ = some (.int .i64 x2) := cell_gr hw16 (by go_simp)
  have cw16_4_1 : w16.cell? ⟨w7.heap.size, 1, none⟩ = some (.int .i64 y2) := cell_gr hw16 (by go_simp)
  have zw16_4 : w7.heap.size < w16.heap.size := World.block_lt_of_cell? _ _ cw16_4_0
  have cw16_5_0 : w16.cell? ⟨w8.heap.size, 0, none⟩ = some (.int .i64 x2) := cell_gr hw16 (by go_simp)
  have cw16_5_1 : w16.cell? ⟨w8.heap.size, 1, none⟩ = some (.int .i64 y2) := cell_gr hw16 (by go_simp)
  have zw16_5 : w8.heap.size < w16.heap.size := World.block_lt_of_cell? _ _ cw16_5_0
  have cw16_6_0 : w16.cell? ⟨w9.heap.size, 0, none⟩ = some (.int .i64 x3) := cell_gr hw16 (by go_simp)
  have cw16_6_1 : w16.cell? ⟨w9.heap.size, 1, none⟩ = some (.int .i64 y3) := cell_gr hw16 (by go_simp)
  have zw16_6 : w9.heap.size < w16.heap.size := World.block_lt_of_cell? _ _ cw16_6_0
  have cw16_7_0 : w16.cell? ⟨w10.heap.size, 0, none⟩ = some (.int .i64 x3) := cell_gr hw16 (by go_simp)
  have cw16_7_1 : w16.cell? ⟨w10.heap.size, 1, none⟩ = some (.int .i64 y3) := cell_gr hw16 (by go_simp)
  have zw16_7 : w10.heap.size < w16.heap.size := World.block_lt_of_cell? _ _ cw16_7_0
  have gw16 : Gr W w16 := Gr.trans (by have gg := gw15; have gs := gg.size; go_grown) hw16
  clear hw16 gw15 zw15_0 cw15_0_0 cw15_0_1 zw15_1 cw15_1_0 cw15_1_1 cw15_1_2 cw15_1_3 zw15_2 cw15_2_0 cw15_2_1 zw15_3 cw15_3_0 cw15_3_1 zw15_4 cw15_4_0 cw15_4_1 zw15_5 cw15_5_0 cw15_5_1 zw15_6 cw15_6_0 cw15_6_1 zw15_7 cw15_7_0 cw15_7_1
  go_wp2_with fail
  go_ret
  exact ⟨rfl, gw16⟩
theorem walk_CurveAsks (px py : Int) (v : Nat) (n lx ly hx hy : Int) (B0 : (-9223372036854775808 ≤ px ∧ px ≤ 9223372036854775807) ∧ (-9223372036854775808 ≤ py ∧ py ≤ 9223372036854775807)) (B1 : Wd v) (B2 : -9223372036854775808 ≤ n ∧ n ≤ 9223372036854775807) (B3 : (-9223372036854775808 ≤ lx ∧ lx ≤ 9223372036854775807) ∧ (-9223372036854775808 ≤ ly ∧ ly ≤ 9223372036854775807) ∧ (-9223372036854775808 ≤ hx ∧ hx ≤ 9223372036854775807) ∧ (-9223372036854775808 ≤ hy ∧ hy ≤ 9223372036854775807)) (W : World) (hE : ErrT W) :
    Calls Tryd.prog 9 #[.agg #[.int .i64 px, .int .i64 py], .int .u64 v, .int .i64 n, .agg #[.int .i64 lx, .int .i64 ly, .int .i64 hx, .int .i64 hy]] W fun e w' => e = .returned (.bool true) ∧ Gr W w' := by
  obtain ⟨z1, k1, A1, A2⟩ := Z_both px py
  obtain ⟨x1, y1, k2, A3, A4⟩ := Unz_both v B1
  obtain ⟨z2, k3, A5, A6⟩ := Hilbert_both px py n
  obtain ⟨x2, y2, k4, A7, A8⟩ := Unhilbert_both v n B1
  obtain ⟨x3, y3, k5, A9, A0⟩ := Centre_both lx ly hx hy
  exact asks_core px py n lx ly hx hy x1 y1 x2 y2 x3 y3 v z1 z2 k1 k2 k3 k4 k5 W hE A1 A2 A3 A4 A5 A6 A7 A8 A9 A0
end Go.Proofs.YtldlpbfncgcimaaDoor
