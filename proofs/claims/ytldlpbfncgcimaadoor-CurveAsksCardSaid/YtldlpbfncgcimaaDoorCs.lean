/- curve.gather, curve.Unz; CurveBack -/
import Derived.Test.YtldlpbfncgcimaaDoorCo
import Derived.Test.YtldlpbfncgcimaaDoorCr
namespace Go.Proofs.YtldlpbfncgcimaaDoor
set_option linter.unusedVariables false
open Go.ChangeShapes Go.WideShapes Go.ChangeAt Go.RowKit

theorem gat_round {j v : Nat} (hj : j ≤ 30) (hv : v < 18446744073709551616) : ∃ d b S bS g g' : Nat, g = Cv.gat v j ∧ g' = Cv.gat v (j + 1) ∧ b ≤ 1 ∧ (v : Int) / 2 ^ (2 * j) = d ∧ bits BinOp.and IntKind.u64 (d : Int) 1 = b ∧ (2 : Int) ^ min j 64 = S ∧ (2 : Int) ^ j = S ∧ IntKind.i64.wrap ((b : Int) * (S : Int)) = bS ∧ wrap64 ((b : Int) * (S : Int)) = bS ∧ bits BinOp.or IntKind.i64 (g : Int) (bS : Int) = g' := by
  have hS : 2 ^ j ≤ 1073741824 := Nat.pow_le_pow_right (n := 2) (by omega) hj
  have hl := Cv.gat_lt v j
  have h4 : (4 : Nat) ^ j = 2 ^ (2 * j) := by rw [Nat.pow_mul]
  have hd : v / 4 ^ j < 18446744073709551616 := Nat.lt_of_le_of_lt (Nat.div_le_self _ _) hv
  have hb : v / 4 ^ j % 2 ≤ 1 := by omega
  have hbS : v / 4 ^ j % 2 * 2 ^ j ≤ 1 * 2 ^ j := Nat.mul_le_mul_right _ hb
  refine ⟨v / 4 ^ j, v / 4 ^ j % 2, 2 ^ j, v / 4 ^ j % 2 * 2 ^ j, _, _, rfl, rfl, hb, ?_, ?_, ?_, by norm_cast, ?_, ?_, ?_⟩
  · rw [h4]; norm_cast
  · have e := bits_and_u64_nat (v / 4 ^ j) 1 hd (by omega)
    rw [Nat.and_one_is_mod] at e
    exact e
  · rw [Nat.min_eq_left (by omega)]; norm_cast
  · rw [← Int.natCast_mul]; exact IntWalk.i64_in _ (by omega)
  · rw [← Int.natCast_mul]; exact IntWalk.wrap64_in _ (by omega)
  · rw [Cv.gat]; exact or_add hl hb hj
set_option maxHeartbeats 2000000 in
set_option maxRecDepth 100000 in
theorem c_gather (v : Nat) (hv : Wd v) (w : World) : Calls Tryd.prog 55 #[.int .u64 v] w fun e w' => e = .returned (.int .i64 (Cv.gat v 31 : Nat)) ∧ Gr w w' := by
  have HV := Lib.hid hv
  clear hv
  go_enter Tryd.func55, Tryd.ntmps55
  go_wp2_with fail
  go_loopg [3, 5] 31 (fun k g i wr => ∃ j : Nat, j + k = 31 ∧ i = .int .i64 j ∧ g = .int .i64 (Cv.gat v j : Nat) ∧ Gr w wr)
  case atStart => exact ⟨0, by omega, rfl, rfl, by go_grown⟩
  case round =>
    obtain ⟨j, hk, rfl, rfl, gwr⟩ := hrel
    by_cases hj : j < 31
    · have t1 : decide ((j : Int) < 31) = true := decide_eq_true (by omega)
      have t2 : (j : Int) ≤ 30 := by omega
      have t3 : (0 : Int) ≤ (j : Int) := by omega
      obtain ⟨d, b, S, bS, g, g', e1, e2, hb, k1, k2, k3, k4, k5, k6, k7⟩ := gat_round (j := j) (v := v) (by omega) HV.out
      have b1 : (b : Int) ≤ 1 := by omega
      have w1' : IntKind.i64.wrap (b : Int) = (b : Int) := IntWalk.i64_in _ (by omega)
      have HE := Lib.hid e2
      rw [← e1]
      clear e1 e2 hb
      go_wp2_with fail
      go_roundg (31 - (j + 1))
      case measure => omega
      case rel => exact ⟨j + 1, by omega, by go_num, by rw [← HE.out], gwr⟩
    · obtain rfl : j = 31 := by omega
      go_wp2_with fail
      go_ret
      exact ⟨rfl, gwr⟩
set_option maxHeartbeats 4000000 in
set_option maxRecDepth 100000 in
theorem unz_core (v v2 gx gy : Nat) (px py : Int) (h : nearB px py = true) (W : World) (k1 : (v : Int) / 2 = v2) (k2 : (v : Int) / 4611686018427387904 = 0) (bx : (gx : Int) ≤ 2147483648) (b_y : (gy : Int) ≤ 2147483648)
    (ex : (gx : Int) - 1073741824 = px) (ey : (gy : Int) - 1073741824 = py)
    (A1 : ∀ w, Calls Tryd.prog 55 #[.int .u64 v] w fun e w' => e = .returned (.int .i64 gx) ∧ Gr w w') (A2 : ∀ w, Calls Tryd.prog 55 #[.int .u64 v2] w fun e w' => e = .returned (.int .i64 gy) ∧ Gr w w') :
    Calls Tryd.prog 32 #[.int .u64 v] W fun e w' => e = .returned (.tuple #[.agg #[.int .i64 px, .int .i64 py], .nilIface]) ∧ Gr W w' := by
  have A3 := fun w => c_CheckPoint px py w
  rw [h] at A3
  simp only [if_true] at A3
  clear h
  have H1 := Lib.hid A1
  have H2 := Lib.hid A2
  have H3 := Lib.hid A3
  clear A1 A2 A3
  go_enter Tryd.func32, Tryd.ntmps32
  go_wp2_with fail
  go_at_call 55
  (with_reducible refine ((H1.out _)).mono ?_)
  rintro e w1 ⟨rfl, hw1⟩
  have cw1_0_0 : w1.cell? ⟨W.heap.size, 0, none⟩ = some (.int .i64 0) := cell_gr hw1 (by go_simp)
  have fw1_0_0 : w1.frozen? ⟨W.heap.size, 0, none⟩ = false := frozen_gr (v := .int .i64 0) hw1 (by go_simp) (by go_simp)
  have cw1_0_1 : w1.cell? ⟨W.heap.size, 1, none⟩ = some (.int .i64 0) := cell_gr hw1 (by go_simp)
  have fw1_0_1 : w1.frozen? ⟨W.heap.size, 1, none⟩ = false := frozen_gr (v := .int .i64 0) hw1 (by go_simp) (by go_simp)
  have zw1_0 : W.heap.size < w1.heap.size := World.block_lt_of_cell? _ _ cw1_0_0
  have gw1 : Gr W w1 := Gr.trans (by go_grown) hw1
  clear hw1
  go_wp2_with fail
  go_at_call 55
  (with_reducible refine ((H2.out _)).mono ?_)
  rintro e w2 ⟨rfl, hw2⟩
  have cw2_0_0 : w2.cell? ⟨W.heap.size, 0, none⟩ = some (.int .i64 0) := cell_gr hw2 (by go_simp)
  have fw2_0_0 : w2.frozen? ⟨W.heap.size, 0, none⟩ = false := frozen_gr (v := .int .i64 0) hw2 (by go_simp) (by go_simp)
  have cw2_0_1 : w2.cell? ⟨W.heap.size, 1, none⟩ = some (.int .i64 0) := cell_gr hw2 (by go_simp)
  have fw2_0_1 : w2.frozen? ⟨W.heap.size, 1, none⟩ = false := frozen_gr (v := .int .i64 0) hw2 (by go_simp) (by go_simp)
  have zw2_0 : W.heap.size < w2.heap.size := World.block_lt_of_cell? _ _ cw2_0_0
  have gw2 : Gr W w2 := Gr.trans (by have gg := gw1; have gs := gg.size; go_grown) hw2
  clear hw2 gw1 zw1_0 cw1_0_0 fw1_0_0 cw1_0_1 fw1_0_1
  go_wp2_with fail
  go_at_call 52
  (with_reducible refine ((H3.out _)).mono ?_)
  rintro e w3 ⟨rfl, hw3⟩
  have cw3_0_0 : w3.cell? ⟨W.heap.size, 0, none⟩ = some (.int .i64 0) := cell_gr hw3 (by go_simp)
  have fw3_0_0 : w3.frozen? ⟨W.heap.size, 0, none⟩ = false := frozen_gr (v := .int .i64 0) hw3 (by go_simp) (by go_simp)
  have cw3_0_1 : w3.cell? ⟨W.heap.size, 1, none⟩ = some (.int .i64 0) := cell_gr hw3 (by go_simp)
  have fw3_0_1 : w3.frozen? ⟨W.heap.size, 1, none⟩ = false := frozen_gr (v := .int .i64 0) hw3 (by go_simp) (by go_simp)
  have zw3_0 : W.heap.size < w3.heap.size := World.block_lt_of_cell? _ _ cw3_0_0
  have cw3_1_0 : w3.cell? ⟨w2.heap.size, 0, none⟩ = some (.int .i64 px) := cell_gr hw3 (by go_simp)
  have fw3_1_0 : w3.frozen? ⟨w2.heap.size, 0, none⟩ = false := frozen_gr (v := .int .i64 px) hw3 (by go_simp) (by go_simp)
  have cw3_1_1 : w3.cell? ⟨w2.heap.size, 1, none⟩ = some (.int .i64 py) := cell_gr hw3 (by go_simp)
  have fw3_1_1 : w3.frozen? ⟨w2.heap.size, 1, none⟩ = false := frozen_gr (v := .int .i64 py) hw3 (by go_simp) (by go_simp)
  have zw3_1 : w2.heap.size < w3.heap.size := World.block_lt_of_cell? _ _ cw3_1_0
  have gw3 : Gr W w3 := Gr.trans (by have gg := gw2; have gs := gg.size; go_grown) hw3
  clear hw3 gw2 zw2_0 cw2_0_0 fw2_0_0 cw2_0_1 fw2_0_1
  go_wp2_with fail
  refine bodyPost_ret (v := .tuple #[.agg #[.int .i64 px, .int .i64 py], .nilIface]) (by simp [results, Tryd.results32, go_sem, *]) rfl ⟨rfl, by have gg := gw3; have gs := gg.size; go_grown⟩
theorem c_Unz (X Y : Nat) (hX : X < 2147483648) (hY : Y < 2147483648) (px py : Int) (eX : (X : Int) = px + 1073741824) (eY : (Y : Int) = py + 1073741824) (h : nearB px py = true) (W : World) :
    Calls Tryd.prog 32 #[.int .u64 (Cv.zv X Y)] W fun e w' => e = .returned (.tuple #[.agg #[.int .i64 px, .int .i64 py], .nilIface]) ∧ Gr W w' := by
  have hz := Cv.zv_lt X Y
  have A1 := fun w => c_gather (Cv.zv X Y) (by unfold Wd; omega) w
  have A2 := fun w => c_gather (Cv.zv X Y / 2) (by unfold Wd; omega) w
  rw [show Cv.gat (Cv.zv X Y) 31 = X from Cv.gat_spr 31 X Y hX] at A1
  rw [show Cv.gat (Cv.zv X Y / 2) 31 = Y from Cv.gat_half 31 X Y hY] at A2
  exact unz_core (Cv.zv X Y) (Cv.zv X Y / 2) X Y px py h W (by omega) (by omega) (by omega) (by omega) (by omega) (by omega) A1 A2
end Go.Proofs.YtldlpbfncgcimaaDoor
