/- Unz: refused; the document's own -/
import Derived.Test.YtldlpbfncgcimaaDoorCu
namespace Go.Proofs.YtldlpbfncgcimaaDoor
set_option linter.unusedVariables false
open Go.ChangeShapes Go.WideShapes Go.ChangeAt Go.RowKit

set_option maxHeartbeats 4000000 in
set_option maxRecDepth 100000 in
theorem unz_no (v v2 gx gy t : Nat) (px py : Int) (W : World) (k1 : (v : Int) / 2 = v2) (k2 : (v : Int) / 4611686018427387904 = t) (bx : (gx : Int) ≤ 2147483648) (b_y : (gy : Int) ≤ 2147483648)
    (ex : (gx : Int) - 1073741824 = px) (ey : (gy : Int) - 1073741824 = py)
    (h : (((t : Int) == 0) = false ∧ ((t : Int) != 0) = true) ∨ (((t : Int) == 0) = true ∧ ((t : Int) != 0) = false ∧ nearB px py = false))
    (A1 : ∀ w, Calls Tryd.prog 55 #[.int .u64 v] w fun e w' => e = .returned (.int .i64 gx) ∧ Gr w w') (A2 : ∀ w, Calls Tryd.prog 55 #[.int .u64 v2] w fun e w' => e = .returned (.int .i64 gy) ∧ Gr w w') :
    Calls Tryd.prog 32 #[.int .u64 v] W (RefusedT W 2 (.agg #[.int .i64 0, .int .i64 0])) := by
  have H1 := Lib.hid A1
  have H2 := Lib.hid A2
  clear A1 A2
  rcases h with ⟨t1, t2⟩ | ⟨t1, t2, h⟩
  · go_enter Tryd.func32, Tryd.ntmps32
    go_wp2_with fail
    go_at_call 55
    (with_reducible refine ((H1.out _)).mono ?_)
    rintro e w1 ⟨rfl, hw1⟩
    have cw1_0_0 : w1.cell? ⟨W.heap.size, 0, none⟩ = some (.int .i64 0) := cell_gr hw1 (by go_simp)
    have fw1_0_0 : w1.frozen? ⟨W.heap.size, 0, none⟩ = false := frozen_gr (v := .int .i64 0) hw1 (by go_simp) (by go_simp)
    have cw1_0_1 : w1.cell? ⟨W.heap.size, 1, none⟩ = some (.int .i64 0) := cell_gr hw1 (by go_simp)
    have fw1_0_1 : w1.frozen? ⟨W.heap.size, 1, none⟩ = false := frozen_gr (v := .int .i64 0) hw1 (by go_simp) (by go_simp)
    have zw1_0 : W.heap.size < w1.heap.size := World.block_lt_of_cell? _ _ cw1_0_0
    have gw1 : Gr W w1 := Gr.trans (by go_grown) hw1
    clear hw1
    go_wp2_with fail
    go_at_call 55
    (with_reducible refine ((H2.out _)).mono ?_)
    rintro e w2 ⟨rfl, hw2⟩
    have cw2_0_0 : w2.cell? ⟨W.heap.size, 0, none⟩ = some (.int .i64 0) := cell_gr hw2 (by go_simp)
    have fw2_0_0 : w2.frozen? ⟨W.heap.size, 0, none⟩ = false := frozen_gr (v := .int .i64 0) hw2 (by go_simp) (by go_simp)
    have cw2_0_1 : w2.cell? ⟨W.heap.size, 1, none⟩ = some (.int .i64 0) := cell_gr hw2 (by go_simp)
    have fw2_0_1 : w2.frozen? ⟨W.heap.size, 1, none⟩ = false := frozen_gr (v := .int .i64 0) hw2 (by go_simp) (by go_simp)
    have zw2_0 : W.heap.size < w2.heap.size := World.block_lt_of_cell? _ _ cw2_0_0
    have gw2 : Gr W w2 := Gr.trans (by have gg := gw1; have gs := gg.size; go_grown) hw2
    clear hw2 gw1 zw1_0 cw1_0_0 fw1_0_0 cw1_0_1 fw1_0_1
    go_wp2_with fail
    go_at_call 53
    refine (c_refuse _ _).mono ?_
    rintro e w3 ⟨B, rfl, hB, hF, hg⟩
    have hs := gw2.size
    have c0 : w3.cell? ⟨W.heap.size, 0, none⟩ = some (.int .i64 0) := cell_gr hg (by go_simp)
    have c1 : w3.cell? ⟨W.heap.size, 1, none⟩ = some (.int .i64 0) := cell_gr hg (by go_simp)
    have f0 : w3.frozen? ⟨W.heap.size, 0, none⟩ = false := frozen_gr (v := .int .i64 0) hg (by go_simp) (by go_simp)
    have f1 : w3.frozen? ⟨W.heap.size, 1, none⟩ = false := frozen_gr (v := .int .i64 0) hg (by go_simp) (by go_simp)
    have g3 : Gr W w3 := Gr.trans (by have gg := gw2; have gs := gg.size; go_grown) hg
    obtain ⟨F0, F1, F2⟩ := hF
    have hB' : w2.heap.size < B := by simp at hB; omega
    have nB : ¬ B = W.heap.size := by omega
    have zb := World.block_lt_of_cell? _ _ F0
    clear hg
    go_wp2_with fail
    refine bodyPost_ret (v := .tuple #[.agg #[.int .i64 0, .int .i64 0], .iface 90 (.pointer (some ⟨B, 0, none⟩))]) (by simp [results, Tryd.results32, go_sem, *]) rfl ⟨B, rfl, by omega, ⟨by go_simp, by go_simp, by go_simp⟩, by have gg := g3; have gs := gg.size; go_grown⟩
  · have A3 := fun w => c_CheckPoint px py w
    rw [h] at A3
    simp only [Bool.false_eq_true, if_false] at A3
    clear h
    have H3 := Lib.hid A3
    clear A3
    go_enter Tryd.func32, Tryd.ntmps32
    go_wp2_with fail
    go_at_call 55
    (with_reducible refine ((H1.out _)).mono ?_)
    rintro e w1 ⟨rfl, hw1⟩
    have cw1_0_0 : w1.cell? ⟨W.heap.size, 0, none⟩ = some (.int .i64 0) := cell_gr hw1 (by go_simp)
    have fw1_0_0 : w1.frozen? ⟨W.heap.size, 0, none⟩ = false := frozen_gr (v := .int .i64 0) hw1 (by go_simp) (by go_simp)
    have cw1_0_1 : w1.cell? ⟨W.heap.size, 1, none⟩ = some (.int .i64 0) := cell_gr hw1 (by go_simp)
    have fw1_0_1 : w1.frozen? ⟨W.heap.size, 1, none⟩ = false := frozen_gr (v := .int .i64 0) hw1 (by go_simp) (by go_simp)
    have zw1_0 : W.heap.size < w1.heap.size := World.block_lt_of_cell? _ _ cw1_0_0
    have gw1 : Gr W w1 := Gr.trans (by go_grown) hw1
    clear hw1
    go_wp2_with fail
    go_at_call 55
    (with_reducible refine ((H2.out _)).mono ?_)
    rintro e w2 ⟨rfl, hw2⟩
    have cw2_0_0 : w2.cell? ⟨W.heap.size, 0, none⟩ = some (.int .i64 0) := cell_gr hw2 (by go_simp)
    have fw2_0_0 : w2.frozen? ⟨W.heap.size, 0, none⟩ = false := frozen_gr (v := .int .i64 0) hw2 (by go_simp) (by go_simp)
    have cw2_0_1 : w2.cell? ⟨W.heap.size, 1, none⟩ = some (.int .i64 0) := cell_gr hw2 (by go_simp)
    have fw2_0_1 : w2.frozen? ⟨W.heap.size, 1, none⟩ = false := frozen_gr (v := .int .i64 0) hw2 (by go_simp) (by go_simp)
    have zw2_0 : W.heap.size < w2.heap.size := World.block_lt_of_cell? _ _ cw2_0_0
    have gw2 : Gr W w2 := Gr.trans (by have gg := gw1; have gs := gg.size; go_grown) hw2
    clear hw2 gw1 zw1_0 cw1_0_0 fw1_0_0 cw1_0_1 fw1_0_1
    go_wp2_with fail
    go_at_call 52
    (with_reducible refine ((H3.out _)).mono ?_)
    rintro e w4 ⟨rfl, hw4⟩
    have cw4_0_0 : w4.cell? ⟨W.heap.size, 0, none⟩ = some (.int .i64 0) := cell_gr hw4 (by go_simp)
    have fw4_0_0 : w4.frozen? ⟨W.heap.size, 0, none⟩ = false := frozen_gr (v := .int .i64 0) hw4 (by go_simp) (by go_simp)
    have cw4_0_1 : w4.cell? ⟨W.heap.size, 1, none⟩ = some (.int .i64 0) := cell_gr hw4 (by go_simp)
    have fw4_0_1 : w4.frozen? ⟨W.heap.size, 1, none⟩ = false := frozen_gr (v := .int .i64 0) hw4 (by go_simp) (by go_simp)
    have zw4_0 : W.heap.size < w4.heap.size := World.block_lt_of_cell? _ _ cw4_0_0
    have cw4_1_0 : w4.cell? ⟨w2.heap.size, 0, none⟩ = some (.int .i64 px) := cell_gr hw4 (by go_simp)
    have fw4_1_0 : w4.frozen? ⟨w2.heap.size, 0, none⟩ = false := frozen_gr (v := .int .i64 px) hw4 (by go_simp) (by go_simp)
    have cw4_1_1 : w4.cell? ⟨w2.heap.size, 1, none⟩ = some (.int .i64 py) := cell_gr hw4 (by go_simp)
    have fw4_1_1 : w4.frozen? ⟨w2.heap.size, 1, none⟩ = false := frozen_gr (v := .int .i64 py) hw4 (by go_simp) (by go_simp)
    have zw4_1 : w2.heap.size < w4.heap.size := World.block_lt_of_cell? _ _ cw4_1_0
    have gw4 : Gr W w4 := Gr.trans (by have gg := gw2; have gs := gg.size; go_grown) hw4
    clear hw4 gw2 zw2_0 cw2_0_0 fw2_0_0 cw2_0_1 fw2_0_1
    go_wp2_with fail
    go_at_call 53
    refine (c_refuse _ _).mono ?_
    rintro e w3 ⟨B, rfl, hB, hF, hg⟩
    have hs := gw4.size
    have c0 : w3.cell? ⟨W.heap.size, 0, none⟩ = some (.int .i64 0) := cell_gr hg (by go_simp)
    have c1 : w3.cell? ⟨W.heap.size, 1, none⟩ = some (.int .i64 0) := cell_gr hg (by go_simp)
    have f0 : w3.frozen? ⟨W.heap.size, 0, none⟩ = false := frozen_gr (v := .int .i64 0) hg (by go_simp) (by go_simp)
    have f1 : w3.frozen? ⟨W.heap.size, 1, none⟩ = false := frozen_gr (v := .int .i64 0) hg (by go_simp) (by go_simp)
    have g3 : Gr W w3 := Gr.trans (by have gg := gw4; have gs := gg.size; go_grown) hg
    obtain ⟨F0, F1, F2⟩ := hF
    have nB : ¬ B = W.heap.size := by omega
    have zb := World.block_lt_of_cell? _ _ F0
    have zs : W.heap.size ≤ B := by omega
    clear hg
    go_wp2_with fail
    refine bodyPost_ret (v := .tuple #[.agg #[.int .i64 0, .int .i64 0], .iface 90 (.pointer (some ⟨B, 0, none⟩))]) (by simp [results, Tryd.results32, go_sem, *]) rfl ⟨B, rfl, zs, ⟨by go_simp, by go_simp, by go_simp⟩, by have gg := g3; have gs := gg.size; go_grown⟩
theorem or_add2 {p b j : Nat} (hp : p < 2 ^ j) (hb : b ≤ 1) (hj : j ≤ 31) : bits BinOp.or IntKind.i64 (p : Int) ((b * 2 ^ j : Nat) : Int) = ((p + b * 2 ^ j : Nat) : Int) := by
  have hS : 2 ^ j ≤ 2147483648 := Nat.pow_le_pow_right (n := 2) (by omega) hj
  have hbS : b * 2 ^ j ≤ 1 * 2 ^ j := Nat.mul_le_mul_right _ hb
  rw [bi_or p _ (by omega) (by omega)]
  have e := Nat.two_pow_add_eq_or_of_lt hp b
  rw [Nat.or_comm, Nat.mul_comm b, ← e, Nat.add_comm]
theorem gat_round2 {j v : Nat} (hj : j ≤ 31) (hv : v < 18446744073709551616) : ∃ d b S bS g g' d2 b2 bS2 h h' : Nat, g = Cv.gat v j ∧ g' = Cv.gat v (j + 1) ∧ h = Cv.gat (v / 2) j ∧ h' = Cv.gat (v / 2) (j + 1) ∧ b ≤ 1 ∧ b2 ≤ 1 ∧ (v : Int) / 2 ^ (2 * j) = d ∧ bits BinOp.and IntKind.u64 (d : Int) 1 = b ∧ (2 : Int) ^ min j 64 = S ∧ (2 : Int) ^ j = S ∧ IntKind.i64.wrap ((b : Int) * (S : Int)) = bS ∧ wrap64 ((b : Int) * (S : Int)) = bS ∧ bits BinOp.or IntKind.i64 (g : Int) (bS : Int) = g' ∧
    (v : Int) / 2 ^ (2 * j + 1) = d2 ∧ bits BinOp.and IntKind.u64 (d2 : Int) 1 = b2 ∧ IntKind.i64.wrap ((b2 : Int) * (S : Int)) = bS2 ∧ wrap64 ((b2 : Int) * (S : Int)) = bS2 ∧ bits BinOp.or IntKind.i64 (h : Int) (bS2 : Int) = h' := by
  have hS : 2 ^ j ≤ 2147483648 := Nat.pow_le_pow_right (n := 2) (by omega) hj
  have hl := Cv.gat_lt v j
  have hl2 := Cv.gat_lt (v / 2) j
  have h4 : (4 : Nat) ^ j = 2 ^ (2 * j) := by rw [Nat.pow_mul]
  have hd : v / 4 ^ j < 18446744073709551616 := Nat.lt_of_le_of_lt (Nat.div_le_self _ _) hv
  have hd2 : v / 2 / 4 ^ j < 18446744073709551616 := Nat.lt_of_le_of_lt (Nat.div_le_self _ _) (by omega)
  have hb : v / 4 ^ j % 2 ≤ 1 := by omega
  have hb2 : v / 2 / 4 ^ j % 2 ≤ 1 := by omega
  have hbS : v / 4 ^ j % 2 * 2 ^ j ≤ 1 * 2 ^ j := Nat.mul_le_mul_right _ hb
  have hbS2 : v / 2 / 4 ^ j % 2 * 2 ^ j ≤ 1 * 2 ^ j := Nat.mul_le_mul_right _ hb2
  refine ⟨v / 4 ^ j, v / 4 ^ j % 2, 2 ^ j, v / 4 ^ j % 2 * 2 ^ j, _, _, v / 2 / 4 ^ j, v / 2 / 4 ^ j % 2, v / 2 / 4 ^ j % 2 * 2 ^ j, _, _, rfl, rfl, rfl, rfl, hb, hb2, ?_, ?_, ?_, by norm_cast, ?_, ?_, ?_, ?_, ?_, ?_, ?_, ?_⟩
  · rw [h4]; norm_cast
  · have e := bits_and_u64_nat (v / 4 ^ j) 1 hd (by omega)
    rw [Nat.and_one_is_mod] at e
    exact e
  · rw [Nat.min_eq_left (by omega)]; norm_cast
  · rw [← Int.natCast_mul]; exact IntWalk.i64_in _ (by omega)
  · rw [← Int.natCast_mul]; exact IntWalk.wrap64_in _ (by omega)
  · rw [Cv.gat]; exact or_add2 hl hb hj
  · have h5 : 2 * 4 ^ j = 2 ^ (2 * j + 1) := by rw [h4, Nat.pow_succ]; omega
    rw [Nat.div_div_eq_div_mul, h5]; norm_cast
  · have e := bits_and_u64_nat (v / 2 / 4 ^ j) 1 hd2 (by omega)
    rw [Nat.and_one_is_mod] at e
    exact e
  · rw [← Int.natCast_mul]; exact IntWalk.i64_in _ (by omega)
  · rw [← Int.natCast_mul]; exact IntWalk.wrap64_in _ (by omega)
  · rw [Cv.gat]; exact or_add2 hl2 hb2 hj
set_option maxHeartbeats 4000000 in
set_option maxRecDepth 100000 in
theorem rUnz_core (v gx gy z k : Nat) (px py qx qy : Int) (r : Nat) (W : World) (hv : Wd v) (e1 : gx = Cv.gat v 32) (e2 : gy = Cv.gat (v / 2) 32) (bx : (gx : Int) ≤ 4294967296) (b_y : (gy : Int) ≤ 4294967296)
    (ex : (gx : Int) - 1073741824 = px) (ey : (gy : Int) - 1073741824 = py)
    (h : (((k : Int) == 0) = false ∧ ((k : Int) != 0) = true ∧ qx = 0 ∧ qy = 0 ∧ r = 2) ∨ (k = 0 ∧ z = v ∧ px = qx ∧ py = qy ∧ r = 0))
    (A1 : ∀ w, Calls Tryd.prog 31 #[.agg #[.int .i64 px, .int .i64 py]] w fun e w' => e = .returned (.tuple #[.int .u64 z, .int .i64 k]) ∧ Gr w w') :
    Calls Tryd.prog 33 #[.int .u64 v] W fun e w' => e = .returned (.tuple #[.agg #[.int .i64 qx, .int .i64 qy], .int .i64 r]) ∧ Gr W w' := by
  have HV := Lib.hid hv
  have HE := Lib.hid (And.intro e1 e2)
  have HH := Lib.hid h
  clear hv e1 e2 h
  have H1 := Lib.hid A1
  clear A1
  go_enter Tryd.func33, Tryd.ntmps33
  go_wp2_with fail
  go_loopg [4, 5, 6] 32 (fun m x y i wr => ∃ j : Nat, j + m = 32 ∧ i = .int .i64 j ∧ x = .int .i64 (Cv.gat v j : Nat) ∧ y = .int .i64 (Cv.gat (v / 2) j : Nat) ∧ wr.cell? ⟨W.heap.size, 0, none⟩ = some (.int .i64 0) ∧ wr.cell? ⟨W.heap.size, 1, none⟩ = some (.int .i64 0) ∧ wr.frozen? ⟨W.heap.size, 0, none⟩ = false ∧ wr.frozen? ⟨W.heap.size, 1, none⟩ = false ∧ Gr W wr)
  case atStart => exact ⟨0, by omega, rfl, rfl, rfl, by go_simp, by go_simp, by go_simp, by go_simp, by go_grown⟩
  case round =>
    obtain ⟨j, hk, rfl, rfl, rfl, c0, c1, f0, f1, gwr⟩ := hrel
    have zc := World.block_lt_of_cell? _ _ c0
    by_cases hj : j < 32
    · have t1 : decide ((j : Int) < 32) = true := decide_eq_true (by omega)
      have t2 : (j : Int) ≤ 31 := by omega
      have t3 : (0 : Int) ≤ (j : Int) := by omega
      obtain ⟨d, b, S, bS, g, g', d2, b2, bS2, h, h', e1, e2, e3, e4, hb, hb2, k1, k2, k3, k4, k5, k6, k7, k8, k9, ka, kb, kc⟩ := gat_round2 (j := j) (v := v) (by omega) HV.out
      have b1 : (b : Int) ≤ 1 := by omega
      have b3 : (b2 : Int) ≤ 1 := by omega
      have HE' := Lib.hid (And.intro e2 e4)
      rw [← e1, ← e3]
      clear e1 e2 e3 e4 hb hb2
      go_wp2_with fail
      go_roundg (32 - (j + 1))
      case measure => omega
      case rel => exact ⟨j + 1, by omega, by go_num, by rw [← HE'.out.1], by rw [← HE'.out.2], by go_simp, by go_simp, by go_simp, by go_simp, by have gg := gwr; have gs := gg.size; go_grown⟩
    · obtain rfl : j = 32 := by omega
      rw [← HE.out.1, ← HE.out.2]
      rcases HH.out with ⟨u1, u2, rfl, rfl, rfl⟩ | ⟨rfl, rfl, rfl, rfl, rfl⟩
      all_goals
        clear HH
        go_wp2_with fail
        go_at_call 31
        (with_reducible refine ((H1.out _)).mono ?_)
        rintro e w1 ⟨rfl, hw1⟩
        have cw1_0_0 : w1.cell? ⟨W.heap.size, 0, none⟩ = some (.int .i64 0) := cell_gr hw1 (by go_simp)
        have fw1_0_0 : w1.frozen? ⟨W.heap.size, 0, none⟩ = false := frozen_gr (v := .int .i64 0) hw1 (by go_simp) (by go_simp)
        have cw1_0_1 : w1.cell? ⟨W.heap.size, 1, none⟩ = some (.int .i64 0) := cell_gr hw1 (by go_simp)
        have fw1_0_1 : w1.frozen? ⟨W.heap.size, 1, none⟩ = false := frozen_gr (v := .int .i64 0) hw1 (by go_simp) (by go_simp)
        have zw1_0 : W.heap.size < w1.heap.size := World.block_lt_of_cell? _ _ cw1_0_0
        have cw1_1_0 : w1.cell? ⟨wr.heap.size, 0, none⟩ = some (.int .i64 px) := cell_gr hw1 (by go_simp)
        have fw1_1_0 : w1.frozen? ⟨wr.heap.size, 0, none⟩ = false := frozen_gr (v := .int .i64 px) hw1 (by go_simp) (by go_simp)
        have cw1_1_1 : w1.cell? ⟨wr.heap.size, 1, none⟩ = some (.int .i64 py) := cell_gr hw1 (by go_simp)
        have fw1_1_1 : w1.frozen? ⟨wr.heap.size, 1, none⟩ = false := frozen_gr (v := .int .i64 py) hw1 (by go_simp) (by go_simp)
        have zw1_1 : wr.heap.size < w1.heap.size := World.block_lt_of_cell? _ _ cw1_1_0
        have gw1 : Gr W w1 := Gr.trans (by have gg := gwr; have gs := gg.size; go_grown) hw1
        clear hw1 gwr
        go_wp2_with fail
      · refine bodyPost_ret (v := .tuple #[.agg #[.int .i64 0, .int .i64 0], .int .i64 2]) (by simp [results, Tryd.results33, go_sem, *]) rfl ⟨rfl, by have gg := gw1; have gs := gg.size; go_grown⟩
      · refine bodyPost_ret (v := .tuple #[.agg #[.int .i64 px, .int .i64 py], .int .i64 0]) (by simp [results, Tryd.results33, go_sem, *]) rfl ⟨rfl, by have gg := gw1; have gs := gg.size; go_grown⟩
end Go.Proofs.YtldlpbfncgcimaaDoor
