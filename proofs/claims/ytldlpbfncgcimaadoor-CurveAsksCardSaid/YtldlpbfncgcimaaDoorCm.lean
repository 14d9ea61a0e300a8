/- curve.Unhilbert -/
import Derived.Test.YtldlpbfncgcimaaDoorCj
namespace Go.Proofs.YtldlpbfncgcimaaDoor
set_option linter.unusedVariables false
open Go.ChangeShapes Go.WideShapes Go.ChangeAt Go.RowKit

theorem or_add {p b j : Nat} (hp : p < 2 ^ j) (hb : b ≤ 1) (hj : j ≤ 30) : bits BinOp.or IntKind.i64 (p : Int) ((b * 2 ^ j : Nat) : Int) = ((p + b * 2 ^ j : Nat) : Int) := by
  have hS : 2 ^ j ≤ 1073741824 := Nat.pow_le_pow_right (n := 2) (by omega) hj
  have hbS : b * 2 ^ j ≤ 1 * 2 ^ j := Nat.mul_le_mul_right _ hb
  rw [bi_or p _ (by omega) (by omega)]
  have e := Nat.two_pow_add_eq_or_of_lt hp b
  rw [Nat.or_comm, Nat.mul_comm b, ← e, Nat.add_comm]
theorem unh_round {j v : Nat} (hj : j ≤ 30) (hv : v < 18446744073709551616) : ∃ d q S p1 p2 t1 t2 r u x rS uS p1' p2' : Nat, p1 = (Cv.uX j v).1 ∧ p2 = (Cv.uX j v).2 ∧ p1' = (Cv.uX (j + 1) v).1 ∧ p2' = (Cv.uX (j + 1) v).2 ∧ q < 4 ∧ S = 2 ^ j ∧ 1 ≤ S ∧ S ≤ 1073741824 ∧ p1 < S ∧ p2 < S ∧ t1 = Cv.tX q S p1 p2 ∧ t2 = Cv.tY q S p1 p2 ∧ r ≤ 1 ∧ u ≤ 1 ∧
    (v : Int) / 2 ^ (2 * j) = d ∧ bits BinOp.and IntKind.u64 (d : Int) 3 = q ∧ (2 : Int) ^ min j 64 = S ∧ (2 : Int) ^ j = S ∧ IntKind.i64.wrap (S : Int) = S ∧ (q : Int) / 2 = r ∧ bits BinOp.xor IntKind.i64 (q : Int) (r : Int) = x ∧ bits BinOp.and IntKind.i64 (x : Int) 1 = u ∧
    IntKind.i64.wrap ((r : Int) * (S : Int)) = rS ∧ wrap64 ((r : Int) * (S : Int)) = rS ∧ IntKind.i64.wrap ((u : Int) * (S : Int)) = uS ∧ wrap64 ((u : Int) * (S : Int)) = uS ∧ bits BinOp.or IntKind.i64 (t1 : Int) (rS : Int) = p1' ∧ bits BinOp.or IntKind.i64 (t2 : Int) (uS : Int) = p2' := by
  have hp : 0 < 2 ^ j := Nat.two_pow_pos j
  have hS : 2 ^ j ≤ 1073741824 := Nat.pow_le_pow_right (n := 2) (by omega) hj
  have hu := Cv.uX_lt j v
  have h4 : (4 : Nat) ^ j = 2 ^ (2 * j) := by rw [Nat.pow_mul]
  have hq : v / 4 ^ j % 4 < 4 := Nat.mod_lt _ (by omega)
  have hd : v / 4 ^ j < 18446744073709551616 := Nat.lt_of_le_of_lt (Nat.div_le_self _ _) hv
  have l1 := Cv.tX_lt (q := v / 4 ^ j % 4) hu.1 hu.2
  have l2 := Cv.tY_lt (q := v / 4 ^ j % 4) hu.1 hu.2
  have hr := Cv.rt_lt hq
  have hup := Cv.up_lt (v / 4 ^ j % 4)
  have e1 : (Cv.uX (j + 1) v).1 = Cv.tX (v / 4 ^ j % 4) (2 ^ j) (Cv.uX j v).1 (Cv.uX j v).2 + Cv.rt (v / 4 ^ j % 4) * 2 ^ j := rfl
  have e2 : (Cv.uX (j + 1) v).2 = Cv.tY (v / 4 ^ j % 4) (2 ^ j) (Cv.uX j v).1 (Cv.uX j v).2 + Cv.up (v / 4 ^ j % 4) * 2 ^ j := rfl
  have key : ∃ x : Nat, bits BinOp.xor IntKind.i64 ((v / 4 ^ j % 4 : Nat) : Int) ((Cv.rt (v / 4 ^ j % 4) : Nat) : Int) = x ∧ bits BinOp.and IntKind.i64 (x : Int) 1 = ((Cv.up (v / 4 ^ j % 4) : Nat) : Int) := by
    generalize v / 4 ^ j % 4 = q at hq
    rcases (show q = 0 ∨ q = 1 ∨ q = 2 ∨ q = 3 by omega) with rfl | rfl | rfl | rfl
    · exact ⟨0, by decide, by decide⟩
    · exact ⟨1, by decide, by decide⟩
    · exact ⟨3, by decide, by decide⟩
    · exact ⟨2, by decide, by decide⟩
  obtain ⟨x, x1, x2⟩ := key
  have hrS : Cv.rt (v / 4 ^ j % 4) * 2 ^ j ≤ 1 * 2 ^ j := Nat.mul_le_mul_right _ (by omega)
  have huS : Cv.up (v / 4 ^ j % 4) * 2 ^ j ≤ 1 * 2 ^ j := Nat.mul_le_mul_right _ (by omega)
  refine ⟨v / 4 ^ j, v / 4 ^ j % 4, 2 ^ j, _, _, _, _, Cv.rt (v / 4 ^ j % 4), Cv.up (v / 4 ^ j % 4), x, Cv.rt (v / 4 ^ j % 4) * 2 ^ j, Cv.up (v / 4 ^ j % 4) * 2 ^ j, _, _, rfl, rfl, rfl, rfl, hq, rfl, hp, hS, hu.1, hu.2, rfl, rfl, by omega, by omega, ?_, ?_, ?_, ?_, ?_, ?_, x1, x2, ?_, ?_, ?_, ?_, ?_, ?_⟩
  · rw [h4]; norm_cast
  · have e := bits_and_u64_nat (v / 4 ^ j) 3 hd (by omega)
    rw [show (3 : Nat) = 2 ^ 2 - 1 from rfl, Nat.and_two_pow_sub_one_eq_mod] at e
    exact e
  · rw [Nat.min_eq_left (by omega)]; norm_cast
  · norm_cast
  · exact IntWalk.i64_in _ (by omega)
  · unfold Cv.rt; omega
  · rw [← Int.natCast_mul]; exact IntWalk.i64_in _ (by omega)
  · rw [← Int.natCast_mul]; exact IntWalk.wrap64_in _ (by omega)
  · rw [← Int.natCast_mul]; exact IntWalk.i64_in _ (by omega)
  · rw [← Int.natCast_mul]; exact IntWalk.wrap64_in _ (by omega)
  · rw [e1]; exact or_add l1 (by omega) hj
  · rw [e2]; exact or_add l2 (by omega) hj
def UnhRel (R : Nat) (v n : Nat) (W : World) (k : Nat) (i : Value) (wr : World) : Prop :=
  ∃ j : Nat, j + k = n ∧ i = .int .i64 j ∧ wr.cell? ⟨R, 0, none⟩ = some (.int .i64 0) ∧ wr.cell? ⟨R, 1, none⟩ = some (.int .i64 0) ∧ wr.frozen? ⟨R, 0, none⟩ = false ∧ wr.frozen? ⟨R, 1, none⟩ = false ∧
    wr.cell? ⟨R + 1, 0, none⟩ = some (.int .i64 ((Cv.uX j v).1 : Nat)) ∧ wr.cell? ⟨R + 1, 1, none⟩ = some (.int .i64 ((Cv.uX j v).2 : Nat)) ∧ wr.frozen? ⟨R + 1, 0, none⟩ = false ∧ wr.frozen? ⟨R + 1, 1, none⟩ = false ∧ Gr W wr
set_option maxHeartbeats 8000000 in
set_option maxRecDepth 100000 in
theorem c_Unhilbert (v n : Nat) (hn : 1 ≤ n ∧ n ≤ 31) (hv : v < 4 ^ n) (W : World) :
    Calls Tryd.prog 36 #[.int .u64 v, .int .i64 n] W fun e w' => e = .returned (.tuple #[.agg #[.int .i64 ((Cv.uX n v).1 : Nat), .int .i64 ((Cv.uX n v).2 : Nat)], .nilIface]) ∧ Gr W w' := by
  have h31 : (4 : Nat) ^ n ≤ 4 ^ 31 := Nat.pow_le_pow_right (by omega) hn.2
  rw [show (4 : Nat) ^ 31 = 4611686018427387904 from rfl] at h31
  have z0 : v / 4 ^ n = 0 := Nat.div_eq_of_lt hv
  have t1 : decide ((n : Int) < 1) = false := decide_eq_false (by omega)
  have t2 : decide ((31 : Int) < (n : Int)) = false := decide_eq_false (by omega)
  have z1 : (v : Int) / 2 ^ (2 * n) = 0 := by
    have h4 : (4 : Nat) ^ n = 2 ^ (2 * n) := by rw [Nat.pow_mul]
    rw [h4] at z0
    have : ((v / 2 ^ (2 * n) : Nat) : Int) = 0 := by rw [z0]; rfl
    rw [← this]; norm_cast
  have n0 : (0 : Int) ≤ (n : Int) := by omega
  have n1 : (n : Int) ≤ 31 := by omega
  have HX := Lib.hid (show n ≤ 31 ∧ v < 18446744073709551616 from ⟨hn.2, by omega⟩)
  clear hn hv h31 z0
  go_enter Tryd.func36, Tryd.ntmps36
  go_wp2_with fail
  go_loopg [29] n (fun k i wr => UnhRel W.heap.size v n W k i wr)
  case atStart => exact ⟨0, by omega, rfl, by go_simp, by go_simp, by go_simp, by go_simp, by show _ = some (Value.int .i64 0); go_simp, by show _ = some (Value.int .i64 0); go_simp, by go_simp, by go_simp, by go_grown⟩
  case round =>
    obtain ⟨j, hjk, rfl, r0, r1, q0, q1, c0, c1, f0, f1, gwr⟩ := hrel
    have zR := World.block_lt_of_cell? _ _ r0
    have zB := World.block_lt_of_cell? _ _ c0
    by_cases hj : j < n
    · have ti : decide ((j : Int) < (n : Int)) = true := decide_eq_true (by omega)
      have ti2 : decide (j < n) = true := decide_eq_true hj
      obtain ⟨d, q, S, p1, p2, a1, a2, r, u, x, rS, uS, p1', p2', e1, e2, e3, e4, hq, eS, S0, S1, l1, l2, ea, eb, hr, hu, k1, k2, k3, k4, k5, k6, k7, k8, k9, ka, kb, kc, kd, ke⟩ := unh_round (j := j) (v := v) (by have := HX.out; omega) HX.out.2
      rw [← e1] at c0
      rw [← e2] at c1
      have CT := fun w => c_turn q S p1 p2 w hq S1 l1 l2
      rw [← ea, ← eb] at CT
      have q2 : (q : Int) ≤ 3 := by omega
      have q3 : (0 : Int) ≤ (q : Int) := by omega
      have j1 : (j : Int) ≤ 30 := by have := HX.out; omega
      have j2 : (0 : Int) ≤ (j : Int) := by omega
      have S2 : (S : Int) ≤ 1073741824 := by omega
      have w1' : IntKind.i64.wrap (q : Int) = (q : Int) := IntWalk.i64_in _ (by omega)
      have H1 := Lib.hid CT
      have HE := Lib.hid (And.intro e3 e4)
      clear CT e1 e2 e3 e4 ea eb eS l1 l2 hq S0 hr hu z1 t1 t2
      go_wp2_with fail
      refine Hd.wp_region_tail 5 (by kernel_rfl) (by kernel_rfl) ?_
      intro KQ hKQ
      repeat (first | (refine Hd.wpG_skip (by decide) rfl ?_; simp only [Act.put, List.setIfInBounds_toArray, List.set_cons_zero, List.set_cons_succ]) | (refine Hd.wpG_want (by decide) rfl ?_; apply Exists.intro; refine ⟨?_, ?_⟩; (· intro wx gx; (obtain ⟨mx, rfl⟩ := gx); all_goals (apply Hd.gAt_of_quiet; intro K hK; go_big_quiet_op; first | exact hK _ rfl | (apply Exists.intro; refine ⟨fun _ => ?_, ?_⟩; (· (first | (go_at_call 56; first | ((with_reducible refine ((H1.out _)).mono ?_); rintro e w' ⟨rfl, hg⟩; exact ⟨rfl, spread_gr hg⟩)))); exact hK _ rfl))); try simp only [Act.put, List.setIfInBounds_toArray, List.set_cons_zero, List.set_cons_succ]))
      refine Hd.wpG_nil (hKQ _ ?_)
      clear hKQ KQ
      intro w1 hhw1
      have hw1 := Hd.gr_of_spread hhw1
      have cw1_0_0 : w1.cell? ⟨W.heap.size, 0, none⟩ = some (.int .i64 0) := cell_gr hw1 (by go_simp)
      have fw1_0_0 : w1.frozen? ⟨W.heap.size, 0, none⟩ = false := frozen_gr (v := .int .i64 0) hw1 (by go_simp) (by go_simp)
      have cw1_0_1 : w1.cell? ⟨W.heap.size, 1, none⟩ = some (.int .i64 0) := cell_gr hw1 (by go_simp)
      have fw1_0_1 : w1.frozen? ⟨W.heap.size, 1, none⟩ = false := frozen_gr (v := .int .i64 0) hw1 (by go_simp) (by go_simp)
      have zw1_0 : W.heap.size < w1.heap.size := World.block_lt_of_cell? _ _ cw1_0_0
      have cw1_1_0 : w1.cell? ⟨W.heap.size + 1, 0, none⟩ = some (.int .i64 p1) := cell_gr hw1 (by go_simp)
      have fw1_1_0 : w1.frozen? ⟨W.heap.size + 1, 0, none⟩ = false := frozen_gr (v := .int .i64 p1) hw1 (by go_simp) (by go_simp)
      have cw1_1_1 : w1.cell? ⟨W.heap.size + 1, 1, none⟩ = some (.int .i64 p2) := cell_gr hw1 (by go_simp)
      have fw1_1_1 : w1.frozen? ⟨W.heap.size + 1, 1, none⟩ = false := frozen_gr (v := .int .i64 p2) hw1 (by go_simp) (by go_simp)
      have zw1_1 : W.heap.size + 1 < w1.heap.size := World.block_lt_of_cell? _ _ cw1_1_0
      have gw1 : Gr W w1 := Gr.trans (by have gg := gwr; have gs := gg.size; go_grown) hw1
      clear hw1 hhw1 gwr
      go_wp2_with fail
      go_wp2_with fail
      generalize hhw2 : ((w1.setCell ⟨W.heap.size + 1, 0, none⟩ (.int .i64 a1)).setCell ⟨W.heap.size + 1, 1, none⟩ (.int .i64 a2)) = w2
      have cw2_0_0 : w2.cell? ⟨W.heap.size, 0, none⟩ = some (.int .i64 0) := by subst hhw2; go_simp
      have fw2_0_0 : w2.frozen? ⟨W.heap.size, 0, none⟩ = false := by subst hhw2; go_simp
      have cw2_0_1 : w2.cell? ⟨W.heap.size, 1, none⟩ = some (.int .i64 0) := by subst hhw2; go_simp
      have fw2_0_1 : w2.frozen? ⟨W.heap.size, 1, none⟩ = false := by subst hhw2; go_simp
      have zw2_0 : W.heap.size < w2.heap.size := World.block_lt_of_cell? _ _ cw2_0_0
      have cw2_1_0 : w2.cell? ⟨W.heap.size + 1, 0, none⟩ = some (.int .i64 a1) := by subst hhw2; go_simp
      have fw2_1_0 : w2.frozen? ⟨W.heap.size + 1, 0, none⟩ = false := by subst hhw2; go_simp
      have cw2_1_1 : w2.cell? ⟨W.heap.size + 1, 1, none⟩ = some (.int .i64 a2) := by subst hhw2; go_simp
      have fw2_1_1 : w2.frozen? ⟨W.heap.size + 1, 1, none⟩ = false := by subst hhw2; go_simp
      have zw2_1 : W.heap.size + 1 < w2.heap.size := World.block_lt_of_cell? _ _ cw2_1_0
      have gw2 : Gr W w2 := by subst hhw2; have gg := gw1; have gs := gg.size; go_grown
      clear hhw2 gw1 zw1_0 cw1_0_0 fw1_0_0 cw1_0_1 fw1_0_1 zw1_1 cw1_1_0 fw1_1_0 cw1_1_1 fw1_1_1
      go_wp2_with fail
      refine Hd.wp_region_tail 7 (by kernel_rfl) (by kernel_rfl) ?_
      intro KQ hKQ
      repeat (first | (refine Hd.wpG_skip (by decide) rfl ?_; simp only [Act.put, List.setIfInBounds_toArray, List.set_cons_zero, List.set_cons_succ]) | (refine Hd.wpG_want (by decide) rfl ?_; apply Exists.intro; refine ⟨?_, ?_⟩; (· intro wx gx; (obtain ⟨mx, rfl⟩ := gx); all_goals (apply Hd.gAt_of_quiet; intro K hK; go_big_quiet_op; first | exact hK _ rfl | (apply Exists.intro; refine ⟨fun _ => ?_, ?_⟩; (· fail); exact hK _ rfl))); try simp only [Act.put, List.setIfInBounds_toArray, List.set_cons_zero, List.set_cons_succ]))
      refine Hd.wpG_nil (hKQ _ ?_)
      clear hKQ KQ
      intro w3 hhw3
      have hw3 := Hd.gr_of_spread hhw3
      have cw3_0_0 : w3.cell? ⟨W.heap.size, 0, none⟩ = some (.int .i64 0) := cell_gr hw3 (by go_simp)
      have fw3_0_0 : w3.frozen? ⟨W.heap.size, 0, none⟩ = false := frozen_gr (v := .int .i64 0) hw3 (by go_simp) (by go_simp)
      have cw3_0_1 : w3.cell? ⟨W.heap.size, 1, none⟩ = some (.int .i64 0) := cell_gr hw3 (by go_simp)
      have fw3_0_1 : w3.frozen? ⟨W.heap.size, 1, none⟩ = false := frozen_gr (v := .int .i64 0) hw3 (by go_simp) (by go_simp)
      have zw3_0 : W.heap.size < w3.heap.size := World.block_lt_of_cell? _ _ cw3_0_0
      have cw3_1_0 : w3.cell? ⟨W.heap.size + 1, 0, none⟩ = some (.int .i64 a1) := cell_gr hw3 (by go_simp)
      have fw3_1_0 : w3.frozen? ⟨W.heap.size + 1, 0, none⟩ = false := frozen_gr (v := .int .i64 a1) hw3 (by go_simp) (by go_simp)
      have cw3_1_1 : w3.cell? ⟨W.heap.size + 1, 1, none⟩ = some (.int .i64 a2) := cell_gr hw3 (by go_simp)
      have fw3_1_1 : w3.frozen? ⟨W.heap.size + 1, 1, none⟩ = false := frozen_gr (v := .int .i64 a2) hw3 (by go_simp) (by go_simp)
      have zw3_1 : W.heap.size + 1 < w3.heap.size := World.block_lt_of_cell? _ _ cw3_1_0
      have gw3 : Gr W w3 := Gr.trans (by have gg := gw2; have gs := gg.size; go_grown) hw3
      clear hw3 hhw3 gw2 zw2_0 cw2_0_0 fw2_0_0 cw2_0_1 fw2_0_1 zw2_1 cw2_1_0 fw2_1_0 cw2_1_1 fw2_1_1
      go_wp2_with fail
      go_wp2_with fail
      generalize hhw4 : (w3.setCell ⟨W.heap.size + 1, 0, none⟩ (.int .i64 p1')) = w4
      have cw4_0_0 : w4.cell? ⟨W.heap.size, 0, none⟩ = some (.int .i64 0) := by subst hhw4; go_simp
      have fw4_0_0 : w4.frozen? ⟨W.heap.size, 0, none⟩ = false := by subst hhw4; go_simp
      have cw4_0_1 : w4.cell? ⟨W.heap.size, 1, none⟩ = some (.int .i64 0) := by subst hhw4; go_simp
      have fw4_0_1 : w4.frozen? ⟨W.heap.size, 1, none⟩ = false := by subst hhw4; go_simp
      have zw4_0 : W.heap.size < w4.heap.size := World.block_lt_of_cell? _ _ cw4_0_0
      have cw4_1_0 : w4.cell? ⟨W.heap.size + 1, 0, none⟩ = some (.int .i64 p1') := by subst hhw4; go_simp
      have fw4_1_0 : w4.frozen? ⟨W.heap.size + 1, 0, none⟩ = false := by subst hhw4; go_simp
      have cw4_1_1 : w4.cell? ⟨W.heap.size + 1, 1, none⟩ = some (.int .i64 a2) := by subst hhw4; go_simp
      have fw4_1_1 : w4.frozen? ⟨W.heap.size + 1, 1, none⟩ = false := by subst hhw4; go_simp
      have zw4_1 : W.heap.size + 1 < w4.heap.size := World.block_lt_of_cell? _ _ cw4_1_0
      have gw4 : Gr W w4 := by subst hhw4; have gg := gw3; have gs := gg.size; go_grown
      clear hhw4 gw3 zw3_0 cw3_0_0 fw3_0_0 cw3_0_1 fw3_0_1 zw3_1 cw3_1_0 fw3_1_0 cw3_1_1 fw3_1_1
      go_wp2_with fail
      refine Hd.wp_region_tail 10 (by kernel_rfl) (by kernel_rfl) ?_
      intro KQ hKQ
      repeat (first | (refine Hd.wpG_skip (by decide) rfl ?_; simp only [Act.put, List.setIfInBounds_toArray, List.set_cons_zero, List.set_cons_succ]) | (refine Hd.wpG_want (by decide) rfl ?_; apply Exists.intro; refine ⟨?_, ?_⟩; (· intro wx gx; (obtain ⟨mx, rfl⟩ := gx); all_goals (apply Hd.gAt_of_quiet; intro K hK; go_big_quiet_op; first | exact hK _ rfl | (apply Exists.intro; refine ⟨fun _ => ?_, ?_⟩; (· fail); exact hK _ rfl))); try simp only [Act.put, List.setIfInBounds_toArray, List.set_cons_zero, List.set_cons_succ]))
      refine Hd.wpG_nil (hKQ _ ?_)
      clear hKQ KQ
      intro w5 hhw5
      have hw5 := Hd.gr_of_spread hhw5
      have cw5_0_0 : w5.cell? ⟨W.heap.size, 0, none⟩ = some (.int .i64 0) := cell_gr hw5 (by go_simp)
      have fw5_0_0 : w5.frozen? ⟨W.heap.size, 0, none⟩ = false := frozen_gr (v := .int .i64 0) hw5 (by go_simp) (by go_simp)
      have cw5_0_1 : w5.cell? ⟨W.heap.size, 1, none⟩ = some (.int .i64 0) := cell_gr hw5 (by go_simp)
      have fw5_0_1 : w5.frozen? ⟨W.heap.size, 1, none⟩ = false := frozen_gr (v := .int .i64 0) hw5 (by go_simp) (by go_simp)
      have zw5_0 : W.heap.size < w5.heap.size := World.block_lt_of_cell? _ _ cw5_0_0
      have cw5_1_0 : w5.cell? ⟨W.heap.size + 1, 0, none⟩ = some (.int .i64 p1') := cell_gr hw5 (by go_simp)
      have fw5_1_0 : w5.frozen? ⟨W.heap.size + 1, 0, none⟩ = false := frozen_gr (v := .int .i64 p1') hw5 (by go_simp) (by go_simp)
      have cw5_1_1 : w5.cell? ⟨W.heap.size + 1, 1, none⟩ = some (.int .i64 a2) := cell_gr hw5 (by go_simp)
      have fw5_1_1 : w5.frozen? ⟨W.heap.size + 1, 1, none⟩ = false := frozen_gr (v := .int .i64 a2) hw5 (by go_simp) (by go_simp)
      have zw5_1 : W.heap.size + 1 < w5.heap.size := World.block_lt_of_cell? _ _ cw5_1_0
      have gw5 : Gr W w5 := Gr.trans (by have gg := gw4; have gs := gg.size; go_grown) hw5
      clear hw5 hhw5 gw4 zw4_0 cw4_0_0 fw4_0_0 cw4_0_1 fw4_0_1 zw4_1 cw4_1_0 fw4_1_0 cw4_1_1 fw4_1_1
      go_wp2_with fail
      go_roundg (n - (j + 1))
      case measure => omega
      case rel => exact ⟨j + 1, by omega, by go_num, by go_simp, by go_simp, by go_simp, by go_simp, by rw [← HE.out.1]; go_simp, by rw [← HE.out.2]; go_simp, by go_simp, by go_simp, by have gg := gw5; have gs := gg.size; go_grown⟩
    · obtain rfl : j = n := by omega
      have ti : decide ((j : Int) < (j : Int)) = false := decide_eq_false (by omega)
      have ti2 : decide (j < j) = false := decide_eq_false (by omega)
      obtain ⟨p1, e1⟩ : ∃ x, x = (Cv.uX j v).1 := ⟨_, rfl⟩
      obtain ⟨p2, e2⟩ : ∃ x, x = (Cv.uX j v).2 := ⟨_, rfl⟩
      rw [← e1] at c0
      rw [← e2] at c1
      have HE := Lib.hid (And.intro e1 e2)
      clear e1 e2
      go_wp2_with fail
      refine bodyPost_ret (v := .tuple #[.agg #[.int .i64 p1, .int .i64 p2], .nilIface]) (by simp [results, Tryd.results36, go_sem, *]) rfl ⟨by rw [HE.out.1, HE.out.2], by have gg := gwr; have gs := gg.size; go_grown⟩
end Go.Proofs.YtldlpbfncgcimaaDoor
