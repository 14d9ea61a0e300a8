/- RatioMakes -/
import Derived.Test.YtffobfjjbcdbdaaDoorRo
import Derived.Test.YtffobfjjbcdbdaaDoorRd
import Derived.Test.YtffobfjjbcdbdaaDoorRi
namespace Go.Proofs.YtffobfjjbcdbdaaDoor
set_option linter.unusedVariables false
open Go.ChangeShapes Go.WideShapes Go.ChangeAt Go.RowKit

theorem c_rgcd (a b : Nat) (ha : Wd a) (hb : Wd b) (w : World) :
    Calls Tryd.prog 60 #[.int .u64 a, .int .u64 b] w fun e w' => e = .returned (.int .u64 (Nat.gcd a b : Nat)) ∧ Gr w w' := by
  go_enter Tryd.func60, Tryd.ntmps60
  go_wp2_with fail
  go_loopg [0, 1] b (fun k v0 v1 wr => ∃ x y : Nat, Wd x ∧ Wd y ∧ y ≤ k ∧ v0 = .int .u64 x ∧ v1 = .int .u64 y ∧ Nat.gcd x y = Nat.gcd a b ∧ Gr w wr)
  case atStart => exact ⟨a, b, ha, hb, Nat.le_refl _, rfl, rfl, rfl, Gr.of_eq rfl⟩
  case round =>
    obtain ⟨x, y, hx, hy, hk, rfl, rfl, hgcd, hg⟩ := hrel
    by_cases h0 : y = 0
    · subst h0
      rw [Nat.gcd_zero_right] at hgcd
      have HG := Lib.hid hgcd
      clear hgcd
      go_wp2_with fail
      go_ret
      exact ⟨by rw [← HG.out]; rfl, hg⟩
    · have e : decide ((0 : Int) < (y : Int)) = true := decide_eq_true (by omega)
      have e2 : decide (0 < y) = true := decide_eq_true (by omega)
      have e3 : ¬ (y : Int) = 0 := by omega
      have hgc : Nat.gcd y (x % y) = Nat.gcd a b := by rw [← hgcd, Nat.gcd_comm, ← Nat.gcd_rec, Nat.gcd_comm]
      have hlt : x % y < y := Nat.mod_lt _ (by omega)
      obtain ⟨z, hz⟩ : ∃ z, z = x % y := ⟨_, rfl⟩
      rw [← hz] at hgc hlt
      have t1 : (x : Int).tmod (y : Int) = (z : Int) := by rw [hz]; rfl
      have t2 : IntKind.u64.wrap (z : Int) = (z : Int) := IntWalk.u64_in _ (by unfold Wd at hy; omega)
      have HG := Lib.hid hgc
      clear hgcd hgc hz
      go_wp2_with fail
      refine wp_region_spread (by kernel_rfl) (by kernel_rfl) ?_
      repeat (first | go_big_quiet_skip | (go_big_quiet_want; go_big_quiet_op; (first | go_big_quiet_on | (apply Exists.intro; refine ⟨fun _ => ?_, ?_⟩; (· fail); go_big_quiet_on))))
      refine wpQuiet_nil ?_
      intro wr hr
      obtain ⟨mr, rfl⟩ := hr
      go_wp2_with fail
      go_roundg z
      case measure => omega
      case rel => exact ⟨y, z, hy, by unfold Wd at *; omega, Nat.le_refl _, rfl, rfl, HG.out, Gr.trans hg (gr_spread _ _)⟩
set_option maxHeartbeats 1000000 in
set_option maxRecDepth 100000 in
theorem lowest_core (h l d qh ql g qd q2h q2l r r2 : Nat) (W : World) (g1 : ((g : Int) == 0) = false) (g3 : ¬ (g : Int) = 0)
    (t1 : (d : Int).tdiv (g : Int) = (qd : Int)) (t2 : IntKind.u64.wrap (qd : Int) = (qd : Int))
    (A1 : ∀ w, Calls Tryd.prog 56 #[.agg #[.int .u64 h, .int .u64 l], .int .u64 d] w fun e w' => e = .returned (.tuple #[.agg #[.int .u64 q2h, .int .u64 q2l], .int .u64 r]) ∧ Gr w w')
    (A2 : ∀ w, Calls Tryd.prog 60 #[.int .u64 d, .int .u64 r] w fun e w' => e = .returned (.int .u64 g) ∧ Gr w w')
    (A3 : ∀ w, Calls Tryd.prog 56 #[.agg #[.int .u64 h, .int .u64 l], .int .u64 g] w fun e w' => e = .returned (.tuple #[.agg #[.int .u64 qh, .int .u64 ql], .int .u64 r2]) ∧ Gr w w') :
    Calls Tryd.prog 34 #[.agg #[.int .u64 h, .int .u64 l], .int .u64 d] W fun e w' => e = .returned (.agg #[.int .u64 qh, .int .u64 ql, .int .u64 qd]) ∧ Gr W w' := by
  have H1 := Lib.hid A1
  have H2 := Lib.hid A2
  have H3 := Lib.hid A3
  clear A1 A2 A3
  go_enter Tryd.func34, Tryd.ntmps34
  go_wp2_with fail
  go_at_call 56
  refine ((H1.out _)).mono ?_
  rintro e w1 ⟨rfl, hw1⟩
  have cw1_0_0 : w1.cell? ⟨W.heap.size, 0, none⟩ = some (.int .u64 h) := cell_gr hw1 (by go_simp)
  have cw1_0_1 : w1.cell? ⟨W.heap.size, 1, none⟩ = some (.int .u64 l) := cell_gr hw1 (by go_simp)
  have zw1_0 : W.heap.size < w1.heap.size := World.block_lt_of_cell? _ _ cw1_0_0
  have cw1_1_0 : w1.cell? ⟨W.heap.size + 1, 0, none⟩ = some (.int .u64 0) := cell_gr hw1 (by go_simp)
  have fw1_1_0 : w1.frozen? ⟨W.heap.size + 1, 0, none⟩ = false := frozen_gr (v := .int .u64 0) hw1 (by go_simp) (by go_simp)
  have cw1_1_1 : w1.cell? ⟨W.heap.size + 1, 1, none⟩ = some (.int .u64 0) := cell_gr hw1 (by go_simp)
  have fw1_1_1 : w1.frozen? ⟨W.heap.size + 1, 1, none⟩ = false := frozen_gr (v := .int .u64 0) hw1 (by go_simp) (by go_simp)
  have cw1_1_2 : w1.cell? ⟨W.heap.size + 1, 2, none⟩ = some (.int .u64 0) := cell_gr hw1 (by go_simp)
  have fw1_1_2 : w1.frozen? ⟨W.heap.size + 1, 2, none⟩ = false := frozen_gr (v := .int .u64 0) hw1 (by go_simp) (by go_simp)
  have zw1_1 : W.heap.size + 1 < w1.heap.size := World.block_lt_of_cell? _ _ cw1_1_0
  have gw1 : Gr W w1 := Gr.trans (by go_grown) hw1
  clear hw1
  go_wp2_with fail
  go_at_call 60
  refine ((H2.out _)).mono ?_
  rintro e w2 ⟨rfl, hw2⟩
  have cw2_0_0 : w2.cell? ⟨W.heap.size, 0, none⟩ = some (.int .u64 h) := cell_gr hw2 (by go_simp)
  have cw2_0_1 : w2.cell? ⟨W.heap.size, 1, none⟩ = some (.int .u64 l) := cell_gr hw2 (by go_simp)
  have zw2_0 : W.heap.size < w2.heap.size := World.block_lt_of_cell? _ _ cw2_0_0
  have cw2_1_0 : w2.cell? ⟨W.heap.size + 1, 0, none⟩ = some (.int .u64 0) := cell_gr hw2 (by go_simp)
  have fw2_1_0 : w2.frozen? ⟨W.heap.size + 1, 0, none⟩ = false := frozen_gr (v := .int .u64 0) hw2 (by go_simp) (by go_simp)
  have cw2_1_1 : w2.cell? ⟨W.heap.size + 1, 1, none⟩ = some (.int .u64 0) := cell_gr hw2 (by go_simp)
  have fw2_1_1 : w2.frozen? ⟨W.heap.size + 1, 1, none⟩ = false := frozen_gr (v := .int .u64 0) hw2 (by go_simp) (by go_simp)
  have cw2_1_2 : w2.cell? ⟨W.heap.size + 1, 2, none⟩ = some (.int .u64 0) := cell_gr hw2 (by go_simp)
  have fw2_1_2 : w2.frozen? ⟨W.heap.size + 1, 2, none⟩ = false := frozen_gr (v := .int .u64 0) hw2 (by go_simp) (by go_simp)
  have zw2_1 : W.heap.size + 1 < w2.heap.size := World.block_lt_of_cell? _ _ cw2_1_0
  have gw2 : Gr W w2 := Gr.trans (by have gg := gw1; have gs := gg.size; go_grown) hw2
  clear hw2 gw1 zw1_0 cw1_0_0 cw1_0_1 zw1_1 cw1_1_0 fw1_1_0 cw1_1_1 fw1_1_1 cw1_1_2 fw1_1_2
  go_wp2_with fail
  go_at_call 56
  refine ((H3.out _)).mono ?_
  rintro e w3 ⟨rfl, hw3⟩
  have cw3_0_0 : w3.cell? ⟨W.heap.size, 0, none⟩ = some (.int .u64 h) := cell_gr hw3 (by go_simp)
  have cw3_0_1 : w3.cell? ⟨W.heap.size, 1, none⟩ = some (.int .u64 l) := cell_gr hw3 (by go_simp)
  have zw3_0 : W.heap.size < w3.heap.size := World.block_lt_of_cell? _ _ cw3_0_0
  have cw3_1_0 : w3.cell? ⟨W.heap.size + 1, 0, none⟩ = some (.int .u64 0) := cell_gr hw3 (by go_simp)
  have fw3_1_0 : w3.frozen? ⟨W.heap.size + 1, 0, none⟩ = false := frozen_gr (v := .int .u64 0) hw3 (by go_simp) (by go_simp)
  have cw3_1_1 : w3.cell? ⟨W.heap.size + 1, 1, none⟩ = some (.int .u64 0) := cell_gr hw3 (by go_simp)
  have fw3_1_1 : w3.frozen? ⟨W.heap.size + 1, 1, none⟩ = false := frozen_gr (v := .int .u64 0) hw3 (by go_simp) (by go_simp)
  have cw3_1_2 : w3.cell? ⟨W.heap.size + 1, 2, none⟩ = some (.int .u64 0) := cell_gr hw3 (by go_simp)
  have fw3_1_2 : w3.frozen? ⟨W.heap.size + 1, 2, none⟩ = false := frozen_gr (v := .int .u64 0) hw3 (by go_simp) (by go_simp)
  have zw3_1 : W.heap.size + 1 < w3.heap.size := World.block_lt_of_cell? _ _ cw3_1_0
  have gw3 : Gr W w3 := Gr.trans (by have gg := gw2; have gs := gg.size; go_grown) hw3
  clear hw3 gw2 zw2_0 cw2_0_0 cw2_0_1 zw2_1 cw2_1_0 fw2_1_0 cw2_1_1 fw2_1_1 cw2_1_2 fw2_1_2
  go_wp2_with fail
  generalize hhw4 : (w3.alloc (.cells #[.int .u64 qh, .int .u64 ql] 28)) = w4
  have cw4_0_0 : w4.cell? ⟨W.heap.size, 0, none⟩ = some (.int .u64 h) := by subst hhw4; go_simp
  have cw4_0_1 : w4.cell? ⟨W.heap.size, 1, none⟩ = some (.int .u64 l) := by subst hhw4; go_simp
  have zw4_0 : W.heap.size < w4.heap.size := World.block_lt_of_cell? _ _ cw4_0_0
  have cw4_1_0 : w4.cell? ⟨W.heap.size + 1, 0, none⟩ = some (.int .u64 0) := by subst hhw4; go_simp
  have fw4_1_0 : w4.frozen? ⟨W.heap.size + 1, 0, none⟩ = false := by subst hhw4; go_simp
  have cw4_1_1 : w4.cell? ⟨W.heap.size + 1, 1, none⟩ = some (.int .u64 0) := by subst hhw4; go_simp
  have fw4_1_1 : w4.frozen? ⟨W.heap.size + 1, 1, none⟩ = false := by subst hhw4; go_simp
  have cw4_1_2 : w4.cell? ⟨W.heap.size + 1, 2, none⟩ = some (.int .u64 0) := by subst hhw4; go_simp
  have fw4_1_2 : w4.frozen? ⟨W.heap.size + 1, 2, none⟩ = false := by subst hhw4; go_simp
  have zw4_1 : W.heap.size + 1 < w4.heap.size := World.block_lt_of_cell? _ _ cw4_1_0
  have cw4_2_0 : w4.cell? ⟨w3.heap.size, 0, none⟩ = some (.int .u64 qh) := by subst hhw4; go_simp
  have cw4_2_1 : w4.cell? ⟨w3.heap.size, 1, none⟩ = some (.int .u64 ql) := by subst hhw4; go_simp
  have zw4_2 : w3.heap.size < w4.heap.size := World.block_lt_of_cell? _ _ cw4_2_0
  have gw4 : Gr W w4 := by subst hhw4; have gg := gw3; have gs := gg.size; go_grown
  clear hhw4 gw3 zw3_0 cw3_0_0 cw3_0_1 zw3_1 cw3_1_0 fw3_1_0 cw3_1_1 fw3_1_1 cw3_1_2 fw3_1_2
  go_wp2_with fail
  refine Hd.wp_region_tail 8 (by kernel_rfl) (by kernel_rfl) ?_
  intro KQ hKQ
  repeat (first | (refine Hd.wpG_skip (by decide) rfl ?_; simp only [Act.put, List.setIfInBounds_toArray, List.set_cons_zero, List.set_cons_succ]) | (refine Hd.wpG_want (by decide) rfl ?_; apply Exists.intro; refine ⟨?_, ?_⟩; (· intro wx gx; (obtain ⟨mx, rfl⟩ := gx); all_goals (apply Hd.gAt_of_quiet; intro K hK; go_big_quiet_op; first | exact hK _ rfl | (apply Exists.intro; refine ⟨fun _ => ?_, ?_⟩; (· fail); exact hK _ rfl))); try simp only [Act.put, List.setIfInBounds_toArray, List.set_cons_zero, List.set_cons_succ]))
  refine Hd.wpG_nil (hKQ _ ?_)
  clear hKQ KQ
  intro w5 hhw5
  have hw5 := Hd.gr_of_spread hhw5
  have cw5_0_0 : w5.cell? ⟨W.heap.size, 0, none⟩ = some (.int .u64 h) := cell_gr hw5 (by go_simp)
  have cw5_0_1 : w5.cell? ⟨W.heap.size, 1, none⟩ = some (.int .u64 l) := cell_gr hw5 (by go_simp)
  have zw5_0 : W.heap.size < w5.heap.size := World.block_lt_of_cell? _ _ cw5_0_0
  have cw5_1_0 : w5.cell? ⟨W.heap.size + 1, 0, none⟩ = some (.int .u64 0) := cell_gr hw5 (by go_simp)
  have fw5_1_0 : w5.frozen? ⟨W.heap.size + 1, 0, none⟩ = false := frozen_gr (v := .int .u64 0) hw5 (by go_simp) (by go_simp)
  have cw5_1_1 : w5.cell? ⟨W.heap.size + 1, 1, none⟩ = some (.int .u64 0) := cell_gr hw5 (by go_simp)
  have fw5_1_1 : w5.frozen? ⟨W.heap.size + 1, 1, none⟩ = false := frozen_gr (v := .int .u64 0) hw5 (by go_simp) (by go_simp)
  have cw5_1_2 : w5.cell? ⟨W.heap.size + 1, 2, none⟩ = some (.int .u64 0) := cell_gr hw5 (by go_simp)
  have fw5_1_2 : w5.frozen? ⟨W.heap.size + 1, 2, none⟩ = false := frozen_gr (v := .int .u64 0) hw5 (by go_simp) (by go_simp)
  have zw5_1 : W.heap.size + 1 < w5.heap.size := World.block_lt_of_cell? _ _ cw5_1_0
  have cw5_2_0 : w5.cell? ⟨w3.heap.size, 0, none⟩ = some (.int .u64 qh) := cell_gr hw5 (by go_simp)
  have cw5_2_1 : w5.cell? ⟨w3.heap.size, 1, none⟩ = some (.int .u64 ql) := cell_gr hw5 (by go_simp)
  have zw5_2 : w3.heap.size < w5.heap.size := World.block_lt_of_cell? _ _ cw5_2_0
  have gw5 : Gr W w5 := Gr.trans (by have gg := gw4; have gs := gg.size; go_grown) hw5
  clear hw5 hhw5 gw4 zw4_0 cw4_0_0 cw4_0_1 zw4_1 cw4_1_0 fw4_1_0 cw4_1_1 fw4_1_1 cw4_1_2 fw4_1_2 zw4_2 cw4_2_0 cw4_2_1
  go_wp2_with fail
  refine bodyPost_ret (v := .agg #[.int .u64 qh, .int .u64 ql, .int .u64 qd]) (by simp [results, Tryd.results34, go_sem, *]) rfl ⟨rfl, by have gg := gw5; have gs := gg.size; go_grown⟩
theorem c_Lowest (h l d : Nat) (h1 : Wd h) (h2 : Wd l) (h3 : Wd d) (hd : d ≠ 0) (w : World) :
    Calls Tryd.prog 34 #[.agg #[.int .u64 h, .int .u64 l], .int .u64 d] w fun e w' => e = .returned (.agg #[.int .u64 ((lowN (val h l) d / 18446744073709551616 : Nat) : Int), .int .u64 ((lowN (val h l) d % 18446744073709551616 : Nat) : Int), .int .u64 ((lowD (val h l) d : Nat) : Int)]) ∧ Gr w w' := by
  have hr : val h l % d < d := Nat.mod_lt _ (by omega)
  have hrw : Wd (val h l % d) := by unfold Wd at *; omega
  have A1 := c_rDiv h l d h1 h2 h3 (by omega)
  have A2 := c_rgcd d (val h l % d) h3 hrw
  have hgl : Nat.gcd d (val h l % d) ≤ d := Nat.le_of_dvd (by omega) (Nat.gcd_dvd_left _ _)
  have hgp : 0 < Nat.gcd d (val h l % d) := Nat.gcd_pos_of_pos_left _ (by omega)
  unfold lowN lowD
  generalize Nat.gcd d (val h l % d) = g at *
  have A3 := c_rDiv h l g h1 h2 (by unfold Wd at *; omega) hgp
  have hq : d / g ≤ d := Nat.div_le_self _ _
  exact lowest_core h l d _ _ g (d / g) _ _ _ _ w (by simp; omega) (by omega) rfl (IntWalk.u64_in _ ⟨Int.natCast_nonneg _, by unfold Wd at *; omega⟩) A1 A2 A3
set_option maxRecDepth 100000 in
theorem c_rOf (n : Int) (h : -9223372036854775808 ≤ n ∧ n ≤ 9223372036854775807) (w : World) :
    Calls Tryd.prog 32 #[.int .i64 n] w fun e w' => e = .returned (.agg #[.int .u64 (n.natAbs * n.natAbs / 18446744073709551616 : Nat), .int .u64 (n.natAbs * n.natAbs % 18446744073709551616 : Nat), .int .u64 1]) ∧ Gr w w' := by
  have hx : n.natAbs ≤ 9223372036854775808 := by omega
  have bx : n.natAbs * n.natAbs ≤ 9223372036854775808 * 9223372036854775808 := Nat.mul_le_mul hx hx
  have A1 := c_rSquare n h
  obtain ⟨v1, w1, w2⟩ := val_split (n.natAbs * n.natAbs) (by omega)
  have A2 := c_Lowest1 _ _ w1 w2
  clear v1 w1 w2 hx bx h
  generalize n.natAbs * n.natAbs / 18446744073709551616 = a at *
  generalize n.natAbs * n.natAbs % 18446744073709551616 = b at *
  have H1 := Lib.hid A1
  have H2 := Lib.hid A2
  clear A1 A2
  go_enter Tryd.func32, Tryd.ntmps32
  go_wp2_with fail
  go_at_call 20
  refine ((H1.out _)).mono ?_
  rintro e w1 ⟨rfl, hw1⟩
  have cw1_0_0 : w1.cell? ⟨w.heap.size, 0, none⟩ = some (.int .u64 0) := cell_gr hw1 (by go_simp)
  have fw1_0_0 : w1.frozen? ⟨w.heap.size, 0, none⟩ = false := frozen_gr (v := .int .u64 0) hw1 (by go_simp) (by go_simp)
  have cw1_0_1 : w1.cell? ⟨w.heap.size, 1, none⟩ = some (.int .u64 0) := cell_gr hw1 (by go_simp)
  have fw1_0_1 : w1.frozen? ⟨w.heap.size, 1, none⟩ = false := frozen_gr (v := .int .u64 0) hw1 (by go_simp) (by go_simp)
  have cw1_0_2 : w1.cell? ⟨w.heap.size, 2, none⟩ = some (.int .u64 0) := cell_gr hw1 (by go_simp)
  have fw1_0_2 : w1.frozen? ⟨w.heap.size, 2, none⟩ = false := frozen_gr (v := .int .u64 0) hw1 (by go_simp) (by go_simp)
  have zw1_0 : w.heap.size < w1.heap.size := World.block_lt_of_cell? _ _ cw1_0_0
  have gw1 : Gr w w1 := Gr.trans (by go_grown) hw1
  clear hw1
  go_wp2_with fail
  go_at_call 34
  refine ((H2.out _)).mono ?_
  rintro e w2 ⟨rfl, hw2⟩
  have cw2_0_0 : w2.cell? ⟨w.heap.size, 0, none⟩ = some (.int .u64 0) := cell_gr hw2 (by go_simp)
  have fw2_0_0 : w2.frozen? ⟨w.heap.size, 0, none⟩ = false := frozen_gr (v := .int .u64 0) hw2 (by go_simp) (by go_simp)
  have cw2_0_1 : w2.cell? ⟨w.heap.size, 1, none⟩ = some (.int .u64 0) := cell_gr hw2 (by go_simp)
  have fw2_0_1 : w2.frozen? ⟨w.heap.size, 1, none⟩ = false := frozen_gr (v := .int .u64 0) hw2 (by go_simp) (by go_simp)
  have cw2_0_2 : w2.cell? ⟨w.heap.size, 2, none⟩ = some (.int .u64 0) := cell_gr hw2 (by go_simp)
  have fw2_0_2 : w2.frozen? ⟨w.heap.size, 2, none⟩ = false := frozen_gr (v := .int .u64 0) hw2 (by go_simp) (by go_simp)
  have zw2_0 : w.heap.size < w2.heap.size := World.block_lt_of_cell? _ _ cw2_0_0
  have gw2 : Gr w w2 := Gr.trans (by have gg := gw1; have gs := gg.size; go_grown) hw2
  clear hw2 gw1 zw1_0 cw1_0_0 fw1_0_0 cw1_0_1 fw1_0_1 cw1_0_2 fw1_0_2
  go_wp2_with fail
  refine bodyPost_ret (v := .agg #[.int .u64 a, .int .u64 b, .int .u64 1]) (by simp [results, Tryd.results32, go_sem, *]) rfl ⟨rfl, by go_grown⟩
set_option maxHeartbeats 1000000 in
set_option maxRecDepth 100000 in
theorem c_Make0 (h l : Nat) (W : World) :
    Calls Tryd.prog 29 #[.agg #[.int .u64 h, .int .u64 l], .int .u64 0] W fun e w' => ∃ B, e = .returned (.tuple #[.agg #[.int .u64 0, .int .u64 0, .int .u64 0], .iface 94 (.pointer (some ⟨B, 0, none⟩))]) ∧ w'.cell? ⟨B, 2, none⟩ = some (.iface 95 (.int .i64 1)) ∧ Gr W w' := by
  go_enter Tryd.func29, Tryd.ntmps29
  go_wp2_with fail
  refine bodyPost_ret (v := .tuple #[.agg #[.int .u64 0, .int .u64 0, .int .u64 0], .iface 94 (.pointer (some ⟨W.heap.size + 1 + 1, 0, none⟩))]) (by simp [results, Tryd.results29, go_sem, *]) rfl ⟨_, rfl, by go_simp, by go_grown⟩
set_option maxHeartbeats 1000000 in
set_option maxRecDepth 100000 in
theorem c_Code_fault (b : Nat) (w : World) (hc : w.cell? ⟨b, 2, none⟩ = some (.iface 95 (.int .i64 1))) : Calls Tryd.prog 30 #[.iface 94 (.pointer (some ⟨b, 0, none⟩))] w fun e w' => e = .returned (.int .i64 1) ∧ Gr w w' := by
  have I1 : Calls Tryd.prog 59 #[.iface 94 (.pointer (some ⟨b, 0, none⟩)), .iface 95 (.int .i64 1)] w fun e w' => e = .returned (.bool true) ∧ Gr w w' := c_Is_fault b 1 1 w hc
  have H1 := Lib.hid I1
  clear I1
  go_enter Tryd.func30, Tryd.ntmps30
  go_wp2_with fail
  refine wp_loop_rounds 1 ?_
  rw [rounds_succ]
  go_wp2_with fail
  go_at_call 59
  refine (H1.out).mono ?_
  rintro e w1 ⟨rfl, hg⟩
  go_wp2_with fail
  go_ret
  exact ⟨rfl, hg⟩
set_option maxHeartbeats 1000000 in
set_option maxRecDepth 100000 in
theorem makes_no (hi lo : Nat) (n : Int) (a b : Nat) (W : World) (hp : Lib.TabIs Tryd.prog W "internal/strconv.uint64pow10" .u64 Lib.pow10Tab)
    (A1 : ∀ w, Calls Tryd.prog 31 #[.int .i64 n] w fun e w' => e = .returned (.agg #[.int .u64 a, .int .u64 b, .int .u64 1]) ∧ Gr w w')
    (A2 : ∀ w, Calls Tryd.prog 32 #[.int .i64 n] w fun e w' => e = .returned (.agg #[.int .u64 a, .int .u64 b, .int .u64 1]) ∧ Gr w w') :
    Calls Tryd.prog 6 #[.int .u64 hi, .int .u64 lo, .int .u64 0, .int .i64 n] W fun e w' => e = .returned (.bool true) ∧ Gr W w' := by
  have H1 := Lib.hid A1
  have H2 := Lib.hid A2
  have HM := Lib.hid (c_Make0 hi lo)
  have AW : ∀ w, Gr W w → Calls Tryd.prog 33 #[] w fun e w' => e = .returned (.bool true) ∧ Gr w w' := fun w g => p2_awake w (tab_below hp g)
  have HAW := Lib.hid AW
  clear A1 A2 AW hp
  go_enter Tryd.func6, Tryd.ntmps6
  go_wp2_with fail
  go_at_call 29
  refine (HM.out _).mono ?_
  rintro e w1 ⟨B, rfl, kB, h1⟩
  have gw1 : Gr W w1 := Gr.trans (by go_grown) h1
  have zB := World.block_lt_of_cell? _ _ kB
  clear h1
  go_wp2_with fail
  go_at_call 30
  refine ((c_Code_fault _ _ (by go_simp))).mono ?_
  rintro e w2 ⟨rfl, hw2⟩
  have cw2_0_0 : w2.cell? ⟨w1.heap.size, 0, none⟩ = some (.int .u64 0) := cell_gr hw2 (by go_simp)
  have cw2_0_1 : w2.cell? ⟨w1.heap.size, 1, none⟩ = some (.int .u64 0) := cell_gr hw2 (by go_simp)
  have cw2_0_2 : w2.cell? ⟨w1.heap.size, 2, none⟩ = some (.int .u64 0) := cell_gr hw2 (by go_simp)
  have zw2_0 : w1.heap.size < w2.heap.size := World.block_lt_of_cell? _ _ cw2_0_0
  have gw2 : Gr W w2 := Gr.trans (by have gg := gw1; have gs := gg.size; go_grown) hw2
  clear hw2 gw1
  go_wp2_with fail
  go_at_call 31
  refine ((H1.out _)).mono ?_
  rintro e w3 ⟨rfl, hw3⟩
  have cw3_0_0 : w3.cell? ⟨w1.heap.size, 0, none⟩ = some (.int .u64 0) := cell_gr hw3 (by go_simp)
  have cw3_0_1 : w3.cell? ⟨w1.heap.size, 1, none⟩ = some (.int .u64 0) := cell_gr hw3 (by go_simp)
  have cw3_0_2 : w3.cell? ⟨w1.heap.size, 2, none⟩ = some (.int .u64 0) := cell_gr hw3 (by go_simp)
  have zw3_0 : w1.heap.size < w3.heap.size := World.block_lt_of_cell? _ _ cw3_0_0
  have gw3 : Gr W w3 := Gr.trans (by have gg := gw2; have gs := gg.size; go_grown) hw3
  clear hw3 gw2 zw2_0 cw2_0_0 cw2_0_1 cw2_0_2
  go_wp2_with fail
  go_at_call 32
  refine ((H2.out _)).mono ?_
  rintro e w4 ⟨rfl, hw4⟩
  have cw4_0_0 : w4.cell? ⟨w1.heap.size, 0, none⟩ = some (.int .u64 0) := cell_gr hw4 (by go_simp)
  have cw4_0_1 : w4.cell? ⟨w1.heap.size, 1, none⟩ = some (.int .u64 0) := cell_gr hw4 (by go_simp)
  have cw4_0_2 : w4.cell? ⟨w1.heap.size, 2, none⟩ = some (.int .u64 0) := cell_gr hw4 (by go_simp)
  have zw4_0 : w1.heap.size < w4.heap.size := World.block_lt_of_cell? _ _ cw4_0_0
  have gw4 : Gr W w4 := Gr.trans (by have gg := gw3; have gs := gg.size; go_grown) hw4
  clear hw4 gw3 zw3_0 cw3_0_0 cw3_0_1 cw3_0_2
  go_wp2_with fail
  go_at_call 33
  refine ((HAW.out _ gw4)).mono ?_
  rintro e w5 ⟨rfl, hw5⟩
  have cw5_0_0 : w5.cell? ⟨w1.heap.size, 0, none⟩ = some (.int .u64 0) := cell_gr hw5 (by go_simp)
  have cw5_0_1 : w5.cell? ⟨w1.heap.size, 1, none⟩ = some (.int .u64 0) := cell_gr hw5 (by go_simp)
  have cw5_0_2 : w5.cell? ⟨w1.heap.size, 2, none⟩ = some (.int .u64 0) := cell_gr hw5 (by go_simp)
  have zw5_0 : w1.heap.size < w5.heap.size := World.block_lt_of_cell? _ _ cw5_0_0
  have gw5 : Gr W w5 := Gr.trans (by have gg := gw4; have gs := gg.size; go_grown) hw5
  clear hw5 gw4 zw4_0 cw4_0_0 cw4_0_1 cw4_0_2
  go_wp2_with fail
  go_ret
  exact ⟨rfl, gw5⟩
set_option maxHeartbeats 1000000 in
set_option maxRecDepth 100000 in
theorem makes_yes (hi lo den qh ql qd a b : Nat) (n : Int) (W : World) (hp : Lib.TabIs Tryd.prog W "internal/strconv.uint64pow10" .u64 Lib.pow10Tab) (d1 : ((den : Int) == 0) = false) (d2 : ((den : Int) != 0) = true)
    (A1 : ∀ w, Calls Tryd.prog 31 #[.int .i64 n] w fun e w' => e = .returned (.agg #[.int .u64 a, .int .u64 b, .int .u64 1]) ∧ Gr w w')
    (A2 : ∀ w, Calls Tryd.prog 32 #[.int .i64 n] w fun e w' => e = .returned (.agg #[.int .u64 a, .int .u64 b, .int .u64 1]) ∧ Gr w w')
    (A3 : ∀ w, Calls Tryd.prog 29 #[.agg #[.int .u64 hi, .int .u64 lo], .int .u64 den] w fun e w' => e = .returned (.tuple #[.agg #[.int .u64 qh, .int .u64 ql, .int .u64 qd], .nilIface]) ∧ Gr w w')
    (A4 : ∀ w, Calls Tryd.prog 34 #[.agg #[.int .u64 hi, .int .u64 lo], .int .u64 den] w fun e w' => e = .returned (.agg #[.int .u64 qh, .int .u64 ql, .int .u64 qd]) ∧ Gr w w')
    (A5 : ∀ w, Calls Tryd.prog 35 #[.agg #[.int .u64 qh, .int .u64 ql, .int .u64 qd]] w fun e w' => e = .returned (.bool true) ∧ Gr w w') :
    Calls Tryd.prog 6 #[.int .u64 hi, .int .u64 lo, .int .u64 den, .int .i64 n] W fun e w' => e = .returned (.bool true) ∧ Gr W w' := by
  have H1 := Lib.hid A1
  have H2 := Lib.hid A2
  have H3 := Lib.hid A3
  have H4 := Lib.hid A4
  have H5 := Lib.hid A5
  have AW : ∀ w, Gr W w → Calls Tryd.prog 33 #[] w fun e w' => e = .returned (.bool true) ∧ Gr w w' := fun w g => p2_awake w (tab_below hp g)
  have HAW := Lib.hid AW
  clear A1 A2 A3 A4 A5 AW hp
  go_enter Tryd.func6, Tryd.ntmps6
  go_wp2_with fail
  go_at_call 29
  refine ((H3.out _)).mono ?_
  rintro e w1 ⟨rfl, hw1⟩
  have gw1 : Gr W w1 := Gr.trans (by go_grown) hw1
  clear hw1
  go_wp2_with fail
  generalize hhw2 : (w1.alloc (.cells #[.int .u64 qh, .int .u64 ql, .int .u64 qd] 50)) = w2
  have cw2_0_0 : w2.cell? ⟨w1.heap.size, 0, none⟩ = some (.int .u64 qh) := by subst hhw2; go_simp
  have cw2_0_1 : w2.cell? ⟨w1.heap.size, 1, none⟩ = some (.int .u64 ql) := by subst hhw2; go_simp
  have cw2_0_2 : w2.cell? ⟨w1.heap.size, 2, none⟩ = some (.int .u64 qd) := by subst hhw2; go_simp
  have zw2_0 : w1.heap.size < w2.heap.size := World.block_lt_of_cell? _ _ cw2_0_0
  have gw2 : Gr W w2 := by subst hhw2; have gg := gw1; have gs := gg.size; go_grown
  clear hhw2 gw1
  have EN : ∀ w, (binOp .eql 52 .nilIface .nilIface).run Tryd.prog w = .ok (.bool true) w := fun _ => rfl
  refine wp_region_spread (by kernel_rfl) (by kernel_rfl) ?_
  repeat (first | go_big_quiet_skip | (go_big_quiet_want; go_big_quiet_op; (first | go_big_quiet_on | (apply Exists.intro; refine ⟨fun _ => ?_, ?_⟩; (· (first | (go_at_call 34; first | ((with_reducible refine ((H4.out _)).mono ?_); rintro e w' ⟨rfl, hg⟩; exact ⟨rfl, spread_gr hg⟩)) | (go_at_call 31; first | ((with_reducible refine ((H1.out _)).mono ?_); rintro e w' ⟨rfl, hg⟩; exact ⟨rfl, spread_gr hg⟩)) | (go_at_call 32; first | ((with_reducible refine ((H2.out _)).mono ?_); rintro e w' ⟨rfl, hg⟩; exact ⟨rfl, spread_gr hg⟩)) | (go_at_call 35; first | ((with_reducible refine ((H5.out _)).mono ?_); rintro e w' ⟨rfl, hg⟩; exact ⟨rfl, spread_gr hg⟩)) | (go_at_call 33; first | ((with_reducible refine ((HAW.out _ (Gr.trans gw2 (gr_spread _ _)))).mono ?_); rintro e w' ⟨rfl, hg⟩; exact ⟨rfl, spread_gr hg⟩)))); go_big_quiet_on))))
  refine wpQuiet_nil ?_
  intro wr hr
  obtain ⟨mr, rfl⟩ := hr
  go_wp2_with fail
  go_ret
  exact ⟨rfl, Gr.trans gw2 (gr_spread _ _)⟩
theorem low_pos (n d : Nat) (hd : 0 < d) : 0 < lowD n d := by
  unfold lowD
  exact Nat.div_pos (Nat.le_of_dvd hd (Nat.gcd_dvd_left d (n % d))) (Nat.gcd_pos_of_pos_left _ hd)
theorem walk_RatioMakes (hi lo den : Nat) (n : Int) (h1 : Wd hi) (h2 : Wd lo) (h3 : Wd den) (h4 : -9223372036854775808 ≤ n ∧ n ≤ 9223372036854775807) (W : World) (hp : Lib.TabIs Tryd.prog W "internal/strconv.uint64pow10" .u64 Lib.pow10Tab) :
    Calls Tryd.prog 6 #[.int .u64 hi, .int .u64 lo, .int .u64 den, .int .i64 n] W fun e w' => e = .returned (.bool true) ∧ Gr W w' := by
  have A1 := c_Of n h4
  have A2 := c_rOf n h4
  by_cases hd : den = 0
  · subst hd
    exact makes_no hi lo n _ _ W hp A1 A2
  · have A3 := c_Make hi lo den h1 h2 h3 hd
    have A4 := c_Lowest hi lo den h1 h2 h3 hd
    have hpos := (low_pos (val hi lo) den (by omega))
    have A5 := fun (h l : Int) => c_Sound h l (lowD (val hi lo) den)
    rw [decide_eq_true (show lowD (val hi lo) den ≠ 0 by omega)] at A5
    exact makes_yes hi lo den _ _ _ _ _ n W hp (by simp; omega) (by simp; omega) A1 A2 A3 A4 (A5 _ _)
end Go.Proofs.YtffobfjjbcdbdaaDoor
