/- the document's own Lowest -/
import Derived.Test.YthjhhnolkiejpaaDoorRo
import Derived.Test.YthjhhnolkiejpaaDoorRa
namespace Go.Proofs.YthjhhnolkiejpaaDoor
set_option linter.unusedVariables false
open Go.ChangeShapes Go.WideShapes Go.ChangeAt Go.RowKit

theorem c_rgcd (a b : Nat) (ha : Wd a) (hb : Wd b) (w : World) :
    Calls Tryd.prog 82 #[.int .u64 a, .int .u64 b] w fun e w' => e = .returned (.int .u64 (Nat.gcd a b : Nat)) ∧ Gr w w' := by
  go_enter Tryd.func82, Tryd.ntmps82
  go_wp2_with fail
  go_loopg [0, 1] b (fun k v0 v1 wr => ∃ x y : Nat, Wd x ∧ Wd y ∧ y ≤ k ∧ v0 = .int .u64 x ∧ v1 = .int .u64 y ∧ Nat.gcd x y = Nat.gcd a b ∧ Gr w wr)
  case atStart => exact ⟨a, b, ha, hb, Nat.le_refl _, rfl, rfl, rfl, Gr.of_eq rfl⟩
  case round =>
    obtain ⟨x, y, hx, hy, hk, rfl, rfl, hgcd, hg⟩ := hrel
    by_cases h0 : y = 0
    · subst h0
      rw [Nat.gcd_zero_right] at hgcd
      have HG := Lib.hid hgcd
      clear hgcd
      go_wp2_with fail
      go_ret
      exact ⟨by rw [← HG.out]; rfl, hg⟩
    · have e : decide ((0 : Int) < (y : Int)) = true := decide_eq_true (by omega)
      have e2 : decide (0 < y) = true := decide_eq_true (by omega)
      have e3 : ¬ (y : Int) = 0 := by omega
      have hgc : Nat.gcd y (x % y) = Nat.gcd a b := by rw [← hgcd, Nat.gcd_comm, ← Nat.gcd_rec, Nat.gcd_comm]
      have hlt : x % y < y := Nat.mod_lt _ (by omega)
      obtain ⟨z, hz⟩ : ∃ z, z = x % y := ⟨_, rfl⟩
      rw [← hz] at hgc hlt
      have t1 : (x : Int).tmod (y : Int) = (z : Int) := by rw [hz]; rfl
      have t2 : IntKind.u64.wrap (z : Int) = (z : Int) := IntWalk.u64_in _ (by unfold Wd at hy; omega)
      have HG := Lib.hid hgc
      clear hgcd hgc hz
      go_wp2_with fail
      refine wp_region_spread (by kernel_rfl) (by kernel_rfl) ?_
      try simp only [List.append]
      repeat (first | go_big_quiet_skip | (go_big_quiet_want; go_big_quiet_op; (first | go_big_quiet_on | (apply Exists.intro; refine ⟨fun _ => ?_, ?_⟩; (· fail); go_big_quiet_on))))
      refine wpQuiet_nil ?_
      intro wr hr
      obtain ⟨mr, rfl⟩ := hr
      go_wp2_with fail
      go_roundg z
      case measure => omega
      case rel => exact ⟨y, z, hy, by unfold Wd at *; omega, Nat.le_refl _, rfl, rfl, HG.out, Gr.trans hg (gr_spread _ _)⟩
set_option maxHeartbeats 1000000 in
set_option maxRecDepth 100000 in
theorem lowest_core (h l d qh ql g qd q2h q2l r r2 : Nat) (W : World) (g1 : ((g : Int) == 0) = false) (g3 : ¬ (g : Int) = 0)
    (t1 : (d : Int).tdiv (g : Int) = (qd : Int)) (t2 : IntKind.u64.wrap (qd : Int) = (qd : Int))
    (A1 : ∀ w, Calls Tryd.prog 54 #[.agg #[.int .u64 h, .int .u64 l], .int .u64 d] w fun e w' => e = .returned (.tuple #[.agg #[.int .u64 q2h, .int .u64 q2l], .int .u64 r]) ∧ Gr w w')
    (A2 : ∀ w, Calls Tryd.prog 82 #[.int .u64 d, .int .u64 r] w fun e w' => e = .returned (.int .u64 g) ∧ Gr w w')
    (A3 : ∀ w, Calls Tryd.prog 54 #[.agg #[.int .u64 h, .int .u64 l], .int .u64 g] w fun e w' => e = .returned (.tuple #[.agg #[.int .u64 qh, .int .u64 ql], .int .u64 r2]) ∧ Gr w w') :
    Calls Tryd.prog 59 #[.agg #[.int .u64 h, .int .u64 l], .int .u64 d] W fun e w' => e = .returned (.agg #[.int .u64 qh, .int .u64 ql, .int .u64 qd]) ∧ Gr W w' := by
  have H1 := Lib.hid A1
  have H2 := Lib.hid A2
  have H3 := Lib.hid A3
  clear A1 A2 A3
  go_enter Tryd.func59, Tryd.ntmps59
  go_wp2_with fail
  go_at_call 54
  refine ((H1.out _)).mono ?_
  rintro e w1 ⟨rfl, hw1⟩
  have cw1_0_0 : w1.cell? ⟨W.heap.size, 0, none⟩ = some (.int .u64 h) := cell_gr hw1 (by go_simp)
  have cw1_0_1 : w1.cell? ⟨W.heap.size, 1, none⟩ = some (.int .u64 l) := cell_gr hw1 (by go_simp)
  have zw1_0 : W.heap.size < w1.heap.size := World.block_lt_of_cell? _ _ cw1_0_0
  have cw1_1_0 : w1.cell? ⟨W.heap.size + 1, 0, none⟩ = some (.int .u64 0) := cell_gr hw1 (by go_simp)
  have fw1_1_0 : w1.frozen? ⟨W.heap.size + 1, 0, none⟩ = false := frozen_gr (v := .int .u64 0) hw1 (by go_simp) (by go_simp)
  have cw1_1_1 : w1.cell? ⟨W.heap.size + 1, 1, none⟩ = some (.int .u64 0) := cell_gr hw1 (by go_simp)
  have fw1_1_1 : w1.frozen? ⟨W.heap.size + 1, 1, none⟩ = false := frozen_gr (v := .int .u64 0) hw1 (by go_simp) (by go_simp)
  have cw1_1_2 : w1.cell? ⟨W.heap.size + 1, 2, none⟩ = some (.int .u64 0) := cell_gr hw1 (by go_simp)
  have fw1_1_2 : w1.frozen? ⟨W.heap.size + 1, 2, none⟩ = false := frozen_gr (v := .int .u64 0) hw1 (by go_simp) (by go_simp)
  have zw1_1 : W.heap.size + 1 < w1.heap.size := World.block_lt_of_cell? _ _ cw1_1_0
  have gw1 : Gr W w1 := Gr.trans (by go_grown) hw1
  clear hw1
  go_wp2_with fail
  go_at_call 82
  refine ((H2.out _)).mono ?_
  rintro e w2 ⟨rfl, hw2⟩
  have cw2_0_0 : w2.cell? ⟨W.heap.size, 0, none⟩ = some (.int .u64 h) := cell_gr hw2 (by go_simp)
  have cw2_0_1 : w2.cell? ⟨W.heap.size, 1, none⟩ = some (.int .u64 l) := cell_gr hw2 (by go_simp)
  have zw2_0 : W.heap.size < w2.heap.size := World.block_lt_of_cell? _ _ cw2_0_0
  have cw2_1_0 : w2.cell? ⟨W.heap.size + 1, 0, none⟩ = some (.int .u64 0) := cell_gr hw2 (by go_simp)
  have fw2_1_0 : w2.frozen? ⟨W.heap.size + 1, 0, none⟩ = false := frozen_gr (v := .int .u64 0) hw2 (by go_simp) (by go_simp)
  have cw2_1_1 : w2.cell? ⟨W.heap.size + 1, 1, none⟩ = some (.int .u64 0) := cell_gr hw2 (by go_simp)
  have fw2_1_1 : w2.frozen? ⟨W.heap.size + 1, 1, none⟩ = false := frozen_gr (v := .int .u64 0) hw2 (by go_simp) (by go_simp)
  have cw2_1_2 : w2.cell? ⟨W.heap.size + 1, 2, none⟩ = some (.int .u64 0) := cell_gr hw2 (by go_simp)
  have fw2_1_2 : w2.frozen? ⟨W.heap.size + 1, 2, none⟩ = false := frozen_gr (v := .int .u64 0) hw2 (by go_simp) (by go_simp)
  have zw2_1 : W.heap.size + 1 < w2.heap.size := World.block_lt_of_cell? _ _ cw2_1_0
  have gw2 : Gr W w2 := Gr.trans (by have gg := gw1; have gs := gg.size; go_grown) hw2
  clear hw2 gw1 zw1_0 cw1_0_0 cw1_0_1 zw1_1 cw1_1_0 fw1_1_0 cw1_1_1 fw1_1_1 cw1_1_2 fw1_1_2
  go_wp2_with fail
  go_at_call 54
  refine ((H3.out _)).mono ?_
  rintro e w3 ⟨rfl, hw3⟩
  have cw3_0_0 : w3.cell? ⟨W.heap.size, 0, none⟩ = some (.int .u64 h) := cell_gr hw3 (by go_simp)
  have cw3_0_1 : w3.cell? ⟨W.heap.size, 1, none⟩ = some (.int .u64 l) := cell_gr hw3 (by go_simp)
  have zw3_0 : W.heap.size < w3.heap.size := World.block_lt_of_cell? _ _ cw3_0_0
  have cw3_1_0 : w3.cell? ⟨W.heap.size + 1, 0, none⟩ = some (.int .u64 0) := cell_gr hw3 (by go_simp)
  have fw3_1_0 : w3.frozen? ⟨W.heap.size + 1, 0, none⟩ = false := frozen_gr (v := .int .u64 0) hw3 (by go_simp) (by go_simp)
  have cw3_1_1 : w3.cell? ⟨W.heap.size + 1, 1, none⟩ = some (.int .u64 0) := cell_gr hw3 (by go_simp)
  have fw3_1_1 : w3.frozen? ⟨W.heap.size + 1, 1, none⟩ = false := frozen_gr (v := .int .u64 0) hw3 (by go_simp) (by go_simp)
  have cw3_1_2 : w3.cell? ⟨W.heap.size + 1, 2, none⟩ = some (.int .u64 0) := cell_gr hw3 (by go_simp)
  have fw3_1_2 : w3.frozen? ⟨W.heap.size + 1, 2, none⟩ = false := frozen_gr (v := .int .u64 0) hw3 (by go_simp) (by go_simp)
  have zw3_1 : W.heap.size + 1 < w3.heap.size := World.block_lt_of_cell? _ _ cw3_1_0
  have gw3 : Gr W w3 := Gr.trans (by have gg := gw2; have gs := gg.size; go_grown) hw3
  clear hw3 gw2 zw2_0 cw2_0_0 cw2_0_1 zw2_1 cw2_1_0 fw2_1_0 cw2_1_1 fw2_1_1 cw2_1_2 fw2_1_2
  go_wp2_with fail
  generalize hhw4 : (w3.alloc (.cells #[.int .u64 qh, .int .u64 ql] 28)) = w4
  have cw4_0_0 : w4.cell? ⟨W.heap.size, 0, none⟩ = some (.int .u64 h) := by subst hhw4; go_simp
  have cw4_0_1 : w4.cell? ⟨W.heap.size, 1, none⟩ = some (.int .u64 l) := by subst hhw4; go_simp
  have zw4_0 : W.heap.size < w4.heap.size := World.block_lt_of_cell? _ _ cw4_0_0
  have cw4_1_0 : w4.cell? ⟨W.heap.size + 1, 0, none⟩ = some (.int .u64 0) := by subst hhw4; go_simp
  have fw4_1_0 : w4.frozen? ⟨W.heap.size + 1, 0, none⟩ = false := by subst hhw4; go_simp
  have cw4_1_1 : w4.cell? ⟨W.heap.size + 1, 1, none⟩ = some (.int .u64 0) := by subst hhw4; go_simp
  have fw4_1_1 : w4.frozen? ⟨W.heap.size + 1, 1, none⟩ = false := by subst hhw4; go_simp
  have cw4_1_2 : w4.cell? ⟨W.heap.size + 1, 2, none⟩ = some (.int .u64 0) := by subst hhw4; go_simp
  have fw4_1_2 : w4.frozen? ⟨W.heap.size + 1, 2, none⟩ = false := by subst hhw4; go_simp
  have zw4_1 : W.heap.size + 1 < w4.heap.size := World.block_lt_of_cell? _ _ cw4_1_0
  have cw4_2_0 : w4.cell? ⟨w3.heap.size, 0, none⟩ = some (.int .u64 qh) := by subst hhw4; go_simp
  have cw4_2_1 : w4.cell? ⟨w3.heap.size, 1, none⟩ = some (.int .u64 ql) := by subst hhw4; go_simp
  have zw4_2 : w3.heap.size < w4.heap.size := World.block_lt_of_cell? _ _ cw4_2_0
  have gw4 : Gr W w4 := by subst hhw4; have gg := gw3; have gs := gg.size; go_grown
  clear hhw4 gw3 zw3_0 cw3_0_0 cw3_0_1 zw3_1 cw3_1_0 fw3_1_0 cw3_1_1 fw3_1_1 cw3_1_2 fw3_1_2
  go_wp2_with fail
  refine Hd.wp_region_tail 8 (by kernel_rfl) (by kernel_rfl) ?_
  intro KQ hKQ
  repeat (first | (refine Hd.wpG_skip (by decide) rfl ?_; simp only [Act.put, List.setIfInBounds_toArray, List.set_cons_zero, List.set_cons_succ]) | (refine Hd.wpG_want (by decide) rfl ?_; apply Exists.intro; refine ⟨?_, ?_⟩; (· intro wx gx; (obtain ⟨mx, rfl⟩ := gx); all_goals (apply Hd.gAt_of_quiet; intro K hK; go_big_quiet_op; first | exact hK _ rfl | (apply Exists.intro; refine ⟨fun _ => ?_, ?_⟩; (· fail); exact hK _ rfl))); try simp only [Act.put, List.setIfInBounds_toArray, List.set_cons_zero, List.set_cons_succ]))
  refine Hd.wpG_nil (hKQ _ ?_)
  clear hKQ KQ
  intro w5 hhw5
  have hw5 := Hd.gr_of_spread hhw5
  have cw5_0_0 : w5.cell? ⟨W.heap.size, 0, none⟩ = some (.int .u64 h) := cell_gr hw5 (by go_simp)
  have cw5_0_1 : w5.cell? ⟨W.heap.size, 1, none⟩ = some (.int .u64 l) := cell_gr hw5 (by go_simp)
  have zw5_0 : W.heap.size < w5.heap.size := World.block_lt_of_cell? _ _ cw5_0_0
  have cw5_1_0 : w5.cell? ⟨W.heap.size + 1, 0, none⟩ = some (.int .u64 0) := cell_gr hw5 (by go_simp)
  have fw5_1_0 : w5.frozen? ⟨W.heap.size + 1, 0, none⟩ = false := frozen_gr (v := .int .u64 0) hw5 (by go_simp) (by go_simp)
  have cw5_1_1 : w5.cell? ⟨W.heap.size + 1, 1, none⟩ = some (.int .u64 0) := cell_gr hw5 (by go_simp)
  have fw5_1_1 : w5.frozen? ⟨W.heap.size + 1, 1, none⟩ = false := frozen_gr (v := .int .u64 0) hw5 (by go_simp) (by go_simp)
  have cw5_1_2 : w5.cell? ⟨W.heap.size + 1, 2, none⟩ = some (.int .u64 0) := cell_gr hw5 (by go_simp)
  have fw5_1_2 : w5.frozen? ⟨W.heap.size + 1, 2, none⟩ = false := frozen_gr (v := .int .u64 0) hw5 (by go_simp) (by go_simp)
  have zw5_1 : W.heap.size + 1 < w5.heap.size := World.block_lt_of_cell? _ _ cw5_1_0
  have cw5_2_0 : w5.cell? ⟨w3.heap.size, 0, none⟩ = some (.int .u64 qh) := cell_gr hw5 (by go_simp)
  have cw5_2_1 : w5.cell? ⟨w3.heap.size, 1, none⟩ = some (.int .u64 ql) := cell_gr hw5 (by go_simp)
  have zw5_2 : w3.heap.size < w5.heap.size := World.block_lt_of_cell? _ _ cw5_2_0
  have gw5 : Gr W w5 := Gr.trans (by have gg := gw4; have gs := gg.size; go_grown) hw5
  clear hw5 hhw5 gw4 zw4_0 cw4_0_0 cw4_0_1 zw4_1 cw4_1_0 fw4_1_0 cw4_1_1 fw4_1_1 cw4_1_2 fw4_1_2 zw4_2 cw4_2_0 cw4_2_1
  go_wp2_with fail
  refine bodyPost_ret (v := .agg #[.int .u64 qh, .int .u64 ql, .int .u64 qd]) (by simp [results, Tryd.results59, go_sem, *]) rfl ⟨rfl, by have gg := gw5; have gs := gg.size; go_grown⟩
theorem c_Lowest (h l d : Nat) (h1 : Wd h) (h2 : Wd l) (h3 : Wd d) (hd : d ≠ 0) (w : World) :
    Calls Tryd.prog 59 #[.agg #[.int .u64 h, .int .u64 l], .int .u64 d] w fun e w' => e = .returned (.agg #[.int .u64 ((lowN (val h l) d / 18446744073709551616 : Nat) : Int), .int .u64 ((lowN (val h l) d % 18446744073709551616 : Nat) : Int), .int .u64 ((lowD (val h l) d : Nat) : Int)]) ∧ Gr w w' := by
  have hr : val h l % d < d := Nat.mod_lt _ (by omega)
  have hrw : Wd (val h l % d) := by unfold Wd at *; omega
  have A1 := c_rDiv h l d h1 h2 h3 (by omega)
  have A2 := c_rgcd d (val h l % d) h3 hrw
  have hgl : Nat.gcd d (val h l % d) ≤ d := Nat.le_of_dvd (by omega) (Nat.gcd_dvd_left _ _)
  have hgp : 0 < Nat.gcd d (val h l % d) := Nat.gcd_pos_of_pos_left _ (by omega)
  unfold lowN lowD
  generalize Nat.gcd d (val h l % d) = g at *
  have A3 := c_rDiv h l g h1 h2 (by unfold Wd at *; omega) hgp
  have hq : d / g ≤ d := Nat.div_le_self _ _
  exact lowest_core h l d _ _ g (d / g) _ _ _ _ w (by simp; omega) (by omega) rfl (IntWalk.u64_in _ ⟨Int.natCast_nonneg _, by unfold Wd at *; omega⟩) A1 A2 A3
end Go.Proofs.YthjhhnolkiejpaaDoor
