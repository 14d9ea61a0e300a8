/- RatioScales -/
import Derived.Test.YtffobfjjbcdbdaaDoorRd
namespace Go.Proofs.YtffobfjjbcdbdaaDoor
set_option linter.unusedVariables false
open Go.ChangeShapes Go.WideShapes Go.ChangeAt Go.RowKit

set_option maxHeartbeats 1000000 in
set_option maxRecDepth 100000 in
theorem scales_walk (lo den k dk xh xl qh ql qd : Nat) (s : ByteArray) (W : World) (hp : Lib.TabIs Tryd.prog W "internal/strconv.uint64pow10" .u64 Lib.pow10Tab)
    (d1 : ((den : Int) == 0) = false) (d2 : decide ((2147483648 : Int) < (den : Int)) = false) (d3 : decide (2147483648 < den) = false) (k1 : ((k : Int) == 0) = false) (k2 : decide ((2147483648 : Int) < (k : Int)) = false) (k3 : decide (2147483648 < k) = false)
    (w1 : IntKind.u64.wrap ((den : Int) * (k : Int)) = (dk : Int))
    (A1 : ∀ w, Calls Tryd.prog 29 #[.agg #[.int .u64 0, .int .u64 lo], .int .u64 den] w fun e w' => e = .returned (.tuple #[.agg #[.int .u64 qh, .int .u64 ql, .int .u64 qd], .nilIface]) ∧ Gr w w')
    (A2 : ∀ w, Calls Tryd.prog 17 #[.int .u64 lo, .int .u64 k] w fun e w' => e = .returned (.agg #[.int .u64 xh, .int .u64 xl]) ∧ Gr w w')
    (A3 : ∀ w, Calls Tryd.prog 29 #[.agg #[.int .u64 xh, .int .u64 xl], .int .u64 dk] w fun e w' => e = .returned (.tuple #[.agg #[.int .u64 qh, .int .u64 ql, .int .u64 qd], .nilIface]) ∧ Gr w w')
    (A4 : ∀ w, Calls Tryd.prog 37 #[.agg #[.int .u64 xh, .int .u64 xl, .int .u64 dk], .agg #[.int .u64 qh, .int .u64 ql, .int .u64 qd]] w fun e w' => e = .returned (.int .i64 0) ∧ Gr w w')
    (A5 : ∀ w, Gr W w → Calls Tryd.prog 38 #[.agg #[.int .u64 xh, .int .u64 xl, .int .u64 dk]] w fun e w' => e = .returned (.string s) ∧ Gr w w')
    (A6 : ∀ w, Gr W w → Calls Tryd.prog 38 #[.agg #[.int .u64 qh, .int .u64 ql, .int .u64 qd]] w fun e w' => e = .returned (.string s) ∧ Gr w w') :
    Calls Tryd.prog 9 #[.int .u64 lo, .int .u64 den, .int .u64 k] W fun e w' => e = .returned (.bool true) ∧ Gr W w' := by
  have H1 := Lib.hid A1
  have H2 := Lib.hid A2
  have H3 := Lib.hid A3
  have H4 := Lib.hid A4
  have H5 := Lib.hid A5
  have H6 := Lib.hid A6
  have AW : ∀ w, Gr W w → Calls Tryd.prog 33 #[] w fun e w' => e = .returned (.bool true) ∧ Gr w w' := fun w g => p2_awake w (tab_below hp g)
  have HAW := Lib.hid AW
  have EN : ∀ w, (binOp .eql 52 .nilIface .nilIface).run Tryd.prog w = .ok (.bool true) w := fun _ => rfl
  have ES : (s.toList == s.toList) = true := by simp
  clear A1 A2 A3 A4 A5 A6 AW hp
  go_enter Tryd.func9, Tryd.ntmps9
  go_wp2_with fail
  go_at_call 29
  refine ((H1.out _)).mono ?_
  rintro e w1 ⟨rfl, hw1⟩
  have gw1 : Gr W w1 := Gr.trans (by go_grown) hw1
  clear hw1
  go_wp2_with fail
  go_at_call 17
  refine ((H2.out _)).mono ?_
  rintro e w2 ⟨rfl, hw2⟩
  have cw2_0_0 : w2.cell? ⟨w1.heap.size, 0, none⟩ = some (.int .u64 qh) := cell_gr hw2 (by go_simp)
  have cw2_0_1 : w2.cell? ⟨w1.heap.size, 1, none⟩ = some (.int .u64 ql) := cell_gr hw2 (by go_simp)
  have cw2_0_2 : w2.cell? ⟨w1.heap.size, 2, none⟩ = some (.int .u64 qd) := cell_gr hw2 (by go_simp)
  have zw2_0 : w1.heap.size < w2.heap.size := World.block_lt_of_cell? _ _ cw2_0_0
  have gw2 : Gr W w2 := Gr.trans (by have gg := gw1; have gs := gg.size; go_grown) hw2
  clear hw2 gw1
  go_wp2_with fail
  go_at_call 29
  refine ((H3.out _)).mono ?_
  rintro e w3 ⟨rfl, hw3⟩
  have cw3_0_0 : w3.cell? ⟨w1.heap.size, 0, none⟩ = some (.int .u64 qh) := cell_gr hw3 (by go_simp)
  have cw3_0_1 : w3.cell? ⟨w1.heap.size, 1, none⟩ = some (.int .u64 ql) := cell_gr hw3 (by go_simp)
  have cw3_0_2 : w3.cell? ⟨w1.heap.size, 2, none⟩ = some (.int .u64 qd) := cell_gr hw3 (by go_simp)
  have zw3_0 : w1.heap.size < w3.heap.size := World.block_lt_of_cell? _ _ cw3_0_0
  have gw3 : Gr W w3 := Gr.trans (by have gg := gw2; have gs := gg.size; go_grown) hw3
  clear hw3 gw2 zw2_0 cw2_0_0 cw2_0_1 cw2_0_2
  go_wp2_with fail
  go_at_call 17
  refine ((H2.out _)).mono ?_
  rintro e w4 ⟨rfl, hw4⟩
  have cw4_0_0 : w4.cell? ⟨w1.heap.size, 0, none⟩ = some (.int .u64 qh) := cell_gr hw4 (by go_simp)
  have cw4_0_1 : w4.cell? ⟨w1.heap.size, 1, none⟩ = some (.int .u64 ql) := cell_gr hw4 (by go_simp)
  have cw4_0_2 : w4.cell? ⟨w1.heap.size, 2, none⟩ = some (.int .u64 qd) := cell_gr hw4 (by go_simp)
  have zw4_0 : w1.heap.size < w4.heap.size := World.block_lt_of_cell? _ _ cw4_0_0
  have cw4_1_0 : w4.cell? ⟨w3.heap.size, 0, none⟩ = some (.int .u64 qh) := cell_gr hw4 (by go_simp)
  have cw4_1_1 : w4.cell? ⟨w3.heap.size, 1, none⟩ = some (.int .u64 ql) := cell_gr hw4 (by go_simp)
  have cw4_1_2 : w4.cell? ⟨w3.heap.size, 2, none⟩ = some (.int .u64 qd) := cell_gr hw4 (by go_simp)
  have zw4_1 : w3.heap.size < w4.heap.size := World.block_lt_of_cell? _ _ cw4_1_0
  have gw4 : Gr W w4 := Gr.trans (by have gg := gw3; have gs := gg.size; go_grown) hw4
  clear hw4 gw3 zw3_0 cw3_0_0 cw3_0_1 cw3_0_2
  go_wp2_with fail
  generalize hh5 : (w4.alloc (.cells #[.int .u64 xh, .int .u64 xl] 24)).alloc (.cells #[.int .u64 xh, .int .u64 xl, .int .u64 dk] 50) = w5
  have hw5 : Gr w4 w5 := by subst hh5; go_grown
  have x0 : w5.cell? ⟨w4.heap.size + 1, 0, none⟩ = some (.int .u64 xh) := by subst hh5; go_simp
  have x1 : w5.cell? ⟨w4.heap.size + 1, 1, none⟩ = some (.int .u64 xl) := by subst hh5; go_simp
  have x2 : w5.cell? ⟨w4.heap.size + 1, 2, none⟩ = some (.int .u64 dk) := by subst hh5; go_simp
  have y0 := cell_gr hw5 cw4_0_0
  have y1 := cell_gr hw5 cw4_0_1
  have y2 := cell_gr hw5 cw4_0_2
  have v0 := cell_gr hw5 cw4_1_0
  have v1 := cell_gr hw5 cw4_1_1
  have v2 := cell_gr hw5 cw4_1_2
  have gw5 : Gr W w5 := Gr.trans gw4 hw5
  clear hh5 cw4_0_0 cw4_0_1 cw4_0_2 cw4_1_0 cw4_1_1 cw4_1_2
  refine wp_region_spread (by kernel_rfl) (by kernel_rfl) ?_
  repeat (first | go_big_quiet_skip | (go_big_quiet_want; go_big_quiet_op; (first | go_big_quiet_on | (apply Exists.intro; refine ⟨fun _ => ?_, ?_⟩; (· (first | (go_at_call 37; first | ((with_reducible refine ((H4.out _)).mono ?_); rintro e w' ⟨rfl, hg⟩; exact ⟨rfl, spread_gr hg⟩)) | (go_at_call 38; first | ((with_reducible refine ((H5.out _ (Gr.trans gw5 (gr_spread _ _)))).mono ?_); rintro e w' ⟨rfl, hg⟩; exact ⟨rfl, spread_gr hg⟩) | ((with_reducible refine ((H6.out _ (Gr.trans gw5 (gr_spread _ _)))).mono ?_); rintro e w' ⟨rfl, hg⟩; exact ⟨rfl, spread_gr hg⟩)) | (go_at_call 33; first | ((with_reducible refine ((HAW.out _ (Gr.trans gw5 (gr_spread _ _)))).mono ?_); rintro e w' ⟨rfl, hg⟩; exact ⟨rfl, spread_gr hg⟩)))); go_big_quiet_on))))
  refine wpQuiet_nil ?_
  intro wr hr
  obtain ⟨mr, rfl⟩ := hr
  go_wp2_with fail
  go_ret
  exact ⟨rfl, Gr.trans gw5 (gr_spread _ _)⟩
set_option maxHeartbeats 1000000 in
set_option maxRecDepth 100000 in
theorem scales_no (lo den k : Nat) (W : World) (hp : Lib.TabIs Tryd.prog W "internal/strconv.uint64pow10" .u64 Lib.pow10Tab)
    (hc : den = 0 ∨ ((((den : Int) == 0) = false ∧ decide ((2147483648 : Int) < (den : Int)) = true ∧ decide (2147483648 < den) = true)) ∨ (((den : Int) == 0) = false ∧ decide ((2147483648 : Int) < (den : Int)) = false ∧ decide (2147483648 < den) = false ∧ k = 0) ∨ (((den : Int) == 0) = false ∧ decide ((2147483648 : Int) < (den : Int)) = false ∧ decide (2147483648 < den) = false ∧ ((k : Int) == 0) = false ∧ decide ((2147483648 : Int) < (k : Int)) = true ∧ decide (2147483648 < k) = true)) :
    Calls Tryd.prog 9 #[.int .u64 lo, .int .u64 den, .int .u64 k] W fun e w' => e = .returned (.bool true) ∧ Gr W w' := by
  have AW : ∀ w, Gr W w → Calls Tryd.prog 33 #[] w fun e w' => e = .returned (.bool true) ∧ Gr w w' := fun w g => p2_awake w (tab_below hp g)
  have HAW := Lib.hid AW
  clear AW hp
  rcases hc with rfl | ⟨d1, d2, d3⟩ | ⟨d1, d2, d3, rfl⟩ | ⟨d1, d2, d3, k1, k2, k3⟩
  all_goals
    go_enter Tryd.func9, Tryd.ntmps9
    go_wp2_with fail
    go_at_call 33
    refine ((HAW.out _ (by go_grown))).mono ?_
    rintro e w1 ⟨rfl, hw1⟩
    have gw1 : Gr W w1 := Gr.trans (by go_grown) hw1
    clear hw1
    go_wp2_with fail
    go_ret
    exact ⟨rfl, gw1⟩

theorem low_scale (n d k : Nat) (hd : 0 < d) (hk : 0 < k) : lowN (n * k) (d * k) = lowN n d ∧ lowD (n * k) (d * k) = lowD n d := by
  unfold lowN lowD
  have e : Nat.gcd (d * k) (n * k % (d * k)) = Nat.gcd d (n % d) * k := by
    rw [Nat.mul_mod_mul_right, Nat.gcd_mul_right]
  rw [e]
  exact ⟨Nat.mul_div_mul_right _ _ hk, Nat.mul_div_mul_right _ _ hk⟩
theorem gcd_mod (d n : Nat) : Nat.gcd d (n % d) = Nat.gcd d n := by
  rw [Nat.gcd_comm, ← Nat.gcd_rec]
theorem low_parts (n d : Nat) (hd : 0 < d) : n = lowN n d * Nat.gcd d n ∧ d = lowD n d * Nat.gcd d n ∧ 0 < Nat.gcd d n ∧ 0 < lowD n d := by
  unfold lowN lowD
  rw [gcd_mod]
  have hg : 0 < Nat.gcd d n := Nat.gcd_pos_of_pos_left _ hd
  refine ⟨(Nat.div_mul_cancel (Nat.gcd_dvd_right d n)).symm, (Nat.div_mul_cancel (Nat.gcd_dvd_left d n)).symm, hg, ?_⟩
  exact Nat.div_pos (Nat.le_of_dvd hd (Nat.gcd_dvd_left d n)) hg
theorem low_low (n d : Nat) (hd : 0 < d) : lowN (lowN n d) (lowD n d) = lowN n d ∧ lowD (lowN n d) (lowD n d) = lowD n d := by
  obtain ⟨e1, e2, hg, hp⟩ := low_parts n d hd
  have hs := low_scale (lowN n d) (lowD n d) (Nat.gcd d n) hp hg
  rw [← e1, ← e2] at hs
  exact ⟨hs.1.symm, hs.2.symm⟩
theorem low_cross (n d : Nat) (hd : 0 < d) : n * lowD n d = lowN n d * d := by
  obtain ⟨e1, e2, hg, hp⟩ := low_parts n d hd
  generalize lowN n d = a at *
  generalize lowD n d = b at *
  generalize Nat.gcd d n = g at *
  subst e1 e2
  rw [Nat.mul_assoc, Nat.mul_comm g b]
theorem walk_RatioScales (lo den k : Nat) (h1 : Wd lo) (h2 : Wd den) (h3 : Wd k) (W : World) (hp : Lib.TabIs Tryd.prog W "internal/strconv.uint64pow10" .u64 Lib.pow10Tab) :
    Calls Tryd.prog 9 #[.int .u64 lo, .int .u64 den, .int .u64 k] W fun e w' => e = .returned (.bool true) ∧ Gr W w' := by
  by_cases hc : 0 < den ∧ den ≤ 2147483648 ∧ 0 < k ∧ k ≤ 2147483648
  · obtain ⟨d1, d2, k1, k2⟩ := hc
    have hdk : den * k ≤ 2147483648 * 2147483648 := Nat.mul_le_mul d2 k2
    have hdk0 : 0 < den * k := Nat.mul_pos d1 k1
    have hn : lo * k ≤ 18446744073709551615 * 2147483648 := Nat.mul_le_mul (by unfold Wd at h1; omega) k2
    obtain ⟨v1, x1, x2⟩ := val_split (lo * k) (by omega)
    have A1 := c_Make 0 lo den (by unfold Wd; omega) h1 h2 (by omega)
    have A2 := c_Mul lo k h1 h3
    have A3 := c_Make _ _ (den * k) x1 x2 (by unfold Wd; omega) (by omega)
    rw [val_zero] at A1
    rw [v1, (low_scale lo den k d1 k1).1, (low_scale lo den k d1 k1).2] at A3
    have hN : lowN lo den ≤ lo := Nat.div_le_self _ _
    have hD : lowD lo den ≤ den := Nat.div_le_self _ _
    have hp1 := (low_parts lo den d1).2.2.2
    have lc := low_cross (lo * k) (den * k) hdk0
    rw [(low_scale lo den k d1 k1).1, (low_scale lo den k d1 k1).2] at lc
    have ll := low_low lo den d1
    have t1 : txt (lo * k) (den * k) = txt lo den := by
      unfold txt
      rw [(low_scale lo den k d1 k1).1, (low_scale lo den k d1 k1).2]
    have t2 : txt (lowN lo den) (lowD lo den) = txt lo den := by
      unfold txt
      rw [ll.1, ll.2]
    obtain ⟨v2, y1, y2⟩ := val_split (lowN lo den) (by unfold Wd at h1; omega)
    have wD : Wd (lowD lo den) := by unfold Wd; omega
    have A4 := c_rtCompare _ _ (den * k) _ _ (lowD lo den) x1 x2 (by unfold Wd; omega) y1 y2 wD
    rw [v1, v2] at A4
    have e4 : cmpD (lo * k) (den * k) (lowN lo den) (lowD lo den) = 0 := by
      unfold cmpD
      rw [if_neg (by omega), if_neg (by omega), cmpN_z]
      exact lc
    rw [e4] at A4
    have A5 : ∀ w, Gr W w → Calls Tryd.prog 38 #[.agg #[.int .u64 ((lo * k / 18446744073709551616 : Nat) : Int), .int .u64 ((lo * k % 18446744073709551616 : Nat) : Int), .int .u64 ((den * k : Nat) : Int)]] w fun e w' => e = .returned (.string ⟨(txt lo den).toArray⟩) ∧ Gr w w' := fun w g => by
      have := c_rtText _ _ (den * k) x1 x2 (by unfold Wd; omega) (by omega) w (tab_below hp g)
      rw [v1, t1] at this
      exact this
    have A6 : ∀ w, Gr W w → Calls Tryd.prog 38 #[.agg #[.int .u64 ((lowN lo den / 18446744073709551616 : Nat) : Int), .int .u64 ((lowN lo den % 18446744073709551616 : Nat) : Int), .int .u64 ((lowD lo den : Nat) : Int)]] w fun e w' => e = .returned (.string ⟨(txt lo den).toArray⟩) ∧ Gr w w' := fun w g => by
      have := c_rtText _ _ (lowD lo den) y1 y2 wD (by omega) w (tab_below hp g)
      rw [v2, t2] at this
      exact this
    exact scales_walk lo den k (den * k) _ _ _ _ _ _ W hp (by simp; omega) (decide_eq_false (by omega)) (decide_eq_false (by omega)) (by simp; omega) (decide_eq_false (by omega)) (decide_eq_false (by omega))
      (by rw [← Int.natCast_mul]; exact IntWalk.u64_in _ (by omega)) A1 A2 A3 A4 A5 A6
  · refine scales_no lo den k W hp ?_
    simp only [decide_eq_true_eq, decide_eq_false_iff_not, beq_eq_false_iff_ne, ne_eq]
    omega
end Go.Proofs.YtffobfjjbcdbdaaDoor
