/- ratio: what its functions answer -/
import Derived.Test.YthjhhnolkiejpaaDoorQ
import Derived.Test.YthjhhnolkiejpaaDoorO
import Derived.Test.YthjhhnolkiejpaaDoorJ
import Derived.Test.YthjhhnolkiejpaaDoorS
namespace Go.Proofs.YthjhhnolkiejpaaDoor
set_option linter.unusedVariables false
open Go.ChangeShapes Go.WideShapes Go.ChangeAt Go.RowKit

theorem c_divisor (a b : Nat) (ha : Wd a) (hb : Wd b) (w : World) :
    Calls Tryd.prog 78 #[.int .u64 a, .int .u64 b] w fun e w' => e = .returned (.int .u64 (Nat.gcd a b : Nat)) ∧ Gr w w' := by
  go_enter Tryd.func78, Tryd.ntmps78
  go_wp2_with fail
  go_loopg [0, 1] b (fun k v0 v1 wr => ∃ x y : Nat, Wd x ∧ Wd y ∧ y ≤ k ∧ v0 = .int .u64 x ∧ v1 = .int .u64 y ∧ Nat.gcd x y = Nat.gcd a b ∧ Gr w wr)
  case atStart => exact ⟨a, b, ha, hb, Nat.le_refl _, rfl, rfl, rfl, Gr.of_eq rfl⟩
  case round =>
    obtain ⟨x, y, hx, hy, hk, rfl, rfl, hgcd, hg⟩ := hrel
    by_cases h0 : y = 0
    · subst h0
      rw [Nat.gcd_zero_right] at hgcd
      have HG := Lib.hid hgcd
      clear hgcd
      go_wp2_with fail
      go_ret
      exact ⟨by rw [← HG.out]; rfl, hg⟩
    · have e : ((y : Int) == 0) = false := by simp; omega
      have e2 : ((y : Int) != 0) = true := by simp; omega
      have e3 : ¬ (y : Int) = 0 := by omega
      have hgc : Nat.gcd y (x % y) = Nat.gcd a b := by rw [← hgcd, Nat.gcd_comm, ← Nat.gcd_rec, Nat.gcd_comm]
      have hlt : x % y < y := Nat.mod_lt _ (by omega)
      obtain ⟨z, hz⟩ : ∃ z, z = x % y := ⟨_, rfl⟩
      rw [← hz] at hgc hlt
      have t1 : (x : Int).tmod (y : Int) = (z : Int) := by rw [hz]; rfl
      have t2 : IntKind.u64.wrap (z : Int) = (z : Int) := IntWalk.u64_in _ (by unfold Wd at hy; omega)
      have HG := Lib.hid hgc
      clear hgcd hgc hz
      go_wp2_with fail
      refine wp_region_spread (by kernel_rfl) (by kernel_rfl) ?_
      try simp only [List.append]
      repeat (first | go_big_quiet_skip | (go_big_quiet_want; go_big_quiet_op; (first | go_big_quiet_on | (apply Exists.intro; refine ⟨fun _ => ?_, ?_⟩; (· fail); go_big_quiet_on))))
      refine wpQuiet_nil ?_
      intro wr hr
      obtain ⟨mr, rfl⟩ := hr
      go_wp2_with fail
      go_roundg z
      case measure => omega
      case rel => exact ⟨y, z, hy, by unfold Wd at *; omega, Nat.le_refl _, rfl, rfl, HG.out, Gr.trans hg (gr_spread _ _)⟩
theorem c_over (h l d : Int) (w : World) : Calls Tryd.prog 79 #[.agg #[.int .u64 h, .int .u64 l], .int .u64 d] w fun e w' => e = .returned (.agg #[.int .u64 h, .int .u64 l, .int .u64 d]) ∧ Gr w w' := by
  go_enter Tryd.func79, Tryd.ntmps79
  go_wp2
  go_returns
  exact ⟨rfl, by go_grown⟩
theorem c_numerator (h l d : Int) (w : World) : Calls Tryd.prog 57 #[.agg #[.int .u64 h, .int .u64 l, .int .u64 d]] w fun e w' => e = .returned (.agg #[.int .u64 h, .int .u64 l]) ∧ Gr w w' := by
  go_enter Tryd.func57, Tryd.ntmps57
  go_wp2
  go_returns
  exact ⟨rfl, by go_grown⟩
theorem c_Sound (h l : Int) (d : Nat) (w : World) : Calls Tryd.prog 33 #[.agg #[.int .u64 h, .int .u64 l, .int .u64 d]] w fun e w' => e = .returned (.bool (decide (d ≠ 0))) ∧ Gr w w' := by
  by_cases hd : d = 0
  · subst hd
    go_enter Tryd.func33, Tryd.ntmps33
    go_wp2
    go_ret
    exact ⟨rfl, by go_grown⟩
  · have e : ((d : Int) == 0) = false := by simp; omega
    have e2 : ((d : Int) != 0) = true := by simp; omega
    rw [decide_eq_true hd]
    go_enter Tryd.func33, Tryd.ntmps33
    go_wp2
    go_ret
    exact ⟨by first | rfl | simp [e2], by go_grown⟩
theorem c_Or (a b : Int) (W : World) : ∀ B w, B < w.heap.size → w.cell? ⟨B, 0, none⟩ = some (.int .i64 a) → w.cell? ⟨B, 1, none⟩ = some (.int .i64 b) →
    Calls Tryd.prog 60 #[.slice (some ⟨B, 0, none⟩) 2 2] w fun e w' => e = .returned (.int .i64 (if a = 0 then b else a)) ∧ Gr w w' := by
  intro B w hB k0 k1
  go_enter Tryd.func60, Tryd.ntmps60
  go_wp2_with fail
  go_loopg [8] 2 (fun k v wr => ∃ i : Nat, i + k = 2 ∧ v = .int .i64 i ∧ (1 ≤ i → a = 0) ∧ (2 ≤ i → b = 0) ∧ Gr w wr)
  case atStart => exact ⟨0, by omega, rfl, by omega, by omega, Gr.of_eq rfl⟩
  case round =>
    obtain ⟨i, hk, rfl, p1, p2, hg⟩ := hrel
    rcases (by omega : i = 0 ∨ i = 1 ∨ i = 2) with rfl | rfl | rfl
    · have c0 := cell_gr hg k0
      by_cases ha : a = 0
      · subst ha
        go_wp2_with fail
        go_roundg 1
        case measure => omega
        case rel => exact ⟨1, by omega, rfl, by simp, by simp, hg⟩
      · have e : (a == 0) = false := by simpa using ha
        have e2 : (a != 0) = true := by simpa using ha
        go_wp2_with fail
        go_ret
        exact ⟨rfl, hg⟩
    · have c0 := cell_gr hg k1
      obtain rfl := p1 (by omega)
      by_cases hb : b = 0
      · subst hb
        go_wp2_with fail
        go_roundg 0
        case measure => omega
        case rel => exact ⟨2, by omega, rfl, by simp, by simp, hg⟩
      · have e : (b == 0) = false := by simpa using hb
        have e2 : (b != 0) = true := by simpa using hb
        go_wp2_with fail
        go_ret
        exact ⟨rfl, hg⟩
    · obtain rfl := p1 (by omega)
      obtain rfl := p2 (by omega)
      go_wp2_with fail
      go_ret
      exact ⟨by simp, hg⟩

/-- The two words of a number. -/
theorem val_split (n : Nat) (h : n < 340282366920938463463374607431768211456) : val (n / 18446744073709551616) (n % 18446744073709551616) = n ∧ Wd (n / 18446744073709551616) ∧ Wd (n % 18446744073709551616) := by
  unfold val Wd; omega
set_option maxHeartbeats 1000000 in
set_option maxRecDepth 100000 in
theorem make_core (h l d qh ql g qd q2h q2l r r2 : Nat) (W : World) (e1 : ((d : Int) == 0) = false) (e2 : ((d : Int) != 0) = true) (e3 : ¬ (d : Int) = 0) (g1 : ((g : Int) == 0) = false) (g3 : ¬ (g : Int) = 0)
    (t1 : (d : Int).tdiv (g : Int) = (qd : Int)) (t2 : IntKind.u64.wrap (qd : Int) = (qd : Int))
    (A1 : ∀ w, Calls Tryd.prog 51 #[.agg #[.int .u64 h, .int .u64 l], .int .u64 d] w fun e w' => e = .returned (.tuple #[.agg #[.int .u64 q2h, .int .u64 q2l], .int .u64 r]) ∧ Gr w w')
    (A2 : ∀ w, Calls Tryd.prog 78 #[.int .u64 d, .int .u64 r] w fun e w' => e = .returned (.int .u64 g) ∧ Gr w w')
    (A3 : ∀ w, Calls Tryd.prog 51 #[.agg #[.int .u64 h, .int .u64 l], .int .u64 g] w fun e w' => e = .returned (.tuple #[.agg #[.int .u64 qh, .int .u64 ql], .int .u64 r2]) ∧ Gr w w') :
    Calls Tryd.prog 55 #[.agg #[.int .u64 h, .int .u64 l], .int .u64 d] W fun e w' => e = .returned (.tuple #[.agg #[.int .u64 qh, .int .u64 ql, .int .u64 qd], .nilIface]) ∧ Gr W w' := by
  have H1 := Lib.hid A1
  have H2 := Lib.hid A2
  have H3 := Lib.hid A3
  clear A1 A2 A3
  go_enter Tryd.func55, Tryd.ntmps55
  go_wp2_with fail
  go_at_call 51
  refine ((H1.out _)).mono ?_
  rintro e w1 ⟨rfl, hw1⟩
  have cw1_0_0 : w1.cell? ⟨W.heap.size, 0, none⟩ = some (.int .u64 h) := cell_gr hw1 (by go_simp)
  have fw1_0_0 : w1.frozen? ⟨W.heap.size, 0, none⟩ = false := frozen_gr (v := .int .u64 h) hw1 (by go_simp) (by go_simp)
  have cw1_0_1 : w1.cell? ⟨W.heap.size, 1, none⟩ = some (.int .u64 l) := cell_gr hw1 (by go_simp)
  have fw1_0_1 : w1.frozen? ⟨W.heap.size, 1, none⟩ = false := frozen_gr (v := .int .u64 l) hw1 (by go_simp) (by go_simp)
  have zw1_0 : W.heap.size < w1.heap.size := World.block_lt_of_cell? _ _ cw1_0_0
  have cw1_1_0 : w1.cell? ⟨W.heap.size + 1, 0, none⟩ = some (.int .u64 0) := cell_gr hw1 (by go_simp)
  have fw1_1_0 : w1.frozen? ⟨W.heap.size + 1, 0, none⟩ = false := frozen_gr (v := .int .u64 0) hw1 (by go_simp) (by go_simp)
  have cw1_1_1 : w1.cell? ⟨W.heap.size + 1, 1, none⟩ = some (.int .u64 0) := cell_gr hw1 (by go_simp)
  have fw1_1_1 : w1.frozen? ⟨W.heap.size + 1, 1, none⟩ = false := frozen_gr (v := .int .u64 0) hw1 (by go_simp) (by go_simp)
  have cw1_1_2 : w1.cell? ⟨W.heap.size + 1, 2, none⟩ = some (.int .u64 0) := cell_gr hw1 (by go_simp)
  have fw1_1_2 : w1.frozen? ⟨W.heap.size + 1, 2, none⟩ = false := frozen_gr (v := .int .u64 0) hw1 (by go_simp) (by go_simp)
  have zw1_1 : W.heap.size + 1 < w1.heap.size := World.block_lt_of_cell? _ _ cw1_1_0
  have gw1 : Gr W w1 := Gr.trans (by go_grown) hw1
  clear hw1
  go_wp2_with fail
  go_at_call 78
  refine ((H2.out _)).mono ?_
  rintro e w2 ⟨rfl, hw2⟩
  have cw2_0_0 : w2.cell? ⟨W.heap.size, 0, none⟩ = some (.int .u64 h) := cell_gr hw2 (by go_simp)
  have fw2_0_0 : w2.frozen? ⟨W.heap.size, 0, none⟩ = false := frozen_gr (v := .int .u64 h) hw2 (by go_simp) (by go_simp)
  have cw2_0_1 : w2.cell? ⟨W.heap.size, 1, none⟩ = some (.int .u64 l) := cell_gr hw2 (by go_simp)
  have fw2_0_1 : w2.frozen? ⟨W.heap.size, 1, none⟩ = false := frozen_gr (v := .int .u64 l) hw2 (by go_simp) (by go_simp)
  have zw2_0 : W.heap.size < w2.heap.size := World.block_lt_of_cell? _ _ cw2_0_0
  have cw2_1_0 : w2.cell? ⟨W.heap.size + 1, 0, none⟩ = some (.int .u64 0) := cell_gr hw2 (by go_simp)
  have fw2_1_0 : w2.frozen? ⟨W.heap.size + 1, 0, none⟩ = false := frozen_gr (v := .int .u64 0) hw2 (by go_simp) (by go_simp)
  have cw2_1_1 : w2.cell? ⟨W.heap.size + 1, 1, none⟩ = some (.int .u64 0) := cell_gr hw2 (by go_simp)
  have fw2_1_1 : w2.frozen? ⟨W.heap.size + 1, 1, none⟩ = false := frozen_gr (v := .int .u64 0) hw2 (by go_simp) (by go_simp)
  have cw2_1_2 : w2.cell? ⟨W.heap.size + 1, 2, none⟩ = some (.int .u64 0) := cell_gr hw2 (by go_simp)
  have fw2_1_2 : w2.frozen? ⟨W.heap.size + 1, 2, none⟩ = false := frozen_gr (v := .int .u64 0) hw2 (by go_simp) (by go_simp)
  have zw2_1 : W.heap.size + 1 < w2.heap.size := World.block_lt_of_cell? _ _ cw2_1_0
  have gw2 : Gr W w2 := Gr.trans (by have gg := gw1; have gs := gg.size; go_grown) hw2
  clear hw2 gw1 zw1_0 cw1_0_0 fw1_0_0 cw1_0_1 fw1_0_1 zw1_1 cw1_1_0 fw1_1_0 cw1_1_1 fw1_1_1 cw1_1_2 fw1_1_2
  go_wp2_with fail
  go_at_call 51
  refine ((H3.out _)).mono ?_
  rintro e w3 ⟨rfl, hw3⟩
  have cw3_0_0 : w3.cell? ⟨W.heap.size, 0, none⟩ = some (.int .u64 h) := cell_gr hw3 (by go_simp)
  have fw3_0_0 : w3.frozen? ⟨W.heap.size, 0, none⟩ = false := frozen_gr (v := .int .u64 h) hw3 (by go_simp) (by go_simp)
  have cw3_0_1 : w3.cell? ⟨W.heap.size, 1, none⟩ = some (.int .u64 l) := cell_gr hw3 (by go_simp)
  have fw3_0_1 : w3.frozen? ⟨W.heap.size, 1, none⟩ = false := frozen_gr (v := .int .u64 l) hw3 (by go_simp) (by go_simp)
  have zw3_0 : W.heap.size < w3.heap.size := World.block_lt_of_cell? _ _ cw3_0_0
  have cw3_1_0 : w3.cell? ⟨W.heap.size + 1, 0, none⟩ = some (.int .u64 0) := cell_gr hw3 (by go_simp)
  have fw3_1_0 : w3.frozen? ⟨W.heap.size + 1, 0, none⟩ = false := frozen_gr (v := .int .u64 0) hw3 (by go_simp) (by go_simp)
  have cw3_1_1 : w3.cell? ⟨W.heap.size + 1, 1, none⟩ = some (.int .u64 0) := cell_gr hw3 (by go_simp)
  have fw3_1_1 : w3.frozen? ⟨W.heap.size + 1, 1, none⟩ = false := frozen_gr (v := .int .u64 0) hw3 (by go_simp) (by go_simp)
  have cw3_1_2 : w3.cell? ⟨W.heap.size + 1, 2, none⟩ = some (.int .u64 0) := cell_gr hw3 (by go_simp)
  have fw3_1_2 : w3.frozen? ⟨W.heap.size + 1, 2, none⟩ = false := frozen_gr (v := .int .u64 0) hw3 (by go_simp) (by go_simp)
  have zw3_1 : W.heap.size + 1 < w3.heap.size := World.block_lt_of_cell? _ _ cw3_1_0
  have gw3 : Gr W w3 := Gr.trans (by have gg := gw2; have gs := gg.size; go_grown) hw3
  clear hw3 gw2 zw2_0 cw2_0_0 fw2_0_0 cw2_0_1 fw2_0_1 zw2_1 cw2_1_0 fw2_1_0 cw2_1_1 fw2_1_1 cw2_1_2 fw2_1_2
  go_wp2_with fail
  generalize hhw4 : ((w3.setCell ⟨W.heap.size, 0, none⟩ (.int .u64 qh)).setCell ⟨W.heap.size, 1, none⟩ (.int .u64 ql)) = w4
  have cw4_0_0 : w4.cell? ⟨W.heap.size + 1, 0, none⟩ = some (.int .u64 0) := by subst hhw4; go_simp
  have fw4_0_0 : w4.frozen? ⟨W.heap.size + 1, 0, none⟩ = false := by subst hhw4; go_simp
  have cw4_0_1 : w4.cell? ⟨W.heap.size + 1, 1, none⟩ = some (.int .u64 0) := by subst hhw4; go_simp
  have fw4_0_1 : w4.frozen? ⟨W.heap.size + 1, 1, none⟩ = false := by subst hhw4; go_simp
  have cw4_0_2 : w4.cell? ⟨W.heap.size + 1, 2, none⟩ = some (.int .u64 0) := by subst hhw4; go_simp
  have fw4_0_2 : w4.frozen? ⟨W.heap.size + 1, 2, none⟩ = false := by subst hhw4; go_simp
  have zw4_0 : W.heap.size + 1 < w4.heap.size := World.block_lt_of_cell? _ _ cw4_0_0
  have cw4_1_0 : w4.cell? ⟨W.heap.size, 0, none⟩ = some (.int .u64 qh) := by subst hhw4; go_simp
  have fw4_1_0 : w4.frozen? ⟨W.heap.size, 0, none⟩ = false := by subst hhw4; go_simp
  have cw4_1_1 : w4.cell? ⟨W.heap.size, 1, none⟩ = some (.int .u64 ql) := by subst hhw4; go_simp
  have fw4_1_1 : w4.frozen? ⟨W.heap.size, 1, none⟩ = false := by subst hhw4; go_simp
  have zw4_1 : W.heap.size < w4.heap.size := World.block_lt_of_cell? _ _ cw4_1_0
  have gw4 : Gr W w4 := by subst hhw4; have gg := gw3; have gs := gg.size; go_grown
  clear hhw4 gw3 zw3_0 cw3_0_0 fw3_0_0 cw3_0_1 fw3_0_1 zw3_1 cw3_1_0 fw3_1_0 cw3_1_1 fw3_1_1 cw3_1_2 fw3_1_2
  go_wp2_with fail
  refine Hd.wp_region_tail 5 (by kernel_rfl) (by kernel_rfl) ?_
  intro KQ hKQ
  repeat (first | (refine Hd.wpG_skip (by decide) rfl ?_; simp only [Act.put, List.setIfInBounds_toArray, List.set_cons_zero, List.set_cons_succ]) | (refine Hd.wpG_want (by decide) rfl ?_; apply Exists.intro; refine ⟨?_, ?_⟩; (· intro wx gx; (obtain ⟨mx, rfl⟩ := gx); all_goals (apply Hd.gAt_of_quiet; intro K hK; go_big_quiet_op; first | exact hK _ rfl | (apply Exists.intro; refine ⟨fun _ => ?_, ?_⟩; (· (first | (go_at_call 79; first | ((with_reducible refine ((c_over _ _ _ _)).mono ?_); rintro e w' ⟨rfl, hg⟩; exact ⟨rfl, spread_gr hg⟩)))); exact hK _ rfl))); try simp only [Act.put, List.setIfInBounds_toArray, List.set_cons_zero, List.set_cons_succ]))
  refine Hd.wpG_nil (hKQ _ ?_)
  clear hKQ KQ
  intro w5 hhw5
  have hw5 := Hd.gr_of_spread hhw5
  have cw5_0_0 : w5.cell? ⟨W.heap.size + 1, 0, none⟩ = some (.int .u64 0) := cell_gr hw5 (by go_simp)
  have fw5_0_0 : w5.frozen? ⟨W.heap.size + 1, 0, none⟩ = false := frozen_gr (v := .int .u64 0) hw5 (by go_simp) (by go_simp)
  have cw5_0_1 : w5.cell? ⟨W.heap.size + 1, 1, none⟩ = some (.int .u64 0) := cell_gr hw5 (by go_simp)
  have fw5_0_1 : w5.frozen? ⟨W.heap.size + 1, 1, none⟩ = false := frozen_gr (v := .int .u64 0) hw5 (by go_simp) (by go_simp)
  have cw5_0_2 : w5.cell? ⟨W.heap.size + 1, 2, none⟩ = some (.int .u64 0) := cell_gr hw5 (by go_simp)
  have fw5_0_2 : w5.frozen? ⟨W.heap.size + 1, 2, none⟩ = false := frozen_gr (v := .int .u64 0) hw5 (by go_simp) (by go_simp)
  have zw5_0 : W.heap.size + 1 < w5.heap.size := World.block_lt_of_cell? _ _ cw5_0_0
  have cw5_1_0 : w5.cell? ⟨W.heap.size, 0, none⟩ = some (.int .u64 qh) := cell_gr hw5 (by go_simp)
  have fw5_1_0 : w5.frozen? ⟨W.heap.size, 0, none⟩ = false := frozen_gr (v := .int .u64 qh) hw5 (by go_simp) (by go_simp)
  have cw5_1_1 : w5.cell? ⟨W.heap.size, 1, none⟩ = some (.int .u64 ql) := cell_gr hw5 (by go_simp)
  have fw5_1_1 : w5.frozen? ⟨W.heap.size, 1, none⟩ = false := frozen_gr (v := .int .u64 ql) hw5 (by go_simp) (by go_simp)
  have zw5_1 : W.heap.size < w5.heap.size := World.block_lt_of_cell? _ _ cw5_1_0
  have gw5 : Gr W w5 := Gr.trans (by have gg := gw4; have gs := gg.size; go_grown) hw5
  clear hw5 hhw5 gw4 zw4_0 cw4_0_0 fw4_0_0 cw4_0_1 fw4_0_1 cw4_0_2 fw4_0_2 zw4_1 cw4_1_0 fw4_1_0 cw4_1_1 fw4_1_1
  go_wp2_with fail
  refine bodyPost_ret (v := .tuple #[.agg #[.int .u64 qh, .int .u64 ql, .int .u64 qd], .nilIface]) (by simp [results, Tryd.results55, go_sem, *]) rfl ⟨rfl, by go_grown⟩

/-- The denominator that is left. -/
def lowD (n d : Nat) : Nat := d / Nat.gcd d (n % d)
/-- The numerator that is left. -/
def lowN (n d : Nat) : Nat := n / Nat.gcd d (n % d)
theorem c_Make (h l d : Nat) (h1 : Wd h) (h2 : Wd l) (h3 : Wd d) (hd : d ≠ 0) (w : World) :
    Calls Tryd.prog 55 #[.agg #[.int .u64 h, .int .u64 l], .int .u64 d] w fun e w' => e = .returned (.tuple #[.agg #[.int .u64 ((lowN (val h l) d / 18446744073709551616 : Nat) : Int), .int .u64 ((lowN (val h l) d % 18446744073709551616 : Nat) : Int), .int .u64 ((lowD (val h l) d : Nat) : Int)], .nilIface]) ∧ Gr w w' := by
  have hr : val h l % d < d := Nat.mod_lt _ (by omega)
  have hrw : Wd (val h l % d) := by unfold Wd at *; omega
  have A1 := c_Divide h l d (by omega) h1 h2 h3
  have A2 := c_divisor d (val h l % d) h3 hrw
  have hgl : Nat.gcd d (val h l % d) ≤ d := Nat.le_of_dvd (by omega) (Nat.gcd_dvd_left _ _)
  have hgp : 0 < Nat.gcd d (val h l % d) := Nat.gcd_pos_of_pos_left _ (by omega)
  unfold lowN lowD
  generalize Nat.gcd d (val h l % d) = g at *
  have A3 := c_Divide h l g hgp h1 h2 (by unfold Wd at *; omega)
  have hq : d / g ≤ d := Nat.div_le_self _ _
  exact make_core h l d _ _ g (d / g) _ _ _ _ w (by simp; omega) (by simp; omega) (by omega) (by simp; omega) (by omega) rfl (IntWalk.u64_in _ ⟨Int.natCast_nonneg _, by unfold Wd at *; omega⟩) A1 A2 A3
end Go.Proofs.YthjhhnolkiejpaaDoor
