/- RingCuts -/
import Derived.Test.YtfamocpbmbhmbaaDoorGm
import Derived.Test.YtfamocpbmbhmbaaDoorZn
namespace Go.Proofs.YtfamocpbmbhmbaaDoor
set_option linter.unusedVariables false
open Go.ChangeShapes Go.WideShapes Go.ChangeAt Go.RowKit

theorem tw_of {n : Nat} {X Y : Nat → Int} {A : Int} (h0 : Rg.ringC n X Y = (0, 0)) (hn : 0 < n) (hA : Rg.arS n X Y n = A) (h1 : 0 ≤ A) (h2 : A ≤ 9223372036854775807) : twZ n X Y = A ∧ sgZ n X Y = A := by
  have e : sgZ n X Y = A := by
    unfold sgZ
    rw [Rg.crS_all n hn, hA]
    exact IntWalk.i64_in _ (by omega)
  refine ⟨?_, e⟩
  unfold twZ
  rw [e, h0, if_pos rfl]
  have e2 : IntKind.i64.wrap (-A) = -A := IntWalk.i64_in _ (by omega)
  rw [e2, show max A (-A) = A by omega]
  exact IntWalk.u64_in _ (by omega)
theorem side_mul {a b c d : Int} (h1 : -1073741823 ≤ a) (h2 : b ≤ 1073741823) (h3 : -1073741823 ≤ c) (h4 : d ≤ 1073741823) (h5 : a ≤ b) (h6 : c ≤ d) : ∃ A : Nat, (A : Int) = (b - a) * (d - c) ∧ A ≤ 4611686009837453316 := by
  obtain ⟨x, hx'⟩ : ∃ x : Nat, (x : Int) = b - a := ⟨_, Int.toNat_of_nonneg (by omega)⟩
  obtain ⟨y, hy'⟩ : ∃ y : Nat, (y : Int) = d - c := ⟨_, Int.toNat_of_nonneg (by omega)⟩
  have hxy : x * y ≤ 2147483646 * 2147483646 := Nat.mul_le_mul (by omega) (by omega)
  exact ⟨x * y, by rw [Int.natCast_mul, hx', hy'], by omega⟩
theorem gval0 (n : Nat) : val 0 n = n := by unfold val; omega
theorem gwd {n : Nat} (h : n ≤ 4611686009837453316) : Wd n := by unfold Wd; omega
theorem c_rAdd2 (A : Nat) (hA : A ≤ 4611686009837453316) (w : World) :
    Calls Tryd.prog 26 #[.agg #[.int .u64 0, .int .u64 A], .agg #[.int .u64 0, .int .u64 A]] w fun e w' => e = .returned (.tuple #[.agg #[.int .u64 0, .int .u64 (2 * A : Nat)], .bool false]) ∧ Gr w w' := by
  have h := c_rAdd 0 A 0 A (gwd (by omega)) (gwd hA) (gwd (by omega)) (gwd hA) w
  have v : val 0 A + val 0 A = 2 * A := by rw [gval0]; omega
  rw [v, Nat.div_eq_of_lt (show 2 * A < 18446744073709551616 by omega), Nat.mod_eq_of_lt (show 2 * A < 18446744073709551616 by omega)] at h
  exact h
set_option maxHeartbeats 4000000 in
set_option maxRecDepth 100000 in
theorem cuts_no (lx ly hx hy px py k : Int) (q : Bool) (W : World)
    (hc : ((k == 0) = false ∧ (k != 0) = true) ∨ ((k == 0) = true ∧ (k != 0) = false ∧ (lx = hx ∨ lx ≠ hx ∧ (ly = hy ∨ ly ≠ hy ∧ q = false))))
    (A1 : ∀ w, Calls Tryd.prog 24 #[.agg #[.int .i64 lx, .int .i64 ly, .int .i64 hx, .int .i64 hy]] w fun e w' => e = .returned (.int .i64 k) ∧ Gr w w')
    (A2 : ∀ w, Calls Tryd.prog 28 #[.agg #[.int .i64 px, .int .i64 py]] w fun e w' => e = .returned (.bool q) ∧ Gr w w')
    (A3 : ∀ w, Gr W w → Calls Tryd.prog 9 #[] w fun e w' => e = .returned (.bool true) ∧ Gr w w') : Calls Tryd.prog 5 #[.agg #[.int .i64 lx, .int .i64 ly, .int .i64 hx, .int .i64 hy], .agg #[.int .i64 px, .int .i64 py]] W fun e w' => e = .returned (.bool true) ∧ Gr W w' := by
  have H1 := Lib.hid A1
  have H2 := Lib.hid A2
  have H3 := Lib.hid A3
  clear A1 A2 A3
  rcases hc with ⟨z1, z2⟩ | ⟨z1, z2, h | ⟨n, h | ⟨m, rfl⟩⟩⟩
  · go_enter Tryd.func5, Tryd.ntmps5
    go_wp2_with fail
    go_at_call 24
    refine ((H1.out _)).mono ?_
    rintro e w1 ⟨rfl, hw1⟩
    have cw1_0_0 : w1.cell? ⟨W.heap.size, 0, none⟩ = some (.int .i64 lx) := cell_gr hw1 (by go_simp)
    have cw1_0_1 : w1.cell? ⟨W.heap.size, 1, none⟩ = some (.int .i64 ly) := cell_gr hw1 (by go_simp)
    have cw1_0_2 : w1.cell? ⟨W.heap.size, 2, none⟩ = some (.int .i64 hx) := cell_gr hw1 (by go_simp)
    have cw1_0_3 : w1.cell? ⟨W.heap.size, 3, none⟩ = some (.int .i64 hy) := cell_gr hw1 (by go_simp)
    have zw1_0 : W.heap.size < w1.heap.size := World.block_lt_of_cell? _ _ cw1_0_0
    have cw1_1_0 : w1.cell? ⟨W.heap.size + 1, 0, none⟩ = some (.int .i64 px) := cell_gr hw1 (by go_simp)
    have cw1_1_1 : w1.cell? ⟨W.heap.size + 1, 1, none⟩ = some (.int .i64 py) := cell_gr hw1 (by go_simp)
    have zw1_1 : W.heap.size + 1 < w1.heap.size := World.block_lt_of_cell? _ _ cw1_1_0
    have gw1 : Gr W w1 := Gr.trans (by go_grown) hw1
    clear hw1
    go_wp2_with fail
    go_at_call 9
    refine ((H3.out _ gw1)).mono ?_
    rintro e w2 ⟨rfl, hw2⟩
    have cw2_0_0 : w2.cell? ⟨W.heap.size, 0, none⟩ = some (.int .i64 lx) := cell_gr hw2 (by go_simp)
    have cw2_0_1 : w2.cell? ⟨W.heap.size, 1, none⟩ = some (.int .i64 ly) := cell_gr hw2 (by go_simp)
    have cw2_0_2 : w2.cell? ⟨W.heap.size, 2, none⟩ = some (.int .i64 hx) := cell_gr hw2 (by go_simp)
    have cw2_0_3 : w2.cell? ⟨W.heap.size, 3, none⟩ = some (.int .i64 hy) := cell_gr hw2 (by go_simp)
    have zw2_0 : W.heap.size < w2.heap.size := World.block_lt_of_cell? _ _ cw2_0_0
    have cw2_1_0 : w2.cell? ⟨W.heap.size + 1, 0, none⟩ = some (.int .i64 px) := cell_gr hw2 (by go_simp)
    have cw2_1_1 : w2.cell? ⟨W.heap.size + 1, 1, none⟩ = some (.int .i64 py) := cell_gr hw2 (by go_simp)
    have zw2_1 : W.heap.size + 1 < w2.heap.size := World.block_lt_of_cell? _ _ cw2_1_0
    have gw2 : Gr W w2 := Gr.trans (by have gg := gw1; have gs := gg.size; go_grown) hw2
    clear hw2 gw1 zw1_0 cw1_0_0 cw1_0_1 cw1_0_2 cw1_0_3 zw1_1 cw1_1_0 cw1_1_1
    go_wp2_with fail
    go_ret
    exact ⟨rfl, by go_grown⟩
  · subst h
    have t1 : ((lx : Int) == lx) = true := by simp
    have t2 : decide (lx = lx) = true := decide_eq_true rfl
    go_enter Tryd.func5, Tryd.ntmps5
    go_wp2_with fail
    go_at_call 24
    refine ((H1.out _)).mono ?_
    rintro e w1 ⟨rfl, hw1⟩
    have cw1_0_0 : w1.cell? ⟨W.heap.size, 0, none⟩ = some (.int .i64 lx) := cell_gr hw1 (by go_simp)
    have cw1_0_1 : w1.cell? ⟨W.heap.size, 1, none⟩ = some (.int .i64 ly) := cell_gr hw1 (by go_simp)
    have cw1_0_2 : w1.cell? ⟨W.heap.size, 2, none⟩ = some (.int .i64 lx) := cell_gr hw1 (by go_simp)
    have cw1_0_3 : w1.cell? ⟨W.heap.size, 3, none⟩ = some (.int .i64 hy) := cell_gr hw1 (by go_simp)
    have zw1_0 : W.heap.size < w1.heap.size := World.block_lt_of_cell? _ _ cw1_0_0
    have cw1_1_0 : w1.cell? ⟨W.heap.size + 1, 0, none⟩ = some (.int .i64 px) := cell_gr hw1 (by go_simp)
    have cw1_1_1 : w1.cell? ⟨W.heap.size + 1, 1, none⟩ = some (.int .i64 py) := cell_gr hw1 (by go_simp)
    have zw1_1 : W.heap.size + 1 < w1.heap.size := World.block_lt_of_cell? _ _ cw1_1_0
    have gw1 : Gr W w1 := Gr.trans (by go_grown) hw1
    clear hw1
    go_wp2_with fail
    go_at_call 9
    refine ((H3.out _ gw1)).mono ?_
    rintro e w2 ⟨rfl, hw2⟩
    have cw2_0_0 : w2.cell? ⟨W.heap.size, 0, none⟩ = some (.int .i64 lx) := cell_gr hw2 (by go_simp)
    have cw2_0_1 : w2.cell? ⟨W.heap.size, 1, none⟩ = some (.int .i64 ly) := cell_gr hw2 (by go_simp)
    have cw2_0_2 : w2.cell? ⟨W.heap.size, 2, none⟩ = some (.int .i64 lx) := cell_gr hw2 (by go_simp)
    have cw2_0_3 : w2.cell? ⟨W.heap.size, 3, none⟩ = some (.int .i64 hy) := cell_gr hw2 (by go_simp)
    have zw2_0 : W.heap.size < w2.heap.size := World.block_lt_of_cell? _ _ cw2_0_0
    have cw2_1_0 : w2.cell? ⟨W.heap.size + 1, 0, none⟩ = some (.int .i64 px) := cell_gr hw2 (by go_simp)
    have cw2_1_1 : w2.cell? ⟨W.heap.size + 1, 1, none⟩ = some (.int .i64 py) := cell_gr hw2 (by go_simp)
    have zw2_1 : W.heap.size + 1 < w2.heap.size := World.block_lt_of_cell? _ _ cw2_1_0
    have gw2 : Gr W w2 := Gr.trans (by have gg := gw1; have gs := gg.size; go_grown) hw2
    clear hw2 gw1 zw1_0 cw1_0_0 cw1_0_1 cw1_0_2 cw1_0_3 zw1_1 cw1_1_0 cw1_1_1
    go_wp2_with fail
    go_ret
    exact ⟨rfl, by go_grown⟩
  · have t1 : ((lx : Int) == hx) = false := by simp [n]
    have t2 : decide (lx = hx) = false := decide_eq_false n
    subst h
    have t3 : ((ly : Int) == ly) = true := by simp
    have t4 : decide (ly = ly) = true := decide_eq_true rfl
    go_enter Tryd.func5, Tryd.ntmps5
    go_wp2_with fail
    go_at_call 24
    refine ((H1.out _)).mono ?_
    rintro e w1 ⟨rfl, hw1⟩
    have cw1_0_0 : w1.cell? ⟨W.heap.size, 0, none⟩ = some (.int .i64 lx) := cell_gr hw1 (by go_simp)
    have cw1_0_1 : w1.cell? ⟨W.heap.size, 1, none⟩ = some (.int .i64 ly) := cell_gr hw1 (by go_simp)
    have cw1_0_2 : w1.cell? ⟨W.heap.size, 2, none⟩ = some (.int .i64 hx) := cell_gr hw1 (by go_simp)
    have cw1_0_3 : w1.cell? ⟨W.heap.size, 3, none⟩ = some (.int .i64 ly) := cell_gr hw1 (by go_simp)
    have zw1_0 : W.heap.size < w1.heap.size := World.block_lt_of_cell? _ _ cw1_0_0
    have cw1_1_0 : w1.cell? ⟨W.heap.size + 1, 0, none⟩ = some (.int .i64 px) := cell_gr hw1 (by go_simp)
    have cw1_1_1 : w1.cell? ⟨W.heap.size + 1, 1, none⟩ = some (.int .i64 py) := cell_gr hw1 (by go_simp)
    have zw1_1 : W.heap.size + 1 < w1.heap.size := World.block_lt_of_cell? _ _ cw1_1_0
    have gw1 : Gr W w1 := Gr.trans (by go_grown) hw1
    clear hw1
    go_wp2_with fail
    go_at_call 9
    refine ((H3.out _ gw1)).mono ?_
    rintro e w2 ⟨rfl, hw2⟩
    have cw2_0_0 : w2.cell? ⟨W.heap.size, 0, none⟩ = some (.int .i64 lx) := cell_gr hw2 (by go_simp)
    have cw2_0_1 : w2.cell? ⟨W.heap.size, 1, none⟩ = some (.int .i64 ly) := cell_gr hw2 (by go_simp)
    have cw2_0_2 : w2.cell? ⟨W.heap.size, 2, none⟩ = some (.int .i64 hx) := cell_gr hw2 (by go_simp)
    have cw2_0_3 : w2.cell? ⟨W.heap.size, 3, none⟩ = some (.int .i64 ly) := cell_gr hw2 (by go_simp)
    have zw2_0 : W.heap.size < w2.heap.size := World.block_lt_of_cell? _ _ cw2_0_0
    have cw2_1_0 : w2.cell? ⟨W.heap.size + 1, 0, none⟩ = some (.int .i64 px) := cell_gr hw2 (by go_simp)
    have cw2_1_1 : w2.cell? ⟨W.heap.size + 1, 1, none⟩ = some (.int .i64 py) := cell_gr hw2 (by go_simp)
    have zw2_1 : W.heap.size + 1 < w2.heap.size := World.block_lt_of_cell? _ _ cw2_1_0
    have gw2 : Gr W w2 := Gr.trans (by have gg := gw1; have gs := gg.size; go_grown) hw2
    clear hw2 gw1 zw1_0 cw1_0_0 cw1_0_1 cw1_0_2 cw1_0_3 zw1_1 cw1_1_0 cw1_1_1
    go_wp2_with fail
    go_ret
    exact ⟨rfl, by go_grown⟩
  · have t1 : ((lx : Int) == hx) = false := by simp [n]
    have t2 : decide (lx = hx) = false := decide_eq_false n
    have t3 : ((ly : Int) == hy) = false := by simp [m]
    have t4 : decide (ly = hy) = false := decide_eq_false m
    go_enter Tryd.func5, Tryd.ntmps5
    go_wp2_with fail
    go_at_call 24
    refine ((H1.out _)).mono ?_
    rintro e w1 ⟨rfl, hw1⟩
    have cw1_0_0 : w1.cell? ⟨W.heap.size, 0, none⟩ = some (.int .i64 lx) := cell_gr hw1 (by go_simp)
    have cw1_0_1 : w1.cell? ⟨W.heap.size, 1, none⟩ = some (.int .i64 ly) := cell_gr hw1 (by go_simp)
    have cw1_0_2 : w1.cell? ⟨W.heap.size, 2, none⟩ = some (.int .i64 hx) := cell_gr hw1 (by go_simp)
    have cw1_0_3 : w1.cell? ⟨W.heap.size, 3, none⟩ = some (.int .i64 hy) := cell_gr hw1 (by go_simp)
    have zw1_0 : W.heap.size < w1.heap.size := World.block_lt_of_cell? _ _ cw1_0_0
    have cw1_1_0 : w1.cell? ⟨W.heap.size + 1, 0, none⟩ = some (.int .i64 px) := cell_gr hw1 (by go_simp)
    have cw1_1_1 : w1.cell? ⟨W.heap.size + 1, 1, none⟩ = some (.int .i64 py) := cell_gr hw1 (by go_simp)
    have zw1_1 : W.heap.size + 1 < w1.heap.size := World.block_lt_of_cell? _ _ cw1_1_0
    have gw1 : Gr W w1 := Gr.trans (by go_grown) hw1
    clear hw1
    go_wp2_with fail
    go_at_call 28
    refine ((H2.out _)).mono ?_
    rintro e w2 ⟨rfl, hw2⟩
    have cw2_0_0 : w2.cell? ⟨W.heap.size, 0, none⟩ = some (.int .i64 lx) := cell_gr hw2 (by go_simp)
    have cw2_0_1 : w2.cell? ⟨W.heap.size, 1, none⟩ = some (.int .i64 ly) := cell_gr hw2 (by go_simp)
    have cw2_0_2 : w2.cell? ⟨W.heap.size, 2, none⟩ = some (.int .i64 hx) := cell_gr hw2 (by go_simp)
    have cw2_0_3 : w2.cell? ⟨W.heap.size, 3, none⟩ = some (.int .i64 hy) := cell_gr hw2 (by go_simp)
    have zw2_0 : W.heap.size < w2.heap.size := World.block_lt_of_cell? _ _ cw2_0_0
    have cw2_1_0 : w2.cell? ⟨W.heap.size + 1, 0, none⟩ = some (.int .i64 px) := cell_gr hw2 (by go_simp)
    have cw2_1_1 : w2.cell? ⟨W.heap.size + 1, 1, none⟩ = some (.int .i64 py) := cell_gr hw2 (by go_simp)
    have zw2_1 : W.heap.size + 1 < w2.heap.size := World.block_lt_of_cell? _ _ cw2_1_0
    have gw2 : Gr W w2 := Gr.trans (by have gg := gw1; have gs := gg.size; go_grown) hw2
    clear hw2 gw1 zw1_0 cw1_0_0 cw1_0_1 cw1_0_2 cw1_0_3 zw1_1 cw1_1_0 cw1_1_1
    go_wp2_with fail
    go_at_call 9
    refine ((H3.out _ gw2)).mono ?_
    rintro e w3 ⟨rfl, hw3⟩
    have cw3_0_0 : w3.cell? ⟨W.heap.size, 0, none⟩ = some (.int .i64 lx) := cell_gr hw3 (by go_simp)
    have cw3_0_1 : w3.cell? ⟨W.heap.size, 1, none⟩ = some (.int .i64 ly) := cell_gr hw3 (by go_simp)
    have cw3_0_2 : w3.cell? ⟨W.heap.size, 2, none⟩ = some (.int .i64 hx) := cell_gr hw3 (by go_simp)
    have cw3_0_3 : w3.cell? ⟨W.heap.size, 3, none⟩ = some (.int .i64 hy) := cell_gr hw3 (by go_simp)
    have zw3_0 : W.heap.size < w3.heap.size := World.block_lt_of_cell? _ _ cw3_0_0
    have cw3_1_0 : w3.cell? ⟨W.heap.size + 1, 0, none⟩ = some (.int .i64 px) := cell_gr hw3 (by go_simp)
    have cw3_1_1 : w3.cell? ⟨W.heap.size + 1, 1, none⟩ = some (.int .i64 py) := cell_gr hw3 (by go_simp)
    have zw3_1 : W.heap.size + 1 < w3.heap.size := World.block_lt_of_cell? _ _ cw3_1_0
    have gw3 : Gr W w3 := Gr.trans (by have gg := gw2; have gs := gg.size; go_grown) hw3
    clear hw3 gw2 zw2_0 cw2_0_0 cw2_0_1 cw2_0_2 cw2_0_3 zw2_1 cw2_1_0 cw2_1_1
    go_wp2_with fail
    go_ret
    exact ⟨rfl, by go_grown⟩
theorem walk_RingCuts (lx ly hx hy px py : Int) {p1 p2 : Prop} (_ : p1) (_ : p2) (W : World) (hE : ErrT W) : Calls Tryd.prog 5 #[.agg #[.int .i64 lx, .int .i64 ly, .int .i64 hx, .int .i64 hy], .agg #[.int .i64 px, .int .i64 py]] W fun e w' => e = .returned (.bool true) ∧ Gr W w' := by
  have A1 := c_rCheckBox lx ly hx hy
  have A2 := c_rPoint px py
  have A3 : ∀ w, Gr W w → Calls Tryd.prog 9 #[] w fun e w' => e = .returned (.bool true) ∧ Gr w w' := fun w g => g5_awake w (errT_gr hE g)
  have z := boxCode_zero (lx := lx) (ly := ly) (hx := hx) (hy := hy)
  by_cases hb : boxB lx ly hx hy = true
  · rw [hb] at z
    have z' : boxCode lx ly hx hy = 0 := by simpa using z
    obtain ⟨⟨b1, b2⟩, b3, b4⟩ := boxB_iff.1 hb
    have n1 := nearB_iff.1 b1
    have n2 := nearB_iff.1 b2
    by_cases c : lx < hx ∧ ly < hy ∧ nearB px py = true
    · obtain ⟨c1, c2, c3⟩ := c
      obtain ⟨A, hA, hA2⟩ := side_mul (a := lx) (b := hx) (c := ly) (d := hy) (by omega) (by omega) (by omega) (by omega) b3 b4
      obtain ⟨a1, a2, a3⟩ := Rg.areas lx ly hx hy
      rw [← hA] at a1 a2 a3
      have rq := Rg.q_ring b1 b2 c1 c2
      have rs := Rg.s_ring b1 b2 c1 c2
      have rt := Rg.t_ring b1 b2 c1 c2
      have tq := (tw_of rq (by omega) a1 (by omega) (by omega)).1
      have ts := (tw_of rs (by omega) a2 (by omega) (by omega)).1
      have tt := (tw_of rt (by omega) a3 (by omega) (by omega)).1
      rw [z'] at A1
      rw [c3] at A2
      have bs := Rg.s_has b1 b2 c3 c1 c2
      have bt := Rg.t_has b1 b2 c3 c1 c2
      have bq := Rg.q_has b1 b2 c3 c1 c2
      have bo := Rg.onG_dia b1 b2 c3 c1 c2
      have hs : ∀ {n : Nat} {X Y : Nat → Int}, Rg.ringC n X Y = (0, 0) → hsV n X Y px py = Rg.hasN n X Y px py := fun h => by unfold hsV; rw [h, c3]; simp
      have A4 := c_rOn lx ly hx hy px py
      have A5 := c_rAdd2 A hA2
      have S3 : ∀ w v, Pts w v 3 (Rg.sX lx hx) (Rg.sY ly hy) → Calls Tryd.prog 16 #[v] w fun e w' => e = .returned (.agg #[.int .u64 0, .int .u64 A]) ∧ Gr w w' := fun w v h => by rw [← ts]; exact c_Twice w h
      have S4 : ∀ w v, Pts w v 3 (Rg.tX lx hx) (Rg.tY ly hy) → Calls Tryd.prog 16 #[v] w fun e w' => e = .returned (.agg #[.int .u64 0, .int .u64 A]) ∧ Gr w w' := fun w v h => by rw [← tt]; exact c_Twice w h
      have S5 : ∀ w v, Pts w v 4 (Rg.qX lx hx) (Rg.qY ly hy) → Calls Tryd.prog 16 #[v] w fun e w' => e = .returned (.agg #[.int .u64 0, .int .u64 (2 * A : Nat)]) ∧ Gr w w' := fun w v h => by rw [show ((2 * A : Nat) : Int) = 2 * (A : Int) by omega, ← tq]; exact c_Twice w h
      refine cuts_core lx ly hx hy px py (2 * A : Nat) A _ _ _ _ W ?_ ?_ c1 c2 A1 A2 A3 A4 A5 (fun w v h => chk_ok w h (by rw [rs]) w (Below.refl _ _)) (fun w v h => chk_ok w h (by rw [rt]) w (Below.refl _ _)) S3 S4 S5 (fun w v h => c_Has w h px py) (fun w v h => c_Has w h px py) (fun w v h => c_Has w h px py)
      · rw [hs rs, hs rt, hs rq, Bool.eq_iff_iff, Bool.or_eq_true, bs, bt, bq]
        omega
      · rw [hs rs, hs rt]
        rcases e1 : Rg.hasN 3 (Rg.sX lx hx) (Rg.sY ly hy) px py with _ | _
        · rfl
        · rcases e2 : Rg.hasN 3 (Rg.tX lx hx) (Rg.tY ly hy) px py with _ | _
          · rfl
          · have := bs.1 e1
            have := bt.1 e2
            show onG lx ly hx hy px py = true
            exact bo.2 ⟨by omega, by omega⟩
    · refine cuts_no lx ly hx hy px py _ _ W (Or.inr ⟨z, by simp [z'], ?_⟩) A1 A2 A3
      by_cases d1 : lx = hx
      · exact Or.inl d1
      · refine Or.inr ⟨d1, ?_⟩
        by_cases d2 : ly = hy
        · exact Or.inl d2
        · refine Or.inr ⟨d2, ?_⟩
          cases hp : nearB px py
          · rfl
          · exact absurd ⟨by omega, by omega, hp⟩ c
  · have hb' : boxB lx ly hx hy = false := by simpa using hb
    rw [hb'] at z
    exact cuts_no lx ly hx hy px py _ _ W (Or.inl ⟨z, by rw [bne, z]; rfl⟩) A1 A2 A3
end Go.Proofs.YtfamocpbmbhmbaaDoor
