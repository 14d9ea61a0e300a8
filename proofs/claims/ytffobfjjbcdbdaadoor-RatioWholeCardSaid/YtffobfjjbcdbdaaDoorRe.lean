/- RatioWhole -/
import Derived.Test.YtffobfjjbcdbdaaDoorRd
namespace Go.Proofs.YtffobfjjbcdbdaaDoor
set_option linter.unusedVariables false
open Go.ChangeShapes Go.WideShapes Go.ChangeAt Go.RowKit

theorem field_den (h l d : Int) (w : World) : (Instr.field 50 (.agg #[.int .u64 h, .int .u64 l, .int .u64 d]) 2).run Tryd.prog w = .ok (.int .u64 d) w := by
  kernel_rfl
set_option maxHeartbeats 1000000 in
set_option maxRecDepth 100000 in
theorem whole_walk (n m : Int) (x y ah al bh bl : Nat) (k : Int) (u z : Bool) (W : World) (hp : Lib.TabIs Tryd.prog W "internal/strconv.uint64pow10" .u64 Lib.pow10Tab)
    (u1 : decide (k < 0) = u) (u2 : decide (x < y) = u) (u3 : decide ((x : Int) < (y : Int)) = u) (z1 : (k == 0) = z) (z2 : ((x : Int) == (y : Int)) = z) (z3 : (x == y) = z)
    (A1 : ∀ w, Calls Tryd.prog 43 #[.int .i64 n] w fun e w' => e = .returned (.int .u64 x) ∧ Gr w w')
    (A2 : ∀ w, Calls Tryd.prog 43 #[.int .i64 m] w fun e w' => e = .returned (.int .u64 y) ∧ Gr w w')
    (A3 : ∀ w, Calls Tryd.prog 31 #[.int .i64 n] w fun e w' => e = .returned (.agg #[.int .u64 ah, .int .u64 al, .int .u64 1]) ∧ Gr w w')
    (A4 : ∀ w, Calls Tryd.prog 31 #[.int .i64 m] w fun e w' => e = .returned (.agg #[.int .u64 bh, .int .u64 bl, .int .u64 1]) ∧ Gr w w')
    (A5 : ∀ w, Calls Tryd.prog 37 #[.agg #[.int .u64 ah, .int .u64 al, .int .u64 1], .agg #[.int .u64 bh, .int .u64 bl, .int .u64 1]] w fun e w' => e = .returned (.int .i64 k) ∧ Gr w w')
    (A6 : ∀ w, Calls Tryd.prog 41 #[.agg #[.int .i64 1, .int .u64 ah, .int .u64 al, .int .u64 1], .agg #[.int .i64 2, .int .u64 ah, .int .u64 al, .int .u64 1]] w fun e w' => e = .returned (.bool true) ∧ Gr w w') :
    Calls Tryd.prog 10 #[.int .i64 n, .int .i64 m] W fun e w' => e = .returned (.bool true) ∧ Gr W w' := by
  have H1 := Lib.hid A1
  have H2 := Lib.hid A2
  have H3 := Lib.hid A3
  have H4 := Lib.hid A4
  have H5 := Lib.hid A5
  have H6 := Lib.hid A6
  have AW : ∀ w, Gr W w → Calls Tryd.prog 33 #[] w fun e w' => e = .returned (.bool true) ∧ Gr w w' := fun w g => p2_awake w (tab_below hp g)
  have HAW := Lib.hid AW
  have FD := field_den ah al 1
  clear A1 A2 A3 A4 A5 A6 AW hp
  go_enter Tryd.func10, Tryd.ntmps10
  go_wp2_with fail
  go_at_call 43
  refine ((H1.out _)).mono ?_
  rintro e w1 ⟨rfl, hw1⟩
  have gw1 : Gr W w1 := Gr.trans (by go_grown) hw1
  clear hw1
  go_wp2_with fail
  go_at_call 43
  refine ((H2.out _)).mono ?_
  rintro e w2 ⟨rfl, hw2⟩
  have gw2 : Gr W w2 := Gr.trans (by have gg := gw1; have gs := gg.size; go_grown) hw2
  clear hw2 gw1
  go_wp2_with fail
  go_at_call 31
  refine ((H3.out _)).mono ?_
  rintro e w3 ⟨rfl, hw3⟩
  have gw3 : Gr W w3 := Gr.trans (by have gg := gw2; have gs := gg.size; go_grown) hw3
  clear hw3 gw2
  go_wp2_with fail
  go_at_call 31
  refine ((H4.out _)).mono ?_
  rintro e w4 ⟨rfl, hw4⟩
  have gw4 : Gr W w4 := Gr.trans (by have gg := gw3; have gs := gg.size; go_grown) hw4
  clear hw4 gw3
  go_wp2_with fail
  go_at_call 37
  refine ((H5.out _)).mono ?_
  rintro e w5 ⟨rfl, hw5⟩
  have gw5 : Gr W w5 := Gr.trans (by have gg := gw4; have gs := gg.size; go_grown) hw5
  clear hw5 gw4
  go_wp2_with fail
  go_at_call 31
  refine ((H3.out _)).mono ?_
  rintro e w6 ⟨rfl, hw6⟩
  have gw6 : Gr W w6 := Gr.trans (by have gg := gw5; have gs := gg.size; go_grown) hw6
  clear hw6 gw5
  go_wp2_with fail
  go_at_call 31
  refine ((H3.out _)).mono ?_
  rintro e w7 ⟨rfl, hw7⟩
  have gw7 : Gr W w7 := Gr.trans (by have gg := gw6; have gs := gg.size; go_grown) hw7
  clear hw7 gw6
  go_wp2_with fail
  go_at_call 31
  refine ((H3.out _)).mono ?_
  rintro e w8 ⟨rfl, hw8⟩
  have gw8 : Gr W w8 := Gr.trans (by have gg := gw7; have gs := gg.size; go_grown) hw8
  clear hw8 gw7
  go_wp2_with fail
  go_at_call 41
  refine ((H6.out _)).mono ?_
  rintro e w9 ⟨rfl, hw9⟩
  have gw9 : Gr W w9 := Gr.trans (by have gg := gw8; have gs := gg.size; go_grown) hw9
  clear hw9 gw8
  go_wp2_with fail
  go_at_call 33
  refine ((HAW.out _ (by have gg := gw9; have gs := gg.size; go_grown))).mono ?_
  rintro e w10 ⟨rfl, hw10⟩
  have gw10 : Gr W w10 := Gr.trans (by have gg := gw9; have gs := gg.size; go_grown) hw10
  clear hw10 gw9
  go_wp2_with fail
  go_ret
  exact ⟨rfl, gw10⟩

theorem sq_cmp (x y : Nat) : (x * x < y * y ↔ x < y) ∧ (x * x = y * y ↔ x = y) := by
  have h : ∀ a b : Nat, a < b → a * a < b * b := fun a b hab => Nat.mul_lt_mul'' hab hab
  rcases Nat.lt_trichotomy x y with g | g | g
  · have := h x y g
    omega
  · subst g; omega
  · have := h y x g
    omega
theorem walk_RatioWhole (n m : Int) (h1 : -9223372036854775808 ≤ n ∧ n ≤ 9223372036854775807) (h2 : -9223372036854775808 ≤ m ∧ m ≤ 9223372036854775807) (W : World) (hp : Lib.TabIs Tryd.prog W "internal/strconv.uint64pow10" .u64 Lib.pow10Tab) :
    Calls Tryd.prog 10 #[.int .i64 n, .int .i64 m] W fun e w' => e = .returned (.bool true) ∧ Gr W w' := by
  have A1 : ∀ w, Calls Tryd.prog 43 #[.int .i64 n] w fun e w' => e = .returned (.int .u64 (n.natAbs : Int)) ∧ Gr w w' := fun w => (c_Abs n h1 w).mono fun e w' ⟨h1, h2⟩ => ⟨h1, Gr.of_eq h2⟩
  have A2 : ∀ w, Calls Tryd.prog 43 #[.int .i64 m] w fun e w' => e = .returned (.int .u64 (m.natAbs : Int)) ∧ Gr w w' := fun w => (c_Abs m h2 w).mono fun e w' ⟨h1, h2⟩ => ⟨h1, Gr.of_eq h2⟩
  have A3 := c_Of n h1
  have A4 := c_Of m h2
  have hx : n.natAbs ≤ 9223372036854775808 := by omega
  have hy : m.natAbs ≤ 9223372036854775808 := by omega
  generalize n.natAbs = x at *
  generalize m.natAbs = y at *
  have bx : x * x ≤ 9223372036854775808 * 9223372036854775808 := Nat.mul_le_mul hx hx
  have by' : y * y ≤ 9223372036854775808 * 9223372036854775808 := Nat.mul_le_mul hy hy
  have sc := sq_cmp x y
  obtain ⟨v1, w1, w2⟩ := val_split (x * x) (by omega)
  obtain ⟨v2, w3, w4⟩ := val_split (y * y) (by omega)
  have A5 := c_rtCompare _ _ 1 _ _ 1 w1 w2 (by unfold Wd; omega) w3 w4 (by unfold Wd; omega)
  have A6 := c_Less 1 2 _ _ 1 _ _ 1 w1 w2 (by unfold Wd; omega) w1 w2 (by unfold Wd; omega)
  rw [v1, v2] at A5
  rw [v1] at A6
  have e1 : cmpD (x * x) 1 (y * y) 1 = cmpN (x * x) (y * y) := by
    unfold cmpD
    rw [if_neg (by omega), if_neg (by omega), Nat.mul_one, Nat.mul_one]
  have e2 : lessB (x * x) 1 (x * x) 1 1 2 = true := by
    rw [lessB_iff]
    have : cmpD (x * x) 1 (x * x) 1 = 0 := by
      have := cmpD_neg (x * x) 1 (x * x) 1
      omega
    exact Or.inr ⟨this, by omega⟩
  rw [e1] at A5
  rw [e2] at A6
  have k1 := cmpN_l (x * x) (y * y)
  have k2 := cmpN_z (x * x) (y * y)
  rw [sc.1] at k1
  rw [sc.2] at k2
  generalize cmpN (x * x) (y * y) = k at *
  refine whole_walk n m x y _ _ _ _ k (decide (x < y)) (decide (x = y)) W hp ?_ rfl ?_ ?_ ?_ ?_ A1 A2 A3 A4 A5 A6
  · rw [decide_eq_decide]; exact k1
  · rw [decide_eq_decide]; omega
  · rw [Bool.eq_iff_iff]; simp; exact k2
  · rw [Bool.eq_iff_iff]; simp; omega
  · rw [Bool.eq_iff_iff]; simp
end Go.Proofs.YtffobfjjbcdbdaaDoor
