/- the walk of WideSquares -/
import Derived.Test.YtihfkecigkmfjaaDoorB
namespace Go.Proofs.YtihfkecigkmfjaaDoor
set_option linter.unusedVariables false
open Go.ChangeShapes Go.WideShapes Go.ChangeAt Go.RowKit

theorem c_Abs (n : Int) (h : -9223372036854775808 ≤ n ∧ n ≤ 9223372036854775807) (w : World) :
    Calls Tryd.prog 32 #[.int .i64 n] w fun e w' => e = .returned (.int .u64 (n.natAbs : Int)) ∧ w' = w := by
  by_cases hn : n < 0
  · have e : (n.natAbs : Int) = -n := by omega
    rw [e]
    have e1 : IntKind.u64.wrap (-(n + 1)) = -(n + 1) := IntWalk.u64_in _ (by omega)
    have e2 : IntKind.u64.wrap (-(n + 1) + 1) = -n := by rw [show -(n + 1) + 1 = -n by omega]; exact IntWalk.u64_in _ (by omega)
    go_enter Tryd.func32, Tryd.ntmps32
    go_wp2
    go_ret
    exact ⟨rfl, rfl⟩
  · have e : (n.natAbs : Int) = n := by omega
    rw [e]
    have e1 : IntKind.u64.wrap n = n := IntWalk.u64_in _ (by omega)
    go_enter Tryd.func32, Tryd.ntmps32
    go_wp2
    go_ret
    exact ⟨rfl, rfl⟩
theorem c_Square (n : Int) (h : -9223372036854775808 ≤ n ∧ n ≤ 9223372036854775807) (w : World) :
    Calls Tryd.prog 24 #[.int .i64 n] w fun e w' => e = .returned (.agg #[.int .u64 (n.natAbs * n.natAbs / 18446744073709551616 : Nat), .int .u64 (n.natAbs * n.natAbs % 18446744073709551616 : Nat)]) ∧ Gr w w' := by
  obtain ⟨m, hm⟩ : ∃ m, m = n.natAbs := ⟨_, rfl⟩
  rw [← hm]
  have hmw : Wd m := by unfold Wd; omega
  have M := c_Mul m m hmw hmw
  obtain ⟨p, hp⟩ : ∃ p, p = m * m / 18446744073709551616 := ⟨_, rfl⟩
  obtain ⟨q, hq⟩ : ∃ q, q = m * m % 18446744073709551616 := ⟨_, rfl⟩
  rw [← hp, ← hq] at M
  rw [← hp, ← hq]
  have HM := Lib.hid M
  by_cases hn : n < 0
  · have e1 : IntKind.u64.wrap n = n + 18446744073709551616 := by rw [IntKind.wrap_u64]; omega
    have e2 : IntKind.u64.wrap (-(n + 18446744073709551616)) = (m : Int) := by rw [IntKind.wrap_u64]; omega
    have e3 : IntKind.u64.wrap (0 - (n + 18446744073709551616)) = (m : Int) := by rw [IntKind.wrap_u64]; omega
    have HH := Lib.hid h
    clear M hp hq hm h hmw
    go_enter Tryd.func24, Tryd.ntmps24
    go_wp2_with (go_at_call 22; (with_reducible refine (HM.out _).mono ?_); rintro e w' ⟨rfl, hg⟩; obtain ⟨hc, hf⟩ := bcell hg)
    have hgw : Gr w w' := Gr.trans (by go_grown) hg
    refine bodyPost_ret (v := .agg #[.int .u64 p, .int .u64 q]) (by simp [results, Tryd.results24, go_sem, hc]) rfl ⟨rfl, ?_⟩
    clear hc hf hg
    go_grown
  · have e1 : IntKind.u64.wrap n = (m : Int) := by rw [IntKind.wrap_u64]; omega
    clear M hp hq hm h hmw
    go_enter Tryd.func24, Tryd.ntmps24
    go_wp2_with (go_at_call 22; (with_reducible refine (HM.out _).mono ?_); rintro e w' ⟨rfl, hg⟩; obtain ⟨hc, hf⟩ := bcell hg)
    have hgw : Gr w w' := Gr.trans (by go_grown) hg
    refine bodyPost_ret (v := .agg #[.int .u64 p, .int .u64 q]) (by simp [results, Tryd.results24, go_sem, hc]) rfl ⟨rfl, ?_⟩
    clear hc hf hg
    go_grown

set_option maxHeartbeats 1000000 in
set_option maxRecDepth 100000 in
theorem squares_core (n m : Int) (x y ah al bh bl : Nat) (k : Int) (W : World) (hp : Lib.TabIs Tryd.prog W "internal/strconv.uint64pow10" .u64 Lib.pow10Tab)
    (A1 : ∀ w, Calls Tryd.prog 24 #[.int .i64 n] w fun e w' => e = .returned (.agg #[.int .u64 ah, .int .u64 al]) ∧ Gr w w')
    (A2 : ∀ w, Calls Tryd.prog 24 #[.int .i64 m] w fun e w' => e = .returned (.agg #[.int .u64 bh, .int .u64 bl]) ∧ Gr w w')
    (A3 : ∀ w, Calls Tryd.prog 17 #[.agg #[.int .u64 ah, .int .u64 al], .agg #[.int .u64 bh, .int .u64 bl]] w fun e w' => e = .returned (.int .i64 k) ∧ Gr w w')
    (A4 : ∀ w, Calls Tryd.prog 32 #[.int .i64 n] w fun e w' => e = .returned (.int .u64 x) ∧ w' = w)
    (A5 : ∀ w, Calls Tryd.prog 32 #[.int .i64 m] w fun e w' => e = .returned (.int .u64 y) ∧ w' = w)
    (A6 : ∀ w, Calls Tryd.prog 22 #[.int .u64 x, .int .u64 x] w fun e w' => e = .returned (.agg #[.int .u64 ah, .int .u64 al]) ∧ Gr w w')
    (u z : Bool) (hk : decide (k < 0) = u) (hk0 : (k == 0) = z) (hx1 : decide (x < y) = u) (hx2 : ((x : Int) == (y : Int)) = z) (hx3 : (x == y) = z) :
    Calls Tryd.prog 8 #[.int .i64 n, .int .i64 m] W fun e w' => e = .returned (.bool true) ∧ Gr W w' := by
  have H1 := Lib.hid A1
  have H2 := Lib.hid A2
  have H3 := Lib.hid A3
  have A4' : ∀ w, Calls Tryd.prog 32 #[.int .i64 n] w fun e w' => e = .returned (.int .u64 x) ∧ Gr w w' := fun w => (A4 w).mono fun e w' ⟨h1, h2⟩ => ⟨h1, Gr.of_eq h2⟩
  have A5' : ∀ w, Calls Tryd.prog 32 #[.int .i64 m] w fun e w' => e = .returned (.int .u64 y) ∧ Gr w w' := fun w => (A5 w).mono fun e w' ⟨h1, h2⟩ => ⟨h1, Gr.of_eq h2⟩
  have H4 := Lib.hid A4'
  have H5 := Lib.hid A5'
  have H6 := Lib.hid A6
  have AW : ∀ w, Gr W w → Calls Tryd.prog 19 #[] w fun e w' => e = .returned (.bool true) ∧ Gr w w' := fun w g => c_awake w (tab_below hp g)
  have HAW := Lib.hid AW
  clear A1 A2 A3 A4 A5 A4' A5' A6 AW hp
  go_enter Tryd.func8, Tryd.ntmps8
  go_wp2_with fail
  go_at_call 24
  refine ((H1.out _)).mono ?_
  rintro e w1 ⟨rfl, hw1⟩
  have gw1 : Gr W w1 := Gr.trans (by go_grown) hw1
  clear hw1
  go_wp2_with fail
  go_at_call 24
  refine ((H2.out _)).mono ?_
  rintro e w2 ⟨rfl, hw2⟩
  have cw2_0_0 : w2.cell? ⟨w1.heap.size, 0, none⟩ = some (.int .u64 ah) := cell_gr hw2 (by go_simp)
  have cw2_0_1 : w2.cell? ⟨w1.heap.size, 1, none⟩ = some (.int .u64 al) := cell_gr hw2 (by go_simp)
  have zw2_0 : w1.heap.size < w2.heap.size := World.block_lt_of_cell? _ _ cw2_0_0
  have gw2 : Gr W w2 := Gr.trans (by have gg := gw1; have gs := gg.size; go_grown) hw2
  clear hw2 gw1
  go_wp2_with fail
  go_at_call 17
  refine ((H3.out _)).mono ?_
  rintro e w3 ⟨rfl, hw3⟩
  have cw3_0_0 : w3.cell? ⟨w1.heap.size, 0, none⟩ = some (.int .u64 ah) := cell_gr hw3 (by go_simp)
  have cw3_0_1 : w3.cell? ⟨w1.heap.size, 1, none⟩ = some (.int .u64 al) := cell_gr hw3 (by go_simp)
  have zw3_0 : w1.heap.size < w3.heap.size := World.block_lt_of_cell? _ _ cw3_0_0
  have cw3_1_0 : w3.cell? ⟨w2.heap.size, 0, none⟩ = some (.int .u64 bh) := cell_gr hw3 (by go_simp)
  have cw3_1_1 : w3.cell? ⟨w2.heap.size, 1, none⟩ = some (.int .u64 bl) := cell_gr hw3 (by go_simp)
  have zw3_1 : w2.heap.size < w3.heap.size := World.block_lt_of_cell? _ _ cw3_1_0
  have gw3 : Gr W w3 := Gr.trans (by have gg := gw2; have gs := gg.size; go_grown) hw3
  clear hw3 gw2 zw2_0 cw2_0_0 cw2_0_1
  go_wp2_with fail
  go_at_call 32
  refine ((H4.out _)).mono ?_
  rintro e w4 ⟨rfl, hw4⟩
  have cw4_0_0 : w4.cell? ⟨w1.heap.size, 0, none⟩ = some (.int .u64 ah) := cell_gr hw4 (by go_simp)
  have cw4_0_1 : w4.cell? ⟨w1.heap.size, 1, none⟩ = some (.int .u64 al) := cell_gr hw4 (by go_simp)
  have zw4_0 : w1.heap.size < w4.heap.size := World.block_lt_of_cell? _ _ cw4_0_0
  have cw4_1_0 : w4.cell? ⟨w2.heap.size, 0, none⟩ = some (.int .u64 bh) := cell_gr hw4 (by go_simp)
  have cw4_1_1 : w4.cell? ⟨w2.heap.size, 1, none⟩ = some (.int .u64 bl) := cell_gr hw4 (by go_simp)
  have zw4_1 : w2.heap.size < w4.heap.size := World.block_lt_of_cell? _ _ cw4_1_0
  have gw4 : Gr W w4 := Gr.trans (by have gg := gw3; have gs := gg.size; go_grown) hw4
  clear hw4 gw3 zw3_0 cw3_0_0 cw3_0_1 zw3_1 cw3_1_0 cw3_1_1
  go_wp2_with fail
  go_at_call 32
  refine ((H5.out _)).mono ?_
  rintro e w5 ⟨rfl, hw5⟩
  have cw5_0_0 : w5.cell? ⟨w1.heap.size, 0, none⟩ = some (.int .u64 ah) := cell_gr hw5 (by go_simp)
  have cw5_0_1 : w5.cell? ⟨w1.heap.size, 1, none⟩ = some (.int .u64 al) := cell_gr hw5 (by go_simp)
  have zw5_0 : w1.heap.size < w5.heap.size := World.block_lt_of_cell? _ _ cw5_0_0
  have cw5_1_0 : w5.cell? ⟨w2.heap.size, 0, none⟩ = some (.int .u64 bh) := cell_gr hw5 (by go_simp)
  have cw5_1_1 : w5.cell? ⟨w2.heap.size, 1, none⟩ = some (.int .u64 bl) := cell_gr hw5 (by go_simp)
  have zw5_1 : w2.heap.size < w5.heap.size := World.block_lt_of_cell? _ _ cw5_1_0
  have gw5 : Gr W w5 := Gr.trans (by have gg := gw4; have gs := gg.size; go_grown) hw5
  clear hw5 gw4 zw4_0 cw4_0_0 cw4_0_1 zw4_1 cw4_1_0 cw4_1_1
  go_wp2_with fail
  refine wp_region_spread (by kernel_rfl) (by kernel_rfl) ?_
  repeat (first | go_big_quiet_skip | (go_big_quiet_want; go_big_quiet_op; (first | go_big_quiet_on | (apply Exists.intro; refine ⟨fun _ => ?_, ?_⟩; (· (first | (go_at_call 22; first | ((with_reducible refine ((H6.out _)).mono ?_); rintro e w' ⟨rfl, hg⟩; exact ⟨rfl, spread_gr hg⟩)) | (go_at_call 19; first | ((with_reducible refine ((HAW.out _ (Gr.trans (by have gg := gw5; have gs := gg.size; go_grown) (gr_spread _ _)))).mono ?_); rintro e w' ⟨rfl, hg⟩; exact ⟨rfl, spread_gr hg⟩)))); go_big_quiet_on))))
  refine wpQuiet_nil ?_
  intro wr hr
  obtain ⟨mr, rfl⟩ := hr
  go_wp2_with fail
  go_ret
  exact ⟨rfl, Gr.trans (by have gg := gw5; have gs := gg.size; go_grown) (gr_spread _ _)⟩

theorem sq_lt {x y : Nat} : x * x < y * y ↔ x < y := by
  constructor
  · intro h
    rcases Nat.lt_or_ge x y with g | g
    · exact g
    · exact absurd (Nat.mul_le_mul g g) (by omega)
  · intro h
    exact Nat.mul_lt_mul'' h h
theorem walk_WideSquares (n m : Int) (h1 : -9223372036854775808 ≤ n ∧ n ≤ 9223372036854775807) (h2 : -9223372036854775808 ≤ m ∧ m ≤ 9223372036854775807) (W : World) (hp : Lib.TabIs Tryd.prog W "internal/strconv.uint64pow10" .u64 Lib.pow10Tab) :
    Calls Tryd.prog 8 #[.int .i64 n, .int .i64 m] W fun e w' => e = .returned (.bool true) ∧ Gr W w' := by
  obtain ⟨x, hx⟩ : ∃ x, x = n.natAbs := ⟨_, rfl⟩
  obtain ⟨y, hy⟩ : ∃ y, y = m.natAbs := ⟨_, rfl⟩
  have hxw : Wd x := by unfold Wd; omega
  have hyw : Wd y := by unfold Wd; omega
  have A1 := c_Square n h1
  have A2 := c_Square m h2
  have A4 := c_Abs n h1
  have A5 := c_Abs m h2
  rw [← hx] at A1 A4
  rw [← hy] at A2 A5
  have A6 := c_Mul x x hxw hxw
  have b1 := mulHi hxw hxw
  have b2 := mulHi hyw hyw
  have A3 := c_Compare _ _ _ _ (show Wd (x * x / 18446744073709551616) by unfold Wd; omega) (wd_mod (x * x)) (show Wd (y * y / 18446744073709551616) by unfold Wd; omega) (wd_mod (y * y))
  rw [val_words, val_words] at A3
  have e1 : decide (cmpN (x * x) (y * y) < 0) = decide (x < y) := by rw [cmp_lt0, decide_eq_decide]; exact sq_lt
  have e2 : (cmpN (x * x) (y * y) == 0) = decide (x = y) := by
    rcases Nat.lt_trichotomy x y with g | g | g
    · rw [cmpN_lt (sq_lt.2 g), decide_eq_false (by omega)]; rfl
    · subst g; rw [cmpN_eq rfl, decide_eq_true rfl]; rfl
    · rw [cmpN_gt (sq_lt.2 g), decide_eq_false (by omega)]; rfl
  exact squares_core n m x y _ _ _ _ _ W hp A1 A2 A3 A4 A5 A6 _ _ e1 e2 rfl (by rw [Bool.eq_iff_iff]; simp; omega) (by rw [Bool.eq_iff_iff]; simp)
end Go.Proofs.YtihfkecigkmfjaaDoor
