/- the walks of WideOver, WideOrder, WideSquares -/
import Derived.Test.YtihfkecigkmfjaaDoorB
namespace Go.Proofs.YtihfkecigkmfjaaDoor
set_option linter.unusedVariables false
open Go.ChangeShapes Go.WideShapes Go.ChangeAt Go.RowKit

theorem val_zero (n : Nat) : val 0 n = n := by unfold val; omega
/-- All digits turned. -/
theorem xor_all (b : Nat) (h : Wd b) : bits BinOp.xor IntKind.u64 IntKind.u64.max (b : Int) = ((18446744073709551615 - b : Nat) : Int) := by
  have e := bits_xor_u64_nat 18446744073709551615 b (by omega) h
  have hm : IntKind.u64.max = ((18446744073709551615 : Nat) : Int) := rfl
  rw [hm, e]
  congr 1
  have h1 : (BitVec.allOnes 64 ^^^ BitVec.ofNat 64 b).toNat = 18446744073709551615 ^^^ b := by
    rw [BitVec.toNat_xor, BitVec.toNat_ofNat, Nat.mod_eq_of_lt h]
    rfl
  have h2 : (~~~ (BitVec.ofNat 64 b)).toNat = 18446744073709551615 - b := by
    rw [BitVec.toNat_not, BitVec.toNat_ofNat, Nat.mod_eq_of_lt h]
  rw [← h1, ← h2, BitVec.not_def]

set_option maxHeartbeats 1000000 in
set_option maxRecDepth 100000 in
theorem over_wide (a b c m1h m1l m2h m2l sh sl nb : Nat) (ov : Bool) (W : World) (hn1 : bits BinOp.xor IntKind.u64 IntKind.u64.max (b : Int) = (nb : Int)) (hn2 : bits BinOp.xor IntKind.u64 (if IntKind.u64.signed = true then -1 else IntKind.u64.max) (b : Int) = (nb : Int)) (hlt : decide (nb < a) = true) (hp : Lib.TabIs Tryd.prog W "internal/strconv.uint64pow10" .u64 Lib.pow10Tab)
    (A1 : ∀ w, Calls Tryd.prog 22 #[.int .u64 a, .int .u64 c] w fun e w' => e = .returned (.agg #[.int .u64 m1h, .int .u64 m1l]) ∧ Gr w w')
    (A2 : ∀ w, Calls Tryd.prog 22 #[.int .u64 b, .int .u64 c] w fun e w' => e = .returned (.agg #[.int .u64 m2h, .int .u64 m2l]) ∧ Gr w w')
    (A3 : ∀ w, Calls Tryd.prog 12 #[.agg #[.int .u64 m1h, .int .u64 m1l], .agg #[.int .u64 m2h, .int .u64 m2l]] w fun e w' => e = .returned (.tuple #[.agg #[.int .u64 sh, .int .u64 sl], .bool ov]) ∧ Gr w w') :
    Calls Tryd.prog 7 #[.int .u64 a, .int .u64 b, .int .u64 c] W fun e w' => e = .returned (.bool true) ∧ Gr W w' := by
  have H1 := Lib.hid A1
  have H2 := Lib.hid A2
  have H3 := Lib.hid A3
  have AW : ∀ w, Gr W w → Calls Tryd.prog 19 #[] w fun e w' => e = .returned (.bool true) ∧ Gr w w' := fun w g => c_awake w (tab_below hp g)
  have HAW := Lib.hid AW
  clear A1 A2 A3 AW hp
  go_enter Tryd.func7, Tryd.ntmps7
  go_wp2_with fail
  go_at_call 22
  refine ((H1.out _)).mono ?_
  rintro e w1 ⟨rfl, hw1⟩
  have gw1 : Gr W w1 := Gr.trans (by go_grown) hw1
  clear hw1
  go_wp2_with fail
  go_at_call 22
  refine ((H2.out _)).mono ?_
  rintro e w2 ⟨rfl, hw2⟩
  have gw2 : Gr W w2 := Gr.trans (by have gg := gw1; have gs := gg.size; go_grown) hw2
  clear hw2 gw1
  go_wp2_with fail
  go_at_call 12
  refine ((H3.out _)).mono ?_
  rintro e w3 ⟨rfl, hw3⟩
  have gw3 : Gr W w3 := Gr.trans (by have gg := gw2; have gs := gg.size; go_grown) hw3
  clear hw3 gw2
  go_wp2_with fail
  go_at_call 19
  refine ((HAW.out _ (by have gg := gw3; have gs := gg.size; go_grown))).mono ?_
  rintro e w4 ⟨rfl, hw4⟩
  have gw4 : Gr W w4 := Gr.trans (by have gg := gw3; have gs := gg.size; go_grown) hw4
  clear hw4 gw3
  go_wp2_with fail
  go_ret
  exact ⟨rfl, gw4⟩

set_option maxHeartbeats 1000000 in
set_option maxRecDepth 100000 in
theorem over_in (a b c d m1h m1l m2h m2l sh sl nb : Nat) (W : World) (hn1 : bits BinOp.xor IntKind.u64 IntKind.u64.max (b : Int) = (nb : Int)) (hn2 : bits BinOp.xor IntKind.u64 (if IntKind.u64.signed = true then -1 else IntKind.u64.max) (b : Int) = (nb : Int)) (hlt : decide (nb < a) = false) (hd : IntKind.u64.wrap ((a : Int) + (b : Int)) = (d : Int)) (hp : Lib.TabIs Tryd.prog W "internal/strconv.uint64pow10" .u64 Lib.pow10Tab)
    (A1 : ∀ w, Calls Tryd.prog 22 #[.int .u64 a, .int .u64 c] w fun e w' => e = .returned (.agg #[.int .u64 m1h, .int .u64 m1l]) ∧ Gr w w')
    (A2 : ∀ w, Calls Tryd.prog 22 #[.int .u64 b, .int .u64 c] w fun e w' => e = .returned (.agg #[.int .u64 m2h, .int .u64 m2l]) ∧ Gr w w')
    (A3 : ∀ w, Calls Tryd.prog 12 #[.agg #[.int .u64 m1h, .int .u64 m1l], .agg #[.int .u64 m2h, .int .u64 m2l]] w fun e w' => e = .returned (.tuple #[.agg #[.int .u64 sh, .int .u64 sl], .bool false]) ∧ Gr w w')
    (A4 : ∀ w, Calls Tryd.prog 11 #[.int .u64 0, .int .u64 d] w fun e w' => e = .returned (.agg #[.int .u64 0, .int .u64 d]) ∧ Gr w w')
    (A5 : ∀ w, Calls Tryd.prog 20 #[.agg #[.int .u64 0, .int .u64 d], .int .u64 c] w fun e w' => e = .returned (.tuple #[.int .u64 0, .agg #[.int .u64 sh, .int .u64 sl]]) ∧ Gr w w')
    (A6 : ∀ w, Calls Tryd.prog 22 #[.int .u64 d, .int .u64 c] w fun e w' => e = .returned (.agg #[.int .u64 sh, .int .u64 sl]) ∧ Gr w w')
    (A7 : ∀ w, Calls Tryd.prog 22 #[.int .u64 c, .int .u64 d] w fun e w' => e = .returned (.agg #[.int .u64 sh, .int .u64 sl]) ∧ Gr w w') :
    Calls Tryd.prog 7 #[.int .u64 a, .int .u64 b, .int .u64 c] W fun e w' => e = .returned (.bool true) ∧ Gr W w' := by
  have H1 := Lib.hid A1
  have H2 := Lib.hid A2
  have H3 := Lib.hid A3
  have H4 := Lib.hid A4
  have H5 := Lib.hid A5
  have H6 := Lib.hid A6
  have H7 := Lib.hid A7
  have AW : ∀ w, Gr W w → Calls Tryd.prog 19 #[] w fun e w' => e = .returned (.bool true) ∧ Gr w w' := fun w g => c_awake w (tab_below hp g)
  have HAW := Lib.hid AW
  clear A1 A2 A3 A4 A5 A6 A7 AW hp
  go_enter Tryd.func7, Tryd.ntmps7
  go_wp2_with fail
  go_at_call 22
  refine ((H1.out _)).mono ?_
  rintro e w1 ⟨rfl, hw1⟩
  have gw1 : Gr W w1 := Gr.trans (by go_grown) hw1
  clear hw1
  go_wp2_with fail
  go_at_call 22
  refine ((H2.out _)).mono ?_
  rintro e w2 ⟨rfl, hw2⟩
  have gw2 : Gr W w2 := Gr.trans (by have gg := gw1; have gs := gg.size; go_grown) hw2
  clear hw2 gw1
  go_wp2_with fail
  go_at_call 12
  refine ((H3.out _)).mono ?_
  rintro e w3 ⟨rfl, hw3⟩
  have gw3 : Gr W w3 := Gr.trans (by have gg := gw2; have gs := gg.size; go_grown) hw3
  clear hw3 gw2
  go_wp2_with fail
  go_at_call 11
  refine ((H4.out _)).mono ?_
  rintro e w4 ⟨rfl, hw4⟩
  have cw4_0_0 : w4.cell? ⟨w3.heap.size, 0, none⟩ = some (.int .u64 sh) := cell_gr hw4 (by go_simp)
  have cw4_0_1 : w4.cell? ⟨w3.heap.size, 1, none⟩ = some (.int .u64 sl) := cell_gr hw4 (by go_simp)
  have zw4_0 : w3.heap.size < w4.heap.size := World.block_lt_of_cell? _ _ cw4_0_0
  have gw4 : Gr W w4 := Gr.trans (by have gg := gw3; have gs := gg.size; go_grown) hw4
  clear hw4 gw3
  go_wp2_with fail
  go_at_call 20
  refine ((H5.out _)).mono ?_
  rintro e w5 ⟨rfl, hw5⟩
  have cw5_0_0 : w5.cell? ⟨w3.heap.size, 0, none⟩ = some (.int .u64 sh) := cell_gr hw5 (by go_simp)
  have cw5_0_1 : w5.cell? ⟨w3.heap.size, 1, none⟩ = some (.int .u64 sl) := cell_gr hw5 (by go_simp)
  have zw5_0 : w3.heap.size < w5.heap.size := World.block_lt_of_cell? _ _ cw5_0_0
  have gw5 : Gr W w5 := Gr.trans (by have gg := gw4; have gs := gg.size; go_grown) hw5
  clear hw5 gw4 zw4_0 cw4_0_0 cw4_0_1
  go_wp2_with fail
  refine wp_region_spread (by kernel_rfl) (by kernel_rfl) ?_
  repeat (first | go_big_quiet_skip | (go_big_quiet_want; go_big_quiet_op; (first | go_big_quiet_on | (apply Exists.intro; refine ⟨fun _ => ?_, ?_⟩; (· (first | (go_at_call 22; first | ((with_reducible refine ((H6.out _)).mono ?_); rintro e w' ⟨rfl, hg⟩; exact ⟨rfl, spread_gr hg⟩) | ((with_reducible refine ((H7.out _)).mono ?_); rintro e w' ⟨rfl, hg⟩; exact ⟨rfl, spread_gr hg⟩)) | (go_at_call 19; first | ((with_reducible refine ((HAW.out _ (Gr.trans (by have gg := gw5; have gs := gg.size; go_grown) (gr_spread _ _)))).mono ?_); rintro e w' ⟨rfl, hg⟩; exact ⟨rfl, spread_gr hg⟩)))); go_big_quiet_on))))
  refine wpQuiet_nil ?_
  intro wr hr
  obtain ⟨mr, rfl⟩ := hr
  go_wp2_with fail
  go_ret
  exact ⟨rfl, Gr.trans (by have gg := gw5; have gs := gg.size; go_grown) (gr_spread _ _)⟩

set_option maxRecDepth 100000 in
theorem walk_WideOver (a b c : Nat) (h1 : Wd a) (h2 : Wd b) (h3 : Wd c) (W : World) (hp : Lib.TabIs Tryd.prog W "internal/strconv.uint64pow10" .u64 Lib.pow10Tab) :
    Calls Tryd.prog 7 #[.int .u64 a, .int .u64 b, .int .u64 c] W fun e w' => e = .returned (.bool true) ∧ Gr W w' := by
  have A1 := c_Mul a c h1 h3
  have A2 := c_Mul b c h2 h3
  have n1 := xor_all b h2
  have B1 := mulHi h1 h3
  have B2 := mulHi h2 h3
  have A3 := c_Add _ _ _ _ (show Wd (a * c / 18446744073709551616) by unfold Wd; omega) (wd_mod (a * c)) (show Wd (b * c / 18446744073709551616) by unfold Wd; omega) (wd_mod (b * c))
  rw [val_words, val_words] at A3
  by_cases hab : Wd (a + b)
  · have hd : IntKind.u64.wrap ((a : Int) + (b : Int)) = ((a + b : Nat) : Int) := by rw [← Int.natCast_add]; exact IntWalk.u64_in _ (by unfold Wd at hab; omega)
    have hs : a * c + b * c = (a + b) * c := (Nat.add_mul a b c).symm
    have hov : decide (18446744073709551616 ≤ (a * c + b * c) / 18446744073709551616) = false := by
      rw [hs]
      have := mulHi hab h3
      exact decide_eq_false (by omega)
    have hq : (a + b) * c / 18446744073709551616 % 18446744073709551616 = (a + b) * c / 18446744073709551616 := by
      have := mulHi hab h3
      exact Nat.mod_eq_of_lt (by omega)
    have hz : (a + b) * c / 18446744073709551616 / 18446744073709551616 = 0 := by
      have := mulHi hab h3
      exact Nat.div_eq_of_lt (by omega)
    rw [hov, hs, hq] at A3
    have A5 := c_Times 0 (a + b) c (by unfold Wd; omega) hab h3
    have hv : val 0 (a + b) = a + b := val_zero _
    rw [hv, hz, hq] at A5
    have A6 := c_Mul (a + b) c hab h3
    have A7 := c_Mul c (a + b) h3 hab
    rw [Nat.mul_comm c (a + b)] at A7
    exact over_in a b c (a + b) _ _ _ _ _ _ _ W n1 n1 (decide_eq_false (by unfold Wd at h2 hab; omega)) hd hp A1 A2 A3 (c_w 0 (a + b)) A5 A6 A7
  · exact over_wide a b c _ _ _ _ _ _ _ _ W n1 n1 (decide_eq_true (by unfold Wd at h2 hab; omega)) hp A1 A2 A3
end Go.Proofs.YtihfkecigkmfjaaDoor
