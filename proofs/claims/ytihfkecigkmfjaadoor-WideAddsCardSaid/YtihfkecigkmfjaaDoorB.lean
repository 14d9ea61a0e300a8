/- WideBack's walk -/
import Derived.Test.YtihfkecigkmfjaaDoorA
namespace Go.Proofs.YtihfkecigkmfjaaDoor
set_option linter.unusedVariables false
open Go.ChangeShapes Go.WideShapes Go.ChangeAt Go.RowKit

theorem cmp_neg (a b : Nat) : cmpN a b = -cmpN b a := by unfold cmpN; split <;> split <;> omega
theorem cmp_lt0 (a b : Nat) : decide (cmpN a b < 0) = decide (a < b) := by
  unfold cmpN; split
  · rename_i h; simp [h]
  · rename_i h; split <;> simp [h]

/-- Two numbers of two words, held against each other. -/
theorem eqU (ah al bh bl : Nat) (w : World) : (binOp .eql 24 (.agg #[.int .u64 ah, .int .u64 al]) (.agg #[.int .u64 bh, .int .u64 bl])).run Tryd.prog w = .ok (.bool (decide (ah = bh ∧ al = bl))) w := by
  by_cases h1 : ah = bh
  · subst h1
    by_cases h2 : al = bl
    · subst h2
      simp [go_sem]
    · have e : ((al : Int) == (bl : Int)) = false := by simp; omega
      simp [go_sem, h2, e]
  · have e : ((ah : Int) == (bh : Int)) = false := by simp; omega
    simp [go_sem, h1, e]
theorem a_w00 (w : World) : Calls Tryd.prog 11 #[.int .u64 0, .int .u64 0] w fun e w' => e = .returned (.agg #[.int .u64 0, .int .u64 0]) ∧ Gr w w' := c_w 0 0 w

set_option maxHeartbeats 1000000 in
set_option maxRecDepth 100000 in
theorem walk_WideBack_core (ah al bh bl sh sl eh el : Nat) (ov ls : Bool) (k1 k2 k3 : Int) (W : World) (hp : Lib.TabIs Tryd.prog W "internal/strconv.uint64pow10" .u64 Lib.pow10Tab)
    (A1 : ∀ w, Calls Tryd.prog 12 #[.agg #[.int .u64 ah, .int .u64 al], .agg #[.int .u64 bh, .int .u64 bl]] w fun e w' => e = .returned (.tuple #[.agg #[.int .u64 sh, .int .u64 sl], .bool ov]) ∧ Gr w w')
    (A2 : ∀ w, Calls Tryd.prog 12 #[.agg #[.int .u64 bh, .int .u64 bl], .agg #[.int .u64 ah, .int .u64 al]] w fun e w' => e = .returned (.tuple #[.agg #[.int .u64 sh, .int .u64 sl], .bool ov]) ∧ Gr w w')
    (A3 : ∀ w, Calls Tryd.prog 15 #[.agg #[.int .u64 sh, .int .u64 sl], .agg #[.int .u64 bh, .int .u64 bl]] w fun e w' => e = .returned (.tuple #[.agg #[.int .u64 ah, .int .u64 al], .bool ov]) ∧ Gr w w')
    (A4 : ∀ w, Calls Tryd.prog 15 #[.agg #[.int .u64 ah, .int .u64 al], .agg #[.int .u64 bh, .int .u64 bl]] w fun e w' => e = .returned (.tuple #[.agg #[.int .u64 eh, .int .u64 el], .bool ls]) ∧ Gr w w')
    (A5 : ∀ w, Calls Tryd.prog 17 #[.agg #[.int .u64 sh, .int .u64 sl], .agg #[.int .u64 ah, .int .u64 al]] w fun e w' => e = .returned (.int .i64 k1) ∧ Gr w w')
    (A6 : ∀ w, Calls Tryd.prog 17 #[.agg #[.int .u64 ah, .int .u64 al], .agg #[.int .u64 bh, .int .u64 bl]] w fun e w' => e = .returned (.int .i64 k2) ∧ Gr w w')
    (A7 : ∀ w, Calls Tryd.prog 17 #[.agg #[.int .u64 bh, .int .u64 bl], .agg #[.int .u64 ah, .int .u64 al]] w fun e w' => e = .returned (.int .i64 k3) ∧ Gr w w')
    (x : Bool) (hx1 : ∀ w, (binOp .eql 24 (.agg #[.int .u64 eh, .int .u64 el]) (.agg #[.int .u64 0, .int .u64 0])).run Tryd.prog w = .ok (.bool x) w) (hx2 : ∀ w, (binOp .eql 24 (.agg #[.int .u64 ah, .int .u64 al]) (.agg #[.int .u64 bh, .int .u64 bl])).run Tryd.prog w = .ok (.bool x) w) (hk1 : decide (k1 < 0) = ov) (hk2 : decide (k2 < 0) = ls) (hn0 : -k3 = k2) (hn1 : IntKind.i64.wrap k2 = k2) (hn2 : wrap64 k2 = k2) :
    Calls Tryd.prog 6 #[.int .u64 ah, .int .u64 al, .int .u64 bh, .int .u64 bl] W fun e w' => e = .returned (.bool true) ∧ Gr W w' := by
  have H1 := Lib.hid A1
  have H2 := Lib.hid A2
  have H3 := Lib.hid A3
  have H4 := Lib.hid A4
  have H5 := Lib.hid A5
  have H6 := Lib.hid A6
  have H7 := Lib.hid A7
  have AW : ∀ w, Gr W w → Calls Tryd.prog 19 #[] w fun e w' => e = .returned (.bool true) ∧ Gr w w' := fun w g => c_awake w (tab_below hp g)
  have HAW := Lib.hid AW
  clear A1 A2 A3 A4 A5 A6 A7 AW hp
  go_enter Tryd.func6, Tryd.ntmps6
  go_wp2_with fail
  go_at_call 11
  refine ((c_w ah al _)).mono ?_
  rintro e w1 ⟨rfl, hw1⟩
  have gw1 : Gr W w1 := Gr.trans (by go_grown) hw1
  clear hw1
  go_wp2_with fail
  go_at_call 11
  refine ((c_w bh bl _)).mono ?_
  rintro e w2 ⟨rfl, hw2⟩
  have cw2_0_0 : w2.cell? ⟨w1.heap.size, 0, none⟩ = some (.int .u64 ah) := cell_gr hw2 (by go_simp)
  have cw2_0_1 : w2.cell? ⟨w1.heap.size, 1, none⟩ = some (.int .u64 al) := cell_gr hw2 (by go_simp)
  have zw2_0 : w1.heap.size < w2.heap.size := World.block_lt_of_cell? _ _ cw2_0_0
  have gw2 : Gr W w2 := Gr.trans (by have gg := gw1; have gs := gg.size; go_grown) hw2
  clear hw2 gw1
  go_wp2_with fail
  go_at_call 12
  refine ((H1.out _)).mono ?_
  rintro e w3 ⟨rfl, hw3⟩
  have cw3_0_0 : w3.cell? ⟨w1.heap.size, 0, none⟩ = some (.int .u64 ah) := cell_gr hw3 (by go_simp)
  have cw3_0_1 : w3.cell? ⟨w1.heap.size, 1, none⟩ = some (.int .u64 al) := cell_gr hw3 (by go_simp)
  have zw3_0 : w1.heap.size < w3.heap.size := World.block_lt_of_cell? _ _ cw3_0_0
  have cw3_1_0 : w3.cell? ⟨w2.heap.size, 0, none⟩ = some (.int .u64 bh) := cell_gr hw3 (by go_simp)
  have cw3_1_1 : w3.cell? ⟨w2.heap.size, 1, none⟩ = some (.int .u64 bl) := cell_gr hw3 (by go_simp)
  have zw3_1 : w2.heap.size < w3.heap.size := World.block_lt_of_cell? _ _ cw3_1_0
  have gw3 : Gr W w3 := Gr.trans (by have gg := gw2; have gs := gg.size; go_grown) hw3
  clear hw3 gw2 zw2_0 cw2_0_0 cw2_0_1
  go_wp2_with fail
  go_at_call 12
  refine ((H2.out _)).mono ?_
  rintro e w4 ⟨rfl, hw4⟩
  have cw4_0_0 : w4.cell? ⟨w1.heap.size, 0, none⟩ = some (.int .u64 ah) := cell_gr hw4 (by go_simp)
  have cw4_0_1 : w4.cell? ⟨w1.heap.size, 1, none⟩ = some (.int .u64 al) := cell_gr hw4 (by go_simp)
  have zw4_0 : w1.heap.size < w4.heap.size := World.block_lt_of_cell? _ _ cw4_0_0
  have cw4_1_0 : w4.cell? ⟨w2.heap.size, 0, none⟩ = some (.int .u64 bh) := cell_gr hw4 (by go_simp)
  have cw4_1_1 : w4.cell? ⟨w2.heap.size, 1, none⟩ = some (.int .u64 bl) := cell_gr hw4 (by go_simp)
  have zw4_1 : w2.heap.size < w4.heap.size := World.block_lt_of_cell? _ _ cw4_1_0
  have cw4_2_0 : w4.cell? ⟨w3.heap.size, 0, none⟩ = some (.int .u64 sh) := cell_gr hw4 (by go_simp)
  have cw4_2_1 : w4.cell? ⟨w3.heap.size, 1, none⟩ = some (.int .u64 sl) := cell_gr hw4 (by go_simp)
  have zw4_2 : w3.heap.size < w4.heap.size := World.block_lt_of_cell? _ _ cw4_2_0
  have gw4 : Gr W w4 := Gr.trans (by have gg := gw3; have gs := gg.size; go_grown) hw4
  clear hw4 gw3 zw3_0 cw3_0_0 cw3_0_1 zw3_1 cw3_1_0 cw3_1_1
  go_wp2_with fail
  go_at_call 15
  refine ((H3.out _)).mono ?_
  rintro e w5 ⟨rfl, hw5⟩
  have cw5_0_0 : w5.cell? ⟨w1.heap.size, 0, none⟩ = some (.int .u64 ah) := cell_gr hw5 (by go_simp)
  have cw5_0_1 : w5.cell? ⟨w1.heap.size, 1, none⟩ = some (.int .u64 al) := cell_gr hw5 (by go_simp)
  have zw5_0 : w1.heap.size < w5.heap.size := World.block_lt_of_cell? _ _ cw5_0_0
  have cw5_1_0 : w5.cell? ⟨w2.heap.size, 0, none⟩ = some (.int .u64 bh) := cell_gr hw5 (by go_simp)
  have cw5_1_1 : w5.cell? ⟨w2.heap.size, 1, none⟩ = some (.int .u64 bl) := cell_gr hw5 (by go_simp)
  have zw5_1 : w2.heap.size < w5.heap.size := World.block_lt_of_cell? _ _ cw5_1_0
  have cw5_2_0 : w5.cell? ⟨w3.heap.size, 0, none⟩ = some (.int .u64 sh) := cell_gr hw5 (by go_simp)
  have cw5_2_1 : w5.cell? ⟨w3.heap.size, 1, none⟩ = some (.int .u64 sl) := cell_gr hw5 (by go_simp)
  have zw5_2 : w3.heap.size < w5.heap.size := World.block_lt_of_cell? _ _ cw5_2_0
  have cw5_3_0 : w5.cell? ⟨w4.heap.size, 0, none⟩ = some (.int .u64 sh) := cell_gr hw5 (by go_simp)
  have cw5_3_1 : w5.cell? ⟨w4.heap.size, 1, none⟩ = some (.int .u64 sl) := cell_gr hw5 (by go_simp)
  have zw5_3 : w4.heap.size < w5.heap.size := World.block_lt_of_cell? _ _ cw5_3_0
  have gw5 : Gr W w5 := Gr.trans (by have gg := gw4; have gs := gg.size; go_grown) hw5
  clear hw5 gw4 zw4_0 cw4_0_0 cw4_0_1 zw4_1 cw4_1_0 cw4_1_1 zw4_2 cw4_2_0 cw4_2_1
  go_wp2_with fail
  go_at_call 15
  refine ((H4.out _)).mono ?_
  rintro e w6 ⟨rfl, hw6⟩
  have cw6_0_0 : w6.cell? ⟨w1.heap.size, 0, none⟩ = some (.int .u64 ah) := cell_gr hw6 (by go_simp)
  have cw6_0_1 : w6.cell? ⟨w1.heap.size, 1, none⟩ = some (.int .u64 al) := cell_gr hw6 (by go_simp)
  have zw6_0 : w1.heap.size < w6.heap.size := World.block_lt_of_cell? _ _ cw6_0_0
  have cw6_1_0 : w6.cell? ⟨w2.heap.size, 0, none⟩ = some (.int .u64 bh) := cell_gr hw6 (by go_simp)
  have cw6_1_1 : w6.cell? ⟨w2.heap.size, 1, none⟩ = some (.int .u64 bl) := cell_gr hw6 (by go_simp)
  have zw6_1 : w2.heap.size < w6.heap.size := World.block_lt_of_cell? _ _ cw6_1_0
  have cw6_2_0 : w6.cell? ⟨w3.heap.size, 0, none⟩ = some (.int .u64 sh) := cell_gr hw6 (by go_simp)
  have cw6_2_1 : w6.cell? ⟨w3.heap.size, 1, none⟩ = some (.int .u64 sl) := cell_gr hw6 (by go_simp)
  have zw6_2 : w3.heap.size < w6.heap.size := World.block_lt_of_cell? _ _ cw6_2_0
  have cw6_3_0 : w6.cell? ⟨w4.heap.size, 0, none⟩ = some (.int .u64 sh) := cell_gr hw6 (by go_simp)
  have cw6_3_1 : w6.cell? ⟨w4.heap.size, 1, none⟩ = some (.int .u64 sl) := cell_gr hw6 (by go_simp)
  have zw6_3 : w4.heap.size < w6.heap.size := World.block_lt_of_cell? _ _ cw6_3_0
  have cw6_4_0 : w6.cell? ⟨w5.heap.size, 0, none⟩ = some (.int .u64 ah) := cell_gr hw6 (by go_simp)
  have cw6_4_1 : w6.cell? ⟨w5.heap.size, 1, none⟩ = some (.int .u64 al) := cell_gr hw6 (by go_simp)
  have zw6_4 : w5.heap.size < w6.heap.size := World.block_lt_of_cell? _ _ cw6_4_0
  have gw6 : Gr W w6 := Gr.trans (by have gg := gw5; have gs := gg.size; go_grown) hw6
  clear hw6 gw5 zw5_0 cw5_0_0 cw5_0_1 zw5_1 cw5_1_0 cw5_1_1 zw5_2 cw5_2_0 cw5_2_1 zw5_3 cw5_3_0 cw5_3_1
  go_wp2_with fail
  refine wp_region_spread (by kernel_rfl) (by kernel_rfl) ?_
  repeat (first | go_big_quiet_skip | (go_big_quiet_want; go_big_quiet_op; (first | go_big_quiet_on | (apply Exists.intro; refine ⟨fun _ => ?_, ?_⟩; (· (first | (go_at_call 17; first | ((with_reducible refine ((H5.out _)).mono ?_); rintro e w' ⟨rfl, hg⟩; exact ⟨rfl, spread_gr hg⟩) | ((with_reducible refine ((H6.out _)).mono ?_); rintro e w' ⟨rfl, hg⟩; exact ⟨rfl, spread_gr hg⟩) | ((with_reducible refine ((H7.out _)).mono ?_); rintro e w' ⟨rfl, hg⟩; exact ⟨rfl, spread_gr hg⟩)) | (go_at_call 11; first | ((with_reducible refine ((a_w00 _)).mono ?_); rintro e w' ⟨rfl, hg⟩; exact ⟨rfl, spread_gr hg⟩)) | (go_at_call 19; first | ((with_reducible refine ((HAW.out _ (Gr.trans (by have gg := gw6; have gs := gg.size; go_grown) (gr_spread _ _)))).mono ?_); rintro e w' ⟨rfl, hg⟩; exact ⟨rfl, spread_gr hg⟩)))); go_big_quiet_on))))
  refine wpQuiet_nil ?_
  intro wr hr
  obtain ⟨mr, rfl⟩ := hr
  go_wp2_with fail
  go_ret
  exact ⟨rfl, Gr.trans (by have gg := gw6; have gs := gg.size; go_grown) (gr_spread _ _)⟩

theorem val_lt {a b : Nat} (ha : Wd a) (hb : Wd b) : val a b < 340282366920938463463374607431768211456 := by
  unfold val
  have h1 : a * 18446744073709551616 ≤ 18446744073709551615 * 18446744073709551616 := Nat.mul_le_mul_right _ (Nat.le_sub_one_of_lt ha)
  have h2 : b < 18446744073709551616 := hb
  omega
set_option maxRecDepth 100000 in
theorem walk_WideBack (ah al bh bl : Nat) (h1 : Wd ah) (h2 : Wd al) (h3 : Wd bh) (h4 : Wd bl) (W : World) (hp : Lib.TabIs Tryd.prog W "internal/strconv.uint64pow10" .u64 Lib.pow10Tab) :
    Calls Tryd.prog 6 #[.int .u64 ah, .int .u64 al, .int .u64 bh, .int .u64 bl] W fun e w' => e = .returned (.bool true) ∧ Gr W w' := by
  have hA : val ah al < 340282366920938463463374607431768211456 := val_lt h1 h2
  have hB : val bh bl < 340282366920938463463374607431768211456 := val_lt h3 h4
  obtain ⟨A, hAe⟩ : ∃ A, A = val ah al := ⟨_, rfl⟩
  obtain ⟨B, hBe⟩ : ∃ B, B = val bh bl := ⟨_, rfl⟩
  obtain ⟨sh, hsh⟩ : ∃ s, s = (A + B) / 18446744073709551616 % 18446744073709551616 := ⟨_, rfl⟩
  obtain ⟨sl, hsl⟩ : ∃ s, s = (A + B) % 18446744073709551616 := ⟨_, rfl⟩
  obtain ⟨eh, heh⟩ : ∃ s, s = (A + 340282366920938463463374607431768211456 - B) / 18446744073709551616 % 18446744073709551616 := ⟨_, rfl⟩
  obtain ⟨el, hel⟩ : ∃ s, s = (A + 340282366920938463463374607431768211456 - B) % 18446744073709551616 := ⟨_, rfl⟩
  have hM : val 18446744073709551616 0 = 340282366920938463463374607431768211456 := rfl
  have wsh : Wd sh := by rw [hsh]; exact wd_mod _
  have wsl : Wd sl := by rw [hsl]; exact wd_mod _
  have hS : val sh sl = (A + B) % 340282366920938463463374607431768211456 := by rw [hsh, hsl]; unfold val; omega
  have a1 : ah = A / 18446744073709551616 ∧ al = A % 18446744073709551616 := by rw [hAe]; unfold val Wd at *; omega
  have b1 : bh = B / 18446744073709551616 ∧ bl = B % 18446744073709551616 := by rw [hBe]; unfold val Wd at *; omega
  rw [← hAe] at hA
  rw [← hBe] at hB
  have hov : (18446744073709551616 ≤ (A + B) / 18446744073709551616) ↔ 340282366920938463463374607431768211456 ≤ A + B := by omega
  have C1 := c_Add ah al bh bl h1 h2 h3 h4
  have C2 := c_Add bh bl ah al h3 h4 h1 h2
  have C3 := c_Sub sh sl bh bl wsh wsl h3 h4
  have C4 := c_Sub ah al bh bl h1 h2 h3 h4
  have C5 := c_Compare sh sl ah al wsh wsl h1 h2
  have C6 := c_Compare ah al bh bl h1 h2 h3 h4
  have C7 := c_Compare bh bl ah al h3 h4 h1 h2
  rw [← hAe, ← hBe, ← hsh, ← hsl] at C1
  rw [← hAe, ← hBe, Nat.add_comm B A, ← hsh, ← hsl] at C2
  rw [← hBe, hS, hM] at C3
  rw [← hAe, ← hBe, hM, ← heh, ← hel] at C4
  rw [← hAe, hS] at C5
  rw [← hAe, ← hBe] at C6 C7
  have e3h : ((A + B) % 340282366920938463463374607431768211456 + 340282366920938463463374607431768211456 - B) / 18446744073709551616 % 18446744073709551616 = ah := by rw [a1.1]; omega
  have e3l : ((A + B) % 340282366920938463463374607431768211456 + 340282366920938463463374607431768211456 - B) % 18446744073709551616 = al := by rw [a1.2]; omega
  have e3o : decide ((A + B) % 340282366920938463463374607431768211456 < B) = decide (18446744073709551616 ≤ (A + B) / 18446744073709551616) := by
    rw [decide_eq_decide]; omega
  rw [e3h, e3l, e3o] at C3
  have e5 : decide (cmpN ((A + B) % 340282366920938463463374607431768211456) A < 0) = decide (18446744073709551616 ≤ (A + B) / 18446744073709551616) := by
    rw [cmp_lt0, decide_eq_decide]; omega
  have hx : decide (eh = 0 ∧ el = 0) = decide (ah = bh ∧ al = bl) := by
    rw [decide_eq_decide]; omega
  have hc2 : -1 ≤ cmpN A B ∧ cmpN A B ≤ 1 := by unfold cmpN; split <;> (try split) <;> omega
  exact walk_WideBack_core ah al bh bl sh sl eh el _ _ _ _ _ W hp C1 C2 C3 C4 C5 C6 C7 (decide (ah = bh ∧ al = bl))
    (fun w => by rw [← hx]; exact eqU eh el 0 0 w) (fun w => eqU ah al bh bl w) e5 (cmp_lt0 A B) (cmp_neg A B).symm (IntWalk.i64_in _ (by omega)) (IntWalk.wrap64_in _ (by omega))
end Go.Proofs.YtihfkecigkmfjaaDoor
