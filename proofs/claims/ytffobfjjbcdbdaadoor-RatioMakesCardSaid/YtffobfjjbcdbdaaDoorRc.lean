/- ratio: what the document fixes; RatioNears, RatioWhole -/
import Derived.Test.YtffobfjjbcdbdaaDoorRb
namespace Go.Proofs.YtffobfjjbcdbdaaDoor
set_option linter.unusedVariables false
open Go.ChangeShapes Go.WideShapes Go.ChangeAt Go.RowKit

theorem p2_Make (w : World) : Calls Tryd.prog 29 #[.agg #[.int .u64 0, .int .u64 6], .int .u64 4] w fun e w' => e = .returned (.tuple #[.agg #[.int .u64 0, .int .u64 3, .int .u64 2], .nilIface]) ∧ Gr w w' := by
  have h := c_Make 0 6 4 (by unfold Wd; omega) (by unfold Wd; omega) (by unfold Wd; omega) (by omega) w
  have e1 : lowN (val 0 6) 4 / 18446744073709551616 = 0 := by decide +kernel
  have e2 : lowN (val 0 6) 4 % 18446744073709551616 = 3 := by decide +kernel
  have e3 : lowD (val 0 6) 4 = 2 := by decide +kernel
  rw [e1, e2, e3] at h
  exact h
theorem p2_Text (w : World) (hp : Lib.TabIs Tryd.prog w "internal/strconv.uint64pow10" .u64 Lib.pow10Tab) : Calls Tryd.prog 38 #[.agg #[.int .u64 0, .int .u64 3, .int .u64 2]] w fun e w' => e = .returned (.string ⟨#[51, 47, 50]⟩) ∧ Gr w w' := by
  have h := c_rtText 0 3 2 (by unfold Wd; omega) (by unfold Wd; omega) (by unfold Wd; omega) (by omega) w hp
  have e2 : lowN (val 0 3) 2 = 3 := by decide +kernel
  have e3 : lowD (val 0 3) 2 = 2 := by decide +kernel
  have e : (txt (val 0 3) 2).toArray = #[51, 47, 50] := by
    unfold txt
    rw [e2, e3, Lib.decDigits_eq, Lib.decDigits_eq]
    decide +kernel
  rw [e] at h
  exact h
theorem p2_Sound (w : World) : Calls Tryd.prog 35 #[.agg #[.int .u64 0, .int .u64 0, .int .u64 0]] w fun e w' => e = .returned (.bool false) ∧ Gr w w' := c_Sound 0 0 0 w
set_option maxRecDepth 100000 in
theorem p2_awake (W : World) (hp : Lib.TabIs Tryd.prog W "internal/strconv.uint64pow10" .u64 Lib.pow10Tab) :
    Calls Tryd.prog 33 #[] W fun e w' => e = .returned (.bool true) ∧ Gr W w' := by
  go_enter Tryd.func33, Tryd.ntmps33
  go_wp2_with fail
  go_at_call 29
  refine ((p2_Make _)).mono ?_
  rintro e w1 ⟨rfl, hw1⟩
  have gw1 : Gr W w1 := Gr.trans (by go_grown) hw1
  clear hw1
  go_wp2_with fail
  go_at_call 38
  refine ((p2_Text _ (tab_below hp (by have gg := gw1; have gs := gg.size; go_grown)))).mono ?_
  rintro e w2 ⟨rfl, hw2⟩
  have cw2_0_0 : w2.cell? ⟨w1.heap.size, 0, none⟩ = some (.int .u64 0) := cell_gr hw2 (by go_simp)
  have cw2_0_1 : w2.cell? ⟨w1.heap.size, 1, none⟩ = some (.int .u64 3) := cell_gr hw2 (by go_simp)
  have cw2_0_2 : w2.cell? ⟨w1.heap.size, 2, none⟩ = some (.int .u64 2) := cell_gr hw2 (by go_simp)
  have zw2_0 : w1.heap.size < w2.heap.size := World.block_lt_of_cell? _ _ cw2_0_0
  have gw2 : Gr W w2 := Gr.trans (by have gg := gw1; have gs := gg.size; go_grown) hw2
  clear hw2 gw1
  go_wp2_with fail
  go_at_call 35
  refine ((p2_Sound _)).mono ?_
  rintro e w3 ⟨rfl, hw3⟩
  have cw3_0_0 : w3.cell? ⟨w1.heap.size, 0, none⟩ = some (.int .u64 0) := cell_gr hw3 (by go_simp)
  have cw3_0_1 : w3.cell? ⟨w1.heap.size, 1, none⟩ = some (.int .u64 3) := cell_gr hw3 (by go_simp)
  have cw3_0_2 : w3.cell? ⟨w1.heap.size, 2, none⟩ = some (.int .u64 2) := cell_gr hw3 (by go_simp)
  have zw3_0 : w1.heap.size < w3.heap.size := World.block_lt_of_cell? _ _ cw3_0_0
  have gw3 : Gr W w3 := Gr.trans (by have gg := gw2; have gs := gg.size; go_grown) hw3
  clear hw3 gw2 zw2_0 cw2_0_0 cw2_0_1 cw2_0_2
  go_wp2_with fail
  go_ret
  exact ⟨rfl, by go_grown⟩

theorem c_Of (n : Int) (h : -9223372036854775808 ≤ n ∧ n ≤ 9223372036854775807) (w : World) :
    Calls Tryd.prog 31 #[.int .i64 n] w fun e w' => e = .returned (.agg #[.int .u64 (n.natAbs * n.natAbs / 18446744073709551616 : Nat), .int .u64 (n.natAbs * n.natAbs % 18446744073709551616 : Nat), .int .u64 1]) ∧ Gr w w' := by
  have A1 := c_Square n h
  generalize n.natAbs * n.natAbs / 18446744073709551616 = a at *
  generalize n.natAbs * n.natAbs % 18446744073709551616 = b at *
  have H1 := Lib.hid A1
  clear A1 h
  go_enter Tryd.func31, Tryd.ntmps31
  go_wp2_with fail
  go_at_call 19
  refine ((H1.out _)).mono ?_
  rintro e w1 ⟨rfl, hw1⟩
  have cw1_0_0 : w1.cell? ⟨w.heap.size, 0, none⟩ = some (.int .u64 0) := cell_gr hw1 (by go_simp)
  have fw1_0_0 : w1.frozen? ⟨w.heap.size, 0, none⟩ = false := frozen_gr (v := .int .u64 0) hw1 (by go_simp) (by go_simp)
  have cw1_0_1 : w1.cell? ⟨w.heap.size, 1, none⟩ = some (.int .u64 0) := cell_gr hw1 (by go_simp)
  have fw1_0_1 : w1.frozen? ⟨w.heap.size, 1, none⟩ = false := frozen_gr (v := .int .u64 0) hw1 (by go_simp) (by go_simp)
  have cw1_0_2 : w1.cell? ⟨w.heap.size, 2, none⟩ = some (.int .u64 0) := cell_gr hw1 (by go_simp)
  have fw1_0_2 : w1.frozen? ⟨w.heap.size, 2, none⟩ = false := frozen_gr (v := .int .u64 0) hw1 (by go_simp) (by go_simp)
  have zw1_0 : w.heap.size < w1.heap.size := World.block_lt_of_cell? _ _ cw1_0_0
  have gw1 : Gr w w1 := Gr.trans (by go_grown) hw1
  clear hw1
  go_wp2_with fail
  go_at_call 58
  refine ((c_over _ _ _ _)).mono ?_
  rintro e w2 ⟨rfl, hw2⟩
  have cw2_0_0 : w2.cell? ⟨w.heap.size, 0, none⟩ = some (.int .u64 0) := cell_gr hw2 (by go_simp)
  have fw2_0_0 : w2.frozen? ⟨w.heap.size, 0, none⟩ = false := frozen_gr (v := .int .u64 0) hw2 (by go_simp) (by go_simp)
  have cw2_0_1 : w2.cell? ⟨w.heap.size, 1, none⟩ = some (.int .u64 0) := cell_gr hw2 (by go_simp)
  have fw2_0_1 : w2.frozen? ⟨w.heap.size, 1, none⟩ = false := frozen_gr (v := .int .u64 0) hw2 (by go_simp) (by go_simp)
  have cw2_0_2 : w2.cell? ⟨w.heap.size, 2, none⟩ = some (.int .u64 0) := cell_gr hw2 (by go_simp)
  have fw2_0_2 : w2.frozen? ⟨w.heap.size, 2, none⟩ = false := frozen_gr (v := .int .u64 0) hw2 (by go_simp) (by go_simp)
  have zw2_0 : w.heap.size < w2.heap.size := World.block_lt_of_cell? _ _ cw2_0_0
  have gw2 : Gr w w2 := Gr.trans (by have gg := gw1; have gs := gg.size; go_grown) hw2
  clear hw2 gw1 zw1_0 cw1_0_0 fw1_0_0 cw1_0_1 fw1_0_1 cw1_0_2 fw1_0_2
  go_wp2_with fail
  refine bodyPost_ret (v := .agg #[.int .u64 a, .int .u64 b, .int .u64 1]) (by simp [results, Tryd.results31, go_sem, *]) rfl ⟨rfl, by go_grown⟩

set_option maxHeartbeats 4000000 in
set_option maxRecDepth 100000 in
theorem nears_walk (ai bi ci : Int) (ah al ad bh bl bd ch cl cd : Nat) (W : World) (hp : Lib.TabIs Tryd.prog W "internal/strconv.uint64pow10" .u64 Lib.pow10Tab) (x y z t : Bool) (k : Int) (ne : Bool)
    (A1 : ∀ w, Calls Tryd.prog 41 #[.agg #[.int .i64 ai, .int .u64 ah, .int .u64 al, .int .u64 ad], .agg #[.int .i64 bi, .int .u64 bh, .int .u64 bl, .int .u64 bd]] w fun e w' => e = .returned (.bool x) ∧ Gr w w')
    (A2 : ∀ w, Calls Tryd.prog 41 #[.agg #[.int .i64 bi, .int .u64 bh, .int .u64 bl, .int .u64 bd], .agg #[.int .i64 ai, .int .u64 ah, .int .u64 al, .int .u64 ad]] w fun e w' => e = .returned (.bool y) ∧ Gr w w')
    (A3 : ∀ w, Calls Tryd.prog 41 #[.agg #[.int .i64 ai, .int .u64 ah, .int .u64 al, .int .u64 ad], .agg #[.int .i64 ai, .int .u64 ah, .int .u64 al, .int .u64 ad]] w fun e w' => e = .returned (.bool false) ∧ Gr w w')
    (A4 : ∀ w, Calls Tryd.prog 41 #[.agg #[.int .i64 bi, .int .u64 bh, .int .u64 bl, .int .u64 bd], .agg #[.int .i64 ci, .int .u64 ch, .int .u64 cl, .int .u64 cd]] w fun e w' => e = .returned (.bool z) ∧ Gr w w')
    (A5 : ∀ w, Calls Tryd.prog 41 #[.agg #[.int .i64 ai, .int .u64 ah, .int .u64 al, .int .u64 ad], .agg #[.int .i64 ci, .int .u64 ch, .int .u64 cl, .int .u64 cd]] w fun e w' => e = .returned (.bool t) ∧ Gr w w')
    (A6 : ∀ w, Calls Tryd.prog 37 #[.agg #[.int .u64 ah, .int .u64 al, .int .u64 ad], .agg #[.int .u64 bh, .int .u64 bl, .int .u64 bd]] w fun e w' => e = .returned (.int .i64 k) ∧ Gr w w') 
    (e1 : (ai == bi) = !ne) (e2 : (ai != bi) = ne)
    (hc : (x = true ∧ y = false ∧ z = false ∧ decide (k ≤ 0) = true) ∨ (x = true ∧ y = false ∧ z = true ∧ t = true ∧ decide (k ≤ 0) = true) ∨ (x = false ∧ y = true ∧ decide (0 ≤ k) = true) ∨ (x = false ∧ y = false ∧ ne = false ∧ decide (0 ≤ k) = true)) :
    Calls Tryd.prog 12 #[.agg #[.int .i64 ai, .int .u64 ah, .int .u64 al, .int .u64 ad], .agg #[.int .i64 bi, .int .u64 bh, .int .u64 bl, .int .u64 bd], .agg #[.int .i64 ci, .int .u64 ch, .int .u64 cl, .int .u64 cd]] W fun e w' => e = .returned (.bool true) ∧ Gr W w' := by
  have H1 := Lib.hid A1
  have H2 := Lib.hid A2
  have H3 := Lib.hid A3
  have H4 := Lib.hid A4
  have H5 := Lib.hid A5
  have H6 := Lib.hid A6
  have AW : ∀ w, Gr W w → Calls Tryd.prog 33 #[] w fun e w' => e = .returned (.bool true) ∧ Gr w w' := fun w g => p2_awake w (tab_below hp g)
  have HAW := Lib.hid AW
  clear A1 A2 A3 A4 A5 A6 AW hp
  obtain ⟨u, hu⟩ : ∃ u, decide (0 ≤ k) = u := ⟨_, rfl⟩
  rcases hc with ⟨rfl, rfl, rfl, hk⟩ | ⟨rfl, rfl, rfl, rfl, hk⟩ | ⟨rfl, rfl, hk⟩ | ⟨rfl, rfl, rfl, hk⟩
  · cases ne
    all_goals cases u
    all_goals
      go_enter Tryd.func12, Tryd.ntmps12
      go_wp2_with fail
      go_at_call 41
      refine ((H1.out _)).mono ?_
      rintro e w1 ⟨rfl, hw1⟩
      have cw1_0_0 : w1.cell? ⟨W.heap.size, 0, none⟩ = some (.int .i64 ai) := cell_gr hw1 (by go_simp)
      have cw1_0_1 : w1.cell? ⟨W.heap.size, 1, none⟩ = some (.int .u64 ah) := cell_gr hw1 (by go_simp)
      have cw1_0_2 : w1.cell? ⟨W.heap.size, 2, none⟩ = some (.int .u64 al) := cell_gr hw1 (by go_simp)
      have cw1_0_3 : w1.cell? ⟨W.heap.size, 3, none⟩ = some (.int .u64 ad) := cell_gr hw1 (by go_simp)
      have zw1_0 : W.heap.size < w1.heap.size := World.block_lt_of_cell? _ _ cw1_0_0
      have cw1_1_0 : w1.cell? ⟨W.heap.size + 1, 0, none⟩ = some (.int .i64 bi) := cell_gr hw1 (by go_simp)
      have cw1_1_1 : w1.cell? ⟨W.heap.size + 1, 1, none⟩ = some (.int .u64 bh) := cell_gr hw1 (by go_simp)
      have cw1_1_2 : w1.cell? ⟨W.heap.size + 1, 2, none⟩ = some (.int .u64 bl) := cell_gr hw1 (by go_simp)
      have cw1_1_3 : w1.cell? ⟨W.heap.size + 1, 3, none⟩ = some (.int .u64 bd) := cell_gr hw1 (by go_simp)
      have zw1_1 : W.heap.size + 1 < w1.heap.size := World.block_lt_of_cell? _ _ cw1_1_0
      have cw1_2_0 : w1.cell? ⟨W.heap.size + 1 + 1, 0, none⟩ = some (.int .i64 ci) := cell_gr hw1 (by go_simp)
      have cw1_2_1 : w1.cell? ⟨W.heap.size + 1 + 1, 1, none⟩ = some (.int .u64 ch) := cell_gr hw1 (by go_simp)
      have cw1_2_2 : w1.cell? ⟨W.heap.size + 1 + 1, 2, none⟩ = some (.int .u64 cl) := cell_gr hw1 (by go_simp)
      have cw1_2_3 : w1.cell? ⟨W.heap.size + 1 + 1, 3, none⟩ = some (.int .u64 cd) := cell_gr hw1 (by go_simp)
      have zw1_2 : W.heap.size + 1 + 1 < w1.heap.size := World.block_lt_of_cell? _ _ cw1_2_0
      have gw1 : Gr W w1 := Gr.trans (by go_grown) hw1
      clear hw1
      go_wp2_with fail
      go_at_call 41
      refine ((H2.out _)).mono ?_
      rintro e w2 ⟨rfl, hw2⟩
      have cw2_0_0 : w2.cell? ⟨W.heap.size, 0, none⟩ = some (.int .i64 ai) := cell_gr hw2 (by go_simp)
      have cw2_0_1 : w2.cell? ⟨W.heap.size, 1, none⟩ = some (.int .u64 ah) := cell_gr hw2 (by go_simp)
      have cw2_0_2 : w2.cell? ⟨W.heap.size, 2, none⟩ = some (.int .u64 al) := cell_gr hw2 (by go_simp)
      have cw2_0_3 : w2.cell? ⟨W.heap.size, 3, none⟩ = some (.int .u64 ad) := cell_gr hw2 (by go_simp)
      have zw2_0 : W.heap.size < w2.heap.size := World.block_lt_of_cell? _ _ cw2_0_0
      have cw2_1_0 : w2.cell? ⟨W.heap.size + 1, 0, none⟩ = some (.int .i64 bi) := cell_gr hw2 (by go_simp)
      have cw2_1_1 : w2.cell? ⟨W.heap.size + 1, 1, none⟩ = some (.int .u64 bh) := cell_gr hw2 (by go_simp)
      have cw2_1_2 : w2.cell? ⟨W.heap.size + 1, 2, none⟩ = some (.int .u64 bl) := cell_gr hw2 (by go_simp)
      have cw2_1_3 : w2.cell? ⟨W.heap.size + 1, 3, none⟩ = some (.int .u64 bd) := cell_gr hw2 (by go_simp)
      have zw2_1 : W.heap.size + 1 < w2.heap.size := World.block_lt_of_cell? _ _ cw2_1_0
      have cw2_2_0 : w2.cell? ⟨W.heap.size + 1 + 1, 0, none⟩ = some (.int .i64 ci) := cell_gr hw2 (by go_simp)
      have cw2_2_1 : w2.cell? ⟨W.heap.size + 1 + 1, 1, none⟩ = some (.int .u64 ch) := cell_gr hw2 (by go_simp)
      have cw2_2_2 : w2.cell? ⟨W.heap.size + 1 + 1, 2, none⟩ = some (.int .u64 cl) := cell_gr hw2 (by go_simp)
      have cw2_2_3 : w2.cell? ⟨W.heap.size + 1 + 1, 3, none⟩ = some (.int .u64 cd) := cell_gr hw2 (by go_simp)
      have zw2_2 : W.heap.size + 1 + 1 < w2.heap.size := World.block_lt_of_cell? _ _ cw2_2_0
      have gw2 : Gr W w2 := Gr.trans (by have gg := gw1; have gs := gg.size; go_grown) hw2
      clear hw2 gw1 zw1_0 cw1_0_0 cw1_0_1 cw1_0_2 cw1_0_3 zw1_1 cw1_1_0 cw1_1_1 cw1_1_2 cw1_1_3 zw1_2 cw1_2_0 cw1_2_1 cw1_2_2 cw1_2_3
      go_wp2_with fail
      go_at_call 41
      refine ((H3.out _)).mono ?_
      rintro e w3 ⟨rfl, hw3⟩
      have cw3_0_0 : w3.cell? ⟨W.heap.size, 0, none⟩ = some (.int .i64 ai) := cell_gr hw3 (by go_simp)
      have cw3_0_1 : w3.cell? ⟨W.heap.size, 1, none⟩ = some (.int .u64 ah) := cell_gr hw3 (by go_simp)
      have cw3_0_2 : w3.cell? ⟨W.heap.size, 2, none⟩ = some (.int .u64 al) := cell_gr hw3 (by go_simp)
      have cw3_0_3 : w3.cell? ⟨W.heap.size, 3, none⟩ = some (.int .u64 ad) := cell_gr hw3 (by go_simp)
      have zw3_0 : W.heap.size < w3.heap.size := World.block_lt_of_cell? _ _ cw3_0_0
      have cw3_1_0 : w3.cell? ⟨W.heap.size + 1, 0, none⟩ = some (.int .i64 bi) := cell_gr hw3 (by go_simp)
      have cw3_1_1 : w3.cell? ⟨W.heap.size + 1, 1, none⟩ = some (.int .u64 bh) := cell_gr hw3 (by go_simp)
      have cw3_1_2 : w3.cell? ⟨W.heap.size + 1, 2, none⟩ = some (.int .u64 bl) := cell_gr hw3 (by go_simp)
      have cw3_1_3 : w3.cell? ⟨W.heap.size + 1, 3, none⟩ = some (.int .u64 bd) := cell_gr hw3 (by go_simp)
      have zw3_1 : W.heap.size + 1 < w3.heap.size := World.block_lt_of_cell? _ _ cw3_1_0
      have cw3_2_0 : w3.cell? ⟨W.heap.size + 1 + 1, 0, none⟩ = some (.int .i64 ci) := cell_gr hw3 (by go_simp)
      have cw3_2_1 : w3.cell? ⟨W.heap.size + 1 + 1, 1, none⟩ = some (.int .u64 ch) := cell_gr hw3 (by go_simp)
      have cw3_2_2 : w3.cell? ⟨W.heap.size + 1 + 1, 2, none⟩ = some (.int .u64 cl) := cell_gr hw3 (by go_simp)
      have cw3_2_3 : w3.cell? ⟨W.heap.size + 1 + 1, 3, none⟩ = some (.int .u64 cd) := cell_gr hw3 (by go_simp)
      have zw3_2 : W.heap.size + 1 + 1 < w3.heap.size := World.block_lt_of_cell? _ _ cw3_2_0
      have gw3 : Gr W w3 := Gr.trans (by have gg := gw2; have gs := gg.size; go_grown) hw3
      clear hw3 gw2 zw2_0 cw2_0_0 cw2_0_1 cw2_0_2 cw2_0_3 zw2_1 cw2_1_0 cw2_1_1 cw2_1_2 cw2_1_3 zw2_2 cw2_2_0 cw2_2_1 cw2_2_2 cw2_2_3
      go_wp2_with fail
      go_at_call 41
      refine ((H4.out _)).mono ?_
      rintro e w4 ⟨rfl, hw4⟩
      have cw4_0_0 : w4.cell? ⟨W.heap.size, 0, none⟩ = some (.int .i64 ai) := cell_gr hw4 (by go_simp)
      have cw4_0_1 : w4.cell? ⟨W.heap.size, 1, none⟩ = some (.int .u64 ah) := cell_gr hw4 (by go_simp)
      have cw4_0_2 : w4.cell? ⟨W.heap.size, 2, none⟩ = some (.int .u64 al) := cell_gr hw4 (by go_simp)
      have cw4_0_3 : w4.cell? ⟨W.heap.size, 3, none⟩ = some (.int .u64 ad) := cell_gr hw4 (by go_simp)
      have zw4_0 : W.heap.size < w4.heap.size := World.block_lt_of_cell? _ _ cw4_0_0
      have cw4_1_0 : w4.cell? ⟨W.heap.size + 1, 0, none⟩ = some (.int .i64 bi) := cell_gr hw4 (by go_simp)
      have cw4_1_1 : w4.cell? ⟨W.heap.size + 1, 1, none⟩ = some (.int .u64 bh) := cell_gr hw4 (by go_simp)
      have cw4_1_2 : w4.cell? ⟨W.heap.size + 1, 2, none⟩ = some (.int .u64 bl) := cell_gr hw4 (by go_simp)
      have cw4_1_3 : w4.cell? ⟨W.heap.size + 1, 3, none⟩ = some (.int .u64 bd) := cell_gr hw4 (by go_simp)
      have zw4_1 : W.heap.size + 1 < w4.heap.size := World.block_lt_of_cell? _ _ cw4_1_0
      have cw4_2_0 : w4.cell? ⟨W.heap.size + 1 + 1, 0, none⟩ = some (.int .i64 ci) := cell_gr hw4 (by go_simp)
      have cw4_2_1 : w4.cell? ⟨W.heap.size + 1 + 1, 1, none⟩ = some (.int .u64 ch) := cell_gr hw4 (by go_simp)
      have cw4_2_2 : w4.cell? ⟨W.heap.size + 1 + 1, 2, none⟩ = some (.int .u64 cl) := cell_gr hw4 (by go_simp)
      have cw4_2_3 : w4.cell? ⟨W.heap.size + 1 + 1, 3, none⟩ = some (.int .u64 cd) := cell_gr hw4 (by go_simp)
      have zw4_2 : W.heap.size + 1 + 1 < w4.heap.size := World.block_lt_of_cell? _ _ cw4_2_0
      have gw4 : Gr W w4 := Gr.trans (by have gg := gw3; have gs := gg.size; go_grown) hw4
      clear hw4 gw3 zw3_0 cw3_0_0 cw3_0_1 cw3_0_2 cw3_0_3 zw3_1 cw3_1_0 cw3_1_1 cw3_1_2 cw3_1_3 zw3_2 cw3_2_0 cw3_2_1 cw3_2_2 cw3_2_3
      go_wp2_with fail
      go_at_call 37
      refine ((H6.out _)).mono ?_
      rintro e w5 ⟨rfl, hw5⟩
      have cw5_0_0 : w5.cell? ⟨W.heap.size, 0, none⟩ = some (.int .i64 ai) := cell_gr hw5 (by go_simp)
      have cw5_0_1 : w5.cell? ⟨W.heap.size, 1, none⟩ = some (.int .u64 ah) := cell_gr hw5 (by go_simp)
      have cw5_0_2 : w5.cell? ⟨W.heap.size, 2, none⟩ = some (.int .u64 al) := cell_gr hw5 (by go_simp)
      have cw5_0_3 : w5.cell? ⟨W.heap.size, 3, none⟩ = some (.int .u64 ad) := cell_gr hw5 (by go_simp)
      have zw5_0 : W.heap.size < w5.heap.size := World.block_lt_of_cell? _ _ cw5_0_0
      have cw5_1_0 : w5.cell? ⟨W.heap.size + 1, 0, none⟩ = some (.int .i64 bi) := cell_gr hw5 (by go_simp)
      have cw5_1_1 : w5.cell? ⟨W.heap.size + 1, 1, none⟩ = some (.int .u64 bh) := cell_gr hw5 (by go_simp)
      have cw5_1_2 : w5.cell? ⟨W.heap.size + 1, 2, none⟩ = some (.int .u64 bl) := cell_gr hw5 (by go_simp)
      have cw5_1_3 : w5.cell? ⟨W.heap.size + 1, 3, none⟩ = some (.int .u64 bd) := cell_gr hw5 (by go_simp)
      have zw5_1 : W.heap.size + 1 < w5.heap.size := World.block_lt_of_cell? _ _ cw5_1_0
      have cw5_2_0 : w5.cell? ⟨W.heap.size + 1 + 1, 0, none⟩ = some (.int .i64 ci) := cell_gr hw5 (by go_simp)
      have cw5_2_1 : w5.cell? ⟨W.heap.size + 1 + 1, 1, none⟩ = some (.int .u64 ch) := cell_gr hw5 (by go_simp)
      have cw5_2_2 : w5.cell? ⟨W.heap.size + 1 + 1, 2, none⟩ = some (.int .u64 cl) := cell_gr hw5 (by go_simp)
      have cw5_2_3 : w5.cell? ⟨W.heap.size + 1 + 1, 3, none⟩ = some (.int .u64 cd) := cell_gr hw5 (by go_simp)
      have zw5_2 : W.heap.size + 1 + 1 < w5.heap.size := World.block_lt_of_cell? _ _ cw5_2_0
      have gw5 : Gr W w5 := Gr.trans (by have gg := gw4; have gs := gg.size; go_grown) hw5
      clear hw5 gw4 zw4_0 cw4_0_0 cw4_0_1 cw4_0_2 cw4_0_3 zw4_1 cw4_1_0 cw4_1_1 cw4_1_2 cw4_1_3 zw4_2 cw4_2_0 cw4_2_1 cw4_2_2 cw4_2_3
      go_wp2_with fail
      go_at_call 37
      refine ((H6.out _)).mono ?_
      rintro e w6 ⟨rfl, hw6⟩
      have cw6_0_0 : w6.cell? ⟨W.heap.size, 0, none⟩ = some (.int .i64 ai) := cell_gr hw6 (by go_simp)
      have cw6_0_1 : w6.cell? ⟨W.heap.size, 1, none⟩ = some (.int .u64 ah) := cell_gr hw6 (by go_simp)
      have cw6_0_2 : w6.cell? ⟨W.heap.size, 2, none⟩ = some (.int .u64 al) := cell_gr hw6 (by go_simp)
      have cw6_0_3 : w6.cell? ⟨W.heap.size, 3, none⟩ = some (.int .u64 ad) := cell_gr hw6 (by go_simp)
      have zw6_0 : W.heap.size < w6.heap.size := World.block_lt_of_cell? _ _ cw6_0_0
      have cw6_1_0 : w6.cell? ⟨W.heap.size + 1, 0, none⟩ = some (.int .i64 bi) := cell_gr hw6 (by go_simp)
      have cw6_1_1 : w6.cell? ⟨W.heap.size + 1, 1, none⟩ = some (.int .u64 bh) := cell_gr hw6 (by go_simp)
      have cw6_1_2 : w6.cell? ⟨W.heap.size + 1, 2, none⟩ = some (.int .u64 bl) := cell_gr hw6 (by go_simp)
      have cw6_1_3 : w6.cell? ⟨W.heap.size + 1, 3, none⟩ = some (.int .u64 bd) := cell_gr hw6 (by go_simp)
      have zw6_1 : W.heap.size + 1 < w6.heap.size := World.block_lt_of_cell? _ _ cw6_1_0
      have cw6_2_0 : w6.cell? ⟨W.heap.size + 1 + 1, 0, none⟩ = some (.int .i64 ci) := cell_gr hw6 (by go_simp)
      have cw6_2_1 : w6.cell? ⟨W.heap.size + 1 + 1, 1, none⟩ = some (.int .u64 ch) := cell_gr hw6 (by go_simp)
      have cw6_2_2 : w6.cell? ⟨W.heap.size + 1 + 1, 2, none⟩ = some (.int .u64 cl) := cell_gr hw6 (by go_simp)
      have cw6_2_3 : w6.cell? ⟨W.heap.size + 1 + 1, 3, none⟩ = some (.int .u64 cd) := cell_gr hw6 (by go_simp)
      have zw6_2 : W.heap.size + 1 + 1 < w6.heap.size := World.block_lt_of_cell? _ _ cw6_2_0
      have gw6 : Gr W w6 := Gr.trans (by have gg := gw5; have gs := gg.size; go_grown) hw6
      clear hw6 gw5 zw5_0 cw5_0_0 cw5_0_1 cw5_0_2 cw5_0_3 zw5_1 cw5_1_0 cw5_1_1 cw5_1_2 cw5_1_3 zw5_2 cw5_2_0 cw5_2_1 cw5_2_2 cw5_2_3
      go_wp2_with fail
      go_at_call 33
      refine ((HAW.out _ gw6)).mono ?_
      rintro e w7 ⟨rfl, hw7⟩
      have cw7_0_0 : w7.cell? ⟨W.heap.size, 0, none⟩ = some (.int .i64 ai) := cell_gr hw7 (by go_simp)
      have cw7_0_1 : w7.cell? ⟨W.heap.size, 1, none⟩ = some (.int .u64 ah) := cell_gr hw7 (by go_simp)
      have cw7_0_2 : w7.cell? ⟨W.heap.size, 2, none⟩ = some (.int .u64 al) := cell_gr hw7 (by go_simp)
      have cw7_0_3 : w7.cell? ⟨W.heap.size, 3, none⟩ = some (.int .u64 ad) := cell_gr hw7 (by go_simp)
      have zw7_0 : W.heap.size < w7.heap.size := World.block_lt_of_cell? _ _ cw7_0_0
      have cw7_1_0 : w7.cell? ⟨W.heap.size + 1, 0, none⟩ = some (.int .i64 bi) := cell_gr hw7 (by go_simp)
      have cw7_1_1 : w7.cell? ⟨W.heap.size + 1, 1, none⟩ = some (.int .u64 bh) := cell_gr hw7 (by go_simp)
      have cw7_1_2 : w7.cell? ⟨W.heap.size + 1, 2, none⟩ = some (.int .u64 bl) := cell_gr hw7 (by go_simp)
      have cw7_1_3 : w7.cell? ⟨W.heap.size + 1, 3, none⟩ = some (.int .u64 bd) := cell_gr hw7 (by go_simp)
      have zw7_1 : W.heap.size + 1 < w7.heap.size := World.block_lt_of_cell? _ _ cw7_1_0
      have cw7_2_0 : w7.cell? ⟨W.heap.size + 1 + 1, 0, none⟩ = some (.int .i64 ci) := cell_gr hw7 (by go_simp)
      have cw7_2_1 : w7.cell? ⟨W.heap.size + 1 + 1, 1, none⟩ = some (.int .u64 ch) := cell_gr hw7 (by go_simp)
      have cw7_2_2 : w7.cell? ⟨W.heap.size + 1 + 1, 2, none⟩ = some (.int .u64 cl) := cell_gr hw7 (by go_simp)
      have cw7_2_3 : w7.cell? ⟨W.heap.size + 1 + 1, 3, none⟩ = some (.int .u64 cd) := cell_gr hw7 (by go_simp)
      have zw7_2 : W.heap.size + 1 + 1 < w7.heap.size := World.block_lt_of_cell? _ _ cw7_2_0
      have gw7 : Gr W w7 := Gr.trans (by have gg := gw6; have gs := gg.size; go_grown) hw7
      clear hw7 gw6 zw6_0 cw6_0_0 cw6_0_1 cw6_0_2 cw6_0_3 zw6_1 cw6_1_0 cw6_1_1 cw6_1_2 cw6_1_3 zw6_2 cw6_2_0 cw6_2_1 cw6_2_2 cw6_2_3
      go_wp2_with fail
      go_ret
      exact ⟨rfl, gw7⟩
  · cases ne
    all_goals cases u
    all_goals
      go_enter Tryd.func12, Tryd.ntmps12
      go_wp2_with fail
      go_at_call 41
      refine ((H1.out _)).mono ?_
      rintro e w1 ⟨rfl, hw1⟩
      have cw1_0_0 : w1.cell? ⟨W.heap.size, 0, none⟩ = some (.int .i64 ai) := cell_gr hw1 (by go_simp)
      have cw1_0_1 : w1.cell? ⟨W.heap.size, 1, none⟩ = some (.int .u64 ah) := cell_gr hw1 (by go_simp)
      have cw1_0_2 : w1.cell? ⟨W.heap.size, 2, none⟩ = some (.int .u64 al) := cell_gr hw1 (by go_simp)
      have cw1_0_3 : w1.cell? ⟨W.heap.size, 3, none⟩ = some (.int .u64 ad) := cell_gr hw1 (by go_simp)
      have zw1_0 : W.heap.size < w1.heap.size := World.block_lt_of_cell? _ _ cw1_0_0
      have cw1_1_0 : w1.cell? ⟨W.heap.size + 1, 0, none⟩ = some (.int .i64 bi) := cell_gr hw1 (by go_simp)
      have cw1_1_1 : w1.cell? ⟨W.heap.size + 1, 1, none⟩ = some (.int .u64 bh) := cell_gr hw1 (by go_simp)
      have cw1_1_2 : w1.cell? ⟨W.heap.size + 1, 2, none⟩ = some (.int .u64 bl) := cell_gr hw1 (by go_simp)
      have cw1_1_3 : w1.cell? ⟨W.heap.size + 1, 3, none⟩ = some (.int .u64 bd) := cell_gr hw1 (by go_simp)
      have zw1_1 : W.heap.size + 1 < w1.heap.size := World.block_lt_of_cell? _ _ cw1_1_0
      have cw1_2_0 : w1.cell? ⟨W.heap.size + 1 + 1, 0, none⟩ = some (.int .i64 ci) := cell_gr hw1 (by go_simp)
      have cw1_2_1 : w1.cell? ⟨W.heap.size + 1 + 1, 1, none⟩ = some (.int .u64 ch) := cell_gr hw1 (by go_simp)
      have cw1_2_2 : w1.cell? ⟨W.heap.size + 1 + 1, 2, none⟩ = some (.int .u64 cl) := cell_gr hw1 (by go_simp)
      have cw1_2_3 : w1.cell? ⟨W.heap.size + 1 + 1, 3, none⟩ = some (.int .u64 cd) := cell_gr hw1 (by go_simp)
      have zw1_2 : W.heap.size + 1 + 1 < w1.heap.size := World.block_lt_of_cell? _ _ cw1_2_0
      have gw1 : Gr W w1 := Gr.trans (by go_grown) hw1
      clear hw1
      go_wp2_with fail
      go_at_call 41
      refine ((H2.out _)).mono ?_
      rintro e w2 ⟨rfl, hw2⟩
      have cw2_0_0 : w2.cell? ⟨W.heap.size, 0, none⟩ = some (.int .i64 ai) := cell_gr hw2 (by go_simp)
      have cw2_0_1 : w2.cell? ⟨W.heap.size, 1, none⟩ = some (.int .u64 ah) := cell_gr hw2 (by go_simp)
      have cw2_0_2 : w2.cell? ⟨W.heap.size, 2, none⟩ = some (.int .u64 al) := cell_gr hw2 (by go_simp)
      have cw2_0_3 : w2.cell? ⟨W.heap.size, 3, none⟩ = some (.int .u64 ad) := cell_gr hw2 (by go_simp)
      have zw2_0 : W.heap.size < w2.heap.size := World.block_lt_of_cell? _ _ cw2_0_0
      have cw2_1_0 : w2.cell? ⟨W.heap.size + 1, 0, none⟩ = some (.int .i64 bi) := cell_gr hw2 (by go_simp)
      have cw2_1_1 : w2.cell? ⟨W.heap.size + 1, 1, none⟩ = some (.int .u64 bh) := cell_gr hw2 (by go_simp)
      have cw2_1_2 : w2.cell? ⟨W.heap.size + 1, 2, none⟩ = some (.int .u64 bl) := cell_gr hw2 (by go_simp)
      have cw2_1_3 : w2.cell? ⟨W.heap.size + 1, 3, none⟩ = some (.int .u64 bd) := cell_gr hw2 (by go_simp)
      have zw2_1 : W.heap.size + 1 < w2.heap.size := World.block_lt_of_cell? _ _ cw2_1_0
      have cw2_2_0 : w2.cell? ⟨W.heap.size + 1 + 1, 0, none⟩ = some (.int .i64 ci) := cell_gr hw2 (by go_simp)
      have cw2_2_1 : w2.cell? ⟨W.heap.size + 1 + 1, 1, none⟩ = some (.int .u64 ch) := cell_gr hw2 (by go_simp)
      have cw2_2_2 : w2.cell? ⟨W.heap.size + 1 + 1, 2, none⟩ = some (.int .u64 cl) := cell_gr hw2 (by go_simp)
      have cw2_2_3 : w2.cell? ⟨W.heap.size + 1 + 1, 3, none⟩ = some (.int .u64 cd) := cell_gr hw2 (by go_simp)
      have zw2_2 : W.heap.size + 1 + 1 < w2.heap.size := World.block_lt_of_cell? _ _ cw2_2_0
      have gw2 : Gr W w2 := Gr.trans (by have gg := gw1; have gs := gg.size; go_grown) hw2
      clear hw2 gw1 zw1_0 cw1_0_0 cw1_0_1 cw1_0_2 cw1_0_3 zw1_1 cw1_1_0 cw1_1_1 cw1_1_2 cw1_1_3 zw1_2 cw1_2_0 cw1_2_1 cw1_2_2 cw1_2_3
      go_wp2_with fail
      go_at_call 41
      refine ((H3.out _)).mono ?_
      rintro e w3 ⟨rfl, hw3⟩
      have cw3_0_0 : w3.cell? ⟨W.heap.size, 0, none⟩ = some (.int .i64 ai) := cell_gr hw3 (by go_simp)
      have cw3_0_1 : w3.cell? ⟨W.heap.size, 1, none⟩ = some (.int .u64 ah) := cell_gr hw3 (by go_simp)
      have cw3_0_2 : w3.cell? ⟨W.heap.size, 2, none⟩ = some (.int .u64 al) := cell_gr hw3 (by go_simp)
      have cw3_0_3 : w3.cell? ⟨W.heap.size, 3, none⟩ = some (.int .u64 ad) := cell_gr hw3 (by go_simp)
      have zw3_0 : W.heap.size < w3.heap.size := World.block_lt_of_cell? _ _ cw3_0_0
      have cw3_1_0 : w3.cell? ⟨W.heap.size + 1, 0, none⟩ = some (.int .i64 bi) := cell_gr hw3 (by go_simp)
      have cw3_1_1 : w3.cell? ⟨W.heap.size + 1, 1, none⟩ = some (.int .u64 bh) := cell_gr hw3 (by go_simp)
      have cw3_1_2 : w3.cell? ⟨W.heap.size + 1, 2, none⟩ = some (.int .u64 bl) := cell_gr hw3 (by go_simp)
      have cw3_1_3 : w3.cell? ⟨W.heap.size + 1, 3, none⟩ = some (.int .u64 bd) := cell_gr hw3 (by go_simp)
      have zw3_1 : W.heap.size + 1 < w3.heap.size := World.block_lt_of_cell? _ _ cw3_1_0
      have cw3_2_0 : w3.cell? ⟨W.heap.size + 1 + 1, 0, none⟩ = some (.int .i64 ci) := cell_gr hw3 (by go_simp)
      have cw3_2_1 : w3.cell? ⟨W.heap.size + 1 + 1, 1, none⟩ = some (.int .u64 ch) := cell_gr hw3 (by go_simp)
      have cw3_2_2 : w3.cell? ⟨W.heap.size + 1 + 1, 2, none⟩ = some (.int .u64 cl) := cell_gr hw3 (by go_simp)
      have cw3_2_3 : w3.cell? ⟨W.heap.size + 1 + 1, 3, none⟩ = some (.int .u64 cd) := cell_gr hw3 (by go_simp)
      have zw3_2 : W.heap.size + 1 + 1 < w3.heap.size := World.block_lt_of_cell? _ _ cw3_2_0
      have gw3 : Gr W w3 := Gr.trans (by have gg := gw2; have gs := gg.size; go_grown) hw3
      clear hw3 gw2 zw2_0 cw2_0_0 cw2_0_1 cw2_0_2 cw2_0_3 zw2_1 cw2_1_0 cw2_1_1 cw2_1_2 cw2_1_3 zw2_2 cw2_2_0 cw2_2_1 cw2_2_2 cw2_2_3
      go_wp2_with fail
      go_at_call 41
      refine ((H4.out _)).mono ?_
      rintro e w4 ⟨rfl, hw4⟩
      have cw4_0_0 : w4.cell? ⟨W.heap.size, 0, none⟩ = some (.int .i64 ai) := cell_gr hw4 (by go_simp)
      have cw4_0_1 : w4.cell? ⟨W.heap.size, 1, none⟩ = some (.int .u64 ah) := cell_gr hw4 (by go_simp)
      have cw4_0_2 : w4.cell? ⟨W.heap.size, 2, none⟩ = some (.int .u64 al) := cell_gr hw4 (by go_simp)
      have cw4_0_3 : w4.cell? ⟨W.heap.size, 3, none⟩ = some (.int .u64 ad) := cell_gr hw4 (by go_simp)
      have zw4_0 : W.heap.size < w4.heap.size := World.block_lt_of_cell? _ _ cw4_0_0
      have cw4_1_0 : w4.cell? ⟨W.heap.size + 1, 0, none⟩ = some (.int .i64 bi) := cell_gr hw4 (by go_simp)
      have cw4_1_1 : w4.cell? ⟨W.heap.size + 1, 1, none⟩ = some (.int .u64 bh) := cell_gr hw4 (by go_simp)
      have cw4_1_2 : w4.cell? ⟨W.heap.size + 1, 2, none⟩ = some (.int .u64 bl) := cell_gr hw4 (by go_simp)
      have cw4_1_3 : w4.cell? ⟨W.heap.size + 1, 3, none⟩ = some (.int .u64 bd) := cell_gr hw4 (by go_simp)
      have zw4_1 : W.heap.size + 1 < w4.heap.size := World.block_lt_of_cell? _ _ cw4_1_0
      have cw4_2_0 : w4.cell? ⟨W.heap.size + 1 + 1, 0, none⟩ = some (.int .i64 ci) := cell_gr hw4 (by go_simp)
      have cw4_2_1 : w4.cell? ⟨W.heap.size + 1 + 1, 1, none⟩ = some (.int .u64 ch) := cell_gr hw4 (by go_simp)
      have cw4_2_2 : w4.cell? ⟨W.heap.size + 1 + 1, 2, none⟩ = some (.int .u64 cl) := cell_gr hw4 (by go_simp)
      have cw4_2_3 : w4.cell? ⟨W.heap.size + 1 + 1, 3, none⟩ = some (.int .u64 cd) := cell_gr hw4 (by go_simp)
      have zw4_2 : W.heap.size + 1 + 1 < w4.heap.size := World.block_lt_of_cell? _ _ cw4_2_0
      have gw4 : Gr W w4 := Gr.trans (by have gg := gw3; have gs := gg.size; go_grown) hw4
      clear hw4 gw3 zw3_0 cw3_0_0 cw3_0_1 cw3_0_2 cw3_0_3 zw3_1 cw3_1_0 cw3_1_1 cw3_1_2 cw3_1_3 zw3_2 cw3_2_0 cw3_2_1 cw3_2_2 cw3_2_3
      go_wp2_with fail
      go_at_call 41
      refine ((H5.out _)).mono ?_
      rintro e w5 ⟨rfl, hw5⟩
      have cw5_0_0 : w5.cell? ⟨W.heap.size, 0, none⟩ = some (.int .i64 ai) := cell_gr hw5 (by go_simp)
      have cw5_0_1 : w5.cell? ⟨W.heap.size, 1, none⟩ = some (.int .u64 ah) := cell_gr hw5 (by go_simp)
      have cw5_0_2 : w5.cell? ⟨W.heap.size, 2, none⟩ = some (.int .u64 al) := cell_gr hw5 (by go_simp)
      have cw5_0_3 : w5.cell? ⟨W.heap.size, 3, none⟩ = some (.int .u64 ad) := cell_gr hw5 (by go_simp)
      have zw5_0 : W.heap.size < w5.heap.size := World.block_lt_of_cell? _ _ cw5_0_0
      have cw5_1_0 : w5.cell? ⟨W.heap.size + 1, 0, none⟩ = some (.int .i64 bi) := cell_gr hw5 (by go_simp)
      have cw5_1_1 : w5.cell? ⟨W.heap.size + 1, 1, none⟩ = some (.int .u64 bh) := cell_gr hw5 (by go_simp)
      have cw5_1_2 : w5.cell? ⟨W.heap.size + 1, 2, none⟩ = some (.int .u64 bl) := cell_gr hw5 (by go_simp)
      have cw5_1_3 : w5.cell? ⟨W.heap.size + 1, 3, none⟩ = some (.int .u64 bd) := cell_gr hw5 (by go_simp)
      have zw5_1 : W.heap.size + 1 < w5.heap.size := World.block_lt_of_cell? _ _ cw5_1_0
      have cw5_2_0 : w5.cell? ⟨W.heap.size + 1 + 1, 0, none⟩ = some (.int .i64 ci) := cell_gr hw5 (by go_simp)
      have cw5_2_1 : w5.cell? ⟨W.heap.size + 1 + 1, 1, none⟩ = some (.int .u64 ch) := cell_gr hw5 (by go_simp)
      have cw5_2_2 : w5.cell? ⟨W.heap.size + 1 + 1, 2, none⟩ = some (.int .u64 cl) := cell_gr hw5 (by go_simp)
      have cw5_2_3 : w5.cell? ⟨W.heap.size + 1 + 1, 3, none⟩ = some (.int .u64 cd) := cell_gr hw5 (by go_simp)
      have zw5_2 : W.heap.size + 1 + 1 < w5.heap.size := World.block_lt_of_cell? _ _ cw5_2_0
      have gw5 : Gr W w5 := Gr.trans (by have gg := gw4; have gs := gg.size; go_grown) hw5
      clear hw5 gw4 zw4_0 cw4_0_0 cw4_0_1 cw4_0_2 cw4_0_3 zw4_1 cw4_1_0 cw4_1_1 cw4_1_2 cw4_1_3 zw4_2 cw4_2_0 cw4_2_1 cw4_2_2 cw4_2_3
      go_wp2_with fail
      go_at_call 37
      refine ((H6.out _)).mono ?_
      rintro e w6 ⟨rfl, hw6⟩
      have cw6_0_0 : w6.cell? ⟨W.heap.size, 0, none⟩ = some (.int .i64 ai) := cell_gr hw6 (by go_simp)
      have cw6_0_1 : w6.cell? ⟨W.heap.size, 1, none⟩ = some (.int .u64 ah) := cell_gr hw6 (by go_simp)
      have cw6_0_2 : w6.cell? ⟨W.heap.size, 2, none⟩ = some (.int .u64 al) := cell_gr hw6 (by go_simp)
      have cw6_0_3 : w6.cell? ⟨W.heap.size, 3, none⟩ = some (.int .u64 ad) := cell_gr hw6 (by go_simp)
      have zw6_0 : W.heap.size < w6.heap.size := World.block_lt_of_cell? _ _ cw6_0_0
      have cw6_1_0 : w6.cell? ⟨W.heap.size + 1, 0, none⟩ = some (.int .i64 bi) := cell_gr hw6 (by go_simp)
      have cw6_1_1 : w6.cell? ⟨W.heap.size + 1, 1, none⟩ = some (.int .u64 bh) := cell_gr hw6 (by go_simp)
      have cw6_1_2 : w6.cell? ⟨W.heap.size + 1, 2, none⟩ = some (.int .u64 bl) := cell_gr hw6 (by go_simp)
      have cw6_1_3 : w6.cell? ⟨W.heap.size + 1, 3, none⟩ = some (.int .u64 bd) := cell_gr hw6 (by go_simp)
      have zw6_1 : W.heap.size + 1 < w6.heap.size := World.block_lt_of_cell? _ _ cw6_1_0
      have cw6_2_0 : w6.cell? ⟨W.heap.size + 1 + 1, 0, none⟩ = some (.int .i64 ci) := cell_gr hw6 (by go_simp)
      have cw6_2_1 : w6.cell? ⟨W.heap.size + 1 + 1, 1, none⟩ = some (.int .u64 ch) := cell_gr hw6 (by go_simp)
      have cw6_2_2 : w6.cell? ⟨W.heap.size + 1 + 1, 2, none⟩ = some (.int .u64 cl) := cell_gr hw6 (by go_simp)
      have cw6_2_3 : w6.cell? ⟨W.heap.size + 1 + 1, 3, none⟩ = some (.int .u64 cd) := cell_gr hw6 (by go_simp)
      have zw6_2 : W.heap.size + 1 + 1 < w6.heap.size := World.block_lt_of_cell? _ _ cw6_2_0
      have gw6 : Gr W w6 := Gr.trans (by have gg := gw5; have gs := gg.size; go_grown) hw6
      clear hw6 gw5 zw5_0 cw5_0_0 cw5_0_1 cw5_0_2 cw5_0_3 zw5_1 cw5_1_0 cw5_1_1 cw5_1_2 cw5_1_3 zw5_2 cw5_2_0 cw5_2_1 cw5_2_2 cw5_2_3
      go_wp2_with fail
      go_at_call 37
      refine ((H6.out _)).mono ?_
      rintro e w7 ⟨rfl, hw7⟩
      have cw7_0_0 : w7.cell? ⟨W.heap.size, 0, none⟩ = some (.int .i64 ai) := cell_gr hw7 (by go_simp)
      have cw7_0_1 : w7.cell? ⟨W.heap.size, 1, none⟩ = some (.int .u64 ah) := cell_gr hw7 (by go_simp)
      have cw7_0_2 : w7.cell? ⟨W.heap.size, 2, none⟩ = some (.int .u64 al) := cell_gr hw7 (by go_simp)
      have cw7_0_3 : w7.cell? ⟨W.heap.size, 3, none⟩ = some (.int .u64 ad) := cell_gr hw7 (by go_simp)
      have zw7_0 : W.heap.size < w7.heap.size := World.block_lt_of_cell? _ _ cw7_0_0
      have cw7_1_0 : w7.cell? ⟨W.heap.size + 1, 0, none⟩ = some (.int .i64 bi) := cell_gr hw7 (by go_simp)
      have cw7_1_1 : w7.cell? ⟨W.heap.size + 1, 1, none⟩ = some (.int .u64 bh) := cell_gr hw7 (by go_simp)
      have cw7_1_2 : w7.cell? ⟨W.heap.size + 1, 2, none⟩ = some (.int .u64 bl) := cell_gr hw7 (by go_simp)
      have cw7_1_3 : w7.cell? ⟨W.heap.size + 1, 3, none⟩ = some (.int .u64 bd) := cell_gr hw7 (by go_simp)
      have zw7_1 : W.heap.size + 1 < w7.heap.size := World.block_lt_of_cell? _ _ cw7_1_0
      have cw7_2_0 : w7.cell? ⟨W.heap.size + 1 + 1, 0, none⟩ = some (.int .i64 ci) := cell_gr hw7 (by go_simp)
      have cw7_2_1 : w7.cell? ⟨W.heap.size + 1 + 1, 1, none⟩ = some (.int .u64 ch) := cell_gr hw7 (by go_simp)
      have cw7_2_2 : w7.cell? ⟨W.heap.size + 1 + 1, 2, none⟩ = some (.int .u64 cl) := cell_gr hw7 (by go_simp)
      have cw7_2_3 : w7.cell? ⟨W.heap.size + 1 + 1, 3, none⟩ = some (.int .u64 cd) := cell_gr hw7 (by go_simp)
      have zw7_2 : W.heap.size + 1 + 1 < w7.heap.size := World.block_lt_of_cell? _ _ cw7_2_0
      have gw7 : Gr W w7 := Gr.trans (by have gg := gw6; have gs := gg.size; go_grown) hw7
      clear hw7 gw6 zw6_0 cw6_0_0 cw6_0_1 cw6_0_2 cw6_0_3 zw6_1 cw6_1_0 cw6_1_1 cw6_1_2 cw6_1_3 zw6_2 cw6_2_0 cw6_2_1 cw6_2_2 cw6_2_3
      go_wp2_with fail
      go_at_call 33
      refine ((HAW.out _ gw7)).mono ?_
      rintro e w8 ⟨rfl, hw8⟩
      have cw8_0_0 : w8.cell? ⟨W.heap.size, 0, none⟩ = some (.int .i64 ai) := cell_gr hw8 (by go_simp)
      have cw8_0_1 : w8.cell? ⟨W.heap.size, 1, none⟩ = some (.int .u64 ah) := cell_gr hw8 (by go_simp)
      have cw8_0_2 : w8.cell? ⟨W.heap.size, 2, none⟩ = some (.int .u64 al) := cell_gr hw8 (by go_simp)
      have cw8_0_3 : w8.cell? ⟨W.heap.size, 3, none⟩ = some (.int .u64 ad) := cell_gr hw8 (by go_simp)
      have zw8_0 : W.heap.size < w8.heap.size := World.block_lt_of_cell? _ _ cw8_0_0
      have cw8_1_0 : w8.cell? ⟨W.heap.size + 1, 0, none⟩ = some (.int .i64 bi) := cell_gr hw8 (by go_simp)
      have cw8_1_1 : w8.cell? ⟨W.heap.size + 1, 1, none⟩ = some (.int .u64 bh) := cell_gr hw8 (by go_simp)
      have cw8_1_2 : w8.cell? ⟨W.heap.size + 1, 2, none⟩ = some (.int .u64 bl) := cell_gr hw8 (by go_simp)
      have cw8_1_3 : w8.cell? ⟨W.heap.size + 1, 3, none⟩ = some (.int .u64 bd) := cell_gr hw8 (by go_simp)
      have zw8_1 : W.heap.size + 1 < w8.heap.size := World.block_lt_of_cell? _ _ cw8_1_0
      have cw8_2_0 : w8.cell? ⟨W.heap.size + 1 + 1, 0, none⟩ = some (.int .i64 ci) := cell_gr hw8 (by go_simp)
      have cw8_2_1 : w8.cell? ⟨W.heap.size + 1 + 1, 1, none⟩ = some (.int .u64 ch) := cell_gr hw8 (by go_simp)
      have cw8_2_2 : w8.cell? ⟨W.heap.size + 1 + 1, 2, none⟩ = some (.int .u64 cl) := cell_gr hw8 (by go_simp)
      have cw8_2_3 : w8.cell? ⟨W.heap.size + 1 + 1, 3, none⟩ = some (.int .u64 cd) := cell_gr hw8 (by go_simp)
      have zw8_2 : W.heap.size + 1 + 1 < w8.heap.size := World.block_lt_of_cell? _ _ cw8_2_0
      have gw8 : Gr W w8 := Gr.trans (by have gg := gw7; have gs := gg.size; go_grown) hw8
      clear hw8 gw7 zw7_0 cw7_0_0 cw7_0_1 cw7_0_2 cw7_0_3 zw7_1 cw7_1_0 cw7_1_1 cw7_1_2 cw7_1_3 zw7_2 cw7_2_0 cw7_2_1 cw7_2_2 cw7_2_3
      go_wp2_with fail
      go_ret
      exact ⟨rfl, gw8⟩
  · clear hu
    cases ne
    all_goals
      go_enter Tryd.func12, Tryd.ntmps12
      go_wp2_with fail
      go_at_call 41
      refine ((H1.out _)).mono ?_
      rintro e w1 ⟨rfl, hw1⟩
      have cw1_0_0 : w1.cell? ⟨W.heap.size, 0, none⟩ = some (.int .i64 ai) := cell_gr hw1 (by go_simp)
      have cw1_0_1 : w1.cell? ⟨W.heap.size, 1, none⟩ = some (.int .u64 ah) := cell_gr hw1 (by go_simp)
      have cw1_0_2 : w1.cell? ⟨W.heap.size, 2, none⟩ = some (.int .u64 al) := cell_gr hw1 (by go_simp)
      have cw1_0_3 : w1.cell? ⟨W.heap.size, 3, none⟩ = some (.int .u64 ad) := cell_gr hw1 (by go_simp)
      have zw1_0 : W.heap.size < w1.heap.size := World.block_lt_of_cell? _ _ cw1_0_0
      have cw1_1_0 : w1.cell? ⟨W.heap.size + 1, 0, none⟩ = some (.int .i64 bi) := cell_gr hw1 (by go_simp)
      have cw1_1_1 : w1.cell? ⟨W.heap.size + 1, 1, none⟩ = some (.int .u64 bh) := cell_gr hw1 (by go_simp)
      have cw1_1_2 : w1.cell? ⟨W.heap.size + 1, 2, none⟩ = some (.int .u64 bl) := cell_gr hw1 (by go_simp)
      have cw1_1_3 : w1.cell? ⟨W.heap.size + 1, 3, none⟩ = some (.int .u64 bd) := cell_gr hw1 (by go_simp)
      have zw1_1 : W.heap.size + 1 < w1.heap.size := World.block_lt_of_cell? _ _ cw1_1_0
      have cw1_2_0 : w1.cell? ⟨W.heap.size + 1 + 1, 0, none⟩ = some (.int .i64 ci) := cell_gr hw1 (by go_simp)
      have cw1_2_1 : w1.cell? ⟨W.heap.size + 1 + 1, 1, none⟩ = some (.int .u64 ch) := cell_gr hw1 (by go_simp)
      have cw1_2_2 : w1.cell? ⟨W.heap.size + 1 + 1, 2, none⟩ = some (.int .u64 cl) := cell_gr hw1 (by go_simp)
      have cw1_2_3 : w1.cell? ⟨W.heap.size + 1 + 1, 3, none⟩ = some (.int .u64 cd) := cell_gr hw1 (by go_simp)
      have zw1_2 : W.heap.size + 1 + 1 < w1.heap.size := World.block_lt_of_cell? _ _ cw1_2_0
      have gw1 : Gr W w1 := Gr.trans (by go_grown) hw1
      clear hw1
      go_wp2_with fail
      go_at_call 41
      refine ((H2.out _)).mono ?_
      rintro e w2 ⟨rfl, hw2⟩
      have cw2_0_0 : w2.cell? ⟨W.heap.size, 0, none⟩ = some (.int .i64 ai) := cell_gr hw2 (by go_simp)
      have cw2_0_1 : w2.cell? ⟨W.heap.size, 1, none⟩ = some (.int .u64 ah) := cell_gr hw2 (by go_simp)
      have cw2_0_2 : w2.cell? ⟨W.heap.size, 2, none⟩ = some (.int .u64 al) := cell_gr hw2 (by go_simp)
      have cw2_0_3 : w2.cell? ⟨W.heap.size, 3, none⟩ = some (.int .u64 ad) := cell_gr hw2 (by go_simp)
      have zw2_0 : W.heap.size < w2.heap.size := World.block_lt_of_cell? _ _ cw2_0_0
      have cw2_1_0 : w2.cell? ⟨W.heap.size + 1, 0, none⟩ = some (.int .i64 bi) := cell_gr hw2 (by go_simp)
      have cw2_1_1 : w2.cell? ⟨W.heap.size + 1, 1, none⟩ = some (.int .u64 bh) := cell_gr hw2 (by go_simp)
      have cw2_1_2 : w2.cell? ⟨W.heap.size + 1, 2, none⟩ = some (.int .u64 bl) := cell_gr hw2 (by go_simp)
      have cw2_1_3 : w2.cell? ⟨W.heap.size + 1, 3, none⟩ = some (.int .u64 bd) := cell_gr hw2 (by go_simp)
      have zw2_1 : W.heap.size + 1 < w2.heap.size := World.block_lt_of_cell? _ _ cw2_1_0
      have cw2_2_0 : w2.cell? ⟨W.heap.size + 1 + 1, 0, none⟩ = some (.int .i64 ci) := cell_gr hw2 (by go_simp)
      have cw2_2_1 : w2.cell? ⟨W.heap.size + 1 + 1, 1, none⟩ = some (.int .u64 ch) := cell_gr hw2 (by go_simp)
      have cw2_2_2 : w2.cell? ⟨W.heap.size + 1 + 1, 2, none⟩ = some (.int .u64 cl) := cell_gr hw2 (by go_simp)
      have cw2_2_3 : w2.cell? ⟨W.heap.size + 1 + 1, 3, none⟩ = some (.int .u64 cd) := cell_gr hw2 (by go_simp)
      have zw2_2 : W.heap.size + 1 + 1 < w2.heap.size := World.block_lt_of_cell? _ _ cw2_2_0
      have gw2 : Gr W w2 := Gr.trans (by have gg := gw1; have gs := gg.size; go_grown) hw2
      clear hw2 gw1 zw1_0 cw1_0_0 cw1_0_1 cw1_0_2 cw1_0_3 zw1_1 cw1_1_0 cw1_1_1 cw1_1_2 cw1_1_3 zw1_2 cw1_2_0 cw1_2_1 cw1_2_2 cw1_2_3
      go_wp2_with fail
      go_at_call 41
      refine ((H3.out _)).mono ?_
      rintro e w3 ⟨rfl, hw3⟩
      have cw3_0_0 : w3.cell? ⟨W.heap.size, 0, none⟩ = some (.int .i64 ai) := cell_gr hw3 (by go_simp)
      have cw3_0_1 : w3.cell? ⟨W.heap.size, 1, none⟩ = some (.int .u64 ah) := cell_gr hw3 (by go_simp)
      have cw3_0_2 : w3.cell? ⟨W.heap.size, 2, none⟩ = some (.int .u64 al) := cell_gr hw3 (by go_simp)
      have cw3_0_3 : w3.cell? ⟨W.heap.size, 3, none⟩ = some (.int .u64 ad) := cell_gr hw3 (by go_simp)
      have zw3_0 : W.heap.size < w3.heap.size := World.block_lt_of_cell? _ _ cw3_0_0
      have cw3_1_0 : w3.cell? ⟨W.heap.size + 1, 0, none⟩ = some (.int .i64 bi) := cell_gr hw3 (by go_simp)
      have cw3_1_1 : w3.cell? ⟨W.heap.size + 1, 1, none⟩ = some (.int .u64 bh) := cell_gr hw3 (by go_simp)
      have cw3_1_2 : w3.cell? ⟨W.heap.size + 1, 2, none⟩ = some (.int .u64 bl) := cell_gr hw3 (by go_simp)
      have cw3_1_3 : w3.cell? ⟨W.heap.size + 1, 3, none⟩ = some (.int .u64 bd) := cell_gr hw3 (by go_simp)
      have zw3_1 : W.heap.size + 1 < w3.heap.size := World.block_lt_of_cell? _ _ cw3_1_0
      have cw3_2_0 : w3.cell? ⟨W.heap.size + 1 + 1, 0, none⟩ = some (.int .i64 ci) := cell_gr hw3 (by go_simp)
      have cw3_2_1 : w3.cell? ⟨W.heap.size + 1 + 1, 1, none⟩ = some (.int .u64 ch) := cell_gr hw3 (by go_simp)
      have cw3_2_2 : w3.cell? ⟨W.heap.size + 1 + 1, 2, none⟩ = some (.int .u64 cl) := cell_gr hw3 (by go_simp)
      have cw3_2_3 : w3.cell? ⟨W.heap.size + 1 + 1, 3, none⟩ = some (.int .u64 cd) := cell_gr hw3 (by go_simp)
      have zw3_2 : W.heap.size + 1 + 1 < w3.heap.size := World.block_lt_of_cell? _ _ cw3_2_0
      have gw3 : Gr W w3 := Gr.trans (by have gg := gw2; have gs := gg.size; go_grown) hw3
      clear hw3 gw2 zw2_0 cw2_0_0 cw2_0_1 cw2_0_2 cw2_0_3 zw2_1 cw2_1_0 cw2_1_1 cw2_1_2 cw2_1_3 zw2_2 cw2_2_0 cw2_2_1 cw2_2_2 cw2_2_3
      go_wp2_with fail
      go_at_call 37
      refine ((H6.out _)).mono ?_
      rintro e w4 ⟨rfl, hw4⟩
      have cw4_0_0 : w4.cell? ⟨W.heap.size, 0, none⟩ = some (.int .i64 ai) := cell_gr hw4 (by go_simp)
      have cw4_0_1 : w4.cell? ⟨W.heap.size, 1, none⟩ = some (.int .u64 ah) := cell_gr hw4 (by go_simp)
      have cw4_0_2 : w4.cell? ⟨W.heap.size, 2, none⟩ = some (.int .u64 al) := cell_gr hw4 (by go_simp)
      have cw4_0_3 : w4.cell? ⟨W.heap.size, 3, none⟩ = some (.int .u64 ad) := cell_gr hw4 (by go_simp)
      have zw4_0 : W.heap.size < w4.heap.size := World.block_lt_of_cell? _ _ cw4_0_0
      have cw4_1_0 : w4.cell? ⟨W.heap.size + 1, 0, none⟩ = some (.int .i64 bi) := cell_gr hw4 (by go_simp)
      have cw4_1_1 : w4.cell? ⟨W.heap.size + 1, 1, none⟩ = some (.int .u64 bh) := cell_gr hw4 (by go_simp)
      have cw4_1_2 : w4.cell? ⟨W.heap.size + 1, 2, none⟩ = some (.int .u64 bl) := cell_gr hw4 (by go_simp)
      have cw4_1_3 : w4.cell? ⟨W.heap.size + 1, 3, none⟩ = some (.int .u64 bd) := cell_gr hw4 (by go_simp)
      have zw4_1 : W.heap.size + 1 < w4.heap.size := World.block_lt_of_cell? _ _ cw4_1_0
      have cw4_2_0 : w4.cell? ⟨W.heap.size + 1 + 1, 0, none⟩ = some (.int .i64 ci) := cell_gr hw4 (by go_simp)
      have cw4_2_1 : w4.cell? ⟨W.heap.size + 1 + 1, 1, none⟩ = some (.int .u64 ch) := cell_gr hw4 (by go_simp)
      have cw4_2_2 : w4.cell? ⟨W.heap.size + 1 + 1, 2, none⟩ = some (.int .u64 cl) := cell_gr hw4 (by go_simp)
      have cw4_2_3 : w4.cell? ⟨W.heap.size + 1 + 1, 3, none⟩ = some (.int .u64 cd) := cell_gr hw4 (by go_simp)
      have zw4_2 : W.heap.size + 1 + 1 < w4.heap.size := World.block_lt_of_cell? _ _ cw4_2_0
      have gw4 : Gr W w4 := Gr.trans (by have gg := gw3; have gs := gg.size; go_grown) hw4
      clear hw4 gw3 zw3_0 cw3_0_0 cw3_0_1 cw3_0_2 cw3_0_3 zw3_1 cw3_1_0 cw3_1_1 cw3_1_2 cw3_1_3 zw3_2 cw3_2_0 cw3_2_1 cw3_2_2 cw3_2_3
      go_wp2_with fail
      go_at_call 33
      refine ((HAW.out _ gw4)).mono ?_
      rintro e w5 ⟨rfl, hw5⟩
      have cw5_0_0 : w5.cell? ⟨W.heap.size, 0, none⟩ = some (.int .i64 ai) := cell_gr hw5 (by go_simp)
      have cw5_0_1 : w5.cell? ⟨W.heap.size, 1, none⟩ = some (.int .u64 ah) := cell_gr hw5 (by go_simp)
      have cw5_0_2 : w5.cell? ⟨W.heap.size, 2, none⟩ = some (.int .u64 al) := cell_gr hw5 (by go_simp)
      have cw5_0_3 : w5.cell? ⟨W.heap.size, 3, none⟩ = some (.int .u64 ad) := cell_gr hw5 (by go_simp)
      have zw5_0 : W.heap.size < w5.heap.size := World.block_lt_of_cell? _ _ cw5_0_0
      have cw5_1_0 : w5.cell? ⟨W.heap.size + 1, 0, none⟩ = some (.int .i64 bi) := cell_gr hw5 (by go_simp)
      have cw5_1_1 : w5.cell? ⟨W.heap.size + 1, 1, none⟩ = some (.int .u64 bh) := cell_gr hw5 (by go_simp)
      have cw5_1_2 : w5.cell? ⟨W.heap.size + 1, 2, none⟩ = some (.int .u64 bl) := cell_gr hw5 (by go_simp)
      have cw5_1_3 : w5.cell? ⟨W.heap.size + 1, 3, none⟩ = some (.int .u64 bd) := cell_gr hw5 (by go_simp)
      have zw5_1 : W.heap.size + 1 < w5.heap.size := World.block_lt_of_cell? _ _ cw5_1_0
      have cw5_2_0 : w5.cell? ⟨W.heap.size + 1 + 1, 0, none⟩ = some (.int .i64 ci) := cell_gr hw5 (by go_simp)
      have cw5_2_1 : w5.cell? ⟨W.heap.size + 1 + 1, 1, none⟩ = some (.int .u64 ch) := cell_gr hw5 (by go_simp)
      have cw5_2_2 : w5.cell? ⟨W.heap.size + 1 + 1, 2, none⟩ = some (.int .u64 cl) := cell_gr hw5 (by go_simp)
      have cw5_2_3 : w5.cell? ⟨W.heap.size + 1 + 1, 3, none⟩ = some (.int .u64 cd) := cell_gr hw5 (by go_simp)
      have zw5_2 : W.heap.size + 1 + 1 < w5.heap.size := World.block_lt_of_cell? _ _ cw5_2_0
      have gw5 : Gr W w5 := Gr.trans (by have gg := gw4; have gs := gg.size; go_grown) hw5
      clear hw5 gw4 zw4_0 cw4_0_0 cw4_0_1 cw4_0_2 cw4_0_3 zw4_1 cw4_1_0 cw4_1_1 cw4_1_2 cw4_1_3 zw4_2 cw4_2_0 cw4_2_1 cw4_2_2 cw4_2_3
      go_wp2_with fail
      go_ret
      exact ⟨rfl, gw5⟩
  · clear hu
    all_goals
      go_enter Tryd.func12, Tryd.ntmps12
      go_wp2_with fail
      go_at_call 41
      refine ((H1.out _)).mono ?_
      rintro e w1 ⟨rfl, hw1⟩
      have cw1_0_0 : w1.cell? ⟨W.heap.size, 0, none⟩ = some (.int .i64 ai) := cell_gr hw1 (by go_simp)
      have cw1_0_1 : w1.cell? ⟨W.heap.size, 1, none⟩ = some (.int .u64 ah) := cell_gr hw1 (by go_simp)
      have cw1_0_2 : w1.cell? ⟨W.heap.size, 2, none⟩ = some (.int .u64 al) := cell_gr hw1 (by go_simp)
      have cw1_0_3 : w1.cell? ⟨W.heap.size, 3, none⟩ = some (.int .u64 ad) := cell_gr hw1 (by go_simp)
      have zw1_0 : W.heap.size < w1.heap.size := World.block_lt_of_cell? _ _ cw1_0_0
      have cw1_1_0 : w1.cell? ⟨W.heap.size + 1, 0, none⟩ = some (.int .i64 bi) := cell_gr hw1 (by go_simp)
      have cw1_1_1 : w1.cell? ⟨W.heap.size + 1, 1, none⟩ = some (.int .u64 bh) := cell_gr hw1 (by go_simp)
      have cw1_1_2 : w1.cell? ⟨W.heap.size + 1, 2, none⟩ = some (.int .u64 bl) := cell_gr hw1 (by go_simp)
      have cw1_1_3 : w1.cell? ⟨W.heap.size + 1, 3, none⟩ = some (.int .u64 bd) := cell_gr hw1 (by go_simp)
      have zw1_1 : W.heap.size + 1 < w1.heap.size := World.block_lt_of_cell? _ _ cw1_1_0
      have cw1_2_0 : w1.cell? ⟨W.heap.size + 1 + 1, 0, none⟩ = some (.int .i64 ci) := cell_gr hw1 (by go_simp)
      have cw1_2_1 : w1.cell? ⟨W.heap.size + 1 + 1, 1, none⟩ = some (.int .u64 ch) := cell_gr hw1 (by go_simp)
      have cw1_2_2 : w1.cell? ⟨W.heap.size + 1 + 1, 2, none⟩ = some (.int .u64 cl) := cell_gr hw1 (by go_simp)
      have cw1_2_3 : w1.cell? ⟨W.heap.size + 1 + 1, 3, none⟩ = some (.int .u64 cd) := cell_gr hw1 (by go_simp)
      have zw1_2 : W.heap.size + 1 + 1 < w1.heap.size := World.block_lt_of_cell? _ _ cw1_2_0
      have gw1 : Gr W w1 := Gr.trans (by go_grown) hw1
      clear hw1
      go_wp2_with fail
      go_at_call 41
      refine ((H2.out _)).mono ?_
      rintro e w2 ⟨rfl, hw2⟩
      have cw2_0_0 : w2.cell? ⟨W.heap.size, 0, none⟩ = some (.int .i64 ai) := cell_gr hw2 (by go_simp)
      have cw2_0_1 : w2.cell? ⟨W.heap.size, 1, none⟩ = some (.int .u64 ah) := cell_gr hw2 (by go_simp)
      have cw2_0_2 : w2.cell? ⟨W.heap.size, 2, none⟩ = some (.int .u64 al) := cell_gr hw2 (by go_simp)
      have cw2_0_3 : w2.cell? ⟨W.heap.size, 3, none⟩ = some (.int .u64 ad) := cell_gr hw2 (by go_simp)
      have zw2_0 : W.heap.size < w2.heap.size := World.block_lt_of_cell? _ _ cw2_0_0
      have cw2_1_0 : w2.cell? ⟨W.heap.size + 1, 0, none⟩ = some (.int .i64 bi) := cell_gr hw2 (by go_simp)
      have cw2_1_1 : w2.cell? ⟨W.heap.size + 1, 1, none⟩ = some (.int .u64 bh) := cell_gr hw2 (by go_simp)
      have cw2_1_2 : w2.cell? ⟨W.heap.size + 1, 2, none⟩ = some (.int .u64 bl) := cell_gr hw2 (by go_simp)
      have cw2_1_3 : w2.cell? ⟨W.heap.size + 1, 3, none⟩ = some (.int .u64 bd) := cell_gr hw2 (by go_simp)
      have zw2_1 : W.heap.size + 1 < w2.heap.size := World.block_lt_of_cell? _ _ cw2_1_0
      have cw2_2_0 : w2.cell? ⟨W.heap.size + 1 + 1, 0, none⟩ = some (.int .i64 ci) := cell_gr hw2 (by go_simp)
      have cw2_2_1 : w2.cell? ⟨W.heap.size + 1 + 1, 1, none⟩ = some (.int .u64 ch) := cell_gr hw2 (by go_simp)
      have cw2_2_2 : w2.cell? ⟨W.heap.size + 1 + 1, 2, none⟩ = some (.int .u64 cl) := cell_gr hw2 (by go_simp)
      have cw2_2_3 : w2.cell? ⟨W.heap.size + 1 + 1, 3, none⟩ = some (.int .u64 cd) := cell_gr hw2 (by go_simp)
      have zw2_2 : W.heap.size + 1 + 1 < w2.heap.size := World.block_lt_of_cell? _ _ cw2_2_0
      have gw2 : Gr W w2 := Gr.trans (by have gg := gw1; have gs := gg.size; go_grown) hw2
      clear hw2 gw1 zw1_0 cw1_0_0 cw1_0_1 cw1_0_2 cw1_0_3 zw1_1 cw1_1_0 cw1_1_1 cw1_1_2 cw1_1_3 zw1_2 cw1_2_0 cw1_2_1 cw1_2_2 cw1_2_3
      go_wp2_with fail
      go_at_call 41
      refine ((H3.out _)).mono ?_
      rintro e w3 ⟨rfl, hw3⟩
      have cw3_0_0 : w3.cell? ⟨W.heap.size, 0, none⟩ = some (.int .i64 ai) := cell_gr hw3 (by go_simp)
      have cw3_0_1 : w3.cell? ⟨W.heap.size, 1, none⟩ = some (.int .u64 ah) := cell_gr hw3 (by go_simp)
      have cw3_0_2 : w3.cell? ⟨W.heap.size, 2, none⟩ = some (.int .u64 al) := cell_gr hw3 (by go_simp)
      have cw3_0_3 : w3.cell? ⟨W.heap.size, 3, none⟩ = some (.int .u64 ad) := cell_gr hw3 (by go_simp)
      have zw3_0 : W.heap.size < w3.heap.size := World.block_lt_of_cell? _ _ cw3_0_0
      have cw3_1_0 : w3.cell? ⟨W.heap.size + 1, 0, none⟩ = some (.int .i64 bi) := cell_gr hw3 (by go_simp)
      have cw3_1_1 : w3.cell? ⟨W.heap.size + 1, 1, none⟩ = some (.int .u64 bh) := cell_gr hw3 (by go_simp)
      have cw3_1_2 : w3.cell? ⟨W.heap.size + 1, 2, none⟩ = some (.int .u64 bl) := cell_gr hw3 (by go_simp)
      have cw3_1_3 : w3.cell? ⟨W.heap.size + 1, 3, none⟩ = some (.int .u64 bd) := cell_gr hw3 (by go_simp)
      have zw3_1 : W.heap.size + 1 < w3.heap.size := World.block_lt_of_cell? _ _ cw3_1_0
      have cw3_2_0 : w3.cell? ⟨W.heap.size + 1 + 1, 0, none⟩ = some (.int .i64 ci) := cell_gr hw3 (by go_simp)
      have cw3_2_1 : w3.cell? ⟨W.heap.size + 1 + 1, 1, none⟩ = some (.int .u64 ch) := cell_gr hw3 (by go_simp)
      have cw3_2_2 : w3.cell? ⟨W.heap.size + 1 + 1, 2, none⟩ = some (.int .u64 cl) := cell_gr hw3 (by go_simp)
      have cw3_2_3 : w3.cell? ⟨W.heap.size + 1 + 1, 3, none⟩ = some (.int .u64 cd) := cell_gr hw3 (by go_simp)
      have zw3_2 : W.heap.size + 1 + 1 < w3.heap.size := World.block_lt_of_cell? _ _ cw3_2_0
      have gw3 : Gr W w3 := Gr.trans (by have gg := gw2; have gs := gg.size; go_grown) hw3
      clear hw3 gw2 zw2_0 cw2_0_0 cw2_0_1 cw2_0_2 cw2_0_3 zw2_1 cw2_1_0 cw2_1_1 cw2_1_2 cw2_1_3 zw2_2 cw2_2_0 cw2_2_1 cw2_2_2 cw2_2_3
      go_wp2_with fail
      go_at_call 37
      refine ((H6.out _)).mono ?_
      rintro e w4 ⟨rfl, hw4⟩
      have cw4_0_0 : w4.cell? ⟨W.heap.size, 0, none⟩ = some (.int .i64 ai) := cell_gr hw4 (by go_simp)
      have cw4_0_1 : w4.cell? ⟨W.heap.size, 1, none⟩ = some (.int .u64 ah) := cell_gr hw4 (by go_simp)
      have cw4_0_2 : w4.cell? ⟨W.heap.size, 2, none⟩ = some (.int .u64 al) := cell_gr hw4 (by go_simp)
      have cw4_0_3 : w4.cell? ⟨W.heap.size, 3, none⟩ = some (.int .u64 ad) := cell_gr hw4 (by go_simp)
      have zw4_0 : W.heap.size < w4.heap.size := World.block_lt_of_cell? _ _ cw4_0_0
      have cw4_1_0 : w4.cell? ⟨W.heap.size + 1, 0, none⟩ = some (.int .i64 bi) := cell_gr hw4 (by go_simp)
      have cw4_1_1 : w4.cell? ⟨W.heap.size + 1, 1, none⟩ = some (.int .u64 bh) := cell_gr hw4 (by go_simp)
      have cw4_1_2 : w4.cell? ⟨W.heap.size + 1, 2, none⟩ = some (.int .u64 bl) := cell_gr hw4 (by go_simp)
      have cw4_1_3 : w4.cell? ⟨W.heap.size + 1, 3, none⟩ = some (.int .u64 bd) := cell_gr hw4 (by go_simp)
      have zw4_1 : W.heap.size + 1 < w4.heap.size := World.block_lt_of_cell? _ _ cw4_1_0
      have cw4_2_0 : w4.cell? ⟨W.heap.size + 1 + 1, 0, none⟩ = some (.int .i64 ci) := cell_gr hw4 (by go_simp)
      have cw4_2_1 : w4.cell? ⟨W.heap.size + 1 + 1, 1, none⟩ = some (.int .u64 ch) := cell_gr hw4 (by go_simp)
      have cw4_2_2 : w4.cell? ⟨W.heap.size + 1 + 1, 2, none⟩ = some (.int .u64 cl) := cell_gr hw4 (by go_simp)
      have cw4_2_3 : w4.cell? ⟨W.heap.size + 1 + 1, 3, none⟩ = some (.int .u64 cd) := cell_gr hw4 (by go_simp)
      have zw4_2 : W.heap.size + 1 + 1 < w4.heap.size := World.block_lt_of_cell? _ _ cw4_2_0
      have gw4 : Gr W w4 := Gr.trans (by have gg := gw3; have gs := gg.size; go_grown) hw4
      clear hw4 gw3 zw3_0 cw3_0_0 cw3_0_1 cw3_0_2 cw3_0_3 zw3_1 cw3_1_0 cw3_1_1 cw3_1_2 cw3_1_3 zw3_2 cw3_2_0 cw3_2_1 cw3_2_2 cw3_2_3
      go_wp2_with fail
      go_at_call 33
      refine ((HAW.out _ gw4)).mono ?_
      rintro e w5 ⟨rfl, hw5⟩
      have cw5_0_0 : w5.cell? ⟨W.heap.size, 0, none⟩ = some (.int .i64 ai) := cell_gr hw5 (by go_simp)
      have cw5_0_1 : w5.cell? ⟨W.heap.size, 1, none⟩ = some (.int .u64 ah) := cell_gr hw5 (by go_simp)
      have cw5_0_2 : w5.cell? ⟨W.heap.size, 2, none⟩ = some (.int .u64 al) := cell_gr hw5 (by go_simp)
      have cw5_0_3 : w5.cell? ⟨W.heap.size, 3, none⟩ = some (.int .u64 ad) := cell_gr hw5 (by go_simp)
      have zw5_0 : W.heap.size < w5.heap.size := World.block_lt_of_cell? _ _ cw5_0_0
      have cw5_1_0 : w5.cell? ⟨W.heap.size + 1, 0, none⟩ = some (.int .i64 bi) := cell_gr hw5 (by go_simp)
      have cw5_1_1 : w5.cell? ⟨W.heap.size + 1, 1, none⟩ = some (.int .u64 bh) := cell_gr hw5 (by go_simp)
      have cw5_1_2 : w5.cell? ⟨W.heap.size + 1, 2, none⟩ = some (.int .u64 bl) := cell_gr hw5 (by go_simp)
      have cw5_1_3 : w5.cell? ⟨W.heap.size + 1, 3, none⟩ = some (.int .u64 bd) := cell_gr hw5 (by go_simp)
      have zw5_1 : W.heap.size + 1 < w5.heap.size := World.block_lt_of_cell? _ _ cw5_1_0
      have cw5_2_0 : w5.cell? ⟨W.heap.size + 1 + 1, 0, none⟩ = some (.int .i64 ci) := cell_gr hw5 (by go_simp)
      have cw5_2_1 : w5.cell? ⟨W.heap.size + 1 + 1, 1, none⟩ = some (.int .u64 ch) := cell_gr hw5 (by go_simp)
      have cw5_2_2 : w5.cell? ⟨W.heap.size + 1 + 1, 2, none⟩ = some (.int .u64 cl) := cell_gr hw5 (by go_simp)
      have cw5_2_3 : w5.cell? ⟨W.heap.size + 1 + 1, 3, none⟩ = some (.int .u64 cd) := cell_gr hw5 (by go_simp)
      have zw5_2 : W.heap.size + 1 + 1 < w5.heap.size := World.block_lt_of_cell? _ _ cw5_2_0
      have gw5 : Gr W w5 := Gr.trans (by have gg := gw4; have gs := gg.size; go_grown) hw5
      clear hw5 gw4 zw4_0 cw4_0_0 cw4_0_1 cw4_0_2 cw4_0_3 zw4_1 cw4_1_0 cw4_1_1 cw4_1_2 cw4_1_3 zw4_2 cw4_2_0 cw4_2_1 cw4_2_2 cw4_2_3
      go_wp2_with fail
      go_ret
      exact ⟨rfl, gw5⟩
end Go.Proofs.YtffobfjjbcdbdaaDoor
