/- CurveCentre -/
import Derived.Test.YtldlpbfncgcimaaDoorCj
namespace Go.Proofs.YtldlpbfncgcimaaDoor
set_option linter.unusedVariables false
open Go.ChangeShapes Go.WideShapes Go.ChangeAt Go.RowKit

set_option maxHeartbeats 2000000 in
set_option maxRecDepth 100000 in
theorem centre_no (lx ly hx hy z : Int) (W : World) (hE : ErrT W) (z1 : (z == 0) = false) (z2 : (z != 0) = true)
    (A1 : ∀ w, Calls Tryd.prog 57 #[.agg #[.int .i64 lx, .int .i64 ly, .int .i64 hx, .int .i64 hy]] w fun e w' => e = .returned (.iface 82 (.int .i64 z)) ∧ Gr w w')
    (A2 : ∀ w, Calls Tryd.prog 42 #[.agg #[.int .i64 lx, .int .i64 ly, .int .i64 hx, .int .i64 hy]] w fun e w' => e = .returned (.int .i64 z) ∧ Gr w w') :
    Calls Tryd.prog 14 #[.agg #[.int .i64 lx, .int .i64 ly, .int .i64 hx, .int .i64 hy]] W fun e w' => e = .returned (.bool true) ∧ Gr W w' := by
  have A3 := fun w => c_Centre_no lx ly hx hy z A1 w
  have HAW := Lib.hid (fun w (g : Gr W w) => p19_awake w (errT_gr hE g))
  clear hE A1
  have H2 := Lib.hid A2
  have H3 := Lib.hid A3
  clear A2 A3
  go_enter Tryd.func14, Tryd.ntmps14
  go_wp2_with fail
  go_at_call 38
  refine (H3.out _).mono ?_
  rintro e w1 ⟨B, rfl, hB, hF, hg⟩
  have c0 : w1.cell? ⟨W.heap.size, 0, none⟩ = some (.int .i64 lx) := cell_gr hg (by go_simp)
  have c1 : w1.cell? ⟨W.heap.size, 1, none⟩ = some (.int .i64 ly) := cell_gr hg (by go_simp)
  have c2 : w1.cell? ⟨W.heap.size, 2, none⟩ = some (.int .i64 hx) := cell_gr hg (by go_simp)
  have c3 : w1.cell? ⟨W.heap.size, 3, none⟩ = some (.int .i64 hy) := cell_gr hg (by go_simp)
  have zc := World.block_lt_of_cell? _ _ c0
  have gw1 : Gr W w1 := Gr.trans (by go_grown) hg
  clear hg hF hB
  go_wp2_with fail
  go_at_call 42
  refine ((H2.out _)).mono ?_
  rintro e w2 ⟨rfl, hw2⟩
  have cw2_0_0 : w2.cell? ⟨w1.heap.size, 0, none⟩ = some (.int .i64 0) := cell_gr hw2 (by go_simp)
  have cw2_0_1 : w2.cell? ⟨w1.heap.size, 1, none⟩ = some (.int .i64 0) := cell_gr hw2 (by go_simp)
  have zw2_0 : w1.heap.size < w2.heap.size := World.block_lt_of_cell? _ _ cw2_0_0
  have gw2 : Gr W w2 := Gr.trans (by have gg := gw1; have gs := gg.size; go_grown) hw2
  clear hw2 gw1
  go_wp2_with fail
  go_at_call 40
  refine ((HAW.out _ (by have gg := gw2; have gs := gg.size; go_grown))).mono ?_
  rintro e w3 ⟨rfl, hw3⟩
  have cw3_0_0 : w3.cell? ⟨w1.heap.size, 0, none⟩ = some (.int .i64 0) := cell_gr hw3 (by go_simp)
  have cw3_0_1 : w3.cell? ⟨w1.heap.size, 1, none⟩ = some (.int .i64 0) := cell_gr hw3 (by go_simp)
  have zw3_0 : w1.heap.size < w3.heap.size := World.block_lt_of_cell? _ _ cw3_0_0
  have gw3 : Gr W w3 := Gr.trans (by have gg := gw2; have gs := gg.size; go_grown) hw3
  clear hw3 gw2 zw2_0 cw2_0_0 cw2_0_1
  go_wp2_with fail
  go_ret
  exact ⟨rfl, gw3⟩
set_option maxHeartbeats 4000000 in
set_option maxRecDepth 100000 in
theorem centre_yes (lx ly hx hy mx my : Int) (W : World) (hE : ErrT W) (b1 : -1073741823 ≤ lx) (b2 : hx ≤ 1073741823) (b3 : -1073741823 ≤ ly) (b4 : hy ≤ 1073741823) (m1 : lx ≤ mx) (m2 : mx ≤ hx) (m3 : ly ≤ my) (m4 : my ≤ hy)
    (X Y : Int) (eX : hx - mx - (mx - lx) = X) (eY : hy - my - (my - ly) = Y) (t1 : decide (0 ≤ X) = true) (t2 : decide (X ≤ 1) = true) (t3 : decide (0 ≤ Y) = true) (t4 : decide (Y ≤ 1) = true)
    (A1 : ∀ w, Calls Tryd.prog 38 #[.agg #[.int .i64 lx, .int .i64 ly, .int .i64 hx, .int .i64 hy]] w fun e w' => e = .returned (.tuple #[.agg #[.int .i64 mx, .int .i64 my], .nilIface]) ∧ Gr w w')
    (A2 : ∀ w, Calls Tryd.prog 42 #[.agg #[.int .i64 lx, .int .i64 ly, .int .i64 hx, .int .i64 hy]] w fun e w' => e = .returned (.int .i64 0) ∧ Gr w w')
    (A3 : ∀ w, Calls Tryd.prog 38 #[.agg #[.int .i64 mx, .int .i64 my, .int .i64 mx, .int .i64 my]] w fun e w' => e = .returned (.tuple #[.agg #[.int .i64 mx, .int .i64 my], .nilIface]) ∧ Gr w w')
    (A4 : ∀ w, Calls Tryd.prog 43 #[.agg #[.int .i64 lx, .int .i64 ly, .int .i64 hx, .int .i64 hy], .agg #[.int .i64 mx, .int .i64 my]] w fun e w' => e = .returned (.bool true) ∧ Gr w w') :
    Calls Tryd.prog 14 #[.agg #[.int .i64 lx, .int .i64 ly, .int .i64 hx, .int .i64 hy]] W fun e w' => e = .returned (.bool true) ∧ Gr W w' := by
  have HAW := Lib.hid (fun w (g : Gr W w) => p19_awake w (errT_gr hE g))
  clear hE
  have H1 := Lib.hid A1
  have H2 := Lib.hid A2
  have H3 := Lib.hid A3
  have H4 := Lib.hid A4
  clear A1 A2 A3 A4
  go_enter Tryd.func14, Tryd.ntmps14
  go_wp2_with fail
  go_at_call 38
  refine ((H1.out _)).mono ?_
  rintro e w1 ⟨rfl, hw1⟩
  have cw1_0_0 : w1.cell? ⟨W.heap.size, 0, none⟩ = some (.int .i64 lx) := cell_gr hw1 (by go_simp)
  have cw1_0_1 : w1.cell? ⟨W.heap.size, 1, none⟩ = some (.int .i64 ly) := cell_gr hw1 (by go_simp)
  have cw1_0_2 : w1.cell? ⟨W.heap.size, 2, none⟩ = some (.int .i64 hx) := cell_gr hw1 (by go_simp)
  have cw1_0_3 : w1.cell? ⟨W.heap.size, 3, none⟩ = some (.int .i64 hy) := cell_gr hw1 (by go_simp)
  have zw1_0 : W.heap.size < w1.heap.size := World.block_lt_of_cell? _ _ cw1_0_0
  have gw1 : Gr W w1 := Gr.trans (by go_grown) hw1
  clear hw1
  go_wp2_with fail
  go_at_call 42
  refine ((H2.out _)).mono ?_
  rintro e w2 ⟨rfl, hw2⟩
  have cw2_0_0 : w2.cell? ⟨W.heap.size, 0, none⟩ = some (.int .i64 lx) := cell_gr hw2 (by go_simp)
  have cw2_0_1 : w2.cell? ⟨W.heap.size, 1, none⟩ = some (.int .i64 ly) := cell_gr hw2 (by go_simp)
  have cw2_0_2 : w2.cell? ⟨W.heap.size, 2, none⟩ = some (.int .i64 hx) := cell_gr hw2 (by go_simp)
  have cw2_0_3 : w2.cell? ⟨W.heap.size, 3, none⟩ = some (.int .i64 hy) := cell_gr hw2 (by go_simp)
  have zw2_0 : W.heap.size < w2.heap.size := World.block_lt_of_cell? _ _ cw2_0_0
  have cw2_1_0 : w2.cell? ⟨w1.heap.size, 0, none⟩ = some (.int .i64 mx) := cell_gr hw2 (by go_simp)
  have cw2_1_1 : w2.cell? ⟨w1.heap.size, 1, none⟩ = some (.int .i64 my) := cell_gr hw2 (by go_simp)
  have zw2_1 : w1.heap.size < w2.heap.size := World.block_lt_of_cell? _ _ cw2_1_0
  have gw2 : Gr W w2 := Gr.trans (by have gg := gw1; have gs := gg.size; go_grown) hw2
  clear hw2 gw1 zw1_0 cw1_0_0 cw1_0_1 cw1_0_2 cw1_0_3
  go_wp2_with fail
  go_at_call 38
  refine ((H3.out _)).mono ?_
  rintro e w3 ⟨rfl, hw3⟩
  have cw3_0_0 : w3.cell? ⟨W.heap.size, 0, none⟩ = some (.int .i64 lx) := cell_gr hw3 (by go_simp)
  have cw3_0_1 : w3.cell? ⟨W.heap.size, 1, none⟩ = some (.int .i64 ly) := cell_gr hw3 (by go_simp)
  have cw3_0_2 : w3.cell? ⟨W.heap.size, 2, none⟩ = some (.int .i64 hx) := cell_gr hw3 (by go_simp)
  have cw3_0_3 : w3.cell? ⟨W.heap.size, 3, none⟩ = some (.int .i64 hy) := cell_gr hw3 (by go_simp)
  have zw3_0 : W.heap.size < w3.heap.size := World.block_lt_of_cell? _ _ cw3_0_0
  have cw3_1_0 : w3.cell? ⟨w1.heap.size, 0, none⟩ = some (.int .i64 mx) := cell_gr hw3 (by go_simp)
  have cw3_1_1 : w3.cell? ⟨w1.heap.size, 1, none⟩ = some (.int .i64 my) := cell_gr hw3 (by go_simp)
  have zw3_1 : w1.heap.size < w3.heap.size := World.block_lt_of_cell? _ _ cw3_1_0
  have gw3 : Gr W w3 := Gr.trans (by have gg := gw2; have gs := gg.size; go_grown) hw3
  clear hw3 gw2 zw2_0 cw2_0_0 cw2_0_1 cw2_0_2 cw2_0_3 zw2_1 cw2_1_0 cw2_1_1
  go_wp2_with fail
  go_at_call 43
  refine ((H4.out _)).mono ?_
  rintro e w4 ⟨rfl, hw4⟩
  have cw4_0_0 : w4.cell? ⟨W.heap.size, 0, none⟩ = some (.int .i64 lx) := cell_gr hw4 (by go_simp)
  have cw4_0_1 : w4.cell? ⟨W.heap.size, 1, none⟩ = some (.int .i64 ly) := cell_gr hw4 (by go_simp)
  have cw4_0_2 : w4.cell? ⟨W.heap.size, 2, none⟩ = some (.int .i64 hx) := cell_gr hw4 (by go_simp)
  have cw4_0_3 : w4.cell? ⟨W.heap.size, 3, none⟩ = some (.int .i64 hy) := cell_gr hw4 (by go_simp)
  have zw4_0 : W.heap.size < w4.heap.size := World.block_lt_of_cell? _ _ cw4_0_0
  have cw4_1_0 : w4.cell? ⟨w1.heap.size, 0, none⟩ = some (.int .i64 mx) := cell_gr hw4 (by go_simp)
  have cw4_1_1 : w4.cell? ⟨w1.heap.size, 1, none⟩ = some (.int .i64 my) := cell_gr hw4 (by go_simp)
  have zw4_1 : w1.heap.size < w4.heap.size := World.block_lt_of_cell? _ _ cw4_1_0
  have cw4_2_0 : w4.cell? ⟨w3.heap.size, 0, none⟩ = some (.int .i64 mx) := cell_gr hw4 (by go_simp)
  have cw4_2_1 : w4.cell? ⟨w3.heap.size, 1, none⟩ = some (.int .i64 my) := cell_gr hw4 (by go_simp)
  have zw4_2 : w3.heap.size < w4.heap.size := World.block_lt_of_cell? _ _ cw4_2_0
  have gw4 : Gr W w4 := Gr.trans (by have gg := gw3; have gs := gg.size; go_grown) hw4
  clear hw4 gw3 zw3_0 cw3_0_0 cw3_0_1 cw3_0_2 cw3_0_3 zw3_1 cw3_1_0 cw3_1_1
  go_wp2_with fail
  go_at_call 40
  refine ((HAW.out _ (by have gg := gw4; have gs := gg.size; go_grown))).mono ?_
  rintro e w5 ⟨rfl, hw5⟩
  have cw5_0_0 : w5.cell? ⟨W.heap.size, 0, none⟩ = some (.int .i64 lx) := cell_gr hw5 (by go_simp)
  have cw5_0_1 : w5.cell? ⟨W.heap.size, 1, none⟩ = some (.int .i64 ly) := cell_gr hw5 (by go_simp)
  have cw5_0_2 : w5.cell? ⟨W.heap.size, 2, none⟩ = some (.int .i64 hx) := cell_gr hw5 (by go_simp)
  have cw5_0_3 : w5.cell? ⟨W.heap.size, 3, none⟩ = some (.int .i64 hy) := cell_gr hw5 (by go_simp)
  have zw5_0 : W.heap.size < w5.heap.size := World.block_lt_of_cell? _ _ cw5_0_0
  have cw5_1_0 : w5.cell? ⟨w1.heap.size, 0, none⟩ = some (.int .i64 mx) := cell_gr hw5 (by go_simp)
  have cw5_1_1 : w5.cell? ⟨w1.heap.size, 1, none⟩ = some (.int .i64 my) := cell_gr hw5 (by go_simp)
  have zw5_1 : w1.heap.size < w5.heap.size := World.block_lt_of_cell? _ _ cw5_1_0
  have cw5_2_0 : w5.cell? ⟨w3.heap.size, 0, none⟩ = some (.int .i64 mx) := cell_gr hw5 (by go_simp)
  have cw5_2_1 : w5.cell? ⟨w3.heap.size, 1, none⟩ = some (.int .i64 my) := cell_gr hw5 (by go_simp)
  have zw5_2 : w3.heap.size < w5.heap.size := World.block_lt_of_cell? _ _ cw5_2_0
  have gw5 : Gr W w5 := Gr.trans (by have gg := gw4; have gs := gg.size; go_grown) hw5
  clear hw5 gw4 zw4_0 cw4_0_0 cw4_0_1 cw4_0_2 cw4_0_3 zw4_1 cw4_1_0 cw4_1_1 zw4_2 cw4_2_0 cw4_2_1
  go_wp2_with fail
  go_ret
  exact ⟨rfl, gw5⟩
theorem walk_CurveCentre (lx ly hx hy : Int) (B0 : (-9223372036854775808 ≤ lx ∧ lx ≤ 9223372036854775807) ∧ (-9223372036854775808 ≤ ly ∧ ly ≤ 9223372036854775807) ∧ (-9223372036854775808 ≤ hx ∧ hx ≤ 9223372036854775807) ∧ (-9223372036854775808 ≤ hy ∧ hy ≤ 9223372036854775807)) (W : World) (hE : ErrT W) :
    Calls Tryd.prog 14 #[.agg #[.int .i64 lx, .int .i64 ly, .int .i64 hx, .int .i64 hy]] W fun e w' => e = .returned (.bool true) ∧ Gr W w' := by
  cases hb : boxB lx ly hx hy with
  | false =>
    obtain ⟨z, hz, e1, e2⟩ := boxErr_code hb
    have A1 := fun w => c_CheckBox lx ly hx hy w
    have A2 := fun w => c_rCheckBox lx ly hx hy w
    rw [e1] at A1
    rw [e2] at A2
    exact centre_no lx ly hx hy z W hE (by rcases hz with rfl | rfl <;> rfl) (by rcases hz with rfl | rfl <;> rfl) A1 A2
  | true =>
    have A1 := fun w => c_Centre lx ly hx hy hb w
    have A2 := fun w => c_rCheckBox lx ly hx hy w
    have e0 : boxCode lx ly hx hy = 0 := by
      have := boxCode_zero (lx := lx) (ly := ly) (hx := hx) (hy := hy)
      rw [hb] at this
      simpa using this
    rw [e0] at A2
    have hb' := hb
    unfold boxB at hb'
    simp only [Bool.and_eq_true, decide_eq_true_eq] at hb'
    obtain ⟨b1, b2, b3, b4⟩ := nearB_iff.1 hb'.1.1.1
    obtain ⟨b5, b6, b7, b8⟩ := nearB_iff.1 hb'.1.1.2
    obtain ⟨mx, ex⟩ : ∃ m, m = (lx + hx) / 2 := ⟨_, rfl⟩
    obtain ⟨my, ey⟩ : ∃ m, m = (ly + hy) / 2 := ⟨_, rfl⟩
    rw [← ex, ← ey] at A1
    have hm : nearB mx my = true := nearB_iff.2 ⟨by omega, by omega, by omega, by omega⟩
    have hbm : boxB mx my mx my = true := by unfold boxB; simp [hm]
    have A3 := fun w => c_Centre mx my mx my hbm w
    rw [show (mx + mx) / 2 = mx by omega, show (my + my) / 2 = my by omega] at A3
    have A4 := fun w => c_rBoxHas lx ly hx hy mx my w
    rw [hb, hm, show inB lx ly hx hy mx my = true by unfold inB; simp; omega] at A4
    exact centre_yes lx ly hx hy mx my W hE b1 b6 b3 b8 (by omega) (by omega) (by omega) (by omega) _ _ rfl rfl (decide_eq_true (by omega)) (decide_eq_true (by omega)) (decide_eq_true (by omega)) (decide_eq_true (by omega)) A1 A2 A3 A4
end Go.Proofs.YtldlpbfncgcimaaDoor
