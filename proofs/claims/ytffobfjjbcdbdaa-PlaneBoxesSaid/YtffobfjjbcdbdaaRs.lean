/- the document's own boxes, once more -/
import Derived.Test.YtffobfjjbcdbdaaRq
namespace Go.Proofs.Ytffobfjjbcdbdaa
set_option linter.unusedVariables false
open Go.ChangeShapes Go.WideShapes Go.ChangeAt Go.RowKit

set_option maxHeartbeats 2000000 in
set_option maxRecDepth 100000 in
theorem c_rBoxHas (lx ly hx hy px py : Int) (W : World) :
    Calls Try.prog 24 #[.agg #[.int .i64 lx, .int .i64 ly, .int .i64 hx, .int .i64 hy], .agg #[.int .i64 px, .int .i64 py]] W fun e w' => e = .returned (.bool (boxB lx ly hx hy && nearB px py && inB lx ly hx hy px py)) ∧ Gr W w' := by
  obtain ⟨r, hr⟩ : ∃ r, r = (boxB lx ly hx hy && nearB px py && inB lx ly hx hy px py) := ⟨_, rfl⟩
  rw [← hr]
  obtain ⟨k1, e1⟩ : ∃ k, k = boxCode lx ly hx hy := ⟨_, rfl⟩
  obtain ⟨q2, e2⟩ : ∃ q, q = nearB px py := ⟨_, rfl⟩
  have M := c_rCheckBox lx ly hx hy
  have N := c_rPoint px py
  rw [← e1] at M
  rw [← e2] at N
  rw [← boxCode_zero, ← e1, ← e2] at hr
  have H1 := Lib.hid M
  have H2 := Lib.hid N
  clear M N e1 e2
  unfold inB at hr
  have hc : ((k1 == 0) = false ∧ r = false) ∨ (k1 = 0 ∧ q2 = false ∧ r = false) ∨ (k1 = 0 ∧ q2 = true ∧ ¬ lx ≤ px ∧ r = false) ∨ (k1 = 0 ∧ q2 = true ∧ lx ≤ px ∧ ¬ px ≤ hx ∧ r = false) ∨ (k1 = 0 ∧ q2 = true ∧ lx ≤ px ∧ px ≤ hx ∧ ¬ ly ≤ py ∧ r = false) ∨ (k1 = 0 ∧ q2 = true ∧ lx ≤ px ∧ px ≤ hx ∧ ly ≤ py ∧ ¬ py ≤ hy ∧ r = false) ∨ (k1 = 0 ∧ q2 = true ∧ lx ≤ px ∧ px ≤ hx ∧ ly ≤ py ∧ py ≤ hy ∧ r = true) := by
    by_cases z1 : k1 = 0
    · cases q2
      · right; left; exact ⟨z1, rfl, by rw [hr]; simp⟩
      · subst z1
        right; right
        by_cases a1 : lx ≤ px <;> by_cases a2 : px ≤ hx <;> by_cases a3 : ly ≤ py <;> by_cases a4 : py ≤ hy <;> simp [hr, a1, a2, a3, a4]
    · have : (k1 == 0) = false := by simpa using z1
      left; exact ⟨this, by rw [hr, this]; simp⟩
  clear hr
  rcases hc with ⟨z1, rfl⟩ | ⟨rfl, rfl, rfl⟩ | ⟨rfl, rfl, a1, rfl⟩ | ⟨rfl, rfl, a1, a2, rfl⟩ | ⟨rfl, rfl, a1, a2, a3, rfl⟩ | ⟨rfl, rfl, a1, a2, a3, a4, rfl⟩ | ⟨rfl, rfl, a1, a2, a3, a4, rfl⟩
  · go_enter Try.func24, Try.ntmps24
    go_wp2_with fail
    go_at_call 22
    refine ((H1.out _)).mono ?_
    rintro e w1 ⟨rfl, hw1⟩
    have cw1_0_0 : w1.cell? ⟨W.heap.size, 0, none⟩ = some (.int .i64 lx) := cell_gr hw1 (by go_simp)
    have cw1_0_1 : w1.cell? ⟨W.heap.size, 1, none⟩ = some (.int .i64 ly) := cell_gr hw1 (by go_simp)
    have cw1_0_2 : w1.cell? ⟨W.heap.size, 2, none⟩ = some (.int .i64 hx) := cell_gr hw1 (by go_simp)
    have cw1_0_3 : w1.cell? ⟨W.heap.size, 3, none⟩ = some (.int .i64 hy) := cell_gr hw1 (by go_simp)
    have zw1_0 : W.heap.size < w1.heap.size := World.block_lt_of_cell? _ _ cw1_0_0
    have cw1_1_0 : w1.cell? ⟨W.heap.size + 1, 0, none⟩ = some (.int .i64 px) := cell_gr hw1 (by go_simp)
    have cw1_1_1 : w1.cell? ⟨W.heap.size + 1, 1, none⟩ = some (.int .i64 py) := cell_gr hw1 (by go_simp)
    have zw1_1 : W.heap.size + 1 < w1.heap.size := World.block_lt_of_cell? _ _ cw1_1_0
    have gw1 : Gr W w1 := Gr.trans (by go_grown) hw1
    clear hw1
    go_wp2_with fail
    go_ret
    exact ⟨rfl, by go_grown⟩
  all_goals
    go_enter Try.func24, Try.ntmps24
    go_wp2_with fail
    go_at_call 22
    refine ((H1.out _)).mono ?_
    rintro e w1 ⟨rfl, hw1⟩
    have cw1_0_0 : w1.cell? ⟨W.heap.size, 0, none⟩ = some (.int .i64 lx) := cell_gr hw1 (by go_simp)
    have cw1_0_1 : w1.cell? ⟨W.heap.size, 1, none⟩ = some (.int .i64 ly) := cell_gr hw1 (by go_simp)
    have cw1_0_2 : w1.cell? ⟨W.heap.size, 2, none⟩ = some (.int .i64 hx) := cell_gr hw1 (by go_simp)
    have cw1_0_3 : w1.cell? ⟨W.heap.size, 3, none⟩ = some (.int .i64 hy) := cell_gr hw1 (by go_simp)
    have zw1_0 : W.heap.size < w1.heap.size := World.block_lt_of_cell? _ _ cw1_0_0
    have cw1_1_0 : w1.cell? ⟨W.heap.size + 1, 0, none⟩ = some (.int .i64 px) := cell_gr hw1 (by go_simp)
    have cw1_1_1 : w1.cell? ⟨W.heap.size + 1, 1, none⟩ = some (.int .i64 py) := cell_gr hw1 (by go_simp)
    have zw1_1 : W.heap.size + 1 < w1.heap.size := World.block_lt_of_cell? _ _ cw1_1_0
    have gw1 : Gr W w1 := Gr.trans (by go_grown) hw1
    clear hw1
    go_wp2_with fail
    go_at_call 11
    refine ((H2.out _)).mono ?_
    rintro e w2 ⟨rfl, hw2⟩
    have cw2_0_0 : w2.cell? ⟨W.heap.size, 0, none⟩ = some (.int .i64 lx) := cell_gr hw2 (by go_simp)
    have cw2_0_1 : w2.cell? ⟨W.heap.size, 1, none⟩ = some (.int .i64 ly) := cell_gr hw2 (by go_simp)
    have cw2_0_2 : w2.cell? ⟨W.heap.size, 2, none⟩ = some (.int .i64 hx) := cell_gr hw2 (by go_simp)
    have cw2_0_3 : w2.cell? ⟨W.heap.size, 3, none⟩ = some (.int .i64 hy) := cell_gr hw2 (by go_simp)
    have zw2_0 : W.heap.size < w2.heap.size := World.block_lt_of_cell? _ _ cw2_0_0
    have cw2_1_0 : w2.cell? ⟨W.heap.size + 1, 0, none⟩ = some (.int .i64 px) := cell_gr hw2 (by go_simp)
    have cw2_1_1 : w2.cell? ⟨W.heap.size + 1, 1, none⟩ = some (.int .i64 py) := cell_gr hw2 (by go_simp)
    have zw2_1 : W.heap.size + 1 < w2.heap.size := World.block_lt_of_cell? _ _ cw2_1_0
    have gw2 : Gr W w2 := Gr.trans (by have gg := gw1; have gs := gg.size; go_grown) hw2
    clear hw2 gw1 zw1_0 cw1_0_0 cw1_0_1 cw1_0_2 cw1_0_3 zw1_1 cw1_1_0 cw1_1_1
    go_wp2_with fail
    go_ret
    exact ⟨by first | rfl | simp [a4], by go_grown⟩

set_option maxHeartbeats 1000000 in
set_option maxRecDepth 100000 in
theorem c_Area_no (lx ly hx hy : Int) (b1 : boxB lx ly hx hy = false) (W : World) :
    Calls Try.prog 30 #[.agg #[.int .i64 lx, .int .i64 ly, .int .i64 hx, .int .i64 hy]] W fun e w' => e = .returned (.agg #[.int .u64 0, .int .u64 0]) ∧ Gr W w' := by
  have M : ∀ b w, b < w.heap.size → w.cell? ⟨b, 0, none⟩ = some (.int .i64 lx) → w.cell? ⟨b, 1, none⟩ = some (.int .i64 ly) → w.cell? ⟨b, 2, none⟩ = some (.int .i64 hx) → w.cell? ⟨b, 3, none⟩ = some (.int .i64 hy) →
      Calls Try.prog 49 #[.slice (some ⟨b, 0, none⟩) 1 1] w fun e w' => e = .returned (.bool false) ∧ Gr w w' := fun b w hb k0 k1 k2 k3 => by
    rw [← b1]; exact c_mayBe1 lx ly hx hy b w hb k0 k1 k2 k3
  have H1 := Lib.hid M
  clear M b1
  go_enter Try.func30, Try.ntmps30
  go_wp2_with fail
  go_at_call 49
  refine ((H1.out _ _ (by go_simp) (by go_simp) (by go_simp) (by go_simp) (by go_simp))).mono ?_
  rintro e w1 ⟨rfl, hw1⟩
  have cw1_0_0 : w1.cell? ⟨W.heap.size, 0, none⟩ = some (.int .i64 lx) := cell_gr hw1 (by go_simp)
  have cw1_0_1 : w1.cell? ⟨W.heap.size, 1, none⟩ = some (.int .i64 ly) := cell_gr hw1 (by go_simp)
  have cw1_0_2 : w1.cell? ⟨W.heap.size, 2, none⟩ = some (.int .i64 hx) := cell_gr hw1 (by go_simp)
  have cw1_0_3 : w1.cell? ⟨W.heap.size, 3, none⟩ = some (.int .i64 hy) := cell_gr hw1 (by go_simp)
  have zw1_0 : W.heap.size < w1.heap.size := World.block_lt_of_cell? _ _ cw1_0_0
  have cw1_1_0 : w1.cell? ⟨W.heap.size + 1, 0, none⟩ = some (.int .u64 0) := cell_gr hw1 (by go_simp)
  have fw1_1_0 : w1.frozen? ⟨W.heap.size + 1, 0, none⟩ = false := frozen_gr (v := .int .u64 0) hw1 (by go_simp) (by go_simp)
  have cw1_1_1 : w1.cell? ⟨W.heap.size + 1, 1, none⟩ = some (.int .u64 0) := cell_gr hw1 (by go_simp)
  have fw1_1_1 : w1.frozen? ⟨W.heap.size + 1, 1, none⟩ = false := frozen_gr (v := .int .u64 0) hw1 (by go_simp) (by go_simp)
  have zw1_1 : W.heap.size + 1 < w1.heap.size := World.block_lt_of_cell? _ _ cw1_1_0
  have gw1 : Gr W w1 := Gr.trans (by go_grown) hw1
  clear hw1
  go_wp2_with fail
  refine bodyPost_ret (v := .agg #[.int .u64 0, .int .u64 0]) (by simp [results, Try.results30, go_sem, *]) rfl ⟨rfl, by go_grown⟩
theorem c_refused (z : Int) (hz : z = 1 ∨ z = 2) (w : World) : Calls Try.prog 53 #[.iface 67 (.int .i64 z)] w fun e w' => e = .returned (.bool true) ∧ Gr w w' := by
  rcases hz with rfl | rfl
  · have I1 : ∀ w, Calls Try.prog 42 #[.iface 67 (.int .i64 1), .iface 67 (.int .i64 2)] w fun e w' => e = .returned (.bool false) ∧ Gr w w' := c_Is_errno 1 2
    have I2 : ∀ w, Calls Try.prog 42 #[.iface 67 (.int .i64 1), .iface 67 (.int .i64 1)] w fun e w' => e = .returned (.bool true) ∧ Gr w w' := c_Is_errno 1 1
    have H1 := Lib.hid I1
    have H2 := Lib.hid I2
    clear I1 I2
    go_enter Try.func53, Try.ntmps53
    go_wp2_with fail
    go_at_call 42
    refine ((H1.out _)).mono ?_
    rintro e w1 ⟨rfl, hw1⟩
    have gw1 : Gr w w1 := Gr.trans (by go_grown) hw1
    clear hw1
    go_wp2_with fail
    go_at_call 42
    refine ((H2.out _)).mono ?_
    rintro e w2 ⟨rfl, hw2⟩
    have gw2 : Gr w w2 := Gr.trans (by have gg := gw1; have gs := gg.size; go_grown) hw2
    clear hw2 gw1
    go_wp2_with fail
    go_ret
    exact ⟨rfl, by go_grown⟩
  · have I1 : ∀ w, Calls Try.prog 42 #[.iface 67 (.int .i64 2), .iface 67 (.int .i64 2)] w fun e w' => e = .returned (.bool true) ∧ Gr w w' := c_Is_errno 2 2
    have H1 := Lib.hid I1
    clear I1
    go_enter Try.func53, Try.ntmps53
    go_wp2_with fail
    go_at_call 42
    refine ((H1.out _)).mono ?_
    rintro e w1 ⟨rfl, hw1⟩
    have gw1 : Gr w w1 := Gr.trans (by go_grown) hw1
    clear hw1
    go_wp2_with fail
    go_ret
    exact ⟨rfl, by go_grown⟩
end Go.Proofs.Ytffobfjjbcdbdaa
