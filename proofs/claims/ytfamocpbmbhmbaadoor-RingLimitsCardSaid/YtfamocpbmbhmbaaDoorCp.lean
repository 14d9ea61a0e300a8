/- points and boxes held against the document -/
import Derived.Test.YtfamocpbmbhmbaaDoorPm
import Derived.Test.YtfamocpbmbhmbaaDoorPi
namespace Go.Proofs.YtfamocpbmbhmbaaDoor
set_option linter.unusedVariables false
open Go.ChangeShapes Go.WideShapes Go.ChangeAt Go.RowKit

theorem c_CheckPoint (x y : Int) (W : World) :
    Calls Tryd.prog 37 #[.agg #[.int .i64 x, .int .i64 y]] W fun e w' => e = .returned (if nearB x y = true then .nilIface else .iface 69 (.int .i64 2)) ∧ Gr W w' := by
  have A := c_near x y
  cases hq : nearB x y
  · rw [hq] at A
    have H1 := Lib.hid A
    rw [if_neg (by simp)]
    clear A hq
    go_enter Tryd.func37, Tryd.ntmps37
    go_wp2_with fail
    go_at_call 57
    refine ((H1.out _)).mono ?_
    rintro e w1 ⟨rfl, hw1⟩
    have cw1_0_0 : w1.cell? ⟨W.heap.size, 0, none⟩ = some (.int .i64 x) := cell_gr hw1 (by go_simp)
    have cw1_0_1 : w1.cell? ⟨W.heap.size, 1, none⟩ = some (.int .i64 y) := cell_gr hw1 (by go_simp)
    have zw1_0 : W.heap.size < w1.heap.size := World.block_lt_of_cell? _ _ cw1_0_0
    have gw1 : Gr W w1 := Gr.trans (by go_grown) hw1
    clear hw1
    go_wp2_with fail
    go_ret
    exact ⟨rfl, by go_grown⟩
  · rw [hq] at A
    have H1 := Lib.hid A
    rw [if_pos rfl]
    clear A hq
    go_enter Tryd.func37, Tryd.ntmps37
    go_wp2_with fail
    go_at_call 57
    refine ((H1.out _)).mono ?_
    rintro e w1 ⟨rfl, hw1⟩
    have cw1_0_0 : w1.cell? ⟨W.heap.size, 0, none⟩ = some (.int .i64 x) := cell_gr hw1 (by go_simp)
    have cw1_0_1 : w1.cell? ⟨W.heap.size, 1, none⟩ = some (.int .i64 y) := cell_gr hw1 (by go_simp)
    have zw1_0 : W.heap.size < w1.heap.size := World.block_lt_of_cell? _ _ cw1_0_0
    have gw1 : Gr W w1 := Gr.trans (by go_grown) hw1
    clear hw1
    go_wp2_with fail
    go_ret
    exact ⟨rfl, by go_grown⟩
theorem boxErr_code {lx ly hx hy : Int} (h : boxB lx ly hx hy = false) : ∃ z : Int, (z = 1 ∨ z = 2) ∧ boxErr lx ly hx hy = .iface 69 (.int .i64 z) ∧ boxCode lx ly hx hy = z := by
  unfold boxB at h
  unfold boxErr boxCode
  by_cases h1 : (nearB lx ly && nearB hx hy) = true
  · rw [if_pos h1, if_pos h1]
    by_cases h2 : (decide (lx ≤ hx) && decide (ly ≤ hy)) = true
    · rw [h1, Bool.true_and, h2] at h
      cases h
    · rw [if_neg h2, if_neg h2]
      exact ⟨1, Or.inl rfl, rfl, rfl⟩
  · rw [if_neg h1, if_neg h1]
    exact ⟨2, Or.inr rfl, rfl, rfl⟩

set_option maxHeartbeats 2000000 in
set_option maxRecDepth 100000 in
theorem c_rBoxHas (lx ly hx hy px py : Int) (W : World) :
    Calls Tryd.prog 27 #[.agg #[.int .i64 lx, .int .i64 ly, .int .i64 hx, .int .i64 hy], .agg #[.int .i64 px, .int .i64 py]] W fun e w' => e = .returned (.bool (boxB lx ly hx hy && nearB px py && inB lx ly hx hy px py)) ∧ Gr W w' := by
  obtain ⟨r, hr⟩ : ∃ r, r = (boxB lx ly hx hy && nearB px py && inB lx ly hx hy px py) := ⟨_, rfl⟩
  rw [← hr]
  obtain ⟨k1, e1⟩ : ∃ k, k = boxCode lx ly hx hy := ⟨_, rfl⟩
  obtain ⟨q2, e2⟩ : ∃ q, q = nearB px py := ⟨_, rfl⟩
  have M := c_rCheckBox lx ly hx hy
  have N := c_rPoint px py
  rw [← e1] at M
  rw [← e2] at N
  rw [← boxCode_zero, ← e1, ← e2] at hr
  have H1 := Lib.hid M
  have H2 := Lib.hid N
  clear M N e1 e2
  unfold inB at hr
  have hc : ((k1 == 0) = false ∧ r = false) ∨ (k1 = 0 ∧ q2 = false ∧ r = false) ∨ (k1 = 0 ∧ q2 = true ∧ ¬ lx ≤ px ∧ r = false) ∨ (k1 = 0 ∧ q2 = true ∧ lx ≤ px ∧ ¬ px ≤ hx ∧ r = false) ∨ (k1 = 0 ∧ q2 = true ∧ lx ≤ px ∧ px ≤ hx ∧ ¬ ly ≤ py ∧ r = false) ∨ (k1 = 0 ∧ q2 = true ∧ lx ≤ px ∧ px ≤ hx ∧ ly ≤ py ∧ ¬ py ≤ hy ∧ r = false) ∨ (k1 = 0 ∧ q2 = true ∧ lx ≤ px ∧ px ≤ hx ∧ ly ≤ py ∧ py ≤ hy ∧ r = true) := by
    by_cases z1 : k1 = 0
    · cases q2
      · right; left; exact ⟨z1, rfl, by rw [hr]; simp⟩
      · subst z1
        right; right
        by_cases a1 : lx ≤ px <;> by_cases a2 : px ≤ hx <;> by_cases a3 : ly ≤ py <;> by_cases a4 : py ≤ hy <;> simp [hr, a1, a2, a3, a4]
    · have : (k1 == 0) = false := by simpa using z1
      left; exact ⟨this, by rw [hr, this]; simp⟩
  clear hr
  rcases hc with ⟨z1, rfl⟩ | ⟨rfl, rfl, rfl⟩ | ⟨rfl, rfl, a1, rfl⟩ | ⟨rfl, rfl, a1, a2, rfl⟩ | ⟨rfl, rfl, a1, a2, a3, rfl⟩ | ⟨rfl, rfl, a1, a2, a3, a4, rfl⟩ | ⟨rfl, rfl, a1, a2, a3, a4, rfl⟩
  · go_enter Tryd.func27, Tryd.ntmps27
    go_wp2_with fail
    go_at_call 24
    refine ((H1.out _)).mono ?_
    rintro e w1 ⟨rfl, hw1⟩
    have cw1_0_0 : w1.cell? ⟨W.heap.size, 0, none⟩ = some (.int .i64 lx) := cell_gr hw1 (by go_simp)
    have cw1_0_1 : w1.cell? ⟨W.heap.size, 1, none⟩ = some (.int .i64 ly) := cell_gr hw1 (by go_simp)
    have cw1_0_2 : w1.cell? ⟨W.heap.size, 2, none⟩ = some (.int .i64 hx) := cell_gr hw1 (by go_simp)
    have cw1_0_3 : w1.cell? ⟨W.heap.size, 3, none⟩ = some (.int .i64 hy) := cell_gr hw1 (by go_simp)
    have zw1_0 : W.heap.size < w1.heap.size := World.block_lt_of_cell? _ _ cw1_0_0
    have cw1_1_0 : w1.cell? ⟨W.heap.size + 1, 0, none⟩ = some (.int .i64 px) := cell_gr hw1 (by go_simp)
    have cw1_1_1 : w1.cell? ⟨W.heap.size + 1, 1, none⟩ = some (.int .i64 py) := cell_gr hw1 (by go_simp)
    have zw1_1 : W.heap.size + 1 < w1.heap.size := World.block_lt_of_cell? _ _ cw1_1_0
    have gw1 : Gr W w1 := Gr.trans (by go_grown) hw1
    clear hw1
    go_wp2_with fail
    go_ret
    exact ⟨rfl, by go_grown⟩
  all_goals
    go_enter Tryd.func27, Tryd.ntmps27
    go_wp2_with fail
    go_at_call 24
    refine ((H1.out _)).mono ?_
    rintro e w1 ⟨rfl, hw1⟩
    have cw1_0_0 : w1.cell? ⟨W.heap.size, 0, none⟩ = some (.int .i64 lx) := cell_gr hw1 (by go_simp)
    have cw1_0_1 : w1.cell? ⟨W.heap.size, 1, none⟩ = some (.int .i64 ly) := cell_gr hw1 (by go_simp)
    have cw1_0_2 : w1.cell? ⟨W.heap.size, 2, none⟩ = some (.int .i64 hx) := cell_gr hw1 (by go_simp)
    have cw1_0_3 : w1.cell? ⟨W.heap.size, 3, none⟩ = some (.int .i64 hy) := cell_gr hw1 (by go_simp)
    have zw1_0 : W.heap.size < w1.heap.size := World.block_lt_of_cell? _ _ cw1_0_0
    have cw1_1_0 : w1.cell? ⟨W.heap.size + 1, 0, none⟩ = some (.int .i64 px) := cell_gr hw1 (by go_simp)
    have cw1_1_1 : w1.cell? ⟨W.heap.size + 1, 1, none⟩ = some (.int .i64 py) := cell_gr hw1 (by go_simp)
    have zw1_1 : W.heap.size + 1 < w1.heap.size := World.block_lt_of_cell? _ _ cw1_1_0
    have gw1 : Gr W w1 := Gr.trans (by go_grown) hw1
    clear hw1
    go_wp2_with fail
    go_at_call 28
    refine ((H2.out _)).mono ?_
    rintro e w2 ⟨rfl, hw2⟩
    have cw2_0_0 : w2.cell? ⟨W.heap.size, 0, none⟩ = some (.int .i64 lx) := cell_gr hw2 (by go_simp)
    have cw2_0_1 : w2.cell? ⟨W.heap.size, 1, none⟩ = some (.int .i64 ly) := cell_gr hw2 (by go_simp)
    have cw2_0_2 : w2.cell? ⟨W.heap.size, 2, none⟩ = some (.int .i64 hx) := cell_gr hw2 (by go_simp)
    have cw2_0_3 : w2.cell? ⟨W.heap.size, 3, none⟩ = some (.int .i64 hy) := cell_gr hw2 (by go_simp)
    have zw2_0 : W.heap.size < w2.heap.size := World.block_lt_of_cell? _ _ cw2_0_0
    have cw2_1_0 : w2.cell? ⟨W.heap.size + 1, 0, none⟩ = some (.int .i64 px) := cell_gr hw2 (by go_simp)
    have cw2_1_1 : w2.cell? ⟨W.heap.size + 1, 1, none⟩ = some (.int .i64 py) := cell_gr hw2 (by go_simp)
    have zw2_1 : W.heap.size + 1 < w2.heap.size := World.block_lt_of_cell? _ _ cw2_1_0
    have gw2 : Gr W w2 := Gr.trans (by have gg := gw1; have gs := gg.size; go_grown) hw2
    clear hw2 gw1 zw1_0 cw1_0_0 cw1_0_1 cw1_0_2 cw1_0_3 zw1_1 cw1_1_0 cw1_1_1
    go_wp2_with fail
    go_ret
    exact ⟨by first | rfl | simp [a4], by go_grown⟩

end Go.Proofs.YtfamocpbmbhmbaaDoor
