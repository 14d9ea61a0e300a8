/- RelChecks -/
import Derived.Test.YtlkciinhhagjiaaDoorUc
import Derived.Test.YtlkciinhhagjiaaDoorOb
namespace Go.Proofs.YtlkciinhhagjiaaDoor
set_option linter.unusedVariables false
set_option linter.unusedSimpArgs false
open Go.ChangeShapes Go.WideShapes Go.ChangeAt Go.RowKit

set_option maxRecDepth 100000 in
theorem c_small6 (k kq lx ly hx hy : Int) (ad bd : Option Addr) (n cap m bcap : Nat) (W : World) :
    Calls Tryd.prog 7 #[.agg #[.int .i64 k, .slice ad n cap], qryV kq lx ly hx hy (.slice bd m bcap)] W fun e w' => e = .returned (.bool (decide (n ≤ 70) && decide (m ≤ 70))) ∧ Gr W w' := by
  by_cases h1 : n ≤ 70
  · have t1 : decide ((n : Int) ≤ 70) = true := decide_eq_true (by omega)
    have t2 : decide (n ≤ 70) = true := decide_eq_true h1
    by_cases h2 : m ≤ 70
    · have u1 : decide ((m : Int) ≤ 70) = true := decide_eq_true (by omega)
      have u2 : decide (m ≤ 70) = true := decide_eq_true h2
      rw [t2, u2]
      clear h1 h2
      go_enter Tryd.func7, Tryd.ntmps7
      go_wp2_with fail
      go_ret
      exact ⟨rfl, by go_grown⟩
    · have u1 : decide ((m : Int) ≤ 70) = false := decide_eq_false (by omega)
      have u2 : decide (m ≤ 70) = false := decide_eq_false h2
      rw [t2, u2]
      clear h1 h2
      go_enter Tryd.func7, Tryd.ntmps7
      go_wp2_with fail
      go_ret
      exact ⟨rfl, by go_grown⟩
  · have t1 : decide ((n : Int) ≤ 70) = false := decide_eq_false (by omega)
    have t2 : decide (n ≤ 70) = false := decide_eq_false h1
    rw [t2]
    clear h1
    go_enter Tryd.func7, Tryd.ntmps7
    go_wp2_with fail
    go_ret
    exact ⟨rfl, by go_grown⟩
set_option maxHeartbeats 8000000 in
set_option maxRecDepth 100000 in
theorem walk_RelChecks (W : World) (k : Int) (v : Value) (kq lx ly hx hy : Int) (u : Value) (h : (-9223372036854775808 ≤ k ∧ k ≤ 9223372036854775807) ∧ ∃ (n : Nat) (X Y : Nat → Int), Pts W v n X Y) (hu : ∃ (n : Nat) (X Y : Nat → Int), Pts W u n X Y) (hE : ErrT W) :
    Calls Tryd.prog 3 #[.agg #[.int .i64 k, v], qryV kq lx ly hx hy u] W fun e w' => e = .returned (.bool true) ∧ Gr W w' := by
  obtain ⟨-, n, X, Y, h⟩ := h
  obtain ⟨m, P, Q, hu⟩ := hu
  have A1 : ∀ w, Gr W w → Calls Tryd.prog 10 #[.agg #[.int .i64 k, v]] w fun e w' => ∃ x, e = .returned x ∧ WErr objectS w' x k (objC k n X Y) ∧ Gr w w' := fun w g => c_relCheck k w (pts_gr h g)
  have A2 : ∀ w, Gr W w → Calls Tryd.prog 11 #[.agg #[.int .i64 k, v]] w fun e w' => e = .returned (.int .i64 (objC k n X Y : Nat)) ∧ Gr w w' ∧ Gr w w' := fun w g => (c_rCheck k w (pts_gr h g)).mono (fun e w' ⟨a, b⟩ => ⟨a, b, b⟩)
  have A3 : ∀ w, Gr W w → Calls Tryd.prog 12 #[qryV kq lx ly hx hy u] w fun e w' => ∃ x, e = .returned x ∧ WErr queryS w' x kq (qC kq lx ly hx hy m P Q) ∧ Gr w w' := fun w g => c_CheckQuery kq lx ly hx hy w (pts_gr hu g)
  have A4 : ∀ w, Gr W w → Calls Tryd.prog 13 #[qryV kq lx ly hx hy u] w fun e w' => e = .returned (.int .i64 (qC kq lx ly hx hy m P Q : Nat)) ∧ Gr w w' ∧ Gr w w' := fun w g => (c_rCheckQuery kq lx ly hx hy w (pts_gr hu g)).mono (fun e w' ⟨a, b⟩ => ⟨a, b, b⟩)
  generalize objC k n X Y = c at A1 A2
  generalize qC kq lx ly hx hy m P Q = d at A3 A4
  have A5 : ∀ w x, Gr W w → WErr objectS w x k c → Calls Tryd.prog 9 #[x, .int .i64 c, .string objectS, .int .i64 k] w fun e w' => e = .returned (.bool true) ∧ Gr w w' := fun w x g hx => c_AlIs_werr w (errT_gr hE g) hx
  have A6 : ∀ w x, Gr W w → WErr queryS w x kq d → Calls Tryd.prog 9 #[x, .int .i64 d, .string queryS, .int .i64 kq] w fun e w' => e = .returned (.bool true) ∧ Gr w w' := fun w x g hx => c_AlIs_werr w (errT_gr hE g) hx
  have A7 : ∀ w, Gr W w → Calls Tryd.prog 8 #[] w fun e w' => e = .returned (.bool true) ∧ Gr w w' := fun w g => p6_awake w (errT_gr hE g)
  obtain ⟨ad, cap, B, off, rfl, _⟩ := h
  obtain ⟨bd, bcap, C, oc, rfl, _⟩ := hu
  have A8 := fun w => c_small6 k kq lx ly hx hy ad bd n cap m bcap w
  have H1 := Lib.hid A1
  have H2 := Lib.hid A2
  have H3 := Lib.hid A3
  have H4 := Lib.hid A4
  have H5 := Lib.hid A5
  have H6 := Lib.hid A6
  have H7 := Lib.hid A7
  clear A1 A2 A3 A4 A5 A6 A7
  clear hE
  cases hs : (decide (n ≤ 70) && decide (m ≤ 70))
  · rw [hs] at A8
    have H8 := Lib.hid A8
    clear A8
    clear hs
    go_enter Tryd.func3, Tryd.ntmps3
    go_wp2_with fail
    go_at_call 7
    refine ((H8.out _)).mono ?_
    rintro e w1 ⟨rfl, hw1⟩
    have gw1 : Gr W w1 := Gr.trans (by go_grown) hw1
    clear hw1
    go_wp2_with fail
    go_at_call 8
    refine ((H7.out _ (by have gg := gw1; have gs := gg.size; go_grown))).mono ?_
    rintro e w2 ⟨rfl, hw2⟩
    have gw2 : Gr W w2 := Gr.trans (by have gg := gw1; have gs := gg.size; go_grown) hw2
    clear hw2 gw1
    go_wp2_with fail
    go_ret
    exact ⟨rfl, gw2⟩
  · rw [hs] at A8
    have H8 := Lib.hid A8
    clear A8
    clear hs
    go_enter Tryd.func3, Tryd.ntmps3
    go_wp2_with fail
    go_at_call 7
    refine ((H8.out _)).mono ?_
    rintro e w1 ⟨rfl, hw1⟩
    have cw1_0_0 : w1.cell? ⟨W.heap.size, 0, none⟩ = some (.int .i64 k) := cell_gr hw1 (by go_simp)
    have cw1_0_1 : w1.cell? ⟨W.heap.size, 1, none⟩ = some (.slice ad n cap) := cell_gr hw1 (by go_simp)
    have zw1_0 : W.heap.size < w1.heap.size := World.block_lt_of_cell? _ _ cw1_0_0
    have cw1_1_0 : w1.cell? ⟨W.heap.size + 1, 0, none⟩ = some (.int .i64 kq) := cell_gr hw1 (by go_simp)
    have cw1_1_1 : w1.cell? ⟨W.heap.size + 1, 1, none⟩ = some (.int .i64 lx) := cell_gr hw1 (by go_simp)
    have cw1_1_2 : w1.cell? ⟨W.heap.size + 1, 2, none⟩ = some (.int .i64 ly) := cell_gr hw1 (by go_simp)
    have cw1_1_3 : w1.cell? ⟨W.heap.size + 1, 3, none⟩ = some (.int .i64 hx) := cell_gr hw1 (by go_simp)
    have cw1_1_4 : w1.cell? ⟨W.heap.size + 1, 4, none⟩ = some (.int .i64 hy) := cell_gr hw1 (by go_simp)
    have cw1_1_5 : w1.cell? ⟨W.heap.size + 1, 5, none⟩ = some (.slice bd m bcap) := cell_gr hw1 (by go_simp)
    have zw1_1 : W.heap.size + 1 < w1.heap.size := World.block_lt_of_cell? _ _ cw1_1_0
    have gw1 : Gr W w1 := Gr.trans (by go_grown) hw1
    clear hw1
    go_wp2_with fail
    try simp only [List.append]
    refine Od.wp_region_ord [(0, false), (2, false), (4, false), (5, false), (1, true), (3, true), (6, true), (7, false), (8, false), (10, false), (12, false), (13, false), (9, true), (11, true), (14, true), (15, false), (16, false), (17, true), (18, false), (19, false)] (by kernel_rfl) (by kernel_rfl) ?_
    intro w2 hw2 KQ hKQ
    have cw2_0_0 : w2.cell? ⟨W.heap.size, 0, none⟩ = some (.int .i64 k) := cell_gr hw2 (by go_simp)
    have cw2_0_1 : w2.cell? ⟨W.heap.size, 1, none⟩ = some (.slice ad n cap) := cell_gr hw2 (by go_simp)
    have zw2_0 : W.heap.size < w2.heap.size := World.block_lt_of_cell? _ _ cw2_0_0
    have cw2_1_0 : w2.cell? ⟨W.heap.size + 1, 0, none⟩ = some (.int .i64 kq) := cell_gr hw2 (by go_simp)
    have cw2_1_1 : w2.cell? ⟨W.heap.size + 1, 1, none⟩ = some (.int .i64 lx) := cell_gr hw2 (by go_simp)
    have cw2_1_2 : w2.cell? ⟨W.heap.size + 1, 2, none⟩ = some (.int .i64 ly) := cell_gr hw2 (by go_simp)
    have cw2_1_3 : w2.cell? ⟨W.heap.size + 1, 3, none⟩ = some (.int .i64 hx) := cell_gr hw2 (by go_simp)
    have cw2_1_4 : w2.cell? ⟨W.heap.size + 1, 4, none⟩ = some (.int .i64 hy) := cell_gr hw2 (by go_simp)
    have cw2_1_5 : w2.cell? ⟨W.heap.size + 1, 5, none⟩ = some (.slice bd m bcap) := cell_gr hw2 (by go_simp)
    have zw2_1 : W.heap.size + 1 < w2.heap.size := World.block_lt_of_cell? _ _ cw2_1_0
    have gw2 : Gr W w2 := Gr.trans (by have gg := gw1; have gs := gg.size; go_grown) hw2
    clear gw1 zw1_0 cw1_0_0 cw1_0_1 zw1_1 cw1_1_0 cw1_1_1 cw1_1_2 cw1_1_3 cw1_1_4 cw1_1_5
    clear hw2
    repeat (first | (refine Od.wpO_skip (by simp only [List.getElem?_toArray, List.getElem?_cons_succ, List.getElem?_cons_zero] <;> rfl) rfl ?_; simp only [Act.put, List.setIfInBounds_toArray, List.set_cons_zero, List.set_cons_succ]) | (refine Od.wpO_pure (by simp only [List.getElem?_toArray, List.getElem?_cons_succ, List.getElem?_cons_zero] <;> rfl) rfl ?_; apply Exists.intro; refine ⟨?_, ?_⟩; (· intro wx gx; obtain ⟨mx, rfl⟩ := spread_of_gr gx; clear gx; all_goals (apply Od.pAt_of_quiet; intro K hK; go_big_quiet_op; first | exact hK _ rfl | (apply Exists.intro; refine ⟨fun _ => ?_, ?_⟩; (· fail); exact hK _ rfl))); try simp only [Act.put, List.setIfInBounds_toArray, List.set_cons_zero, List.set_cons_succ]))
    refine Od.wpO_call (by simp only [List.getElem?_toArray, List.getElem?_cons_succ, List.getElem?_cons_zero] <;> rfl) rfl ?_
    intro QS hQS
    go_wp2_with fail
    go_at_call 10
    (with_reducible refine ((H1.out _ gw2)).mono ?_)
    rintro e w3 ⟨x3, rfl, E3, hw3⟩
    go_wp2_with fail
    apply Exists.intro
    refine ⟨?_, hw3, ?_⟩
    · simp only [Act.put, List.setIfInBounds_toArray, List.set_cons_zero, List.set_cons_succ]; rfl
    have cw3_0_0 : w3.cell? ⟨W.heap.size, 0, none⟩ = some (.int .i64 k) := cell_gr hw3 (by go_simp)
    have cw3_0_1 : w3.cell? ⟨W.heap.size, 1, none⟩ = some (.slice ad n cap) := cell_gr hw3 (by go_simp)
    have zw3_0 : W.heap.size < w3.heap.size := World.block_lt_of_cell? _ _ cw3_0_0
    have cw3_1_0 : w3.cell? ⟨W.heap.size + 1, 0, none⟩ = some (.int .i64 kq) := cell_gr hw3 (by go_simp)
    have cw3_1_1 : w3.cell? ⟨W.heap.size + 1, 1, none⟩ = some (.int .i64 lx) := cell_gr hw3 (by go_simp)
    have cw3_1_2 : w3.cell? ⟨W.heap.size + 1, 2, none⟩ = some (.int .i64 ly) := cell_gr hw3 (by go_simp)
    have cw3_1_3 : w3.cell? ⟨W.heap.size + 1, 3, none⟩ = some (.int .i64 hx) := cell_gr hw3 (by go_simp)
    have cw3_1_4 : w3.cell? ⟨W.heap.size + 1, 4, none⟩ = some (.int .i64 hy) := cell_gr hw3 (by go_simp)
    have cw3_1_5 : w3.cell? ⟨W.heap.size + 1, 5, none⟩ = some (.slice bd m bcap) := cell_gr hw3 (by go_simp)
    have zw3_1 : W.heap.size + 1 < w3.heap.size := World.block_lt_of_cell? _ _ cw3_1_0
    have gw3 : Gr W w3 := Gr.trans (by have gg := gw2; have gs := gg.size; go_grown) hw3
    clear gw2 zw2_0 cw2_0_0 cw2_0_1 zw2_1 cw2_1_0 cw2_1_1 cw2_1_2 cw2_1_3 cw2_1_4 cw2_1_5
    clear hw3
    try simp only [Act.put, List.setIfInBounds_toArray, List.set_cons_zero, List.set_cons_succ]
    repeat (first | (refine Od.wpO_skip (by simp only [List.getElem?_toArray, List.getElem?_cons_succ, List.getElem?_cons_zero] <;> rfl) rfl ?_; simp only [Act.put, List.setIfInBounds_toArray, List.set_cons_zero, List.set_cons_succ]) | (refine Od.wpO_pure (by simp only [List.getElem?_toArray, List.getElem?_cons_succ, List.getElem?_cons_zero] <;> rfl) rfl ?_; apply Exists.intro; refine ⟨?_, ?_⟩; (· intro wx gx; obtain ⟨mx, rfl⟩ := spread_of_gr gx; clear gx; all_goals (apply Od.pAt_of_quiet; intro K hK; go_big_quiet_op; first | exact hK _ rfl | (apply Exists.intro; refine ⟨fun _ => ?_, ?_⟩; (· fail); exact hK _ rfl))); try simp only [Act.put, List.setIfInBounds_toArray, List.set_cons_zero, List.set_cons_succ]))
    refine Od.wpO_call (by simp only [List.getElem?_toArray, List.getElem?_cons_succ, List.getElem?_cons_zero] <;> rfl) rfl ?_
    intro QS hQS
    go_wp2_with fail
    go_at_call 11
    (with_reducible refine ((H2.out _ gw3)).mono ?_)
    rintro e w4 ⟨rfl, hw4, k4⟩
    go_wp2_with fail
    apply Exists.intro
    refine ⟨?_, hw4, ?_⟩
    · simp only [Act.put, List.setIfInBounds_toArray, List.set_cons_zero, List.set_cons_succ]; rfl
    have cw4_0_0 : w4.cell? ⟨W.heap.size, 0, none⟩ = some (.int .i64 k) := cell_gr hw4 (by go_simp)
    have cw4_0_1 : w4.cell? ⟨W.heap.size, 1, none⟩ = some (.slice ad n cap) := cell_gr hw4 (by go_simp)
    have zw4_0 : W.heap.size < w4.heap.size := World.block_lt_of_cell? _ _ cw4_0_0
    have cw4_1_0 : w4.cell? ⟨W.heap.size + 1, 0, none⟩ = some (.int .i64 kq) := cell_gr hw4 (by go_simp)
    have cw4_1_1 : w4.cell? ⟨W.heap.size + 1, 1, none⟩ = some (.int .i64 lx) := cell_gr hw4 (by go_simp)
    have cw4_1_2 : w4.cell? ⟨W.heap.size + 1, 2, none⟩ = some (.int .i64 ly) := cell_gr hw4 (by go_simp)
    have cw4_1_3 : w4.cell? ⟨W.heap.size + 1, 3, none⟩ = some (.int .i64 hx) := cell_gr hw4 (by go_simp)
    have cw4_1_4 : w4.cell? ⟨W.heap.size + 1, 4, none⟩ = some (.int .i64 hy) := cell_gr hw4 (by go_simp)
    have cw4_1_5 : w4.cell? ⟨W.heap.size + 1, 5, none⟩ = some (.slice bd m bcap) := cell_gr hw4 (by go_simp)
    have zw4_1 : W.heap.size + 1 < w4.heap.size := World.block_lt_of_cell? _ _ cw4_1_0
    have gw4 : Gr W w4 := Gr.trans (by have gg := gw3; have gs := gg.size; go_grown) hw4
    clear gw3 zw3_0 cw3_0_0 cw3_0_1 zw3_1 cw3_1_0 cw3_1_1 cw3_1_2 cw3_1_3 cw3_1_4 cw3_1_5
    clear hw4
    try simp only [Act.put, List.setIfInBounds_toArray, List.set_cons_zero, List.set_cons_succ]
    repeat (first | (refine Od.wpO_skip (by simp only [List.getElem?_toArray, List.getElem?_cons_succ, List.getElem?_cons_zero] <;> rfl) rfl ?_; simp only [Act.put, List.setIfInBounds_toArray, List.set_cons_zero, List.set_cons_succ]) | (refine Od.wpO_pure (by simp only [List.getElem?_toArray, List.getElem?_cons_succ, List.getElem?_cons_zero] <;> rfl) rfl ?_; apply Exists.intro; refine ⟨?_, ?_⟩; (· intro wx gx; obtain ⟨mx, rfl⟩ := spread_of_gr gx; clear gx; all_goals (apply Od.pAt_of_quiet; intro K hK; go_big_quiet_op; first | exact hK _ rfl | (apply Exists.intro; refine ⟨fun _ => ?_, ?_⟩; (· fail); exact hK _ rfl))); try simp only [Act.put, List.setIfInBounds_toArray, List.set_cons_zero, List.set_cons_succ]))
    refine Od.wpO_call (by simp only [List.getElem?_toArray, List.getElem?_cons_succ, List.getElem?_cons_zero] <;> rfl) rfl ?_
    intro QS hQS
    go_wp2_with fail
    go_at_call 9
    (with_reducible refine ((H5.out _ _ gw4 (werr_gr E3 k4))).mono ?_)
    rintro e w5 ⟨rfl, hw5⟩
    go_wp2_with fail
    apply Exists.intro
    refine ⟨?_, hw5, ?_⟩
    · simp only [Act.put, List.setIfInBounds_toArray, List.set_cons_zero, List.set_cons_succ]; rfl
    have cw5_0_0 : w5.cell? ⟨W.heap.size, 0, none⟩ = some (.int .i64 k) := cell_gr hw5 (by go_simp)
    have cw5_0_1 : w5.cell? ⟨W.heap.size, 1, none⟩ = some (.slice ad n cap) := cell_gr hw5 (by go_simp)
    have zw5_0 : W.heap.size < w5.heap.size := World.block_lt_of_cell? _ _ cw5_0_0
    have cw5_1_0 : w5.cell? ⟨W.heap.size + 1, 0, none⟩ = some (.int .i64 kq) := cell_gr hw5 (by go_simp)
    have cw5_1_1 : w5.cell? ⟨W.heap.size + 1, 1, none⟩ = some (.int .i64 lx) := cell_gr hw5 (by go_simp)
    have cw5_1_2 : w5.cell? ⟨W.heap.size + 1, 2, none⟩ = some (.int .i64 ly) := cell_gr hw5 (by go_simp)
    have cw5_1_3 : w5.cell? ⟨W.heap.size + 1, 3, none⟩ = some (.int .i64 hx) := cell_gr hw5 (by go_simp)
    have cw5_1_4 : w5.cell? ⟨W.heap.size + 1, 4, none⟩ = some (.int .i64 hy) := cell_gr hw5 (by go_simp)
    have cw5_1_5 : w5.cell? ⟨W.heap.size + 1, 5, none⟩ = some (.slice bd m bcap) := cell_gr hw5 (by go_simp)
    have zw5_1 : W.heap.size + 1 < w5.heap.size := World.block_lt_of_cell? _ _ cw5_1_0
    have gw5 : Gr W w5 := Gr.trans (by have gg := gw4; have gs := gg.size; go_grown) hw5
    clear gw4 zw4_0 cw4_0_0 cw4_0_1 zw4_1 cw4_1_0 cw4_1_1 cw4_1_2 cw4_1_3 cw4_1_4 cw4_1_5
    clear hw5
    try simp only [Act.put, List.setIfInBounds_toArray, List.set_cons_zero, List.set_cons_succ]
    repeat (first | (refine Od.wpO_skip (by simp only [List.getElem?_toArray, List.getElem?_cons_succ, List.getElem?_cons_zero] <;> rfl) rfl ?_; simp only [Act.put, List.setIfInBounds_toArray, List.set_cons_zero, List.set_cons_succ]) | (refine Od.wpO_pure (by simp only [List.getElem?_toArray, List.getElem?_cons_succ, List.getElem?_cons_zero] <;> rfl) rfl ?_; apply Exists.intro; refine ⟨?_, ?_⟩; (· intro wx gx; obtain ⟨mx, rfl⟩ := spread_of_gr gx; clear gx; all_goals (apply Od.pAt_of_quiet; intro K hK; go_big_quiet_op; first | exact hK _ rfl | (apply Exists.intro; refine ⟨fun _ => ?_, ?_⟩; (· fail); exact hK _ rfl))); try simp only [Act.put, List.setIfInBounds_toArray, List.set_cons_zero, List.set_cons_succ]))
    refine Od.wpO_call (by simp only [List.getElem?_toArray, List.getElem?_cons_succ, List.getElem?_cons_zero] <;> rfl) rfl ?_
    intro QS hQS
    go_wp2_with fail
    go_at_call 12
    (with_reducible refine ((H3.out _ gw5)).mono ?_)
    rintro e w6 ⟨x6, rfl, E6, hw6⟩
    go_wp2_with fail
    apply Exists.intro
    refine ⟨?_, hw6, ?_⟩
    · simp only [Act.put, List.setIfInBounds_toArray, List.set_cons_zero, List.set_cons_succ]; rfl
    have cw6_0_0 : w6.cell? ⟨W.heap.size, 0, none⟩ = some (.int .i64 k) := cell_gr hw6 (by go_simp)
    have cw6_0_1 : w6.cell? ⟨W.heap.size, 1, none⟩ = some (.slice ad n cap) := cell_gr hw6 (by go_simp)
    have zw6_0 : W.heap.size < w6.heap.size := World.block_lt_of_cell? _ _ cw6_0_0
    have cw6_1_0 : w6.cell? ⟨W.heap.size + 1, 0, none⟩ = some (.int .i64 kq) := cell_gr hw6 (by go_simp)
    have cw6_1_1 : w6.cell? ⟨W.heap.size + 1, 1, none⟩ = some (.int .i64 lx) := cell_gr hw6 (by go_simp)
    have cw6_1_2 : w6.cell? ⟨W.heap.size + 1, 2, none⟩ = some (.int .i64 ly) := cell_gr hw6 (by go_simp)
    have cw6_1_3 : w6.cell? ⟨W.heap.size + 1, 3, none⟩ = some (.int .i64 hx) := cell_gr hw6 (by go_simp)
    have cw6_1_4 : w6.cell? ⟨W.heap.size + 1, 4, none⟩ = some (.int .i64 hy) := cell_gr hw6 (by go_simp)
    have cw6_1_5 : w6.cell? ⟨W.heap.size + 1, 5, none⟩ = some (.slice bd m bcap) := cell_gr hw6 (by go_simp)
    have zw6_1 : W.heap.size + 1 < w6.heap.size := World.block_lt_of_cell? _ _ cw6_1_0
    have gw6 : Gr W w6 := Gr.trans (by have gg := gw5; have gs := gg.size; go_grown) hw6
    clear gw5 zw5_0 cw5_0_0 cw5_0_1 zw5_1 cw5_1_0 cw5_1_1 cw5_1_2 cw5_1_3 cw5_1_4 cw5_1_5
    clear hw6
    try simp only [Act.put, List.setIfInBounds_toArray, List.set_cons_zero, List.set_cons_succ]
    repeat (first | (refine Od.wpO_skip (by simp only [List.getElem?_toArray, List.getElem?_cons_succ, List.getElem?_cons_zero] <;> rfl) rfl ?_; simp only [Act.put, List.setIfInBounds_toArray, List.set_cons_zero, List.set_cons_succ]) | (refine Od.wpO_pure (by simp only [List.getElem?_toArray, List.getElem?_cons_succ, List.getElem?_cons_zero] <;> rfl) rfl ?_; apply Exists.intro; refine ⟨?_, ?_⟩; (· intro wx gx; obtain ⟨mx, rfl⟩ := spread_of_gr gx; clear gx; all_goals (apply Od.pAt_of_quiet; intro K hK; go_big_quiet_op; first | exact hK _ rfl | (apply Exists.intro; refine ⟨fun _ => ?_, ?_⟩; (· fail); exact hK _ rfl))); try simp only [Act.put, List.setIfInBounds_toArray, List.set_cons_zero, List.set_cons_succ]))
    refine Od.wpO_call (by simp only [List.getElem?_toArray, List.getElem?_cons_succ, List.getElem?_cons_zero] <;> rfl) rfl ?_
    intro QS hQS
    go_wp2_with fail
    go_at_call 13
    (with_reducible refine ((H4.out _ gw6)).mono ?_)
    rintro e w7 ⟨rfl, hw7, k7⟩
    go_wp2_with fail
    apply Exists.intro
    refine ⟨?_, hw7, ?_⟩
    · simp only [Act.put, List.setIfInBounds_toArray, List.set_cons_zero, List.set_cons_succ]; rfl
    have cw7_0_0 : w7.cell? ⟨W.heap.size, 0, none⟩ = some (.int .i64 k) := cell_gr hw7 (by go_simp)
    have cw7_0_1 : w7.cell? ⟨W.heap.size, 1, none⟩ = some (.slice ad n cap) := cell_gr hw7 (by go_simp)
    have zw7_0 : W.heap.size < w7.heap.size := World.block_lt_of_cell? _ _ cw7_0_0
    have cw7_1_0 : w7.cell? ⟨W.heap.size + 1, 0, none⟩ = some (.int .i64 kq) := cell_gr hw7 (by go_simp)
    have cw7_1_1 : w7.cell? ⟨W.heap.size + 1, 1, none⟩ = some (.int .i64 lx) := cell_gr hw7 (by go_simp)
    have cw7_1_2 : w7.cell? ⟨W.heap.size + 1, 2, none⟩ = some (.int .i64 ly) := cell_gr hw7 (by go_simp)
    have cw7_1_3 : w7.cell? ⟨W.heap.size + 1, 3, none⟩ = some (.int .i64 hx) := cell_gr hw7 (by go_simp)
    have cw7_1_4 : w7.cell? ⟨W.heap.size + 1, 4, none⟩ = some (.int .i64 hy) := cell_gr hw7 (by go_simp)
    have cw7_1_5 : w7.cell? ⟨W.heap.size + 1, 5, none⟩ = some (.slice bd m bcap) := cell_gr hw7 (by go_simp)
    have zw7_1 : W.heap.size + 1 < w7.heap.size := World.block_lt_of_cell? _ _ cw7_1_0
    have gw7 : Gr W w7 := Gr.trans (by have gg := gw6; have gs := gg.size; go_grown) hw7
    clear gw6 zw6_0 cw6_0_0 cw6_0_1 zw6_1 cw6_1_0 cw6_1_1 cw6_1_2 cw6_1_3 cw6_1_4 cw6_1_5
    clear hw7
    try simp only [Act.put, List.setIfInBounds_toArray, List.set_cons_zero, List.set_cons_succ]
    repeat (first | (refine Od.wpO_skip (by simp only [List.getElem?_toArray, List.getElem?_cons_succ, List.getElem?_cons_zero] <;> rfl) rfl ?_; simp only [Act.put, List.setIfInBounds_toArray, List.set_cons_zero, List.set_cons_succ]) | (refine Od.wpO_pure (by simp only [List.getElem?_toArray, List.getElem?_cons_succ, List.getElem?_cons_zero] <;> rfl) rfl ?_; apply Exists.intro; refine ⟨?_, ?_⟩; (· intro wx gx; obtain ⟨mx, rfl⟩ := spread_of_gr gx; clear gx; all_goals (apply Od.pAt_of_quiet; intro K hK; go_big_quiet_op; first | exact hK _ rfl | (apply Exists.intro; refine ⟨fun _ => ?_, ?_⟩; (· fail); exact hK _ rfl))); try simp only [Act.put, List.setIfInBounds_toArray, List.set_cons_zero, List.set_cons_succ]))
    refine Od.wpO_call (by simp only [List.getElem?_toArray, List.getElem?_cons_succ, List.getElem?_cons_zero] <;> rfl) rfl ?_
    intro QS hQS
    go_wp2_with fail
    go_at_call 9
    (with_reducible refine ((H6.out _ _ gw7 (werr_gr E6 k7))).mono ?_)
    rintro e w8 ⟨rfl, hw8⟩
    go_wp2_with fail
    apply Exists.intro
    refine ⟨?_, hw8, ?_⟩
    · simp only [Act.put, List.setIfInBounds_toArray, List.set_cons_zero, List.set_cons_succ]; rfl
    have cw8_0_0 : w8.cell? ⟨W.heap.size, 0, none⟩ = some (.int .i64 k) := cell_gr hw8 (by go_simp)
    have cw8_0_1 : w8.cell? ⟨W.heap.size, 1, none⟩ = some (.slice ad n cap) := cell_gr hw8 (by go_simp)
    have zw8_0 : W.heap.size < w8.heap.size := World.block_lt_of_cell? _ _ cw8_0_0
    have cw8_1_0 : w8.cell? ⟨W.heap.size + 1, 0, none⟩ = some (.int .i64 kq) := cell_gr hw8 (by go_simp)
    have cw8_1_1 : w8.cell? ⟨W.heap.size + 1, 1, none⟩ = some (.int .i64 lx) := cell_gr hw8 (by go_simp)
    have cw8_1_2 : w8.cell? ⟨W.heap.size + 1, 2, none⟩ = some (.int .i64 ly) := cell_gr hw8 (by go_simp)
    have cw8_1_3 : w8.cell? ⟨W.heap.size + 1, 3, none⟩ = some (.int .i64 hx) := cell_gr hw8 (by go_simp)
    have cw8_1_4 : w8.cell? ⟨W.heap.size + 1, 4, none⟩ = some (.int .i64 hy) := cell_gr hw8 (by go_simp)
    have cw8_1_5 : w8.cell? ⟨W.heap.size + 1, 5, none⟩ = some (.slice bd m bcap) := cell_gr hw8 (by go_simp)
    have zw8_1 : W.heap.size + 1 < w8.heap.size := World.block_lt_of_cell? _ _ cw8_1_0
    have gw8 : Gr W w8 := Gr.trans (by have gg := gw7; have gs := gg.size; go_grown) hw8
    clear gw7 zw7_0 cw7_0_0 cw7_0_1 zw7_1 cw7_1_0 cw7_1_1 cw7_1_2 cw7_1_3 cw7_1_4 cw7_1_5
    clear hw8
    try simp only [Act.put, List.setIfInBounds_toArray, List.set_cons_zero, List.set_cons_succ]
    repeat (first | (refine Od.wpO_skip (by simp only [List.getElem?_toArray, List.getElem?_cons_succ, List.getElem?_cons_zero] <;> rfl) rfl ?_; simp only [Act.put, List.setIfInBounds_toArray, List.set_cons_zero, List.set_cons_succ]) | (refine Od.wpO_pure (by simp only [List.getElem?_toArray, List.getElem?_cons_succ, List.getElem?_cons_zero] <;> rfl) rfl ?_; apply Exists.intro; refine ⟨?_, ?_⟩; (· intro wx gx; obtain ⟨mx, rfl⟩ := spread_of_gr gx; clear gx; all_goals (apply Od.pAt_of_quiet; intro K hK; go_big_quiet_op; first | exact hK _ rfl | (apply Exists.intro; refine ⟨fun _ => ?_, ?_⟩; (· fail); exact hK _ rfl))); try simp only [Act.put, List.setIfInBounds_toArray, List.set_cons_zero, List.set_cons_succ]))
    refine Od.wpO_call (by simp only [List.getElem?_toArray, List.getElem?_cons_succ, List.getElem?_cons_zero] <;> rfl) rfl ?_
    intro QS hQS
    go_wp2_with fail
    go_at_call 8
    (with_reducible refine ((H7.out _ gw8)).mono ?_)
    rintro e w9 ⟨rfl, hw9⟩
    go_wp2_with fail
    apply Exists.intro
    refine ⟨?_, hw9, ?_⟩
    · simp only [Act.put, List.setIfInBounds_toArray, List.set_cons_zero, List.set_cons_succ]; rfl
    have cw9_0_0 : w9.cell? ⟨W.heap.size, 0, none⟩ = some (.int .i64 k) := cell_gr hw9 (by go_simp)
    have cw9_0_1 : w9.cell? ⟨W.heap.size, 1, none⟩ = some (.slice ad n cap) := cell_gr hw9 (by go_simp)
    have zw9_0 : W.heap.size < w9.heap.size := World.block_lt_of_cell? _ _ cw9_0_0
    have cw9_1_0 : w9.cell? ⟨W.heap.size + 1, 0, none⟩ = some (.int .i64 kq) := cell_gr hw9 (by go_simp)
    have cw9_1_1 : w9.cell? ⟨W.heap.size + 1, 1, none⟩ = some (.int .i64 lx) := cell_gr hw9 (by go_simp)
    have cw9_1_2 : w9.cell? ⟨W.heap.size + 1, 2, none⟩ = some (.int .i64 ly) := cell_gr hw9 (by go_simp)
    have cw9_1_3 : w9.cell? ⟨W.heap.size + 1, 3, none⟩ = some (.int .i64 hx) := cell_gr hw9 (by go_simp)
    have cw9_1_4 : w9.cell? ⟨W.heap.size + 1, 4, none⟩ = some (.int .i64 hy) := cell_gr hw9 (by go_simp)
    have cw9_1_5 : w9.cell? ⟨W.heap.size + 1, 5, none⟩ = some (.slice bd m bcap) := cell_gr hw9 (by go_simp)
    have zw9_1 : W.heap.size + 1 < w9.heap.size := World.block_lt_of_cell? _ _ cw9_1_0
    have gw9 : Gr W w9 := Gr.trans (by have gg := gw8; have gs := gg.size; go_grown) hw9
    clear gw8 zw8_0 cw8_0_0 cw8_0_1 zw8_1 cw8_1_0 cw8_1_1 cw8_1_2 cw8_1_3 cw8_1_4 cw8_1_5
    clear hw9
    try simp only [Act.put, List.setIfInBounds_toArray, List.set_cons_zero, List.set_cons_succ]
    repeat (first | (refine Od.wpO_skip (by simp only [List.getElem?_toArray, List.getElem?_cons_succ, List.getElem?_cons_zero] <;> rfl) rfl ?_; simp only [Act.put, List.setIfInBounds_toArray, List.set_cons_zero, List.set_cons_succ]) | (refine Od.wpO_pure (by simp only [List.getElem?_toArray, List.getElem?_cons_succ, List.getElem?_cons_zero] <;> rfl) rfl ?_; apply Exists.intro; refine ⟨?_, ?_⟩; (· intro wx gx; obtain ⟨mx, rfl⟩ := spread_of_gr gx; clear gx; all_goals (apply Od.pAt_of_quiet; intro K hK; go_big_quiet_op; first | exact hK _ rfl | (apply Exists.intro; refine ⟨fun _ => ?_, ?_⟩; (· fail); exact hK _ rfl))); try simp only [Act.put, List.setIfInBounds_toArray, List.set_cons_zero, List.set_cons_succ]))
    refine Od.wpO_nil (hKQ _ _ ?_)
    clear hKQ KQ
    go_wp2_with fail
    go_ret
    exact ⟨rfl, gw9⟩
end Go.Proofs.YtlkciinhhagjiaaDoor
