/- both disks show the same -/
import Derived.Test.YtkbdhhmkdjajgaaDoorDy
namespace Go.Proofs.YtkbdhhmkdjajgaaDoor
set_option linter.unusedVariables false
set_option linter.unusedSimpArgs false
open Go.ChangeShapes Go.WideShapes Go.ChangeAt Go.RowKit Go.Maps

section
variable {base p g bm q : Nat} {M : Option Nat} {Z : Nat → Prop} {d : Dk} {gv av nv : Value} {gs ns : List Value} {dl : Int}
set_option maxHeartbeats 4000000 in
set_option maxRecDepth 100000 in
theorem c_dsame (W : World) (H : DiskS W p g bm M d) (h : RefD base W q Z d gv av nv gs ns dl) : Calls Tryd.prog 23 #[.pointer (some ⟨p, 0, none⟩), .pointer (some ⟨q, 0, none⟩)] W fun e w' => e = .returned (.bool true) ∧ Gr W w' := by
  have A1 := fun w (G : Gr W w) => d_len w (diskS_gr H G)
  have A2 := fun w (G : Gr W w) => d_ops w (diskS_gr H G)
  have A3 := fun w (G : Gr W w) => d_off w (diskS_gr H G)
  have A4 := fun (k : Nat) (hk : k < d.n) w (G : Gr W w) => d_read k hk w (diskS_gr H G)
  have A5 := fun (k : Nat) (hk : k < d.n) w (G : Gr W w) => rd_read k hk w (refD_gr h G)
  have A6 := fun (k : Nat) (hk : k < d.n) => read_len H.ok hk
  have sp := diskS_lt H
  obtain ⟨sq, c0, -, -, c3, -, -, c6, -⟩ := refD_cells h
  obtain ⟨D, ga, gc, rfl, a1, a2, a3, a4, a5⟩ := rowF h.good
  have hn1 := H.ok.n1
  have hn2 := H.ok.n2
  generalize d.read = rd at A4 A5 A6
  generalize d.n = n at *
  generalize d.ops = o at *
  generalize d.off = of at *
  have tt : ((o : Int) != (o : Int)) = false := by simp
  have tn : ((n : Int) != (n : Int)) = false := by simp
  clear h H a1 a2 a4 a5
  have H1 := Lib.hid A1
  have H2 := Lib.hid A2
  have H3 := Lib.hid A3
  have H4 := Lib.hid A4
  have H5 := Lib.hid A5
  have H6 := Lib.hid A6
  clear A1 A2 A3 A4 A5 A6
  go_enter Tryd.func23, Tryd.ntmps23
  go_wp2_with fail
  try simp only [List.append]
  refine Od.wp_region_ord [(0, false), (1, false), (2, false), (3, false), (5, false), (6, false), (7, false), (8, false), (9, false), (4, true), (10, false), (11, false), (12, false), (13, false), (15, false), (16, false), (17, false), (18, false), (14, true), (19, false), (20, false), (21, false), (22, false), (24, false), (25, false), (26, false), (27, false), (23, true), (28, false), (29, false)] (by kernel_rfl) (by kernel_rfl) ?_
  intro w0 hw0 KQ hKQ
  have cw0_0_0 : w0.cell? ⟨q, 0, none⟩ = some (.slice ga n gc) := cell_gr hw0 (by go_simp)
  have zw0_0 : q < w0.heap.size := World.block_lt_of_cell? _ _ cw0_0_0
  have cw0_1_0 : w0.cell? ⟨q, 3, none⟩ = some (.int .i64 (o : Nat)) := cell_gr hw0 (by go_simp)
  have zw0_1 : q < w0.heap.size := World.block_lt_of_cell? _ _ cw0_1_0
  have cw0_2_0 : w0.cell? ⟨q, 6, none⟩ = some (.bool of) := cell_gr hw0 (by go_simp)
  have zw0_2 : q < w0.heap.size := World.block_lt_of_cell? _ _ cw0_2_0
  have gw0 : Gr W w0 := Gr.trans (by go_grown) hw0
  skip
  clear hw0
  repeat (first | (refine Od.wpO_skip (by simp only [List.getElem?_toArray, List.getElem?_cons_succ, List.getElem?_cons_zero] <;> rfl) rfl ?_; simp only [Act.put, List.setIfInBounds_toArray, List.set_cons_zero, List.set_cons_succ]) | (refine Od.wpO_pure (by simp only [List.getElem?_toArray, List.getElem?_cons_succ, List.getElem?_cons_zero] <;> rfl) rfl ?_; apply Exists.intro; refine ⟨?_, ?_⟩; (· intro wx gx; obtain ⟨mx, rfl⟩ := spread_of_gr gx; clear gx; all_goals (apply Od.pAt_of_quiet; intro K hK; go_big_quiet_op; first | exact hK _ rfl | (apply Exists.intro; refine ⟨fun _ => ?_, ?_⟩; (· fail); exact hK _ rfl))); try simp only [Act.put, List.setIfInBounds_toArray, List.set_cons_zero, List.set_cons_succ]))
  refine Od.wpO_call (by simp only [List.getElem?_toArray, List.getElem?_cons_succ, List.getElem?_cons_zero] <;> rfl) rfl ?_
  intro QS hQS
  go_wp2_with fail
  go_at_call 29
  (with_reducible refine ((H1.out _ gw0)).mono ?_)
  rintro e w1 ⟨rfl, hw1⟩
  go_wp2_with fail
  apply Exists.intro
  refine ⟨?_, hw1, ?_⟩
  · simp only [Act.put, List.setIfInBounds_toArray, List.set_cons_zero, List.set_cons_succ]; rfl
  have cw1_0_0 : w1.cell? ⟨q, 0, none⟩ = some (.slice ga n gc) := cell_gr hw1 (by go_simp)
  have zw1_0 : q < w1.heap.size := World.block_lt_of_cell? _ _ cw1_0_0
  have cw1_1_0 : w1.cell? ⟨q, 3, none⟩ = some (.int .i64 (o : Nat)) := cell_gr hw1 (by go_simp)
  have zw1_1 : q < w1.heap.size := World.block_lt_of_cell? _ _ cw1_1_0
  have cw1_2_0 : w1.cell? ⟨q, 6, none⟩ = some (.bool of) := cell_gr hw1 (by go_simp)
  have zw1_2 : q < w1.heap.size := World.block_lt_of_cell? _ _ cw1_2_0
  have gw1 : Gr W w1 := Gr.trans (by have gg := gw0; have gs := gg.size; go_grown) hw1
  clear gw0 zw0_0 cw0_0_0 zw0_1 cw0_1_0 zw0_2 cw0_2_0
  clear hw1
  try simp only [Act.put, List.setIfInBounds_toArray, List.set_cons_zero, List.set_cons_succ]
  repeat (first | (refine Od.wpO_skip (by simp only [List.getElem?_toArray, List.getElem?_cons_succ, List.getElem?_cons_zero] <;> rfl) rfl ?_; simp only [Act.put, List.setIfInBounds_toArray, List.set_cons_zero, List.set_cons_succ]) | (refine Od.wpO_pure (by simp only [List.getElem?_toArray, List.getElem?_cons_succ, List.getElem?_cons_zero] <;> rfl) rfl ?_; apply Exists.intro; refine ⟨?_, ?_⟩; (· intro wx gx; obtain ⟨mx, rfl⟩ := spread_of_gr gx; clear gx; all_goals (apply Od.pAt_of_quiet; intro K hK; go_big_quiet_op; first | exact hK _ rfl | (apply Exists.intro; refine ⟨fun _ => ?_, ?_⟩; (· fail); exact hK _ rfl))); try simp only [Act.put, List.setIfInBounds_toArray, List.set_cons_zero, List.set_cons_succ]))
  refine Od.wpO_call (by simp only [List.getElem?_toArray, List.getElem?_cons_succ, List.getElem?_cons_zero] <;> rfl) rfl ?_
  intro QS hQS
  go_wp2_with fail
  go_at_call 38
  (with_reducible refine ((H2.out _ gw1)).mono ?_)
  rintro e w2 ⟨rfl, hw2⟩
  go_wp2_with fail
  apply Exists.intro
  refine ⟨?_, hw2, ?_⟩
  · simp only [Act.put, List.setIfInBounds_toArray, List.set_cons_zero, List.set_cons_succ]; rfl
  have cw2_0_0 : w2.cell? ⟨q, 0, none⟩ = some (.slice ga n gc) := cell_gr hw2 (by go_simp)
  have zw2_0 : q < w2.heap.size := World.block_lt_of_cell? _ _ cw2_0_0
  have cw2_1_0 : w2.cell? ⟨q, 3, none⟩ = some (.int .i64 (o : Nat)) := cell_gr hw2 (by go_simp)
  have zw2_1 : q < w2.heap.size := World.block_lt_of_cell? _ _ cw2_1_0
  have cw2_2_0 : w2.cell? ⟨q, 6, none⟩ = some (.bool of) := cell_gr hw2 (by go_simp)
  have zw2_2 : q < w2.heap.size := World.block_lt_of_cell? _ _ cw2_2_0
  have gw2 : Gr W w2 := Gr.trans (by have gg := gw1; have gs := gg.size; go_grown) hw2
  clear gw1 zw1_0 cw1_0_0 zw1_1 cw1_1_0 zw1_2 cw1_2_0
  clear hw2
  try simp only [Act.put, List.setIfInBounds_toArray, List.set_cons_zero, List.set_cons_succ]
  repeat (first | (refine Od.wpO_skip (by simp only [List.getElem?_toArray, List.getElem?_cons_succ, List.getElem?_cons_zero] <;> rfl) rfl ?_; simp only [Act.put, List.setIfInBounds_toArray, List.set_cons_zero, List.set_cons_succ]) | (refine Od.wpO_pure (by simp only [List.getElem?_toArray, List.getElem?_cons_succ, List.getElem?_cons_zero] <;> rfl) rfl ?_; apply Exists.intro; refine ⟨?_, ?_⟩; (· intro wx gx; obtain ⟨mx, rfl⟩ := spread_of_gr gx; clear gx; all_goals (apply Od.pAt_of_quiet; intro K hK; go_big_quiet_op; first | exact hK _ rfl | (apply Exists.intro; refine ⟨fun _ => ?_, ?_⟩; (· fail); exact hK _ rfl))); try simp only [Act.put, List.setIfInBounds_toArray, List.set_cons_zero, List.set_cons_succ]))
  refine Od.wpO_call (by simp only [List.getElem?_toArray, List.getElem?_cons_succ, List.getElem?_cons_zero] <;> rfl) rfl ?_
  intro QS hQS
  go_wp2_with fail
  go_at_call 39
  (with_reducible refine ((H3.out _ gw2)).mono ?_)
  rintro e w3 ⟨rfl, hw3⟩
  go_wp2_with fail
  apply Exists.intro
  refine ⟨?_, hw3, ?_⟩
  · simp only [Act.put, List.setIfInBounds_toArray, List.set_cons_zero, List.set_cons_succ]; rfl
  have cw3_0_0 : w3.cell? ⟨q, 0, none⟩ = some (.slice ga n gc) := cell_gr hw3 (by go_simp)
  have zw3_0 : q < w3.heap.size := World.block_lt_of_cell? _ _ cw3_0_0
  have cw3_1_0 : w3.cell? ⟨q, 3, none⟩ = some (.int .i64 (o : Nat)) := cell_gr hw3 (by go_simp)
  have zw3_1 : q < w3.heap.size := World.block_lt_of_cell? _ _ cw3_1_0
  have cw3_2_0 : w3.cell? ⟨q, 6, none⟩ = some (.bool of) := cell_gr hw3 (by go_simp)
  have zw3_2 : q < w3.heap.size := World.block_lt_of_cell? _ _ cw3_2_0
  have gw3 : Gr W w3 := Gr.trans (by have gg := gw2; have gs := gg.size; go_grown) hw3
  clear gw2 zw2_0 cw2_0_0 zw2_1 cw2_1_0 zw2_2 cw2_2_0
  clear hw3
  try simp only [Act.put, List.setIfInBounds_toArray, List.set_cons_zero, List.set_cons_succ]
  repeat (first | (refine Od.wpO_skip (by simp only [List.getElem?_toArray, List.getElem?_cons_succ, List.getElem?_cons_zero] <;> rfl) rfl ?_; simp only [Act.put, List.setIfInBounds_toArray, List.set_cons_zero, List.set_cons_succ]) | (refine Od.wpO_pure (by simp only [List.getElem?_toArray, List.getElem?_cons_succ, List.getElem?_cons_zero] <;> rfl) rfl ?_; apply Exists.intro; refine ⟨?_, ?_⟩; (· intro wx gx; obtain ⟨mx, rfl⟩ := spread_of_gr gx; clear gx; all_goals (apply Od.pAt_of_quiet; intro K hK; go_big_quiet_op; first | exact hK _ rfl | (apply Exists.intro; refine ⟨fun _ => ?_, ?_⟩; (· fail); exact hK _ rfl))); try simp only [Act.put, List.setIfInBounds_toArray, List.set_cons_zero, List.set_cons_succ]))
  refine Od.wpO_nil (hKQ _ _ ?_)
  clear hKQ KQ
  have G3 := gw3
  go_wp2_with fail
  go_loopg [5] n (fun j x wr => ∃ i : Nat, x = .int .i64 i ∧ i ≤ n ∧ j = n - i ∧ Gr W wr)
  case atStart => exact ⟨0, rfl, by omega, by omega, G3⟩
  case round =>
    obtain ⟨i, rfl, hi, hj, hg⟩ := hrel
    have y0 := cell_gr hg c0
    by_cases hin : i < n
    · have ti : decide ((i : Int) < (n : Int)) = true := decide_eq_true (by omega)
      have ti2 : decide (i < n) = true := decide_eq_true hin
      have ti3 : (i : Int) < (n : Int) := by omega
      have AR := Lib.hid (H4.out i hin)
      have AS := Lib.hid (H5.out i hin)
      have hl := Lib.hid (H6.out i hin)
      generalize rd i = L at AR AS hl
      go_wp2_with fail
      go_at_call 15
      refine (AR.out _ hg).mono ?_
      rintro e w4 ⟨ad, c, rfl, o4, g4⟩
      have G4 := Gr.trans hg g4
      have R4 := Lib.hid (row_own o4)
      clear o4 AR
      go_wp2_with fail
      go_at_call 16
      refine (AS.out _ G4).mono ?_
      rintro e w5 ⟨ad5, c5, rfl, r5, g5⟩
      have G5 := Gr.trans G4 g5
      have AB := Lib.hid (bytes_same w5 (row_gr R4.out g5) r5 (by rw [hl.out]; decide))
      clear r5 AS R4 g5 g4
      go_wp2_with fail
      go_at_call 17
      refine (AB.out).mono ?_
      rintro e w6 ⟨rfl, g6⟩
      have G6 := Gr.trans G5 g6
      go_wp2_with fail
      go_roundg (n - (i + 1))
      case measure => omega
      case rel => exact ⟨i + 1, by go_num, by omega, by omega, G6⟩
    · obtain rfl : i = n := by omega
      have ti : decide ((i : Int) < (i : Int)) = false := decide_eq_false (by omega)
      have ti3 : ¬ (i : Int) < (i : Int) := by omega
      go_wp2_with fail
      go_ret
      exact ⟨rfl, hg⟩
end
end Go.Proofs.YtkbdhhmkdjajgaaDoor
