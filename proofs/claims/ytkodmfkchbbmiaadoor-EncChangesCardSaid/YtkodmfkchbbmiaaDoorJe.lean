/- the document's Change, Unchange -/
import Derived.Test.YtkodmfkchbbmiaaDoorJd
namespace Go.Proofs.YtkodmfkchbbmiaaDoor
set_option linter.unusedVariables false
set_option linter.unusedSimpArgs false
open Go.ChangeShapes Go.WideShapes Go.ChangeAt Go.RowKit

set_option maxHeartbeats 8000000 in
set_option maxRecDepth 100000 in
theorem rchange_2 {v : Value} (i : Nat) {X Y : Nat → Int} (W : World) (h : Pts W v 0 X Y) (hi : i ≤ 1099511627776) :
    Calls Tryd.prog 55 #[.agg #[.int .i64 2, .int .i64 i, .int .i64 0, v]] W fun e w' => ∃ b, e = .returned (.tuple #[b, .int .i64 0]) ∧ Row w' b (Ec.vr 2 ++ Ec.vr i) ∧ Gr W w' := by
  have A1 : ∀ w, Gr W w → Calls Tryd.prog 101 #[.agg #[.int .i64 2, .int .i64 i, .int .i64 0, v]] w fun e w' => e = .returned (.int .i64 0) ∧ Gr w w' := fun w g => by
    have := c_CheckChange 2 i 0 w (pts_gr h g)
    rw [chgC_2 (by omega) (by omega), if_neg (by omega)] at this
    exact this
  have A2 : ∀ w, Calls Tryd.prog 92 #[.int .u64 2] w fun e w' => ∃ b', e = .returned b' ∧ Own w' w.heap.size b' (Ec.vr 2) ∧ Gr w w' := fun w => c_rVarint 2 (by unfold Wd; omega) w
  have A3 := fun w => c_rVarint i (by unfold Wd; omega) w
  have l1 := (Ec.vr_len10 (v := 2) (by omega)).2
  have l2 := (Ec.vr_len10 (v := i) (by omega)).2
  have e1 : (i : Int) % 18446744073709551616 = i := by omega
  have e2 : IntKind.u64.wrap (i : Int) = i := by rw [IntKind.wrap_u64]; omega
  have hi9 : (i : Int) ≤ 1099511627776 := by omega
  generalize Ec.vr 2 = L1 at A2 l1 ⊢
  generalize Ec.vr i = L2 at A3 l2 ⊢
  obtain ⟨ad, cap, B, off, rfl, _⟩ := h
  have H1 := Lib.hid A1
  have H2 := Lib.hid A2
  have H3 := Lib.hid A3
  clear A1 A2 A3
  go_enter Tryd.func55, Tryd.ntmps55
  go_wp2_with fail
  go_at_call 101
  refine ((H1.out _ (by go_grown))).mono ?_
  rintro e w1 ⟨rfl, hw1⟩
  have cw1_0_0 : w1.cell? ⟨W.heap.size, 0, none⟩ = some (.int .i64 2) := cell_gr hw1 (by go_simp)
  have cw1_0_1 : w1.cell? ⟨W.heap.size, 1, none⟩ = some (.int .i64 i) := cell_gr hw1 (by go_simp)
  have cw1_0_2 : w1.cell? ⟨W.heap.size, 2, none⟩ = some (.int .i64 0) := cell_gr hw1 (by go_simp)
  have cw1_0_3 : w1.cell? ⟨W.heap.size, 3, none⟩ = some (.slice ad 0 cap) := cell_gr hw1 (by go_simp)
  have zw1_0 : W.heap.size < w1.heap.size := World.block_lt_of_cell? _ _ cw1_0_0
  have gw1 : Gr W w1 := Gr.trans (by go_grown) hw1
  clear hw1
  go_wp2_with fail
  try simp only [List.append]
  refine Oe.wp_region_ord (R := Kx (fun k => W.heap.size + 1 ≤ k)) [(0, false), (1, false), (2, false), (4, false), (5, false), (6, false), (7, false), (3, true), (8, true), (9, true), (10, false)] (by kernel_rfl) (by kernel_rfl) ?_
  intro w2 hw2 KQ hKQ
  have hhw2 := Kx.of_gr (S := (fun k => W.heap.size + 1 ≤ k)) hw2
  have cw2_0_0 : w2.cell? ⟨W.heap.size, 0, none⟩ = some (.int .i64 2) := cell_kx hhw2 (by show ¬ (W.heap.size + 1 ≤ W.heap.size); omega) (by go_simp)
  have cw2_0_1 : w2.cell? ⟨W.heap.size, 1, none⟩ = some (.int .i64 i) := cell_kx hhw2 (by show ¬ (W.heap.size + 1 ≤ W.heap.size); omega) (by go_simp)
  have cw2_0_2 : w2.cell? ⟨W.heap.size, 2, none⟩ = some (.int .i64 0) := cell_kx hhw2 (by show ¬ (W.heap.size + 1 ≤ W.heap.size); omega) (by go_simp)
  have cw2_0_3 : w2.cell? ⟨W.heap.size, 3, none⟩ = some (.slice ad 0 cap) := cell_kx hhw2 (by show ¬ (W.heap.size + 1 ≤ W.heap.size); omega) (by go_simp)
  have zw2_0 : W.heap.size < w2.heap.size := World.block_lt_of_cell? _ _ cw2_0_0
  have gw2 : Gr W w2 := Kx.gr hhw2 (by have gg := gw1; have gs := gg.size; go_grown) (fun k hk => by have hk2 : W.heap.size + 1 ≤ k := hk; omega)
  have sw2 := hhw2.size
  clear gw1 zw1_0 cw1_0_0 cw1_0_1 cw1_0_2 cw1_0_3
  clear hhw2
  repeat (first | (refine Oe.wpO_skip (by simp only [List.getElem?_toArray, List.getElem?_cons_succ, List.getElem?_cons_zero] <;> rfl) rfl ?_; simp only [Act.put, List.setIfInBounds_toArray, List.set_cons_zero, List.set_cons_succ]) | (refine Oe.wpO_pure (by simp only [List.getElem?_toArray, List.getElem?_cons_succ, List.getElem?_cons_zero] <;> rfl) rfl ?_; apply Exists.intro; refine ⟨?_, ?_⟩; (· intro wx gx; have cx_0_0 : wx.cell? ⟨W.heap.size, 0, none⟩ = some (.int .i64 2) := cell_kx gx (by show ¬ (W.heap.size + 1 ≤ W.heap.size); omega) cw2_0_0; have cx_0_1 : wx.cell? ⟨W.heap.size, 1, none⟩ = some (.int .i64 i) := cell_kx gx (by show ¬ (W.heap.size + 1 ≤ W.heap.size); omega) cw2_0_1; have cx_0_2 : wx.cell? ⟨W.heap.size, 2, none⟩ = some (.int .i64 0) := cell_kx gx (by show ¬ (W.heap.size + 1 ≤ W.heap.size); omega) cw2_0_2; have cx_0_3 : wx.cell? ⟨W.heap.size, 3, none⟩ = some (.slice ad 0 cap) := cell_kx gx (by show ¬ (W.heap.size + 1 ≤ W.heap.size); omega) cw2_0_3; have zx_0 : W.heap.size < wx.heap.size := World.block_lt_of_cell? _ _ cx_0_0; clear gx; all_goals (apply Oe.pAt_of_quiet; intro K hK; go_big_quiet_op; first | exact hK _ rfl | (apply Exists.intro; refine ⟨fun _ => ?_, ?_⟩; (· fail); exact hK _ rfl))); try simp only [Act.put, List.setIfInBounds_toArray, List.set_cons_zero, List.set_cons_succ]))
  have Z2 : W.heap.size < w2.heap.size := zw2_0
  refine Oe.wpO_call (by simp only [List.getElem?_toArray, List.getElem?_cons_succ, List.getElem?_cons_zero] <;> rfl) rfl ?_
  intro QS hQS
  go_wp2_with fail
  go_at_call 92
  (with_reducible refine ((H2.out _)).mono ?_)
  rintro e w3 ⟨b1, rfl, o1, hw3⟩
  have hhw3 : Kx (fun k => W.heap.size + 1 ≤ k) w2 w3 := Kx.of_gr hw3
  go_wp2_with fail
  first | (apply Exists.intro; refine ⟨?_, hhw3, ?_⟩; (· simp only [Act.put, List.setIfInBounds_toArray, List.set_cons_zero, List.set_cons_succ]; rfl)) | (refine ⟨hhw3, ?_⟩)
  have cw3_0_0 : w3.cell? ⟨W.heap.size, 0, none⟩ = some (.int .i64 2) := cell_kx hhw3 (by show ¬ (W.heap.size + 1 ≤ W.heap.size); omega) (by go_simp)
  have cw3_0_1 : w3.cell? ⟨W.heap.size, 1, none⟩ = some (.int .i64 i) := cell_kx hhw3 (by show ¬ (W.heap.size + 1 ≤ W.heap.size); omega) (by go_simp)
  have cw3_0_2 : w3.cell? ⟨W.heap.size, 2, none⟩ = some (.int .i64 0) := cell_kx hhw3 (by show ¬ (W.heap.size + 1 ≤ W.heap.size); omega) (by go_simp)
  have cw3_0_3 : w3.cell? ⟨W.heap.size, 3, none⟩ = some (.slice ad 0 cap) := cell_kx hhw3 (by show ¬ (W.heap.size + 1 ≤ W.heap.size); omega) (by go_simp)
  have zw3_0 : W.heap.size < w3.heap.size := World.block_lt_of_cell? _ _ cw3_0_0
  have gw3 : Gr W w3 := Kx.gr hhw3 gw2 (fun k hk => by have hk2 : W.heap.size + 1 ≤ k := hk; omega)
  have sw3 := hhw3.size
  clear gw2 zw2_0 cw2_0_0 cw2_0_1 cw2_0_2 cw2_0_3
  clear hhw3
  try simp only [Act.put, List.setIfInBounds_toArray, List.set_cons_zero, List.set_cons_succ]
  repeat (first | (refine Oe.wpO_skip (by simp only [List.getElem?_toArray, List.getElem?_cons_succ, List.getElem?_cons_zero] <;> rfl) rfl ?_; simp only [Act.put, List.setIfInBounds_toArray, List.set_cons_zero, List.set_cons_succ]) | (refine Oe.wpO_pure (by simp only [List.getElem?_toArray, List.getElem?_cons_succ, List.getElem?_cons_zero] <;> rfl) rfl ?_; apply Exists.intro; refine ⟨?_, ?_⟩; (· intro wx gx; have cx_0_0 : wx.cell? ⟨W.heap.size, 0, none⟩ = some (.int .i64 2) := cell_kx gx (by show ¬ (W.heap.size + 1 ≤ W.heap.size); omega) cw3_0_0; have cx_0_1 : wx.cell? ⟨W.heap.size, 1, none⟩ = some (.int .i64 i) := cell_kx gx (by show ¬ (W.heap.size + 1 ≤ W.heap.size); omega) cw3_0_1; have cx_0_2 : wx.cell? ⟨W.heap.size, 2, none⟩ = some (.int .i64 0) := cell_kx gx (by show ¬ (W.heap.size + 1 ≤ W.heap.size); omega) cw3_0_2; have cx_0_3 : wx.cell? ⟨W.heap.size, 3, none⟩ = some (.slice ad 0 cap) := cell_kx gx (by show ¬ (W.heap.size + 1 ≤ W.heap.size); omega) cw3_0_3; have zx_0 : W.heap.size < wx.heap.size := World.block_lt_of_cell? _ _ cx_0_0; clear gx; all_goals (apply Oe.pAt_of_quiet; intro K hK; go_big_quiet_op; first | exact hK _ rfl | (apply Exists.intro; refine ⟨fun _ => ?_, ?_⟩; (· fail); exact hK _ rfl))); try simp only [Act.put, List.setIfInBounds_toArray, List.set_cons_zero, List.set_cons_succ]))
  have O1 := Lib.hid o1
  clear o1
  refine Oe.wpO_call (by simp only [List.getElem?_toArray, List.getElem?_cons_succ, List.getElem?_cons_zero] <;> rfl) rfl ?_
  intro QS hQS
  go_wp2_with fail
  go_at_call 92
  (with_reducible refine ((H3.out _)).mono ?_)
  rintro e w4 ⟨b2, rfl, o2, hw4⟩
  have hhw4 : Kx (fun k => W.heap.size + 1 ≤ k) w3 w4 := Kx.of_gr hw4
  go_wp2_with fail
  first | (apply Exists.intro; refine ⟨?_, hhw4, ?_⟩; (· simp only [Act.put, List.setIfInBounds_toArray, List.set_cons_zero, List.set_cons_succ]; rfl)) | (refine ⟨hhw4, ?_⟩)
  have cw4_0_0 : w4.cell? ⟨W.heap.size, 0, none⟩ = some (.int .i64 2) := cell_kx hhw4 (by show ¬ (W.heap.size + 1 ≤ W.heap.size); omega) (by go_simp)
  have cw4_0_1 : w4.cell? ⟨W.heap.size, 1, none⟩ = some (.int .i64 i) := cell_kx hhw4 (by show ¬ (W.heap.size + 1 ≤ W.heap.size); omega) (by go_simp)
  have cw4_0_2 : w4.cell? ⟨W.heap.size, 2, none⟩ = some (.int .i64 0) := cell_kx hhw4 (by show ¬ (W.heap.size + 1 ≤ W.heap.size); omega) (by go_simp)
  have cw4_0_3 : w4.cell? ⟨W.heap.size, 3, none⟩ = some (.slice ad 0 cap) := cell_kx hhw4 (by show ¬ (W.heap.size + 1 ≤ W.heap.size); omega) (by go_simp)
  have zw4_0 : W.heap.size < w4.heap.size := World.block_lt_of_cell? _ _ cw4_0_0
  have gw4 : Gr W w4 := Kx.gr hhw4 gw3 (fun k hk => by have hk2 : W.heap.size + 1 ≤ k := hk; omega)
  have sw4 := hhw4.size
  clear gw3 zw3_0 cw3_0_0 cw3_0_1 cw3_0_2 cw3_0_3
  clear hhw4
  try simp only [Act.put, List.setIfInBounds_toArray, List.set_cons_zero, List.set_cons_succ]
  repeat (first | (refine Oe.wpO_skip (by simp only [List.getElem?_toArray, List.getElem?_cons_succ, List.getElem?_cons_zero] <;> rfl) rfl ?_; simp only [Act.put, List.setIfInBounds_toArray, List.set_cons_zero, List.set_cons_succ]) | (refine Oe.wpO_pure (by simp only [List.getElem?_toArray, List.getElem?_cons_succ, List.getElem?_cons_zero] <;> rfl) rfl ?_; apply Exists.intro; refine ⟨?_, ?_⟩; (· intro wx gx; have cx_0_0 : wx.cell? ⟨W.heap.size, 0, none⟩ = some (.int .i64 2) := cell_kx gx (by show ¬ (W.heap.size + 1 ≤ W.heap.size); omega) cw4_0_0; have cx_0_1 : wx.cell? ⟨W.heap.size, 1, none⟩ = some (.int .i64 i) := cell_kx gx (by show ¬ (W.heap.size + 1 ≤ W.heap.size); omega) cw4_0_1; have cx_0_2 : wx.cell? ⟨W.heap.size, 2, none⟩ = some (.int .i64 0) := cell_kx gx (by show ¬ (W.heap.size + 1 ≤ W.heap.size); omega) cw4_0_2; have cx_0_3 : wx.cell? ⟨W.heap.size, 3, none⟩ = some (.slice ad 0 cap) := cell_kx gx (by show ¬ (W.heap.size + 1 ≤ W.heap.size); omega) cw4_0_3; have zx_0 : W.heap.size < wx.heap.size := World.block_lt_of_cell? _ _ cx_0_0; clear gx; all_goals (apply Oe.pAt_of_quiet; intro K hK; go_big_quiet_op; first | exact hK _ rfl | (apply Exists.intro; refine ⟨fun _ => ?_, ?_⟩; (· fail); exact hK _ rfl))); try simp only [Act.put, List.setIfInBounds_toArray, List.set_cons_zero, List.set_cons_succ]))
  have O2 := Lib.hid (row_own o2)
  have O1b := Lib.hid (own_low (b := W.heap.size + 1) (show Own w4 w2.heap.size b1 L1 from rowOwn_gr O1.out hw4) (by omega))
  clear o2 O1 hw3 hw4
  refine Oe.wpO_call (by simp only [List.getElem?_toArray, List.getElem?_cons_succ, List.getElem?_cons_zero] <;> rfl) rfl ?_
  intro QS hQS
  refine (wpList_app rfl (.tmp 16) (.tmp 21) rfl (W.heap.size + 1) b1 b2 L1 L2 rfl O1b.out rfl O2.out (by omega) (by omega) ?_)
  intro b3 w5 o3 g3
  have hhw5 : Kx (fun k => W.heap.size + 1 ≤ k) w4 w5 := kx_of_grown g3 (fun k hk => (own_at O1b.out hk).1)
  refine hQS _ _ ⟨_, rfl, hhw5, ?_⟩
  clear hQS QS
  have cw5_0_0 : w5.cell? ⟨W.heap.size, 0, none⟩ = some (.int .i64 2) := cell_kx hhw5 (by show ¬ (W.heap.size + 1 ≤ W.heap.size); omega) (by go_simp)
  have cw5_0_1 : w5.cell? ⟨W.heap.size, 1, none⟩ = some (.int .i64 i) := cell_kx hhw5 (by show ¬ (W.heap.size + 1 ≤ W.heap.size); omega) (by go_simp)
  have cw5_0_2 : w5.cell? ⟨W.heap.size, 2, none⟩ = some (.int .i64 0) := cell_kx hhw5 (by show ¬ (W.heap.size + 1 ≤ W.heap.size); omega) (by go_simp)
  have cw5_0_3 : w5.cell? ⟨W.heap.size, 3, none⟩ = some (.slice ad 0 cap) := cell_kx hhw5 (by show ¬ (W.heap.size + 1 ≤ W.heap.size); omega) (by go_simp)
  have zw5_0 : W.heap.size < w5.heap.size := World.block_lt_of_cell? _ _ cw5_0_0
  have gw5 : Gr W w5 := Kx.gr hhw5 gw4 (fun k hk => by have hk2 : W.heap.size + 1 ≤ k := hk; omega)
  have sw5 := hhw5.size
  clear gw4 zw4_0 cw4_0_0 cw4_0_1 cw4_0_2 cw4_0_3
  clear hhw5
  try simp only [Act.put, List.setIfInBounds_toArray, List.set_cons_zero, List.set_cons_succ]
  repeat (first | (refine Oe.wpO_skip (by simp only [List.getElem?_toArray, List.getElem?_cons_succ, List.getElem?_cons_zero] <;> rfl) rfl ?_; simp only [Act.put, List.setIfInBounds_toArray, List.set_cons_zero, List.set_cons_succ]) | (refine Oe.wpO_pure (by simp only [List.getElem?_toArray, List.getElem?_cons_succ, List.getElem?_cons_zero] <;> rfl) rfl ?_; apply Exists.intro; refine ⟨?_, ?_⟩; (· intro wx gx; have cx_0_0 : wx.cell? ⟨W.heap.size, 0, none⟩ = some (.int .i64 2) := cell_kx gx (by show ¬ (W.heap.size + 1 ≤ W.heap.size); omega) cw5_0_0; have cx_0_1 : wx.cell? ⟨W.heap.size, 1, none⟩ = some (.int .i64 i) := cell_kx gx (by show ¬ (W.heap.size + 1 ≤ W.heap.size); omega) cw5_0_1; have cx_0_2 : wx.cell? ⟨W.heap.size, 2, none⟩ = some (.int .i64 0) := cell_kx gx (by show ¬ (W.heap.size + 1 ≤ W.heap.size); omega) cw5_0_2; have cx_0_3 : wx.cell? ⟨W.heap.size, 3, none⟩ = some (.slice ad 0 cap) := cell_kx gx (by show ¬ (W.heap.size + 1 ≤ W.heap.size); omega) cw5_0_3; have zx_0 : W.heap.size < wx.heap.size := World.block_lt_of_cell? _ _ cx_0_0; clear gx; all_goals (apply Oe.pAt_of_quiet; intro K hK; go_big_quiet_op; first | exact hK _ rfl | (apply Exists.intro; refine ⟨fun _ => ?_, ?_⟩; (· fail); exact hK _ rfl))); try simp only [Act.put, List.setIfInBounds_toArray, List.set_cons_zero, List.set_cons_succ]))
  have O3 := Lib.hid (row_own o3)
  clear o3 O1b O2 g3
  refine Oe.wpO_nil (hKQ _ _ ?_)
  clear hKQ KQ
  go_wp2_with fail
  go_ret2
  exact ⟨_, rfl, O3.out, gw5⟩
set_option maxHeartbeats 8000000 in
set_option maxRecDepth 100000 in
theorem rchange_1 {v : Value} (i : Nat) (k : Int) {n : Nat} {X Y : Nat → Int} (W : World) (h : Pts W v n X Y) (hi : i ≤ 1099511627776) (hc : objC k n X Y = 0) :
    Calls Tryd.prog 55 #[.agg #[.int .i64 1, .int .i64 i, .int .i64 k, v]] W fun e w' => ∃ b, e = .returned (.tuple #[b, .int .i64 0]) ∧ Row w' b (Ec.vr 1 ++ Ec.vr i ++ objB k n X Y) ∧ Gr W w' := by
  have A1 : ∀ w, Gr W w → Calls Tryd.prog 101 #[.agg #[.int .i64 1, .int .i64 i, .int .i64 k, v]] w fun e w' => e = .returned (.int .i64 0) ∧ Gr w w' := fun w g => by
    have := c_CheckChange 1 i k w (pts_gr h g)
    rw [chgC_1 (by omega) (by omega), hc] at this
    exact this
  have A4 : ∀ w, Gr W w → Calls Tryd.prog 49 #[.agg #[.int .i64 k, v]] w fun e w' => ∃ b, e = .returned (.tuple #[b, .int .i64 0]) ∧ Row w' b (objB k n X Y) ∧ Gr w w' := fun w g => by
    refine (c_rObject k w (pts_gr h g)).mono ?_
    rintro e w' ⟨b, rfl, r, g⟩
    have e : objR k n X Y = objB k n X Y := if_pos hc
    rw [e] at r
    exact ⟨b, by rw [hc]; rfl, r, g⟩
  have l3 := objB_len hc
  have A2 : ∀ w, Calls Tryd.prog 92 #[.int .u64 1] w fun e w' => ∃ b', e = .returned b' ∧ Own w' w.heap.size b' (Ec.vr 1) ∧ Gr w w' := fun w => c_rVarint 1 (by unfold Wd; omega) w
  have A3 := fun w => c_rVarint i (by unfold Wd; omega) w
  have l1 := (Ec.vr_len10 (v := 1) (by omega)).2
  have l2 := (Ec.vr_len10 (v := i) (by omega)).2
  have e1 : (i : Int) % 18446744073709551616 = i := by omega
  have e2 : IntKind.u64.wrap (i : Int) = i := by rw [IntKind.wrap_u64]; omega
  have hi9 : (i : Int) ≤ 1099511627776 := by omega
  generalize objB k n X Y = L3 at A4 l3 ⊢
  generalize Ec.vr 1 = L1 at A2 l1 ⊢
  generalize Ec.vr i = L2 at A3 l2 ⊢
  obtain ⟨ad, cap, B, off, rfl, _⟩ := h
  have H1 := Lib.hid A1
  have H2 := Lib.hid A2
  have H3 := Lib.hid A3
  have H4 := Lib.hid A4
  clear A1 A2 A3 A4
  clear hc
  go_enter Tryd.func55, Tryd.ntmps55
  go_wp2_with fail
  go_at_call 101
  refine ((H1.out _ (by go_grown))).mono ?_
  rintro e w1 ⟨rfl, hw1⟩
  have cw1_0_0 : w1.cell? ⟨W.heap.size, 0, none⟩ = some (.int .i64 1) := cell_gr hw1 (by go_simp)
  have cw1_0_1 : w1.cell? ⟨W.heap.size, 1, none⟩ = some (.int .i64 i) := cell_gr hw1 (by go_simp)
  have cw1_0_2 : w1.cell? ⟨W.heap.size, 2, none⟩ = some (.int .i64 k) := cell_gr hw1 (by go_simp)
  have cw1_0_3 : w1.cell? ⟨W.heap.size, 3, none⟩ = some (.slice ad n cap) := cell_gr hw1 (by go_simp)
  have zw1_0 : W.heap.size < w1.heap.size := World.block_lt_of_cell? _ _ cw1_0_0
  have gw1 : Gr W w1 := Gr.trans (by go_grown) hw1
  clear hw1
  go_wp2_with fail
  try simp only [List.append]
  refine Oe.wp_region_ord (R := Kx (fun k => W.heap.size + 1 ≤ k)) [(0, false), (1, false), (2, false), (4, false), (5, false), (6, false), (7, false), (3, true), (8, true), (9, true), (10, false)] (by kernel_rfl) (by kernel_rfl) ?_
  intro w2 hw2 KQ hKQ
  have hhw2 := Kx.of_gr (S := (fun k => W.heap.size + 1 ≤ k)) hw2
  have cw2_0_0 : w2.cell? ⟨W.heap.size, 0, none⟩ = some (.int .i64 1) := cell_kx hhw2 (by show ¬ (W.heap.size + 1 ≤ W.heap.size); omega) (by go_simp)
  have cw2_0_1 : w2.cell? ⟨W.heap.size, 1, none⟩ = some (.int .i64 i) := cell_kx hhw2 (by show ¬ (W.heap.size + 1 ≤ W.heap.size); omega) (by go_simp)
  have cw2_0_2 : w2.cell? ⟨W.heap.size, 2, none⟩ = some (.int .i64 k) := cell_kx hhw2 (by show ¬ (W.heap.size + 1 ≤ W.heap.size); omega) (by go_simp)
  have cw2_0_3 : w2.cell? ⟨W.heap.size, 3, none⟩ = some (.slice ad n cap) := cell_kx hhw2 (by show ¬ (W.heap.size + 1 ≤ W.heap.size); omega) (by go_simp)
  have zw2_0 : W.heap.size < w2.heap.size := World.block_lt_of_cell? _ _ cw2_0_0
  have gw2 : Gr W w2 := Kx.gr hhw2 (by have gg := gw1; have gs := gg.size; go_grown) (fun k hk => by have hk2 : W.heap.size + 1 ≤ k := hk; omega)
  have sw2 := hhw2.size
  clear gw1 zw1_0 cw1_0_0 cw1_0_1 cw1_0_2 cw1_0_3
  clear hhw2
  repeat (first | (refine Oe.wpO_skip (by simp only [List.getElem?_toArray, List.getElem?_cons_succ, List.getElem?_cons_zero] <;> rfl) rfl ?_; simp only [Act.put, List.setIfInBounds_toArray, List.set_cons_zero, List.set_cons_succ]) | (refine Oe.wpO_pure (by simp only [List.getElem?_toArray, List.getElem?_cons_succ, List.getElem?_cons_zero] <;> rfl) rfl ?_; apply Exists.intro; refine ⟨?_, ?_⟩; (· intro wx gx; have cx_0_0 : wx.cell? ⟨W.heap.size, 0, none⟩ = some (.int .i64 1) := cell_kx gx (by show ¬ (W.heap.size + 1 ≤ W.heap.size); omega) cw2_0_0; have cx_0_1 : wx.cell? ⟨W.heap.size, 1, none⟩ = some (.int .i64 i) := cell_kx gx (by show ¬ (W.heap.size + 1 ≤ W.heap.size); omega) cw2_0_1; have cx_0_2 : wx.cell? ⟨W.heap.size, 2, none⟩ = some (.int .i64 k) := cell_kx gx (by show ¬ (W.heap.size + 1 ≤ W.heap.size); omega) cw2_0_2; have cx_0_3 : wx.cell? ⟨W.heap.size, 3, none⟩ = some (.slice ad n cap) := cell_kx gx (by show ¬ (W.heap.size + 1 ≤ W.heap.size); omega) cw2_0_3; have zx_0 : W.heap.size < wx.heap.size := World.block_lt_of_cell? _ _ cx_0_0; clear gx; all_goals (apply Oe.pAt_of_quiet; intro K hK; go_big_quiet_op; first | exact hK _ rfl | (apply Exists.intro; refine ⟨fun _ => ?_, ?_⟩; (· fail); exact hK _ rfl))); try simp only [Act.put, List.setIfInBounds_toArray, List.set_cons_zero, List.set_cons_succ]))
  have Z2 : W.heap.size < w2.heap.size := zw2_0
  refine Oe.wpO_call (by simp only [List.getElem?_toArray, List.getElem?_cons_succ, List.getElem?_cons_zero] <;> rfl) rfl ?_
  intro QS hQS
  go_wp2_with fail
  go_at_call 92
  (with_reducible refine ((H2.out _)).mono ?_)
  rintro e w3 ⟨b1, rfl, o1, hw3⟩
  have hhw3 : Kx (fun k => W.heap.size + 1 ≤ k) w2 w3 := Kx.of_gr hw3
  go_wp2_with fail
  first | (apply Exists.intro; refine ⟨?_, hhw3, ?_⟩; (· simp only [Act.put, List.setIfInBounds_toArray, List.set_cons_zero, List.set_cons_succ]; rfl)) | (refine ⟨hhw3, ?_⟩)
  have cw3_0_0 : w3.cell? ⟨W.heap.size, 0, none⟩ = some (.int .i64 1) := cell_kx hhw3 (by show ¬ (W.heap.size + 1 ≤ W.heap.size); omega) (by go_simp)
  have cw3_0_1 : w3.cell? ⟨W.heap.size, 1, none⟩ = some (.int .i64 i) := cell_kx hhw3 (by show ¬ (W.heap.size + 1 ≤ W.heap.size); omega) (by go_simp)
  have cw3_0_2 : w3.cell? ⟨W.heap.size, 2, none⟩ = some (.int .i64 k) := cell_kx hhw3 (by show ¬ (W.heap.size + 1 ≤ W.heap.size); omega) (by go_simp)
  have cw3_0_3 : w3.cell? ⟨W.heap.size, 3, none⟩ = some (.slice ad n cap) := cell_kx hhw3 (by show ¬ (W.heap.size + 1 ≤ W.heap.size); omega) (by go_simp)
  have zw3_0 : W.heap.size < w3.heap.size := World.block_lt_of_cell? _ _ cw3_0_0
  have gw3 : Gr W w3 := Kx.gr hhw3 gw2 (fun k hk => by have hk2 : W.heap.size + 1 ≤ k := hk; omega)
  have sw3 := hhw3.size
  clear gw2 zw2_0 cw2_0_0 cw2_0_1 cw2_0_2 cw2_0_3
  clear hhw3
  try simp only [Act.put, List.setIfInBounds_toArray, List.set_cons_zero, List.set_cons_succ]
  repeat (first | (refine Oe.wpO_skip (by simp only [List.getElem?_toArray, List.getElem?_cons_succ, List.getElem?_cons_zero] <;> rfl) rfl ?_; simp only [Act.put, List.setIfInBounds_toArray, List.set_cons_zero, List.set_cons_succ]) | (refine Oe.wpO_pure (by simp only [List.getElem?_toArray, List.getElem?_cons_succ, List.getElem?_cons_zero] <;> rfl) rfl ?_; apply Exists.intro; refine ⟨?_, ?_⟩; (· intro wx gx; have cx_0_0 : wx.cell? ⟨W.heap.size, 0, none⟩ = some (.int .i64 1) := cell_kx gx (by show ¬ (W.heap.size + 1 ≤ W.heap.size); omega) cw3_0_0; have cx_0_1 : wx.cell? ⟨W.heap.size, 1, none⟩ = some (.int .i64 i) := cell_kx gx (by show ¬ (W.heap.size + 1 ≤ W.heap.size); omega) cw3_0_1; have cx_0_2 : wx.cell? ⟨W.heap.size, 2, none⟩ = some (.int .i64 k) := cell_kx gx (by show ¬ (W.heap.size + 1 ≤ W.heap.size); omega) cw3_0_2; have cx_0_3 : wx.cell? ⟨W.heap.size, 3, none⟩ = some (.slice ad n cap) := cell_kx gx (by show ¬ (W.heap.size + 1 ≤ W.heap.size); omega) cw3_0_3; have zx_0 : W.heap.size < wx.heap.size := World.block_lt_of_cell? _ _ cx_0_0; clear gx; all_goals (apply Oe.pAt_of_quiet; intro K hK; go_big_quiet_op; first | exact hK _ rfl | (apply Exists.intro; refine ⟨fun _ => ?_, ?_⟩; (· fail); exact hK _ rfl))); try simp only [Act.put, List.setIfInBounds_toArray, List.set_cons_zero, List.set_cons_succ]))
  have O1 := Lib.hid o1
  clear o1
  refine Oe.wpO_call (by simp only [List.getElem?_toArray, List.getElem?_cons_succ, List.getElem?_cons_zero] <;> rfl) rfl ?_
  intro QS hQS
  go_wp2_with fail
  go_at_call 92
  (with_reducible refine ((H3.out _)).mono ?_)
  rintro e w4 ⟨b2, rfl, o2, hw4⟩
  have hhw4 : Kx (fun k => W.heap.size + 1 ≤ k) w3 w4 := Kx.of_gr hw4
  go_wp2_with fail
  first | (apply Exists.intro; refine ⟨?_, hhw4, ?_⟩; (· simp only [Act.put, List.setIfInBounds_toArray, List.set_cons_zero, List.set_cons_succ]; rfl)) | (refine ⟨hhw4, ?_⟩)
  have cw4_0_0 : w4.cell? ⟨W.heap.size, 0, none⟩ = some (.int .i64 1) := cell_kx hhw4 (by show ¬ (W.heap.size + 1 ≤ W.heap.size); omega) (by go_simp)
  have cw4_0_1 : w4.cell? ⟨W.heap.size, 1, none⟩ = some (.int .i64 i) := cell_kx hhw4 (by show ¬ (W.heap.size + 1 ≤ W.heap.size); omega) (by go_simp)
  have cw4_0_2 : w4.cell? ⟨W.heap.size, 2, none⟩ = some (.int .i64 k) := cell_kx hhw4 (by show ¬ (W.heap.size + 1 ≤ W.heap.size); omega) (by go_simp)
  have cw4_0_3 : w4.cell? ⟨W.heap.size, 3, none⟩ = some (.slice ad n cap) := cell_kx hhw4 (by show ¬ (W.heap.size + 1 ≤ W.heap.size); omega) (by go_simp)
  have zw4_0 : W.heap.size < w4.heap.size := World.block_lt_of_cell? _ _ cw4_0_0
  have gw4 : Gr W w4 := Kx.gr hhw4 gw3 (fun k hk => by have hk2 : W.heap.size + 1 ≤ k := hk; omega)
  have sw4 := hhw4.size
  clear gw3 zw3_0 cw3_0_0 cw3_0_1 cw3_0_2 cw3_0_3
  clear hhw4
  try simp only [Act.put, List.setIfInBounds_toArray, List.set_cons_zero, List.set_cons_succ]
  repeat (first | (refine Oe.wpO_skip (by simp only [List.getElem?_toArray, List.getElem?_cons_succ, List.getElem?_cons_zero] <;> rfl) rfl ?_; simp only [Act.put, List.setIfInBounds_toArray, List.set_cons_zero, List.set_cons_succ]) | (refine Oe.wpO_pure (by simp only [List.getElem?_toArray, List.getElem?_cons_succ, List.getElem?_cons_zero] <;> rfl) rfl ?_; apply Exists.intro; refine ⟨?_, ?_⟩; (· intro wx gx; have cx_0_0 : wx.cell? ⟨W.heap.size, 0, none⟩ = some (.int .i64 1) := cell_kx gx (by show ¬ (W.heap.size + 1 ≤ W.heap.size); omega) cw4_0_0; have cx_0_1 : wx.cell? ⟨W.heap.size, 1, none⟩ = some (.int .i64 i) := cell_kx gx (by show ¬ (W.heap.size + 1 ≤ W.heap.size); omega) cw4_0_1; have cx_0_2 : wx.cell? ⟨W.heap.size, 2, none⟩ = some (.int .i64 k) := cell_kx gx (by show ¬ (W.heap.size + 1 ≤ W.heap.size); omega) cw4_0_2; have cx_0_3 : wx.cell? ⟨W.heap.size, 3, none⟩ = some (.slice ad n cap) := cell_kx gx (by show ¬ (W.heap.size + 1 ≤ W.heap.size); omega) cw4_0_3; have zx_0 : W.heap.size < wx.heap.size := World.block_lt_of_cell? _ _ cx_0_0; clear gx; all_goals (apply Oe.pAt_of_quiet; intro K hK; go_big_quiet_op; first | exact hK _ rfl | (apply Exists.intro; refine ⟨fun _ => ?_, ?_⟩; (· fail); exact hK _ rfl))); try simp only [Act.put, List.setIfInBounds_toArray, List.set_cons_zero, List.set_cons_succ]))
  have O2 := Lib.hid (row_own o2)
  have O1b := Lib.hid (own_low (b := W.heap.size + 1) (show Own w4 w2.heap.size b1 L1 from rowOwn_gr O1.out hw4) (by omega))
  clear o2 O1 hw3 hw4
  refine Oe.wpO_call (by simp only [List.getElem?_toArray, List.getElem?_cons_succ, List.getElem?_cons_zero] <;> rfl) rfl ?_
  intro QS hQS
  refine (wpList_app rfl (.tmp 16) (.tmp 21) rfl (W.heap.size + 1) b1 b2 L1 L2 rfl O1b.out rfl O2.out (by omega) (by omega) ?_)
  intro b3 w5 o3 g3
  have hhw5 : Kx (fun k => W.heap.size + 1 ≤ k) w4 w5 := kx_of_grown g3 (fun k hk => (own_at O1b.out hk).1)
  refine hQS _ _ ⟨_, rfl, hhw5, ?_⟩
  clear hQS QS
  have cw5_0_0 : w5.cell? ⟨W.heap.size, 0, none⟩ = some (.int .i64 1) := cell_kx hhw5 (by show ¬ (W.heap.size + 1 ≤ W.heap.size); omega) (by go_simp)
  have cw5_0_1 : w5.cell? ⟨W.heap.size, 1, none⟩ = some (.int .i64 i) := cell_kx hhw5 (by show ¬ (W.heap.size + 1 ≤ W.heap.size); omega) (by go_simp)
  have cw5_0_2 : w5.cell? ⟨W.heap.size, 2, none⟩ = some (.int .i64 k) := cell_kx hhw5 (by show ¬ (W.heap.size + 1 ≤ W.heap.size); omega) (by go_simp)
  have cw5_0_3 : w5.cell? ⟨W.heap.size, 3, none⟩ = some (.slice ad n cap) := cell_kx hhw5 (by show ¬ (W.heap.size + 1 ≤ W.heap.size); omega) (by go_simp)
  have zw5_0 : W.heap.size < w5.heap.size := World.block_lt_of_cell? _ _ cw5_0_0
  have gw5 : Gr W w5 := Kx.gr hhw5 gw4 (fun k hk => by have hk2 : W.heap.size + 1 ≤ k := hk; omega)
  have sw5 := hhw5.size
  clear gw4 zw4_0 cw4_0_0 cw4_0_1 cw4_0_2 cw4_0_3
  clear hhw5
  try simp only [Act.put, List.setIfInBounds_toArray, List.set_cons_zero, List.set_cons_succ]
  repeat (first | (refine Oe.wpO_skip (by simp only [List.getElem?_toArray, List.getElem?_cons_succ, List.getElem?_cons_zero] <;> rfl) rfl ?_; simp only [Act.put, List.setIfInBounds_toArray, List.set_cons_zero, List.set_cons_succ]) | (refine Oe.wpO_pure (by simp only [List.getElem?_toArray, List.getElem?_cons_succ, List.getElem?_cons_zero] <;> rfl) rfl ?_; apply Exists.intro; refine ⟨?_, ?_⟩; (· intro wx gx; have cx_0_0 : wx.cell? ⟨W.heap.size, 0, none⟩ = some (.int .i64 1) := cell_kx gx (by show ¬ (W.heap.size + 1 ≤ W.heap.size); omega) cw5_0_0; have cx_0_1 : wx.cell? ⟨W.heap.size, 1, none⟩ = some (.int .i64 i) := cell_kx gx (by show ¬ (W.heap.size + 1 ≤ W.heap.size); omega) cw5_0_1; have cx_0_2 : wx.cell? ⟨W.heap.size, 2, none⟩ = some (.int .i64 k) := cell_kx gx (by show ¬ (W.heap.size + 1 ≤ W.heap.size); omega) cw5_0_2; have cx_0_3 : wx.cell? ⟨W.heap.size, 3, none⟩ = some (.slice ad n cap) := cell_kx gx (by show ¬ (W.heap.size + 1 ≤ W.heap.size); omega) cw5_0_3; have zx_0 : W.heap.size < wx.heap.size := World.block_lt_of_cell? _ _ cx_0_0; clear gx; all_goals (apply Oe.pAt_of_quiet; intro K hK; go_big_quiet_op; first | exact hK _ rfl | (apply Exists.intro; refine ⟨fun _ => ?_, ?_⟩; (· fail); exact hK _ rfl))); try simp only [Act.put, List.setIfInBounds_toArray, List.set_cons_zero, List.set_cons_succ]))
  have O3 := Lib.hid o3
  clear o3 O1b O2 g3
  refine Oe.wpO_nil (hKQ _ _ ?_)
  clear hKQ KQ
  go_wp2_with fail
  go_at_call 49
  refine (H4.out _ gw5).mono ?_
  rintro e w6 ⟨b6, rfl, r6, g6⟩
  have R6 := Lib.hid r6
  have O6 := Lib.hid (show Own w6 (W.heap.size + 1) b3 (L1 ++ L2) from rowOwn_gr O3.out g6)
  have G6 := Gr.trans gw5 g6
  have Z6 : W.heap.size + 1 ≤ w6.heap.size := by have := g6.size; omega
  clear r6 g6 O3
  go_wp2_with (at_builtin; (refine wpList_app rfl (.tmp 33) (.tmp 34) rfl (W.heap.size + 1) b3 b6 (L1 ++ L2) L3 rfl O6.out rfl R6.out (by simp only [List.length_append]; omega) Z6 ?_); intro b7 w7 o7 g7; have R7 := Lib.hid (row_own o7); have G7 : Gr W w7 := g7.gr G6 (fun k hk => by have := (own_at O6.out hk).1; omega); clear o7 g7)
  go_ret2
  exact ⟨_, rfl, R7.out, G7⟩
set_option maxHeartbeats 4000000 in
set_option maxRecDepth 100000 in
theorem c_rChange {n : Nat} {X Y : Nat → Int} {v : Value} (kd id k : Int) (W : World) (h : Pts W v n X Y) :
    Calls Tryd.prog 55 #[.agg #[.int .i64 kd, .int .i64 id, .int .i64 k, v]] W (RChgTo W kd id k n X Y) := by
  by_cases hc : chgC kd id k n X Y = 0
  · have hR : chgR kd id k n X Y = chgB kd id k n X Y := if_pos hc
    obtain ⟨h1, h2, h3⟩ := chgC_ok hc
    obtain ⟨i, rfl⟩ : ∃ i : Nat, id = i := ⟨id.toNat, by omega⟩
    rcases h3 with ⟨rfl, h3⟩ | ⟨rfl, rfl, rfl⟩
    · refine (rchange_1 i k W h (by omega) h3).mono ?_
      rintro e w' ⟨b, rfl, r, g⟩
      exact ⟨b, by rw [hc]; rfl, by rw [hR]; exact r, g⟩
    · refine (rchange_2 i W h (by omega)).mono ?_
      rintro e w' ⟨b, rfl, r, g⟩
      refine ⟨b, by rw [hc]; rfl, ?_, g⟩
      have e : chgB 2 (i : Int) 0 0 X Y = Ec.vr 2 ++ Ec.vr i := by unfold chgB; rw [if_neg (by omega), List.append_nil]; rfl
      rw [hR, e]
      exact r
  · have hR : chgR kd id k n X Y = [] := if_neg hc
    have A1 : ∀ w, Gr W w → Calls Tryd.prog 101 #[.agg #[.int .i64 kd, .int .i64 id, .int .i64 k, v]] w fun e w' => e = .returned (.int .i64 (chgC kd id k n X Y : Nat)) ∧ Gr w w' := fun w g => c_CheckChange kd id k w (pts_gr h g)
    have fin : ∀ w', Gr W w' → RChgTo W kd id k n X Y (.returned (.tuple #[.slice none 0 0, .int .i64 (chgC kd id k n X Y : Nat)])) w' := fun w' g => ⟨_, rfl, by rw [hR]; exact row_none _, g⟩
    have HF := Lib.hid fin
    generalize RChgTo W kd id k n X Y = Post at HF ⊢
    generalize chgC kd id k n X Y = c at A1 HF hc
    obtain ⟨ad, cap, B, off, rfl, _⟩ := h
    have t1 : ((c : Int) == 0) = false := by simp; omega
    have t2 : (c == 0) = false := by simp; omega
    have t3 : ((c : Int) != 0) = true := by simp; omega
    have t4 : (c != 0) = true := by simp; omega
    have H1 := Lib.hid A1
    clear A1
    clear fin hR hc
    go_enter Tryd.func55, Tryd.ntmps55
    go_wp2_with fail
    go_at_call 101
    refine ((H1.out _ (by go_grown))).mono ?_
    rintro e w1 ⟨rfl, hw1⟩
    have gw1 : Gr W w1 := Gr.trans (by go_grown) hw1
    clear hw1
    go_wp2_with fail
    exact HF.out _ gw1
end Go.Proofs.YtkodmfkchbbmiaaDoor
namespace Go.Proofs.YtkodmfkchbbmiaaDoor
set_option linter.unusedVariables false
set_option linter.unusedSimpArgs false
open Go.ChangeShapes Go.WideShapes Go.ChangeAt Go.RowKit

def RUcTo (W : World) (L : List UInt8) (e : Ending) (w' : World) : Prop :=
  (ucBad L = true ∧ e = .returned (.tuple #[.agg #[.int .i64 0, .int .i64 0, .int .i64 0, .slice none 0 0], .int .i64 0, .int .i64 10]) ∧ Gr W w') ∨
  (ucBad L = false ∧ ∃ v, e = .returned (.tuple #[.agg #[.int .i64 (ucK1 L : Nat), .int .i64 (ucI L : Nat), .int .i64 (ucK L : Nat), v], .int .i64 (ucE L : Nat), .int .i64 0]) ∧ Pts w' v (ucM L) (uoX (ucO L)) (uoY (ucO L)) ∧ Gr W w')
theorem c1_iff {L : List UInt8} : (ucS1 L = true ∨ ucK1 L = 0) ↔ ((uL L).2 = 0 ∨ (uL L).1 < 1 ∨ 2 < (uL L).1) := by
  have e : ucS1 L = (false || decide ((uL L).2 = 0) || decide (2 < (uL L).1)) := rfl
  have k : ucK1 L = if ucS1 L then 0 else (uL L).1 := rfl
  cases h : ucS1 L
  · rw [h] at e k
    simp at e k
    rw [k]
    constructor
    · rintro (h | h)
      · cases h
      · exact Or.inr (Or.inl (by omega))
    · rintro (h | h | h)
      · exact absurd h e.1
      · exact Or.inr (by omega)
      · omega
  · rw [h] at e
    simp at e
    constructor
    · intro _
      rcases e with e | e
      · exact Or.inl e
      · exact Or.inr (Or.inr e)
    · intro _; exact Or.inl rfl
theorem ucbad_1 {L : List UInt8} (h : ucS1 L = true ∨ ucK1 L = 0) : ucBad L = true := by
  unfold ucBad
  rcases h with h | h
  · have e : ucS2 L = true := by
      show nmS L (ucB L) (ucS1 L) 1099511627776 = true
      unfold nmS; rw [h]; rfl
    rw [e]; rfl
  · rw [decide_eq_true h]; simp
theorem ucbad_2 {L : List UInt8} (h : ucS2 L = true) : ucBad L = true := by unfold ucBad; rw [h]; rfl
theorem c2_iff {L : List UInt8} (h : ucS1 L = false) : ucS2 L = true ↔ (rd L (ucB L)).2 = 0 ∨ 1099511627776 < (rd L (ucB L)).1 := by
  unfold ucS2 nmS
  rw [h]
  simp
set_option maxHeartbeats 1000000 in
set_option maxRecDepth 100000 in
theorem ruc_1 {L : List UInt8} {v : Value} (W : World) (h : Row W v L) (hl : L.length ≤ 100000) (hs : ucS1 L = true ∨ ucK1 L = 0) :
    Calls Tryd.prog 57 #[v] W (RUcTo W L) := by
  have fin : ∀ w', Gr W w' → RUcTo W L (.returned (.tuple #[.agg #[.int .i64 0, .int .i64 0, .int .i64 0, .slice none 0 0], .int .i64 0, .int .i64 10])) w' := fun w' g => Or.inl ⟨ucbad_1 hs, rfl, g⟩
  have A1 := fun w (g : Gr W w) => c_UnvarintR w (row_gr h g) hl
  have hw := (uL_wd L).1
  rw [c1_iff] at hs
  generalize RUcTo W L = Post at fin ⊢
  have HF := Lib.hid fin
  generalize (uL L).1 = x at A1 hs hw
  generalize (uL L).2 = n at A1 hs
  unfold Wd at hw
  obtain ⟨ad, cap, B, off, rfl, _⟩ := h
  have H1 := Lib.hid A1
  clear A1
  clear fin
  by_cases c : n = 0
  · subst c
    clear hs
    go_enter Tryd.func57, Tryd.ntmps57
    go_wp2_with fail
    go_at_call 96
    refine ((H1.out _ (by go_grown))).mono ?_
    rintro e w1 ⟨rfl, hw1⟩
    have cw1_0_0 : w1.cell? ⟨W.heap.size, 0, none⟩ = some (.int .i64 0) := cell_gr hw1 (by go_simp)
    have fw1_0_0 : w1.frozen? ⟨W.heap.size, 0, none⟩ = false := frozen_gr (v := .int .i64 0) hw1 (by go_simp) (by go_simp)
    have cw1_0_1 : w1.cell? ⟨W.heap.size, 1, none⟩ = some (.int .i64 0) := cell_gr hw1 (by go_simp)
    have fw1_0_1 : w1.frozen? ⟨W.heap.size, 1, none⟩ = false := frozen_gr (v := .int .i64 0) hw1 (by go_simp) (by go_simp)
    have cw1_0_2 : w1.cell? ⟨W.heap.size, 2, none⟩ = some (.int .i64 0) := cell_gr hw1 (by go_simp)
    have fw1_0_2 : w1.frozen? ⟨W.heap.size, 2, none⟩ = false := frozen_gr (v := .int .i64 0) hw1 (by go_simp) (by go_simp)
    have cw1_0_3 : w1.cell? ⟨W.heap.size, 3, none⟩ = some (.slice none 0 0) := cell_gr hw1 (by go_simp)
    have fw1_0_3 : w1.frozen? ⟨W.heap.size, 3, none⟩ = false := frozen_gr (v := .slice none 0 0) hw1 (by go_simp) (by go_simp)
    have zw1_0 : W.heap.size < w1.heap.size := World.block_lt_of_cell? _ _ cw1_0_0
    have gw1 : Gr W w1 := Gr.trans (by go_grown) hw1
    clear hw1
    go_wp2_with fail
    refine bodyPost_ret (v := .tuple #[.agg #[.int .i64 0, .int .i64 0, .int .i64 0, .slice none 0 0], .int .i64 0, .int .i64 10]) (by simp [results, Tryd.results57, go_sem, *]) rfl (HF.out _ (by have gg := gw1; have gs := gg.size; go_grown))
  · have t0 : ((n : Int) == 0) = false := by simp; omega
    have t0b : (n == 0) = false := by simp; omega
    by_cases c2 : x < 1
    · obtain rfl : x = 0 := by omega
      clear hs c c2
      go_enter Tryd.func57, Tryd.ntmps57
      go_wp2_with fail
      go_at_call 96
      refine ((H1.out _ (by go_grown))).mono ?_
      rintro e w1 ⟨rfl, hw1⟩
      have cw1_0_0 : w1.cell? ⟨W.heap.size, 0, none⟩ = some (.int .i64 0) := cell_gr hw1 (by go_simp)
      have fw1_0_0 : w1.frozen? ⟨W.heap.size, 0, none⟩ = false := frozen_gr (v := .int .i64 0) hw1 (by go_simp) (by go_simp)
      have cw1_0_1 : w1.cell? ⟨W.heap.size, 1, none⟩ = some (.int .i64 0) := cell_gr hw1 (by go_simp)
      have fw1_0_1 : w1.frozen? ⟨W.heap.size, 1, none⟩ = false := frozen_gr (v := .int .i64 0) hw1 (by go_simp) (by go_simp)
      have cw1_0_2 : w1.cell? ⟨W.heap.size, 2, none⟩ = some (.int .i64 0) := cell_gr hw1 (by go_simp)
      have fw1_0_2 : w1.frozen? ⟨W.heap.size, 2, none⟩ = false := frozen_gr (v := .int .i64 0) hw1 (by go_simp) (by go_simp)
      have cw1_0_3 : w1.cell? ⟨W.heap.size, 3, none⟩ = some (.slice none 0 0) := cell_gr hw1 (by go_simp)
      have fw1_0_3 : w1.frozen? ⟨W.heap.size, 3, none⟩ = false := frozen_gr (v := .slice none 0 0) hw1 (by go_simp) (by go_simp)
      have zw1_0 : W.heap.size < w1.heap.size := World.block_lt_of_cell? _ _ cw1_0_0
      have gw1 : Gr W w1 := Gr.trans (by go_grown) hw1
      clear hw1
      go_wp2_with fail
      refine bodyPost_ret (v := .tuple #[.agg #[.int .i64 0, .int .i64 0, .int .i64 0, .slice none 0 0], .int .i64 0, .int .i64 10]) (by simp [results, Tryd.results57, go_sem, *]) rfl (HF.out _ (by have gg := gw1; have gs := gg.size; go_grown))
    · have hx : 2 < x := by omega
      have t1 : decide ((2 : Int) < (x : Int)) = true := decide_eq_true (by omega)
      have t2 : (2 : Int) < (x : Int) := by omega
      have t3 : decide ((x : Int) < 1) = false := decide_eq_false (by omega)
      have t4 : ¬ (x : Int) < 1 := by omega
      have t5 : decide (x < 1) = false := decide_eq_false (by omega)
      clear hs c c2
      go_enter Tryd.func57, Tryd.ntmps57
      go_wp2_with fail
      go_at_call 96
      refine ((H1.out _ (by go_grown))).mono ?_
      rintro e w1 ⟨rfl, hw1⟩
      have cw1_0_0 : w1.cell? ⟨W.heap.size, 0, none⟩ = some (.int .i64 0) := cell_gr hw1 (by go_simp)
      have fw1_0_0 : w1.frozen? ⟨W.heap.size, 0, none⟩ = false := frozen_gr (v := .int .i64 0) hw1 (by go_simp) (by go_simp)
      have cw1_0_1 : w1.cell? ⟨W.heap.size, 1, none⟩ = some (.int .i64 0) := cell_gr hw1 (by go_simp)
      have fw1_0_1 : w1.frozen? ⟨W.heap.size, 1, none⟩ = false := frozen_gr (v := .int .i64 0) hw1 (by go_simp) (by go_simp)
      have cw1_0_2 : w1.cell? ⟨W.heap.size, 2, none⟩ = some (.int .i64 0) := cell_gr hw1 (by go_simp)
      have fw1_0_2 : w1.frozen? ⟨W.heap.size, 2, none⟩ = false := frozen_gr (v := .int .i64 0) hw1 (by go_simp) (by go_simp)
      have cw1_0_3 : w1.cell? ⟨W.heap.size, 3, none⟩ = some (.slice none 0 0) := cell_gr hw1 (by go_simp)
      have fw1_0_3 : w1.frozen? ⟨W.heap.size, 3, none⟩ = false := frozen_gr (v := .slice none 0 0) hw1 (by go_simp) (by go_simp)
      have zw1_0 : W.heap.size < w1.heap.size := World.block_lt_of_cell? _ _ cw1_0_0
      have gw1 : Gr W w1 := Gr.trans (by go_grown) hw1
      clear hw1
      go_wp2_with fail
      refine bodyPost_ret (v := .tuple #[.agg #[.int .i64 0, .int .i64 0, .int .i64 0, .slice none 0 0], .int .i64 0, .int .i64 10]) (by simp [results, Tryd.results57, go_sem, *]) rfl (HF.out _ (by have gg := gw1; have gs := gg.size; go_grown))
set_option maxHeartbeats 1000000 in
set_option maxRecDepth 100000 in
theorem ruc_2 {L : List UInt8} {v : Value} (W : World) (h : Row W v L) (hl : L.length ≤ 100000) (hs1 : ucS1 L = false) (hk : ucK1 L ≠ 0) (hs : ucS2 L = true) :
    Calls Tryd.prog 57 #[v] W (RUcTo W L) := by
  have fin : ∀ w', Gr W w' → RUcTo W L (.returned (.tuple #[.agg #[.int .i64 0, .int .i64 0, .int .i64 0, .slice none 0 0], .int .i64 0, .int .i64 10])) w' := fun w' g => Or.inl ⟨ucbad_2 hs, rfl, g⟩
  have A1 := fun w (g : Gr W w) => c_UnvarintR w (row_gr h g) hl
  obtain ⟨v1, ks, R1⟩ := row_from (ucB L) (ucB_le L) h
  have A2 : ∀ w, Gr W w → Calls Tryd.prog 96 #[v1] w fun e w' => e = .returned (.tuple #[.int .u64 (rd L (ucB L)).1, .int .i64 (rd L (ucB L)).2]) ∧ Gr w w' := fun w (g : Gr W w) => c_UnvarintR w (row_gr R1 g) (by simp; omega)
  have hw := (uL_wd L).1
  have hw2 := (rd_wd L (ucB L)).1
  have eB : ucB L = (uL L).2 := Nat.zero_add _
  have hn : (uL L).2 ≤ 10 := (uL_wd L).2.1
  rw [c2_iff hs1] at hs
  have hs1' : ¬ ((uL L).2 = 0 ∨ (uL L).1 < 1 ∨ 2 < (uL L).1) := fun hh => by
    rcases c1_iff.2 hh with q | q
    · rw [q] at hs1; cases hs1
    · exact hk q
  generalize RUcTo W L = Post at fin ⊢
  have HF := Lib.hid fin
  rw [eB] at ks hs A2 hw2 R1
  generalize (rd L (uL L).2).1 = y at A2 hs hw2
  generalize (rd L (uL L).2).2 = q at A2 hs
  generalize (uL L).1 = x at A1 hs1' hw
  generalize (uL L).2 = n at A1 hs1' ks hn R1
  unfold Wd at hw hw2
  obtain ⟨ad, cap, B, off, rfl, _⟩ := h
  obtain ⟨ad1, cap1, _, _, rfl, _⟩ := R1
  generalize (L.drop n).length = ln at ks A2
  have H1 := Lib.hid A1
  have H2 := Lib.hid A2
  clear A1 A2
  have t0 : ((n : Int) == 0) = false := by simp; omega
  have t0b : (n == 0) = false := by simp; omega
  have t1 : decide ((2 : Int) < (x : Int)) = false := decide_eq_false (by omega)
  have t2 : ¬ (2 : Int) < (x : Int) := by omega
  have u1 : decide ((x : Int) < 1) = false := decide_eq_false (by omega)
  have u2 : ¬ (x : Int) < 1 := by omega
  have u3 : decide (x < 1) = false := decide_eq_false (by omega)
  clear fin hs1 eB hs1' hk
  by_cases c : q = 0
  · subst c
    clear hs
    go_enter Tryd.func57, Tryd.ntmps57
    go_wp2_with fail
    go_at_call 96
    refine ((H1.out _ (by go_grown))).mono ?_
    rintro e w1 ⟨rfl, hw1⟩
    have cw1_0_0 : w1.cell? ⟨W.heap.size, 0, none⟩ = some (.int .i64 0) := cell_gr hw1 (by go_simp)
    have fw1_0_0 : w1.frozen? ⟨W.heap.size, 0, none⟩ = false := frozen_gr (v := .int .i64 0) hw1 (by go_simp) (by go_simp)
    have cw1_0_1 : w1.cell? ⟨W.heap.size, 1, none⟩ = some (.int .i64 0) := cell_gr hw1 (by go_simp)
    have fw1_0_1 : w1.frozen? ⟨W.heap.size, 1, none⟩ = false := frozen_gr (v := .int .i64 0) hw1 (by go_simp) (by go_simp)
    have cw1_0_2 : w1.cell? ⟨W.heap.size, 2, none⟩ = some (.int .i64 0) := cell_gr hw1 (by go_simp)
    have fw1_0_2 : w1.frozen? ⟨W.heap.size, 2, none⟩ = false := frozen_gr (v := .int .i64 0) hw1 (by go_simp) (by go_simp)
    have cw1_0_3 : w1.cell? ⟨W.heap.size, 3, none⟩ = some (.slice none 0 0) := cell_gr hw1 (by go_simp)
    have fw1_0_3 : w1.frozen? ⟨W.heap.size, 3, none⟩ = false := frozen_gr (v := .slice none 0 0) hw1 (by go_simp) (by go_simp)
    have zw1_0 : W.heap.size < w1.heap.size := World.block_lt_of_cell? _ _ cw1_0_0
    have gw1 : Gr W w1 := Gr.trans (by go_grown) hw1
    clear hw1
    go_wp2_with fail
    go_at_call 96
    refine ((H2.out _ gw1)).mono ?_
    rintro e w2 ⟨rfl, hw2⟩
    have cw2_0_0 : w2.cell? ⟨W.heap.size, 0, none⟩ = some (.int .i64 0) := cell_gr hw2 (by go_simp)
    have fw2_0_0 : w2.frozen? ⟨W.heap.size, 0, none⟩ = false := frozen_gr (v := .int .i64 0) hw2 (by go_simp) (by go_simp)
    have cw2_0_1 : w2.cell? ⟨W.heap.size, 1, none⟩ = some (.int .i64 0) := cell_gr hw2 (by go_simp)
    have fw2_0_1 : w2.frozen? ⟨W.heap.size, 1, none⟩ = false := frozen_gr (v := .int .i64 0) hw2 (by go_simp) (by go_simp)
    have cw2_0_2 : w2.cell? ⟨W.heap.size, 2, none⟩ = some (.int .i64 0) := cell_gr hw2 (by go_simp)
    have fw2_0_2 : w2.frozen? ⟨W.heap.size, 2, none⟩ = false := frozen_gr (v := .int .i64 0) hw2 (by go_simp) (by go_simp)
    have cw2_0_3 : w2.cell? ⟨W.heap.size, 3, none⟩ = some (.slice none 0 0) := cell_gr hw2 (by go_simp)
    have fw2_0_3 : w2.frozen? ⟨W.heap.size, 3, none⟩ = false := frozen_gr (v := .slice none 0 0) hw2 (by go_simp) (by go_simp)
    have zw2_0 : W.heap.size < w2.heap.size := World.block_lt_of_cell? _ _ cw2_0_0
    have gw2 : Gr W w2 := Gr.trans (by have gg := gw1; have gs := gg.size; go_grown) hw2
    clear hw2 gw1 zw1_0 cw1_0_0 fw1_0_0 cw1_0_1 fw1_0_1 cw1_0_2 fw1_0_2 cw1_0_3 fw1_0_3
    go_wp2_with fail
    refine bodyPost_ret (v := .tuple #[.agg #[.int .i64 0, .int .i64 0, .int .i64 0, .slice none 0 0], .int .i64 0, .int .i64 10]) (by simp [results, Tryd.results57, go_sem, *]) rfl (HF.out _ (by have gg := gw2; have gs := gg.size; go_grown))
  · have t3 : ((q : Int) == 0) = false := by simp; omega
    have t3b : (q == 0) = false := by simp; omega
    have hx : 1099511627776 < y := by omega
    have t4 : decide ((1099511627776 : Int) < (y : Int)) = true := decide_eq_true (by omega)
    have t5 : (1099511627776 : Int) < (y : Int) := by omega
    clear hs c
    go_enter Tryd.func57, Tryd.ntmps57
    go_wp2_with fail
    go_at_call 96
    refine ((H1.out _ (by go_grown))).mono ?_
    rintro e w1 ⟨rfl, hw1⟩
    have cw1_0_0 : w1.cell? ⟨W.heap.size, 0, none⟩ = some (.int .i64 0) := cell_gr hw1 (by go_simp)
    have fw1_0_0 : w1.frozen? ⟨W.heap.size, 0, none⟩ = false := frozen_gr (v := .int .i64 0) hw1 (by go_simp) (by go_simp)
    have cw1_0_1 : w1.cell? ⟨W.heap.size, 1, none⟩ = some (.int .i64 0) := cell_gr hw1 (by go_simp)
    have fw1_0_1 : w1.frozen? ⟨W.heap.size, 1, none⟩ = false := frozen_gr (v := .int .i64 0) hw1 (by go_simp) (by go_simp)
    have cw1_0_2 : w1.cell? ⟨W.heap.size, 2, none⟩ = some (.int .i64 0) := cell_gr hw1 (by go_simp)
    have fw1_0_2 : w1.frozen? ⟨W.heap.size, 2, none⟩ = false := frozen_gr (v := .int .i64 0) hw1 (by go_simp) (by go_simp)
    have cw1_0_3 : w1.cell? ⟨W.heap.size, 3, none⟩ = some (.slice none 0 0) := cell_gr hw1 (by go_simp)
    have fw1_0_3 : w1.frozen? ⟨W.heap.size, 3, none⟩ = false := frozen_gr (v := .slice none 0 0) hw1 (by go_simp) (by go_simp)
    have zw1_0 : W.heap.size < w1.heap.size := World.block_lt_of_cell? _ _ cw1_0_0
    have gw1 : Gr W w1 := Gr.trans (by go_grown) hw1
    clear hw1
    go_wp2_with fail
    go_at_call 96
    refine ((H2.out _ gw1)).mono ?_
    rintro e w2 ⟨rfl, hw2⟩
    have cw2_0_0 : w2.cell? ⟨W.heap.size, 0, none⟩ = some (.int .i64 0) := cell_gr hw2 (by go_simp)
    have fw2_0_0 : w2.frozen? ⟨W.heap.size, 0, none⟩ = false := frozen_gr (v := .int .i64 0) hw2 (by go_simp) (by go_simp)
    have cw2_0_1 : w2.cell? ⟨W.heap.size, 1, none⟩ = some (.int .i64 0) := cell_gr hw2 (by go_simp)
    have fw2_0_1 : w2.frozen? ⟨W.heap.size, 1, none⟩ = false := frozen_gr (v := .int .i64 0) hw2 (by go_simp) (by go_simp)
    have cw2_0_2 : w2.cell? ⟨W.heap.size, 2, none⟩ = some (.int .i64 0) := cell_gr hw2 (by go_simp)
    have fw2_0_2 : w2.frozen? ⟨W.heap.size, 2, none⟩ = false := frozen_gr (v := .int .i64 0) hw2 (by go_simp) (by go_simp)
    have cw2_0_3 : w2.cell? ⟨W.heap.size, 3, none⟩ = some (.slice none 0 0) := cell_gr hw2 (by go_simp)
    have fw2_0_3 : w2.frozen? ⟨W.heap.size, 3, none⟩ = false := frozen_gr (v := .slice none 0 0) hw2 (by go_simp) (by go_simp)
    have zw2_0 : W.heap.size < w2.heap.size := World.block_lt_of_cell? _ _ cw2_0_0
    have gw2 : Gr W w2 := Gr.trans (by have gg := gw1; have gs := gg.size; go_grown) hw2
    clear hw2 gw1 zw1_0 cw1_0_0 fw1_0_0 cw1_0_1 fw1_0_1 cw1_0_2 fw1_0_2 cw1_0_3 fw1_0_3
    go_wp2_with fail
    refine bodyPost_ret (v := .tuple #[.agg #[.int .i64 0, .int .i64 0, .int .i64 0, .slice none 0 0], .int .i64 0, .int .i64 10]) (by simp [results, Tryd.results57, go_sem, *]) rfl (HF.out _ (by have gg := gw2; have gs := gg.size; go_grown))
set_option maxHeartbeats 2000000 in
set_option maxRecDepth 100000 in
theorem ruc_3 {L : List UInt8} {v : Value} (W : World) (h : Row W v L) (hl : L.length ≤ 100000) (hs1 : ucS1 L = false) (hk : ucK1 L ≠ 0) (hs : ucS2 L = false) :
    Calls Tryd.prog 57 #[v] W (RUcTo W L) := by
  have fin1 : ∀ w', ucBad L = true → Gr W w' → RUcTo W L (.returned (.tuple #[.agg #[.int .i64 0, .int .i64 0, .int .i64 0, .slice none 0 0], .int .i64 0, .int .i64 10])) w' := fun w' hb g => Or.inl ⟨hb, rfl, g⟩
  have fin2 : ∀ x w', ucBad L = false → Pts w' x (ucM L) (uoX (ucO L)) (uoY (ucO L)) → Gr W w' → RUcTo W L (.returned (.tuple #[.agg #[.int .i64 (ucK1 L : Nat), .int .i64 (ucI L : Nat), .int .i64 (ucK L : Nat), x], .int .i64 (ucE L : Nat), .int .i64 0])) w' := fun x w' hb hP g => Or.inr ⟨hb, x, rfl, hP, g⟩
  have A1 := fun w (g : Gr W w) => c_UnvarintR w (row_gr h g) hl
  obtain ⟨v1, ks, R1⟩ := row_from (ucB L) (ucB_le L) h
  have A2 : ∀ w, Gr W w → Calls Tryd.prog 96 #[v1] w fun e w' => e = .returned (.tuple #[.int .u64 (rd L (ucB L)).1, .int .i64 (rd L (ucB L)).2]) ∧ Gr w w' := fun w (g : Gr W w) => c_UnvarintR w (row_gr R1 g) (by simp; omega)
  obtain ⟨v2, kz, R2⟩ := row_from (ucA L) (ucA_le L) h
  have A3 : ∀ w, Gr W w → Calls Tryd.prog 51 #[v2] w (RUoTo w (ucO L)) := fun w g => c_rUnobject w (row_gr R2 g) (by unfold ucO; simp; omega)
  have eB : ucB L = (uL L).2 := Nat.zero_add _
  have eA : ucA L = ucB L + (rd L (ucB L)).2 := rfl
  have hn : (uL L).2 ≤ 10 := (uL_wd L).2.1
  have hn2 : (rd L (ucB L)).2 ≤ 10 := (rd_wd L (ucB L)).2.1
  have hEO : uoE (ucO L) ≤ L.length := Nat.le_trans (uoE_le _) (by unfold ucO; simp)
  have eK : ucK1 L = (uL L).1 := by
    have : ucK1 L = if ucS1 L then 0 else (uL L).1 := rfl
    rw [this, hs1]; rfl
  have eI : ucI L = (rd L (ucB L)).1 := by
    have : ucI L = if ucS2 L then 0 else (rd L (ucB L)).1 := rfl
    rw [this, hs]; rfl
  have q1 : (uL L).2 ≠ 0 ∧ 1 ≤ ucK1 L ∧ ucK1 L ≤ 2 := by
    have hs1' : ¬ ((uL L).2 = 0 ∨ (uL L).1 < 1 ∨ 2 < (uL L).1) := fun hh => by
      rcases c1_iff.2 hh with q | q
      · rw [q] at hs1; cases hs1
      · exact hk q
    rw [eK]
    omega
  have q2 : (rd L (ucB L)).2 ≠ 0 ∧ ucI L ≤ 1099511627776 := by
    have : ¬ ((rd L (ucB L)).2 = 0 ∨ 1099511627776 < (rd L (ucB L)).1) := fun hh => by rw [(c2_iff hs1).2 hh] at hs; cases hs
    rw [eI]
    omega
  have hbad : ucBad L = (ucS2 L || (decide (ucK1 L = 0) || (decide (ucK1 L = 1) && uoBad (ucO L)))) := rfl
  have hKK : ucK L = if ucK1 L = 1 then uoK (ucO L) else 0 := rfl
  have hMM : ucM L = if ucK1 L = 1 then uoM (ucO L) else 0 := rfl
  have hEE : ucE L = if ucK1 L = 1 then ucA L + uoE (ucO L) else ucA L := rfl
  rw [← eK] at A1
  rw [← eI] at A2
  rw [hs] at hbad
  generalize RUcTo W L = Post at fin1 fin2 ⊢
  generalize ucBad L = bad at fin1 fin2 hbad
  generalize ucK L = ok at fin2 hKK
  generalize ucM L = om at fin2 hMM
  generalize ucE L = oe at fin2 hEE
  rw [eB] at ks A2 q2 hn2 eA R1
  obtain ⟨ad, cap, B, off, rfl, _⟩ := h
  obtain ⟨ad1, cap1, _, _, rfl, _⟩ := R1
  obtain ⟨ad2, cap2, _, _, rfl, _⟩ := R2
  generalize (L.drop (ucA L)).length = lz at kz A3
  generalize ucO L = M at A3 fin2 hbad hKK hMM hEE hEO
  generalize (rd L (uL L).2).2 = p2 at A2 q2 hn2 eA
  generalize (uL L).2 = p1 at A1 A2 q1 ks hn eA
  generalize (L.drop p1).length = ln at ks A2
  generalize ucK1 L = kd at A1 fin2 hbad hKK hMM hEE q1
  generalize ucI L = i at A2 fin2 q2
  generalize ucA L = a2 at kz hEE eA
  subst eA
  simp only [Int.natCast_add] at kz
  have t0 : ((p1 : Int) == 0) = false := by simp; omega
  have t0b : (p1 == 0) = false := by simp; omega
  have t3 : ((p2 : Int) == 0) = false := by simp; omega
  have t3b : (p2 == 0) = false := by simp; omega
  have t4 : decide ((1099511627776 : Int) < (i : Int)) = false := decide_eq_false (by omega)
  have t5 : ¬ (1099511627776 : Int) < (i : Int) := by omega
  have ci : IntKind.i64.wrap (i : Int) = i := by rw [IntKind.wrap_i64]; omega
  have hi9 : (i : Int) ≤ 1099511627776 := by omega
  have hE9 : (uoE M : Int) ≤ 100000 := by omega
  have HF := Lib.hid (And.intro fin1 (And.intro fin2 (And.intro hbad (And.intro hKK (And.intro hMM hEE)))))
  have H1 := Lib.hid A1
  have H2 := Lib.hid A2
  have H3 := Lib.hid A3
  clear A1 A2 A3
  obtain ⟨q11, q12, q13⟩ := q1
  clear fin1 fin2 hbad hKK hMM hEE q2 hs1 hs hk eB eK eI hEO
  rcases (by omega : kd = 1 ∨ kd = 2) with rfl | rfl
  · go_enter Tryd.func57, Tryd.ntmps57
    go_wp2_with fail
    go_at_call 96
    refine ((H1.out _ (by go_grown))).mono ?_
    rintro e w1 ⟨rfl, hw1⟩
    have cw1_0_0 : w1.cell? ⟨W.heap.size, 0, none⟩ = some (.int .i64 0) := cell_gr hw1 (by go_simp)
    have fw1_0_0 : w1.frozen? ⟨W.heap.size, 0, none⟩ = false := frozen_gr (v := .int .i64 0) hw1 (by go_simp) (by go_simp)
    have cw1_0_1 : w1.cell? ⟨W.heap.size, 1, none⟩ = some (.int .i64 0) := cell_gr hw1 (by go_simp)
    have fw1_0_1 : w1.frozen? ⟨W.heap.size, 1, none⟩ = false := frozen_gr (v := .int .i64 0) hw1 (by go_simp) (by go_simp)
    have cw1_0_2 : w1.cell? ⟨W.heap.size, 2, none⟩ = some (.int .i64 0) := cell_gr hw1 (by go_simp)
    have fw1_0_2 : w1.frozen? ⟨W.heap.size, 2, none⟩ = false := frozen_gr (v := .int .i64 0) hw1 (by go_simp) (by go_simp)
    have cw1_0_3 : w1.cell? ⟨W.heap.size, 3, none⟩ = some (.slice none 0 0) := cell_gr hw1 (by go_simp)
    have fw1_0_3 : w1.frozen? ⟨W.heap.size, 3, none⟩ = false := frozen_gr (v := .slice none 0 0) hw1 (by go_simp) (by go_simp)
    have zw1_0 : W.heap.size < w1.heap.size := World.block_lt_of_cell? _ _ cw1_0_0
    have gw1 : Gr W w1 := Gr.trans (by go_grown) hw1
    clear hw1
    go_wp2_with fail
    go_at_call 96
    refine ((H2.out _ gw1)).mono ?_
    rintro e w2 ⟨rfl, hw2⟩
    have cw2_0_0 : w2.cell? ⟨W.heap.size, 0, none⟩ = some (.int .i64 0) := cell_gr hw2 (by go_simp)
    have fw2_0_0 : w2.frozen? ⟨W.heap.size, 0, none⟩ = false := frozen_gr (v := .int .i64 0) hw2 (by go_simp) (by go_simp)
    have cw2_0_1 : w2.cell? ⟨W.heap.size, 1, none⟩ = some (.int .i64 0) := cell_gr hw2 (by go_simp)
    have fw2_0_1 : w2.frozen? ⟨W.heap.size, 1, none⟩ = false := frozen_gr (v := .int .i64 0) hw2 (by go_simp) (by go_simp)
    have cw2_0_2 : w2.cell? ⟨W.heap.size, 2, none⟩ = some (.int .i64 0) := cell_gr hw2 (by go_simp)
    have fw2_0_2 : w2.frozen? ⟨W.heap.size, 2, none⟩ = false := frozen_gr (v := .int .i64 0) hw2 (by go_simp) (by go_simp)
    have cw2_0_3 : w2.cell? ⟨W.heap.size, 3, none⟩ = some (.slice none 0 0) := cell_gr hw2 (by go_simp)
    have fw2_0_3 : w2.frozen? ⟨W.heap.size, 3, none⟩ = false := frozen_gr (v := .slice none 0 0) hw2 (by go_simp) (by go_simp)
    have zw2_0 : W.heap.size < w2.heap.size := World.block_lt_of_cell? _ _ cw2_0_0
    have gw2 : Gr W w2 := Gr.trans (by have gg := gw1; have gs := gg.size; go_grown) hw2
    clear hw2 gw1 zw1_0 cw1_0_0 fw1_0_0 cw1_0_1 fw1_0_1 cw1_0_2 fw1_0_2 cw1_0_3 fw1_0_3
    go_wp2_with fail
    have z2 := zw2_0
    go_at_call 51
    refine (H3.out _ (by have gg := gw2; have gs := gg.size; go_grown)).mono ?_
    rintro e w3 hU
    rcases hU with ⟨hb, rfl, g3⟩ | ⟨hok, v3, rfl, hP3, hN3, g3⟩
    · obtain ⟨f1, f2, f3, f4, f5, f6⟩ := HF.out
      have hb2 : bad = true := by rw [f3, hb]; rfl
      have HB := Lib.hid (And.intro hb2 f1)
      have y0 : w3.cell? ⟨W.heap.size, 0, none⟩ = some (.int .i64 0) := cell_gr g3 (by go_simp)
      have x0 : w3.frozen? ⟨W.heap.size, 0, none⟩ = false := frozen_gr (v := .int .i64 0) g3 (by go_simp) (by go_simp)
      have y1 : w3.cell? ⟨W.heap.size, 1, none⟩ = some (.int .i64 0) := cell_gr g3 (by go_simp)
      have x1 : w3.frozen? ⟨W.heap.size, 1, none⟩ = false := frozen_gr (v := .int .i64 0) g3 (by go_simp) (by go_simp)
      have y2 : w3.cell? ⟨W.heap.size, 2, none⟩ = some (.int .i64 0) := cell_gr g3 (by go_simp)
      have x2 : w3.frozen? ⟨W.heap.size, 2, none⟩ = false := frozen_gr (v := .int .i64 0) g3 (by go_simp) (by go_simp)
      have y3 : w3.cell? ⟨W.heap.size, 3, none⟩ = some (.slice none 0 0) := cell_gr g3 (by go_simp)
      have x3 : w3.frozen? ⟨W.heap.size, 3, none⟩ = false := frozen_gr (v := .slice none 0 0) g3 (by go_simp) (by go_simp)
      have zy := World.block_lt_of_cell? _ _ y0
      have b0 : w3.cell? ⟨w2.heap.size, 0, none⟩ = some (.int .i64 1) := cell_gr g3 (by go_simp)
      have d0 : w3.frozen? ⟨w2.heap.size, 0, none⟩ = false := frozen_gr (v := .int .i64 1) g3 (by go_simp) (by go_simp)
      have b1 : w3.cell? ⟨w2.heap.size, 1, none⟩ = some (.int .i64 i) := cell_gr g3 (by go_simp)
      have d1 : w3.frozen? ⟨w2.heap.size, 1, none⟩ = false := frozen_gr (v := .int .i64 i) g3 (by go_simp) (by go_simp)
      have b2 : w3.cell? ⟨w2.heap.size, 2, none⟩ = some (.int .i64 0) := cell_gr g3 (by go_simp)
      have d2 : w3.frozen? ⟨w2.heap.size, 2, none⟩ = false := frozen_gr (v := .int .i64 0) g3 (by go_simp) (by go_simp)
      have b3 : w3.cell? ⟨w2.heap.size, 3, none⟩ = some (.slice none 0 0) := cell_gr g3 (by go_simp)
      have d3 : w3.frozen? ⟨w2.heap.size, 3, none⟩ = false := frozen_gr (v := .slice none 0 0) g3 (by go_simp) (by go_simp)
      have zb := World.block_lt_of_cell? _ _ b0
      have G3 : Gr W w3 := Gr.trans (by have gg := gw2; have gs := gg.size; go_grown) g3
      clear f1 f2 f3 f4 f5 f6 hb hb2 HF g3 gw2 cw2_0_0 cw2_0_1 cw2_0_2 cw2_0_3 fw2_0_0 fw2_0_1 fw2_0_2 fw2_0_3 zw2_0
      go_wp2_with fail
      refine bodyPost_ret (v := .tuple #[.agg #[.int .i64 0, .int .i64 0, .int .i64 0, .slice none 0 0], .int .i64 0, .int .i64 10]) (by simp [results, Tryd.results57, go_sem, *]) rfl (HB.out.2 _ HB.out.1 (by have gg := G3; have gs := gg.size; go_grown))
    · obtain ⟨f1, f2, f3, f4, f5, f6⟩ := HF.out
      have f7 : bad = false := by rw [f3, hok]; rfl
      have g4 : ok = uoK M := f4
      have g5 : om = uoM M := f5
      have g6 : oe = p1 + p2 + uoE M := f6
      rw [g4, g5, g6, Int.natCast_add, Int.natCast_add] at f2
      have y0 : w3.cell? ⟨W.heap.size, 0, none⟩ = some (.int .i64 0) := cell_gr g3 (by go_simp)
      have x0 : w3.frozen? ⟨W.heap.size, 0, none⟩ = false := frozen_gr (v := .int .i64 0) g3 (by go_simp) (by go_simp)
      have y1 : w3.cell? ⟨W.heap.size, 1, none⟩ = some (.int .i64 0) := cell_gr g3 (by go_simp)
      have x1 : w3.frozen? ⟨W.heap.size, 1, none⟩ = false := frozen_gr (v := .int .i64 0) g3 (by go_simp) (by go_simp)
      have y2 : w3.cell? ⟨W.heap.size, 2, none⟩ = some (.int .i64 0) := cell_gr g3 (by go_simp)
      have x2 : w3.frozen? ⟨W.heap.size, 2, none⟩ = false := frozen_gr (v := .int .i64 0) g3 (by go_simp) (by go_simp)
      have y3 : w3.cell? ⟨W.heap.size, 3, none⟩ = some (.slice none 0 0) := cell_gr g3 (by go_simp)
      have x3 : w3.frozen? ⟨W.heap.size, 3, none⟩ = false := frozen_gr (v := .slice none 0 0) g3 (by go_simp) (by go_simp)
      have zy := World.block_lt_of_cell? _ _ y0
      have b0 : w3.cell? ⟨w2.heap.size, 0, none⟩ = some (.int .i64 1) := cell_gr g3 (by go_simp)
      have d0 : w3.frozen? ⟨w2.heap.size, 0, none⟩ = false := frozen_gr (v := .int .i64 1) g3 (by go_simp) (by go_simp)
      have b1 : w3.cell? ⟨w2.heap.size, 1, none⟩ = some (.int .i64 i) := cell_gr g3 (by go_simp)
      have d1 : w3.frozen? ⟨w2.heap.size, 1, none⟩ = false := frozen_gr (v := .int .i64 i) g3 (by go_simp) (by go_simp)
      have b2 : w3.cell? ⟨w2.heap.size, 2, none⟩ = some (.int .i64 0) := cell_gr g3 (by go_simp)
      have d2 : w3.frozen? ⟨w2.heap.size, 2, none⟩ = false := frozen_gr (v := .int .i64 0) g3 (by go_simp) (by go_simp)
      have b3 : w3.cell? ⟨w2.heap.size, 3, none⟩ = some (.slice none 0 0) := cell_gr g3 (by go_simp)
      have d3 : w3.frozen? ⟨w2.heap.size, 3, none⟩ = false := frozen_gr (v := .slice none 0 0) g3 (by go_simp) (by go_simp)
      have zb := World.block_lt_of_cell? _ _ b0
      have G3 : Gr W w3 := Gr.trans (by have gg := gw2; have gs := gg.size; go_grown) g3
      have hNW : ∀ (ad : Addr) (m c : Nat), v3 = .slice (some ad) m c → 0 < uoM M → ¬ (fun k => k = W.heap.size ∨ k = w2.heap.size) ad.block := fun ad m c e _ => by
        have := hN3 ad m c e
        simp at this
        show ¬ (ad.block = W.heap.size ∨ ad.block = w2.heap.size)
        omega
      have HP3 := Lib.hid (And.intro hP3 hNW)
      have HB := Lib.hid (And.intro f7 f2)
      obtain ⟨ad3, cap3, _, _, rfl, _⟩ := hP3
      generalize uoX M = X3 at *
      generalize uoY M = Y3 at *
      generalize uoM M = m3 at *
      generalize uoK M = k3 at *
      generalize uoE M = n3 at *
      clear f1 f2 f3 f4 f5 f6 f7 g4 g5 g6 hok HF hN3 hNW g3 gw2 cw2_0_0 cw2_0_1 cw2_0_2 cw2_0_3 fw2_0_0 fw2_0_1 fw2_0_2 fw2_0_3 zw2_0
      go_upto_region 11 with fail
      obtain ⟨w4, hw4⟩ : ∃ w, w = w3.alloc (.cells #[.int .i64 k3, .slice ad3 m3 cap3] 53) := ⟨_, rfl⟩
      rw [← hw4]
      have g34 : Gr w3 w4 := by subst hw4; go_grown
      have o0 : w4.cell? ⟨w3.heap.size, 0, none⟩ = some (.int .i64 k3) := by subst hw4; go_simp
      have o1 : w4.cell? ⟨w3.heap.size, 1, none⟩ = some (.slice ad3 m3 cap3) := by subst hw4; go_simp
      have K34 := Lib.hid (Kx.of_gr (S := fun k => k = W.heap.size ∨ k = w2.heap.size) g34)
      have G4 := Gr.trans G3 g34
      have zo := World.block_lt_of_cell? _ _ o0
      have Y0 := cell_gr g34 y0
      have X0 := frozen_gr g34 y0 x0
      have B0 := cell_gr g34 b0
      have D0 := frozen_gr g34 b0 d0
      have Y1 := cell_gr g34 y1
      have X1 := frozen_gr g34 y1 x1
      have B1 := cell_gr g34 b1
      have D1 := frozen_gr g34 b1 d1
      have Y2 := cell_gr g34 y2
      have X2 := frozen_gr g34 y2 x2
      have B2 := cell_gr g34 b2
      have D2 := frozen_gr g34 b2 d2
      have Y3 := cell_gr g34 y3
      have X3 := frozen_gr g34 y3 x3
      have B3 := cell_gr g34 b3
      have D3 := frozen_gr g34 b3 d3
      have zY := World.block_lt_of_cell? _ _ Y0
      have zB := World.block_lt_of_cell? _ _ B0
      clear hw4 g34 G3 y0 x0 b0 d0 y1 x1 b1 d1 y2 x2 b2 d2 y3 x3 b3 d3
      go_wp2_with fail
      refine bodyPost_ret (v := .tuple #[.agg #[.int .i64 1, .int .i64 i, .int .i64 k3, .slice ad3 m3 cap3], .int .i64 ((p1 : Int) + (p2 : Int) + (n3 : Int)), .int .i64 0]) (by simp [results, Tryd.results57, go_sem, *]) rfl (HB.out.2 _ _ HB.out.1 (pts_kx HP3.out.1 (S := fun k => k = W.heap.size ∨ k = w2.heap.size) ?_ HP3.out.2) (by have gg := G4; have gs := gg.size; go_grown))
      exact ((((((K34.out).setCell (p := ⟨w2.heap.size, 2, none⟩) (Or.inr rfl) _).setCell (p := ⟨w2.heap.size, 3, none⟩) (Or.inr rfl) _).setCell (p := ⟨W.heap.size, 0, none⟩) (Or.inl rfl) _).setCell (p := ⟨W.heap.size, 1, none⟩) (Or.inl rfl) _).setCell (p := ⟨W.heap.size, 2, none⟩) (Or.inl rfl) _).setCell (p := ⟨W.heap.size, 3, none⟩) (Or.inl rfl) _
  · go_enter Tryd.func57, Tryd.ntmps57
    go_wp2_with fail
    go_at_call 96
    refine ((H1.out _ (by go_grown))).mono ?_
    rintro e w1 ⟨rfl, hw1⟩
    have cw1_0_0 : w1.cell? ⟨W.heap.size, 0, none⟩ = some (.int .i64 0) := cell_gr hw1 (by go_simp)
    have fw1_0_0 : w1.frozen? ⟨W.heap.size, 0, none⟩ = false := frozen_gr (v := .int .i64 0) hw1 (by go_simp) (by go_simp)
    have cw1_0_1 : w1.cell? ⟨W.heap.size, 1, none⟩ = some (.int .i64 0) := cell_gr hw1 (by go_simp)
    have fw1_0_1 : w1.frozen? ⟨W.heap.size, 1, none⟩ = false := frozen_gr (v := .int .i64 0) hw1 (by go_simp) (by go_simp)
    have cw1_0_2 : w1.cell? ⟨W.heap.size, 2, none⟩ = some (.int .i64 0) := cell_gr hw1 (by go_simp)
    have fw1_0_2 : w1.frozen? ⟨W.heap.size, 2, none⟩ = false := frozen_gr (v := .int .i64 0) hw1 (by go_simp) (by go_simp)
    have cw1_0_3 : w1.cell? ⟨W.heap.size, 3, none⟩ = some (.slice none 0 0) := cell_gr hw1 (by go_simp)
    have fw1_0_3 : w1.frozen? ⟨W.heap.size, 3, none⟩ = false := frozen_gr (v := .slice none 0 0) hw1 (by go_simp) (by go_simp)
    have zw1_0 : W.heap.size < w1.heap.size := World.block_lt_of_cell? _ _ cw1_0_0
    have gw1 : Gr W w1 := Gr.trans (by go_grown) hw1
    clear hw1
    go_wp2_with fail
    go_at_call 96
    refine ((H2.out _ gw1)).mono ?_
    rintro e w2 ⟨rfl, hw2⟩
    have cw2_0_0 : w2.cell? ⟨W.heap.size, 0, none⟩ = some (.int .i64 0) := cell_gr hw2 (by go_simp)
    have fw2_0_0 : w2.frozen? ⟨W.heap.size, 0, none⟩ = false := frozen_gr (v := .int .i64 0) hw2 (by go_simp) (by go_simp)
    have cw2_0_1 : w2.cell? ⟨W.heap.size, 1, none⟩ = some (.int .i64 0) := cell_gr hw2 (by go_simp)
    have fw2_0_1 : w2.frozen? ⟨W.heap.size, 1, none⟩ = false := frozen_gr (v := .int .i64 0) hw2 (by go_simp) (by go_simp)
    have cw2_0_2 : w2.cell? ⟨W.heap.size, 2, none⟩ = some (.int .i64 0) := cell_gr hw2 (by go_simp)
    have fw2_0_2 : w2.frozen? ⟨W.heap.size, 2, none⟩ = false := frozen_gr (v := .int .i64 0) hw2 (by go_simp) (by go_simp)
    have cw2_0_3 : w2.cell? ⟨W.heap.size, 3, none⟩ = some (.slice none 0 0) := cell_gr hw2 (by go_simp)
    have fw2_0_3 : w2.frozen? ⟨W.heap.size, 3, none⟩ = false := frozen_gr (v := .slice none 0 0) hw2 (by go_simp) (by go_simp)
    have zw2_0 : W.heap.size < w2.heap.size := World.block_lt_of_cell? _ _ cw2_0_0
    have gw2 : Gr W w2 := Gr.trans (by have gg := gw1; have gs := gg.size; go_grown) hw2
    clear hw2 gw1 zw1_0 cw1_0_0 fw1_0_0 cw1_0_1 fw1_0_1 cw1_0_2 fw1_0_2 cw1_0_3 fw1_0_3
    go_wp2_with fail
    obtain ⟨f1, f2, f3, f4, f5, f6⟩ := HF.out
    have g4 : ok = 0 := f4
    have g5 : om = 0 := f5
    have g6 : oe = p1 + p2 := f6
    have g3 : bad = false := f3
    rw [g4, g5, g6, Int.natCast_add] at f2
    refine bodyPost_ret (v := .tuple #[.agg #[.int .i64 2, .int .i64 i, .int .i64 0, .slice none 0 0], .int .i64 ((p1 : Int) + (p2 : Int)), .int .i64 0]) (by simp [results, Tryd.results57, go_sem, *]) rfl (f2 (.slice none 0 0) _ g3 ⟨none, 0, 0, 0, rfl, Nat.le_refl _, by decide, fun h => absurd h (by omega), fun k h => absurd h (by omega)⟩ (by have gg := gw2; have gs := gg.size; go_grown))
theorem c_rUnchange {L : List UInt8} {v : Value} (W : World) (h : Row W v L) (hl : L.length ≤ 100000) :
    Calls Tryd.prog 57 #[v] W (RUcTo W L) := by
  by_cases h1 : ucS1 L = true ∨ ucK1 L = 0
  · exact ruc_1 W h hl h1
  · have a : ucS1 L = false := by
      cases e : ucS1 L
      · rfl
      · exact absurd (Or.inl e) h1
    have b : ucK1 L ≠ 0 := fun e => h1 (Or.inr e)
    cases h2 : ucS2 L
    · exact ruc_3 W h hl a b h2
    · exact ruc_2 W h hl a b h2
end Go.Proofs.YtkodmfkchbbmiaaDoor
