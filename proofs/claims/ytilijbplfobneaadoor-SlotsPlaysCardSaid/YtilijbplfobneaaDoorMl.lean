/- the document's page: trim, Delete, NewPage, Slots -/
import Derived.Test.YtilijbplfobneaaDoorMk
namespace Go.Proofs.YtilijbplfobneaaDoor
set_option linter.unusedVariables false
set_option linter.unusedSimpArgs false
open Go.ChangeShapes Go.WideShapes Go.ChangeAt Go.RowKit

section
variable {base q : Nat} {W : World} {Z : Nat → Prop} {kd id : Int} {bv hv : Value} {xs : List Value}
theorem hasV_get (S : List Sl) (j : Nat) (h : j < S.length) : (hasV S)[j]? = some (.bool (S.getD j none).isSome) := by
  rw [List.getElem?_map, List.getElem?_eq_getElem h, getD_lt S h]; rfl
theorem tr_facts {i j : Nat} (h : i = j + 1) (h60 : i ≤ 60) : wrap64 ((i : Int) - 1) = (j : Int) ∧ IntKind.i64.wrap ((i : Int) - 1) = (j : Int) := by
  have e : (i : Int) - 1 = (j : Int) := by omega
  rw [e]
  exact ⟨wr_small (by omega), wk_small (by omega)⟩
set_option maxHeartbeats 4000000 in
set_option maxRecDepth 100000 in
theorem r_trim (S1 : List Sl) (len D E hc bc : Nat) (hl : S1.length = len) (h60 : len ≤ 60) (w : World) (h0 : RefR base W w q Z kd id len (hasV S1) len xs (fun j => S1.getD j none) (.slice (some ⟨E, 0, none⟩) len bc) (.slice (some ⟨D, 0, none⟩) len hc)) :
    Calls Tryd.prog 51 #[.pointer (some ⟨q, 0, none⟩)] w fun e w' => e = .returned (.tuple #[]) ∧ RefTo base W q Z kd id (S1.take (lastN S1 len)) w' := by
  have hcm : len ≤ hc ∧ (hc : Int) ≤ 9223372036854775807 := by
    obtain ⟨_, _, _, e, _, a, b, _⟩ := rowF h0.has
    simp only [Value.slice.injEq] at e
    obtain ⟨-, -, rfl⟩ := e
    exact ⟨a, b⟩
  have bcm : len ≤ bc ∧ (bc : Int) ≤ 9223372036854775807 := by
    obtain ⟨_, _, _, e, _, a, b, _⟩ := rowF h0.row
    simp only [Value.slice.injEq] at e
    obtain ⟨-, -, rfl⟩ := e
    exact ⟨a, b⟩
  have hlc := hcm.1
  have blc := bcm.1
  have HL := Lib.hid hl
  have H0 : Hid (∃ xs, RefR base W w q Z kd id len ((hasV S1).take len) len xs (fun j => S1.getD j none) (.slice (some ⟨E, 0, none⟩) len bc) (.slice (some ⟨D, 0, none⟩) len hc)) := Lib.hid ⟨xs, by rw [List.take_of_length_le (by simp [hl])]; exact h0⟩
  have hcm2 := hcm.2
  have bcm2 := bcm.2
  clear h0 hl hcm bcm
  go_enter Tryd.func51, Tryd.ntmps51
  go_wp2_with fail
  go_loopg [] len (fun k wr => ∃ i : Nat, i ≤ len ∧ k = i ∧ Hid (lastN S1 len = lastN S1 i) ∧ Hid (∃ xs, RefR base W wr q Z kd id i ((hasV S1).take i) i xs (fun j => S1.getD j none) (.slice (some ⟨E, 0, none⟩) i bc) (.slice (some ⟨D, 0, none⟩) i hc)))
  case atStart => exact ⟨len, Nat.le_refl _, rfl, Lib.hid rfl, H0⟩
  case round =>
    obtain ⟨i, hi, hk, HE, HR⟩ := hrel
    obtain ⟨xs, h⟩ := HR.out
    obtain ⟨c2, c3, f2, f3⟩ := refR_cells h
    have sq := refR_q h
    by_cases e0 : i = 0
    · subst e0
      have HT : Hid (RefTo base W q Z kd id (S1.take (lastN S1 len)) wr) := Lib.hid (by
        have e : lastN S1 len = 0 := by rw [HE.out]; rfl
        rw [e]
        exact refR_to h (by simp) (by omega) (by simp) (fun j hj => by omega))
      have HX := Lib.hid h
      clear h HR
      go_wp2_with fail
      try simp only [List.append]
      refine Od.wp_region_ord [(0, false), (1, false), (2, false), (3, false), (4, false), (5, false), (6, false), (7, false), (8, false), (9, false), (10, false), (11, false), (12, false), (13, false), (14, false), (15, false), (16, false), (17, false), (18, false), (19, false), (20, false)] (by kernel_rfl) (by kernel_rfl) ?_
      intro wa hwa KQ hKQ
      have cwa_0_0 : wa.cell? ⟨q, 2, none⟩ = some (.slice (some ⟨E, 0, none⟩) 0 bc) := cell_gr hwa (by go_simp)
      have cwa_0_1 : wa.cell? ⟨q, 3, none⟩ = some (.slice (some ⟨D, 0, none⟩) 0 hc) := cell_gr hwa (by go_simp)
      have zwa_0 : q < wa.heap.size := World.block_lt_of_cell? _ _ cwa_0_0
      have gwa : Gr wr wa := Gr.trans (by go_grown) hwa
      skip
      clear hwa
      repeat (first | (refine Od.wpO_skip (by simp only [List.getElem?_toArray, List.getElem?_cons_succ, List.getElem?_cons_zero] <;> rfl) rfl ?_; simp only [Act.put, List.setIfInBounds_toArray, List.set_cons_zero, List.set_cons_succ]) | (refine Od.wpO_pure (by simp only [List.getElem?_toArray, List.getElem?_cons_succ, List.getElem?_cons_zero] <;> rfl) rfl ?_; apply Exists.intro; refine ⟨?_, ?_⟩; (· intro wx gx; obtain ⟨mx, rfl⟩ := spread_of_gr gx; clear gx; all_goals (apply Od.pAt_of_quiet; intro K hK; go_big_quiet_op; first | exact hK _ rfl | (apply Exists.intro; refine ⟨fun _ => ?_, ?_⟩; (· fail); exact hK _ rfl))); try simp only [Act.put, List.setIfInBounds_toArray, List.set_cons_zero, List.set_cons_succ]))
      refine Od.wpO_nil (hKQ _ _ ?_)
      clear hKQ KQ
      go_wp2_with fail
      go_end0
      obtain ⟨⟨b1, b2, b3, hp⟩, T, t1, t2, t3⟩ := HT.out
      exact ⟨rfl, ⟨b1, b2, b3, refP_gr hp gwa⟩, T, t1.trans (Kx.of_gr gwa), t2, t3⟩
    · obtain ⟨j, hij⟩ : ∃ j, i = j + 1 := ⟨i - 1, by omega⟩
      have t0 : decide ((0 : Int) < (i : Int)) = true := decide_eq_true (by omega)
      have t0b : (0 : Int) < (i : Int) := by omega
      have t0c : decide (0 < i) = true := decide_eq_true (by omega)
      have t0d : 0 < i := by omega
      have tj : (j : Int) < (i : Int) := by omega
      have tj0 : (0 : Int) ≤ (j : Int) := by omega
      have tjh : (j : Int) ≤ (hc : Int) := by omega
      have tjb : (j : Int) ≤ (bc : Int) := by omega
      have hji : j ≤ i := by omega
      have hjl : j ≤ len := by omega
      have hjk : j < gk := by omega
      have hd := h.has.cellAt j (by omega)
      rw [List.getElem?_take, if_pos (by omega), hasV_get S1 j (by rw [HL.out]; omega)] at hd
      have sD := (World.ownsRow.lt h.has D rfl).2
      obtain ⟨f1, f4⟩ := tr_facts hij (by omega)
      have HJ : Hid (lastN S1 i = if (S1.getD j none).isSome then j + 1 else lastN S1 j) := Lib.hid (by rw [hij]; rfl)
      have HIJ := Lib.hid hij
      have HX := Lib.hid h
      clear h HR hij hk
      cases hb : (S1.getD j none).isSome with
      | true =>
        rw [hb] at hd HJ
        have HT : Hid (RefTo base W q Z kd id (S1.take (lastN S1 len)) wr) := Lib.hid (by
          have e : lastN S1 len = i := by rw [HE.out, HJ.out, HIJ.out]; rfl
          rw [e]
          refine refR_to HX.out (by rw [List.length_take, HL.out]; exact Nat.min_eq_left hi) (Nat.le_trans hi h60) (by rw [← List.map_take]) (fun k hk => ?_)
          rw [getD_take, if_pos hk])
        clear f2 f3 hb
        go_wp2_with fail
        try simp only [List.append]
        refine Od.wp_region_ord [(0, false), (1, false), (2, false), (3, false), (4, false), (5, false), (6, false), (7, false), (8, false), (9, false), (10, false), (11, false), (12, false), (13, false), (14, false), (15, false), (16, false), (17, false), (18, false), (19, false), (20, false)] (by kernel_rfl) (by kernel_rfl) ?_
        intro wa hwa KQ hKQ
        have cwa_0_0 : wa.cell? ⟨q, 2, none⟩ = some (.slice (some ⟨E, 0, none⟩) i bc) := cell_gr hwa (by go_simp)
        have cwa_0_1 : wa.cell? ⟨q, 3, none⟩ = some (.slice (some ⟨D, 0, none⟩) i hc) := cell_gr hwa (by go_simp)
        have zwa_0 : q < wa.heap.size := World.block_lt_of_cell? _ _ cwa_0_0
        have cwa_1_0 : wa.cell? ⟨D, j, none⟩ = some (.bool true) := cell_gr hwa (by go_simp)
        have zwa_1 : D < wa.heap.size := World.block_lt_of_cell? _ _ cwa_1_0
        have gwa : Gr wr wa := Gr.trans (by go_grown) hwa
        skip
        clear hwa
        repeat (first | (refine Od.wpO_skip (by simp only [List.getElem?_toArray, List.getElem?_cons_succ, List.getElem?_cons_zero] <;> rfl) rfl ?_; simp only [Act.put, List.setIfInBounds_toArray, List.set_cons_zero, List.set_cons_succ]) | (refine Od.wpO_pure (by simp only [List.getElem?_toArray, List.getElem?_cons_succ, List.getElem?_cons_zero] <;> rfl) rfl ?_; apply Exists.intro; refine ⟨?_, ?_⟩; (· intro wx gx; obtain ⟨mx, rfl⟩ := spread_of_gr gx; clear gx; all_goals (apply Od.pAt_of_quiet; intro K hK; go_big_quiet_op; first | exact hK _ rfl | (apply Exists.intro; refine ⟨fun _ => ?_, ?_⟩; (· fail); exact hK _ rfl))); try simp only [Act.put, List.setIfInBounds_toArray, List.set_cons_zero, List.set_cons_succ]))
        refine Od.wpO_nil (hKQ _ _ ?_)
        clear hKQ KQ
        go_wp2_with fail
        go_end0
        obtain ⟨⟨b1, b2, b3, hp⟩, T, t1, t2, t3⟩ := HT.out
        exact ⟨rfl, ⟨b1, b2, b3, refP_gr hp gwa⟩, T, t1.trans (Kx.of_gr gwa), t2, t3⟩
      | false =>
        rw [hb] at hd HJ
        have HE2 : Hid (lastN S1 len = lastN S1 j) := Lib.hid (by rw [HE.out, HJ.out]; rfl)
        clear f2 f3 hb HE HJ
        go_wp2_with fail
        try simp only [List.append]
        refine Od.wp_region_ord [(0, false), (1, false), (2, false), (3, false), (4, false), (5, false), (6, false), (7, false), (8, false), (9, false), (10, false), (11, false), (12, false), (13, false), (14, false), (15, false), (16, false), (17, false), (18, false), (19, false), (20, false)] (by kernel_rfl) (by kernel_rfl) ?_
        intro wa hwa KQ hKQ
        have cwa_0_0 : wa.cell? ⟨q, 2, none⟩ = some (.slice (some ⟨E, 0, none⟩) i bc) := cell_gr hwa (by go_simp)
        have cwa_0_1 : wa.cell? ⟨q, 3, none⟩ = some (.slice (some ⟨D, 0, none⟩) i hc) := cell_gr hwa (by go_simp)
        have zwa_0 : q < wa.heap.size := World.block_lt_of_cell? _ _ cwa_0_0
        have cwa_1_0 : wa.cell? ⟨D, j, none⟩ = some (.bool false) := cell_gr hwa (by go_simp)
        have zwa_1 : D < wa.heap.size := World.block_lt_of_cell? _ _ cwa_1_0
        have gwa : Gr wr wa := Gr.trans (by go_grown) hwa
        skip
        clear hwa
        repeat (first | (refine Od.wpO_skip (by simp only [List.getElem?_toArray, List.getElem?_cons_succ, List.getElem?_cons_zero] <;> rfl) rfl ?_; simp only [Act.put, List.setIfInBounds_toArray, List.set_cons_zero, List.set_cons_succ]) | (refine Od.wpO_pure (by simp only [List.getElem?_toArray, List.getElem?_cons_succ, List.getElem?_cons_zero] <;> rfl) rfl ?_; apply Exists.intro; refine ⟨?_, ?_⟩; (· intro wx gx; obtain ⟨mx, rfl⟩ := spread_of_gr gx; clear gx; all_goals (apply Od.pAt_of_quiet; intro K hK; go_big_quiet_op; first | exact hK _ rfl | (apply Exists.intro; refine ⟨fun _ => ?_, ?_⟩; (· fail); exact hK _ rfl))); try simp only [Act.put, List.setIfInBounds_toArray, List.set_cons_zero, List.set_cons_succ]))
        refine Od.wpO_nil (hKQ _ _ ?_)
        clear hKQ KQ
        go_wp2_with fail
        go_wp2_with fail
        try simp only [List.append]
        refine Od.wp_region_ordT 14 [(0, false), (1, false), (2, false), (3, false), (4, false), (5, false), (6, false), (7, false), (8, false), (9, false), (10, false), (11, false), (12, false), (13, false)] (by kernel_rfl) (by kernel_rfl) ?_
        intro wb hwb KQ hKQ
        have cwb_0_0 : wb.cell? ⟨q, 2, none⟩ = some (.slice (some ⟨E, 0, none⟩) i bc) := cell_gr hwb (by go_simp)
        have cwb_0_1 : wb.cell? ⟨q, 3, none⟩ = some (.slice (some ⟨D, 0, none⟩) i hc) := cell_gr hwb (by go_simp)
        have zwb_0 : q < wb.heap.size := World.block_lt_of_cell? _ _ cwb_0_0
        have gwb : Gr wr wb := Gr.trans (by have gg := gwa; have gs := gg.size; go_grown) hwb
        clear gwa zwa_0 cwa_0_0 cwa_0_1 zwa_1 cwa_1_0
        clear hwb
        repeat (first | (refine Od.wpO_skip (by simp only [List.getElem?_toArray, List.getElem?_cons_succ, List.getElem?_cons_zero] <;> rfl) rfl ?_; simp only [Act.put, List.setIfInBounds_toArray, List.set_cons_zero, List.set_cons_succ]) | (refine Od.wpO_pure (by simp only [List.getElem?_toArray, List.getElem?_cons_succ, List.getElem?_cons_zero] <;> rfl) rfl ?_; apply Exists.intro; refine ⟨?_, ?_⟩; (· intro wx gx; obtain ⟨mx, rfl⟩ := spread_of_gr gx; clear gx; all_goals (apply Od.pAt_of_quiet; intro K hK; go_big_quiet_op; first | exact hK _ rfl | (apply Exists.intro; refine ⟨fun _ => ?_, ?_⟩; (· fail); exact hK _ rfl))); try simp only [Act.put, List.setIfInBounds_toArray, List.set_cons_zero, List.set_cons_succ]))
        refine Od.wpO_nil (hKQ _ _ ?_)
        clear hKQ KQ
        have hb1 := refR_gr HX.out gwb
        have fb3 := (refR_cells hb1).2.2.2
        have hb2 := refR_cutH (n' := j) hji hb1
        rw [List.take_take, Nat.min_eq_left hji] at hb2
        have Hb2 := Lib.hid hb2
        have x2 := (refR_cells hb2).1
        have x3 := (refR_cells hb2).2.1
        have x5 := refR_q hb2
        clear hb1 hb2 HX
        go_wp2_with fail
        generalize wb.setCell ⟨q, 3, none⟩ (.slice (some ⟨D, 0, none⟩) j hc) = w3 at Hb2 x2 x3 x5 ⊢
        go_wp2_with fail
        try simp only [List.append]
        refine Od.wp_region_ordT 14 [(0, false), (1, false), (2, false), (3, false), (4, false), (5, false), (6, false), (7, false), (8, false), (9, false), (10, false), (11, false), (12, false), (13, false)] (by kernel_rfl) (by kernel_rfl) ?_
        intro wc hwc KQ hKQ
        have cwc_0_0 : wc.cell? ⟨q, 2, none⟩ = some (.slice (some ⟨E, 0, none⟩) i bc) := cell_gr hwc (by go_simp)
        have cwc_0_1 : wc.cell? ⟨q, 3, none⟩ = some (.slice (some ⟨D, 0, none⟩) j hc) := cell_gr hwc (by go_simp)
        have zwc_0 : q < wc.heap.size := World.block_lt_of_cell? _ _ cwc_0_0
        have gwc : Gr w3 wc := Gr.trans (by go_grown) hwc
        skip
        clear hwc
        repeat (first | (refine Od.wpO_skip (by simp only [List.getElem?_toArray, List.getElem?_cons_succ, List.getElem?_cons_zero] <;> rfl) rfl ?_; simp only [Act.put, List.setIfInBounds_toArray, List.set_cons_zero, List.set_cons_succ]) | (refine Od.wpO_pure (by simp only [List.getElem?_toArray, List.getElem?_cons_succ, List.getElem?_cons_zero] <;> rfl) rfl ?_; apply Exists.intro; refine ⟨?_, ?_⟩; (· intro wx gx; obtain ⟨mx, rfl⟩ := spread_of_gr gx; clear gx; all_goals (apply Od.pAt_of_quiet; intro K hK; go_big_quiet_op; first | exact hK _ rfl | (apply Exists.intro; refine ⟨fun _ => ?_, ?_⟩; (· fail); exact hK _ rfl))); try simp only [Act.put, List.setIfInBounds_toArray, List.set_cons_zero, List.set_cons_succ]))
        refine Od.wpO_nil (hKQ _ _ ?_)
        clear hKQ KQ
        have hc1 := refR_gr Hb2.out gwc
        have fc2 := (refR_cells hc1).2.2.1
        have hc2 := refR_cutB (m' := j) hji hc1
        have Hc2 := Lib.hid hc2
        clear hc1 hc2 Hb2
        go_wp2_with fail
        go_roundg j
        case measure => omega
        case rel => exact ⟨j, hjl, rfl, HE2, Lib.hid ⟨_, Hc2.out⟩⟩
end
end Go.Proofs.YtilijbplfobneaaDoor
