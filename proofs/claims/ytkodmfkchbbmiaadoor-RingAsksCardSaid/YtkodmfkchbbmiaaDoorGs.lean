/- the document's edge, has, area -/
import Derived.Test.YtkodmfkchbbmiaaDoorGe
import Derived.Test.YtkodmfkchbbmiaaDoorGr
import Derived.Test.YtkodmfkchbbmiaaDoorOd
namespace Go.Proofs.YtkodmfkchbbmiaaDoor
set_option linter.unusedVariables false
set_option linter.unusedSimpArgs false
open Go.ChangeShapes Go.WideShapes Go.ChangeAt Go.RowKit

theorem nx_lt {n i : Nat} (h : i < n) : Rg.nx1 n i < n := by unfold Rg.nx1; split <;> omega
set_option maxHeartbeats 4000000 in
set_option maxRecDepth 100000 in
theorem c_redge {n : Nat} {X Y : Nat → Int} {v : Value} (W : World) (h : Pts W v n X Y) (hn : n ≤ 1000) (px py : Int) : Calls Tryd.prog 71 #[v, .agg #[.int .i64 px, .int .i64 py]] W fun e w' => e = .returned (.bool (Rg.onN n X Y px py n)) ∧ Gr W w' := by
  obtain ⟨ad, cap, B, off, rfl, h1, h2, h3, h4⟩ := h
  have H3 := Lib.hid h3
  have H4 := Lib.hid h4
  have hn9 : (n : Int) ≤ 1000 := by omega
  clear h3 h4
  go_enter Tryd.func71, Tryd.ntmps71
  go_wp2_with fail
  go_loopg [5] n (fun k u wr => ∃ i : Nat, u = .int .i64 i ∧ i ≤ n ∧ k = n - i ∧ Rg.onN n X Y px py i = false ∧ wr.cell? ⟨W.heap.size, 0, none⟩ = some (.int .i64 px) ∧ wr.cell? ⟨W.heap.size, 1, none⟩ = some (.int .i64 py) ∧ Gr W wr)
  case atStart => exact ⟨0, rfl, Nat.zero_le _, by omega, rfl, by go_simp, by go_simp, by go_grown⟩
  case round =>
    obtain ⟨i, rfl, hi, hk, ho, c0, c1, gwr⟩ := hrel
    have zp : W.heap.size < wr.heap.size := World.block_lt_of_cell? _ _ c0
    have HO := Lib.hid ho
    clear ho
    by_cases hlt : i < n
    · have ti : decide ((i : Int) < (n : Int)) = true := decide_eq_true (by omega)
      have ti2 : decide (i < n) = true := decide_eq_true hlt
      have hii : (i : Int) ≤ 1000 := by omega
      have hmm : n - (i + 1) < gk := by omega
      have hnx := nx_lt hlt
      obtain ⟨k0, k1⟩ := H4.out i hlt
      obtain ⟨m0, m1⟩ := H4.out _ hnx
      obtain rfl := H3.out (by omega)
      have s0 := cell_gr gwr k0
      have s1 := cell_gr gwr k1
      have r0 := cell_gr gwr m0
      have r1 := cell_gr gwr m1
      have zB : B < wr.heap.size := World.block_lt_of_cell? _ _ s0
      have hrem := nx_rem hlt (by omega : n ≤ 1000000)
      have CO := c_rOn (X i) (Y i) (X (Rg.nx1 n i)) (Y (Rg.nx1 n i)) px py
      have EO : Rg.onN n X Y px py (i + 1) = (Rg.onN n X Y px py i || onG (X i) (Y i) (X (Rg.nx1 n i)) (Y (Rg.nx1 n i)) px py) := rfl
      rw [HO.out, Bool.false_or] at EO
      have EM : Rg.onN n X Y px py (i + 1) = true → Rg.onN n X Y px py n = true := fun h => by
        obtain ⟨j, hj, hh⟩ := (Rg.onN_iff _).1 h
        exact (Rg.onN_iff _).2 ⟨j, by omega, hh⟩
      have HEM := Lib.hid EM
      generalize X (Rg.nx1 n i) = xj at *
      generalize Y (Rg.nx1 n i) = yj at *
      generalize X i = xi at *
      generalize Y i = yi at *
      generalize Rg.nx1 n i = j at *
      generalize onG xi yi xj yj px py = og at CO EO
      have HCO := Lib.hid CO
      have HEO := Lib.hid EO
      have hj9 : (j : Int) ≤ 1000 := by omega
      have tj : decide ((j : Int) < (n : Int)) = true := decide_eq_true (by omega)
      have tj3 : (j : Int) < (n : Int) := by omega
      have ti3 : (i : Int) < (n : Int) := by omega
      have nz : ((n : Int) == 0) = false := by simp; omega
      have nz2 : (n : Int) ≠ 0 := by omega
      have nz3 : (0 : Int) < n := by omega
      have q1 := hrem.1
      have q2 := hrem.2
      have w1 : IntKind.i64.wrap ((i : Int) + 1) = (i : Int) + 1 := IntWalk.i64_in _ (by omega)
      have w2 : IntKind.i64.wrap (j : Int) = (j : Int) := IntWalk.i64_in _ (by omega)
      clear EM CO EO k0 k1 m0 m1 hk hrem
      go_wp2_with fail
      try simp only [List.append]
      refine Od.wp_region_ord [(0, false), (1, false), (2, false), (3, false), (4, false), (5, false), (6, false), (7, false), (8, false), (9, false), (10, false), (11, false), (12, false), (13, true)] (by kernel_rfl) (by kernel_rfl) ?_
      intro wa hwa KQ hKQ
      have cwa_0_0 : wa.cell? ⟨W.heap.size, 0, none⟩ = some (.int .i64 px) := cell_gr hwa (by go_simp)
      have cwa_0_1 : wa.cell? ⟨W.heap.size, 1, none⟩ = some (.int .i64 py) := cell_gr hwa (by go_simp)
      have zwa_0 : W.heap.size < wa.heap.size := World.block_lt_of_cell? _ _ cwa_0_0
      have cwa_1_0 : wa.cell? ⟨B, off + i * 2, none⟩ = some (.int .i64 xi) := cell_gr hwa (by go_simp)
      have cwa_1_1 : wa.cell? ⟨B, off + i * 2 + 1, none⟩ = some (.int .i64 yi) := cell_gr hwa (by go_simp)
      have cwa_1_2 : wa.cell? ⟨B, off + j * 2, none⟩ = some (.int .i64 xj) := cell_gr hwa (by go_simp)
      have cwa_1_3 : wa.cell? ⟨B, off + j * 2 + 1, none⟩ = some (.int .i64 yj) := cell_gr hwa (by go_simp)
      have zwa_1 : B < wa.heap.size := World.block_lt_of_cell? _ _ cwa_1_0
      have gwa : Gr W wa := Gr.trans (by have gg := gwr; have gs := gg.size; go_grown) hwa
      clear gwr
      clear hwa
      repeat (first | (refine Od.wpO_skip (by simp only [List.getElem?_toArray, List.getElem?_cons_succ, List.getElem?_cons_zero] <;> rfl) rfl ?_; simp only [Act.put, List.setIfInBounds_toArray, List.set_cons_zero, List.set_cons_succ]) | (refine Od.wpO_pure (by simp only [List.getElem?_toArray, List.getElem?_cons_succ, List.getElem?_cons_zero] <;> rfl) rfl ?_; apply Exists.intro; refine ⟨?_, ?_⟩; (· intro wx gx; obtain ⟨mx, rfl⟩ := spread_of_gr gx; clear gx; all_goals (apply Od.pAt_of_quiet; intro K hK; go_big_quiet_op; first | exact hK _ rfl | (apply Exists.intro; refine ⟨fun _ => ?_, ?_⟩; (· fail); exact hK _ rfl))); try simp only [Act.put, List.setIfInBounds_toArray, List.set_cons_zero, List.set_cons_succ]))
      refine Od.wpO_call (by simp only [List.getElem?_toArray, List.getElem?_cons_succ, List.getElem?_cons_zero] <;> rfl) rfl ?_
      intro QS hQS
      go_wp2_with fail
      go_at_call 115
      (with_reducible refine ((HCO.out _)).mono ?_)
      rintro e wb ⟨rfl, hwb⟩
      go_wp2_with fail
      apply Exists.intro
      refine ⟨?_, hwb, ?_⟩
      · simp only [Act.put, List.setIfInBounds_toArray, List.set_cons_zero, List.set_cons_succ]; rfl
      have cwb_0_0 : wb.cell? ⟨W.heap.size, 0, none⟩ = some (.int .i64 px) := cell_gr hwb (by go_simp)
      have cwb_0_1 : wb.cell? ⟨W.heap.size, 1, none⟩ = some (.int .i64 py) := cell_gr hwb (by go_simp)
      have zwb_0 : W.heap.size < wb.heap.size := World.block_lt_of_cell? _ _ cwb_0_0
      have cwb_1_0 : wb.cell? ⟨B, off + i * 2, none⟩ = some (.int .i64 xi) := cell_gr hwb (by go_simp)
      have cwb_1_1 : wb.cell? ⟨B, off + i * 2 + 1, none⟩ = some (.int .i64 yi) := cell_gr hwb (by go_simp)
      have cwb_1_2 : wb.cell? ⟨B, off + j * 2, none⟩ = some (.int .i64 xj) := cell_gr hwb (by go_simp)
      have cwb_1_3 : wb.cell? ⟨B, off + j * 2 + 1, none⟩ = some (.int .i64 yj) := cell_gr hwb (by go_simp)
      have zwb_1 : B < wb.heap.size := World.block_lt_of_cell? _ _ cwb_1_0
      have gwb : Gr W wb := Gr.trans (by have gg := gwa; have gs := gg.size; go_grown) hwb
      clear gwa zwa_0 cwa_0_0 cwa_0_1 zwa_1 cwa_1_0 cwa_1_1 cwa_1_2 cwa_1_3
      clear hwb
      try simp only [Act.put, List.setIfInBounds_toArray, List.set_cons_zero, List.set_cons_succ]
      repeat (first | (refine Od.wpO_skip (by simp only [List.getElem?_toArray, List.getElem?_cons_succ, List.getElem?_cons_zero] <;> rfl) rfl ?_; simp only [Act.put, List.setIfInBounds_toArray, List.set_cons_zero, List.set_cons_succ]) | (refine Od.wpO_pure (by simp only [List.getElem?_toArray, List.getElem?_cons_succ, List.getElem?_cons_zero] <;> rfl) rfl ?_; apply Exists.intro; refine ⟨?_, ?_⟩; (· intro wx gx; obtain ⟨mx, rfl⟩ := spread_of_gr gx; clear gx; all_goals (apply Od.pAt_of_quiet; intro K hK; go_big_quiet_op; first | exact hK _ rfl | (apply Exists.intro; refine ⟨fun _ => ?_, ?_⟩; (· fail); exact hK _ rfl))); try simp only [Act.put, List.setIfInBounds_toArray, List.set_cons_zero, List.set_cons_succ]))
      refine Od.wpO_nil (hKQ _ _ ?_)
      clear hKQ KQ
      cases og
      · go_wp2_with fail
        go_roundg (n - (i + 1))
        case measure => exact hmm
        case rel => exact ⟨i + 1, by go_num, hlt, rfl, HEO.out, cwb_0_0, cwb_0_1, gwb⟩
      · go_wp2_with fail
        go_ret
        exact ⟨by rw [HEM.out HEO.out]; rfl, gwb⟩
    · obtain rfl : i = n := by omega
      have ti : decide ((i : Int) < (i : Int)) = false := decide_eq_false (by omega)
      have ti2 : decide (i < i) = false := decide_eq_false (by omega)
      clear hk
      go_wp2_with fail
      go_ret
      exact ⟨by rw [HO.out]; rfl, gwr⟩
/-- The document's crossing of the ray. -/
theorem ovR_sw {ax ay bx by' px py : Int} (h : by' < ay) : Rg.ovR ax ay bx by' px py = (decide (by' ≤ py) && decide (py < ay) && decide (0 < cr bx by' ax ay px py)) := by
  unfold Rg.ovR
  by_cases c : by' ≤ py ∧ py < ay
  · rw [if_pos c, decide_eq_true c.1, decide_eq_true c.2]; rfl
  · rw [if_neg c, if_neg (by omega)]
    by_cases d : by' ≤ py
    · rw [decide_eq_true d, decide_eq_false (by omega : ¬ py < ay)]; rfl
    · rw [decide_eq_false d]; rfl
theorem ovR_ns {ax ay bx by' px py : Int} (h : ¬ by' < ay) : Rg.ovR ax ay bx by' px py = (decide (ay ≤ py) && decide (py < by') && decide (0 < cr ax ay bx by' px py)) := by
  unfold Rg.ovR
  rw [if_neg (by omega)]
  by_cases c : ay ≤ py ∧ py < by'
  · rw [if_pos c, decide_eq_true c.1, decide_eq_true c.2]; rfl
  · rw [if_neg c]
    by_cases d : ay ≤ py
    · rw [decide_eq_true d, decide_eq_false (by omega : ¬ py < by')]; rfl
    · rw [decide_eq_false d]; rfl
theorem c_rCr {ax ay bx by' cx cy : Int} (h1 : nearB ax ay = true) (h2 : nearB bx by' = true) (h3 : nearB cx cy = true) (W : World) : Calls Tryd.prog 114 #[.agg #[.int .i64 ax, .int .i64 ay], .agg #[.int .i64 bx, .int .i64 by'], .agg #[.int .i64 cx, .int .i64 cy]] W fun e w' => e = .returned (.int .i64 (cr ax ay bx by' cx cy)) ∧ Gr W w' := by
  have h := c_rCross ax ay bx by' cx cy W
  have e : crossZ ax ay bx by' cx cy = cr ax ay bx by' cx cy := by unfold crossZ cr; rw [h1, h2, h3]; rfl
  rwa [e] at h
set_option maxHeartbeats 8000000 in
set_option maxRecDepth 100000 in
theorem c_rhas {n : Nat} {X Y : Nat → Int} {v : Value} (W : World) (h : Pts W v n X Y) (hn : n ≤ 1000) (hnr : ∀ k, k < n → nearB (X k) (Y k) = true) (px py : Int) (hp : nearB px py = true) : Calls Tryd.prog 69 #[v, .agg #[.int .i64 px, .int .i64 py]] W fun e w' => e = .returned (.bool (Rg.hasN n X Y px py)) ∧ Gr W w' := by
  have CE : ∀ w, Gr W w → _ := fun w g => c_redge w (pts_gr h g) hn px py
  obtain ⟨ad, cap, B, off, rfl, h1, h2, h3, h4⟩ := h
  have H3 := Lib.hid h3
  have H4 := Lib.hid h4
  have hn9 : (n : Int) ≤ 1000 := by omega
  have HNR := Lib.hid hnr
  have HP := Lib.hid hp
  have HH := Lib.hid (show Rg.hasN n X Y px py = (Rg.onN n X Y px py n || Rg.odN n X Y px py n) from rfl)
  generalize Rg.hasN n X Y px py = hs at HH ⊢
  generalize Rg.onN n X Y px py n = on at CE HH
  have HCE := Lib.hid CE
  clear h3 h4 CE hnr hp
  cases on
  · go_enter Tryd.func69, Tryd.ntmps69
    go_wp2_with fail
    go_at_call 71
    refine ((HCE.out _ (by go_grown))).mono ?_
    rintro e w1 ⟨rfl, hw1⟩
    have cw1_0_0 : w1.cell? ⟨W.heap.size, 0, none⟩ = some (.int .i64 px) := cell_gr hw1 (by go_simp)
    have cw1_0_1 : w1.cell? ⟨W.heap.size, 1, none⟩ = some (.int .i64 py) := cell_gr hw1 (by go_simp)
    have zw1_0 : W.heap.size < w1.heap.size := World.block_lt_of_cell? _ _ cw1_0_0
    have gw1 : Gr W w1 := Gr.trans (by go_grown) hw1
    clear hw1
    go_wp2_with fail
    go_loopg [5, 6] n (fun k z u wr => ∃ i : Nat, u = .int .i64 i ∧ i ≤ n ∧ k = n - i ∧ z = .bool (Rg.odN n X Y px py i) ∧ wr.cell? ⟨W.heap.size, 0, none⟩ = some (.int .i64 px) ∧ wr.cell? ⟨W.heap.size, 1, none⟩ = some (.int .i64 py) ∧ Gr W wr)
    case atStart => exact ⟨0, rfl, Nat.zero_le _, by omega, rfl, cw1_0_0, cw1_0_1, gw1⟩
    case round =>
      obtain ⟨i, rfl, hi, hk, rfl, c0, c1, gwr⟩ := hrel
      have zp : W.heap.size < wr.heap.size := World.block_lt_of_cell? _ _ c0
      clear gw1 cw1_0_0 cw1_0_1 zw1_0
      by_cases hlt : i < n
      · have ti : decide ((i : Int) < (n : Int)) = true := decide_eq_true (by omega)
        have ti2 : decide (i < n) = true := decide_eq_true hlt
        have hii : (i : Int) ≤ 1000 := by omega
        have hmm : n - (i + 1) < gk := by omega
        have hnx := nx_lt hlt
        obtain ⟨k0, k1⟩ := H4.out i hlt
        obtain ⟨m0, m1⟩ := H4.out _ hnx
        obtain rfl := H3.out (by omega)
        have s0 := cell_gr gwr k0
        have s1 := cell_gr gwr k1
        have r0 := cell_gr gwr m0
        have r1 := cell_gr gwr m1
        have zB : B < W.heap.size := World.block_lt_of_cell? _ _ k0
        have zB2 : B < wr.heap.size := by omega
        have nB : ¬ B = W.heap.size := by omega
        have hrem := nx_rem hlt (by omega : n ≤ 1000000)
        have EO : Rg.odN n X Y px py (i + 1) = (Rg.odN n X Y px py i != Rg.ovR (X i) (Y i) (X (Rg.nx1 n i)) (Y (Rg.nx1 n i)) px py) := rfl
        have n1 := HNR.out i hlt
        have n2 := HNR.out _ hnx
        generalize X (Rg.nx1 n i) = xj at *
        generalize Y (Rg.nx1 n i) = yj at *
        generalize X i = xi at *
        generalize Y i = yi at *
        generalize Rg.nx1 n i = j at *
        have A1 := c_rCr n1 n2 HP.out
        have A2 := c_rCr n2 n1 HP.out
        have HEO := Lib.hid EO
        generalize Rg.odN n X Y px py i = bz at *
        have hj9 : (j : Int) ≤ 1000 := by omega
        have tj : decide ((j : Int) < (n : Int)) = true := decide_eq_true (by omega)
        have tj3 : (j : Int) < (n : Int) := by omega
        have ti3 : (i : Int) < (n : Int) := by omega
        have nz : ((n : Int) == 0) = false := by simp; omega
        have nz2 : (n : Int) ≠ 0 := by omega
        have nz3 : (0 : Int) < n := by omega
        have q1 := hrem.1
        have q2 := hrem.2
        have FR : ∀ (b : Bool), Rg.ovR xi yi xj yj px py = b → Hid (Rg.odN n X Y px py (i + 1) = (bz != b)) := fun b hb => by
          have := HEO.out
          rw [hb] at this
          exact Lib.hid this
        have w1 : IntKind.i64.wrap ((i : Int) + 1) = (i : Int) + 1 := IntWalk.i64_in _ (by omega)
        have w2 : IntKind.i64.wrap (j : Int) = (j : Int) := IntWalk.i64_in _ (by omega)
        clear EO k0 k1 m0 m1 hk hrem n1 n2 HEO
        by_cases sw : yj < yi
        · have EV := ovR_sw sw (ax := xi) (bx := xj) (px := px) (py := py)
          have u1 : decide (yj < yi) = true := decide_eq_true sw
          by_cases d1 : yj ≤ py
          · have v1 : decide (yj ≤ py) = true := decide_eq_true d1
            by_cases d2 : py < yi
            · have v2 : decide (py < yi) = true := decide_eq_true d2
              rw [v1, v2] at EV
              simp only [Bool.true_and] at EV
              have HA := Lib.hid A2
              by_cases d3 : 0 < cr xj yj xi yi px py
              · have F := FR true (by rw [EV]; exact decide_eq_true d3)
                have v3 : decide (0 < cr xj yj xi yi px py) = true := decide_eq_true d3
                generalize cr xj yj xi yi px py = cz at HA d3 v3
                clear EV FR A1 A2
                go_wp2_with fail
                go_at_call 114
                refine ((HA.out _)).mono ?_
                rintro e wb ⟨rfl, hwb⟩
                have cwb_0_0 : wb.cell? ⟨W.heap.size, 0, none⟩ = some (.int .i64 px) := cell_gr hwb (by go_simp)
                have cwb_0_1 : wb.cell? ⟨W.heap.size, 1, none⟩ = some (.int .i64 py) := cell_gr hwb (by go_simp)
                have zwb_0 : W.heap.size < wb.heap.size := World.block_lt_of_cell? _ _ cwb_0_0
                have cwb_1_0 : wb.cell? ⟨B, off + i * 2, none⟩ = some (.int .i64 xi) := cell_gr hwb (by go_simp)
                have cwb_1_1 : wb.cell? ⟨B, off + i * 2 + 1, none⟩ = some (.int .i64 yi) := cell_gr hwb (by go_simp)
                have cwb_1_2 : wb.cell? ⟨B, off + j * 2, none⟩ = some (.int .i64 xj) := cell_gr hwb (by go_simp)
                have cwb_1_3 : wb.cell? ⟨B, off + j * 2 + 1, none⟩ = some (.int .i64 yj) := cell_gr hwb (by go_simp)
                have zwb_1 : B < wb.heap.size := World.block_lt_of_cell? _ _ cwb_1_0
                have gwb : Gr W wb := Gr.trans (by have gg := gwr; have gs := gg.size; go_grown) hwb
                clear hwb gwr
                go_wp2_with fail
                go_roundg (n - (i + 1))
                case measure => exact hmm
                case rel => exact ⟨i + 1, by go_num, hlt, rfl, by rw [F.out]; cases bz <;> rfl, by go_simp, by go_simp, gwb⟩
              · have F := FR false (by rw [EV]; exact decide_eq_false d3)
                have v3 : decide (0 < cr xj yj xi yi px py) = false := decide_eq_false d3
                generalize cr xj yj xi yi px py = cz at HA d3 v3
                clear EV FR A1 A2
                go_wp2_with fail
                go_at_call 114
                refine ((HA.out _)).mono ?_
                rintro e wb ⟨rfl, hwb⟩
                have cwb_0_0 : wb.cell? ⟨W.heap.size, 0, none⟩ = some (.int .i64 px) := cell_gr hwb (by go_simp)
                have cwb_0_1 : wb.cell? ⟨W.heap.size, 1, none⟩ = some (.int .i64 py) := cell_gr hwb (by go_simp)
                have zwb_0 : W.heap.size < wb.heap.size := World.block_lt_of_cell? _ _ cwb_0_0
                have cwb_1_0 : wb.cell? ⟨B, off + i * 2, none⟩ = some (.int .i64 xi) := cell_gr hwb (by go_simp)
                have cwb_1_1 : wb.cell? ⟨B, off + i * 2 + 1, none⟩ = some (.int .i64 yi) := cell_gr hwb (by go_simp)
                have cwb_1_2 : wb.cell? ⟨B, off + j * 2, none⟩ = some (.int .i64 xj) := cell_gr hwb (by go_simp)
                have cwb_1_3 : wb.cell? ⟨B, off + j * 2 + 1, none⟩ = some (.int .i64 yj) := cell_gr hwb (by go_simp)
                have zwb_1 : B < wb.heap.size := World.block_lt_of_cell? _ _ cwb_1_0
                have gwb : Gr W wb := Gr.trans (by have gg := gwr; have gs := gg.size; go_grown) hwb
                clear hwb gwr
                go_wp2_with fail
                go_roundg (n - (i + 1))
                case measure => exact hmm
                case rel => exact ⟨i + 1, by go_num, hlt, rfl, by rw [F.out]; cases bz <;> rfl, by go_simp, by go_simp, gwb⟩
            · have v2 : decide (py < yi) = false := decide_eq_false d2
              rw [v1, v2] at EV
              have F := FR false (by rw [EV]; rfl)
              clear EV FR A1 A2
              go_wp2_with fail
              go_roundg (n - (i + 1))
              case measure => exact hmm
              case rel => exact ⟨i + 1, by go_num, hlt, rfl, by rw [F.out]; cases bz <;> rfl, by go_simp, by go_simp, by have gg := gwr; have gs := gg.size; go_grown⟩
          · have v1 : decide (yj ≤ py) = false := decide_eq_false d1
            rw [v1] at EV
            have F := FR false (by rw [EV]; rfl)
            clear EV FR A1 A2
            go_wp2_with fail
            go_roundg (n - (i + 1))
            case measure => exact hmm
            case rel => exact ⟨i + 1, by go_num, hlt, rfl, by rw [F.out]; cases bz <;> rfl, by go_simp, by go_simp, by have gg := gwr; have gs := gg.size; go_grown⟩
        · have EV := ovR_ns sw (ax := xi) (bx := xj) (px := px) (py := py)
          have u1 : decide (yj < yi) = false := decide_eq_false sw
          by_cases d1 : yi ≤ py
          · have v1 : decide (yi ≤ py) = true := decide_eq_true d1
            by_cases d2 : py < yj
            · have v2 : decide (py < yj) = true := decide_eq_true d2
              rw [v1, v2] at EV
              simp only [Bool.true_and] at EV
              have HA := Lib.hid A1
              by_cases d3 : 0 < cr xi yi xj yj px py
              · have F := FR true (by rw [EV]; exact decide_eq_true d3)
                have v3 : decide (0 < cr xi yi xj yj px py) = true := decide_eq_true d3
                generalize cr xi yi xj yj px py = cz at HA d3 v3
                clear EV FR A1 A2
                go_wp2_with fail
                go_at_call 114
                refine ((HA.out _)).mono ?_
                rintro e wb ⟨rfl, hwb⟩
                have cwb_0_0 : wb.cell? ⟨W.heap.size, 0, none⟩ = some (.int .i64 px) := cell_gr hwb (by go_simp)
                have cwb_0_1 : wb.cell? ⟨W.heap.size, 1, none⟩ = some (.int .i64 py) := cell_gr hwb (by go_simp)
                have zwb_0 : W.heap.size < wb.heap.size := World.block_lt_of_cell? _ _ cwb_0_0
                have cwb_1_0 : wb.cell? ⟨B, off + i * 2, none⟩ = some (.int .i64 xi) := cell_gr hwb (by go_simp)
                have cwb_1_1 : wb.cell? ⟨B, off + i * 2 + 1, none⟩ = some (.int .i64 yi) := cell_gr hwb (by go_simp)
                have cwb_1_2 : wb.cell? ⟨B, off + j * 2, none⟩ = some (.int .i64 xj) := cell_gr hwb (by go_simp)
                have cwb_1_3 : wb.cell? ⟨B, off + j * 2 + 1, none⟩ = some (.int .i64 yj) := cell_gr hwb (by go_simp)
                have zwb_1 : B < wb.heap.size := World.block_lt_of_cell? _ _ cwb_1_0
                have gwb : Gr W wb := Gr.trans (by have gg := gwr; have gs := gg.size; go_grown) hwb
                clear hwb gwr
                go_wp2_with fail
                go_roundg (n - (i + 1))
                case measure => exact hmm
                case rel => exact ⟨i + 1, by go_num, hlt, rfl, by rw [F.out]; cases bz <;> rfl, by go_simp, by go_simp, gwb⟩
              · have F := FR false (by rw [EV]; exact decide_eq_false d3)
                have v3 : decide (0 < cr xi yi xj yj px py) = false := decide_eq_false d3
                generalize cr xi yi xj yj px py = cz at HA d3 v3
                clear EV FR A1 A2
                go_wp2_with fail
                go_at_call 114
                refine ((HA.out _)).mono ?_
                rintro e wb ⟨rfl, hwb⟩
                have cwb_0_0 : wb.cell? ⟨W.heap.size, 0, none⟩ = some (.int .i64 px) := cell_gr hwb (by go_simp)
                have cwb_0_1 : wb.cell? ⟨W.heap.size, 1, none⟩ = some (.int .i64 py) := cell_gr hwb (by go_simp)
                have zwb_0 : W.heap.size < wb.heap.size := World.block_lt_of_cell? _ _ cwb_0_0
                have cwb_1_0 : wb.cell? ⟨B, off + i * 2, none⟩ = some (.int .i64 xi) := cell_gr hwb (by go_simp)
                have cwb_1_1 : wb.cell? ⟨B, off + i * 2 + 1, none⟩ = some (.int .i64 yi) := cell_gr hwb (by go_simp)
                have cwb_1_2 : wb.cell? ⟨B, off + j * 2, none⟩ = some (.int .i64 xj) := cell_gr hwb (by go_simp)
                have cwb_1_3 : wb.cell? ⟨B, off + j * 2 + 1, none⟩ = some (.int .i64 yj) := cell_gr hwb (by go_simp)
                have zwb_1 : B < wb.heap.size := World.block_lt_of_cell? _ _ cwb_1_0
                have gwb : Gr W wb := Gr.trans (by have gg := gwr; have gs := gg.size; go_grown) hwb
                clear hwb gwr
                go_wp2_with fail
                go_roundg (n - (i + 1))
                case measure => exact hmm
                case rel => exact ⟨i + 1, by go_num, hlt, rfl, by rw [F.out]; cases bz <;> rfl, by go_simp, by go_simp, gwb⟩
            · have v2 : decide (py < yj) = false := decide_eq_false d2
              rw [v1, v2] at EV
              have F := FR false (by rw [EV]; rfl)
              clear EV FR A1 A2
              go_wp2_with fail
              go_roundg (n - (i + 1))
              case measure => exact hmm
              case rel => exact ⟨i + 1, by go_num, hlt, rfl, by rw [F.out]; cases bz <;> rfl, by go_simp, by go_simp, by have gg := gwr; have gs := gg.size; go_grown⟩
          · have v1 : decide (yi ≤ py) = false := decide_eq_false d1
            rw [v1] at EV
            have F := FR false (by rw [EV]; rfl)
            clear EV FR A1 A2
            go_wp2_with fail
            go_roundg (n - (i + 1))
            case measure => exact hmm
            case rel => exact ⟨i + 1, by go_num, hlt, rfl, by rw [F.out]; cases bz <;> rfl, by go_simp, by go_simp, by have gg := gwr; have gs := gg.size; go_grown⟩
      · obtain rfl : i = n := by omega
        have ti : decide ((i : Int) < (i : Int)) = false := decide_eq_false (by omega)
        have ti2 : decide (i < i) = false := decide_eq_false (by omega)
        clear hk
        go_wp2_with fail
        go_ret
        exact ⟨by rw [HH.out]; rfl, gwr⟩
  · go_enter Tryd.func69, Tryd.ntmps69
    go_wp2_with fail
    go_at_call 71
    refine ((HCE.out _ (by go_grown))).mono ?_
    rintro e w1 ⟨rfl, hw1⟩
    have cw1_0_0 : w1.cell? ⟨W.heap.size, 0, none⟩ = some (.int .i64 px) := cell_gr hw1 (by go_simp)
    have cw1_0_1 : w1.cell? ⟨W.heap.size, 1, none⟩ = some (.int .i64 py) := cell_gr hw1 (by go_simp)
    have zw1_0 : W.heap.size < w1.heap.size := World.block_lt_of_cell? _ _ cw1_0_0
    have gw1 : Gr W w1 := Gr.trans (by go_grown) hw1
    clear hw1
    go_wp2_with fail
    go_ret
    exact ⟨by rw [HH.out]; rfl, gw1⟩
end Go.Proofs.YtkodmfkchbbmiaaDoor
