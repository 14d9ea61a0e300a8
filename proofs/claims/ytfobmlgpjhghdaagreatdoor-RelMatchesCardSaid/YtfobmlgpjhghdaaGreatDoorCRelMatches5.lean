/- What RelMatches leans on: Gs Gt Gu If Ig Uo Rt Ih Ie Va Vb Vd Ut -/
import Derived.Test.YtfobmlgpjhghdaaGreatDoorCRelMatches4
import Derived.WalkSmall
import Derived.Laws.OwnMore
namespace Go.Proofs.YtfobmlgpjhghdaaGreatDoor
set_option linter.unusedVariables false
set_option linter.unusedSimpArgs false
open Go.ChangeShapes Go.WideShapes Go.ChangeAt Go.RowKit
set_option maxHeartbeats 4000000 in
set_option maxRecDepth 100000 in
theorem c_redge {n : Nat} {X Y : Nat → Int} {v : Value} (W : World) (h : Pts W v n X Y) (hn : n ≤ 1000) (px py : Int) : Calls Tryz.prog 80 #[v, .agg #[.int .i64 px, .int .i64 py]] W fun e w' => e = .returned (.bool (Rg.onN n X Y px py n)) ∧ Gr W w' := by
  obtain ⟨ad, cap, B, off, rfl, h1, h2, h3, h4⟩ := h
  have H3 := Lib.hid h3
  have H4 := Lib.hid h4
  have hn9 : (n : Int) ≤ 1000 := by omega
  clear h3 h4
  go_enter Tryz.func80, Tryz.ntmps80
  go_wp2_with fail
  go_loopg [5] n (fun k u wr => ∃ i : Nat, u = .int .i64 i ∧ i ≤ n ∧ k = n - i ∧ Rg.onN n X Y px py i = false ∧ wr.cell? ⟨W.heap.size, 0, none⟩ = some (.int .i64 px) ∧ wr.cell? ⟨W.heap.size, 1, none⟩ = some (.int .i64 py) ∧ Gr W wr)
  case atStart => exact ⟨0, rfl, Nat.zero_le _, by omega, rfl, by go_simp, by go_simp, by go_grown⟩
  case round =>
    obtain ⟨i, rfl, hi, hk, ho, c0, c1, gwr⟩ := hrel
    have zp := zb c0
    have HO := Lib.hid ho
    clear ho
    by_cases hlt : i < n
    · have ti : decide ((i : Int) < (n : Int)) = true := decide_eq_true (by omega)
      have ti2 : decide (i < n) = true := decide_eq_true hlt
      have hii : (i : Int) ≤ 1000 := by omega
      have hmm : n - (i + 1) < gk := by omega
      have hnx := nx_lt hlt
      obtain ⟨k0, k1⟩ := H4.out i hlt
      obtain ⟨m0, m1⟩ := H4.out _ hnx
      obtain rfl := H3.out (by omega)
      have s0 := cell_gr gwr k0
      have s1 := cell_gr gwr k1
      have r0 := cell_gr gwr m0
      have r1 := cell_gr gwr m1
      have zB := zb s0
      have hrem := nx_rem hlt (by omega : n ≤ 1000000)
      have CO := c_rOn (X i) (Y i) (X (Rg.nx1 n i)) (Y (Rg.nx1 n i)) px py
      have EO : Rg.onN n X Y px py (i + 1) = (Rg.onN n X Y px py i || onG (X i) (Y i) (X (Rg.nx1 n i)) (Y (Rg.nx1 n i)) px py) := rfl
      rw [HO.out, Bool.false_or] at EO
      have EM : Rg.onN n X Y px py (i + 1) = true → Rg.onN n X Y px py n = true := fun h => by
        obtain ⟨j, hj, hh⟩ := (Rg.onN_iff _).1 h
        exact (Rg.onN_iff _).2 ⟨j, by omega, hh⟩
      have HEM := Lib.hid EM
      generalize X (Rg.nx1 n i) = xj at *
      generalize Y (Rg.nx1 n i) = yj at *
      generalize X i = xi at *
      generalize Y i = yi at *
      generalize Rg.nx1 n i = j at *
      generalize onG xi yi xj yj px py = og at CO EO
      have HCO := Lib.hid CO
      have HEO := Lib.hid EO
      have hj9 : (j : Int) ≤ 1000 := by omega
      have tj : decide ((j : Int) < (n : Int)) = true := decide_eq_true (by omega)
      have tj3 : (j : Int) < (n : Int) := by omega
      have ti3 : (i : Int) < (n : Int) := by omega
      have nz : ((n : Int) == 0) = false := by simp; omega
      have nz2 : (n : Int) ≠ 0 := by omega
      have nz3 : (0 : Int) < n := by omega
      have q1 := hrem.1
      have q2 := hrem.2
      have w1 : IntKind.i64.wrap ((i : Int) + 1) = (i : Int) + 1 := IntWalk.i64_in _ (by omega)
      have w2 : IntKind.i64.wrap (j : Int) = (j : Int) := IntWalk.i64_in _ (by omega)
      clear EM CO EO k0 k1 m0 m1 hk hrem
      go_wp2_with fail
      try simp only [List.append]
      refine Od.wp_region_ord [(0, false), (1, false), (2, false), (3, false), (4, false), (5, false), (6, false), (7, false), (8, false), (9, false), (10, false), (11, false), (12, false), (13, true)] (by kernel_rfl) (by kernel_rfl) ?_
      intro wa hwa KQ hKQ
      have cwa_0_0 := ci hwa (W.heap.size) 0 px (by go_simp)
      have cwa_0_1 := ci hwa (W.heap.size) 1 py (by go_simp)
      have cwa_1_0 := ci hwa B (off + i * 2) xi (by go_simp)
      have cwa_1_1 := ci hwa B (off + i * 2 + 1) yi (by go_simp)
      have cwa_1_2 := ci hwa B (off + j * 2) xj (by go_simp)
      have cwa_1_3 := ci hwa B (off + j * 2 + 1) yj (by go_simp)
      have gwa : Gr W wa := Gr.trans (by have gg := gwr; have gs := gg.size; go_grown) hwa
      clear gwr
      clear hwa
      repeat (first | (refine Od.wpO_skip (by simp only [List.getElem?_toArray, List.getElem?_cons_succ, List.getElem?_cons_zero] <;> rfl) rfl ?_; simp only [Act.put, List.setIfInBounds_toArray, List.set_cons_zero, List.set_cons_succ]) | (refine Od.wpO_pure (by simp only [List.getElem?_toArray, List.getElem?_cons_succ, List.getElem?_cons_zero] <;> rfl) rfl ?_; apply Exists.intro; refine ⟨?_, ?_⟩; (· intro wx gx; obtain ⟨mx, rfl⟩ := spread_of_gr gx; clear gx; all_goals (apply Od.pAt_of_quiet; intro K hK; go_big_quiet_op; first | exact hK _ rfl | (apply Exists.intro; refine ⟨fun _ => ?_, ?_⟩; (· fail); exact hK _ rfl))); try simp only [Act.put, List.setIfInBounds_toArray, List.set_cons_zero, List.set_cons_succ]))
      refine Od.wpO_call (by simp only [List.getElem?_toArray, List.getElem?_cons_succ, List.getElem?_cons_zero] <;> rfl) rfl ?_
      intro QS hQS
      go_wp2_with fail
      go_at_call 106
      (with_reducible refine ((HCO.out _)).mono ?_)
      rintro e wb ⟨rfl, hwb⟩
      go_wp2_with fail
      apply Exists.intro
      refine ⟨?_, hwb, ?_⟩
      · simp only [Act.put, List.setIfInBounds_toArray, List.set_cons_zero, List.set_cons_succ]; rfl
      have cwb_0_0 := ci hwb (W.heap.size) 0 px (by go_simp)
      have cwb_0_1 := ci hwb (W.heap.size) 1 py (by go_simp)
      have gwb : Gr W wb := Gr.trans (by have gg := gwa; have gs := gg.size; go_grown) hwb
      clear gwa cwa_0_0 cwa_0_1 cwa_1_0 cwa_1_1 cwa_1_2 cwa_1_3
      clear hwb
      try simp only [Act.put, List.setIfInBounds_toArray, List.set_cons_zero, List.set_cons_succ]
      repeat (first | (refine Od.wpO_skip (by simp only [List.getElem?_toArray, List.getElem?_cons_succ, List.getElem?_cons_zero] <;> rfl) rfl ?_; simp only [Act.put, List.setIfInBounds_toArray, List.set_cons_zero, List.set_cons_succ]) | (refine Od.wpO_pure (by simp only [List.getElem?_toArray, List.getElem?_cons_succ, List.getElem?_cons_zero] <;> rfl) rfl ?_; apply Exists.intro; refine ⟨?_, ?_⟩; (· intro wx gx; obtain ⟨mx, rfl⟩ := spread_of_gr gx; clear gx; all_goals (apply Od.pAt_of_quiet; intro K hK; go_big_quiet_op; first | exact hK _ rfl | (apply Exists.intro; refine ⟨fun _ => ?_, ?_⟩; (· fail); exact hK _ rfl))); try simp only [Act.put, List.setIfInBounds_toArray, List.set_cons_zero, List.set_cons_succ]))
      refine Od.wpO_nil (hKQ _ _ ?_)
      clear hKQ KQ
      cases og
      · go_wp2_with fail
        go_roundg (n - (i + 1))
        case measure => exact hmm
        case rel => exact ⟨i + 1, by go_num, hlt, rfl, HEO.out, cwb_0_0, cwb_0_1, gwb⟩
      · go_wp2_with fail
        go_ret
        exact ⟨by rw [HEM.out HEO.out]; rfl, gwb⟩
    · obtain rfl : i = n := by omega
      have ti : decide ((i : Int) < (i : Int)) = false := decide_eq_false (by omega)
      have ti2 : decide (i < i) = false := decide_eq_false (by omega)
      clear hk
      go_wp2_with fail
      go_ret
      exact ⟨by rw [HO.out]; rfl, gwr⟩
theorem ovR_sw {ax ay bx by' px py : Int} (h : by' < ay) : Rg.ovR ax ay bx by' px py = (decide (by' ≤ py) && decide (py < ay) && decide (0 < cr bx by' ax ay px py)) := by
  unfold Rg.ovR
  by_cases c : by' ≤ py ∧ py < ay
  · rw [if_pos c, decide_eq_true c.1, decide_eq_true c.2]; rfl
  · rw [if_neg c, if_neg (by omega)]
    by_cases d : by' ≤ py
    · rw [decide_eq_true d, decide_eq_false (by omega : ¬ py < ay)]; rfl
    · rw [decide_eq_false d]; rfl
theorem ovR_ns {ax ay bx by' px py : Int} (h : ¬ by' < ay) : Rg.ovR ax ay bx by' px py = (decide (ay ≤ py) && decide (py < by') && decide (0 < cr ax ay bx by' px py)) := by
  unfold Rg.ovR
  rw [if_neg (by omega)]
  by_cases c : ay ≤ py ∧ py < by'
  · rw [if_pos c, decide_eq_true c.1, decide_eq_true c.2]; rfl
  · rw [if_neg c]
    by_cases d : ay ≤ py
    · rw [decide_eq_true d, decide_eq_false (by omega : ¬ py < by')]; rfl
    · rw [decide_eq_false d]; rfl
theorem c_rCr {ax ay bx by' cx cy : Int} (h1 : nearB ax ay = true) (h2 : nearB bx by' = true) (h3 : nearB cx cy = true) (W : World) : Calls Tryz.prog 81 #[.agg #[.int .i64 ax, .int .i64 ay], .agg #[.int .i64 bx, .int .i64 by'], .agg #[.int .i64 cx, .int .i64 cy]] W fun e w' => e = .returned (.int .i64 (cr ax ay bx by' cx cy)) ∧ Gr W w' := by
  have h := c_rCross ax ay bx by' cx cy W
  have e : crossZ ax ay bx by' cx cy = cr ax ay bx by' cx cy := by unfold crossZ cr; rw [h1, h2, h3]; rfl
  rwa [e] at h
set_option maxHeartbeats 8000000 in
set_option maxRecDepth 100000 in
theorem c_rhas {n : Nat} {X Y : Nat → Int} {v : Value} (W : World) (h : Pts W v n X Y) (hn : n ≤ 1000) (hnr : ∀ k, k < n → nearB (X k) (Y k) = true) (px py : Int) (hp : nearB px py = true) : Calls Tryz.prog 47 #[v, .agg #[.int .i64 px, .int .i64 py]] W fun e w' => e = .returned (.bool (Rg.hasN n X Y px py)) ∧ Gr W w' := by
  have CE : ∀ w, Gr W w → _ := fun w g => c_redge w (pts_gr h g) hn px py
  obtain ⟨ad, cap, B, off, rfl, h1, h2, h3, h4⟩ := h
  have H3 := Lib.hid h3
  have H4 := Lib.hid h4
  have hn9 : (n : Int) ≤ 1000 := by omega
  have HNR := Lib.hid hnr
  have HP := Lib.hid hp
  have HH := Lib.hid (show Rg.hasN n X Y px py = (Rg.onN n X Y px py n || Rg.odN n X Y px py n) from rfl)
  generalize Rg.hasN n X Y px py = hs at HH ⊢
  generalize Rg.onN n X Y px py n = on at CE HH
  have HCE := Lib.hid CE
  clear h3 h4 CE hnr hp
  cases on
  · go_enter Tryz.func47, Tryz.ntmps47
    go_wp2_with fail
    go_at_call 80
    refine ((HCE.out _ (by go_grown))).mono ?_
    rintro e w1 ⟨rfl, hw1⟩
    have cw1_0_0 := ci hw1 (W.heap.size) 0 px (by go_simp)
    have cw1_0_1 := ci hw1 (W.heap.size) 1 py (by go_simp)
    have gw1 : Gr W w1 := Gr.trans (by go_grown) hw1
    clear hw1
    go_wp2_with fail
    go_loopg [5, 6] n (fun k z u wr => ∃ i : Nat, u = .int .i64 i ∧ i ≤ n ∧ k = n - i ∧ z = .bool (Rg.odN n X Y px py i) ∧ wr.cell? ⟨W.heap.size, 0, none⟩ = some (.int .i64 px) ∧ wr.cell? ⟨W.heap.size, 1, none⟩ = some (.int .i64 py) ∧ Gr W wr)
    case atStart => exact ⟨0, rfl, Nat.zero_le _, by omega, rfl, cw1_0_0, cw1_0_1, gw1⟩
    case round =>
      obtain ⟨i, rfl, hi, hk, rfl, c0, c1, gwr⟩ := hrel
      have zp := zb c0
      clear gw1 cw1_0_0 cw1_0_1
      by_cases hlt : i < n
      · have ti : decide ((i : Int) < (n : Int)) = true := decide_eq_true (by omega)
        have ti2 : decide (i < n) = true := decide_eq_true hlt
        have hii : (i : Int) ≤ 1000 := by omega
        have hmm : n - (i + 1) < gk := by omega
        have hnx := nx_lt hlt
        obtain ⟨k0, k1⟩ := H4.out i hlt
        obtain ⟨m0, m1⟩ := H4.out _ hnx
        obtain rfl := H3.out (by omega)
        have s0 := cell_gr gwr k0
        have s1 := cell_gr gwr k1
        have r0 := cell_gr gwr m0
        have r1 := cell_gr gwr m1
        have zB := zb k0
        have zB2 : B < wr.heap.size := by omega
        have nB : ¬ B = W.heap.size := by omega
        have hrem := nx_rem hlt (by omega : n ≤ 1000000)
        have EO : Rg.odN n X Y px py (i + 1) = (Rg.odN n X Y px py i != Rg.ovR (X i) (Y i) (X (Rg.nx1 n i)) (Y (Rg.nx1 n i)) px py) := rfl
        have n1 := HNR.out i hlt
        have n2 := HNR.out _ hnx
        generalize X (Rg.nx1 n i) = xj at *
        generalize Y (Rg.nx1 n i) = yj at *
        generalize X i = xi at *
        generalize Y i = yi at *
        generalize Rg.nx1 n i = j at *
        have A1 := c_rCr n1 n2 HP.out
        have A2 := c_rCr n2 n1 HP.out
        have HEO := Lib.hid EO
        generalize Rg.odN n X Y px py i = bz at *
        have hj9 : (j : Int) ≤ 1000 := by omega
        have tj : decide ((j : Int) < (n : Int)) = true := decide_eq_true (by omega)
        have tj3 : (j : Int) < (n : Int) := by omega
        have ti3 : (i : Int) < (n : Int) := by omega
        have nz : ((n : Int) == 0) = false := by simp; omega
        have nz2 : (n : Int) ≠ 0 := by omega
        have nz3 : (0 : Int) < n := by omega
        have q1 := hrem.1
        have q2 := hrem.2
        have FR : ∀ (b : Bool), Rg.ovR xi yi xj yj px py = b → Hid (Rg.odN n X Y px py (i + 1) = (bz != b)) := fun b hb => by
          have := HEO.out
          rw [hb] at this
          exact Lib.hid this
        have w1 : IntKind.i64.wrap ((i : Int) + 1) = (i : Int) + 1 := IntWalk.i64_in _ (by omega)
        have w2 : IntKind.i64.wrap (j : Int) = (j : Int) := IntWalk.i64_in _ (by omega)
        clear EO k0 k1 m0 m1 hk hrem n1 n2 HEO
        by_cases sw : yj < yi
        · have EV := ovR_sw sw (ax := xi) (bx := xj) (px := px) (py := py)
          have u1 : decide (yj < yi) = true := decide_eq_true sw
          by_cases d1 : yj ≤ py
          · have v1 : decide (yj ≤ py) = true := decide_eq_true d1
            by_cases d2 : py < yi
            · have v2 : decide (py < yi) = true := decide_eq_true d2
              rw [v1, v2] at EV
              simp only [Bool.true_and] at EV
              have HA := Lib.hid A2
              by_cases d3 : 0 < cr xj yj xi yi px py
              · have F := FR true (by rw [EV]; exact decide_eq_true d3)
                have v3 : decide (0 < cr xj yj xi yi px py) = true := decide_eq_true d3
                generalize cr xj yj xi yi px py = cz at HA d3 v3
                clear EV FR A1 A2
                go_wp2_with fail
                go_at_call 81
                refine ((HA.out _)).mono ?_
                rintro e wb ⟨rfl, hwb⟩
                have cwb_0_0 := ci hwb (W.heap.size) 0 px (by go_simp)
                have cwb_0_1 := ci hwb (W.heap.size) 1 py (by go_simp)
                have gwb : Gr W wb := Gr.trans (by have gg := gwr; have gs := gg.size; go_grown) hwb
                clear hwb gwr
                go_wp2_with fail
                go_roundg (n - (i + 1))
                case measure => exact hmm
                case rel => exact ⟨i + 1, by go_num, hlt, rfl, by rw [F.out]; cases bz <;> rfl, by go_simp, by go_simp, gwb⟩
              · have F := FR false (by rw [EV]; exact decide_eq_false d3)
                have v3 : decide (0 < cr xj yj xi yi px py) = false := decide_eq_false d3
                generalize cr xj yj xi yi px py = cz at HA d3 v3
                clear EV FR A1 A2
                go_wp2_with fail
                go_at_call 81
                refine ((HA.out _)).mono ?_
                rintro e wb ⟨rfl, hwb⟩
                have cwb_0_0 := ci hwb (W.heap.size) 0 px (by go_simp)
                have cwb_0_1 := ci hwb (W.heap.size) 1 py (by go_simp)
                have gwb : Gr W wb := Gr.trans (by have gg := gwr; have gs := gg.size; go_grown) hwb
                clear hwb gwr
                go_wp2_with fail
                go_roundg (n - (i + 1))
                case measure => exact hmm
                case rel => exact ⟨i + 1, by go_num, hlt, rfl, by rw [F.out]; cases bz <;> rfl, by go_simp, by go_simp, gwb⟩
            · have v2 : decide (py < yi) = false := decide_eq_false d2
              rw [v1, v2] at EV
              have F := FR false (by rw [EV]; rfl)
              clear EV FR A1 A2
              go_wp2_with fail
              go_roundg (n - (i + 1))
              case measure => exact hmm
              case rel => exact ⟨i + 1, by go_num, hlt, rfl, by rw [F.out]; cases bz <;> rfl, by go_simp, by go_simp, by have gg := gwr; have gs := gg.size; go_grown⟩
          · have v1 : decide (yj ≤ py) = false := decide_eq_false d1
            rw [v1] at EV
            have F := FR false (by rw [EV]; rfl)
            clear EV FR A1 A2
            go_wp2_with fail
            go_roundg (n - (i + 1))
            case measure => exact hmm
            case rel => exact ⟨i + 1, by go_num, hlt, rfl, by rw [F.out]; cases bz <;> rfl, by go_simp, by go_simp, by have gg := gwr; have gs := gg.size; go_grown⟩
        · have EV := ovR_ns sw (ax := xi) (bx := xj) (px := px) (py := py)
          have u1 : decide (yj < yi) = false := decide_eq_false sw
          by_cases d1 : yi ≤ py
          · have v1 : decide (yi ≤ py) = true := decide_eq_true d1
            by_cases d2 : py < yj
            · have v2 : decide (py < yj) = true := decide_eq_true d2
              rw [v1, v2] at EV
              simp only [Bool.true_and] at EV
              have HA := Lib.hid A1
              by_cases d3 : 0 < cr xi yi xj yj px py
              · have F := FR true (by rw [EV]; exact decide_eq_true d3)
                have v3 : decide (0 < cr xi yi xj yj px py) = true := decide_eq_true d3
                generalize cr xi yi xj yj px py = cz at HA d3 v3
                clear EV FR A1 A2
                go_wp2_with fail
                go_at_call 81
                refine ((HA.out _)).mono ?_
                rintro e wb ⟨rfl, hwb⟩
                have cwb_0_0 := ci hwb (W.heap.size) 0 px (by go_simp)
                have cwb_0_1 := ci hwb (W.heap.size) 1 py (by go_simp)
                have gwb : Gr W wb := Gr.trans (by have gg := gwr; have gs := gg.size; go_grown) hwb
                clear hwb gwr
                go_wp2_with fail
                go_roundg (n - (i + 1))
                case measure => exact hmm
                case rel => exact ⟨i + 1, by go_num, hlt, rfl, by rw [F.out]; cases bz <;> rfl, by go_simp, by go_simp, gwb⟩
              · have F := FR false (by rw [EV]; exact decide_eq_false d3)
                have v3 : decide (0 < cr xi yi xj yj px py) = false := decide_eq_false d3
                generalize cr xi yi xj yj px py = cz at HA d3 v3
                clear EV FR A1 A2
                go_wp2_with fail
                go_at_call 81
                refine ((HA.out _)).mono ?_
                rintro e wb ⟨rfl, hwb⟩
                have cwb_0_0 := ci hwb (W.heap.size) 0 px (by go_simp)
                have cwb_0_1 := ci hwb (W.heap.size) 1 py (by go_simp)
                have gwb : Gr W wb := Gr.trans (by have gg := gwr; have gs := gg.size; go_grown) hwb
                clear hwb gwr
                go_wp2_with fail
                go_roundg (n - (i + 1))
                case measure => exact hmm
                case rel => exact ⟨i + 1, by go_num, hlt, rfl, by rw [F.out]; cases bz <;> rfl, by go_simp, by go_simp, gwb⟩
            · have v2 : decide (py < yj) = false := decide_eq_false d2
              rw [v1, v2] at EV
              have F := FR false (by rw [EV]; rfl)
              clear EV FR A1 A2
              go_wp2_with fail
              go_roundg (n - (i + 1))
              case measure => exact hmm
              case rel => exact ⟨i + 1, by go_num, hlt, rfl, by rw [F.out]; cases bz <;> rfl, by go_simp, by go_simp, by have gg := gwr; have gs := gg.size; go_grown⟩
          · have v1 : decide (yi ≤ py) = false := decide_eq_false d1
            rw [v1] at EV
            have F := FR false (by rw [EV]; rfl)
            clear EV FR A1 A2
            go_wp2_with fail
            go_roundg (n - (i + 1))
            case measure => exact hmm
            case rel => exact ⟨i + 1, by go_num, hlt, rfl, by rw [F.out]; cases bz <;> rfl, by go_simp, by go_simp, by have gg := gwr; have gs := gg.size; go_grown⟩
      · obtain rfl : i = n := by omega
        have ti : decide ((i : Int) < (i : Int)) = false := decide_eq_false (by omega)
        have ti2 : decide (i < i) = false := decide_eq_false (by omega)
        clear hk
        go_wp2_with fail
        go_ret
        exact ⟨by rw [HH.out]; rfl, gwr⟩
  · go_enter Tryz.func47, Tryz.ntmps47
    go_wp2_with fail
    go_at_call 80
    refine ((HCE.out _ (by go_grown))).mono ?_
    rintro e w1 ⟨rfl, hw1⟩
    have cw1_0_0 := ci hw1 (W.heap.size) 0 px (by go_simp)
    have cw1_0_1 := ci hw1 (W.heap.size) 1 py (by go_simp)
    have gw1 : Gr W w1 := Gr.trans (by go_grown) hw1
    clear hw1
    go_wp2_with fail
    go_ret
    exact ⟨by rw [HH.out]; rfl, gw1⟩
end Go.Proofs.YtfobmlgpjhghdaaGreatDoor
namespace Go.Proofs.YtfobmlgpjhghdaaGreatDoor
set_option linter.unusedVariables false
set_option linter.unusedSimpArgs false
open Go.ChangeShapes Go.WideShapes Go.ChangeAt Go.RowKit
theorem r_ok {n : Nat} {X Y : Nat → Int} {v : Value} (W : World) (h : Pts W v n X Y) : ∀ w, Gr W w → Calls Tryz.prog 54 #[v] w fun e w' => e = .returned (.tuple #[.int .i64 ((Rg.ringC n X Y).1 : Nat), .int .i64 ((Rg.ringC n X Y).2 : Nat)]) ∧ Gr w w' := fun w g => c_CheckRing w (pts_gr h g)
end Go.Proofs.YtfobmlgpjhghdaaGreatDoor
namespace Go.Proofs.YtfobmlgpjhghdaaGreatDoor
set_option linter.unusedVariables false
set_option linter.unusedSimpArgs false
open Go.ChangeShapes Go.WideShapes Go.ChangeAt Go.RowKit
theorem acc_mn (F : Nat → Int) : ∀ n, 1 ≤ n → accMin F n = mnN F n
  | 0, h => absurd h (by omega)
  | 1, _ => by
    rw [mnN_0 F rfl]
    show minZ (F 0) (F 0) = F 0
    unfold minZ; split <;> rfl
  | n + 2, _ => by
    rw [mnN_s F (by omega), ← acc_mn F (n + 1) (by omega)]; rfl
theorem acc_mx (F : Nat → Int) : ∀ n, 1 ≤ n → accMax F n = mxN F n
  | 0, h => absurd h (by omega)
  | 1, _ => by
    rw [mxN_0 F rfl]
    show maxZ (F 0) (F 0) = F 0
    unfold maxZ; split <;> rfl
  | n + 2, _ => by
    rw [mxN_s F (by omega), ← acc_mx F (n + 1) (by omega)]; rfl
def rowB (X Y : Nat → Int) : Nat → List Value
  | 0 => []
  | n + 1 => rowB X Y n ++ [.int .i64 (X n), .int .i64 (Y n), .int .i64 (X n), .int .i64 (Y n)]
theorem rowB_len (X Y : Nat → Int) : ∀ n, (rowB X Y n).length = n * 4
  | 0 => rfl
  | n + 1 => by simp only [rowB, List.length_append, rowB_len X Y n, List.length_cons, List.length_nil]; omega
theorem rowB_at (X Y : Nat → Int) : ∀ n k, k < n → (rowB X Y n)[k * 4]? = some (.int .i64 (X k)) ∧ (rowB X Y n)[k * 4 + 1]? = some (.int .i64 (Y k)) ∧ (rowB X Y n)[k * 4 + 2]? = some (.int .i64 (X k)) ∧ (rowB X Y n)[k * 4 + 3]? = some (.int .i64 (Y k))
  | 0, k, h => absurd h (by omega)
  | n + 1, k, h => by
    have hl := rowB_len X Y n
    simp only [rowB]
    by_cases hk : k < n
    · rw [List.getElem?_append_left (by omega), List.getElem?_append_left (by omega), List.getElem?_append_left (by omega), List.getElem?_append_left (by omega)]
      exact rowB_at X Y n k hk
    · obtain rfl : k = n := by omega
      rw [List.getElem?_append_right (by omega), List.getElem?_append_right (by omega), List.getElem?_append_right (by omega), List.getElem?_append_right (by omega), hl, Nat.sub_self, show k * 4 + 1 - k * 4 = 1 by omega, show k * 4 + 2 - k * 4 = 2 by omega, show k * 4 + 3 - k * 4 = 3 by omega]
      exact ⟨rfl, rfl, rfl, rfl⟩
theorem c_rUnionP {n : Nat} {X Y : Nat → Int} {e : TypeId} {v : Value} {base : Nat} (w : World) (hn : 1 ≤ n) (hn2 : n ≤ 200) (hnr : ∀ k, k < n → nearB (X k) (Y k) = true) (h : w.ownsRow base e 4 v n (rowB X Y n)) :
    Calls Tryz.prog 63 #[v] w fun e w' => e = .returned (.tuple #[.agg #[.int .i64 (mnN X n), .int .i64 (mnN Y n), .int .i64 (mxN X n), .int .i64 (mxN Y n)], .int .i64 0]) ∧ Gr w w' := by
  obtain ⟨g, cap, rfl, hg1, hg2, hc1, hc2⟩ := row_form h (by omega)
  rw [← acc_mn X n hn, ← acc_mn Y n hn, ← acc_mx X n hn, ← acc_mx Y n hn]
  refine c_rUnionN n cap X Y X Y g 0 w hn hn2 _ (fun k hk => ?_) (fun j hj _ h2 => ?_) (fun _ => rfl)
  · rw [Nat.zero_add]
    obtain ⟨r0, r1, r2, r3⟩ := rowB_at X Y n k hk
    exact ⟨by rw [h.cellAt (k * 4) (by omega)]; exact r0, by rw [h.cellAt (k * 4 + 1) (by omega)]; exact r1, by rw [h.cellAt (k * 4 + 2) (by omega)]; exact r2, by rw [h.cellAt (k * 4 + 3) (by omega)]; exact r3⟩
  · rw [boxB_iff.2 ⟨⟨hnr j hj, hnr j hj⟩, Int.le_refl _, Int.le_refl _⟩] at h2
    cases h2
theorem Grown.frozen {a b : World} {u v : Value} (h : Grown a b u v) {p : Addr} (hp : p.block < a.heap.size) (hn : ∀ k, u.ownBlock = some k → k ≠ p.block) : b.frozen? p = a.frozen? p :=
  World.frozen?_of_block (w := a) (h.1.block p.block hp (fun e => hn p.block e.symm rfl))
theorem ones4 (a b c d : Int) : ∀ u ∈ [Value.int .i64 a, .int .i64 b, .int .i64 c, .int .i64 d], u.oneCell' = true := by
  intro u hu
  simp only [List.mem_cons, List.not_mem_nil, or_false] at hu
  rcases hu with rfl | rfl | rfl | rfl <;> rfl
theorem news4 {w : World} {B : Nat} {a b c d : Value} (h0 : w.cell? ⟨B, 0, none⟩ = some a) (h1 : w.cell? ⟨B, 1, none⟩ = some b) (h2 : w.cell? ⟨B, 2, none⟩ = some c) (h3 : w.cell? ⟨B, 3, none⟩ = some d) :
    ∀ j u, [a, b, c, d][j]? = some u → w.cell? ((⟨B, 0, none⟩ : Addr).add j) = some u := by
  intro j u hj
  have e : (⟨B, 0, none⟩ : Addr).add j = ⟨B, j, none⟩ := by unfold Addr.add; split <;> simp_all
  rw [e]
  match j, hj with
  | 0, hj => simp at hj; subst hj; exact h0
  | 1, hj => simp at hj; subst hj; exact h1
  | 2, hj => simp at hj; subst hj; exact h2
  | 3, hj => simp at hj; subst hj; exact h3
  | j + 4, hj => simp at hj
set_option maxHeartbeats 8000000 in
set_option maxRecDepth 100000 in
theorem c_rRingBox_ok {n : Nat} {X Y : Nat → Int} {v : Value} (W : World) (h : Pts W v n X Y) (h0 : Rg.ringC n X Y = (0, 0)) :
    Calls Tryz.prog 37 #[v] W fun e w' => e = .returned (.tuple #[.agg #[.int .i64 (mnN X n), .int .i64 (mnN Y n), .int .i64 (mxN X n), .int .i64 (mxN Y n)], .int .i64 0, .int .i64 0]) ∧ Gr W w' := by
  obtain ⟨hh, hnr, _, _⟩ := Rg.ringC_ok (show (Rg.ringC n X Y).1 = 0 by rw [h0])
  have A1 := r_ok W h
  rw [h0] at A1
  have A2 : ∀ (w : World) v', w.ownsRow (W.heap.size + 1) 28 4 v' n (rowB X Y n) → _ := fun w v' ho => c_rUnionP (X := X) (Y := Y) w (by omega) (by omega) hnr ho
  generalize mnN X n = m1 at A2 ⊢
  generalize mnN Y n = m2 at A2 ⊢
  generalize mxN X n = m3 at A2 ⊢
  generalize mxN Y n = m4 at A2 ⊢
  obtain ⟨i0, hi0, hz0, hz1, hz2⟩ := info_parts (P := Tryz.prog) (e := 28) (z := .agg #[.int .i64 0, .int .i64 0, .int .i64 0, .int .i64 0]) (size := 4) (bytes := 32) (by kernel_rfl)
  have HI := Lib.hid (And.intro hi0 (And.intro hz0 (And.intro hz1 hz2)))
  have hn64 : n ≤ 64 := by omega
  have hn9 : (n : Int) ≤ 64 := by omega
  obtain ⟨ad, cap, B, off, rfl, h1, h2, h3, h4⟩ := h
  have H3 := Lib.hid h3
  have H4 := Lib.hid h4
  have H1 := Lib.hid A1
  clear A1
  have HA2 := Lib.hid A2
  clear h3 h4 h0 hh hnr A2 hi0 hz0 hz1 hz2
  go_enter Tryz.func37, Tryz.ntmps37
  go_wp2_with fail
  go_at_call 54
  refine ((H1.out _ (by go_grown))).mono ?_
  rintro e w1 ⟨rfl, hw1⟩
  have cw1_0_0 := ci hw1 (W.heap.size) 0 0 (by go_simp)
  have fw1_0_0 := fq hw1 (W.heap.size) 0 (.int .i64 0) (by go_simp) (by go_simp)
  have cw1_0_1 := ci hw1 (W.heap.size) 1 0 (by go_simp)
  have fw1_0_1 := fq hw1 (W.heap.size) 1 (.int .i64 0) (by go_simp) (by go_simp)
  have cw1_0_2 := ci hw1 (W.heap.size) 2 0 (by go_simp)
  have fw1_0_2 := fq hw1 (W.heap.size) 2 (.int .i64 0) (by go_simp) (by go_simp)
  have cw1_0_3 := ci hw1 (W.heap.size) 3 0 (by go_simp)
  have fw1_0_3 := fq hw1 (W.heap.size) 3 (.int .i64 0) (by go_simp) (by go_simp)
  have gw1 : Gr W w1 := Gr.trans (by go_grown) hw1
  clear hw1
  go_wp2_with fail
  go_loopg [7, 8] n (fun k x u wr => ∃ i : Nat, u = .int .i64 i ∧ i ≤ n ∧ k = n - i ∧ wr.ownsRow (W.heap.size + 1) 28 4 x i (rowB X Y i) ∧ wr.cell? ⟨W.heap.size, 0, none⟩ = some (.int .i64 0) ∧ wr.cell? ⟨W.heap.size, 1, none⟩ = some (.int .i64 0) ∧ wr.cell? ⟨W.heap.size, 2, none⟩ = some (.int .i64 0) ∧ wr.cell? ⟨W.heap.size, 3, none⟩ = some (.int .i64 0) ∧
    wr.frozen? ⟨W.heap.size, 0, none⟩ = false ∧ wr.frozen? ⟨W.heap.size, 1, none⟩ = false ∧ wr.frozen? ⟨W.heap.size, 2, none⟩ = false ∧ wr.frozen? ⟨W.heap.size, 3, none⟩ = false ∧ Gr W wr)
  case atStart => exact ⟨0, rfl, Nat.zero_le _, by omega, World.ownsRow_nil _ _ _ _, cw1_0_0, cw1_0_1, cw1_0_2, cw1_0_3, fw1_0_0, fw1_0_1, fw1_0_2, fw1_0_3, gw1⟩
  case round =>
    obtain ⟨i, rfl, hi, hk, hO, c0, c1, c2, c3, f0, f1, f2, f3, gwr⟩ := hrel
    have HO := Lib.hid hO
    have zwr0 := zb c0
    clear hO gw1 cw1_0_0 cw1_0_1 cw1_0_2 cw1_0_3 fw1_0_0 fw1_0_1 fw1_0_2 fw1_0_3
    by_cases hlt : i < n
    · have ti : decide ((i : Int) < (n : Int)) = true := decide_eq_true (by omega)
      have ti2 : decide (i < n) = true := decide_eq_true hlt
      have ti3 : (i : Int) < (n : Int) := by omega
      have hii : (i : Int) ≤ 64 := by omega
      have hmm : n - (i + 1) < gk := by omega
      obtain ⟨k0, k1⟩ := H4.out i hlt
      obtain rfl := H3.out (by omega)
      have s0 := cell_gr gwr k0
      have s1 := cell_gr gwr k1
      have zB := zb k0
      have hrw : rowB X Y (i + 1) = rowB X Y i ++ [.int .i64 (X i), .int .i64 (Y i), .int .i64 (X i), .int .i64 (Y i)] := rfl
      have HR := Lib.hid hrw
      generalize X i = xi at s0 HR
      generalize Y i = yi at s1 HR
      clear hk k0 k1 hrw
      go_wp2_with fail
      try simp only [List.append]
      refine Od.wp_region_ordT 11 [(0, false), (1, false), (2, false), (3, false), (4, false), (5, false), (6, false), (7, false), (8, false), (9, false), (10, true)] (by kernel_rfl) (by kernel_rfl) ?_
      intro w4 hw4 KQ hKQ
      have cw4_0_0 := ci hw4 (W.heap.size) 0 0 (by go_simp)
      have fw4_0_0 := fq hw4 (W.heap.size) 0 (.int .i64 0) (by go_simp) (by go_simp)
      have cw4_0_1 := ci hw4 (W.heap.size) 1 0 (by go_simp)
      have fw4_0_1 := fq hw4 (W.heap.size) 1 (.int .i64 0) (by go_simp) (by go_simp)
      have cw4_0_2 := ci hw4 (W.heap.size) 2 0 (by go_simp)
      have fw4_0_2 := fq hw4 (W.heap.size) 2 (.int .i64 0) (by go_simp) (by go_simp)
      have cw4_0_3 := ci hw4 (W.heap.size) 3 0 (by go_simp)
      have fw4_0_3 := fq hw4 (W.heap.size) 3 (.int .i64 0) (by go_simp) (by go_simp)
      have zw4_0 := zb cw4_0_0
      have cw4_1_0 := ci hw4 B (off + i * 2) xi (by go_simp)
      have cw4_1_1 := ci hw4 B (off + i * 2 + 1) yi (by go_simp)
      have zw4_1 := zb cw4_1_0
      have gw4 : Gr wr w4 := Gr.trans (by go_grown) hw4
      skip
      clear hw4
      repeat (first | (refine Od.wpO_skip (by simp only [List.getElem?_toArray, List.getElem?_cons_succ, List.getElem?_cons_zero] <;> rfl) rfl ?_; simp only [Act.put, List.setIfInBounds_toArray, List.set_cons_zero, List.set_cons_succ]) | (refine Od.wpO_pure (by simp only [List.getElem?_toArray, List.getElem?_cons_succ, List.getElem?_cons_zero] <;> rfl) rfl ?_; apply Exists.intro; refine ⟨?_, ?_⟩; (· intro wx gx; obtain ⟨mx, rfl⟩ := spread_of_gr gx; clear gx; all_goals (apply Od.pAt_of_quiet; intro K hK; go_big_quiet_op; first | exact hK _ rfl | (apply Exists.intro; refine ⟨fun _ => ?_, ?_⟩; (· fail); exact hK _ rfl))); try simp only [Act.put, List.setIfInBounds_toArray, List.set_cons_zero, List.set_cons_succ]))
      refine Od.wpO_call (by simp only [List.getElem?_toArray, List.getElem?_cons_succ, List.getElem?_cons_zero] <;> rfl) rfl ?_
      intro QS hQS
      go_wp2_with fail
      first | (apply Exists.intro; refine ⟨?_, (by go_grown), ?_⟩; (· simp only [Act.put, List.setIfInBounds_toArray, List.set_cons_zero, List.set_cons_succ]; rfl)) | (refine ⟨(by go_grown), ?_⟩)
      generalize hhw5 : (w4.alloc (.cells #[.int .i64 xi, .int .i64 yi, .int .i64 xi, .int .i64 yi] 28)) = w5
      have hw5 : Gr w4 w5 := by subst hhw5; go_grown
      have cw5_0_0 : w5.cell? ⟨W.heap.size, 0, none⟩ = some (.int .i64 0) := by subst hhw5; go_simp
      have fw5_0_0 : w5.frozen? ⟨W.heap.size, 0, none⟩ = false := by subst hhw5; go_simp
      have cw5_0_1 : w5.cell? ⟨W.heap.size, 1, none⟩ = some (.int .i64 0) := by subst hhw5; go_simp
      have fw5_0_1 : w5.frozen? ⟨W.heap.size, 1, none⟩ = false := by subst hhw5; go_simp
      have cw5_0_2 : w5.cell? ⟨W.heap.size, 2, none⟩ = some (.int .i64 0) := by subst hhw5; go_simp
      have fw5_0_2 : w5.frozen? ⟨W.heap.size, 2, none⟩ = false := by subst hhw5; go_simp
      have cw5_0_3 : w5.cell? ⟨W.heap.size, 3, none⟩ = some (.int .i64 0) := by subst hhw5; go_simp
      have fw5_0_3 : w5.frozen? ⟨W.heap.size, 3, none⟩ = false := by subst hhw5; go_simp
      have zw5_0 := zb cw5_0_0
      have cw5_1_0 : w5.cell? ⟨B, off + i * 2, none⟩ = some (.int .i64 xi) := by subst hhw5; go_simp
      have cw5_1_1 : w5.cell? ⟨B, off + i * 2 + 1, none⟩ = some (.int .i64 yi) := by subst hhw5; go_simp
      have zw5_1 := zb cw5_1_0
      have cw5_2_0 : w5.cell? ⟨w4.heap.size, 0, none⟩ = some (.int .i64 xi) := by subst hhw5; go_simp
      have cw5_2_1 : w5.cell? ⟨w4.heap.size, 1, none⟩ = some (.int .i64 yi) := by subst hhw5; go_simp
      have cw5_2_2 : w5.cell? ⟨w4.heap.size, 2, none⟩ = some (.int .i64 xi) := by subst hhw5; go_simp
      have cw5_2_3 : w5.cell? ⟨w4.heap.size, 3, none⟩ = some (.int .i64 yi) := by subst hhw5; go_simp
      have gw5 : Gr wr w5 := Gr.trans (by have gg := gw4; have gs := gg.size; go_grown) hw5
      clear hhw5 hw5 gw4 zw4_0 cw4_0_0 fw4_0_0 cw4_0_1 fw4_0_1 cw4_0_2 fw4_0_2 cw4_0_3 fw4_0_3 zw4_1 cw4_1_0 cw4_1_1
      try simp only [Act.put, List.setIfInBounds_toArray, List.set_cons_zero, List.set_cons_succ]
      repeat (first | (refine Od.wpO_skip (by simp only [List.getElem?_toArray, List.getElem?_cons_succ, List.getElem?_cons_zero] <;> rfl) rfl ?_; simp only [Act.put, List.setIfInBounds_toArray, List.set_cons_zero, List.set_cons_succ]) | (refine Od.wpO_pure (by simp only [List.getElem?_toArray, List.getElem?_cons_succ, List.getElem?_cons_zero] <;> rfl) rfl ?_; apply Exists.intro; refine ⟨?_, ?_⟩; (· intro wx gx; obtain ⟨mx, rfl⟩ := spread_of_gr gx; clear gx; all_goals (apply Od.pAt_of_quiet; intro K hK; go_big_quiet_op; first | exact hK _ rfl | (apply Exists.intro; refine ⟨fun _ => ?_, ?_⟩; (· fail); exact hK _ rfl))); try simp only [Act.put, List.setIfInBounds_toArray, List.set_cons_zero, List.set_cons_succ]))
      refine Od.wpO_nil (hKQ _ _ ?_)
      clear hKQ KQ
      have O5 := rowOwn_gr HO.out gw5
      have hne : ∀ k, u7.ownBlock = some k → W.heap.size + 1 ≤ k := fun k hk => (World.ownsRow.lt HO.out k hk).1
      have HNE := Lib.hid hne
      have sz5 := gw5.size
      have N5 := news4 cw5_2_0 cw5_2_1 cw5_2_2 cw5_2_3
      have HN5 := Lib.hid N5
      have HO5 := Lib.hid O5
      clear hne N5 O5
      refine wpList_append_own2 _ rfl (.tmp 27) (.tmp 37) 90 rfl (W.heap.size + 1) 28 i0 (.agg #[.int .i64 0, .int .i64 0, .int .i64 0, .int .i64 0]) 4 32 Tryz.underlying90 HI.out.1 HI.out.2.1 HI.out.2.2.1 HI.out.2.2.2 rfl (by decide) u7 i (rowB X Y i) rfl HO5.out ⟨w4.heap.size, 0, none⟩ 1 1 [.int .i64 xi, .int .i64 yi, .int .i64 xi, .int .i64 yi] rfl rfl HN5.out (ones4 _ _ _ _) (by unfold maxLen; omega) (by omega) (by omega) ?_
      intro v3 w3 own3 gr3
      go_wp2_with fail
      have own4 : w3.ownsRow (W.heap.size + 1) 28 4 v3 (i + 1) (rowB X Y (i + 1)) := by rw [HR.out]; exact own3
      have nb : ∀ k, u7.ownBlock = some k → k ≠ W.heap.size := fun k hk => by have := HNE.out k hk; omega
      have G3 : Gr W w3 := gr3.gr (Gr.trans gwr gw5) (fun k hk => by have := HNE.out k hk; omega)
      go_roundg (n - (i + 1))
      case measure => exact hmm
      case rel => exact ⟨i + 1, by go_num, hlt, rfl, own4, gr3.cell cw5_0_0 nb, gr3.cell cw5_0_1 nb, gr3.cell cw5_0_2 nb, gr3.cell cw5_0_3 nb, (gr3.frozen zw5_0 nb).trans fw5_0_0, (gr3.frozen zw5_0 nb).trans fw5_0_1, (gr3.frozen zw5_0 nb).trans fw5_0_2, (gr3.frozen zw5_0 nb).trans fw5_0_3, G3⟩
    · obtain rfl : i = n := by omega
      have ti : decide ((i : Int) < (i : Int)) = false := decide_eq_false (by omega)
      have ti2 : decide (i < i) = false := decide_eq_false (by omega)
      have A2 := fun (w : World) (g : Gr wr w) => HA2.out w _ (rowOwn_gr HO.out g)
      have H2 := Lib.hid A2
      clear A2 hk
      go_wp2_with fail
      go_at_call 63
      refine ((H2.out _ (by go_grown))).mono ?_
      rintro e w6 ⟨rfl, hw6⟩
      have cw6_0_0 := ci hw6 (W.heap.size) 0 0 (by go_simp)
      have fw6_0_0 := fq hw6 (W.heap.size) 0 (.int .i64 0) (by go_simp) (by go_simp)
      have cw6_0_1 := ci hw6 (W.heap.size) 1 0 (by go_simp)
      have fw6_0_1 := fq hw6 (W.heap.size) 1 (.int .i64 0) (by go_simp) (by go_simp)
      have cw6_0_2 := ci hw6 (W.heap.size) 2 0 (by go_simp)
      have fw6_0_2 := fq hw6 (W.heap.size) 2 (.int .i64 0) (by go_simp) (by go_simp)
      have cw6_0_3 := ci hw6 (W.heap.size) 3 0 (by go_simp)
      have fw6_0_3 := fq hw6 (W.heap.size) 3 (.int .i64 0) (by go_simp) (by go_simp)
      have zw6_0 := zb cw6_0_0
      have gw6 : Gr wr w6 := Gr.trans (by go_grown) hw6
      clear hw6
      go_wp2_with fail
      refine bodyPost_ret (v := .tuple #[.agg #[.int .i64 m1, .int .i64 m2, .int .i64 m3, .int .i64 m4], .int .i64 0, .int .i64 0]) (by simp [results, Tryz.results37, go_sem, *]) rfl ⟨rfl, by have gg := Gr.trans gwr gw6; have gs := gg.size; go_grown⟩
end Go.Proofs.YtfobmlgpjhghdaaGreatDoor
namespace Go.Proofs.YtfobmlgpjhghdaaGreatDoor
set_option linter.unusedVariables false
set_option linter.unusedSimpArgs false
open Go.ChangeShapes Go.WideShapes Go.ChangeAt Go.RowKit
section
variable {B off cap : Nat}
set_option maxHeartbeats 4000000 in
set_option maxRecDepth 100000 in
theorem rb_1 (x y : Int) (W : World) (A1 : ∀ w, Gr W w → Calls Tryz.prog 33 #[.agg #[.int .i64 1, .slice (some ⟨B, off, none⟩) 1 cap]] w fun e w' => e = .returned (.int .i64 0) ∧ Gr w w')
    (p0 : W.cell? ⟨B, off, none⟩ = some (.int .i64 x)) (p1 : W.cell? ⟨B, off + 1, none⟩ = some (.int .i64 y)) (hB : B < W.heap.size) :
    Calls Tryz.prog 11 #[.agg #[.int .i64 1, .slice (some ⟨B, off, none⟩) 1 cap]] W fun e w' => e = .returned (.tuple #[.agg #[.int .i64 x, .int .i64 y, .int .i64 x, .int .i64 y], .int .i64 0]) ∧ Gr W w' := by
  have nB : ¬ B = W.heap.size := by omega
  have nB1 : ¬ B = W.heap.size + 1 := by omega
  have H1 := Lib.hid A1
  clear A1
  go_enter Tryz.func11, Tryz.ntmps11
  go_wp2_with fail
  go_at_call 33
  refine ((H1.out _ (by go_grown))).mono ?_
  rintro e w1 ⟨rfl, hw1⟩
  have cw1_0_0 := ci hw1 (W.heap.size) 0 1 (by go_simp)
  have cw1_0_1 := cg hw1 (W.heap.size) 1 (.slice (some ⟨B, off, none⟩) 1 cap) (by go_simp)
  have zw1_0 := zb cw1_0_0
  have cw1_1_0 := ci hw1 (W.heap.size + 1) 0 0 (by go_simp)
  have fw1_1_0 := fq hw1 (W.heap.size + 1) 0 (.int .i64 0) (by go_simp) (by go_simp)
  have cw1_1_1 := ci hw1 (W.heap.size + 1) 1 0 (by go_simp)
  have fw1_1_1 := fq hw1 (W.heap.size + 1) 1 (.int .i64 0) (by go_simp) (by go_simp)
  have cw1_1_2 := ci hw1 (W.heap.size + 1) 2 0 (by go_simp)
  have fw1_1_2 := fq hw1 (W.heap.size + 1) 2 (.int .i64 0) (by go_simp) (by go_simp)
  have cw1_1_3 := ci hw1 (W.heap.size + 1) 3 0 (by go_simp)
  have fw1_1_3 := fq hw1 (W.heap.size + 1) 3 (.int .i64 0) (by go_simp) (by go_simp)
  have zw1_1 := zb cw1_1_0
  have cw1_2_0 := ci hw1 B off x (by go_simp)
  have cw1_2_1 := ci hw1 B (off + 1) y (by go_simp)
  have gw1 : Gr W w1 := Gr.trans (by go_grown) hw1
  clear hw1
  have GS := gw1.size
  have nb : ¬ W.heap.size + 1 = w1.heap.size := by omega
  have nb2 : ¬ w1.heap.size = W.heap.size + 1 := by omega
  go_wp2_with fail
  refine bodyPost_ret (v := .tuple #[.agg #[.int .i64 x, .int .i64 y, .int .i64 x, .int .i64 y], .int .i64 0]) (by simp [results, Tryz.results11, go_sem, *]) rfl ⟨rfl, by go_grown⟩
set_option maxHeartbeats 4000000 in
set_option maxRecDepth 100000 in
theorem rb_2 (x y : Int) (W : World) (A1 : ∀ w, Gr W w → Calls Tryz.prog 33 #[.agg #[.int .i64 2, .slice (some ⟨B, off, none⟩) 1 cap]] w fun e w' => e = .returned (.int .i64 0) ∧ Gr w w')
    (p0 : W.cell? ⟨B, off, none⟩ = some (.int .i64 x)) (p1 : W.cell? ⟨B, off + 1, none⟩ = some (.int .i64 y)) (hB : B < W.heap.size) :
    Calls Tryz.prog 11 #[.agg #[.int .i64 2, .slice (some ⟨B, off, none⟩) 1 cap]] W fun e w' => e = .returned (.tuple #[.agg #[.int .i64 x, .int .i64 0, .int .i64 y, .int .i64 0], .int .i64 0]) ∧ Gr W w' := by
  have nB : ¬ B = W.heap.size := by omega
  have nB1 : ¬ B = W.heap.size + 1 := by omega
  have H1 := Lib.hid A1
  clear A1
  go_enter Tryz.func11, Tryz.ntmps11
  go_wp2_with fail
  go_at_call 33
  refine ((H1.out _ (by go_grown))).mono ?_
  rintro e w1 ⟨rfl, hw1⟩
  have cw1_0_0 := ci hw1 (W.heap.size) 0 2 (by go_simp)
  have cw1_0_1 := cg hw1 (W.heap.size) 1 (.slice (some ⟨B, off, none⟩) 1 cap) (by go_simp)
  have zw1_0 := zb cw1_0_0
  have cw1_1_0 := ci hw1 (W.heap.size + 1) 0 0 (by go_simp)
  have fw1_1_0 := fq hw1 (W.heap.size + 1) 0 (.int .i64 0) (by go_simp) (by go_simp)
  have cw1_1_1 := ci hw1 (W.heap.size + 1) 1 0 (by go_simp)
  have fw1_1_1 := fq hw1 (W.heap.size + 1) 1 (.int .i64 0) (by go_simp) (by go_simp)
  have cw1_1_2 := ci hw1 (W.heap.size + 1) 2 0 (by go_simp)
  have fw1_1_2 := fq hw1 (W.heap.size + 1) 2 (.int .i64 0) (by go_simp) (by go_simp)
  have cw1_1_3 := ci hw1 (W.heap.size + 1) 3 0 (by go_simp)
  have fw1_1_3 := fq hw1 (W.heap.size + 1) 3 (.int .i64 0) (by go_simp) (by go_simp)
  have zw1_1 := zb cw1_1_0
  have cw1_2_0 := ci hw1 B off x (by go_simp)
  have cw1_2_1 := ci hw1 B (off + 1) y (by go_simp)
  have gw1 : Gr W w1 := Gr.trans (by go_grown) hw1
  clear hw1
  have GS := gw1.size
  have nb : ¬ W.heap.size + 1 = w1.heap.size := by omega
  have nb2 : ¬ w1.heap.size = W.heap.size + 1 := by omega
  go_wp2_with fail
  refine bodyPost_ret (v := .tuple #[.agg #[.int .i64 x, .int .i64 0, .int .i64 y, .int .i64 0], .int .i64 0]) (by simp [results, Tryz.results11, go_sem, *]) rfl ⟨rfl, by go_grown⟩
set_option maxHeartbeats 4000000 in
set_option maxRecDepth 100000 in
theorem rb_3 (x y z u : Int) (W : World) (A1 : ∀ w, Gr W w → Calls Tryz.prog 33 #[.agg #[.int .i64 3, .slice (some ⟨B, off, none⟩) 2 cap]] w fun e w' => e = .returned (.int .i64 0) ∧ Gr w w')
    (p0 : W.cell? ⟨B, off, none⟩ = some (.int .i64 x)) (p1 : W.cell? ⟨B, off + 1, none⟩ = some (.int .i64 y)) (p2 : W.cell? ⟨B, off + 2, none⟩ = some (.int .i64 z)) (p3 : W.cell? ⟨B, off + 2 + 1, none⟩ = some (.int .i64 u)) (hB : B < W.heap.size) :
    Calls Tryz.prog 11 #[.agg #[.int .i64 3, .slice (some ⟨B, off, none⟩) 2 cap]] W fun e w' => e = .returned (.tuple #[.agg #[.int .i64 x, .int .i64 y, .int .i64 z, .int .i64 u], .int .i64 0]) ∧ Gr W w' := by
  have nB : ¬ B = W.heap.size := by omega
  have nB1 : ¬ B = W.heap.size + 1 := by omega
  have H1 := Lib.hid A1
  clear A1
  go_enter Tryz.func11, Tryz.ntmps11
  go_wp2_with fail
  go_at_call 33
  refine ((H1.out _ (by go_grown))).mono ?_
  rintro e w1 ⟨rfl, hw1⟩
  have cw1_0_0 := ci hw1 (W.heap.size) 0 3 (by go_simp)
  have cw1_0_1 := cg hw1 (W.heap.size) 1 (.slice (some ⟨B, off, none⟩) 2 cap) (by go_simp)
  have zw1_0 := zb cw1_0_0
  have cw1_1_0 := ci hw1 (W.heap.size + 1) 0 0 (by go_simp)
  have fw1_1_0 := fq hw1 (W.heap.size + 1) 0 (.int .i64 0) (by go_simp) (by go_simp)
  have cw1_1_1 := ci hw1 (W.heap.size + 1) 1 0 (by go_simp)
  have fw1_1_1 := fq hw1 (W.heap.size + 1) 1 (.int .i64 0) (by go_simp) (by go_simp)
  have cw1_1_2 := ci hw1 (W.heap.size + 1) 2 0 (by go_simp)
  have fw1_1_2 := fq hw1 (W.heap.size + 1) 2 (.int .i64 0) (by go_simp) (by go_simp)
  have cw1_1_3 := ci hw1 (W.heap.size + 1) 3 0 (by go_simp)
  have fw1_1_3 := fq hw1 (W.heap.size + 1) 3 (.int .i64 0) (by go_simp) (by go_simp)
  have zw1_1 := zb cw1_1_0
  have cw1_2_0 := ci hw1 B off x (by go_simp)
  have cw1_2_1 := ci hw1 B (off + 1) y (by go_simp)
  have cw1_2_2 := ci hw1 B (off + 2) z (by go_simp)
  have cw1_2_3 := ci hw1 B (off + 2 + 1) u (by go_simp)
  have zw1_2 := zb cw1_2_0
  have gw1 : Gr W w1 := Gr.trans (by go_grown) hw1
  clear hw1
  have GS := gw1.size
  have nb : ¬ W.heap.size + 1 = w1.heap.size := by omega
  have nb2 : ¬ w1.heap.size = W.heap.size + 1 := by omega
  go_wp2_with fail
  generalize hhw2 : (w1.alloc (.cells #[.int .i64 x, .int .i64 y] 26)) = w2
  have cw2_0_0 : w2.cell? ⟨W.heap.size, 0, none⟩ = some (.int .i64 3) := by subst hhw2; go_simp
  have cw2_0_1 : w2.cell? ⟨W.heap.size, 1, none⟩ = some (.slice (some ⟨B, off, none⟩) 2 cap) := by subst hhw2; go_simp
  have zw2_0 := zb cw2_0_0
  have cw2_1_0 : w2.cell? ⟨W.heap.size + 1, 0, none⟩ = some (.int .i64 0) := by subst hhw2; go_simp
  have fw2_1_0 : w2.frozen? ⟨W.heap.size + 1, 0, none⟩ = false := by subst hhw2; go_simp
  have cw2_1_1 : w2.cell? ⟨W.heap.size + 1, 1, none⟩ = some (.int .i64 0) := by subst hhw2; go_simp
  have fw2_1_1 : w2.frozen? ⟨W.heap.size + 1, 1, none⟩ = false := by subst hhw2; go_simp
  have cw2_1_2 : w2.cell? ⟨W.heap.size + 1, 2, none⟩ = some (.int .i64 0) := by subst hhw2; go_simp
  have fw2_1_2 : w2.frozen? ⟨W.heap.size + 1, 2, none⟩ = false := by subst hhw2; go_simp
  have cw2_1_3 : w2.cell? ⟨W.heap.size + 1, 3, none⟩ = some (.int .i64 0) := by subst hhw2; go_simp
  have fw2_1_3 : w2.frozen? ⟨W.heap.size + 1, 3, none⟩ = false := by subst hhw2; go_simp
  have zw2_1 := zb cw2_1_0
  have cw2_2_0 : w2.cell? ⟨B, off, none⟩ = some (.int .i64 x) := by subst hhw2; go_simp
  have cw2_2_1 : w2.cell? ⟨B, off + 1, none⟩ = some (.int .i64 y) := by subst hhw2; go_simp
  have cw2_2_2 : w2.cell? ⟨B, off + 2, none⟩ = some (.int .i64 z) := by subst hhw2; go_simp
  have cw2_2_3 : w2.cell? ⟨B, off + 2 + 1, none⟩ = some (.int .i64 u) := by subst hhw2; go_simp
  have zw2_2 := zb cw2_2_0
  have cw2_3_0 : w2.cell? ⟨w1.heap.size, 0, none⟩ = some (.int .i64 x) := by subst hhw2; go_simp
  have cw2_3_1 : w2.cell? ⟨w1.heap.size, 1, none⟩ = some (.int .i64 y) := by subst hhw2; go_simp
  have zw2_3 := zb cw2_3_0
  have gw2 : Gr W w2 := by subst hhw2; have gg := gw1; have gs := gg.size; go_grown
  clear hhw2 gw1 zw1_0 cw1_0_0 cw1_0_1 zw1_1 cw1_1_0 fw1_1_0 cw1_1_1 fw1_1_1 cw1_1_2 fw1_1_2 cw1_1_3 fw1_1_3 zw1_2 cw1_2_0 cw1_2_1 cw1_2_2 cw1_2_3
  go_wp2_with fail
  refine Hd.wp_region_tail 6 (by kernel_rfl) (by kernel_rfl) ?_
  intro KQ hKQ
  repeat (first | (refine Hd.wpG_skip (by decide) rfl ?_; simp only [Act.put, List.setIfInBounds_toArray, List.set_cons_zero, List.set_cons_succ]) | (refine Hd.wpG_want (by decide) rfl ?_; apply Exists.intro; refine ⟨?_, ?_⟩; (· intro wx gx; (obtain ⟨mx, rfl⟩ := gx); all_goals (apply Hd.gAt_of_quiet; intro K hK; go_big_quiet_op; first | exact hK _ rfl | (apply Exists.intro; refine ⟨fun _ => ?_, ?_⟩; (· fail); exact hK _ rfl))); try simp only [Act.put, List.setIfInBounds_toArray, List.set_cons_zero, List.set_cons_succ]))
  refine Hd.wpG_nil (hKQ _ ?_)
  clear hKQ KQ
  intro w3 hhw3
  have hw3 := Hd.gr_of_spread hhw3
  have cw3_1_0 := ci hw3 (W.heap.size + 1) 0 0 (by go_simp)
  have fw3_1_0 := fq hw3 (W.heap.size + 1) 0 (.int .i64 0) (by go_simp) (by go_simp)
  have cw3_1_1 := ci hw3 (W.heap.size + 1) 1 0 (by go_simp)
  have fw3_1_1 := fq hw3 (W.heap.size + 1) 1 (.int .i64 0) (by go_simp) (by go_simp)
  have cw3_1_2 := ci hw3 (W.heap.size + 1) 2 0 (by go_simp)
  have fw3_1_2 := fq hw3 (W.heap.size + 1) 2 (.int .i64 0) (by go_simp) (by go_simp)
  have cw3_1_3 := ci hw3 (W.heap.size + 1) 3 0 (by go_simp)
  have fw3_1_3 := fq hw3 (W.heap.size + 1) 3 (.int .i64 0) (by go_simp) (by go_simp)
  have gw3 : Gr W w3 := Gr.trans (by have gg := gw2; have gs := gg.size; go_grown) hw3
  clear hw3 hhw3 gw2 zw2_0 cw2_0_0 cw2_0_1 zw2_1 cw2_1_0 fw2_1_0 cw2_1_1 fw2_1_1 cw2_1_2 fw2_1_2 cw2_1_3 fw2_1_3 zw2_2 cw2_2_0 cw2_2_1 cw2_2_2 cw2_2_3 zw2_3 cw2_3_0 cw2_3_1
  go_wp2_with fail
  refine bodyPost_ret (v := .tuple #[.agg #[.int .i64 x, .int .i64 y, .int .i64 z, .int .i64 u], .int .i64 0]) (by simp [results, Tryz.results11, go_sem, *]) rfl ⟨rfl, by go_grown⟩
set_option maxHeartbeats 4000000 in
set_option maxRecDepth 100000 in
theorem rb_4 {n : Nat} (x y m1 m2 m3 m4 : Int) (W : World) (hn : 1 ≤ n) (A1 : ∀ w, Gr W w → Calls Tryz.prog 33 #[.agg #[.int .i64 4, .slice (some ⟨B, off, none⟩) n cap]] w fun e w' => e = .returned (.int .i64 0) ∧ Gr w w')
    (A2 : ∀ w, Gr W w → Calls Tryz.prog 37 #[.slice (some ⟨B, off, none⟩) n cap] w fun e w' => e = .returned (.tuple #[.agg #[.int .i64 m1, .int .i64 m2, .int .i64 m3, .int .i64 m4], .int .i64 0, .int .i64 0]) ∧ Gr w w')
    (p0 : W.cell? ⟨B, off, none⟩ = some (.int .i64 x)) (p1 : W.cell? ⟨B, off + 1, none⟩ = some (.int .i64 y)) (hB : B < W.heap.size) :
    Calls Tryz.prog 11 #[.agg #[.int .i64 4, .slice (some ⟨B, off, none⟩) n cap]] W fun e w' => e = .returned (.tuple #[.agg #[.int .i64 m1, .int .i64 m2, .int .i64 m3, .int .i64 m4], .int .i64 0]) ∧ Gr W w' := by
  have nB : ¬ B = W.heap.size := by omega
  have nB1 : ¬ B = W.heap.size + 1 := by omega
  have hn3 : (0 : Int) < n := by omega
  have hn4 : 0 < n := by omega
  have H1 := Lib.hid A1
  have H2 := Lib.hid A2
  clear A1 A2
  go_enter Tryz.func11, Tryz.ntmps11
  go_wp2_with fail
  go_at_call 33
  refine ((H1.out _ (by go_grown))).mono ?_
  rintro e w1 ⟨rfl, hw1⟩
  have cw1_0_0 := ci hw1 (W.heap.size) 0 4 (by go_simp)
  have cw1_0_1 := cg hw1 (W.heap.size) 1 (.slice (some ⟨B, off, none⟩) n cap) (by go_simp)
  have zw1_0 := zb cw1_0_0
  have cw1_1_0 := ci hw1 (W.heap.size + 1) 0 0 (by go_simp)
  have fw1_1_0 := fq hw1 (W.heap.size + 1) 0 (.int .i64 0) (by go_simp) (by go_simp)
  have cw1_1_1 := ci hw1 (W.heap.size + 1) 1 0 (by go_simp)
  have fw1_1_1 := fq hw1 (W.heap.size + 1) 1 (.int .i64 0) (by go_simp) (by go_simp)
  have cw1_1_2 := ci hw1 (W.heap.size + 1) 2 0 (by go_simp)
  have fw1_1_2 := fq hw1 (W.heap.size + 1) 2 (.int .i64 0) (by go_simp) (by go_simp)
  have cw1_1_3 := ci hw1 (W.heap.size + 1) 3 0 (by go_simp)
  have fw1_1_3 := fq hw1 (W.heap.size + 1) 3 (.int .i64 0) (by go_simp) (by go_simp)
  have zw1_1 := zb cw1_1_0
  have cw1_2_0 := ci hw1 B off x (by go_simp)
  have cw1_2_1 := ci hw1 B (off + 1) y (by go_simp)
  have gw1 : Gr W w1 := Gr.trans (by go_grown) hw1
  clear hw1
  have GS := gw1.size
  have nb : ¬ W.heap.size + 1 = w1.heap.size := by omega
  have nb2 : ¬ w1.heap.size = W.heap.size + 1 := by omega
  go_wp2_with fail
  go_at_call 37
  refine ((H2.out _ (by have gg := gw1; have gs := gg.size; go_grown))).mono ?_
  rintro e w2 ⟨rfl, hw2⟩
  have cw2_1_0 := ci hw2 (W.heap.size + 1) 0 0 (by go_simp)
  have fw2_1_0 := fq hw2 (W.heap.size + 1) 0 (.int .i64 0) (by go_simp) (by go_simp)
  have cw2_1_1 := ci hw2 (W.heap.size + 1) 1 0 (by go_simp)
  have fw2_1_1 := fq hw2 (W.heap.size + 1) 1 (.int .i64 0) (by go_simp) (by go_simp)
  have cw2_1_2 := ci hw2 (W.heap.size + 1) 2 0 (by go_simp)
  have fw2_1_2 := fq hw2 (W.heap.size + 1) 2 (.int .i64 0) (by go_simp) (by go_simp)
  have cw2_1_3 := ci hw2 (W.heap.size + 1) 3 0 (by go_simp)
  have fw2_1_3 := fq hw2 (W.heap.size + 1) 3 (.int .i64 0) (by go_simp) (by go_simp)
  have zw2_1 := zb cw2_1_0
  have gw2 : Gr W w2 := Gr.trans (by have gg := gw1; have gs := gg.size; go_grown) hw2
  clear hw2 gw1 zw1_0 cw1_0_0 cw1_0_1 zw1_1 cw1_1_0 fw1_1_0 cw1_1_1 fw1_1_1 cw1_1_2 fw1_1_2 cw1_1_3 fw1_1_3 cw1_2_0 cw1_2_1
  have GS2 := gw2.size
  have nc : ¬ W.heap.size + 1 = w2.heap.size := by omega
  have nc2 : ¬ w2.heap.size = W.heap.size + 1 := by omega
  go_wp2_with fail
  refine bodyPost_ret (v := .tuple #[.agg #[.int .i64 m1, .int .i64 m2, .int .i64 m3, .int .i64 m4], .int .i64 0]) (by simp [results, Tryz.results11, go_sem, *]) rfl ⟨rfl, by go_grown⟩
end
set_option maxHeartbeats 4000000 in
set_option maxRecDepth 100000 in
theorem rb_no (k : Int) (ad : Option Addr) (n cap c : Nat) (W : World) (hc : c ≠ 0) (A1 : ∀ w, Gr W w → Calls Tryz.prog 33 #[.agg #[.int .i64 k, .slice ad n cap]] w fun e w' => e = .returned (.int .i64 (c : Nat)) ∧ Gr w w') :
    Calls Tryz.prog 11 #[.agg #[.int .i64 k, .slice ad n cap]] W fun e w' => e = .returned (.tuple #[.agg #[.int .i64 0, .int .i64 0, .int .i64 0, .int .i64 0], .int .i64 (c : Nat)]) ∧ Gr W w' := by
  have e1 : ((c : Int) != 0) = true := by simp; omega
  have e2 : (c != 0) = true := by simp; omega
  have H1 := Lib.hid A1
  clear A1
  clear hc
  go_enter Tryz.func11, Tryz.ntmps11
  go_wp2_with fail
  go_at_call 33
  refine ((H1.out _ (by go_grown))).mono ?_
  rintro e w1 ⟨rfl, hw1⟩
  have cw1_1_0 := ci hw1 (W.heap.size + 1) 0 0 (by go_simp)
  have fw1_1_0 := fq hw1 (W.heap.size + 1) 0 (.int .i64 0) (by go_simp) (by go_simp)
  have cw1_1_1 := ci hw1 (W.heap.size + 1) 1 0 (by go_simp)
  have fw1_1_1 := fq hw1 (W.heap.size + 1) 1 (.int .i64 0) (by go_simp) (by go_simp)
  have cw1_1_2 := ci hw1 (W.heap.size + 1) 2 0 (by go_simp)
  have fw1_1_2 := fq hw1 (W.heap.size + 1) 2 (.int .i64 0) (by go_simp) (by go_simp)
  have cw1_1_3 := ci hw1 (W.heap.size + 1) 3 0 (by go_simp)
  have fw1_1_3 := fq hw1 (W.heap.size + 1) 3 (.int .i64 0) (by go_simp) (by go_simp)
  have gw1 : Gr W w1 := Gr.trans (by go_grown) hw1
  clear hw1
  have GS := gw1.size
  go_wp2_with fail
  refine bodyPost_ret (v := .tuple #[.agg #[.int .i64 0, .int .i64 0, .int .i64 0, .int .i64 0], .int .i64 (c : Nat)]) (by simp [results, Tryz.results11, go_sem, *]) rfl ⟨rfl, by go_grown⟩
section
variable {k : Int} {n : Nat} {X Y : Nat → Int} {v : Value}
theorem c_rBoundsOk (W : World) (h : Pts W v n X Y) (hc : objC k n X Y = 0) : Calls Tryz.prog 11 #[.agg #[.int .i64 k, v]] W fun e w' => e = .returned (.tuple #[.agg #[.int .i64 (bLx k n X), .int .i64 (bLy k n Y), .int .i64 (bHx k n X Y), .int .i64 (bHy k n Y)], .int .i64 0]) ∧ Gr W w' := by
  have A1 : ∀ w, Gr W w → Calls Tryz.prog 33 #[.agg #[.int .i64 k, v]] w fun e w' => e = .returned (.int .i64 0) ∧ Gr w w' := fun w g => by
    have := c_rCheck k w (pts_gr h g)
    rw [hc] at this
    exact this
  have hh := h
  obtain ⟨ad, cap, B, off, rfl, q1, q2, q3, q4⟩ := h
  by_cases k4 : k = 4
  · unfold bLx bLy bHx bHy
    rw [if_pos k4, if_pos k4, if_pos k4, if_pos k4]
    subst k4
    rw [objC_4] at hc
    have h3 := (Rg.ringC_ok hc).1
    obtain rfl := q3 (by omega)
    obtain ⟨c0, c1⟩ := q4 0 (by omega)
    rw [Nat.zero_mul, Nat.add_zero] at c0 c1
    exact rb_4 (X 0) (Y 0) _ _ _ _ W (by omega) A1 (fun w g => c_rRingBox_ok w (pts_gr hh g) (Rg.ringC_ok hc).2.2.2) c0 c1 (World.block_lt_of_cell? _ _ c0)
  · unfold bLx bLy bHx bHy
    rw [if_neg k4, if_neg k4, if_neg k4, if_neg k4]
    obtain ⟨hk, -, -⟩ := obj_box hc k4
    unfold oLy oHx oHy
    rcases hk with ⟨rfl, rfl⟩ | ⟨rfl, rfl⟩ | ⟨rfl, rfl⟩
    · obtain rfl := q3 (by omega)
      obtain ⟨c0, c1⟩ := q4 0 (by omega)
      rw [Nat.zero_mul, Nat.add_zero] at c0 c1
      exact rb_1 (X 0) (Y 0) W A1 c0 c1 (World.block_lt_of_cell? _ _ c0)
    · obtain rfl := q3 (by omega)
      obtain ⟨c0, c1⟩ := q4 0 (by omega)
      rw [Nat.zero_mul, Nat.add_zero] at c0 c1
      exact rb_2 (X 0) (Y 0) W A1 c0 c1 (World.block_lt_of_cell? _ _ c0)
    · obtain rfl := q3 (by omega)
      obtain ⟨c0, c1⟩ := q4 0 (by omega)
      obtain ⟨c2, c3⟩ := q4 1 (by omega)
      rw [Nat.zero_mul, Nat.add_zero] at c0 c1
      rw [Nat.one_mul] at c2 c3
      exact rb_3 (X 0) (Y 0) (X 1) (Y 1) W A1 c0 c1 c2 c3 (World.block_lt_of_cell? _ _ c0)
theorem c_rBoundsNo (W : World) (h : Pts W v n X Y) (hc : objC k n X Y ≠ 0) : Calls Tryz.prog 11 #[.agg #[.int .i64 k, v]] W fun e w' => e = .returned (.tuple #[.agg #[.int .i64 0, .int .i64 0, .int .i64 0, .int .i64 0], .int .i64 (objC k n X Y : Nat)]) ∧ Gr W w' := by
  have A1 := fun w (g : Gr W w) => c_rCheck k w (pts_gr h g)
  obtain ⟨ad, cap, B, off, rfl, -⟩ := h
  exact rb_no k ad n cap _ W hc A1
end
set_option maxHeartbeats 8000000 in
set_option maxRecDepth 100000 in
theorem c_rringBox {n : Nat} {X Y : Nat → Int} {v : Value} (lx ly hx hy : Int) (W : World) (h : Pts W v n X Y) (h0 : (Rg.ringC n X Y).1 = 0) (hb : boxB lx ly hx hy = true) :
    Calls Tryz.prog 44 #[v, .agg #[.int .i64 lx, .int .i64 ly, .int .i64 hx, .int .i64 hy]] W fun e w' => e = .returned (.bool (rmD n X Y lx ly hx hy)) ∧ Gr W w' := by
  obtain ⟨hn0, hnr, -⟩ := Rg.ringC_ok h0
  have A1 : ∀ w, Gr W w → _ := fun w g => c_rhas w (pts_gr h g) (by omega) hnr lx ly (boxB_iff.1 hb).1.1
  have E : rmD n X Y lx ly hx hy = true ↔ Rg.hasN n X Y lx ly = true ∨ ∃ i, i < n ∧ mbG (X i) (Y i) (X (Rg.nx1 n i)) (Y (Rg.nx1 n i)) lx ly hx hy = true := by unfold rmD; rw [Bool.or_eq_true, mbW_iff]
  generalize rmD n X Y lx ly hx hy = z at E ⊢
  generalize Rg.hasN n X Y lx ly = t at A1 E
  have HE := Lib.hid E
  have hn9 : (n : Int) ≤ 64 := by omega
  have hn8 : n ≤ 64 := by omega
  obtain ⟨ad, cap, B, off, rfl, q1, q2, h3, h4⟩ := h
  have H3 := Lib.hid h3
  have H4 := Lib.hid h4
  have HA := Lib.hid A1
  clear h3 h4 A1 E hnr h0 hb hn0
  cases t
  · go_enter Tryz.func44, Tryz.ntmps44
    go_wp2_with fail
    go_at_call 47
    refine ((HA.out _ (by go_grown))).mono ?_
    rintro e w1 ⟨rfl, hw1⟩
    have cw1_0_0 := ci hw1 (W.heap.size) 0 lx (by go_simp)
    have cw1_0_1 := ci hw1 (W.heap.size) 1 ly (by go_simp)
    have cw1_0_2 := ci hw1 (W.heap.size) 2 hx (by go_simp)
    have cw1_0_3 := ci hw1 (W.heap.size) 3 hy (by go_simp)
    have gw1 : Gr W w1 := Gr.trans (by go_grown) hw1
    clear hw1
    go_wp2_with fail
    go_loopg [5] n (fun k u wr => ∃ i : Nat, u = .int .i64 i ∧ i ≤ n ∧ k = n - i ∧ Hid (∀ j, j < i → mbG (X j) (Y j) (X (Rg.nx1 n j)) (Y (Rg.nx1 n j)) lx ly hx hy = false) ∧ wr.cell? ⟨W.heap.size, 0, none⟩ = some (.int .i64 lx) ∧ wr.cell? ⟨W.heap.size, 1, none⟩ = some (.int .i64 ly) ∧ wr.cell? ⟨W.heap.size, 2, none⟩ = some (.int .i64 hx) ∧ wr.cell? ⟨W.heap.size, 3, none⟩ = some (.int .i64 hy) ∧ Gr W wr)
    case atStart => exact ⟨0, rfl, Nat.zero_le _, by omega, Lib.hid (fun j hj => absurd hj (by omega)), cw1_0_0, cw1_0_1, cw1_0_2, cw1_0_3, gw1⟩
    case round =>
      obtain ⟨i, rfl, hi, hk, HO, c0, c1, c2, c3, gwr⟩ := hrel
      have zp := zb c0
      clear gw1 cw1_0_0 cw1_0_1 cw1_0_2 cw1_0_3
      by_cases hlt : i < n
      · have ti : decide ((i : Int) < (n : Int)) = true := decide_eq_true (by omega)
        have ti2 : decide (i < n) = true := decide_eq_true hlt
        have hii : (i : Int) ≤ 1000 := by omega
        have hmm : n - (i + 1) < gk := by omega
        have hnx := nx_lt hlt
        obtain ⟨k0, k1⟩ := H4.out i hlt
        obtain ⟨m0, m1⟩ := H4.out _ hnx
        obtain rfl := H3.out (by omega)
        have s0 := cell_gr gwr k0
        have s1 := cell_gr gwr k1
        have r0 := cell_gr gwr m0
        have r1 := cell_gr gwr m1
        have zB := zb s0
        have hrem := nx_rem hlt (by omega : n ≤ 1000000)
        have CO := c_rMeetsBox (X i) (Y i) (X (Rg.nx1 n i)) (Y (Rg.nx1 n i)) lx ly hx hy
        have HM := Lib.hid (show mbG (X i) (Y i) (X (Rg.nx1 n i)) (Y (Rg.nx1 n i)) lx ly hx hy = true → z = true from fun q => HE.out.2 (Or.inr ⟨i, hlt, q⟩))
        have HN := Lib.hid (show mbG (X i) (Y i) (X (Rg.nx1 n i)) (Y (Rg.nx1 n i)) lx ly hx hy = false → Hid (∀ j, j < i + 1 → mbG (X j) (Y j) (X (Rg.nx1 n j)) (Y (Rg.nx1 n j)) lx ly hx hy = false) from fun q => Lib.hid (fun j hj => by
          rcases Nat.lt_or_ge j i with g | g
          · exact HO.out j g
          · obtain rfl : j = i := by omega
            exact q))
        generalize mbG (X i) (Y i) (X (Rg.nx1 n i)) (Y (Rg.nx1 n i)) lx ly hx hy = og at CO HM HN
        generalize X (Rg.nx1 n i) = xj at *
        generalize Y (Rg.nx1 n i) = yj at *
        generalize X i = xi at *
        generalize Y i = yi at *
        generalize Rg.nx1 n i = j at *
        have HCO := Lib.hid CO
        have hj9 : (j : Int) ≤ 1000 := by omega
        have tj : decide ((j : Int) < (n : Int)) = true := decide_eq_true (by omega)
        have tj3 : (j : Int) < (n : Int) := by omega
        have ti3 : (i : Int) < (n : Int) := by omega
        have nz : ((n : Int) == 0) = false := by simp; omega
        have nz2 : (n : Int) ≠ 0 := by omega
        have nz3 : (0 : Int) < n := by omega
        have q1 := hrem.1
        have q2 := hrem.2
        have w1 : IntKind.i64.wrap ((i : Int) + 1) = (i : Int) + 1 := IntWalk.i64_in _ (by omega)
        have w2 : IntKind.i64.wrap (j : Int) = (j : Int) := IntWalk.i64_in _ (by omega)
        clear CO k0 k1 m0 m1 hk hrem
        go_wp2_with fail
        try simp only [List.append]
        refine Od.wp_region_ord [(0, false), (1, false), (2, false), (3, false), (4, false), (5, false), (6, false), (7, false), (8, false), (9, false), (10, false), (11, false), (12, false), (13, true)] (by kernel_rfl) (by kernel_rfl) ?_
        intro wa hwa KQ hKQ
        have cwa_0_0 := ci hwa (W.heap.size) 0 lx (by go_simp)
        have cwa_0_1 := ci hwa (W.heap.size) 1 ly (by go_simp)
        have cwa_0_2 := ci hwa (W.heap.size) 2 hx (by go_simp)
        have cwa_0_3 := ci hwa (W.heap.size) 3 hy (by go_simp)
        have cwa_1_0 := ci hwa B (off + i * 2) xi (by go_simp)
        have cwa_1_1 := ci hwa B (off + i * 2 + 1) yi (by go_simp)
        have cwa_1_2 := ci hwa B (off + j * 2) xj (by go_simp)
        have cwa_1_3 := ci hwa B (off + j * 2 + 1) yj (by go_simp)
        have gwa : Gr W wa := Gr.trans (by have gg := gwr; have gs := gg.size; go_grown) hwa
        clear gwr
        clear hwa
        repeat (first | (refine Od.wpO_skip (by simp only [List.getElem?_toArray, List.getElem?_cons_succ, List.getElem?_cons_zero] <;> rfl) rfl ?_; simp only [Act.put, List.setIfInBounds_toArray, List.set_cons_zero, List.set_cons_succ]) | (refine Od.wpO_pure (by simp only [List.getElem?_toArray, List.getElem?_cons_succ, List.getElem?_cons_zero] <;> rfl) rfl ?_; apply Exists.intro; refine ⟨?_, ?_⟩; (· intro wx gx; obtain ⟨mx, rfl⟩ := spread_of_gr gx; clear gx; all_goals (apply Od.pAt_of_quiet; intro K hK; go_big_quiet_op; first | exact hK _ rfl | (apply Exists.intro; refine ⟨fun _ => ?_, ?_⟩; (· fail); exact hK _ rfl))); try simp only [Act.put, List.setIfInBounds_toArray, List.set_cons_zero, List.set_cons_succ]))
        refine Od.wpO_call (by simp only [List.getElem?_toArray, List.getElem?_cons_succ, List.getElem?_cons_zero] <;> rfl) rfl ?_
        intro QS hQS
        go_wp2_with fail
        go_at_call 71
        (with_reducible refine ((HCO.out _)).mono ?_)
        rintro e wb ⟨rfl, hwb⟩
        go_wp2_with fail
        apply Exists.intro
        refine ⟨?_, hwb, ?_⟩
        · simp only [Act.put, List.setIfInBounds_toArray, List.set_cons_zero, List.set_cons_succ]; rfl
        have cwb_0_0 := ci hwb (W.heap.size) 0 lx (by go_simp)
        have cwb_0_1 := ci hwb (W.heap.size) 1 ly (by go_simp)
        have cwb_0_2 := ci hwb (W.heap.size) 2 hx (by go_simp)
        have cwb_0_3 := ci hwb (W.heap.size) 3 hy (by go_simp)
        have gwb : Gr W wb := Gr.trans (by have gg := gwa; have gs := gg.size; go_grown) hwb
        clear gwa cwa_0_0 cwa_0_1 cwa_0_2 cwa_0_3 cwa_1_0 cwa_1_1 cwa_1_2 cwa_1_3
        clear hwb
        try simp only [Act.put, List.setIfInBounds_toArray, List.set_cons_zero, List.set_cons_succ]
        repeat (first | (refine Od.wpO_skip (by simp only [List.getElem?_toArray, List.getElem?_cons_succ, List.getElem?_cons_zero] <;> rfl) rfl ?_; simp only [Act.put, List.setIfInBounds_toArray, List.set_cons_zero, List.set_cons_succ]) | (refine Od.wpO_pure (by simp only [List.getElem?_toArray, List.getElem?_cons_succ, List.getElem?_cons_zero] <;> rfl) rfl ?_; apply Exists.intro; refine ⟨?_, ?_⟩; (· intro wx gx; obtain ⟨mx, rfl⟩ := spread_of_gr gx; clear gx; all_goals (apply Od.pAt_of_quiet; intro K hK; go_big_quiet_op; first | exact hK _ rfl | (apply Exists.intro; refine ⟨fun _ => ?_, ?_⟩; (· fail); exact hK _ rfl))); try simp only [Act.put, List.setIfInBounds_toArray, List.set_cons_zero, List.set_cons_succ]))
        refine Od.wpO_nil (hKQ _ _ ?_)
        clear hKQ KQ
        cases og
        · go_wp2_with fail
          go_roundg (n - (i + 1))
          case measure => exact hmm
          case rel => exact ⟨i + 1, by go_num, hlt, rfl, HN.out (by first | trivial | rfl), cwb_0_0, cwb_0_1, cwb_0_2, cwb_0_3, gwb⟩
        · go_wp2_with fail
          go_ret
          exact ⟨by rw [HM.out (by first | trivial | rfl)]; rfl, gwb⟩
      · obtain rfl : i = n := by omega
        have ti : decide ((i : Int) < (i : Int)) = false := decide_eq_false (by omega)
        have ti2 : decide (i < i) = false := decide_eq_false (by omega)
        obtain rfl : z = false := by
          cases z
          · rfl
          · exfalso
            rcases HE.out.1 rfl with g | ⟨j, hj, g⟩
            · cases g
            · rw [HO.out j hj] at g; cases g
        clear hk HO
        go_wp2_with fail
        go_ret
        exact ⟨rfl, gwr⟩
  · obtain rfl : z = true := HE.out.2 (Or.inl rfl)
    go_enter Tryz.func44, Tryz.ntmps44
    go_wp2_with fail
    go_at_call 47
    refine ((HA.out _ (by go_grown))).mono ?_
    rintro e w1 ⟨rfl, hw1⟩
    have cw1_0_0 := ci hw1 (W.heap.size) 0 lx (by go_simp)
    have cw1_0_1 := ci hw1 (W.heap.size) 1 ly (by go_simp)
    have cw1_0_2 := ci hw1 (W.heap.size) 2 hx (by go_simp)
    have cw1_0_3 := ci hw1 (W.heap.size) 3 hy (by go_simp)
    have gw1 : Gr W w1 := Gr.trans (by go_grown) hw1
    clear hw1
    go_wp2_with fail
    go_ret
    exact ⟨rfl, gw1⟩
end Go.Proofs.YtfobmlgpjhghdaaGreatDoor
namespace Go.Proofs.YtfobmlgpjhghdaaGreatDoor
set_option linter.unusedVariables false
set_option linter.unusedSimpArgs false
open Go.ChangeShapes Go.WideShapes Go.ChangeAt Go.RowKit
set_option maxHeartbeats 8000000 in
set_option maxRecDepth 100000 in
theorem rrings_no {n m B off cap C oc bcap : Nat} {X Y P Q : Nat → Int} (z : Bool) (W : World) (hn0 : 1 ≤ n) (hn8 : n ≤ 64) (hm0 : 1 ≤ m) (hm8 : m ≤ 64)
    (h4 : ∀ k, k < n → W.cell? ⟨B, off + k * 2, none⟩ = some (.int .i64 (X k)) ∧ W.cell? ⟨B, off + k * 2 + 1, none⟩ = some (.int .i64 (Y k)))
    (r4 : ∀ k, k < m → W.cell? ⟨C, oc + k * 2, none⟩ = some (.int .i64 (P k)) ∧ W.cell? ⟨C, oc + k * 2 + 1, none⟩ = some (.int .i64 (Q k)))
    (A1 : ∀ w, Gr W w → Calls Tryz.prog 47 #[.slice (some ⟨B, off, none⟩) n cap, .agg #[.int .i64 (P 0), .int .i64 (Q 0)]] w fun e w' => e = .returned (.bool false) ∧ Gr w w')
    (A2 : ∀ w, Gr W w → Calls Tryz.prog 47 #[.slice (some ⟨C, oc, none⟩) m bcap, .agg #[.int .i64 (X 0), .int .i64 (Y 0)]] w fun e w' => e = .returned (.bool false) ∧ Gr w w')
    (E : z = true ↔ ∃ i k, i < n ∧ k < m ∧ meG (X i) (Y i) (X (Rg.nx1 n i)) (Y (Rg.nx1 n i)) (P k) (Q k) (P (Rg.nx1 m k)) (Q (Rg.nx1 m k)) = true) :
    Calls Tryz.prog 43 #[.slice (some ⟨B, off, none⟩) n cap, .slice (some ⟨C, oc, none⟩) m bcap] W fun e w' => e = .returned (.bool z) ∧ Gr W w' := by
  have HE := Lib.hid E
  have H4 := Lib.hid h4
  have R4 := Lib.hid r4
  obtain ⟨a0, a1⟩ := h4 0 (by omega)
  obtain ⟨b0, b1⟩ := r4 0 (by omega)
  rw [Nat.zero_mul, Nat.add_zero] at a0 a1 b0 b1
  have hn9 : (n : Int) ≤ 64 := by omega
  have hm9 : (m : Int) ≤ 64 := by omega
  have hn3 : (0 : Int) < n := by omega
  have hm3 : (0 : Int) < m := by omega
  have hn4 : 0 < n := by omega
  have hm4 : 0 < m := by omega
  have zB0 := zb a0
  have zC0 := zb b0
  generalize hx0 : X 0 = x0 at a0 A2
  generalize hy0 : Y 0 = y0 at a1 A2
  generalize hp0 : P 0 = p0 at b0 A1
  generalize hq0 : Q 0 = q0 at b1 A1
  clear hx0 hy0 hp0 hq0
  have H1 := Lib.hid A1
  have H2 := Lib.hid A2
  clear A1 A2
  clear h4 r4 E
  go_enter Tryz.func43, Tryz.ntmps43
  go_wp2_with fail
  go_at_call 47
  refine ((H1.out _ (by go_grown))).mono ?_
  rintro e w1 ⟨rfl, hw1⟩
  have cw1_0_0 := ci hw1 B off x0 (by go_simp)
  have cw1_0_1 := ci hw1 B (off + 1) y0 (by go_simp)
  have gw1 : Gr W w1 := Gr.trans (by go_grown) hw1
  clear hw1
  go_wp2_with fail
  go_at_call 47
  refine ((H2.out _ gw1)).mono ?_
  rintro e w2 ⟨rfl, hw2⟩
  have gw2 : Gr W w2 := Gr.trans (by have gg := gw1; have gs := gg.size; go_grown) hw2
  clear hw2 gw1 cw1_0_0 cw1_0_1
  clear a0 a1 b0 b1 H1 H2
  go_wp2_with fail
  go_loopg [5] n (fun g u wr => ∃ i : Nat, u = .int .i64 i ∧ i ≤ n ∧ g = n - i ∧ Hid (∀ a b, a < i → b < m → meG (X a) (Y a) (X (Rg.nx1 n a)) (Y (Rg.nx1 n a)) (P b) (Q b) (P (Rg.nx1 m b)) (Q (Rg.nx1 m b)) = false) ∧ Gr W wr)
  case atStart => exact ⟨0, rfl, Nat.zero_le _, by omega, Lib.hid (fun a b ha => absurd ha (by omega)), gw2⟩
  case round =>
    obtain ⟨i, rfl, hi, hgk, HO, gwr⟩ := hrel
    clear gw2
    by_cases hlt : i < n
    · have ti : decide ((i : Int) < (n : Int)) = true := decide_eq_true (by omega)
      have ti2 : decide (i < n) = true := decide_eq_true hlt
      have hmm : n - (i + 1) < gk := by omega
      clear hgk
      go_wp2_with fail
      go_loopg [6] m (fun g u wt => ∃ k : Nat, u = .int .i64 k ∧ k ≤ m ∧ g = m - k ∧ Hid (∀ b, b < k → meG (X i) (Y i) (X (Rg.nx1 n i)) (Y (Rg.nx1 n i)) (P b) (Q b) (P (Rg.nx1 m b)) (Q (Rg.nx1 m b)) = false) ∧ Gr W wt)
      case atStart => exact ⟨0, rfl, Nat.zero_le _, by omega, Lib.hid (fun b hb => absurd hb (by omega)), gwr⟩
      case round =>
        obtain ⟨k, rfl, hk, hgj, HP, gwt⟩ := hrel
        by_cases hlk : k < m
        · have tk : decide ((k : Int) < (m : Int)) = true := decide_eq_true (by omega)
          have tk2 : decide (k < m) = true := decide_eq_true hlk
          have hkm : m - (k + 1) < gk := by omega
          have hii : (i : Int) ≤ 1000 := by omega
          have hkk : (k : Int) ≤ 1000 := by omega
          have hnx := nx_lt hlt
          have hny := nx_lt hlk
          obtain ⟨k0, k1⟩ := H4.out i hlt
          obtain ⟨m0, m1⟩ := H4.out _ hnx
          obtain ⟨l0, l1⟩ := R4.out k hlk
          obtain ⟨o0, o1⟩ := R4.out _ hny
          have s0 := cell_gr gwt k0
          have s1 := cell_gr gwt k1
          have r0 := cell_gr gwt m0
          have r1 := cell_gr gwt m1
          have t0 := cell_gr gwt l0
          have t1 := cell_gr gwt l1
          have u0 := cell_gr gwt o0
          have u1 := cell_gr gwt o1
          have zB := zb s0
          have zC := zb t0
          have hrem := nx_rem hlt (by omega : n ≤ 1000000)
          have hren := nx_rem hlk (by omega : m ≤ 1000000)
          have CO := c_rMeet (X i) (Y i) (X (Rg.nx1 n i)) (Y (Rg.nx1 n i)) (P k) (Q k) (P (Rg.nx1 m k)) (Q (Rg.nx1 m k))
          have HM := Lib.hid (show meG (X i) (Y i) (X (Rg.nx1 n i)) (Y (Rg.nx1 n i)) (P k) (Q k) (P (Rg.nx1 m k)) (Q (Rg.nx1 m k)) = true → z = true from fun q => HE.out.2 ⟨i, k, hlt, hlk, q⟩)
          have HN := Lib.hid (show meG (X i) (Y i) (X (Rg.nx1 n i)) (Y (Rg.nx1 n i)) (P k) (Q k) (P (Rg.nx1 m k)) (Q (Rg.nx1 m k)) = false → Hid (∀ b, b < k + 1 → meG (X i) (Y i) (X (Rg.nx1 n i)) (Y (Rg.nx1 n i)) (P b) (Q b) (P (Rg.nx1 m b)) (Q (Rg.nx1 m b)) = false) from fun q => Lib.hid (fun b hb => by
            rcases Nat.lt_or_ge b k with g | g
            · exact HP.out b g
            · obtain rfl : b = k := by omega
              exact q))
          generalize meG (X i) (Y i) (X (Rg.nx1 n i)) (Y (Rg.nx1 n i)) (P k) (Q k) (P (Rg.nx1 m k)) (Q (Rg.nx1 m k)) = og at CO HM HN
          clear HP HO
          generalize X (Rg.nx1 n i) = xj at CO r0
          generalize Y (Rg.nx1 n i) = yj at CO r1
          generalize X i = xi at CO s0
          generalize Y i = yi at CO s1
          generalize P (Rg.nx1 m k) = pj at CO u0
          generalize Q (Rg.nx1 m k) = qj at CO u1
          generalize P k = pk at CO t0
          generalize Q k = qk at CO t1
          generalize Rg.nx1 n i = j at r0 r1 hnx hrem
          generalize Rg.nx1 m k = l at u0 u1 hny hren
          have HCO := Lib.hid CO
          have hj9 : (j : Int) ≤ 1000 := by omega
          have hl9 : (l : Int) ≤ 1000 := by omega
          have tj : decide ((j : Int) < (n : Int)) = true := decide_eq_true (by omega)
          have tj3 : (j : Int) < (n : Int) := by omega
          have ti3 : (i : Int) < (n : Int) := by omega
          have tl : decide ((l : Int) < (m : Int)) = true := decide_eq_true (by omega)
          have tl3 : (l : Int) < (m : Int) := by omega
          have tk3 : (k : Int) < (m : Int) := by omega
          have nz : ((n : Int) == 0) = false := by simp; omega
          have nz2 : (n : Int) ≠ 0 := by omega
          have mz : ((m : Int) == 0) = false := by simp; omega
          have mz2 : (m : Int) ≠ 0 := by omega
          have q1 := hrem.1
          have q2 := hrem.2
          have q3 := hren.1
          have q4 := hren.2
          have w1 : IntKind.i64.wrap ((i : Int) + 1) = (i : Int) + 1 := IntWalk.i64_in _ (by omega)
          have w2 : IntKind.i64.wrap (j : Int) = (j : Int) := IntWalk.i64_in _ (by omega)
          have w3 : IntKind.i64.wrap ((k : Int) + 1) = (k : Int) + 1 := IntWalk.i64_in _ (by omega)
          have w4 : IntKind.i64.wrap (l : Int) = (l : Int) := IntWalk.i64_in _ (by omega)
          clear CO k0 k1 m0 m1 l0 l1 o0 o1 hgj hrem hren
          go_wp2_with fail
          try simp only [List.append]
          refine Od.wp_region_ord [(0, false), (1, false), (2, false), (3, false), (4, false), (5, false), (6, false), (7, false), (8, false), (9, false), (10, false), (11, false), (12, false), (13, false), (14, false), (15, false), (16, false), (17, false), (18, false), (19, false), (20, false), (21, false), (22, false), (23, false), (24, true)] (by kernel_rfl) (by kernel_rfl) ?_
          intro wa hwa KQ hKQ
          have cwa_0_0 := ci hwa B (off + i * 2) xi (by go_simp)
          have cwa_0_1 := ci hwa B (off + i * 2 + 1) yi (by go_simp)
          have cwa_0_2 := ci hwa B (off + j * 2) xj (by go_simp)
          have cwa_0_3 := ci hwa B (off + j * 2 + 1) yj (by go_simp)
          have cwa_1_0 := ci hwa C (oc + k * 2) pk (by go_simp)
          have cwa_1_1 := ci hwa C (oc + k * 2 + 1) qk (by go_simp)
          have cwa_1_2 := ci hwa C (oc + l * 2) pj (by go_simp)
          have cwa_1_3 := ci hwa C (oc + l * 2 + 1) qj (by go_simp)
          have gwa : Gr W wa := Gr.trans (by have gg := gwr; have gs := gg.size; go_grown) hwa
          clear gwr
          clear hwa
          repeat (first | (refine Od.wpO_skip (by simp only [List.getElem?_toArray, List.getElem?_cons_succ, List.getElem?_cons_zero] <;> rfl) rfl ?_; simp only [Act.put, List.setIfInBounds_toArray, List.set_cons_zero, List.set_cons_succ]) | (refine Od.wpO_pure (by simp only [List.getElem?_toArray, List.getElem?_cons_succ, List.getElem?_cons_zero] <;> rfl) rfl ?_; apply Exists.intro; refine ⟨?_, ?_⟩; (· intro wx gx; obtain ⟨mx, rfl⟩ := spread_of_gr gx; clear gx; all_goals (apply Od.pAt_of_quiet; intro K hK; go_big_quiet_op; first | exact hK _ rfl | (apply Exists.intro; refine ⟨fun _ => ?_, ?_⟩; (· fail); exact hK _ rfl))); try simp only [Act.put, List.setIfInBounds_toArray, List.set_cons_zero, List.set_cons_succ]))
          refine Od.wpO_call (by simp only [List.getElem?_toArray, List.getElem?_cons_succ, List.getElem?_cons_zero] <;> rfl) rfl ?_
          intro QS hQS
          go_wp2_with fail
          go_at_call 70
          (with_reducible refine ((HCO.out _)).mono ?_)
          rintro e wb ⟨rfl, hwb⟩
          go_wp2_with fail
          apply Exists.intro
          refine ⟨?_, hwb, ?_⟩
          · simp only [Act.put, List.setIfInBounds_toArray, List.set_cons_zero, List.set_cons_succ]; rfl
          have gwb : Gr W wb := Gr.trans (by have gg := gwa; have gs := gg.size; go_grown) hwb
          clear gwa cwa_0_0 cwa_0_1 cwa_0_2 cwa_0_3 cwa_1_0 cwa_1_1 cwa_1_2 cwa_1_3
          clear hwb
          try simp only [Act.put, List.setIfInBounds_toArray, List.set_cons_zero, List.set_cons_succ]
          repeat (first | (refine Od.wpO_skip (by simp only [List.getElem?_toArray, List.getElem?_cons_succ, List.getElem?_cons_zero] <;> rfl) rfl ?_; simp only [Act.put, List.setIfInBounds_toArray, List.set_cons_zero, List.set_cons_succ]) | (refine Od.wpO_pure (by simp only [List.getElem?_toArray, List.getElem?_cons_succ, List.getElem?_cons_zero] <;> rfl) rfl ?_; apply Exists.intro; refine ⟨?_, ?_⟩; (· intro wx gx; obtain ⟨mx, rfl⟩ := spread_of_gr gx; clear gx; all_goals (apply Od.pAt_of_quiet; intro K hK; go_big_quiet_op; first | exact hK _ rfl | (apply Exists.intro; refine ⟨fun _ => ?_, ?_⟩; (· fail); exact hK _ rfl))); try simp only [Act.put, List.setIfInBounds_toArray, List.set_cons_zero, List.set_cons_succ]))
          refine Od.wpO_nil (hKQ _ _ ?_)
          clear hKQ KQ
          cases og
          · go_wp2_with fail
            go_roundg (m - (k + 1))
            case measure => exact hkm
            case rel => exact ⟨k + 1, by go_num, hlk, rfl, HN.out (by first | trivial | rfl), gwb⟩
          · go_wp2_with fail
            go_ret
            exact ⟨by rw [HM.out (by first | trivial | rfl)]; rfl, gwb⟩
        · obtain rfl : k = m := by omega
          have tk : decide ((k : Int) < (k : Int)) = false := decide_eq_false (by omega)
          have tk2 : decide (k < k) = false := decide_eq_false (by omega)
          have HQ := Lib.hid (show Hid (∀ a b, a < i + 1 → b < k → meG (X a) (Y a) (X (Rg.nx1 n a)) (Y (Rg.nx1 n a)) (P b) (Q b) (P (Rg.nx1 k b)) (Q (Rg.nx1 k b)) = false) from Lib.hid (fun a b ha hb => by
            rcases Nat.lt_or_ge a i with g | g
            · exact HO.out a b g hb
            · obtain rfl : a = i := by omega
              exact HP.out b hb))
          clear hgj HP HO
          go_wp2_with fail
          go_roundg (n - (i + 1))
          case measure => exact hmm
          case rel => exact ⟨i + 1, by go_num, hlt, rfl, HQ.out, gwt⟩
    · obtain rfl : i = n := by omega
      have ti : decide ((i : Int) < (i : Int)) = false := decide_eq_false (by omega)
      have ti2 : decide (i < i) = false := decide_eq_false (by omega)
      obtain rfl : z = false := by
        cases z
        · rfl
        · exfalso
          obtain ⟨a, b, ha, hb, g⟩ := HE.out.1 rfl
          rw [HO.out a b ha hb] at g
          cases g
      clear hgk HO
      go_wp2_with fail
      go_ret
      exact ⟨rfl, gwr⟩
set_option maxHeartbeats 8000000 in
set_option maxRecDepth 100000 in
theorem rrings_yes {n m B off cap C oc bcap : Nat} {x0 y0 p0 q0 : Int} (t1 t2 : Bool) (W : World) (hn0 : 1 ≤ n) (hm0 : 1 ≤ m) (ht : t1 = true ∨ t2 = true)
    (a0 : W.cell? ⟨B, off, none⟩ = some (.int .i64 x0)) (a1 : W.cell? ⟨B, off + 1, none⟩ = some (.int .i64 y0)) (b0 : W.cell? ⟨C, oc, none⟩ = some (.int .i64 p0)) (b1 : W.cell? ⟨C, oc + 1, none⟩ = some (.int .i64 q0))
    (A1 : ∀ w, Gr W w → Calls Tryz.prog 47 #[.slice (some ⟨B, off, none⟩) n cap, .agg #[.int .i64 p0, .int .i64 q0]] w fun e w' => e = .returned (.bool t1) ∧ Gr w w')
    (A2 : ∀ w, Gr W w → Calls Tryz.prog 47 #[.slice (some ⟨C, oc, none⟩) m bcap, .agg #[.int .i64 x0, .int .i64 y0]] w fun e w' => e = .returned (.bool t2) ∧ Gr w w') :
    Calls Tryz.prog 43 #[.slice (some ⟨B, off, none⟩) n cap, .slice (some ⟨C, oc, none⟩) m bcap] W fun e w' => e = .returned (.bool true) ∧ Gr W w' := by
  have hn3 : (0 : Int) < n := by omega
  have hm3 : (0 : Int) < m := by omega
  have hn4 : 0 < n := by omega
  have hm4 : 0 < m := by omega
  have zB0 := zb a0
  have zC0 := zb b0
  have H1 := Lib.hid A1
  have H2 := Lib.hid A2
  clear A1 A2
  cases t1
  · obtain rfl : t2 = true := ht.resolve_left (by decide)
    go_enter Tryz.func43, Tryz.ntmps43
    go_wp2_with fail
    go_at_call 47
    refine ((H1.out _ (by go_grown))).mono ?_
    rintro e w1 ⟨rfl, hw1⟩
    have cw1_0_0 := ci hw1 B off x0 (by go_simp)
    have cw1_0_1 := ci hw1 B (off + 1) y0 (by go_simp)
    have gw1 : Gr W w1 := Gr.trans (by go_grown) hw1
    clear hw1
    go_wp2_with fail
    go_at_call 47
    refine ((H2.out _ gw1)).mono ?_
    rintro e w2 ⟨rfl, hw2⟩
    have gw2 : Gr W w2 := Gr.trans (by have gg := gw1; have gs := gg.size; go_grown) hw2
    clear hw2 gw1 cw1_0_0 cw1_0_1
    go_wp2_with fail
    go_ret
    exact ⟨rfl, gw2⟩
  · clear H2 ht
    go_enter Tryz.func43, Tryz.ntmps43
    go_wp2_with fail
    go_at_call 47
    refine ((H1.out _ (by go_grown))).mono ?_
    rintro e w1 ⟨rfl, hw1⟩
    have cw1_0_0 := ci hw1 B off x0 (by go_simp)
    have cw1_0_1 := ci hw1 B (off + 1) y0 (by go_simp)
    have gw1 : Gr W w1 := Gr.trans (by go_grown) hw1
    clear hw1
    go_wp2_with fail
    go_ret
    exact ⟨rfl, gw1⟩
theorem c_rrings {n m : Nat} {X Y P Q : Nat → Int} {v u : Value} (W : World) (h : Pts W v n X Y) (hu : Pts W u m P Q) (h0 : (Rg.ringC n X Y).1 = 0) (h9 : (Rg.ringC m P Q).1 = 0) : Calls Tryz.prog 43 #[v, u] W fun e w' => e = .returned (.bool (rgD n X Y m P Q)) ∧ Gr W w' := by
  obtain ⟨hn0, hnr, -⟩ := Rg.ringC_ok h0
  obtain ⟨hm0, hmr, -⟩ := Rg.ringC_ok h9
  have A1 : ∀ w, Gr W w → _ := fun w g => c_rhas w (pts_gr h g) (by omega) hnr (P 0) (Q 0) (hmr 0 (by omega))
  have A2 : ∀ w, Gr W w → _ := fun w g => c_rhas w (pts_gr hu g) (by omega) hmr (X 0) (Y 0) (hnr 0 (by omega))
  have E := rgD_iff (n := n) (m := m) (X := X) (Y := Y) (P := P) (Q := Q)
  obtain ⟨ad, cap, B, off, rfl, q1, q2, q3, q4⟩ := h
  obtain ⟨bd, bcap, C, oc, rfl, r1, r2, r3, r4⟩ := hu
  obtain rfl := q3 (by omega)
  obtain rfl := r3 (by omega)
  by_cases t : Rg.hasN n X Y (P 0) (Q 0) = true ∨ Rg.hasN m P Q (X 0) (Y 0) = true
  · have e : rgD n X Y m P Q = true := E.2 (by rcases t with t | t <;> simp [t])
    rw [e]
    obtain ⟨a0, a1⟩ := q4 0 (by omega)
    obtain ⟨b0, b1⟩ := r4 0 (by omega)
    rw [Nat.zero_mul, Nat.add_zero] at a0 a1 b0 b1
    exact rrings_yes _ _ W (by omega) (by omega) t a0 a1 b0 b1 A1 A2
  · have t1 : Rg.hasN n X Y (P 0) (Q 0) = false := by
      cases g : Rg.hasN n X Y (P 0) (Q 0)
      · rfl
      · exact absurd (Or.inl g) t
    have t2 : Rg.hasN m P Q (X 0) (Y 0) = false := by
      cases g : Rg.hasN m P Q (X 0) (Y 0)
      · rfl
      · exact absurd (Or.inr g) t
    rw [t1] at A1
    rw [t2] at A2
    refine rrings_no (rgD n X Y m P Q) W (by omega) (by omega) (by omega) (by omega) q4 r4 A1 A2 ?_
    rw [E, t1, t2]
    simp
theorem meV_m (lx ly hx hy mx my nx ny : Int) : meV lx ly hx hy mx my nx ny = (boxB lx ly hx hy && boxB mx my nx ny && meetB lx ly hx hy mx my nx ny) := by
  unfold meV meetB
  simp only [Bool.and_assoc]
def mbD (k : Int) (n : Nat) (X Y : Nat → Int) (lx ly hx hy : Int) : Bool := if k = 4 then rmD n X Y lx ly hx hy else meV (X 0) (oLy k Y) (oHx k X Y) (oHy k Y) lx ly hx hy
set_option maxHeartbeats 4000000 in
set_option maxRecDepth 100000 in
theorem c_rmeetsBox {k : Int} {n : Nat} {X Y : Nat → Int} {v : Value} (lx ly hx hy : Int) (W : World) (h : Pts W v n X Y) (hc : objC k n X Y = 0) (hb : boxB lx ly hx hy = true) :
    Calls Tryz.prog 42 #[.agg #[.int .i64 k, v], .agg #[.int .i64 lx, .int .i64 ly, .int .i64 hx, .int .i64 hy]] W fun e w' => e = .returned (.bool (mbD k n X Y lx ly hx hy)) ∧ Gr W w' := by
  unfold mbD
  by_cases k4 : k = 4
  · rw [if_pos k4]
    subst k4
    rw [objC_4] at hc
    have A1 := fun w (g : Gr W w) => c_rringBox lx ly hx hy w (pts_gr h g) hc hb
    generalize rmD n X Y lx ly hx hy = z at A1 ⊢
    obtain ⟨ad, cap, _, _, rfl, -⟩ := h
    have H1 := Lib.hid A1
    clear A1
    clear hc hb
    go_enter Tryz.func42, Tryz.ntmps42
    go_wp2_with fail
    go_at_call 44
    refine ((H1.out _ (by go_grown))).mono ?_
    rintro e w1 ⟨rfl, hw1⟩
    have cw1_1_0 := ci hw1 (W.heap.size + 1) 0 lx (by go_simp)
    have cw1_1_1 := ci hw1 (W.heap.size + 1) 1 ly (by go_simp)
    have cw1_1_2 := ci hw1 (W.heap.size + 1) 2 hx (by go_simp)
    have cw1_1_3 := ci hw1 (W.heap.size + 1) 3 hy (by go_simp)
    have zw1_1 := zb cw1_1_0
    have gw1 : Gr W w1 := Gr.trans (by go_grown) hw1
    clear hw1
    go_wp2_with fail
    go_ret
    exact ⟨rfl, gw1⟩
  · rw [if_neg k4]
    have b4 : (k == 4) = false := by simp; omega
    have A1 := fun w (g : Gr W w) => c_rBoundsOk w (pts_gr h g) hc
    unfold bLx bLy bHx bHy at A1
    simp only [if_neg k4] at A1
    have A2 := fun w => c_rBoxMeets (X 0) (oLy k Y) (oHx k X Y) (oHy k Y) lx ly hx hy w
    rw [meV_m]
    generalize X 0 = m1 at A1 A2 ⊢
    generalize oLy k Y = m2 at A1 A2 ⊢
    generalize oHx k X Y = m3 at A1 A2 ⊢
    generalize oHy k Y = m4 at A1 A2 ⊢
    generalize (boxB m1 m2 m3 m4 && boxB lx ly hx hy && meetB m1 m2 m3 m4 lx ly hx hy) = z at A2 ⊢
    obtain ⟨ad, cap, _, _, rfl, -⟩ := h
    have H1 := Lib.hid A1
    have H2 := Lib.hid A2
    clear A1 A2
    clear hc hb k4
    go_enter Tryz.func42, Tryz.ntmps42
    go_wp2_with fail
    go_at_call 11
    refine ((H1.out _ (by go_grown))).mono ?_
    rintro e w1 ⟨rfl, hw1⟩
    have cw1_1_0 := ci hw1 (W.heap.size + 1) 0 lx (by go_simp)
    have cw1_1_1 := ci hw1 (W.heap.size + 1) 1 ly (by go_simp)
    have cw1_1_2 := ci hw1 (W.heap.size + 1) 2 hx (by go_simp)
    have cw1_1_3 := ci hw1 (W.heap.size + 1) 3 hy (by go_simp)
    have zw1_1 := zb cw1_1_0
    have gw1 : Gr W w1 := Gr.trans (by go_grown) hw1
    clear hw1
    go_wp2_with fail
    go_at_call 27
    refine ((H2.out _)).mono ?_
    rintro e w2 ⟨rfl, hw2⟩
    have gw2 : Gr W w2 := Gr.trans (by have gg := gw1; have gs := gg.size; go_grown) hw2
    clear hw2 gw1 zw1_1 cw1_1_0 cw1_1_1 cw1_1_2 cw1_1_3
    go_wp2_with fail
    go_ret
    exact ⟨rfl, gw2⟩
end Go.Proofs.YtfobmlgpjhghdaaGreatDoor
namespace Go.Proofs.YtfobmlgpjhghdaaGreatDoor
set_option linter.unusedVariables false
set_option linter.unusedSimpArgs false
open Go.ChangeShapes Go.WideShapes Go.ChangeAt Go.RowKit
theorem qC_cases {kq a b c d : Int} {m : Nat} {P Q : Nat → Int} (h : qC kq a b c d m P Q = 0) : (kq = 1 ∧ boxB a b c d = true) ∨ (kq = 2 ∧ boxB a b c d = true) ∨ (kq = 3 ∧ nearB a b = true) ∨ (kq = 4 ∧ (Rg.ringC m P Q).1 = 0) := by
  unfold qC at h
  by_cases h1 : kq = 1 ∨ kq = 2
  · rw [if_pos h1] at h
    have hb := boxN_0.1 h
    rcases h1 with h1 | h1
    · exact Or.inl ⟨h1, hb⟩
    · exact Or.inr (Or.inl ⟨h1, hb⟩)
  rw [if_neg h1] at h
  by_cases h3 : kq = 3
  · rw [if_pos h3] at h
    by_cases hn : nearB a b = true
    · exact Or.inr (Or.inr (Or.inl ⟨h3, hn⟩))
    · rw [if_neg hn] at h; cases h
  rw [if_neg h3] at h
  by_cases h4 : kq = 4
  · rw [if_pos h4] at h; exact Or.inr (Or.inr (Or.inr ⟨h4, h⟩))
  rw [if_neg h4] at h
  cases h
end Go.Proofs.YtfobmlgpjhghdaaGreatDoor
namespace Go.Proofs.YtfobmlgpjhghdaaGreatDoor
set_option linter.unusedVariables false
open Go.ChangeShapes Go.WideShapes Go.ChangeAt Go.RowKit
set_option maxHeartbeats 2000000 in
set_option maxRecDepth 100000 in
theorem c_rBoxInside (lx ly hx hy mx my nx ny : Int) (W : World) :
    Calls Tryz.prog 26 #[.agg #[.int .i64 lx, .int .i64 ly, .int .i64 hx, .int .i64 hy], .agg #[.int .i64 mx, .int .i64 my, .int .i64 nx, .int .i64 ny]] W fun e w' => e = .returned (.bool (boxB lx ly hx hy && boxB mx my nx ny && inB mx my nx ny lx ly && inB mx my nx ny hx hy)) ∧ Gr W w' := by
  obtain ⟨k1, e1⟩ : ∃ k, k = boxCode lx ly hx hy := ⟨_, rfl⟩
  obtain ⟨q2, e2⟩ : ∃ q, q = (boxB mx my nx ny && nearB lx ly && inB mx my nx ny lx ly) := ⟨_, rfl⟩
  obtain ⟨q3, e3⟩ : ∃ q, q = (boxB mx my nx ny && nearB hx hy && inB mx my nx ny hx hy) := ⟨_, rfl⟩
  obtain ⟨r, hr⟩ : ∃ r, r = (boxB lx ly hx hy && boxB mx my nx ny && inB mx my nx ny lx ly && inB mx my nx ny hx hy) := ⟨_, rfl⟩
  have hrq : r = ((k1 == 0) && q2 && q3) := by
    rw [hr, e1, boxCode_zero, e2, e3]
    unfold boxB
    cases nearB lx ly <;> cases nearB hx hy <;> cases nearB mx my <;> cases nearB nx ny <;> simp
    grind
  have M := c_rCheckBox lx ly hx hy
  have N := c_rBoxHas mx my nx ny lx ly
  have O := c_rBoxHas mx my nx ny hx hy
  rw [← e1] at M
  rw [← e2] at N
  rw [← e3] at O
  rw [← hr]
  have H1 := Lib.hid M
  have H2 := Lib.hid N
  have H3 := Lib.hid O
  clear M N O e1 e2 e3 hr
  have hc : ((k1 == 0) = false ∧ r = false) ∨ (k1 = 0 ∧ q2 = false ∧ r = false) ∨ (k1 = 0 ∧ q2 = true ∧ r = q3) := by
    by_cases z1 : k1 = 0
    · subst z1
      cases q2
      · right; left; exact ⟨rfl, rfl, by rw [hrq]; simp⟩
      · right; right; exact ⟨rfl, rfl, by rw [hrq]; simp⟩
    · have : (k1 == 0) = false := by simpa using z1
      left; exact ⟨this, by rw [hrq, this]; simp⟩
  clear hrq
  rcases hc with ⟨z1, rfl⟩ | ⟨rfl, rfl, rfl⟩ | ⟨rfl, rfl, rfl⟩
  · go_enter Tryz.func26, Tryz.ntmps26
    go_wp2_with fail
    go_at_call 25
    refine ((H1.out _)).mono ?_
    rintro e w1 ⟨rfl, hw1⟩
    have cw1_0_0 := ci hw1 (W.heap.size) 0 lx (by go_simp)
    have cw1_0_1 := ci hw1 (W.heap.size) 1 ly (by go_simp)
    have cw1_0_2 := ci hw1 (W.heap.size) 2 hx (by go_simp)
    have cw1_0_3 := ci hw1 (W.heap.size) 3 hy (by go_simp)
    have cw1_1_0 := ci hw1 (W.heap.size + 1) 0 mx (by go_simp)
    have cw1_1_1 := ci hw1 (W.heap.size + 1) 1 my (by go_simp)
    have cw1_1_2 := ci hw1 (W.heap.size + 1) 2 nx (by go_simp)
    have cw1_1_3 := ci hw1 (W.heap.size + 1) 3 ny (by go_simp)
    have gw1 : Gr W w1 := Gr.trans (by go_grown) hw1
    clear hw1
    go_wp2_with fail
    go_ret
    exact ⟨rfl, by go_grown⟩
  · go_enter Tryz.func26, Tryz.ntmps26
    go_wp2_with fail
    go_at_call 25
    refine ((H1.out _)).mono ?_
    rintro e w1 ⟨rfl, hw1⟩
    have cw1_0_0 := ci hw1 (W.heap.size) 0 lx (by go_simp)
    have cw1_0_1 := ci hw1 (W.heap.size) 1 ly (by go_simp)
    have cw1_0_2 := ci hw1 (W.heap.size) 2 hx (by go_simp)
    have cw1_0_3 := ci hw1 (W.heap.size) 3 hy (by go_simp)
    have cw1_1_0 := ci hw1 (W.heap.size + 1) 0 mx (by go_simp)
    have cw1_1_1 := ci hw1 (W.heap.size + 1) 1 my (by go_simp)
    have cw1_1_2 := ci hw1 (W.heap.size + 1) 2 nx (by go_simp)
    have cw1_1_3 := ci hw1 (W.heap.size + 1) 3 ny (by go_simp)
    have gw1 : Gr W w1 := Gr.trans (by go_grown) hw1
    clear hw1
    go_wp2_with fail
    go_at_call 28
    refine ((H2.out _)).mono ?_
    rintro e w2 ⟨rfl, hw2⟩
    have cw2_0_2 := ci hw2 (W.heap.size) 2 hx (by go_simp)
    have cw2_0_3 := ci hw2 (W.heap.size) 3 hy (by go_simp)
    have cw2_1_0 := ci hw2 (W.heap.size + 1) 0 mx (by go_simp)
    have cw2_1_1 := ci hw2 (W.heap.size + 1) 1 my (by go_simp)
    have cw2_1_2 := ci hw2 (W.heap.size + 1) 2 nx (by go_simp)
    have cw2_1_3 := ci hw2 (W.heap.size + 1) 3 ny (by go_simp)
    have gw2 : Gr W w2 := Gr.trans (by have gg := gw1; have gs := gg.size; go_grown) hw2
    clear hw2 gw1 cw1_0_0 cw1_0_1 cw1_0_2 cw1_0_3 cw1_1_0 cw1_1_1 cw1_1_2 cw1_1_3
    go_wp2_with fail
    go_ret
    exact ⟨rfl, by go_grown⟩
  · go_enter Tryz.func26, Tryz.ntmps26
    go_wp2_with fail
    go_at_call 25
    refine ((H1.out _)).mono ?_
    rintro e w1 ⟨rfl, hw1⟩
    have cw1_0_0 := ci hw1 (W.heap.size) 0 lx (by go_simp)
    have cw1_0_1 := ci hw1 (W.heap.size) 1 ly (by go_simp)
    have cw1_0_2 := ci hw1 (W.heap.size) 2 hx (by go_simp)
    have cw1_0_3 := ci hw1 (W.heap.size) 3 hy (by go_simp)
    have cw1_1_0 := ci hw1 (W.heap.size + 1) 0 mx (by go_simp)
    have cw1_1_1 := ci hw1 (W.heap.size + 1) 1 my (by go_simp)
    have cw1_1_2 := ci hw1 (W.heap.size + 1) 2 nx (by go_simp)
    have cw1_1_3 := ci hw1 (W.heap.size + 1) 3 ny (by go_simp)
    have gw1 : Gr W w1 := Gr.trans (by go_grown) hw1
    clear hw1
    go_wp2_with fail
    go_at_call 28
    refine ((H2.out _)).mono ?_
    rintro e w2 ⟨rfl, hw2⟩
    have cw2_0_2 := ci hw2 (W.heap.size) 2 hx (by go_simp)
    have cw2_0_3 := ci hw2 (W.heap.size) 3 hy (by go_simp)
    have cw2_1_0 := ci hw2 (W.heap.size + 1) 0 mx (by go_simp)
    have cw2_1_1 := ci hw2 (W.heap.size + 1) 1 my (by go_simp)
    have cw2_1_2 := ci hw2 (W.heap.size + 1) 2 nx (by go_simp)
    have cw2_1_3 := ci hw2 (W.heap.size + 1) 3 ny (by go_simp)
    have gw2 : Gr W w2 := Gr.trans (by have gg := gw1; have gs := gg.size; go_grown) hw2
    clear hw2 gw1 cw1_0_0 cw1_0_1 cw1_0_2 cw1_0_3 cw1_1_0 cw1_1_1 cw1_1_2 cw1_1_3
    go_wp2_with fail
    go_at_call 28
    refine ((H3.out _)).mono ?_
    rintro e w3 ⟨rfl, hw3⟩
    have gw3 : Gr W w3 := Gr.trans (by have gg := gw2; have gs := gg.size; go_grown) hw3
    clear hw3 gw2 cw2_0_2 cw2_0_3 cw2_1_0 cw2_1_1 cw2_1_2 cw2_1_3
    go_wp2_with fail
    go_ret
    exact ⟨rfl, by go_grown⟩
set_option maxHeartbeats 1000000 in
set_option maxRecDepth 100000 in
theorem c_rBoxDist (lx ly hx hy px py : Int) (hq : boxB lx ly hx hy = true ∧ nearB px py = true) (s : Nat) (hs : (s : Int) = distZ lx ly hx hy px py) (W : World) :
    Calls Tryz.prog 30 #[.agg #[.int .i64 lx, .int .i64 ly, .int .i64 hx, .int .i64 hy], .agg #[.int .i64 px, .int .i64 py]] W fun e w' => e = .returned (.agg #[.int .u64 0, .int .u64 s, .int .u64 1]) ∧ Gr W w' := by
  have M := c_rCheckBox lx ly hx hy
  have z1 : boxCode lx ly hx hy = 0 := by simpa using (boxCode_zero (lx := lx) (ly := ly) (hx := hx) (hy := hy)).trans hq.1
  rw [z1] at M
  have N := c_rPoint px py
  rw [hq.2] at N
  have n1 := nearB_iff.1 (boxB_iff.1 hq.1).1.1
  have n2 := nearB_iff.1 (boxB_iff.1 hq.1).1.2
  have n3 := nearB_iff.1 hq.2
  have n4 := (boxB_iff.1 hq.1).2
  have b1 := bey_near (lo := lx) (hi := hx) (v := px) n4.1 ⟨n1.1, n1.2.1⟩ ⟨n2.1, n2.2.1⟩ ⟨n3.1, n3.2.1⟩
  have b2 := bey_near (lo := ly) (hi := hy) (v := py) n4.2 n1.2.2 n2.2.2 n3.2.2
  have O := c_sum _ _ b1 b2 s hs
  have m1 := mul_near b1 b1
  have m2 := mul_near b2 b2
  unfold distZ at hs
  have L : ∀ w, Calls Tryz.prog 57 #[.agg #[.int .u64 0, .int .u64 s], .int .u64 1] w fun e w' => e = .returned (.agg #[.int .u64 0, .int .u64 s, .int .u64 1]) ∧ Gr w w' := c_Lowest1 0 s (by unfold Wd; omega) (by unfold Wd; omega)
  have X1 : ∀ w, (Builtin.max_ #[3, 3, 3] 3 #[.int .i64 (lx - px), .int .i64 (px - hx), .int .i64 0]).run Tryz.prog w = .ok (.int .i64 (beyZ lx hx px)) w := fun w => by
    have e : beyZ lx hx px = (if 0 > (if px - hx > lx - px then px - hx else lx - px) then 0 else (if px - hx > lx - px then px - hx else lx - px)) := by
      unfold beyZ
      split <;> split <;> (try split) <;> (try split) <;> omega
    rw [e]
    simp [Builtin.max_, Builtin.max2, go_sem]
  have X2 : ∀ w, (Builtin.max_ #[3, 3, 3] 3 #[.int .i64 (ly - py), .int .i64 (py - hy), .int .i64 0]).run Tryz.prog w = .ok (.int .i64 (beyZ ly hy py)) w := fun w => by
    have e : beyZ ly hy py = (if 0 > (if py - hy > ly - py then py - hy else ly - py) then 0 else (if py - hy > ly - py then py - hy else ly - py)) := by
      unfold beyZ
      split <;> split <;> (try split) <;> (try split) <;> omega
    rw [e]
    simp [Builtin.max_, Builtin.max2, go_sem]
  have e1 : wrap64 (lx - px) = lx - px := IntWalk.wrap64_in _ (by omega)
  have e2 : wrap64 (px - hx) = px - hx := IntWalk.wrap64_in _ (by omega)
  have e3 : wrap64 (ly - py) = ly - py := IntWalk.wrap64_in _ (by omega)
  have e4 : wrap64 (py - hy) = py - hy := IntWalk.wrap64_in _ (by omega)
  have f1 : IntKind.i64.wrap (lx - px) = lx - px := IntWalk.i64_in _ (by omega)
  have f2 : IntKind.i64.wrap (px - hx) = px - hx := IntWalk.i64_in _ (by omega)
  have f3 : IntKind.i64.wrap (ly - py) = ly - py := IntWalk.i64_in _ (by omega)
  have f4 : IntKind.i64.wrap (py - hy) = py - hy := IntWalk.i64_in _ (by omega)
  generalize beyZ lx hx px = x at *
  generalize beyZ ly hy py = y at *
  have H1 := Lib.hid M
  have H2 := Lib.hid N
  have H3 := Lib.hid O
  have H4 := Lib.hid L
  clear M N O L hq n1 n2 n3 n4 hs m1 m2 z1 b1 b2
  go_enter Tryz.func30, Tryz.ntmps30
  go_wp2_with fail
  go_at_call 25
  refine ((H1.out _)).mono ?_
  rintro e w1 ⟨rfl, hw1⟩
  have cw1_0_0 := ci hw1 (W.heap.size) 0 lx (by go_simp)
  have cw1_0_1 := ci hw1 (W.heap.size) 1 ly (by go_simp)
  have cw1_0_2 := ci hw1 (W.heap.size) 2 hx (by go_simp)
  have cw1_0_3 := ci hw1 (W.heap.size) 3 hy (by go_simp)
  have cw1_1_0 := ci hw1 (W.heap.size + 1) 0 px (by go_simp)
  have cw1_1_1 := ci hw1 (W.heap.size + 1) 1 py (by go_simp)
  have cw1_2_0 := cu hw1 (W.heap.size + 1 + 1) 0 0 (by go_simp)
  have fw1_2_0 := fq hw1 (W.heap.size + 1 + 1) 0 (.int .u64 0) (by go_simp) (by go_simp)
  have cw1_2_1 := cu hw1 (W.heap.size + 1 + 1) 1 0 (by go_simp)
  have fw1_2_1 := fq hw1 (W.heap.size + 1 + 1) 1 (.int .u64 0) (by go_simp) (by go_simp)
  have cw1_2_2 := cu hw1 (W.heap.size + 1 + 1) 2 0 (by go_simp)
  have fw1_2_2 := fq hw1 (W.heap.size + 1 + 1) 2 (.int .u64 0) (by go_simp) (by go_simp)
  have gw1 : Gr W w1 := Gr.trans (by go_grown) hw1
  clear hw1
  go_wp2_with fail
  go_at_call 24
  refine ((H2.out _)).mono ?_
  rintro e w2 ⟨rfl, hw2⟩
  have cw2_0_0 := ci hw2 (W.heap.size) 0 lx (by go_simp)
  have cw2_0_1 := ci hw2 (W.heap.size) 1 ly (by go_simp)
  have cw2_0_2 := ci hw2 (W.heap.size) 2 hx (by go_simp)
  have cw2_0_3 := ci hw2 (W.heap.size) 3 hy (by go_simp)
  have cw2_1_0 := ci hw2 (W.heap.size + 1) 0 px (by go_simp)
  have cw2_1_1 := ci hw2 (W.heap.size + 1) 1 py (by go_simp)
  have cw2_2_0 := cu hw2 (W.heap.size + 1 + 1) 0 0 (by go_simp)
  have fw2_2_0 := fq hw2 (W.heap.size + 1 + 1) 0 (.int .u64 0) (by go_simp) (by go_simp)
  have cw2_2_1 := cu hw2 (W.heap.size + 1 + 1) 1 0 (by go_simp)
  have fw2_2_1 := fq hw2 (W.heap.size + 1 + 1) 1 (.int .u64 0) (by go_simp) (by go_simp)
  have cw2_2_2 := cu hw2 (W.heap.size + 1 + 1) 2 0 (by go_simp)
  have fw2_2_2 := fq hw2 (W.heap.size + 1 + 1) 2 (.int .u64 0) (by go_simp) (by go_simp)
  have gw2 : Gr W w2 := Gr.trans (by have gg := gw1; have gs := gg.size; go_grown) hw2
  clear hw2 gw1 cw1_0_0 cw1_0_1 cw1_0_2 cw1_0_3 cw1_1_0 cw1_1_1 cw1_2_0 fw1_2_0 cw1_2_1 fw1_2_1 cw1_2_2 fw1_2_2
  go_wp2_with fail
  go_at_call 58
  refine ((H3.out _)).mono ?_
  rintro e w3 ⟨rfl, hw3⟩
  have cw3_2_0 := cu hw3 (W.heap.size + 1 + 1) 0 0 (by go_simp)
  have fw3_2_0 := fq hw3 (W.heap.size + 1 + 1) 0 (.int .u64 0) (by go_simp) (by go_simp)
  have cw3_2_1 := cu hw3 (W.heap.size + 1 + 1) 1 0 (by go_simp)
  have fw3_2_1 := fq hw3 (W.heap.size + 1 + 1) 1 (.int .u64 0) (by go_simp) (by go_simp)
  have cw3_2_2 := cu hw3 (W.heap.size + 1 + 1) 2 0 (by go_simp)
  have fw3_2_2 := fq hw3 (W.heap.size + 1 + 1) 2 (.int .u64 0) (by go_simp) (by go_simp)
  have gw3 : Gr W w3 := Gr.trans (by have gg := gw2; have gs := gg.size; go_grown) hw3
  clear hw3 gw2 cw2_0_0 cw2_0_1 cw2_0_2 cw2_0_3 cw2_1_0 cw2_1_1 cw2_2_0 fw2_2_0 cw2_2_1 fw2_2_1 cw2_2_2 fw2_2_2
  go_wp2_with fail
  go_at_call 57
  refine ((H4.out _)).mono ?_
  rintro e w4 ⟨rfl, hw4⟩
  have cw4_2_0 := cu hw4 (W.heap.size + 1 + 1) 0 0 (by go_simp)
  have fw4_2_0 := fq hw4 (W.heap.size + 1 + 1) 0 (.int .u64 0) (by go_simp) (by go_simp)
  have cw4_2_1 := cu hw4 (W.heap.size + 1 + 1) 1 0 (by go_simp)
  have fw4_2_1 := fq hw4 (W.heap.size + 1 + 1) 1 (.int .u64 0) (by go_simp) (by go_simp)
  have cw4_2_2 := cu hw4 (W.heap.size + 1 + 1) 2 0 (by go_simp)
  have fw4_2_2 := fq hw4 (W.heap.size + 1 + 1) 2 (.int .u64 0) (by go_simp) (by go_simp)
  have gw4 : Gr W w4 := Gr.trans (by have gg := gw3; have gs := gg.size; go_grown) hw4
  clear hw4 gw3 cw3_2_0 fw3_2_0 cw3_2_1 fw3_2_1 cw3_2_2 fw3_2_2
  go_wp2_with fail
  refine bodyPost_ret (v := .agg #[.int .u64 0, .int .u64 s, .int .u64 1]) (by simp [results, Tryz.results30, go_sem, *]) rfl ⟨rfl, by go_grown⟩
end Go.Proofs.YtfobmlgpjhghdaaGreatDoor
namespace Go.Proofs.YtfobmlgpjhghdaaGreatDoor
set_option linter.unusedVariables false
set_option linter.unusedSimpArgs false
open Go.ChangeShapes Go.WideShapes Go.ChangeAt Go.RowKit
def maD (k : Int) (n : Nat) (X Y : Nat → Int) (kq qlx qly qhx qhy : Int) (m : Nat) (P Q : Nat → Int) : Bool :=
  if kq = 1 then mbD k n X Y qlx qly qhx qhy else if kq = 2 then inV (bLx k n X) (bLy k n Y) (bHx k n X Y) (bHy k n Y) qlx qly qhx qhy
  else if kq = 3 then mbD k n X Y qlx qly qlx qly else if k = 4 then rgD n X Y m P Q else rmD m P Q (X 0) (oLy k Y) (oHx k X Y) (oHy k Y)
section
variable {k kq qlx qly qhx qhy : Int} {n m cap bcap : Nat} {ad bd : Option Addr}
set_option maxHeartbeats 4000000 in
set_option maxRecDepth 100000 in
theorem rmatch_no1 (c : Nat) (W : World) (hc : c ≠ 0)
    (A1 : ∀ w, Gr W w → Calls Tryz.prog 11 #[.agg #[.int .i64 k, .slice ad n cap]] w fun e w' => e = .returned (.tuple #[.agg #[.int .i64 0, .int .i64 0, .int .i64 0, .int .i64 0], .int .i64 (c : Nat)]) ∧ Gr w w') :
    Calls Tryz.prog 14 #[.agg #[.int .i64 k, .slice ad n cap], qryV kq qlx qly qhx qhy (.slice bd m bcap)] W fun e w' => e = .returned (.bool false) ∧ Gr W w' := by
  have e1 : ((c : Int) != 0) = true := by simp; omega
  have e2 : (c != 0) = true := by simp; omega
  have H1 := Lib.hid A1
  clear A1
  clear hc
  go_enter Tryz.func14, Tryz.ntmps14
  go_wp2_with fail
  go_at_call 11
  refine ((H1.out _ (by go_grown))).mono ?_
  rintro e w1 ⟨rfl, hw1⟩
  have gw1 : Gr W w1 := Gr.trans (by go_grown) hw1
  clear hw1
  go_wp2_with fail
  go_ret
  exact ⟨rfl, by have gg := gw1; have gs := gg.size; go_grown⟩
set_option maxHeartbeats 4000000 in
set_option maxRecDepth 100000 in
theorem rmatch_no2 (m1 m2 m3 m4 : Int) (d : Nat) (W : World) (hd : d ≠ 0)
    (A1 : ∀ w, Gr W w → Calls Tryz.prog 11 #[.agg #[.int .i64 k, .slice ad n cap]] w fun e w' => e = .returned (.tuple #[.agg #[.int .i64 m1, .int .i64 m2, .int .i64 m3, .int .i64 m4], .int .i64 0]) ∧ Gr w w')
    (A2 : ∀ w, Gr W w → Calls Tryz.prog 31 #[qryV kq qlx qly qhx qhy (.slice bd m bcap)] w fun e w' => e = .returned (.int .i64 (d : Nat)) ∧ Gr w w') :
    Calls Tryz.prog 14 #[.agg #[.int .i64 k, .slice ad n cap], qryV kq qlx qly qhx qhy (.slice bd m bcap)] W fun e w' => e = .returned (.bool false) ∧ Gr W w' := by
  have e1 : ((d : Int) != 0) = true := by simp; omega
  have e2 : (d != 0) = true := by simp; omega
  have H1 := Lib.hid A1
  have H2 := Lib.hid A2
  clear A1 A2
  clear hd
  go_enter Tryz.func14, Tryz.ntmps14
  go_wp2_with fail
  go_at_call 11
  refine ((H1.out _ (by go_grown))).mono ?_
  rintro e w1 ⟨rfl, hw1⟩
  have cw1_1_0 := ci hw1 (W.heap.size + 1) 0 kq (by go_simp)
  have cw1_1_1 := ci hw1 (W.heap.size + 1) 1 qlx (by go_simp)
  have cw1_1_2 := ci hw1 (W.heap.size + 1) 2 qly (by go_simp)
  have cw1_1_3 := ci hw1 (W.heap.size + 1) 3 qhx (by go_simp)
  have cw1_1_4 := ci hw1 (W.heap.size + 1) 4 qhy (by go_simp)
  have cw1_1_5 := cg hw1 (W.heap.size + 1) 5 (.slice bd m bcap) (by go_simp)
  have zw1_1 := zb cw1_1_0
  have gw1 : Gr W w1 := Gr.trans (by go_grown) hw1
  clear hw1
  go_wp2_with fail
  go_at_call 31
  refine ((H2.out _ (by have gg := gw1; have gs := gg.size; go_grown))).mono ?_
  rintro e w2 ⟨rfl, hw2⟩
  have gw2 : Gr W w2 := Gr.trans (by have gg := gw1; have gs := gg.size; go_grown) hw2
  clear hw2 gw1 zw1_1 cw1_1_0 cw1_1_1 cw1_1_2 cw1_1_3 cw1_1_4 cw1_1_5
  go_wp2_with fail
  go_ret
  exact ⟨rfl, gw2⟩
section
variable (m1 m2 m3 m4 : Int) (z : Bool) (W : World)
    (A1 : ∀ w, Gr W w → Calls Tryz.prog 11 #[.agg #[.int .i64 k, .slice ad n cap]] w fun e w' => e = .returned (.tuple #[.agg #[.int .i64 m1, .int .i64 m2, .int .i64 m3, .int .i64 m4], .int .i64 0]) ∧ Gr w w')
    (A2 : ∀ w, Gr W w → Calls Tryz.prog 31 #[qryV kq qlx qly qhx qhy (.slice bd m bcap)] w fun e w' => e = .returned (.int .i64 0) ∧ Gr w w')
include A1 A2
set_option maxHeartbeats 4000000 in
set_option maxRecDepth 100000 in
theorem rmatch_1 (hk : kq = 1) (A3 : ∀ w, Gr W w → Calls Tryz.prog 42 #[.agg #[.int .i64 k, .slice ad n cap], .agg #[.int .i64 qlx, .int .i64 qly, .int .i64 qhx, .int .i64 qhy]] w fun e w' => e = .returned (.bool z) ∧ Gr w w') :
    Calls Tryz.prog 14 #[.agg #[.int .i64 k, .slice ad n cap], qryV kq qlx qly qhx qhy (.slice bd m bcap)] W fun e w' => e = .returned (.bool z) ∧ Gr W w' := by
  subst hk
  have H1 := Lib.hid A1
  have H2 := Lib.hid A2
  have H3 := Lib.hid A3
  clear A1 A2 A3
  go_enter Tryz.func14, Tryz.ntmps14
  go_wp2_with fail
  go_at_call 11
  refine ((H1.out _ (by go_grown))).mono ?_
  rintro e w1 ⟨rfl, hw1⟩
  have cw1_0_0 := ci hw1 (W.heap.size) 0 k (by go_simp)
  have cw1_0_1 := cg hw1 (W.heap.size) 1 (.slice ad n cap) (by go_simp)
  have zw1_0 := zb cw1_0_0
  have cw1_1_0 := ci hw1 (W.heap.size + 1) 0 1 (by go_simp)
  have cw1_1_1 := ci hw1 (W.heap.size + 1) 1 qlx (by go_simp)
  have cw1_1_2 := ci hw1 (W.heap.size + 1) 2 qly (by go_simp)
  have cw1_1_3 := ci hw1 (W.heap.size + 1) 3 qhx (by go_simp)
  have cw1_1_4 := ci hw1 (W.heap.size + 1) 4 qhy (by go_simp)
  have cw1_1_5 := cg hw1 (W.heap.size + 1) 5 (.slice bd m bcap) (by go_simp)
  have zw1_1 := zb cw1_1_0
  have gw1 : Gr W w1 := Gr.trans (by go_grown) hw1
  clear hw1
  go_wp2_with fail
  go_at_call 31
  refine ((H2.out _ (by have gg := gw1; have gs := gg.size; go_grown))).mono ?_
  rintro e w2 ⟨rfl, hw2⟩
  have cw2_0_0 := ci hw2 (W.heap.size) 0 k (by go_simp)
  have cw2_0_1 := cg hw2 (W.heap.size) 1 (.slice ad n cap) (by go_simp)
  have cw2_1_0 := ci hw2 (W.heap.size + 1) 0 1 (by go_simp)
  have cw2_1_1 := ci hw2 (W.heap.size + 1) 1 qlx (by go_simp)
  have cw2_1_2 := ci hw2 (W.heap.size + 1) 2 qly (by go_simp)
  have cw2_1_3 := ci hw2 (W.heap.size + 1) 3 qhx (by go_simp)
  have cw2_1_4 := ci hw2 (W.heap.size + 1) 4 qhy (by go_simp)
  have gw2 : Gr W w2 := Gr.trans (by have gg := gw1; have gs := gg.size; go_grown) hw2
  clear hw2 gw1 zw1_0 cw1_0_0 cw1_0_1 zw1_1 cw1_1_0 cw1_1_1 cw1_1_2 cw1_1_3 cw1_1_4 cw1_1_5
  go_wp2_with fail
  go_at_call 42
  refine ((H3.out _ gw2)).mono ?_
  rintro e w3 ⟨rfl, hw3⟩
  have gw3 : Gr W w3 := Gr.trans (by have gg := gw2; have gs := gg.size; go_grown) hw3
  clear hw3 gw2 cw2_0_0 cw2_0_1 cw2_1_0 cw2_1_1 cw2_1_2 cw2_1_3 cw2_1_4
  go_wp2_with fail
  go_ret
  exact ⟨rfl, gw3⟩
set_option maxHeartbeats 4000000 in
set_option maxRecDepth 100000 in
theorem rmatch_2 (hk : kq = 2) (A3 : ∀ w, Gr W w → Calls Tryz.prog 26 #[.agg #[.int .i64 m1, .int .i64 m2, .int .i64 m3, .int .i64 m4], .agg #[.int .i64 qlx, .int .i64 qly, .int .i64 qhx, .int .i64 qhy]] w fun e w' => e = .returned (.bool z) ∧ Gr w w') :
    Calls Tryz.prog 14 #[.agg #[.int .i64 k, .slice ad n cap], qryV kq qlx qly qhx qhy (.slice bd m bcap)] W fun e w' => e = .returned (.bool z) ∧ Gr W w' := by
  subst hk
  have H1 := Lib.hid A1
  have H2 := Lib.hid A2
  have H3 := Lib.hid A3
  clear A1 A2 A3
  go_enter Tryz.func14, Tryz.ntmps14
  go_wp2_with fail
  go_at_call 11
  refine ((H1.out _ (by go_grown))).mono ?_
  rintro e w1 ⟨rfl, hw1⟩
  have cw1_1_0 := ci hw1 (W.heap.size + 1) 0 2 (by go_simp)
  have cw1_1_1 := ci hw1 (W.heap.size + 1) 1 qlx (by go_simp)
  have cw1_1_2 := ci hw1 (W.heap.size + 1) 2 qly (by go_simp)
  have cw1_1_3 := ci hw1 (W.heap.size + 1) 3 qhx (by go_simp)
  have cw1_1_4 := ci hw1 (W.heap.size + 1) 4 qhy (by go_simp)
  have cw1_1_5 := cg hw1 (W.heap.size + 1) 5 (.slice bd m bcap) (by go_simp)
  have zw1_1 := zb cw1_1_0
  have gw1 : Gr W w1 := Gr.trans (by go_grown) hw1
  clear hw1
  go_wp2_with fail
  go_at_call 31
  refine ((H2.out _ (by have gg := gw1; have gs := gg.size; go_grown))).mono ?_
  rintro e w2 ⟨rfl, hw2⟩
  have cw2_1_0 := ci hw2 (W.heap.size + 1) 0 2 (by go_simp)
  have cw2_1_1 := ci hw2 (W.heap.size + 1) 1 qlx (by go_simp)
  have cw2_1_2 := ci hw2 (W.heap.size + 1) 2 qly (by go_simp)
  have cw2_1_3 := ci hw2 (W.heap.size + 1) 3 qhx (by go_simp)
  have cw2_1_4 := ci hw2 (W.heap.size + 1) 4 qhy (by go_simp)
  have cw2_2_0 := ci hw2 (w1.heap.size) 0 m1 (by go_simp)
  have cw2_2_1 := ci hw2 (w1.heap.size) 1 m2 (by go_simp)
  have cw2_2_2 := ci hw2 (w1.heap.size) 2 m3 (by go_simp)
  have cw2_2_3 := ci hw2 (w1.heap.size) 3 m4 (by go_simp)
  have gw2 : Gr W w2 := Gr.trans (by have gg := gw1; have gs := gg.size; go_grown) hw2
  clear hw2 gw1 zw1_1 cw1_1_0 cw1_1_1 cw1_1_2 cw1_1_3 cw1_1_4 cw1_1_5
  go_wp2_with fail
  go_at_call 26
  refine ((H3.out _ gw2)).mono ?_
  rintro e w3 ⟨rfl, hw3⟩
  have gw3 : Gr W w3 := Gr.trans (by have gg := gw2; have gs := gg.size; go_grown) hw3
  clear hw3 gw2 cw2_1_0 cw2_1_1 cw2_1_2 cw2_1_3 cw2_1_4 cw2_2_0 cw2_2_1 cw2_2_2 cw2_2_3
  go_wp2_with fail
  go_ret
  exact ⟨rfl, gw3⟩
set_option maxHeartbeats 4000000 in
set_option maxRecDepth 100000 in
theorem rmatch_3 (hk : kq = 3) (A3 : ∀ w, Gr W w → Calls Tryz.prog 42 #[.agg #[.int .i64 k, .slice ad n cap], .agg #[.int .i64 qlx, .int .i64 qly, .int .i64 qlx, .int .i64 qly]] w fun e w' => e = .returned (.bool z) ∧ Gr w w') :
    Calls Tryz.prog 14 #[.agg #[.int .i64 k, .slice ad n cap], qryV kq qlx qly qhx qhy (.slice bd m bcap)] W fun e w' => e = .returned (.bool z) ∧ Gr W w' := by
  subst hk
  have H1 := Lib.hid A1
  have H2 := Lib.hid A2
  have H3 := Lib.hid A3
  clear A1 A2 A3
  go_enter Tryz.func14, Tryz.ntmps14
  go_wp2_with fail
  go_at_call 11
  refine ((H1.out _ (by go_grown))).mono ?_
  rintro e w1 ⟨rfl, hw1⟩
  have cw1_0_0 := ci hw1 (W.heap.size) 0 k (by go_simp)
  have cw1_0_1 := cg hw1 (W.heap.size) 1 (.slice ad n cap) (by go_simp)
  have zw1_0 := zb cw1_0_0
  have cw1_1_0 := ci hw1 (W.heap.size + 1) 0 3 (by go_simp)
  have cw1_1_1 := ci hw1 (W.heap.size + 1) 1 qlx (by go_simp)
  have cw1_1_2 := ci hw1 (W.heap.size + 1) 2 qly (by go_simp)
  have cw1_1_3 := ci hw1 (W.heap.size + 1) 3 qhx (by go_simp)
  have cw1_1_4 := ci hw1 (W.heap.size + 1) 4 qhy (by go_simp)
  have cw1_1_5 := cg hw1 (W.heap.size + 1) 5 (.slice bd m bcap) (by go_simp)
  have zw1_1 := zb cw1_1_0
  have gw1 : Gr W w1 := Gr.trans (by go_grown) hw1
  clear hw1
  go_wp2_with fail
  go_at_call 31
  refine ((H2.out _ (by have gg := gw1; have gs := gg.size; go_grown))).mono ?_
  rintro e w2 ⟨rfl, hw2⟩
  have cw2_0_0 := ci hw2 (W.heap.size) 0 k (by go_simp)
  have cw2_0_1 := cg hw2 (W.heap.size) 1 (.slice ad n cap) (by go_simp)
  have cw2_1_0 := ci hw2 (W.heap.size + 1) 0 3 (by go_simp)
  have cw2_1_1 := ci hw2 (W.heap.size + 1) 1 qlx (by go_simp)
  have cw2_1_2 := ci hw2 (W.heap.size + 1) 2 qly (by go_simp)
  have gw2 : Gr W w2 := Gr.trans (by have gg := gw1; have gs := gg.size; go_grown) hw2
  clear hw2 gw1 zw1_0 cw1_0_0 cw1_0_1 zw1_1 cw1_1_0 cw1_1_1 cw1_1_2 cw1_1_3 cw1_1_4 cw1_1_5
  go_wp2_with fail
  go_at_call 42
  refine ((H3.out _ gw2)).mono ?_
  rintro e w3 ⟨rfl, hw3⟩
  have gw3 : Gr W w3 := Gr.trans (by have gg := gw2; have gs := gg.size; go_grown) hw3
  clear hw3 gw2 cw2_0_0 cw2_0_1 cw2_1_0 cw2_1_1 cw2_1_2
  go_wp2_with fail
  go_ret
  exact ⟨rfl, gw3⟩
set_option maxHeartbeats 4000000 in
set_option maxRecDepth 100000 in
theorem rmatch_4a (hk : kq = 4) (h4 : k = 4) (A3 : ∀ w, Gr W w → Calls Tryz.prog 43 #[.slice ad n cap, .slice bd m bcap] w fun e w' => e = .returned (.bool z) ∧ Gr w w') :
    Calls Tryz.prog 14 #[.agg #[.int .i64 k, .slice ad n cap], qryV kq qlx qly qhx qhy (.slice bd m bcap)] W fun e w' => e = .returned (.bool z) ∧ Gr W w' := by
  subst hk h4
  have H1 := Lib.hid A1
  have H2 := Lib.hid A2
  have H3 := Lib.hid A3
  clear A1 A2 A3
  go_enter Tryz.func14, Tryz.ntmps14
  go_wp2_with fail
  go_at_call 11
  refine ((H1.out _ (by go_grown))).mono ?_
  rintro e w1 ⟨rfl, hw1⟩
  have cw1_0_0 := ci hw1 (W.heap.size) 0 4 (by go_simp)
  have cw1_0_1 := cg hw1 (W.heap.size) 1 (.slice ad n cap) (by go_simp)
  have zw1_0 := zb cw1_0_0
  have cw1_1_0 := ci hw1 (W.heap.size + 1) 0 4 (by go_simp)
  have cw1_1_1 := ci hw1 (W.heap.size + 1) 1 qlx (by go_simp)
  have cw1_1_2 := ci hw1 (W.heap.size + 1) 2 qly (by go_simp)
  have cw1_1_3 := ci hw1 (W.heap.size + 1) 3 qhx (by go_simp)
  have cw1_1_4 := ci hw1 (W.heap.size + 1) 4 qhy (by go_simp)
  have cw1_1_5 := cg hw1 (W.heap.size + 1) 5 (.slice bd m bcap) (by go_simp)
  have zw1_1 := zb cw1_1_0
  have gw1 : Gr W w1 := Gr.trans (by go_grown) hw1
  clear hw1
  go_wp2_with fail
  go_at_call 31
  refine ((H2.out _ (by have gg := gw1; have gs := gg.size; go_grown))).mono ?_
  rintro e w2 ⟨rfl, hw2⟩
  have cw2_0_0 := ci hw2 (W.heap.size) 0 4 (by go_simp)
  have cw2_0_1 := cg hw2 (W.heap.size) 1 (.slice ad n cap) (by go_simp)
  have cw2_1_0 := ci hw2 (W.heap.size + 1) 0 4 (by go_simp)
  have cw2_1_5 := cg hw2 (W.heap.size + 1) 5 (.slice bd m bcap) (by go_simp)
  have gw2 : Gr W w2 := Gr.trans (by have gg := gw1; have gs := gg.size; go_grown) hw2
  clear hw2 gw1 zw1_0 cw1_0_0 cw1_0_1 zw1_1 cw1_1_0 cw1_1_1 cw1_1_2 cw1_1_3 cw1_1_4 cw1_1_5
  go_wp2_with fail
  go_at_call 43
  refine ((H3.out _ gw2)).mono ?_
  rintro e w3 ⟨rfl, hw3⟩
  have gw3 : Gr W w3 := Gr.trans (by have gg := gw2; have gs := gg.size; go_grown) hw3
  clear hw3 gw2 cw2_0_0 cw2_0_1 cw2_1_0 cw2_1_5
  go_wp2_with fail
  go_ret
  exact ⟨rfl, gw3⟩
set_option maxHeartbeats 4000000 in
set_option maxRecDepth 100000 in
theorem rmatch_4b (hk : kq = 4) (h4 : k ≠ 4) (A3 : ∀ w, Gr W w → Calls Tryz.prog 44 #[.slice bd m bcap, .agg #[.int .i64 m1, .int .i64 m2, .int .i64 m3, .int .i64 m4]] w fun e w' => e = .returned (.bool z) ∧ Gr w w') :
    Calls Tryz.prog 14 #[.agg #[.int .i64 k, .slice ad n cap], qryV kq qlx qly qhx qhy (.slice bd m bcap)] W fun e w' => e = .returned (.bool z) ∧ Gr W w' := by
  have b4 : (k == 4) = false := by simp; omega
  subst hk
  have H1 := Lib.hid A1
  have H2 := Lib.hid A2
  have H3 := Lib.hid A3
  clear A1 A2 A3
  clear h4
  go_enter Tryz.func14, Tryz.ntmps14
  go_wp2_with fail
  go_at_call 11
  refine ((H1.out _ (by go_grown))).mono ?_
  rintro e w1 ⟨rfl, hw1⟩
  have cw1_0_0 := ci hw1 (W.heap.size) 0 k (by go_simp)
  have zw1_0 := zb cw1_0_0
  have cw1_1_0 := ci hw1 (W.heap.size + 1) 0 4 (by go_simp)
  have cw1_1_1 := ci hw1 (W.heap.size + 1) 1 qlx (by go_simp)
  have cw1_1_2 := ci hw1 (W.heap.size + 1) 2 qly (by go_simp)
  have cw1_1_3 := ci hw1 (W.heap.size + 1) 3 qhx (by go_simp)
  have cw1_1_4 := ci hw1 (W.heap.size + 1) 4 qhy (by go_simp)
  have cw1_1_5 := cg hw1 (W.heap.size + 1) 5 (.slice bd m bcap) (by go_simp)
  have zw1_1 := zb cw1_1_0
  have gw1 : Gr W w1 := Gr.trans (by go_grown) hw1
  clear hw1
  go_wp2_with fail
  go_at_call 31
  refine ((H2.out _ (by have gg := gw1; have gs := gg.size; go_grown))).mono ?_
  rintro e w2 ⟨rfl, hw2⟩
  have cw2_0_0 := ci hw2 (W.heap.size) 0 k (by go_simp)
  have cw2_1_0 := ci hw2 (W.heap.size + 1) 0 4 (by go_simp)
  have cw2_1_5 := cg hw2 (W.heap.size + 1) 5 (.slice bd m bcap) (by go_simp)
  have cw2_2_0 := ci hw2 (w1.heap.size) 0 m1 (by go_simp)
  have cw2_2_1 := ci hw2 (w1.heap.size) 1 m2 (by go_simp)
  have cw2_2_2 := ci hw2 (w1.heap.size) 2 m3 (by go_simp)
  have cw2_2_3 := ci hw2 (w1.heap.size) 3 m4 (by go_simp)
  have gw2 : Gr W w2 := Gr.trans (by have gg := gw1; have gs := gg.size; go_grown) hw2
  clear hw2 gw1 zw1_0 cw1_0_0 zw1_1 cw1_1_0 cw1_1_1 cw1_1_2 cw1_1_3 cw1_1_4 cw1_1_5
  go_wp2_with fail
  go_at_call 44
  refine ((H3.out _ gw2)).mono ?_
  rintro e w3 ⟨rfl, hw3⟩
  have gw3 : Gr W w3 := Gr.trans (by have gg := gw2; have gs := gg.size; go_grown) hw3
  clear hw3 gw2 cw2_0_0 cw2_1_0 cw2_1_5 cw2_2_0 cw2_2_1 cw2_2_2 cw2_2_3
  go_wp2_with fail
  go_ret
  exact ⟨rfl, gw3⟩
end
end
theorem bx_ok {k : Int} {n : Nat} {X Y : Nat → Int} (hc : objC k n X Y = 0) : boxB (bLx k n X) (bLy k n Y) (bHx k n X Y) (bHy k n Y) = true := by
  unfold bLx bLy bHx bHy
  by_cases k4 : k = 4
  · simp only [if_pos k4]
    subst k4
    rw [objC_4] at hc
    exact ring_box hc
  · simp only [if_neg k4]
    exact boxN_0.1 (obj_box hc k4).2.2
theorem pt_box {a b : Int} (h : nearB a b = true) : boxB a b a b = true := by
  rw [boxB_iff]; exact ⟨⟨h, h⟩, Int.le_refl _, Int.le_refl _⟩
theorem c_rMatchG {k : Int} {n : Nat} {X Y : Nat → Int} {v : Value} {m : Nat} {P Q : Nat → Int} {u : Value} (kq qlx qly qhx qhy : Int) (W : World) (h : Pts W v n X Y) (hu : Pts W u m P Q) :
    Calls Tryz.prog 14 #[.agg #[.int .i64 k, v], qryV kq qlx qly qhx qhy u] W fun e w' => e = .returned (.bool (decide (objC k n X Y = 0) && decide (qC kq qlx qly qhx qhy m P Q = 0) && maD k n X Y kq qlx qly qhx qhy m P Q)) ∧ Gr W w' := by
  have hh := h
  have hv := hu
  by_cases hc : objC k n X Y = 0
  · rw [decide_eq_true hc, Bool.true_and]
    have A1 := fun w (g : Gr W w) => c_rBoundsOk w (pts_gr h g) hc
    have A2 := fun w (g : Gr W w) => c_rCheckQuery kq qlx qly qhx qhy w (pts_gr hu g)
    unfold RChTo at A2
    have bo := bx_ok hc
    obtain ⟨ad, cap, _, _, rfl, -⟩ := h
    obtain ⟨bd, bcap, _, _, rfl, -⟩ := hu
    by_cases hd : qC kq qlx qly qhx qhy m P Q = 0
    · rw [decide_eq_true hd, Bool.true_and]
      have qc := qC_cases hd
      rw [hd] at A2
      unfold maD
      rcases qc with ⟨e, hb⟩ | ⟨e, hb⟩ | ⟨e, hb⟩ | ⟨e, hb⟩
      · rw [if_pos e]
        exact rmatch_1 _ _ _ _ _ W A1 A2 e fun w g => c_rmeetsBox qlx qly qhx qhy w (pts_gr hh g) hc hb
      · rw [if_neg (by omega), if_pos e]
        exact rmatch_2 _ _ _ _ _ W A1 A2 e fun w g => c_rBoxInside _ _ _ _ _ _ _ _ w
      · rw [if_neg (by omega), if_neg (by omega), if_pos e]
        exact rmatch_3 _ _ _ _ _ W A1 A2 e fun w g => c_rmeetsBox qlx qly qlx qly w (pts_gr hh g) hc (pt_box hb)
      · rw [if_neg (by omega), if_neg (by omega), if_neg (by omega)]
        by_cases k4 : k = 4
        · rw [if_pos k4]
          subst k4
          rw [objC_4] at hc
          exact rmatch_4a _ _ _ _ _ W A1 A2 e rfl fun w g => c_rrings w (pts_gr hh g) (pts_gr hv g) hc hb
        · rw [if_neg k4]
          unfold bLx bLy bHx bHy at A1 bo
          simp only [if_neg k4] at A1 bo
          exact rmatch_4b _ _ _ _ _ W A1 A2 e k4 fun w g => c_rringBox _ _ _ _ w (pts_gr hv g) hb bo
    · rw [decide_eq_false hd, Bool.false_and]
      exact rmatch_no2 _ _ _ _ _ W hd A1 A2
  · rw [decide_eq_false hc, Bool.false_and, Bool.false_and]
    have A1 := fun w (g : Gr W w) => c_rBoundsNo w (pts_gr h g) hc
    obtain ⟨ad, cap, _, _, rfl, -⟩ := h
    obtain ⟨bd, bcap, _, _, rfl, -⟩ := hu
    exact rmatch_no1 _ W hc A1
theorem ma_doc {k : Int} {n : Nat} {X Y : Nat → Int} {kq qlx qly qhx qhy : Int} {m : Nat} {P Q : Nat → Int} (hc : objC k n X Y = 0) (hd : qC kq qlx qly qhx qhy m P Q = 0) : maA k n X Y kq qlx qly qhx qhy m P Q = maD k n X Y kq qlx qly qhx qhy m P Q := by
  have qc := qC_cases hd
  have bo := bx_ok hc
  unfold maA maD mbD
  by_cases k4 : k = 4
  · simp only [if_pos k4]
    unfold bLx bLy bHx bHy
    simp only [if_pos k4]
    subst k4
    rw [objC_4] at hc
    unfold mpV
    rcases qc with ⟨e, hb⟩ | ⟨e, hb⟩ | ⟨e, hb⟩ | ⟨e, hb⟩
    · subst e; simp only [if_pos]; exact rm_doc hc hb
    · subst e; rfl
    · subst e; exact rm_doc hc (pt_box hb)
    · subst e; exact rg_doc hc hb
  · simp only [if_neg k4]
    unfold bLx bLy bHx bHy at bo ⊢
    simp only [if_neg k4] at bo ⊢
    unfold msV
    rcases qc with ⟨e, hb⟩ | ⟨e, hb⟩ | ⟨e, hb⟩ | ⟨e, hb⟩
    · subst e; rfl
    · subst e; rfl
    · subst e; rfl
    · subst e; exact rm_doc hb bo
end Go.Proofs.YtfobmlgpjhghdaaGreatDoor
namespace Go.Proofs.YtfobmlgpjhghdaaGreatDoor
set_option linter.unusedVariables false
set_option linter.unusedSimpArgs false
section
variable {n : Nat} {X Y : Nat → Int} {px py : Int}
theorem fa_pick : ∀ k, 1 ≤ k → ∃ i, i < k ∧ faW n X Y px py (List.range k) = faD n X Y px py i := by
  intro k
  induction k with
  | zero => intro h; omega
  | succ k ih =>
    intro _
    rw [List.range_succ, faW_snoc]
    unfold faS
    split
    · exact ⟨k, by omega, rfl⟩
    · rename_i hc
      by_cases h : k = 0
      · subst h
        exact absurd (Or.inl rfl) hc
      · obtain ⟨i, hi, e⟩ := ih (by omega)
        exact ⟨i, by omega, e⟩
theorem faD_near (h2 : ∀ k, k < n → nearB (X k) (Y k) = true) (hp : nearB px py = true) {i : Nat} (hi : i < n) : faD n X Y px py i = (sdN (X i) (Y i) (X (Rg.nx1 n i)) (Y (Rg.nx1 n i)) px py, sdD (X i) (Y i) (X (Rg.nx1 n i)) (Y (Rg.nx1 n i)) px py) := by
  unfold faD sdG
  rw [if_pos (by rw [h2 i hi, h2 _ (nxl_of (by omega) hi), hp]; rfl)]
theorem sdD_pos (ax ay bx by' px py : Int) : 0 < sdD ax ay bx by' px py := by
  unfold sdD
  split
  · decide
  · split
    · decide
    · exact (mid_parts _ _ (by omega)).2.2.2
end
end Go.Proofs.YtfobmlgpjhghdaaGreatDoor
namespace Go.Proofs.YtfobmlgpjhghdaaGreatDoor
set_option linter.unusedVariables false
open Go.ChangeShapes Go.WideShapes Go.ChangeAt Go.RowKit
theorem cells2n (w : World) (B : Nat) (x y : Value) (h0 : w.cell? ⟨B, 0, none⟩ = some x) (h1 : w.cell? ⟨B, 1, none⟩ = some y) : ∀ (j : Nat) u, [x, y][j]? = some u → w.cell? ((⟨B, 0, none⟩ : Addr).add j) = some u := by
  intro j u h
  match j with
  | 0 => simp at h; subst h; exact h0
  | 1 => simp at h; subst h; exact h1
  | k + 2 => simp at h
theorem one2 (x y : Int) : ∀ u ∈ [Value.int .u64 x, Value.int .u64 y], u.oneCell' = true := by
  intro u h
  simp at h
  rcases h with rfl | rfl <;> rfl
theorem grown_of_gr {a b : World} (g : Gr a b) (r : Option Nat) : a.grownBy b r := ⟨g.os, g.tape, g.output, g.size, fun k hk _ => g.block k hk⟩
theorem own_gr {a b : World} {base e size n : Nat} {v : Value} {xs : List Value} (h : a.ownsRow base e size v n xs) (g : Gr a b) : b.ownsRow base e size v n xs :=
  h.kept (grown_of_gr g none) (by
    rcases hh : v.ownBlock with _ | k
    · exact Or.inl rfl
    · exact Or.inr (by simp))
set_option maxHeartbeats 2000000 in
set_option maxRecDepth 100000 in
theorem words2_walk (x y xl xh yl yh b : Nat) (w : World) (q1 : bits BinOp.and IntKind.u64 (x : Int) 4294967295 = (xl : Int)) (q2 : (x : Int) / 4294967296 = (xh : Int)) (p1 : bits BinOp.and IntKind.u64 (y : Int) 4294967295 = (yl : Int)) (p2 : (y : Int) / 4294967296 = (yh : Int))
    (hb : b < w.heap.size) (k0 : w.cell? ⟨b, 0, none⟩ = some (.int .u64 x)) (k1 : w.cell? ⟨b, 1, none⟩ = some (.int .u64 y)) :
    Calls Tryz.prog 129 #[.slice (some ⟨b, 0, none⟩) 2 2] w fun e w' => ∃ B cap, e = .returned (.slice (some ⟨B, 0, none⟩) 4 cap) ∧ w.heap.size ≤ B ∧ w'.cell? ⟨B, 0, none⟩ = some (.int .u64 xl) ∧ w'.cell? ⟨B, 1, none⟩ = some (.int .u64 xh) ∧ w'.cell? ⟨B, 2, none⟩ = some (.int .u64 yl) ∧ w'.cell? ⟨B, 3, none⟩ = some (.int .u64 yh) ∧ Gr w w' := by
  obtain ⟨i0, hi, hz0, hz1, hz2⟩ := info_parts (P := Tryz.prog) (e := 40) (z := .int .u64 0) (size := 1) (bytes := 8) (by kernel_rfl)
  have HI := Lib.hid hi
  have HZ0 := Lib.hid hz0
  have HZ1 := Lib.hid hz1
  have HZ2 := Lib.hid hz2
  clear hi hz0 hz1 hz2
  go_enter Tryz.func129, Tryz.ntmps129
  go_wp2_with fail
  refine wp_loop_rounds 3 ?_
  rw [rounds_succ]
  go_wp2_with fail
  let Rc : World → Prop := fun w' => Gr w w'
  refine Hd.wp_region_head 12 11 Rc Rc (fun v w' => Rc w' ∧ ∃ B, v = .slice (some ⟨B, 0, none⟩) 2 2 ∧ w.heap.size ≤ B ∧ w'.cell? ⟨B, 0, none⟩ = some (.int .u64 xl) ∧ w'.cell? ⟨B, 1, none⟩ = some (.int .u64 xh)) (by kernel_rfl) (by simp only [List.getElem?_toArray, List.getElem?_cons_succ, List.getElem?_cons_zero] <;> rfl) (by kernel_rfl) (by intro cs b h; cases h) ?_ ?_ ?_ ?_ ?_ ?_
  · intro a b h g; exact Gr.trans h g
  · rintro v a b ⟨h, B, e, hB, c0, c1⟩ g
    exact ⟨Gr.trans h g, B, e, hB, cell_gr g c0, cell_gr g c1⟩
  · intro a h; exact h
  · intro v a h; exact h.1
  · show Gr _ _
    go_grown
  · intro KQ hKQ
    repeat (first | (refine Hd.wpG_skip (by decide) rfl ?_; simp only [Act.put, List.setIfInBounds_toArray, List.set_cons_zero, List.set_cons_succ]) | (refine Hd.wpG_want (by decide) rfl ?_; apply Exists.intro; refine ⟨?_, ?_⟩; (· intro wx gx; (have gx0 := cell_gr gx k0; clear gx); all_goals (apply Hd.gAt_of_quiet; intro K hK; go_big_quiet_op; first | exact hK _ rfl | (apply Exists.intro; refine ⟨fun _ => ?_, ?_⟩; (· (fail)); exact hK _ rfl))); try simp only [Act.put, List.setIfInBounds_toArray, List.set_cons_zero, List.set_cons_succ]))
    refine Hd.wpG_k (by decide) ?_ ?_
    · rintro w' gx
      unfold Oper.wp
      go_simp
      change Gr w w' at gx
      have gs := gx.size
      exact ⟨(show Gr w _ by go_grown), gs⟩
    refine Hd.wpG_nil (hKQ _ ?_)
    clear hKQ KQ
    rintro v w1 ⟨gx, B, rfl, hB, b0, b1⟩
    change Gr w w1 at gx
    clear Rc
    refine wpList_append_own _ rfl _ _ 158 rfl w.heap.size 40 i0 (.int .u64 0) 1 8 Tryz.underlying158 HI.out HZ0.out HZ1.out HZ2.out rfl (by decide) (.slice none 0 0) 0 [] rfl (World.ownsRow_nil _ _ _ _) ⟨B, 0, none⟩ 2 2 [.int .u64 xl, .int .u64 xh] rfl rfl (cells2n _ _ _ _ b0 b1) (one2 _ _) (by unfold maxLen; omega) (by omega) gx.size ?_
    intro v1 w2 own1 grow1 nil1
    have gw2 : Gr w w2 := gr_of_grown gx grow1 (fun k h => by cases h)
    have l0 := cell_gr gw2 k1
    have HO := Lib.hid own1
    clear own1 grow1 nil1 gx b0 b1 hB
    go_wp2_with fail
    rw [rounds_succ]
    go_wp2_with fail
    let Rd : World → Prop := fun w' => Gr w2 w'
    refine Hd.wp_region_head 12 11 Rd Rd (fun v w' => Rd w' ∧ ∃ B, v = .slice (some ⟨B, 0, none⟩) 2 2 ∧ w2.heap.size ≤ B ∧ w'.cell? ⟨B, 0, none⟩ = some (.int .u64 yl) ∧ w'.cell? ⟨B, 1, none⟩ = some (.int .u64 yh)) (by kernel_rfl) (by simp only [List.getElem?_toArray, List.getElem?_cons_succ, List.getElem?_cons_zero] <;> rfl) (by kernel_rfl) (by intro cs b h; cases h) ?_ ?_ ?_ ?_ ?_ ?_
    · intro a b h g; exact Gr.trans h g
    · rintro v a b ⟨h, B, e, hB, c0, c1⟩ g
      exact ⟨Gr.trans h g, B, e, hB, cell_gr g c0, cell_gr g c1⟩
    · intro a h; exact h
    · intro v a h; exact h.1
    · show Gr _ _
      go_grown
    · intro KQ hKQ
      repeat (first | (refine Hd.wpG_skip (by decide) rfl ?_; simp only [Act.put, List.setIfInBounds_toArray, List.set_cons_zero, List.set_cons_succ]) | (refine Hd.wpG_want (by decide) rfl ?_; apply Exists.intro; refine ⟨?_, ?_⟩; (· intro wx gx; (have gx0 := cell_gr gx l0; clear gx); all_goals (apply Hd.gAt_of_quiet; intro K hK; go_big_quiet_op; first | exact hK _ rfl | (apply Exists.intro; refine ⟨fun _ => ?_, ?_⟩; (· (fail)); exact hK _ rfl))); try simp only [Act.put, List.setIfInBounds_toArray, List.set_cons_zero, List.set_cons_succ]))
      refine Hd.wpG_k (by decide) ?_ ?_
      · rintro w' gx
        unfold Oper.wp
        go_simp
        change Gr w2 w' at gx
        have gs := gx.size
        exact ⟨(show Gr w2 _ by go_grown), gs⟩
      refine Hd.wpG_nil (hKQ _ ?_)
      clear hKQ KQ
      rintro v w3 ⟨gx, B', rfl, hB', d0, d1⟩
      change Gr w2 w3 at gx
      clear Rd
      have gw3 := Gr.trans gw2 gx
      refine wpList_append_own _ rfl _ _ 158 rfl w.heap.size 40 i0 (.int .u64 0) 1 8 Tryz.underlying158 HI.out HZ0.out HZ1.out HZ2.out rfl (by decide) v1 2 [.int .u64 xl, .int .u64 xh] rfl (own_gr HO.out gx) ⟨B', 0, none⟩ 2 2 [.int .u64 yl, .int .u64 yh] rfl rfl (cells2n _ _ _ _ d0 d1) (one2 _ _) (by unfold maxLen; omega) (by omega) gw3.size ?_
      intro v2 w4 own2 grow2 nil2
      have gw4 : Gr w w4 := gr_of_grown gw3 grow2 (fun k h => (HO.out.lt k h).1)
      have HP := Lib.hid own2
      clear own2 grow2 nil2
      go_wp2_with fail
      rw [rounds_succ]
      go_wp2_with fail
      go_ret
      have own2 := HP.out
      obtain ⟨g, cap, cur, rfl, hg, -⟩ : ∃ g cap cur, v2 = .slice (some ⟨g, 0, none⟩) 4 cap ∧ w.heap.size ≤ g ∧ w4.heap[g]? = some (.cells cur 40 (0, 0)) := by
        rcases own2.2 with ⟨_, h⟩ | ⟨g, cap, cur, e, hg, hh, _⟩
        · omega
        · exact ⟨g, cap, cur, e, hg, hh⟩
      exact ⟨g, cap, rfl, hg, own2.cellAt 0 (by decide), own2.cellAt 1 (by decide), own2.cellAt 2 (by decide), own2.cellAt 3 (by decide), gw4⟩
theorem make6 (w : World) : (Instr.makeSlice 158 (.int .i64 6) (.int .i64 6)).run Tryz.prog w = .ok (.slice (some ⟨w.heap.size, 0, none⟩) 6 6) (w.alloc (.cells #[.int .u64 0, .int .u64 0, .int .u64 0, .int .u64 0, .int .u64 0, .int .u64 0] 40)) := by kernel_rfl
set_option maxHeartbeats 4000000 in
set_option maxRecDepth 100000 in
theorem times42_walk (a0 a1 a2 a3 b0 b1 p00 o00 c00 p01 v01 o01 c01 p10 t10 o10 c10 p11 t11 v11 o11 c11 p20 t20 o20 c20 p21 t21 v21 o21 c21 p30 t30 o30 c30 p31 t31 v31 o31 c31 : Nat) (A B ca cb : Nat) (w : World) (hA : A < w.heap.size) (hB : B < w.heap.size)
    (ka0 : w.cell? ⟨A, 0, none⟩ = some (.int .u64 a0)) (ka1 : w.cell? ⟨A, 1, none⟩ = some (.int .u64 a1)) (ka2 : w.cell? ⟨A, 2, none⟩ = some (.int .u64 a2)) (ka3 : w.cell? ⟨A, 3, none⟩ = some (.int .u64 a3)) (kb0 : w.cell? ⟨B, 0, none⟩ = some (.int .u64 b0)) (kb1 : w.cell? ⟨B, 1, none⟩ = some (.int .u64 b1))
    (m00 : IntKind.u64.wrap ((a0 : Int) * (b0 : Int)) = (p00 : Int))
    (n00 : IntKind.u64.wrap ((p00 : Int)) = (p00 : Int))
    (x00 : bits BinOp.and IntKind.u64 (p00 : Int) 4294967295 = (o00 : Int))
    (y00 : (p00 : Int) / 4294967296 = (c00 : Int))
    (m01 : IntKind.u64.wrap ((a0 : Int) * (b1 : Int)) = (p01 : Int))
    (n01 : IntKind.u64.wrap ((p01 : Int)) = (p01 : Int))
    (r01 : IntKind.u64.wrap ((p01 : Int) + (c00 : Int)) = (v01 : Int))
    (x01 : bits BinOp.and IntKind.u64 (v01 : Int) 4294967295 = (o01 : Int))
    (y01 : (v01 : Int) / 4294967296 = (c01 : Int))
    (m10 : IntKind.u64.wrap ((a1 : Int) * (b0 : Int)) = (p10 : Int))
    (s10 : IntKind.u64.wrap ((p10 : Int) + (o01 : Int)) = (t10 : Int))
    (r10 : IntKind.u64.wrap ((t10 : Int)) = (t10 : Int))
    (x10 : bits BinOp.and IntKind.u64 (t10 : Int) 4294967295 = (o10 : Int))
    (y10 : (t10 : Int) / 4294967296 = (c10 : Int))
    (m11 : IntKind.u64.wrap ((a1 : Int) * (b1 : Int)) = (p11 : Int))
    (s11 : IntKind.u64.wrap ((p11 : Int) + (c01 : Int)) = (t11 : Int))
    (r11 : IntKind.u64.wrap ((t11 : Int) + (c10 : Int)) = (v11 : Int))
    (x11 : bits BinOp.and IntKind.u64 (v11 : Int) 4294967295 = (o11 : Int))
    (y11 : (v11 : Int) / 4294967296 = (c11 : Int))
    (m20 : IntKind.u64.wrap ((a2 : Int) * (b0 : Int)) = (p20 : Int))
    (s20 : IntKind.u64.wrap ((p20 : Int) + (o11 : Int)) = (t20 : Int))
    (r20 : IntKind.u64.wrap ((t20 : Int)) = (t20 : Int))
    (x20 : bits BinOp.and IntKind.u64 (t20 : Int) 4294967295 = (o20 : Int))
    (y20 : (t20 : Int) / 4294967296 = (c20 : Int))
    (m21 : IntKind.u64.wrap ((a2 : Int) * (b1 : Int)) = (p21 : Int))
    (s21 : IntKind.u64.wrap ((p21 : Int) + (c11 : Int)) = (t21 : Int))
    (r21 : IntKind.u64.wrap ((t21 : Int) + (c20 : Int)) = (v21 : Int))
    (x21 : bits BinOp.and IntKind.u64 (v21 : Int) 4294967295 = (o21 : Int))
    (y21 : (v21 : Int) / 4294967296 = (c21 : Int))
    (m30 : IntKind.u64.wrap ((a3 : Int) * (b0 : Int)) = (p30 : Int))
    (s30 : IntKind.u64.wrap ((p30 : Int) + (o21 : Int)) = (t30 : Int))
    (r30 : IntKind.u64.wrap ((t30 : Int)) = (t30 : Int))
    (x30 : bits BinOp.and IntKind.u64 (t30 : Int) 4294967295 = (o30 : Int))
    (y30 : (t30 : Int) / 4294967296 = (c30 : Int))
    (m31 : IntKind.u64.wrap ((a3 : Int) * (b1 : Int)) = (p31 : Int))
    (s31 : IntKind.u64.wrap ((p31 : Int) + (c21 : Int)) = (t31 : Int))
    (r31 : IntKind.u64.wrap ((t31 : Int) + (c30 : Int)) = (v31 : Int))
    (x31 : bits BinOp.and IntKind.u64 (v31 : Int) 4294967295 = (o31 : Int))
    (y31 : (v31 : Int) / 4294967296 = (c31 : Int)) :
    Calls Tryz.prog 128 #[.slice (some ⟨A, 0, none⟩) 4 ca, .slice (some ⟨B, 0, none⟩) 2 cb] w fun e w' => ∃ O, e = .returned (.slice (some ⟨O, 0, none⟩) 6 6) ∧ w'.cell? ⟨O, 0, none⟩ = some (.int .u64 o00) ∧ w'.cell? ⟨O, 1, none⟩ = some (.int .u64 o10) ∧ w'.cell? ⟨O, 2, none⟩ = some (.int .u64 o20) ∧ w'.cell? ⟨O, 3, none⟩ = some (.int .u64 o30) ∧ w'.cell? ⟨O, 4, none⟩ = some (.int .u64 o31) ∧ w'.cell? ⟨O, 5, none⟩ = some (.int .u64 c31) ∧ Gr w w' := by
  have hm := make6
  go_enter Tryz.func128, Tryz.ntmps128
  go_wp2_with fail
  refine wp_loop_rounds 5 ?_
  rw [rounds_succ]
  go_wp2_with fail
  refine wp_loop_rounds 3 ?_
  rw [rounds_succ]
  go_wp2_with fail
  generalize hhw0 : (w.alloc (.cells #[.int .u64 0, .int .u64 0, .int .u64 0, .int .u64 0, .int .u64 0, .int .u64 0] 40)) = w0
  have cw0_0_0 : w0.cell? ⟨A, 0, none⟩ = some (.int .u64 a0) := by subst hhw0; go_simp
  have cw0_0_1 : w0.cell? ⟨A, 1, none⟩ = some (.int .u64 a1) := by subst hhw0; go_simp
  have cw0_0_2 : w0.cell? ⟨A, 2, none⟩ = some (.int .u64 a2) := by subst hhw0; go_simp
  have cw0_0_3 : w0.cell? ⟨A, 3, none⟩ = some (.int .u64 a3) := by subst hhw0; go_simp
  have zw0_0 := zb cw0_0_0
  have cw0_1_0 : w0.cell? ⟨B, 0, none⟩ = some (.int .u64 b0) := by subst hhw0; go_simp
  have cw0_1_1 : w0.cell? ⟨B, 1, none⟩ = some (.int .u64 b1) := by subst hhw0; go_simp
  have zw0_1 := zb cw0_1_0
  have cw0_2_0 : w0.cell? ⟨w.heap.size, 0, none⟩ = some (.int .u64 0) := by subst hhw0; go_simp
  have fw0_2_0 : w0.frozen? ⟨w.heap.size, 0, none⟩ = false := by subst hhw0; go_simp
  have cw0_2_1 : w0.cell? ⟨w.heap.size, 1, none⟩ = some (.int .u64 0) := by subst hhw0; go_simp
  have fw0_2_1 : w0.frozen? ⟨w.heap.size, 1, none⟩ = false := by subst hhw0; go_simp
  have cw0_2_2 : w0.cell? ⟨w.heap.size, 2, none⟩ = some (.int .u64 0) := by subst hhw0; go_simp
  have fw0_2_2 : w0.frozen? ⟨w.heap.size, 2, none⟩ = false := by subst hhw0; go_simp
  have cw0_2_3 : w0.cell? ⟨w.heap.size, 3, none⟩ = some (.int .u64 0) := by subst hhw0; go_simp
  have fw0_2_3 : w0.frozen? ⟨w.heap.size, 3, none⟩ = false := by subst hhw0; go_simp
  have cw0_2_4 : w0.cell? ⟨w.heap.size, 4, none⟩ = some (.int .u64 0) := by subst hhw0; go_simp
  have fw0_2_4 : w0.frozen? ⟨w.heap.size, 4, none⟩ = false := by subst hhw0; go_simp
  have cw0_2_5 : w0.cell? ⟨w.heap.size, 5, none⟩ = some (.int .u64 0) := by subst hhw0; go_simp
  have fw0_2_5 : w0.frozen? ⟨w.heap.size, 5, none⟩ = false := by subst hhw0; go_simp
  have zw0_2 := zb cw0_2_0
  have gw0 : Gr w w0 := by subst hhw0; go_grown
  clear hhw0
  go_wp2_with fail
  refine Hd.wp_region_tail 18 (by kernel_rfl) (by kernel_rfl) ?_
  intro KQ hKQ
  repeat (first | (refine Hd.wpG_skip (by decide) rfl ?_; simp only [Act.put, List.setIfInBounds_toArray, List.set_cons_zero, List.set_cons_succ]) | (refine Hd.wpG_want (by decide) rfl ?_; apply Exists.intro; refine ⟨?_, ?_⟩; (· intro wx gx; (obtain ⟨mx, rfl⟩ := gx); all_goals (apply Hd.gAt_of_quiet; intro K hK; go_big_quiet_op; first | exact hK _ rfl | (apply Exists.intro; refine ⟨fun _ => ?_, ?_⟩; (· fail); exact hK _ rfl))); try simp only [Act.put, List.setIfInBounds_toArray, List.set_cons_zero, List.set_cons_succ]))
  refine Hd.wpG_nil (hKQ _ ?_)
  clear hKQ KQ
  intro w1 hhw1
  have hw1 := Hd.gr_of_spread hhw1
  have cw1_0_0 := cu hw1 A 0 a0 (by go_simp)
  have cw1_0_1 := cu hw1 A 1 a1 (by go_simp)
  have cw1_0_2 := cu hw1 A 2 a2 (by go_simp)
  have cw1_0_3 := cu hw1 A 3 a3 (by go_simp)
  have cw1_1_0 := cu hw1 B 0 b0 (by go_simp)
  have cw1_1_1 := cu hw1 B 1 b1 (by go_simp)
  have cw1_2_0 := cu hw1 (w.heap.size) 0 0 (by go_simp)
  have fw1_2_0 := fq hw1 (w.heap.size) 0 (.int .u64 0) (by go_simp) (by go_simp)
  have cw1_2_1 := cu hw1 (w.heap.size) 1 0 (by go_simp)
  have fw1_2_1 := fq hw1 (w.heap.size) 1 (.int .u64 0) (by go_simp) (by go_simp)
  have cw1_2_2 := cu hw1 (w.heap.size) 2 0 (by go_simp)
  have fw1_2_2 := fq hw1 (w.heap.size) 2 (.int .u64 0) (by go_simp) (by go_simp)
  have cw1_2_3 := cu hw1 (w.heap.size) 3 0 (by go_simp)
  have fw1_2_3 := fq hw1 (w.heap.size) 3 (.int .u64 0) (by go_simp) (by go_simp)
  have cw1_2_4 := cu hw1 (w.heap.size) 4 0 (by go_simp)
  have fw1_2_4 := fq hw1 (w.heap.size) 4 (.int .u64 0) (by go_simp) (by go_simp)
  have cw1_2_5 := cu hw1 (w.heap.size) 5 0 (by go_simp)
  have fw1_2_5 := fq hw1 (w.heap.size) 5 (.int .u64 0) (by go_simp) (by go_simp)
  have gw1 : Gr w w1 := Gr.trans (by have gg := gw0; have gs := gg.size; go_grown) hw1
  clear hw1 hhw1 gw0 zw0_0 cw0_0_0 cw0_0_1 cw0_0_2 cw0_0_3 zw0_1 cw0_1_0 cw0_1_1 zw0_2 cw0_2_0 fw0_2_0 cw0_2_1 fw0_2_1 cw0_2_2 fw0_2_2 cw0_2_3 fw0_2_3 cw0_2_4 fw0_2_4 cw0_2_5 fw0_2_5
  go_wp2_with fail
  rw [rounds_succ]
  go_wp2_with fail
  generalize hhw2 : (w1.setCell ⟨w.heap.size, 0, none⟩ (.int .u64 o00)) = w2
  have cw2_0_0 : w2.cell? ⟨A, 0, none⟩ = some (.int .u64 a0) := by subst hhw2; go_simp
  have cw2_0_1 : w2.cell? ⟨A, 1, none⟩ = some (.int .u64 a1) := by subst hhw2; go_simp
  have cw2_0_2 : w2.cell? ⟨A, 2, none⟩ = some (.int .u64 a2) := by subst hhw2; go_simp
  have cw2_0_3 : w2.cell? ⟨A, 3, none⟩ = some (.int .u64 a3) := by subst hhw2; go_simp
  have zw2_0 := zb cw2_0_0
  have cw2_1_0 : w2.cell? ⟨B, 0, none⟩ = some (.int .u64 b0) := by subst hhw2; go_simp
  have cw2_1_1 : w2.cell? ⟨B, 1, none⟩ = some (.int .u64 b1) := by subst hhw2; go_simp
  have zw2_1 := zb cw2_1_0
  have cw2_2_0 : w2.cell? ⟨w.heap.size, 0, none⟩ = some (.int .u64 o00) := by subst hhw2; go_simp
  have fw2_2_0 : w2.frozen? ⟨w.heap.size, 0, none⟩ = false := by subst hhw2; go_simp
  have cw2_2_1 : w2.cell? ⟨w.heap.size, 1, none⟩ = some (.int .u64 0) := by subst hhw2; go_simp
  have fw2_2_1 : w2.frozen? ⟨w.heap.size, 1, none⟩ = false := by subst hhw2; go_simp
  have cw2_2_2 : w2.cell? ⟨w.heap.size, 2, none⟩ = some (.int .u64 0) := by subst hhw2; go_simp
  have fw2_2_2 : w2.frozen? ⟨w.heap.size, 2, none⟩ = false := by subst hhw2; go_simp
  have cw2_2_3 : w2.cell? ⟨w.heap.size, 3, none⟩ = some (.int .u64 0) := by subst hhw2; go_simp
  have fw2_2_3 : w2.frozen? ⟨w.heap.size, 3, none⟩ = false := by subst hhw2; go_simp
  have cw2_2_4 : w2.cell? ⟨w.heap.size, 4, none⟩ = some (.int .u64 0) := by subst hhw2; go_simp
  have fw2_2_4 : w2.frozen? ⟨w.heap.size, 4, none⟩ = false := by subst hhw2; go_simp
  have cw2_2_5 : w2.cell? ⟨w.heap.size, 5, none⟩ = some (.int .u64 0) := by subst hhw2; go_simp
  have fw2_2_5 : w2.frozen? ⟨w.heap.size, 5, none⟩ = false := by subst hhw2; go_simp
  have zw2_2 := zb cw2_2_0
  have gw2 : Gr w w2 := by subst hhw2; have gg := gw1; have gs := gg.size; go_grown
  clear hhw2 gw1 cw1_0_0 cw1_0_1 cw1_0_2 cw1_0_3 cw1_1_0 cw1_1_1 cw1_2_0 fw1_2_0 cw1_2_1 fw1_2_1 cw1_2_2 fw1_2_2 cw1_2_3 fw1_2_3 cw1_2_4 fw1_2_4 cw1_2_5 fw1_2_5
  go_wp2_with fail
  refine Hd.wp_region_tail 18 (by kernel_rfl) (by kernel_rfl) ?_
  intro KQ hKQ
  repeat (first | (refine Hd.wpG_skip (by decide) rfl ?_; simp only [Act.put, List.setIfInBounds_toArray, List.set_cons_zero, List.set_cons_succ]) | (refine Hd.wpG_want (by decide) rfl ?_; apply Exists.intro; refine ⟨?_, ?_⟩; (· intro wx gx; (obtain ⟨mx, rfl⟩ := gx); all_goals (apply Hd.gAt_of_quiet; intro K hK; go_big_quiet_op; first | exact hK _ rfl | (apply Exists.intro; refine ⟨fun _ => ?_, ?_⟩; (· fail); exact hK _ rfl))); try simp only [Act.put, List.setIfInBounds_toArray, List.set_cons_zero, List.set_cons_succ]))
  refine Hd.wpG_nil (hKQ _ ?_)
  clear hKQ KQ
  intro w3 hhw3
  have hw3 := Hd.gr_of_spread hhw3
  have cw3_0_0 := cu hw3 A 0 a0 (by go_simp)
  have cw3_0_1 := cu hw3 A 1 a1 (by go_simp)
  have cw3_0_2 := cu hw3 A 2 a2 (by go_simp)
  have cw3_0_3 := cu hw3 A 3 a3 (by go_simp)
  have cw3_1_0 := cu hw3 B 0 b0 (by go_simp)
  have cw3_1_1 := cu hw3 B 1 b1 (by go_simp)
  have cw3_2_0 := cu hw3 (w.heap.size) 0 o00 (by go_simp)
  have fw3_2_0 := fq hw3 (w.heap.size) 0 (.int .u64 o00) (by go_simp) (by go_simp)
  have cw3_2_1 := cu hw3 (w.heap.size) 1 0 (by go_simp)
  have fw3_2_1 := fq hw3 (w.heap.size) 1 (.int .u64 0) (by go_simp) (by go_simp)
  have cw3_2_2 := cu hw3 (w.heap.size) 2 0 (by go_simp)
  have fw3_2_2 := fq hw3 (w.heap.size) 2 (.int .u64 0) (by go_simp) (by go_simp)
  have cw3_2_3 := cu hw3 (w.heap.size) 3 0 (by go_simp)
  have fw3_2_3 := fq hw3 (w.heap.size) 3 (.int .u64 0) (by go_simp) (by go_simp)
  have cw3_2_4 := cu hw3 (w.heap.size) 4 0 (by go_simp)
  have fw3_2_4 := fq hw3 (w.heap.size) 4 (.int .u64 0) (by go_simp) (by go_simp)
  have cw3_2_5 := cu hw3 (w.heap.size) 5 0 (by go_simp)
  have fw3_2_5 := fq hw3 (w.heap.size) 5 (.int .u64 0) (by go_simp) (by go_simp)
  have gw3 : Gr w w3 := Gr.trans (by have gg := gw2; have gs := gg.size; go_grown) hw3
  clear hw3 hhw3 gw2 zw2_0 cw2_0_0 cw2_0_1 cw2_0_2 cw2_0_3 zw2_1 cw2_1_0 cw2_1_1 zw2_2 cw2_2_0 fw2_2_0 cw2_2_1 fw2_2_1 cw2_2_2 fw2_2_2 cw2_2_3 fw2_2_3 cw2_2_4 fw2_2_4 cw2_2_5 fw2_2_5
  go_wp2_with fail
  rw [rounds_succ]
  go_wp2_with fail
  generalize hhw4 : (w3.setCell ⟨w.heap.size, 1, none⟩ (.int .u64 o01)) = w4
  have cw4_0_0 : w4.cell? ⟨A, 0, none⟩ = some (.int .u64 a0) := by subst hhw4; go_simp
  have cw4_0_1 : w4.cell? ⟨A, 1, none⟩ = some (.int .u64 a1) := by subst hhw4; go_simp
  have cw4_0_2 : w4.cell? ⟨A, 2, none⟩ = some (.int .u64 a2) := by subst hhw4; go_simp
  have cw4_0_3 : w4.cell? ⟨A, 3, none⟩ = some (.int .u64 a3) := by subst hhw4; go_simp
  have zw4_0 := zb cw4_0_0
  have cw4_1_0 : w4.cell? ⟨B, 0, none⟩ = some (.int .u64 b0) := by subst hhw4; go_simp
  have cw4_1_1 : w4.cell? ⟨B, 1, none⟩ = some (.int .u64 b1) := by subst hhw4; go_simp
  have zw4_1 := zb cw4_1_0
  have cw4_2_0 : w4.cell? ⟨w.heap.size, 0, none⟩ = some (.int .u64 o00) := by subst hhw4; go_simp
  have fw4_2_0 : w4.frozen? ⟨w.heap.size, 0, none⟩ = false := by subst hhw4; go_simp
  have cw4_2_1 : w4.cell? ⟨w.heap.size, 1, none⟩ = some (.int .u64 o01) := by subst hhw4; go_simp
  have fw4_2_1 : w4.frozen? ⟨w.heap.size, 1, none⟩ = false := by subst hhw4; go_simp
  have cw4_2_2 : w4.cell? ⟨w.heap.size, 2, none⟩ = some (.int .u64 0) := by subst hhw4; go_simp
  have fw4_2_2 : w4.frozen? ⟨w.heap.size, 2, none⟩ = false := by subst hhw4; go_simp
  have cw4_2_3 : w4.cell? ⟨w.heap.size, 3, none⟩ = some (.int .u64 0) := by subst hhw4; go_simp
  have fw4_2_3 : w4.frozen? ⟨w.heap.size, 3, none⟩ = false := by subst hhw4; go_simp
  have cw4_2_4 : w4.cell? ⟨w.heap.size, 4, none⟩ = some (.int .u64 0) := by subst hhw4; go_simp
  have fw4_2_4 : w4.frozen? ⟨w.heap.size, 4, none⟩ = false := by subst hhw4; go_simp
  have cw4_2_5 : w4.cell? ⟨w.heap.size, 5, none⟩ = some (.int .u64 0) := by subst hhw4; go_simp
  have fw4_2_5 : w4.frozen? ⟨w.heap.size, 5, none⟩ = false := by subst hhw4; go_simp
  have zw4_2 := zb cw4_2_0
  have gw4 : Gr w w4 := by subst hhw4; have gg := gw3; have gs := gg.size; go_grown
  clear hhw4 gw3 cw3_0_0 cw3_0_1 cw3_0_2 cw3_0_3 cw3_1_0 cw3_1_1 cw3_2_0 fw3_2_0 cw3_2_1 fw3_2_1 cw3_2_2 fw3_2_2 cw3_2_3 fw3_2_3 cw3_2_4 fw3_2_4 cw3_2_5 fw3_2_5
  go_wp2_with fail
  rw [rounds_succ]
  go_wp2_with fail
  generalize hhw5 : (w4.setCell ⟨w.heap.size, 2, none⟩ (.int .u64 c01)) = w5
  have cw5_0_0 : w5.cell? ⟨A, 0, none⟩ = some (.int .u64 a0) := by subst hhw5; go_simp
  have cw5_0_1 : w5.cell? ⟨A, 1, none⟩ = some (.int .u64 a1) := by subst hhw5; go_simp
  have cw5_0_2 : w5.cell? ⟨A, 2, none⟩ = some (.int .u64 a2) := by subst hhw5; go_simp
  have cw5_0_3 : w5.cell? ⟨A, 3, none⟩ = some (.int .u64 a3) := by subst hhw5; go_simp
  have zw5_0 := zb cw5_0_0
  have cw5_1_0 : w5.cell? ⟨B, 0, none⟩ = some (.int .u64 b0) := by subst hhw5; go_simp
  have cw5_1_1 : w5.cell? ⟨B, 1, none⟩ = some (.int .u64 b1) := by subst hhw5; go_simp
  have zw5_1 := zb cw5_1_0
  have cw5_2_0 : w5.cell? ⟨w.heap.size, 0, none⟩ = some (.int .u64 o00) := by subst hhw5; go_simp
  have fw5_2_0 : w5.frozen? ⟨w.heap.size, 0, none⟩ = false := by subst hhw5; go_simp
  have cw5_2_1 : w5.cell? ⟨w.heap.size, 1, none⟩ = some (.int .u64 o01) := by subst hhw5; go_simp
  have fw5_2_1 : w5.frozen? ⟨w.heap.size, 1, none⟩ = false := by subst hhw5; go_simp
  have cw5_2_2 : w5.cell? ⟨w.heap.size, 2, none⟩ = some (.int .u64 c01) := by subst hhw5; go_simp
  have fw5_2_2 : w5.frozen? ⟨w.heap.size, 2, none⟩ = false := by subst hhw5; go_simp
  have cw5_2_3 : w5.cell? ⟨w.heap.size, 3, none⟩ = some (.int .u64 0) := by subst hhw5; go_simp
  have fw5_2_3 : w5.frozen? ⟨w.heap.size, 3, none⟩ = false := by subst hhw5; go_simp
  have cw5_2_4 : w5.cell? ⟨w.heap.size, 4, none⟩ = some (.int .u64 0) := by subst hhw5; go_simp
  have fw5_2_4 : w5.frozen? ⟨w.heap.size, 4, none⟩ = false := by subst hhw5; go_simp
  have cw5_2_5 : w5.cell? ⟨w.heap.size, 5, none⟩ = some (.int .u64 0) := by subst hhw5; go_simp
  have fw5_2_5 : w5.frozen? ⟨w.heap.size, 5, none⟩ = false := by subst hhw5; go_simp
  have zw5_2 := zb cw5_2_0
  have gw5 : Gr w w5 := by subst hhw5; have gg := gw4; have gs := gg.size; go_grown
  clear hhw5 gw4 zw4_0 cw4_0_0 cw4_0_1 cw4_0_2 cw4_0_3 zw4_1 cw4_1_0 cw4_1_1 zw4_2 cw4_2_0 fw4_2_0 cw4_2_1 fw4_2_1 cw4_2_2 fw4_2_2 cw4_2_3 fw4_2_3 cw4_2_4 fw4_2_4 cw4_2_5 fw4_2_5
  refine wp_loop_rounds 3 ?_
  rw [rounds_succ]
  go_wp2_with fail
  refine Hd.wp_region_tail 18 (by kernel_rfl) (by kernel_rfl) ?_
  intro KQ hKQ
  repeat (first | (refine Hd.wpG_skip (by decide) rfl ?_; simp only [Act.put, List.setIfInBounds_toArray, List.set_cons_zero, List.set_cons_succ]) | (refine Hd.wpG_want (by decide) rfl ?_; apply Exists.intro; refine ⟨?_, ?_⟩; (· intro wx gx; (obtain ⟨mx, rfl⟩ := gx); all_goals (apply Hd.gAt_of_quiet; intro K hK; go_big_quiet_op; first | exact hK _ rfl | (apply Exists.intro; refine ⟨fun _ => ?_, ?_⟩; (· fail); exact hK _ rfl))); try simp only [Act.put, List.setIfInBounds_toArray, List.set_cons_zero, List.set_cons_succ]))
  refine Hd.wpG_nil (hKQ _ ?_)
  clear hKQ KQ
  intro w6 hhw6
  have hw6 := Hd.gr_of_spread hhw6
  have cw6_0_0 := cu hw6 A 0 a0 (by go_simp)
  have cw6_0_1 := cu hw6 A 1 a1 (by go_simp)
  have cw6_0_2 := cu hw6 A 2 a2 (by go_simp)
  have cw6_0_3 := cu hw6 A 3 a3 (by go_simp)
  have cw6_1_0 := cu hw6 B 0 b0 (by go_simp)
  have cw6_1_1 := cu hw6 B 1 b1 (by go_simp)
  have cw6_2_0 := cu hw6 (w.heap.size) 0 o00 (by go_simp)
  have fw6_2_0 := fq hw6 (w.heap.size) 0 (.int .u64 o00) (by go_simp) (by go_simp)
  have cw6_2_1 := cu hw6 (w.heap.size) 1 o01 (by go_simp)
  have fw6_2_1 := fq hw6 (w.heap.size) 1 (.int .u64 o01) (by go_simp) (by go_simp)
  have cw6_2_2 := cu hw6 (w.heap.size) 2 c01 (by go_simp)
  have fw6_2_2 := fq hw6 (w.heap.size) 2 (.int .u64 c01) (by go_simp) (by go_simp)
  have cw6_2_3 := cu hw6 (w.heap.size) 3 0 (by go_simp)
  have fw6_2_3 := fq hw6 (w.heap.size) 3 (.int .u64 0) (by go_simp) (by go_simp)
  have cw6_2_4 := cu hw6 (w.heap.size) 4 0 (by go_simp)
  have fw6_2_4 := fq hw6 (w.heap.size) 4 (.int .u64 0) (by go_simp) (by go_simp)
  have cw6_2_5 := cu hw6 (w.heap.size) 5 0 (by go_simp)
  have fw6_2_5 := fq hw6 (w.heap.size) 5 (.int .u64 0) (by go_simp) (by go_simp)
  have gw6 : Gr w w6 := Gr.trans (by have gg := gw5; have gs := gg.size; go_grown) hw6
  clear hw6 hhw6 gw5 zw5_0 cw5_0_0 cw5_0_1 cw5_0_2 cw5_0_3 zw5_1 cw5_1_0 cw5_1_1 zw5_2 cw5_2_0 fw5_2_0 cw5_2_1 fw5_2_1 cw5_2_2 fw5_2_2 cw5_2_3 fw5_2_3 cw5_2_4 fw5_2_4 cw5_2_5 fw5_2_5
  go_wp2_with fail
  rw [rounds_succ]
  go_wp2_with fail
  generalize hhw7 : (w6.setCell ⟨w.heap.size, 1, none⟩ (.int .u64 o10)) = w7
  have cw7_0_0 : w7.cell? ⟨A, 0, none⟩ = some (.int .u64 a0) := by subst hhw7; go_simp
  have cw7_0_1 : w7.cell? ⟨A, 1, none⟩ = some (.int .u64 a1) := by subst hhw7; go_simp
  have cw7_0_2 : w7.cell? ⟨A, 2, none⟩ = some (.int .u64 a2) := by subst hhw7; go_simp
  have cw7_0_3 : w7.cell? ⟨A, 3, none⟩ = some (.int .u64 a3) := by subst hhw7; go_simp
  have zw7_0 := zb cw7_0_0
  have cw7_1_0 : w7.cell? ⟨B, 0, none⟩ = some (.int .u64 b0) := by subst hhw7; go_simp
  have cw7_1_1 : w7.cell? ⟨B, 1, none⟩ = some (.int .u64 b1) := by subst hhw7; go_simp
  have zw7_1 := zb cw7_1_0
  have cw7_2_0 : w7.cell? ⟨w.heap.size, 0, none⟩ = some (.int .u64 o00) := by subst hhw7; go_simp
  have fw7_2_0 : w7.frozen? ⟨w.heap.size, 0, none⟩ = false := by subst hhw7; go_simp
  have cw7_2_1 : w7.cell? ⟨w.heap.size, 1, none⟩ = some (.int .u64 o10) := by subst hhw7; go_simp
  have fw7_2_1 : w7.frozen? ⟨w.heap.size, 1, none⟩ = false := by subst hhw7; go_simp
  have cw7_2_2 : w7.cell? ⟨w.heap.size, 2, none⟩ = some (.int .u64 c01) := by subst hhw7; go_simp
  have fw7_2_2 : w7.frozen? ⟨w.heap.size, 2, none⟩ = false := by subst hhw7; go_simp
  have cw7_2_3 : w7.cell? ⟨w.heap.size, 3, none⟩ = some (.int .u64 0) := by subst hhw7; go_simp
  have fw7_2_3 : w7.frozen? ⟨w.heap.size, 3, none⟩ = false := by subst hhw7; go_simp
  have cw7_2_4 : w7.cell? ⟨w.heap.size, 4, none⟩ = some (.int .u64 0) := by subst hhw7; go_simp
  have fw7_2_4 : w7.frozen? ⟨w.heap.size, 4, none⟩ = false := by subst hhw7; go_simp
  have cw7_2_5 : w7.cell? ⟨w.heap.size, 5, none⟩ = some (.int .u64 0) := by subst hhw7; go_simp
  have fw7_2_5 : w7.frozen? ⟨w.heap.size, 5, none⟩ = false := by subst hhw7; go_simp
  have zw7_2 := zb cw7_2_0
  have gw7 : Gr w w7 := by subst hhw7; have gg := gw6; have gs := gg.size; go_grown
  clear hhw7 gw6 cw6_0_0 cw6_0_1 cw6_0_2 cw6_0_3 cw6_1_0 cw6_1_1 cw6_2_0 fw6_2_0 cw6_2_1 fw6_2_1 cw6_2_2 fw6_2_2 cw6_2_3 fw6_2_3 cw6_2_4 fw6_2_4 cw6_2_5 fw6_2_5
  go_wp2_with fail
  refine Hd.wp_region_tail 18 (by kernel_rfl) (by kernel_rfl) ?_
  intro KQ hKQ
  repeat (first | (refine Hd.wpG_skip (by decide) rfl ?_; simp only [Act.put, List.setIfInBounds_toArray, List.set_cons_zero, List.set_cons_succ]) | (refine Hd.wpG_want (by decide) rfl ?_; apply Exists.intro; refine ⟨?_, ?_⟩; (· intro wx gx; (obtain ⟨mx, rfl⟩ := gx); all_goals (apply Hd.gAt_of_quiet; intro K hK; go_big_quiet_op; first | exact hK _ rfl | (apply Exists.intro; refine ⟨fun _ => ?_, ?_⟩; (· fail); exact hK _ rfl))); try simp only [Act.put, List.setIfInBounds_toArray, List.set_cons_zero, List.set_cons_succ]))
  refine Hd.wpG_nil (hKQ _ ?_)
  clear hKQ KQ
  intro w8 hhw8
  have hw8 := Hd.gr_of_spread hhw8
  have cw8_0_0 := cu hw8 A 0 a0 (by go_simp)
  have cw8_0_1 := cu hw8 A 1 a1 (by go_simp)
  have cw8_0_2 := cu hw8 A 2 a2 (by go_simp)
  have cw8_0_3 := cu hw8 A 3 a3 (by go_simp)
  have cw8_1_0 := cu hw8 B 0 b0 (by go_simp)
  have cw8_1_1 := cu hw8 B 1 b1 (by go_simp)
  have cw8_2_0 := cu hw8 (w.heap.size) 0 o00 (by go_simp)
  have fw8_2_0 := fq hw8 (w.heap.size) 0 (.int .u64 o00) (by go_simp) (by go_simp)
  have cw8_2_1 := cu hw8 (w.heap.size) 1 o10 (by go_simp)
  have fw8_2_1 := fq hw8 (w.heap.size) 1 (.int .u64 o10) (by go_simp) (by go_simp)
  have cw8_2_2 := cu hw8 (w.heap.size) 2 c01 (by go_simp)
  have fw8_2_2 := fq hw8 (w.heap.size) 2 (.int .u64 c01) (by go_simp) (by go_simp)
  have cw8_2_3 := cu hw8 (w.heap.size) 3 0 (by go_simp)
  have fw8_2_3 := fq hw8 (w.heap.size) 3 (.int .u64 0) (by go_simp) (by go_simp)
  have cw8_2_4 := cu hw8 (w.heap.size) 4 0 (by go_simp)
  have fw8_2_4 := fq hw8 (w.heap.size) 4 (.int .u64 0) (by go_simp) (by go_simp)
  have cw8_2_5 := cu hw8 (w.heap.size) 5 0 (by go_simp)
  have fw8_2_5 := fq hw8 (w.heap.size) 5 (.int .u64 0) (by go_simp) (by go_simp)
  have gw8 : Gr w w8 := Gr.trans (by have gg := gw7; have gs := gg.size; go_grown) hw8
  clear hw8 hhw8 gw7 zw7_0 cw7_0_0 cw7_0_1 cw7_0_2 cw7_0_3 zw7_1 cw7_1_0 cw7_1_1 zw7_2 cw7_2_0 fw7_2_0 cw7_2_1 fw7_2_1 cw7_2_2 fw7_2_2 cw7_2_3 fw7_2_3 cw7_2_4 fw7_2_4 cw7_2_5 fw7_2_5
  go_wp2_with fail
  rw [rounds_succ]
  go_wp2_with fail
  generalize hhw9 : (w8.setCell ⟨w.heap.size, 2, none⟩ (.int .u64 o11)) = w9
  have cw9_0_0 : w9.cell? ⟨A, 0, none⟩ = some (.int .u64 a0) := by subst hhw9; go_simp
  have cw9_0_1 : w9.cell? ⟨A, 1, none⟩ = some (.int .u64 a1) := by subst hhw9; go_simp
  have cw9_0_2 : w9.cell? ⟨A, 2, none⟩ = some (.int .u64 a2) := by subst hhw9; go_simp
  have cw9_0_3 : w9.cell? ⟨A, 3, none⟩ = some (.int .u64 a3) := by subst hhw9; go_simp
  have zw9_0 := zb cw9_0_0
  have cw9_1_0 : w9.cell? ⟨B, 0, none⟩ = some (.int .u64 b0) := by subst hhw9; go_simp
  have cw9_1_1 : w9.cell? ⟨B, 1, none⟩ = some (.int .u64 b1) := by subst hhw9; go_simp
  have zw9_1 := zb cw9_1_0
  have cw9_2_0 : w9.cell? ⟨w.heap.size, 0, none⟩ = some (.int .u64 o00) := by subst hhw9; go_simp
  have fw9_2_0 : w9.frozen? ⟨w.heap.size, 0, none⟩ = false := by subst hhw9; go_simp
  have cw9_2_1 : w9.cell? ⟨w.heap.size, 1, none⟩ = some (.int .u64 o10) := by subst hhw9; go_simp
  have fw9_2_1 : w9.frozen? ⟨w.heap.size, 1, none⟩ = false := by subst hhw9; go_simp
  have cw9_2_2 : w9.cell? ⟨w.heap.size, 2, none⟩ = some (.int .u64 o11) := by subst hhw9; go_simp
  have fw9_2_2 : w9.frozen? ⟨w.heap.size, 2, none⟩ = false := by subst hhw9; go_simp
  have cw9_2_3 : w9.cell? ⟨w.heap.size, 3, none⟩ = some (.int .u64 0) := by subst hhw9; go_simp
  have fw9_2_3 : w9.frozen? ⟨w.heap.size, 3, none⟩ = false := by subst hhw9; go_simp
  have cw9_2_4 : w9.cell? ⟨w.heap.size, 4, none⟩ = some (.int .u64 0) := by subst hhw9; go_simp
  have fw9_2_4 : w9.frozen? ⟨w.heap.size, 4, none⟩ = false := by subst hhw9; go_simp
  have cw9_2_5 : w9.cell? ⟨w.heap.size, 5, none⟩ = some (.int .u64 0) := by subst hhw9; go_simp
  have fw9_2_5 : w9.frozen? ⟨w.heap.size, 5, none⟩ = false := by subst hhw9; go_simp
  have zw9_2 := zb cw9_2_0
  have gw9 : Gr w w9 := by subst hhw9; have gg := gw8; have gs := gg.size; go_grown
  clear hhw9 gw8 cw8_0_0 cw8_0_1 cw8_0_2 cw8_0_3 cw8_1_0 cw8_1_1 cw8_2_0 fw8_2_0 cw8_2_1 fw8_2_1 cw8_2_2 fw8_2_2 cw8_2_3 fw8_2_3 cw8_2_4 fw8_2_4 cw8_2_5 fw8_2_5
  go_wp2_with fail
  rw [rounds_succ]
  go_wp2_with fail
  generalize hhw10 : (w9.setCell ⟨w.heap.size, 3, none⟩ (.int .u64 c11)) = w10
  have cw10_0_0 : w10.cell? ⟨A, 0, none⟩ = some (.int .u64 a0) := by subst hhw10; go_simp
  have cw10_0_1 : w10.cell? ⟨A, 1, none⟩ = some (.int .u64 a1) := by subst hhw10; go_simp
  have cw10_0_2 : w10.cell? ⟨A, 2, none⟩ = some (.int .u64 a2) := by subst hhw10; go_simp
  have cw10_0_3 : w10.cell? ⟨A, 3, none⟩ = some (.int .u64 a3) := by subst hhw10; go_simp
  have zw10_0 := zb cw10_0_0
  have cw10_1_0 : w10.cell? ⟨B, 0, none⟩ = some (.int .u64 b0) := by subst hhw10; go_simp
  have cw10_1_1 : w10.cell? ⟨B, 1, none⟩ = some (.int .u64 b1) := by subst hhw10; go_simp
  have zw10_1 := zb cw10_1_0
  have cw10_2_0 : w10.cell? ⟨w.heap.size, 0, none⟩ = some (.int .u64 o00) := by subst hhw10; go_simp
  have fw10_2_0 : w10.frozen? ⟨w.heap.size, 0, none⟩ = false := by subst hhw10; go_simp
  have cw10_2_1 : w10.cell? ⟨w.heap.size, 1, none⟩ = some (.int .u64 o10) := by subst hhw10; go_simp
  have fw10_2_1 : w10.frozen? ⟨w.heap.size, 1, none⟩ = false := by subst hhw10; go_simp
  have cw10_2_2 : w10.cell? ⟨w.heap.size, 2, none⟩ = some (.int .u64 o11) := by subst hhw10; go_simp
  have fw10_2_2 : w10.frozen? ⟨w.heap.size, 2, none⟩ = false := by subst hhw10; go_simp
  have cw10_2_3 : w10.cell? ⟨w.heap.size, 3, none⟩ = some (.int .u64 c11) := by subst hhw10; go_simp
  have fw10_2_3 : w10.frozen? ⟨w.heap.size, 3, none⟩ = false := by subst hhw10; go_simp
  have cw10_2_4 : w10.cell? ⟨w.heap.size, 4, none⟩ = some (.int .u64 0) := by subst hhw10; go_simp
  have fw10_2_4 : w10.frozen? ⟨w.heap.size, 4, none⟩ = false := by subst hhw10; go_simp
  have cw10_2_5 : w10.cell? ⟨w.heap.size, 5, none⟩ = some (.int .u64 0) := by subst hhw10; go_simp
  have fw10_2_5 : w10.frozen? ⟨w.heap.size, 5, none⟩ = false := by subst hhw10; go_simp
  have zw10_2 := zb cw10_2_0
  have gw10 : Gr w w10 := by subst hhw10; have gg := gw9; have gs := gg.size; go_grown
  clear hhw10 gw9 zw9_0 cw9_0_0 cw9_0_1 cw9_0_2 cw9_0_3 zw9_1 cw9_1_0 cw9_1_1 zw9_2 cw9_2_0 fw9_2_0 cw9_2_1 fw9_2_1 cw9_2_2 fw9_2_2 cw9_2_3 fw9_2_3 cw9_2_4 fw9_2_4 cw9_2_5 fw9_2_5
  refine wp_loop_rounds 3 ?_
  rw [rounds_succ]
  go_wp2_with fail
  refine Hd.wp_region_tail 18 (by kernel_rfl) (by kernel_rfl) ?_
  intro KQ hKQ
  repeat (first | (refine Hd.wpG_skip (by decide) rfl ?_; simp only [Act.put, List.setIfInBounds_toArray, List.set_cons_zero, List.set_cons_succ]) | (refine Hd.wpG_want (by decide) rfl ?_; apply Exists.intro; refine ⟨?_, ?_⟩; (· intro wx gx; (obtain ⟨mx, rfl⟩ := gx); all_goals (apply Hd.gAt_of_quiet; intro K hK; go_big_quiet_op; first | exact hK _ rfl | (apply Exists.intro; refine ⟨fun _ => ?_, ?_⟩; (· fail); exact hK _ rfl))); try simp only [Act.put, List.setIfInBounds_toArray, List.set_cons_zero, List.set_cons_succ]))
  refine Hd.wpG_nil (hKQ _ ?_)
  clear hKQ KQ
  intro w11 hhw11
  have hw11 := Hd.gr_of_spread hhw11
  have cw11_0_0 := cu hw11 A 0 a0 (by go_simp)
  have cw11_0_1 := cu hw11 A 1 a1 (by go_simp)
  have cw11_0_2 := cu hw11 A 2 a2 (by go_simp)
  have cw11_0_3 := cu hw11 A 3 a3 (by go_simp)
  have cw11_1_0 := cu hw11 B 0 b0 (by go_simp)
  have cw11_1_1 := cu hw11 B 1 b1 (by go_simp)
  have cw11_2_0 := cu hw11 (w.heap.size) 0 o00 (by go_simp)
  have fw11_2_0 := fq hw11 (w.heap.size) 0 (.int .u64 o00) (by go_simp) (by go_simp)
  have cw11_2_1 := cu hw11 (w.heap.size) 1 o10 (by go_simp)
  have fw11_2_1 := fq hw11 (w.heap.size) 1 (.int .u64 o10) (by go_simp) (by go_simp)
  have cw11_2_2 := cu hw11 (w.heap.size) 2 o11 (by go_simp)
  have fw11_2_2 := fq hw11 (w.heap.size) 2 (.int .u64 o11) (by go_simp) (by go_simp)
  have cw11_2_3 := cu hw11 (w.heap.size) 3 c11 (by go_simp)
  have fw11_2_3 := fq hw11 (w.heap.size) 3 (.int .u64 c11) (by go_simp) (by go_simp)
  have cw11_2_4 := cu hw11 (w.heap.size) 4 0 (by go_simp)
  have fw11_2_4 := fq hw11 (w.heap.size) 4 (.int .u64 0) (by go_simp) (by go_simp)
  have cw11_2_5 := cu hw11 (w.heap.size) 5 0 (by go_simp)
  have fw11_2_5 := fq hw11 (w.heap.size) 5 (.int .u64 0) (by go_simp) (by go_simp)
  have gw11 : Gr w w11 := Gr.trans (by have gg := gw10; have gs := gg.size; go_grown) hw11
  clear hw11 hhw11 gw10 zw10_0 cw10_0_0 cw10_0_1 cw10_0_2 cw10_0_3 zw10_1 cw10_1_0 cw10_1_1 zw10_2 cw10_2_0 fw10_2_0 cw10_2_1 fw10_2_1 cw10_2_2 fw10_2_2 cw10_2_3 fw10_2_3 cw10_2_4 fw10_2_4 cw10_2_5 fw10_2_5
  go_wp2_with fail
  rw [rounds_succ]
  go_wp2_with fail
  generalize hhw12 : (w11.setCell ⟨w.heap.size, 2, none⟩ (.int .u64 o20)) = w12
  have cw12_0_0 : w12.cell? ⟨A, 0, none⟩ = some (.int .u64 a0) := by subst hhw12; go_simp
  have cw12_0_1 : w12.cell? ⟨A, 1, none⟩ = some (.int .u64 a1) := by subst hhw12; go_simp
  have cw12_0_2 : w12.cell? ⟨A, 2, none⟩ = some (.int .u64 a2) := by subst hhw12; go_simp
  have cw12_0_3 : w12.cell? ⟨A, 3, none⟩ = some (.int .u64 a3) := by subst hhw12; go_simp
  have zw12_0 := zb cw12_0_0
  have cw12_1_0 : w12.cell? ⟨B, 0, none⟩ = some (.int .u64 b0) := by subst hhw12; go_simp
  have cw12_1_1 : w12.cell? ⟨B, 1, none⟩ = some (.int .u64 b1) := by subst hhw12; go_simp
  have zw12_1 := zb cw12_1_0
  have cw12_2_0 : w12.cell? ⟨w.heap.size, 0, none⟩ = some (.int .u64 o00) := by subst hhw12; go_simp
  have fw12_2_0 : w12.frozen? ⟨w.heap.size, 0, none⟩ = false := by subst hhw12; go_simp
  have cw12_2_1 : w12.cell? ⟨w.heap.size, 1, none⟩ = some (.int .u64 o10) := by subst hhw12; go_simp
  have fw12_2_1 : w12.frozen? ⟨w.heap.size, 1, none⟩ = false := by subst hhw12; go_simp
  have cw12_2_2 : w12.cell? ⟨w.heap.size, 2, none⟩ = some (.int .u64 o20) := by subst hhw12; go_simp
  have fw12_2_2 : w12.frozen? ⟨w.heap.size, 2, none⟩ = false := by subst hhw12; go_simp
  have cw12_2_3 : w12.cell? ⟨w.heap.size, 3, none⟩ = some (.int .u64 c11) := by subst hhw12; go_simp
  have fw12_2_3 : w12.frozen? ⟨w.heap.size, 3, none⟩ = false := by subst hhw12; go_simp
  have cw12_2_4 : w12.cell? ⟨w.heap.size, 4, none⟩ = some (.int .u64 0) := by subst hhw12; go_simp
  have fw12_2_4 : w12.frozen? ⟨w.heap.size, 4, none⟩ = false := by subst hhw12; go_simp
  have cw12_2_5 : w12.cell? ⟨w.heap.size, 5, none⟩ = some (.int .u64 0) := by subst hhw12; go_simp
  have fw12_2_5 : w12.frozen? ⟨w.heap.size, 5, none⟩ = false := by subst hhw12; go_simp
  have zw12_2 := zb cw12_2_0
  have gw12 : Gr w w12 := by subst hhw12; have gg := gw11; have gs := gg.size; go_grown
  clear hhw12 gw11 cw11_0_0 cw11_0_1 cw11_0_2 cw11_0_3 cw11_1_0 cw11_1_1 cw11_2_0 fw11_2_0 cw11_2_1 fw11_2_1 cw11_2_2 fw11_2_2 cw11_2_3 fw11_2_3 cw11_2_4 fw11_2_4 cw11_2_5 fw11_2_5
  go_wp2_with fail
  refine Hd.wp_region_tail 18 (by kernel_rfl) (by kernel_rfl) ?_
  intro KQ hKQ
  repeat (first | (refine Hd.wpG_skip (by decide) rfl ?_; simp only [Act.put, List.setIfInBounds_toArray, List.set_cons_zero, List.set_cons_succ]) | (refine Hd.wpG_want (by decide) rfl ?_; apply Exists.intro; refine ⟨?_, ?_⟩; (· intro wx gx; (obtain ⟨mx, rfl⟩ := gx); all_goals (apply Hd.gAt_of_quiet; intro K hK; go_big_quiet_op; first | exact hK _ rfl | (apply Exists.intro; refine ⟨fun _ => ?_, ?_⟩; (· fail); exact hK _ rfl))); try simp only [Act.put, List.setIfInBounds_toArray, List.set_cons_zero, List.set_cons_succ]))
  refine Hd.wpG_nil (hKQ _ ?_)
  clear hKQ KQ
  intro w13 hhw13
  have hw13 := Hd.gr_of_spread hhw13
  have cw13_0_0 := cu hw13 A 0 a0 (by go_simp)
  have cw13_0_1 := cu hw13 A 1 a1 (by go_simp)
  have cw13_0_2 := cu hw13 A 2 a2 (by go_simp)
  have cw13_0_3 := cu hw13 A 3 a3 (by go_simp)
  have cw13_1_0 := cu hw13 B 0 b0 (by go_simp)
  have cw13_1_1 := cu hw13 B 1 b1 (by go_simp)
  have cw13_2_0 := cu hw13 (w.heap.size) 0 o00 (by go_simp)
  have fw13_2_0 := fq hw13 (w.heap.size) 0 (.int .u64 o00) (by go_simp) (by go_simp)
  have cw13_2_1 := cu hw13 (w.heap.size) 1 o10 (by go_simp)
  have fw13_2_1 := fq hw13 (w.heap.size) 1 (.int .u64 o10) (by go_simp) (by go_simp)
  have cw13_2_2 := cu hw13 (w.heap.size) 2 o20 (by go_simp)
  have fw13_2_2 := fq hw13 (w.heap.size) 2 (.int .u64 o20) (by go_simp) (by go_simp)
  have cw13_2_3 := cu hw13 (w.heap.size) 3 c11 (by go_simp)
  have fw13_2_3 := fq hw13 (w.heap.size) 3 (.int .u64 c11) (by go_simp) (by go_simp)
  have cw13_2_4 := cu hw13 (w.heap.size) 4 0 (by go_simp)
  have fw13_2_4 := fq hw13 (w.heap.size) 4 (.int .u64 0) (by go_simp) (by go_simp)
  have cw13_2_5 := cu hw13 (w.heap.size) 5 0 (by go_simp)
  have fw13_2_5 := fq hw13 (w.heap.size) 5 (.int .u64 0) (by go_simp) (by go_simp)
  have gw13 : Gr w w13 := Gr.trans (by have gg := gw12; have gs := gg.size; go_grown) hw13
  clear hw13 hhw13 gw12 zw12_0 cw12_0_0 cw12_0_1 cw12_0_2 cw12_0_3 zw12_1 cw12_1_0 cw12_1_1 zw12_2 cw12_2_0 fw12_2_0 cw12_2_1 fw12_2_1 cw12_2_2 fw12_2_2 cw12_2_3 fw12_2_3 cw12_2_4 fw12_2_4 cw12_2_5 fw12_2_5
  go_wp2_with fail
  rw [rounds_succ]
  go_wp2_with fail
  generalize hhw14 : (w13.setCell ⟨w.heap.size, 3, none⟩ (.int .u64 o21)) = w14
  have cw14_0_0 : w14.cell? ⟨A, 0, none⟩ = some (.int .u64 a0) := by subst hhw14; go_simp
  have cw14_0_1 : w14.cell? ⟨A, 1, none⟩ = some (.int .u64 a1) := by subst hhw14; go_simp
  have cw14_0_2 : w14.cell? ⟨A, 2, none⟩ = some (.int .u64 a2) := by subst hhw14; go_simp
  have cw14_0_3 : w14.cell? ⟨A, 3, none⟩ = some (.int .u64 a3) := by subst hhw14; go_simp
  have zw14_0 := zb cw14_0_0
  have cw14_1_0 : w14.cell? ⟨B, 0, none⟩ = some (.int .u64 b0) := by subst hhw14; go_simp
  have cw14_1_1 : w14.cell? ⟨B, 1, none⟩ = some (.int .u64 b1) := by subst hhw14; go_simp
  have zw14_1 := zb cw14_1_0
  have cw14_2_0 : w14.cell? ⟨w.heap.size, 0, none⟩ = some (.int .u64 o00) := by subst hhw14; go_simp
  have fw14_2_0 : w14.frozen? ⟨w.heap.size, 0, none⟩ = false := by subst hhw14; go_simp
  have cw14_2_1 : w14.cell? ⟨w.heap.size, 1, none⟩ = some (.int .u64 o10) := by subst hhw14; go_simp
  have fw14_2_1 : w14.frozen? ⟨w.heap.size, 1, none⟩ = false := by subst hhw14; go_simp
  have cw14_2_2 : w14.cell? ⟨w.heap.size, 2, none⟩ = some (.int .u64 o20) := by subst hhw14; go_simp
  have fw14_2_2 : w14.frozen? ⟨w.heap.size, 2, none⟩ = false := by subst hhw14; go_simp
  have cw14_2_3 : w14.cell? ⟨w.heap.size, 3, none⟩ = some (.int .u64 o21) := by subst hhw14; go_simp
  have fw14_2_3 : w14.frozen? ⟨w.heap.size, 3, none⟩ = false := by subst hhw14; go_simp
  have cw14_2_4 : w14.cell? ⟨w.heap.size, 4, none⟩ = some (.int .u64 0) := by subst hhw14; go_simp
  have fw14_2_4 : w14.frozen? ⟨w.heap.size, 4, none⟩ = false := by subst hhw14; go_simp
  have cw14_2_5 : w14.cell? ⟨w.heap.size, 5, none⟩ = some (.int .u64 0) := by subst hhw14; go_simp
  have fw14_2_5 : w14.frozen? ⟨w.heap.size, 5, none⟩ = false := by subst hhw14; go_simp
  have zw14_2 := zb cw14_2_0
  have gw14 : Gr w w14 := by subst hhw14; have gg := gw13; have gs := gg.size; go_grown
  clear hhw14 gw13 cw13_0_0 cw13_0_1 cw13_0_2 cw13_0_3 cw13_1_0 cw13_1_1 cw13_2_0 fw13_2_0 cw13_2_1 fw13_2_1 cw13_2_2 fw13_2_2 cw13_2_3 fw13_2_3 cw13_2_4 fw13_2_4 cw13_2_5 fw13_2_5
  go_wp2_with fail
  rw [rounds_succ]
  go_wp2_with fail
  generalize hhw15 : (w14.setCell ⟨w.heap.size, 4, none⟩ (.int .u64 c21)) = w15
  have cw15_0_0 : w15.cell? ⟨A, 0, none⟩ = some (.int .u64 a0) := by subst hhw15; go_simp
  have cw15_0_1 : w15.cell? ⟨A, 1, none⟩ = some (.int .u64 a1) := by subst hhw15; go_simp
  have cw15_0_2 : w15.cell? ⟨A, 2, none⟩ = some (.int .u64 a2) := by subst hhw15; go_simp
  have cw15_0_3 : w15.cell? ⟨A, 3, none⟩ = some (.int .u64 a3) := by subst hhw15; go_simp
  have zw15_0 := zb cw15_0_0
  have cw15_1_0 : w15.cell? ⟨B, 0, none⟩ = some (.int .u64 b0) := by subst hhw15; go_simp
  have cw15_1_1 : w15.cell? ⟨B, 1, none⟩ = some (.int .u64 b1) := by subst hhw15; go_simp
  have zw15_1 := zb cw15_1_0
  have cw15_2_0 : w15.cell? ⟨w.heap.size, 0, none⟩ = some (.int .u64 o00) := by subst hhw15; go_simp
  have fw15_2_0 : w15.frozen? ⟨w.heap.size, 0, none⟩ = false := by subst hhw15; go_simp
  have cw15_2_1 : w15.cell? ⟨w.heap.size, 1, none⟩ = some (.int .u64 o10) := by subst hhw15; go_simp
  have fw15_2_1 : w15.frozen? ⟨w.heap.size, 1, none⟩ = false := by subst hhw15; go_simp
  have cw15_2_2 : w15.cell? ⟨w.heap.size, 2, none⟩ = some (.int .u64 o20) := by subst hhw15; go_simp
  have fw15_2_2 : w15.frozen? ⟨w.heap.size, 2, none⟩ = false := by subst hhw15; go_simp
  have cw15_2_3 : w15.cell? ⟨w.heap.size, 3, none⟩ = some (.int .u64 o21) := by subst hhw15; go_simp
  have fw15_2_3 : w15.frozen? ⟨w.heap.size, 3, none⟩ = false := by subst hhw15; go_simp
  have cw15_2_4 : w15.cell? ⟨w.heap.size, 4, none⟩ = some (.int .u64 c21) := by subst hhw15; go_simp
  have fw15_2_4 : w15.frozen? ⟨w.heap.size, 4, none⟩ = false := by subst hhw15; go_simp
  have cw15_2_5 : w15.cell? ⟨w.heap.size, 5, none⟩ = some (.int .u64 0) := by subst hhw15; go_simp
  have fw15_2_5 : w15.frozen? ⟨w.heap.size, 5, none⟩ = false := by subst hhw15; go_simp
  have zw15_2 := zb cw15_2_0
  have gw15 : Gr w w15 := by subst hhw15; have gg := gw14; have gs := gg.size; go_grown
  clear hhw15 gw14 zw14_0 cw14_0_0 cw14_0_1 cw14_0_2 cw14_0_3 zw14_1 cw14_1_0 cw14_1_1 zw14_2 cw14_2_0 fw14_2_0 cw14_2_1 fw14_2_1 cw14_2_2 fw14_2_2 cw14_2_3 fw14_2_3 cw14_2_4 fw14_2_4 cw14_2_5 fw14_2_5
  refine wp_loop_rounds 3 ?_
  rw [rounds_succ]
  go_wp2_with fail
  refine Hd.wp_region_tail 18 (by kernel_rfl) (by kernel_rfl) ?_
  intro KQ hKQ
  repeat (first | (refine Hd.wpG_skip (by decide) rfl ?_; simp only [Act.put, List.setIfInBounds_toArray, List.set_cons_zero, List.set_cons_succ]) | (refine Hd.wpG_want (by decide) rfl ?_; apply Exists.intro; refine ⟨?_, ?_⟩; (· intro wx gx; (obtain ⟨mx, rfl⟩ := gx); all_goals (apply Hd.gAt_of_quiet; intro K hK; go_big_quiet_op; first | exact hK _ rfl | (apply Exists.intro; refine ⟨fun _ => ?_, ?_⟩; (· fail); exact hK _ rfl))); try simp only [Act.put, List.setIfInBounds_toArray, List.set_cons_zero, List.set_cons_succ]))
  refine Hd.wpG_nil (hKQ _ ?_)
  clear hKQ KQ
  intro w16 hhw16
  have hw16 := Hd.gr_of_spread hhw16
  have cw16_0_0 := cu hw16 A 0 a0 (by go_simp)
  have cw16_0_1 := cu hw16 A 1 a1 (by go_simp)
  have cw16_0_2 := cu hw16 A 2 a2 (by go_simp)
  have cw16_0_3 := cu hw16 A 3 a3 (by go_simp)
  have cw16_1_0 := cu hw16 B 0 b0 (by go_simp)
  have cw16_1_1 := cu hw16 B 1 b1 (by go_simp)
  have cw16_2_0 := cu hw16 (w.heap.size) 0 o00 (by go_simp)
  have fw16_2_0 := fq hw16 (w.heap.size) 0 (.int .u64 o00) (by go_simp) (by go_simp)
  have cw16_2_1 := cu hw16 (w.heap.size) 1 o10 (by go_simp)
  have fw16_2_1 := fq hw16 (w.heap.size) 1 (.int .u64 o10) (by go_simp) (by go_simp)
  have cw16_2_2 := cu hw16 (w.heap.size) 2 o20 (by go_simp)
  have fw16_2_2 := fq hw16 (w.heap.size) 2 (.int .u64 o20) (by go_simp) (by go_simp)
  have cw16_2_3 := cu hw16 (w.heap.size) 3 o21 (by go_simp)
  have fw16_2_3 := fq hw16 (w.heap.size) 3 (.int .u64 o21) (by go_simp) (by go_simp)
  have cw16_2_4 := cu hw16 (w.heap.size) 4 c21 (by go_simp)
  have fw16_2_4 := fq hw16 (w.heap.size) 4 (.int .u64 c21) (by go_simp) (by go_simp)
  have cw16_2_5 := cu hw16 (w.heap.size) 5 0 (by go_simp)
  have fw16_2_5 := fq hw16 (w.heap.size) 5 (.int .u64 0) (by go_simp) (by go_simp)
  have gw16 : Gr w w16 := Gr.trans (by have gg := gw15; have gs := gg.size; go_grown) hw16
  clear hw16 hhw16 gw15 zw15_0 cw15_0_0 cw15_0_1 cw15_0_2 cw15_0_3 zw15_1 cw15_1_0 cw15_1_1 zw15_2 cw15_2_0 fw15_2_0 cw15_2_1 fw15_2_1 cw15_2_2 fw15_2_2 cw15_2_3 fw15_2_3 cw15_2_4 fw15_2_4 cw15_2_5 fw15_2_5
  go_wp2_with fail
  rw [rounds_succ]
  go_wp2_with fail
  generalize hhw17 : (w16.setCell ⟨w.heap.size, 3, none⟩ (.int .u64 o30)) = w17
  have cw17_0_0 : w17.cell? ⟨A, 0, none⟩ = some (.int .u64 a0) := by subst hhw17; go_simp
  have cw17_0_1 : w17.cell? ⟨A, 1, none⟩ = some (.int .u64 a1) := by subst hhw17; go_simp
  have cw17_0_2 : w17.cell? ⟨A, 2, none⟩ = some (.int .u64 a2) := by subst hhw17; go_simp
  have cw17_0_3 : w17.cell? ⟨A, 3, none⟩ = some (.int .u64 a3) := by subst hhw17; go_simp
  have zw17_0 := zb cw17_0_0
  have cw17_1_0 : w17.cell? ⟨B, 0, none⟩ = some (.int .u64 b0) := by subst hhw17; go_simp
  have cw17_1_1 : w17.cell? ⟨B, 1, none⟩ = some (.int .u64 b1) := by subst hhw17; go_simp
  have zw17_1 := zb cw17_1_0
  have cw17_2_0 : w17.cell? ⟨w.heap.size, 0, none⟩ = some (.int .u64 o00) := by subst hhw17; go_simp
  have fw17_2_0 : w17.frozen? ⟨w.heap.size, 0, none⟩ = false := by subst hhw17; go_simp
  have cw17_2_1 : w17.cell? ⟨w.heap.size, 1, none⟩ = some (.int .u64 o10) := by subst hhw17; go_simp
  have fw17_2_1 : w17.frozen? ⟨w.heap.size, 1, none⟩ = false := by subst hhw17; go_simp
  have cw17_2_2 : w17.cell? ⟨w.heap.size, 2, none⟩ = some (.int .u64 o20) := by subst hhw17; go_simp
  have fw17_2_2 : w17.frozen? ⟨w.heap.size, 2, none⟩ = false := by subst hhw17; go_simp
  have cw17_2_3 : w17.cell? ⟨w.heap.size, 3, none⟩ = some (.int .u64 o30) := by subst hhw17; go_simp
  have fw17_2_3 : w17.frozen? ⟨w.heap.size, 3, none⟩ = false := by subst hhw17; go_simp
  have cw17_2_4 : w17.cell? ⟨w.heap.size, 4, none⟩ = some (.int .u64 c21) := by subst hhw17; go_simp
  have fw17_2_4 : w17.frozen? ⟨w.heap.size, 4, none⟩ = false := by subst hhw17; go_simp
  have cw17_2_5 : w17.cell? ⟨w.heap.size, 5, none⟩ = some (.int .u64 0) := by subst hhw17; go_simp
  have fw17_2_5 : w17.frozen? ⟨w.heap.size, 5, none⟩ = false := by subst hhw17; go_simp
  have zw17_2 := zb cw17_2_0
  have gw17 : Gr w w17 := by subst hhw17; have gg := gw16; have gs := gg.size; go_grown
  clear hhw17 gw16 cw16_0_0 cw16_0_1 cw16_0_2 cw16_0_3 cw16_1_0 cw16_1_1 cw16_2_0 fw16_2_0 cw16_2_1 fw16_2_1 cw16_2_2 fw16_2_2 cw16_2_3 fw16_2_3 cw16_2_4 fw16_2_4 cw16_2_5 fw16_2_5
  go_wp2_with fail
  refine Hd.wp_region_tail 18 (by kernel_rfl) (by kernel_rfl) ?_
  intro KQ hKQ
  repeat (first | (refine Hd.wpG_skip (by decide) rfl ?_; simp only [Act.put, List.setIfInBounds_toArray, List.set_cons_zero, List.set_cons_succ]) | (refine Hd.wpG_want (by decide) rfl ?_; apply Exists.intro; refine ⟨?_, ?_⟩; (· intro wx gx; (obtain ⟨mx, rfl⟩ := gx); all_goals (apply Hd.gAt_of_quiet; intro K hK; go_big_quiet_op; first | exact hK _ rfl | (apply Exists.intro; refine ⟨fun _ => ?_, ?_⟩; (· fail); exact hK _ rfl))); try simp only [Act.put, List.setIfInBounds_toArray, List.set_cons_zero, List.set_cons_succ]))
  refine Hd.wpG_nil (hKQ _ ?_)
  clear hKQ KQ
  intro w18 hhw18
  have hw18 := Hd.gr_of_spread hhw18
  have cw18_0_0 := cu hw18 A 0 a0 (by go_simp)
  have cw18_0_1 := cu hw18 A 1 a1 (by go_simp)
  have cw18_0_2 := cu hw18 A 2 a2 (by go_simp)
  have cw18_0_3 := cu hw18 A 3 a3 (by go_simp)
  have cw18_1_0 := cu hw18 B 0 b0 (by go_simp)
  have cw18_1_1 := cu hw18 B 1 b1 (by go_simp)
  have cw18_2_0 := cu hw18 (w.heap.size) 0 o00 (by go_simp)
  have fw18_2_0 := fq hw18 (w.heap.size) 0 (.int .u64 o00) (by go_simp) (by go_simp)
  have cw18_2_1 := cu hw18 (w.heap.size) 1 o10 (by go_simp)
  have fw18_2_1 := fq hw18 (w.heap.size) 1 (.int .u64 o10) (by go_simp) (by go_simp)
  have cw18_2_2 := cu hw18 (w.heap.size) 2 o20 (by go_simp)
  have fw18_2_2 := fq hw18 (w.heap.size) 2 (.int .u64 o20) (by go_simp) (by go_simp)
  have cw18_2_3 := cu hw18 (w.heap.size) 3 o30 (by go_simp)
  have fw18_2_3 := fq hw18 (w.heap.size) 3 (.int .u64 o30) (by go_simp) (by go_simp)
  have cw18_2_4 := cu hw18 (w.heap.size) 4 c21 (by go_simp)
  have fw18_2_4 := fq hw18 (w.heap.size) 4 (.int .u64 c21) (by go_simp) (by go_simp)
  have cw18_2_5 := cu hw18 (w.heap.size) 5 0 (by go_simp)
  have fw18_2_5 := fq hw18 (w.heap.size) 5 (.int .u64 0) (by go_simp) (by go_simp)
  have gw18 : Gr w w18 := Gr.trans (by have gg := gw17; have gs := gg.size; go_grown) hw18
  clear hw18 hhw18 gw17 zw17_0 cw17_0_0 cw17_0_1 cw17_0_2 cw17_0_3 zw17_1 cw17_1_0 cw17_1_1 zw17_2 cw17_2_0 fw17_2_0 cw17_2_1 fw17_2_1 cw17_2_2 fw17_2_2 cw17_2_3 fw17_2_3 cw17_2_4 fw17_2_4 cw17_2_5 fw17_2_5
  go_wp2_with fail
  rw [rounds_succ]
  go_wp2_with fail
  generalize hhw19 : (w18.setCell ⟨w.heap.size, 4, none⟩ (.int .u64 o31)) = w19
  have cw19_0_0 : w19.cell? ⟨A, 0, none⟩ = some (.int .u64 a0) := by subst hhw19; go_simp
  have cw19_0_1 : w19.cell? ⟨A, 1, none⟩ = some (.int .u64 a1) := by subst hhw19; go_simp
  have cw19_0_2 : w19.cell? ⟨A, 2, none⟩ = some (.int .u64 a2) := by subst hhw19; go_simp
  have cw19_0_3 : w19.cell? ⟨A, 3, none⟩ = some (.int .u64 a3) := by subst hhw19; go_simp
  have zw19_0 := zb cw19_0_0
  have cw19_1_0 : w19.cell? ⟨B, 0, none⟩ = some (.int .u64 b0) := by subst hhw19; go_simp
  have cw19_1_1 : w19.cell? ⟨B, 1, none⟩ = some (.int .u64 b1) := by subst hhw19; go_simp
  have zw19_1 := zb cw19_1_0
  have cw19_2_0 : w19.cell? ⟨w.heap.size, 0, none⟩ = some (.int .u64 o00) := by subst hhw19; go_simp
  have fw19_2_0 : w19.frozen? ⟨w.heap.size, 0, none⟩ = false := by subst hhw19; go_simp
  have cw19_2_1 : w19.cell? ⟨w.heap.size, 1, none⟩ = some (.int .u64 o10) := by subst hhw19; go_simp
  have fw19_2_1 : w19.frozen? ⟨w.heap.size, 1, none⟩ = false := by subst hhw19; go_simp
  have cw19_2_2 : w19.cell? ⟨w.heap.size, 2, none⟩ = some (.int .u64 o20) := by subst hhw19; go_simp
  have fw19_2_2 : w19.frozen? ⟨w.heap.size, 2, none⟩ = false := by subst hhw19; go_simp
  have cw19_2_3 : w19.cell? ⟨w.heap.size, 3, none⟩ = some (.int .u64 o30) := by subst hhw19; go_simp
  have fw19_2_3 : w19.frozen? ⟨w.heap.size, 3, none⟩ = false := by subst hhw19; go_simp
  have cw19_2_4 : w19.cell? ⟨w.heap.size, 4, none⟩ = some (.int .u64 o31) := by subst hhw19; go_simp
  have fw19_2_4 : w19.frozen? ⟨w.heap.size, 4, none⟩ = false := by subst hhw19; go_simp
  have cw19_2_5 : w19.cell? ⟨w.heap.size, 5, none⟩ = some (.int .u64 0) := by subst hhw19; go_simp
  have fw19_2_5 : w19.frozen? ⟨w.heap.size, 5, none⟩ = false := by subst hhw19; go_simp
  have zw19_2 := zb cw19_2_0
  have gw19 : Gr w w19 := by subst hhw19; have gg := gw18; have gs := gg.size; go_grown
  clear hhw19 gw18 cw18_0_0 cw18_0_1 cw18_0_2 cw18_0_3 cw18_1_0 cw18_1_1 cw18_2_0 fw18_2_0 cw18_2_1 fw18_2_1 cw18_2_2 fw18_2_2 cw18_2_3 fw18_2_3 cw18_2_4 fw18_2_4 cw18_2_5 fw18_2_5
  go_wp2_with fail
  rw [rounds_succ]
  go_wp2_with fail
  generalize hhw20 : (w19.setCell ⟨w.heap.size, 5, none⟩ (.int .u64 c31)) = w20
  have cw20_0_0 : w20.cell? ⟨A, 0, none⟩ = some (.int .u64 a0) := by subst hhw20; go_simp
  have cw20_0_1 : w20.cell? ⟨A, 1, none⟩ = some (.int .u64 a1) := by subst hhw20; go_simp
  have cw20_0_2 : w20.cell? ⟨A, 2, none⟩ = some (.int .u64 a2) := by subst hhw20; go_simp
  have cw20_0_3 : w20.cell? ⟨A, 3, none⟩ = some (.int .u64 a3) := by subst hhw20; go_simp
  have zw20_0 := zb cw20_0_0
  have cw20_1_0 : w20.cell? ⟨B, 0, none⟩ = some (.int .u64 b0) := by subst hhw20; go_simp
  have cw20_1_1 : w20.cell? ⟨B, 1, none⟩ = some (.int .u64 b1) := by subst hhw20; go_simp
  have zw20_1 := zb cw20_1_0
  have cw20_2_0 : w20.cell? ⟨w.heap.size, 0, none⟩ = some (.int .u64 o00) := by subst hhw20; go_simp
  have fw20_2_0 : w20.frozen? ⟨w.heap.size, 0, none⟩ = false := by subst hhw20; go_simp
  have cw20_2_1 : w20.cell? ⟨w.heap.size, 1, none⟩ = some (.int .u64 o10) := by subst hhw20; go_simp
  have fw20_2_1 : w20.frozen? ⟨w.heap.size, 1, none⟩ = false := by subst hhw20; go_simp
  have cw20_2_2 : w20.cell? ⟨w.heap.size, 2, none⟩ = some (.int .u64 o20) := by subst hhw20; go_simp
  have fw20_2_2 : w20.frozen? ⟨w.heap.size, 2, none⟩ = false := by subst hhw20; go_simp
  have cw20_2_3 : w20.cell? ⟨w.heap.size, 3, none⟩ = some (.int .u64 o30) := by subst hhw20; go_simp
  have fw20_2_3 : w20.frozen? ⟨w.heap.size, 3, none⟩ = false := by subst hhw20; go_simp
  have cw20_2_4 : w20.cell? ⟨w.heap.size, 4, none⟩ = some (.int .u64 o31) := by subst hhw20; go_simp
  have fw20_2_4 : w20.frozen? ⟨w.heap.size, 4, none⟩ = false := by subst hhw20; go_simp
  have cw20_2_5 : w20.cell? ⟨w.heap.size, 5, none⟩ = some (.int .u64 c31) := by subst hhw20; go_simp
  have fw20_2_5 : w20.frozen? ⟨w.heap.size, 5, none⟩ = false := by subst hhw20; go_simp
  have zw20_2 := zb cw20_2_0
  have gw20 : Gr w w20 := by subst hhw20; have gg := gw19; have gs := gg.size; go_grown
  clear hhw20 gw19 zw19_0 cw19_0_0 cw19_0_1 cw19_0_2 cw19_0_3 zw19_1 cw19_1_0 cw19_1_1 zw19_2 cw19_2_0 fw19_2_0 cw19_2_1 fw19_2_1 cw19_2_2 fw19_2_2 cw19_2_3 fw19_2_3 cw19_2_4 fw19_2_4 cw19_2_5 fw19_2_5
  go_wp2_with fail
  go_ret
  exact ⟨w.heap.size, rfl, by go_simp, by go_simp, by go_simp, by go_simp, by go_simp, by go_simp, gw20⟩
end Go.Proofs.YtfobmlgpjhghdaaGreatDoor
namespace Go.Proofs.YtfobmlgpjhghdaaGreatDoor
set_option linter.unusedVariables false
open Go.ChangeShapes Go.WideShapes Go.ChangeAt Go.RowKit
theorem c_times42 (a0 a1 a2 a3 b0 b1 : Nat) (h0 : Hw a0) (h1 : Hw a1) (h2 : Hw a2) (h3 : Hw a3) (g0 : Hw b0) (g1 : Hw b1) : ∃ z0 z1 z2 z3 z4 z5 : Nat, Hw z0 ∧ Hw z1 ∧ Hw z2 ∧ Hw z3 ∧ Hw z4 ∧ Hw z5 ∧
    (a0 + a1 * 4294967296 + (a2 + a3 * 4294967296) * 18446744073709551616) * (b0 + b1 * 4294967296) = (z0 + z1 * 4294967296) + (z2 + z3 * 4294967296) * 18446744073709551616 + (z4 + z5 * 4294967296) * 340282366920938463463374607431768211456 ∧
    ∀ (A B ca cb : Nat) (w : World), A < w.heap.size → B < w.heap.size → w.cell? ⟨A, 0, none⟩ = some (.int .u64 a0) → w.cell? ⟨A, 1, none⟩ = some (.int .u64 a1) → w.cell? ⟨A, 2, none⟩ = some (.int .u64 a2) → w.cell? ⟨A, 3, none⟩ = some (.int .u64 a3) → w.cell? ⟨B, 0, none⟩ = some (.int .u64 b0) → w.cell? ⟨B, 1, none⟩ = some (.int .u64 b1) →
    Calls Tryz.prog 128 #[.slice (some ⟨A, 0, none⟩) 4 ca, .slice (some ⟨B, 0, none⟩) 2 cb] w fun e w' => ∃ O, e = .returned (.slice (some ⟨O, 0, none⟩) 6 6) ∧ w'.cell? ⟨O, 0, none⟩ = some (.int .u64 z0) ∧ w'.cell? ⟨O, 1, none⟩ = some (.int .u64 z1) ∧ w'.cell? ⟨O, 2, none⟩ = some (.int .u64 z2) ∧ w'.cell? ⟨O, 3, none⟩ = some (.int .u64 z3) ∧ w'.cell? ⟨O, 4, none⟩ = some (.int .u64 z4) ∧ w'.cell? ⟨O, 5, none⟩ = some (.int .u64 z5) ∧ Gr w w' := by
  have q00 := hw_mul h0 g0
  obtain ⟨p00, e00⟩ : ∃ p, p = a0 * b0 := ⟨_, rfl⟩
  have q01 := hw_mul h0 g1
  obtain ⟨p01, e01⟩ : ∃ p, p = a0 * b1 := ⟨_, rfl⟩
  have q10 := hw_mul h1 g0
  obtain ⟨p10, e10⟩ : ∃ p, p = a1 * b0 := ⟨_, rfl⟩
  have q11 := hw_mul h1 g1
  obtain ⟨p11, e11⟩ : ∃ p, p = a1 * b1 := ⟨_, rfl⟩
  have q20 := hw_mul h2 g0
  obtain ⟨p20, e20⟩ : ∃ p, p = a2 * b0 := ⟨_, rfl⟩
  have q21 := hw_mul h2 g1
  obtain ⟨p21, e21⟩ : ∃ p, p = a2 * b1 := ⟨_, rfl⟩
  have q30 := hw_mul h3 g0
  obtain ⟨p30, e30⟩ : ∃ p, p = a3 * b0 := ⟨_, rfl⟩
  have q31 := hw_mul h3 g1
  obtain ⟨p31, e31⟩ : ∃ p, p = a3 * b1 := ⟨_, rfl⟩
  have eP : (a0 + a1 * 4294967296 + (a2 + a3 * 4294967296) * 18446744073709551616) * (b0 + b1 * 4294967296) = p00 + (p01 + p10) * 4294967296 + (p11 + p20) * 18446744073709551616 + (p21 + p30) * 79228162514264337593543950336 + p31 * 340282366920938463463374607431768211456 := by
    rw [e00, e01, e10, e11, e20, e21, e30, e31]; grind
  rw [eP]
  have m00 : IntKind.u64.wrap ((a0 : Int) * (b0 : Int)) = (p00 : Int) := by rw [← Int.natCast_mul, ← e00]; exact IntWalk.u64_in _ (by omega)
  rw [← e00] at q00
  have m01 : IntKind.u64.wrap ((a0 : Int) * (b1 : Int)) = (p01 : Int) := by rw [← Int.natCast_mul, ← e01]; exact IntWalk.u64_in _ (by omega)
  rw [← e01] at q01
  have m10 : IntKind.u64.wrap ((a1 : Int) * (b0 : Int)) = (p10 : Int) := by rw [← Int.natCast_mul, ← e10]; exact IntWalk.u64_in _ (by omega)
  rw [← e10] at q10
  have m11 : IntKind.u64.wrap ((a1 : Int) * (b1 : Int)) = (p11 : Int) := by rw [← Int.natCast_mul, ← e11]; exact IntWalk.u64_in _ (by omega)
  rw [← e11] at q11
  have m20 : IntKind.u64.wrap ((a2 : Int) * (b0 : Int)) = (p20 : Int) := by rw [← Int.natCast_mul, ← e20]; exact IntWalk.u64_in _ (by omega)
  rw [← e20] at q20
  have m21 : IntKind.u64.wrap ((a2 : Int) * (b1 : Int)) = (p21 : Int) := by rw [← Int.natCast_mul, ← e21]; exact IntWalk.u64_in _ (by omega)
  rw [← e21] at q21
  have m30 : IntKind.u64.wrap ((a3 : Int) * (b0 : Int)) = (p30 : Int) := by rw [← Int.natCast_mul, ← e30]; exact IntWalk.u64_in _ (by omega)
  rw [← e30] at q30
  have m31 : IntKind.u64.wrap ((a3 : Int) * (b1 : Int)) = (p31 : Int) := by rw [← Int.natCast_mul, ← e31]; exact IntWalk.u64_in _ (by omega)
  rw [← e31] at q31
  clear eP e00 e01 e10 e11 e20 e21 e30 e31 h0 h1 h2 h3 g0 g1
  obtain ⟨o00, do00⟩ : ∃ x, x = p00 % 4294967296 := ⟨_, rfl⟩
  obtain ⟨c00, dc00⟩ : ∃ x, x = p00 / 4294967296 := ⟨_, rfl⟩
  obtain ⟨v01, dv01⟩ : ∃ x, x = p01 + c00 := ⟨_, rfl⟩
  obtain ⟨o01, do01⟩ : ∃ x, x = v01 % 4294967296 := ⟨_, rfl⟩
  obtain ⟨c01, dc01⟩ : ∃ x, x = v01 / 4294967296 := ⟨_, rfl⟩
  obtain ⟨t10, dt10⟩ : ∃ x, x = p10 + o01 := ⟨_, rfl⟩
  obtain ⟨o10, do10⟩ : ∃ x, x = t10 % 4294967296 := ⟨_, rfl⟩
  obtain ⟨c10, dc10⟩ : ∃ x, x = t10 / 4294967296 := ⟨_, rfl⟩
  obtain ⟨t11, dt11⟩ : ∃ x, x = p11 + c01 := ⟨_, rfl⟩
  obtain ⟨v11, dv11⟩ : ∃ x, x = t11 + c10 := ⟨_, rfl⟩
  obtain ⟨o11, do11⟩ : ∃ x, x = v11 % 4294967296 := ⟨_, rfl⟩
  obtain ⟨c11, dc11⟩ : ∃ x, x = v11 / 4294967296 := ⟨_, rfl⟩
  obtain ⟨t20, dt20⟩ : ∃ x, x = p20 + o11 := ⟨_, rfl⟩
  obtain ⟨o20, do20⟩ : ∃ x, x = t20 % 4294967296 := ⟨_, rfl⟩
  obtain ⟨c20, dc20⟩ : ∃ x, x = t20 / 4294967296 := ⟨_, rfl⟩
  obtain ⟨t21, dt21⟩ : ∃ x, x = p21 + c11 := ⟨_, rfl⟩
  obtain ⟨v21, dv21⟩ : ∃ x, x = t21 + c20 := ⟨_, rfl⟩
  obtain ⟨o21, do21⟩ : ∃ x, x = v21 % 4294967296 := ⟨_, rfl⟩
  obtain ⟨c21, dc21⟩ : ∃ x, x = v21 / 4294967296 := ⟨_, rfl⟩
  obtain ⟨t30, dt30⟩ : ∃ x, x = p30 + o21 := ⟨_, rfl⟩
  obtain ⟨o30, do30⟩ : ∃ x, x = t30 % 4294967296 := ⟨_, rfl⟩
  obtain ⟨c30, dc30⟩ : ∃ x, x = t30 / 4294967296 := ⟨_, rfl⟩
  obtain ⟨t31, dt31⟩ : ∃ x, x = p31 + c21 := ⟨_, rfl⟩
  obtain ⟨v31, dv31⟩ : ∃ x, x = t31 + c30 := ⟨_, rfl⟩
  obtain ⟨o31, do31⟩ : ∃ x, x = v31 % 4294967296 := ⟨_, rfl⟩
  obtain ⟨c31, dc31⟩ : ∃ x, x = v31 / 4294967296 := ⟨_, rfl⟩
  have bo00 : o00 < 4294967296 := by omega
  have bv00 : p00 < 18446744073709551616 := by omega
  have bc00 : c00 < 4294967296 := by omega
  have bo01 : o01 < 4294967296 := by omega
  have bv01 : v01 < 18446744073709551616 := by omega
  have bc01 : c01 < 4294967296 := by omega
  have bo10 : o10 < 4294967296 := by omega
  have bv10 : t10 < 18446744073709551616 := by omega
  have bc10 : c10 < 4294967296 := by omega
  have bt10 : t10 < 18446744073709551616 := by omega
  have bo11 : o11 < 4294967296 := by omega
  have bv11 : v11 < 18446744073709551616 := by omega
  have bc11 : c11 < 4294967296 := by omega
  have bt11 : t11 < 18446744073709551616 := by omega
  have bo20 : o20 < 4294967296 := by omega
  have bv20 : t20 < 18446744073709551616 := by omega
  have bc20 : c20 < 4294967296 := by omega
  have bt20 : t20 < 18446744073709551616 := by omega
  have bo21 : o21 < 4294967296 := by omega
  have bv21 : v21 < 18446744073709551616 := by omega
  have bc21 : c21 < 4294967296 := by omega
  have bt21 : t21 < 18446744073709551616 := by omega
  have bo30 : o30 < 4294967296 := by omega
  have bv30 : t30 < 18446744073709551616 := by omega
  have bc30 : c30 < 4294967296 := by omega
  have bt30 : t30 < 18446744073709551616 := by omega
  have bo31 : o31 < 4294967296 := by omega
  have bv31 : v31 < 18446744073709551616 := by omega
  have bc31 : c31 < 4294967296 := by omega
  have bt31 : t31 < 18446744073709551616 := by omega
  refine ⟨o00, o10, o20, o30, o31, c31, by unfold Hw; omega, by unfold Hw; omega, by unfold Hw; omega, by unfold Hw; omega, by unfold Hw; omega, by unfold Hw; omega, by omega, fun A B ca cb w hA hB k0 k1 k2 k3 k4 k5 => ?_⟩
  exact times42_walk a0 a1 a2 a3 b0 b1 p00 o00 c00 p01 v01 o01 c01 p10 t10 o10 c10 p11 t11 v11 o11 c11 p20 t20 o20 c20 p21 t21 v21 o21 c21 p30 t30 o30 c30 p31 t31 v31 o31 c31 A B ca cb w hA hB k0 k1 k2 k3 k4 k5 m00 (IntWalk.u64_in _ (by omega)) (by rw [mask32 _ (by unfold Wd; omega), do00]) (by omega) m01 (IntWalk.u64_in _ (by omega)) (by rw [← Int.natCast_add, ← dv01]; exact IntWalk.u64_in _ (by omega)) (by rw [mask32 _ (by unfold Wd; omega), do01]) (by omega) m10 (by rw [← Int.natCast_add, ← dt10]; exact IntWalk.u64_in _ (by omega)) (IntWalk.u64_in _ (by omega)) (by rw [mask32 _ (by unfold Wd; omega), do10]) (by omega) m11 (by rw [← Int.natCast_add, ← dt11]; exact IntWalk.u64_in _ (by omega)) (by rw [← Int.natCast_add, ← dv11]; exact IntWalk.u64_in _ (by omega)) (by rw [mask32 _ (by unfold Wd; omega), do11]) (by omega) m20 (by rw [← Int.natCast_add, ← dt20]; exact IntWalk.u64_in _ (by omega)) (IntWalk.u64_in _ (by omega)) (by rw [mask32 _ (by unfold Wd; omega), do20]) (by omega) m21 (by rw [← Int.natCast_add, ← dt21]; exact IntWalk.u64_in _ (by omega)) (by rw [← Int.natCast_add, ← dv21]; exact IntWalk.u64_in _ (by omega)) (by rw [mask32 _ (by unfold Wd; omega), do21]) (by omega) m30 (by rw [← Int.natCast_add, ← dt30]; exact IntWalk.u64_in _ (by omega)) (IntWalk.u64_in _ (by omega)) (by rw [mask32 _ (by unfold Wd; omega), do30]) (by omega) m31 (by rw [← Int.natCast_add, ← dt31]; exact IntWalk.u64_in _ (by omega)) (by rw [← Int.natCast_add, ← dv31]; exact IntWalk.u64_in _ (by omega)) (by rw [mask32 _ (by unfold Wd; omega), do31]) (by omega)
theorem words2 (x y : Nat) (hx : Wd x) (hy : Wd y) : ∃ a0 a1 a2 a3 : Nat, Hw a0 ∧ Hw a1 ∧ Hw a2 ∧ Hw a3 ∧ x = a0 + a1 * 4294967296 ∧ y = a2 + a3 * 4294967296 ∧
    ∀ b w, b < w.heap.size → w.cell? ⟨b, 0, none⟩ = some (.int .u64 x) → w.cell? ⟨b, 1, none⟩ = some (.int .u64 y) →
    Calls Tryz.prog 129 #[.slice (some ⟨b, 0, none⟩) 2 2] w fun e w' => ∃ B cap, e = .returned (.slice (some ⟨B, 0, none⟩) 4 cap) ∧ w.heap.size ≤ B ∧ w'.cell? ⟨B, 0, none⟩ = some (.int .u64 a0) ∧ w'.cell? ⟨B, 1, none⟩ = some (.int .u64 a1) ∧ w'.cell? ⟨B, 2, none⟩ = some (.int .u64 a2) ∧ w'.cell? ⟨B, 3, none⟩ = some (.int .u64 a3) ∧ Gr w w' :=
  ⟨x % 4294967296, x / 4294967296, y % 4294967296, y / 4294967296, by unfold Hw; omega, by unfold Hw Wd at *; omega, by unfold Hw; omega, by unfold Hw Wd at *; omega, by omega, by omega, fun b w hb k0 k1 => words2_walk x y _ _ _ _ b w (mask32 x hx) (by omega) (mask32 y hy) (by omega) hb k0 k1⟩
theorem words1 (x : Nat) (hx : Wd x) : ∃ a0 a1 : Nat, Hw a0 ∧ Hw a1 ∧ x = a0 + a1 * 4294967296 ∧
    ∀ b w, b < w.heap.size → w.cell? ⟨b, 0, none⟩ = some (.int .u64 x) →
    Calls Tryz.prog 129 #[.slice (some ⟨b, 0, none⟩) 1 1] w fun e w' => ∃ B cap, e = .returned (.slice (some ⟨B, 0, none⟩) 2 cap) ∧ w.heap.size ≤ B ∧ w'.cell? ⟨B, 0, none⟩ = some (.int .u64 a0) ∧ w'.cell? ⟨B, 1, none⟩ = some (.int .u64 a1) ∧ Gr w w' :=
  ⟨x % 4294967296, x / 4294967296, by unfold Hw; omega, by unfold Hw Wd at *; omega, by omega, fun b w hb k0 => c_words1 x hx b w hb k0⟩
set_option maxHeartbeats 2000000 in
set_option maxRecDepth 100000 in
theorem rtimes_core (h l d a0 a1 a2 a3 b0 b1 z0 z1 z2 z3 z4 z5 t u v : Nat) (W : World)
    (A1 : ∀ b w, b < w.heap.size → w.cell? ⟨b, 0, none⟩ = some (.int .u64 l) → w.cell? ⟨b, 1, none⟩ = some (.int .u64 h) →
      Calls Tryz.prog 129 #[.slice (some ⟨b, 0, none⟩) 2 2] w fun e w' => ∃ B cap, e = .returned (.slice (some ⟨B, 0, none⟩) 4 cap) ∧ w.heap.size ≤ B ∧ w'.cell? ⟨B, 0, none⟩ = some (.int .u64 a0) ∧ w'.cell? ⟨B, 1, none⟩ = some (.int .u64 a1) ∧ w'.cell? ⟨B, 2, none⟩ = some (.int .u64 a2) ∧ w'.cell? ⟨B, 3, none⟩ = some (.int .u64 a3) ∧ Gr w w')
    (A2 : ∀ b w, b < w.heap.size → w.cell? ⟨b, 0, none⟩ = some (.int .u64 d) →
      Calls Tryz.prog 129 #[.slice (some ⟨b, 0, none⟩) 1 1] w fun e w' => ∃ B cap, e = .returned (.slice (some ⟨B, 0, none⟩) 2 cap) ∧ w.heap.size ≤ B ∧ w'.cell? ⟨B, 0, none⟩ = some (.int .u64 b0) ∧ w'.cell? ⟨B, 1, none⟩ = some (.int .u64 b1) ∧ Gr w w')
    (A3 : ∀ (A B ca cb : Nat) (w : World), A < w.heap.size → B < w.heap.size → w.cell? ⟨A, 0, none⟩ = some (.int .u64 a0) → w.cell? ⟨A, 1, none⟩ = some (.int .u64 a1) → w.cell? ⟨A, 2, none⟩ = some (.int .u64 a2) → w.cell? ⟨A, 3, none⟩ = some (.int .u64 a3) → w.cell? ⟨B, 0, none⟩ = some (.int .u64 b0) → w.cell? ⟨B, 1, none⟩ = some (.int .u64 b1) →
      Calls Tryz.prog 128 #[.slice (some ⟨A, 0, none⟩) 4 ca, .slice (some ⟨B, 0, none⟩) 2 cb] w fun e w' => ∃ O, e = .returned (.slice (some ⟨O, 0, none⟩) 6 6) ∧ w'.cell? ⟨O, 0, none⟩ = some (.int .u64 z0) ∧ w'.cell? ⟨O, 1, none⟩ = some (.int .u64 z1) ∧ w'.cell? ⟨O, 2, none⟩ = some (.int .u64 z2) ∧ w'.cell? ⟨O, 3, none⟩ = some (.int .u64 z3) ∧ w'.cell? ⟨O, 4, none⟩ = some (.int .u64 z4) ∧ w'.cell? ⟨O, 5, none⟩ = some (.int .u64 z5) ∧ Gr w w')
    (A4 : ∀ O w, w.cell? ⟨O, 0, none⟩ = some (.int .u64 z0) → w.cell? ⟨O, 1, none⟩ = some (.int .u64 z1) → Calls Tryz.prog 130 #[.slice (some ⟨O, 0, none⟩) 6 6, .int .i64 0] w fun e w' => e = .returned (.int .u64 (v : Int)) ∧ Gr w w')
    (A5 : ∀ O w, w.cell? ⟨O, 2, none⟩ = some (.int .u64 z2) → w.cell? ⟨O, 3, none⟩ = some (.int .u64 z3) → Calls Tryz.prog 130 #[.slice (some ⟨O, 0, none⟩) 6 6, .int .i64 1] w fun e w' => e = .returned (.int .u64 (u : Int)) ∧ Gr w w')
    (A6 : ∀ O w, w.cell? ⟨O, 4, none⟩ = some (.int .u64 z4) → w.cell? ⟨O, 5, none⟩ = some (.int .u64 z5) → Calls Tryz.prog 130 #[.slice (some ⟨O, 0, none⟩) 6 6, .int .i64 2] w fun e w' => e = .returned (.int .u64 (t : Int)) ∧ Gr w w') :
    Calls Tryz.prog 91 #[.agg #[.int .u64 h, .int .u64 l], .int .u64 d] W fun e w' => e = .returned (.tuple #[.int .u64 t, .agg #[.int .u64 u, .int .u64 v]]) ∧ Gr W w' := by
  have H1 := Lib.hid A1
  have H2 := Lib.hid A2
  have H3 := Lib.hid A3
  have H4 := Lib.hid A4
  have H5 := Lib.hid A5
  have H6 := Lib.hid A6
  clear A1 A2 A3 A4 A5 A6
  go_enter Tryz.func91, Tryz.ntmps91
  go_wp2_with fail
  go_at_call 129
  refine (H1.out _ _ (by simp) (by go_simp) (by go_simp)).mono ?_
  rintro e w1 ⟨A, ca, rfl, hA, ka0, ka1, ka2, ka3, h1⟩
  have gw1 : Gr W w1 := Gr.trans (by go_grown) h1
  have s0 : w1.cell? ⟨W.heap.size, 0, none⟩ = some (.int .u64 h) := cell_gr h1 (by go_simp)
  have s1 : w1.cell? ⟨W.heap.size, 1, none⟩ = some (.int .u64 l) := cell_gr h1 (by go_simp)
  have r0 : w1.cell? ⟨W.heap.size + 1, 0, none⟩ = some (.int .u64 0) := cell_gr h1 (by go_simp)
  have r1 : w1.cell? ⟨W.heap.size + 1, 1, none⟩ = some (.int .u64 0) := cell_gr h1 (by go_simp)
  have f0 := fq h1 (W.heap.size + 1) 0 (.int .u64 0) (by go_simp) (by go_simp)
  have f1 := fq h1 (W.heap.size + 1) 1 (.int .u64 0) (by go_simp) (by go_simp)
  have zs := World.block_lt_of_cell? _ _ s0
  have zr := World.block_lt_of_cell? _ _ r0
  have zA := World.block_lt_of_cell? _ _ ka0
  clear h1 hA
  go_wp2_with fail
  go_at_call 129
  refine (H2.out _ _ (by simp) (by go_simp)).mono ?_
  rintro e w2 ⟨B, cb, rfl, hB, kb0, kb1, h2⟩
  have h2' : Gr w1 w2 := Gr.trans (by go_grown) h2
  have gw2 : Gr W w2 := Gr.trans gw1 h2'
  have f0' := frozen_gr h2' r0 f0
  have f1' := frozen_gr h2' r1 f1
  replace r0 := cell_gr h2' r0
  replace r1 := cell_gr h2' r1
  replace ka0 := cell_gr h2' ka0
  replace ka1 := cell_gr h2' ka1
  replace ka2 := cell_gr h2' ka2
  replace ka3 := cell_gr h2' ka3
  clear f0 f1 zr zA zs s0 s1
  have zr := World.block_lt_of_cell? _ _ r0
  have zA := World.block_lt_of_cell? _ _ ka0
  have zB := World.block_lt_of_cell? _ _ kb0
  clear h2 hB h2' gw1
  go_wp2_with fail
  go_at_call 128
  refine (H3.out _ _ _ _ _ zA zB ka0 ka1 ka2 ka3 kb0 kb1).mono ?_
  rintro e w3 ⟨O, rfl, k0, k1, k2, k3, k4, k5, h3⟩
  have f0 := frozen_gr h3 r0 f0'
  have f1 := frozen_gr h3 r1 f1'
  replace r0 := cell_gr h3 r0
  replace r1 := cell_gr h3 r1
  have gw3 : Gr W w3 := Gr.trans gw2 h3
  clear f0' f1' zr zA zB ka0 ka1 ka2 ka3 kb0 kb1 h3 gw2
  have zr := World.block_lt_of_cell? _ _ r0
  have zO := World.block_lt_of_cell? _ _ k0
  go_wp2_with fail
  go_at_call 130
  refine ((H6.out _ _ (by go_simp) (by go_simp))).mono ?_
  rintro e w4 ⟨rfl, hw4⟩
  have cw4_0_0 := cu hw4 (W.heap.size + 1) 0 0 (by go_simp)
  have fw4_0_0 := fq hw4 (W.heap.size + 1) 0 (.int .u64 0) (by go_simp) (by go_simp)
  have cw4_0_1 := cu hw4 (W.heap.size + 1) 1 0 (by go_simp)
  have fw4_0_1 := fq hw4 (W.heap.size + 1) 1 (.int .u64 0) (by go_simp) (by go_simp)
  have cw4_1_0 := cu hw4 O 0 z0 (by go_simp)
  have cw4_1_1 := cu hw4 O 1 z1 (by go_simp)
  have cw4_1_2 := cu hw4 O 2 z2 (by go_simp)
  have cw4_1_3 := cu hw4 O 3 z3 (by go_simp)
  have gw4 : Gr W w4 := Gr.trans (by have gg := gw3; have gs := gg.size; go_grown) hw4
  clear hw4 gw3
  go_wp2_with fail
  go_at_call 130
  refine ((H5.out _ _ (by go_simp) (by go_simp))).mono ?_
  rintro e w5 ⟨rfl, hw5⟩
  have cw5_0_0 := cu hw5 (W.heap.size + 1) 0 0 (by go_simp)
  have fw5_0_0 := fq hw5 (W.heap.size + 1) 0 (.int .u64 0) (by go_simp) (by go_simp)
  have cw5_0_1 := cu hw5 (W.heap.size + 1) 1 0 (by go_simp)
  have fw5_0_1 := fq hw5 (W.heap.size + 1) 1 (.int .u64 0) (by go_simp) (by go_simp)
  have cw5_1_0 := cu hw5 O 0 z0 (by go_simp)
  have cw5_1_1 := cu hw5 O 1 z1 (by go_simp)
  have gw5 : Gr W w5 := Gr.trans (by have gg := gw4; have gs := gg.size; go_grown) hw5
  clear hw5 gw4 cw4_0_0 fw4_0_0 cw4_0_1 fw4_0_1 cw4_1_0 cw4_1_1 cw4_1_2 cw4_1_3
  go_wp2_with fail
  go_at_call 130
  refine ((H4.out _ _ (by go_simp) (by go_simp))).mono ?_
  rintro e w6 ⟨rfl, hw6⟩
  have cw6_0_0 := cu hw6 (W.heap.size + 1) 0 0 (by go_simp)
  have fw6_0_0 := fq hw6 (W.heap.size + 1) 0 (.int .u64 0) (by go_simp) (by go_simp)
  have cw6_0_1 := cu hw6 (W.heap.size + 1) 1 0 (by go_simp)
  have fw6_0_1 := fq hw6 (W.heap.size + 1) 1 (.int .u64 0) (by go_simp) (by go_simp)
  have gw6 : Gr W w6 := Gr.trans (by have gg := gw5; have gs := gg.size; go_grown) hw6
  clear hw6 gw5 cw5_0_0 fw5_0_0 cw5_0_1 fw5_0_1 cw5_1_0 cw5_1_1
  go_wp2_with fail
  refine bodyPost_ret (v := .tuple #[.int .u64 t, .agg #[.int .u64 u, .int .u64 v]]) (by simp [results, Tryz.results91, go_sem, *]) rfl ⟨rfl, by have gg := gw6; have gs := gg.size; go_grown⟩
theorem c_rTimes (h l d : Nat) (h1 : Wd h) (h2 : Wd l) (h3 : Wd d) (w : World) :
    Calls Tryz.prog 91 #[.agg #[.int .u64 h, .int .u64 l], .int .u64 d] w fun e w' => e = .returned (.tuple #[.int .u64 ((val h l * d / 18446744073709551616 / 18446744073709551616 : Nat) : Int), .agg #[.int .u64 ((val h l * d / 18446744073709551616 % 18446744073709551616 : Nat) : Int), .int .u64 ((val h l * d % 18446744073709551616 : Nat) : Int)]]) ∧ Gr w w' := by
  obtain ⟨a0, a1, a2, a3, p0, p1, p2, p3, el, eh, A1⟩ := words2 l h h2 h1
  obtain ⟨b0, b1, q0, q1, ed, A2⟩ := words1 d h3
  obtain ⟨z0, z1, z2, z3, z4, z5, g0, g1, g2, g3, g4, g5, eq, A3⟩ := c_times42 a0 a1 a2 a3 b0 b1 p0 p1 p2 p3 q0 q1
  have ev : val h l * d = (z0 + z1 * 4294967296) + (z2 + z3 * 4294967296) * 18446744073709551616 + (z4 + z5 * 4294967296) * 340282366920938463463374607431768211456 := by
    rw [← eq, ← el, ← eh, ← ed]
    unfold val
    rw [Nat.add_comm]
  have J0 := fun O w k0 k1 => c_join0 O 6 6 z0 z1 w (by omega) g0 g1 k0 k1
  have J1 := fun O w k0 k1 => c_join1 O 6 6 z2 z3 w (by omega) g2 g3 k0 k1
  have J2 := fun O w k0 k1 => c_join2 O 6 6 z4 z5 w (by omega) g4 g5 k0 k1
  rw [ev]
  unfold Hw at g0 g1 g2 g3 g4 g5
  obtain ⟨v, hv⟩ : ∃ v, v = z0 + z1 * 4294967296 := ⟨_, rfl⟩
  obtain ⟨u, hu⟩ : ∃ v, v = z2 + z3 * 4294967296 := ⟨_, rfl⟩
  obtain ⟨t, ht⟩ : ∃ v, v = z4 + z5 * 4294967296 := ⟨_, rfl⟩
  rw [← hv] at J0
  rw [← hu] at J1
  rw [← ht] at J2
  rw [← hv, ← hu, ← ht]
  have b1' : v < 18446744073709551616 := by omega
  have b2' : u < 18446744073709551616 := by omega
  rw [show (v + u * 18446744073709551616 + t * 340282366920938463463374607431768211456) / 18446744073709551616 / 18446744073709551616 = t by omega,
    show (v + u * 18446744073709551616 + t * 340282366920938463463374607431768211456) / 18446744073709551616 % 18446744073709551616 = u by omega,
    show (v + u * 18446744073709551616 + t * 340282366920938463463374607431768211456) % 18446744073709551616 = v by omega]
  exact rtimes_core h l d a0 a1 a2 a3 b0 b1 z0 z1 z2 z3 z4 z5 t u v w A1 A2 A3 J0 J1 J2
set_option maxHeartbeats 2000000 in
set_option maxRecDepth 100000 in
theorem rprods_core (ah al ad bh bl bd p xh xl q yh yl : Nat) (k r : Int) (W : World)
    (hc : (decide (p < q) = true ∧ r = -1) ∨ (decide (p < q) = false ∧ decide (q < p) = true ∧ r = 1) ∨ (decide (p < q) = false ∧ decide (q < p) = false ∧ r = k))
    (A1 : ∀ w, Calls Tryz.prog 91 #[.agg #[.int .u64 ah, .int .u64 al], .int .u64 ad] w fun e w' => e = .returned (.tuple #[.int .u64 p, .agg #[.int .u64 xh, .int .u64 xl]]) ∧ Gr w w')
    (A2 : ∀ w, Calls Tryz.prog 91 #[.agg #[.int .u64 bh, .int .u64 bl], .int .u64 bd] w fun e w' => e = .returned (.tuple #[.int .u64 q, .agg #[.int .u64 yh, .int .u64 yl]]) ∧ Gr w w')
    (A3 : ∀ w, Calls Tryz.prog 92 #[.agg #[.int .u64 xh, .int .u64 xl], .agg #[.int .u64 yh, .int .u64 yl]] w fun e w' => e = .returned (.int .i64 k) ∧ Gr w w') :
    Calls Tryz.prog 55 #[.agg #[.int .u64 ah, .int .u64 al], .int .u64 ad, .agg #[.int .u64 bh, .int .u64 bl], .int .u64 bd] W fun e w' => e = .returned (.int .i64 r) ∧ Gr W w' := by
  have H1 := Lib.hid A1
  have H2 := Lib.hid A2
  have H3 := Lib.hid A3
  clear A1 A2 A3
  rcases hc with ⟨c1, rfl⟩ | ⟨c1, c2, rfl⟩ | ⟨c1, c2, rfl⟩
  · go_enter Tryz.func55, Tryz.ntmps55
    go_wp2_with fail
    go_at_call 91
    refine ((H1.out _)).mono ?_
    rintro e w1 ⟨rfl, hw1⟩
    have cw1_1_0 := cu hw1 (W.heap.size + 1) 0 bh (by go_simp)
    have cw1_1_1 := cu hw1 (W.heap.size + 1) 1 bl (by go_simp)
    have zw1_1 := zb cw1_1_0
    have gw1 : Gr W w1 := Gr.trans (by go_grown) hw1
    clear hw1
    go_wp2_with fail
    go_at_call 91
    refine ((H2.out _)).mono ?_
    rintro e w2 ⟨rfl, hw2⟩
    have cw2_2_0 := cu hw2 (w1.heap.size) 0 xh (by go_simp)
    have cw2_2_1 := cu hw2 (w1.heap.size) 1 xl (by go_simp)
    have zw2_2 := zb cw2_2_0
    have gw2 : Gr W w2 := Gr.trans (by have gg := gw1; have gs := gg.size; go_grown) hw2
    clear hw2 gw1 zw1_1 cw1_1_0 cw1_1_1
    go_wp2_with fail
    go_ret
    exact ⟨rfl, by have gg := gw2; have gs := gg.size; go_grown⟩
  · go_enter Tryz.func55, Tryz.ntmps55
    go_wp2_with fail
    go_at_call 91
    refine ((H1.out _)).mono ?_
    rintro e w1 ⟨rfl, hw1⟩
    have cw1_1_0 := cu hw1 (W.heap.size + 1) 0 bh (by go_simp)
    have cw1_1_1 := cu hw1 (W.heap.size + 1) 1 bl (by go_simp)
    have zw1_1 := zb cw1_1_0
    have gw1 : Gr W w1 := Gr.trans (by go_grown) hw1
    clear hw1
    go_wp2_with fail
    go_at_call 91
    refine ((H2.out _)).mono ?_
    rintro e w2 ⟨rfl, hw2⟩
    have cw2_2_0 := cu hw2 (w1.heap.size) 0 xh (by go_simp)
    have cw2_2_1 := cu hw2 (w1.heap.size) 1 xl (by go_simp)
    have zw2_2 := zb cw2_2_0
    have gw2 : Gr W w2 := Gr.trans (by have gg := gw1; have gs := gg.size; go_grown) hw2
    clear hw2 gw1 zw1_1 cw1_1_0 cw1_1_1
    go_wp2_with fail
    go_ret
    exact ⟨rfl, by have gg := gw2; have gs := gg.size; go_grown⟩
  · go_enter Tryz.func55, Tryz.ntmps55
    go_wp2_with fail
    go_at_call 91
    refine ((H1.out _)).mono ?_
    rintro e w1 ⟨rfl, hw1⟩
    have cw1_1_0 := cu hw1 (W.heap.size + 1) 0 bh (by go_simp)
    have cw1_1_1 := cu hw1 (W.heap.size + 1) 1 bl (by go_simp)
    have zw1_1 := zb cw1_1_0
    have gw1 : Gr W w1 := Gr.trans (by go_grown) hw1
    clear hw1
    go_wp2_with fail
    go_at_call 91
    refine ((H2.out _)).mono ?_
    rintro e w2 ⟨rfl, hw2⟩
    have cw2_2_0 := cu hw2 (w1.heap.size) 0 xh (by go_simp)
    have cw2_2_1 := cu hw2 (w1.heap.size) 1 xl (by go_simp)
    have zw2_2 := zb cw2_2_0
    have gw2 : Gr W w2 := Gr.trans (by have gg := gw1; have gs := gg.size; go_grown) hw2
    clear hw2 gw1 zw1_1 cw1_1_0 cw1_1_1
    go_wp2_with fail
    go_at_call 92
    refine ((H3.out _)).mono ?_
    rintro e w3 ⟨rfl, hw3⟩
    have gw3 : Gr W w3 := Gr.trans (by have gg := gw2; have gs := gg.size; go_grown) hw3
    clear hw3 gw2 zw2_2 cw2_2_0 cw2_2_1
    go_wp2_with fail
    go_ret
    exact ⟨rfl, gw3⟩
theorem c_rCompareProducts (ah al ad bh bl bd : Nat) (h1 : Wd ah) (h2 : Wd al) (h3 : Wd ad) (h4 : Wd bh) (h5 : Wd bl) (h6 : Wd bd) (W : World) :
    Calls Tryz.prog 55 #[.agg #[.int .u64 ah, .int .u64 al], .int .u64 ad, .agg #[.int .u64 bh, .int .u64 bl], .int .u64 bd] W fun e w' => e = .returned (.int .i64 (cmpN (val ah al * ad) (val bh bl * bd))) ∧ Gr W w' := by
  refine rprods_core ah al ad bh bl bd _ _ _ _ _ _ _ _ W ?_ (c_rTimes ah al ad h1 h2 h3) (c_rTimes bh bl bd h4 h5 h6) (c_rCompare _ _ _ _ (by unfold Wd; omega) (by unfold Wd; omega) (by unfold Wd; omega) (by unfold Wd; omega))
  generalize val ah al * ad = x
  generalize val bh bl * bd = y
  have ex : x = x / 18446744073709551616 / 18446744073709551616 * 340282366920938463463374607431768211456 + val (x / 18446744073709551616 % 18446744073709551616) (x % 18446744073709551616) := by unfold val; omega
  have ey : y = y / 18446744073709551616 / 18446744073709551616 * 340282366920938463463374607431768211456 + val (y / 18446744073709551616 % 18446744073709551616) (y % 18446744073709551616) := by unfold val; omega
  have bx : val (x / 18446744073709551616 % 18446744073709551616) (x % 18446744073709551616) < 340282366920938463463374607431768211456 := by unfold val; omega
  have by' : val (y / 18446744073709551616 % 18446744073709551616) (y % 18446744073709551616) < 340282366920938463463374607431768211456 := by unfold val; omega
  generalize x / 18446744073709551616 / 18446744073709551616 = p at *
  generalize y / 18446744073709551616 / 18446744073709551616 = q at *
  generalize val (x / 18446744073709551616 % 18446744073709551616) (x % 18446744073709551616) = u at *
  generalize val (y / 18446744073709551616 % 18446744073709551616) (y % 18446744073709551616) = v at *
  rcases Nat.lt_trichotomy p q with h | h | h
  · exact Or.inl ⟨decide_eq_true h, cmpN_lt (by omega)⟩
  · refine Or.inr (Or.inr ⟨decide_eq_false (by omega), decide_eq_false (by omega), ?_⟩)
    subst h
    rcases Nat.lt_trichotomy u v with g | g | g
    · rw [cmpN_lt g, cmpN_lt (by omega)]
    · rw [cmpN_eq g, cmpN_eq (by omega)]
    · rw [cmpN_gt g, cmpN_gt (by omega)]
  · exact Or.inr (Or.inl ⟨decide_eq_false (by omega), decide_eq_true h, cmpN_gt (by omega)⟩)
end Go.Proofs.YtfobmlgpjhghdaaGreatDoor
namespace Go.Proofs.YtfobmlgpjhghdaaGreatDoor
set_option linter.unusedVariables false
open Go.ChangeShapes Go.WideShapes Go.ChangeAt Go.RowKit
theorem c_rNum (h l d : Int) (w : World) : Calls Tryz.prog 56 #[.agg #[.int .u64 h, .int .u64 l, .int .u64 d]] w fun e w' => e = .returned (.agg #[.int .u64 h, .int .u64 l]) ∧ Gr w w' := by
  go_enter Tryz.func56, Tryz.ntmps56
  go_wp2
  go_returns
  exact ⟨rfl, by go_grown⟩
set_option maxHeartbeats 1000000 in
set_option maxRecDepth 100000 in
theorem rcd_core (ah al ad bh bl bd : Nat) (k r : Int) (W : World)
    (hc : (ad = 0 ∧ bd = 0 ∧ r = 0) ∨ (ad = 0 ∧ ((bd : Int) == 0) = false ∧ r = 1) ∨ (((ad : Int) == 0) = false ∧ bd = 0 ∧ r = -1) ∨ (((ad : Int) == 0) = false ∧ ((bd : Int) == 0) = false ∧ r = k))
    (A1 : ∀ w, Calls Tryz.prog 55 #[.agg #[.int .u64 ah, .int .u64 al], .int .u64 bd, .agg #[.int .u64 bh, .int .u64 bl], .int .u64 ad] w fun e w' => e = .returned (.int .i64 k) ∧ Gr w w') :
    Calls Tryz.prog 29 #[.agg #[.int .u64 ah, .int .u64 al, .int .u64 ad], .agg #[.int .u64 bh, .int .u64 bl, .int .u64 bd]] W fun e w' => e = .returned (.int .i64 r) ∧ Gr W w' := by
  have H1 := Lib.hid A1
  clear A1
  rcases hc with ⟨rfl, rfl, rfl⟩ | ⟨rfl, c2, rfl⟩ | ⟨c1, rfl, rfl⟩ | ⟨c1, c2, rfl⟩
  · go_enter Tryz.func29, Tryz.ntmps29
    go_wp2_with fail
    go_ret
    exact ⟨rfl, by go_grown⟩
  · go_enter Tryz.func29, Tryz.ntmps29
    go_wp2_with fail
    go_ret
    exact ⟨rfl, by go_grown⟩
  · go_enter Tryz.func29, Tryz.ntmps29
    go_wp2_with fail
    go_ret
    exact ⟨rfl, by go_grown⟩
  · go_enter Tryz.func29, Tryz.ntmps29
    go_wp2_with fail
    generalize hhw0 : ((W.alloc (.cells #[.int .u64 ah, .int .u64 al, .int .u64 ad] 42)).alloc (.cells #[.int .u64 bh, .int .u64 bl, .int .u64 bd] 42)) = w0
    have cw0_0_0 : w0.cell? ⟨W.heap.size, 0, none⟩ = some (.int .u64 ah) := by subst hhw0; go_simp
    have cw0_0_1 : w0.cell? ⟨W.heap.size, 1, none⟩ = some (.int .u64 al) := by subst hhw0; go_simp
    have cw0_0_2 : w0.cell? ⟨W.heap.size, 2, none⟩ = some (.int .u64 ad) := by subst hhw0; go_simp
    have zw0_0 := zb cw0_0_0
    have cw0_1_0 : w0.cell? ⟨W.heap.size + 1, 0, none⟩ = some (.int .u64 bh) := by subst hhw0; go_simp
    have cw0_1_1 : w0.cell? ⟨W.heap.size + 1, 1, none⟩ = some (.int .u64 bl) := by subst hhw0; go_simp
    have cw0_1_2 : w0.cell? ⟨W.heap.size + 1, 2, none⟩ = some (.int .u64 bd) := by subst hhw0; go_simp
    have zw0_1 := zb cw0_1_0
    have gw0 : Gr W w0 := by subst hhw0; go_grown
    clear hhw0
    go_wp2_with fail
    refine wp_region_spread (by kernel_rfl) (by kernel_rfl) ?_
    try simp only [List.append]
    repeat (first | go_big_quiet_skip | (go_big_quiet_want; go_big_quiet_op; (first | go_big_quiet_on | (apply Exists.intro; refine ⟨fun _ => ?_, ?_⟩; (· (first | (go_at_call 56; first | ((with_reducible refine ((c_rNum _ _ _ _)).mono ?_); rintro e w' ⟨rfl, hg⟩; exact ⟨rfl, spread_gr hg⟩)) | (go_at_call 55; first | ((with_reducible refine ((H1.out _)).mono ?_); rintro e w' ⟨rfl, hg⟩; exact ⟨rfl, spread_gr hg⟩)))); go_big_quiet_on))))
    refine wpQuiet_nil ?_
    intro wr hr
    obtain ⟨mr, rfl⟩ := hr
    go_wp2_with fail
    go_ret
    exact ⟨rfl, Gr.trans (by have gg := gw0; have gs := gg.size; go_grown) (gr_spread _ _)⟩
theorem c_rCompareDist (ah al ad bh bl bd : Nat) (h1 : Wd ah) (h2 : Wd al) (h3 : Wd ad) (h4 : Wd bh) (h5 : Wd bl) (h6 : Wd bd) (W : World) :
    Calls Tryz.prog 29 #[.agg #[.int .u64 ah, .int .u64 al, .int .u64 ad], .agg #[.int .u64 bh, .int .u64 bl, .int .u64 bd]] W fun e w' => e = .returned (.int .i64 (cmpD (val ah al) ad (val bh bl) bd)) ∧ Gr W w' := by
  refine rcd_core ah al ad bh bl bd _ _ W ?_ (c_rCompareProducts ah al bd bh bl ad h1 h2 h6 h4 h5 h3)
  unfold cmpD
  by_cases d1 : ad = 0
  · by_cases d2 : bd = 0
    · left; exact ⟨d1, d2, by rw [if_pos d1, if_pos d2]⟩
    · right; left; exact ⟨d1, by simpa using d2, by rw [if_pos d1, if_neg d2]⟩
  · by_cases d2 : bd = 0
    · right; right; left; exact ⟨by simpa using d1, d2, by rw [if_neg d1, if_pos d2]⟩
    · right; right; right; exact ⟨by simpa using d1, by simpa using d2, by rw [if_neg d1, if_neg d2]⟩
end Go.Proofs.YtfobmlgpjhghdaaGreatDoor
namespace Go.Proofs.YtfobmlgpjhghdaaGreatDoor.Hm
set_option linter.unusedVariables false
set_option linter.unusedSimpArgs false
open Go.ChangeShapes Go.WideShapes Go.ChangeAt Go.RowKit Go.Proofs.YtfobmlgpjhghdaaGreatDoor.Hd
variable {P : Program} {ops : Array Oper} {md : Region.Mode} {n : Nat}
def mkB (ops : Array Oper) (n k1 : Nat) (d : Tmp) : Bool :=
  Region.lexTailB .any ops n && decide (k1 < n) &&
  (match ops[k1]? with | some o => o.dst == some d && o.guard.isNone | none => false) &&
  (List.range n).all fun j => j == k1 || match ops[j]? with | some o => !(o.looksAt ops).contains d && o.dst != some d | none => true
def RelK (k1 : Nat) (d : Tmp) (w0 : World) (zs : Array Value) (T : TypeId) (l : Array Bool) (a b : Act) (w : World) : Prop :=
  Gr w0 w ∧ ((l.getD k1 false = true ∧ ∃ B, b = a.put (some d) (.pointer (some ⟨B, 0, none⟩)) ∧ w0.heap.size ≤ B ∧ w.heap[B]? = some (.cells zs T)) ∨ (l.getD k1 false = false ∧ b = a))
theorem wp_region_mk {id : Nat} {Q : Exit → Act → World → Prop} {a : Act} {w : World} {l : List Oper} {o1 : Oper} (n k1 : Nat) (d : Tmp) (zs : Array Value) (T : TypeId) (hm : P.follows .mixedOrders = true) (hk1 : l.toArray[k1]? = some o1) (hB : mkB l.toArray n k1 d = true)
    (hal : ∀ b w', o1.wp P b w' (fun b' w'' => b' = b.put (some d) (.pointer (some ⟨w'.heap.size, 0, none⟩)) ∧ w'' = w'.alloc (.cells zs T)) (fun _ _ _ => False))
    (h' : ∀ K : Act → Prop, (∀ a', (∀ B w', Gr w w' → w.heap.size ≤ B → w'.heap[B]? = some (.cells zs T) → wpList P l.toArray Q (l.drop n) (a'.put (some d) (.pointer (some ⟨B, 0, none⟩))) w') → K a') →
      wpG P l.toArray (Gr w) (fun i => if i = n then (fun _ => False) else fun _ => True) (fun i => i == k1) K (l.take n) 0 a) : (Code.region id l.toArray true).wp P Q a w := by
  have h := h' (fun a' => ∀ B w', Gr w w' → w.heap.size ≤ B → w'.heap[B]? = some (.cells zs T) → wpList P l.toArray Q (l.drop n) (a'.put (some d) (.pointer (some ⟨B, 0, none⟩))) w') (fun a' x => x)
  simp only [mkB, Region.lexTailB, Bool.and_eq_true, decide_eq_true_eq, hk1, beq_iff_eq, Option.isNone_iff_eq_none] at hB
  obtain ⟨⟨⟨⟨⟨⟨⟨hsel, hn⟩, hs⟩, hc⟩, hlex⟩, h1n⟩, hd1, hg1'⟩, hap⟩ := hB
  have hn' : n < l.length := by simpa using hn
  have htl : (l.take n).length = n := by simp; omega
  have hdl : (l.drop n).length = l.toArray.size - n := by simp
  have inv0 : HeadInv .any l.toArray n (Array.replicate l.toArray.size false) :=
    ⟨by simp, fun j oj _ hl => (by rw [getD_replicate_false] at hl; cases hl), fun t _ ht => getD_in (by simpa using ht) (getD_replicate_false _ _)⟩
  have sp2 : ∀ i, ((i == k1) = true) → i = k1 := fun i hi => by simpa using hi
  have nsp : ∀ i, ¬ ((i == k1) = true) → i ≠ k1 := fun i hi => by simpa using hi
  have n12 : ¬ k1 = n := by omega
  have H := wpH_lex (md := .any) (g := l.toArray.size - n) (Pk := fun i => if i = n then (fun _ => False) else fun _ => True) (sp := fun i => i == k1) (fun k oi ok a v hk ho hap2 hD => by
    obtain rfl := sp2 k hk
    rw [if_neg n12]; trivial) (fun k ok oj a v hk ho hap2 hD => by
    obtain rfl := sp2 k hk
    rw [if_neg n12]; trivial) hsel hs hc hn (l.take n) 0 _ a (fun j hj => by
    have hj' : j < n := by rw [htl] at hj; exact hj
    simp [hj']) (by simpa using htl) inv0 (fun j => by rw [getD_replicate_false]; simp) (by simp) (by rw [htl]; exact hlex) h
  rw [htl] at H
  refine wp_region_any hm ?_
  have hw0 : Gr w { w with drawn := w.drawn + 1 } := (Below.refl _ _).drew
  have hap' : ∀ i o, l.toArray[i]? = some o → i < n → ¬ ((i == k1) = true) → (∀ t, some d = some t → t ∉ o.looksAt l.toArray) ∧ (∀ t, some d = some t → o.dst ≠ some t) := fun i o ho hin hnsp => by
    have := List.all_eq_true.1 hap i (List.mem_range.2 hin)
    have h1 := nsp i hnsp
    simp only [ho, Bool.or_eq_true, beq_iff_eq, h1, false_or, Bool.and_eq_true] at this
    simpa using this
  have := wpAny_of_H (Q' := Q) (g := l.toArray.size - n) (RelK k1 d w zs T) (fun _ _ _ _ h => h.1) ?_ ?_ ?_ (fun listed a' b' w' hL hR => by
    obtain ⟨hg, hr⟩ := hR
    have e1 := hL.1.2 k1
    rw [decide_eq_true (by omega)] at e1
    have hq : wpList P l.toArray Q (l.drop n) b' w' := by
      rcases hr with ⟨-, B, rfl, hB1, hB2⟩ | ⟨h1, -⟩
      · exact hL.2 B w' hg hB1 hB2
      · rw [e1] at h1; cases h1
    have := wpAny_of_seq (md := .any) (Q' := Q) (l.drop n) n listed b' w' (fun j => by simp [List.getElem?_drop]) (by rw [hdl]; exact hL.1.1) hq
    rwa [hdl] at this) n _ a a { w with drawn := w.drawn + 1 } (by simp) ⟨hw0, .inr ⟨getD_replicate_false _ _, rfl⟩⟩ H
  · rw [show n + (l.toArray.size - n) = l.toArray.size by omega] at this
    exact this
  · intro i o l' a b w1 w2 u hin hnsp ho hR hg
    have h1 := nsp i hnsp
    obtain ⟨hg1, hr⟩ := hR
    refine ⟨Gr.trans hg1 hg, ?_⟩
    rw [getD_set_ne false h1]
    rcases hr with ⟨h3, B, rfl, hB1, hB2⟩ | ⟨h3, rfl⟩
    · exact .inl ⟨h3, B, Act.put_comm a _ u (hap' i o ho hin hnsp).2, hB1, heap_gr hg hB2⟩
    · exact .inr ⟨h3, rfl⟩
  · intro i o l' a b w1 hin hnsp ho hR
    obtain ⟨hl', hn''⟩ := hap' i o ho hin hnsp
    obtain ⟨hg1, hr⟩ := hR
    rcases hr with ⟨h3, B, rfl, hB1, hB2⟩ | ⟨h3, rfl⟩
    · exact ⟨wanted_put o a (some d) _ hl', fun v hv => gAt_put (ops := l.toArray) (Region.noSelect_spec hsel i o · · ho) hl' hn'' hv⟩
    · exact ⟨rfl, fun v hv => hv⟩
  · intro i o l' a b w1 hin hsp ho hrd hsz hR hP
    obtain ⟨hun, o', ho', hall⟩ := mem_ready.1 hrd
    have hil : i < l.length := by simpa using (Array.getElem?_eq_some_iff.1 ho).1
    obtain ⟨hg1, hr⟩ := hR
    obtain rfl := sp2 i hsp
    rw [hk1] at ho
    cases ho
    have hf : l'.getD i false = false := getD_both hun
    obtain rfl : b = a := by
      rcases hr with ⟨h3, -⟩ | ⟨-, h5⟩
      · rw [hf] at h3; cases h3
      · exact h5
    refine ⟨by unfold Region.wanted; rw [hg1'], ?_⟩
    have ha := hal b w1
    unfold Oper.wp at ha ⊢
    refine upon_map (a := b) (b := b) (fun u w' hu => ?_) (fun dd w' hu => ?_) ha
    · rw [hu.1, hu.2]
      exact ⟨hg1.alloc hg1.size _, .inl ⟨by simp [hsz, hil], w1.heap.size, rfl, hg1.size, (MapKept.heap_alloc w1 _).1⟩⟩
    · exact (no_defer (hd1 ▸ hu.1)).elim
end Go.Proofs.YtfobmlgpjhghdaaGreatDoor.Hm
