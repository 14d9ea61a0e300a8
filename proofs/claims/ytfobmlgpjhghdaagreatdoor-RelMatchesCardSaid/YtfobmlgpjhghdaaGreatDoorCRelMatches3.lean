/- What RelMatches leans on: Zn Pn Zo Gd Ge Es Ua Go Zp Ub -/
import Derived.Test.YtfobmlgpjhghdaaGreatDoorCRelMatches2
import Derived.BigRegion
namespace Go.Proofs.YtfobmlgpjhghdaaGreatDoor
set_option linter.unusedVariables false
open Go.ChangeShapes Go.WideShapes Go.ChangeAt Go.RowKit
set_option maxHeartbeats 4000000 in
set_option maxRecDepth 100000 in
theorem ron_core (ax ay bx by' px py m1 m2 m3 m4 k : Int) (q1 q2 q3 r : Bool) (W : World)
    (M1 : ∀ w, (Builtin.min_ #[3, 3] 3 #[.int .i64 ax, .int .i64 bx]).run Tryz.prog w = .ok (.int .i64 m1) w)
    (M2 : ∀ w, (Builtin.max_ #[3, 3] 3 #[.int .i64 ax, .int .i64 bx]).run Tryz.prog w = .ok (.int .i64 m2) w)
    (M3 : ∀ w, (Builtin.min_ #[3, 3] 3 #[.int .i64 ay, .int .i64 by']).run Tryz.prog w = .ok (.int .i64 m3) w)
    (M4 : ∀ w, (Builtin.max_ #[3, 3] 3 #[.int .i64 ay, .int .i64 by']).run Tryz.prog w = .ok (.int .i64 m4) w)
    (A1 : ∀ w, Calls Tryz.prog 24 #[.agg #[.int .i64 ax, .int .i64 ay]] w fun e w' => e = .returned (.bool q1) ∧ Gr w w')
    (A2 : ∀ w, Calls Tryz.prog 24 #[.agg #[.int .i64 bx, .int .i64 by']] w fun e w' => e = .returned (.bool q2) ∧ Gr w w')
    (A3 : ∀ w, Calls Tryz.prog 24 #[.agg #[.int .i64 px, .int .i64 py]] w fun e w' => e = .returned (.bool q3) ∧ Gr w w')
    (A4 : ∀ w, Calls Tryz.prog 81 #[.agg #[.int .i64 ax, .int .i64 ay], .agg #[.int .i64 bx, .int .i64 by'], .agg #[.int .i64 px, .int .i64 py]] w fun e w' => e = .returned (.int .i64 k) ∧ Gr w w')
    (hc : (q1 = false ∧ r = false) ∨ (q1 = true ∧ q2 = false ∧ r = false) ∨ (q1 = true ∧ q2 = true ∧ q3 = false ∧ r = false) ∨ (q1 = true ∧ q2 = true ∧ q3 = true ∧
      (((k == 0) = false ∧ r = false) ∨ ((k == 0) = true ∧ ¬ m1 ≤ px ∧ r = false) ∨ ((k == 0) = true ∧ m1 ≤ px ∧ ¬ px ≤ m2 ∧ r = false) ∨ ((k == 0) = true ∧ m1 ≤ px ∧ px ≤ m2 ∧ ¬ m3 ≤ py ∧ r = false) ∨ ((k == 0) = true ∧ m1 ≤ px ∧ px ≤ m2 ∧ m3 ≤ py ∧ ¬ py ≤ m4 ∧ r = false) ∨ ((k == 0) = true ∧ m1 ≤ px ∧ px ≤ m2 ∧ m3 ≤ py ∧ py ≤ m4 ∧ r = true)))) :
    Calls Tryz.prog 106 #[.agg #[.int .i64 ax, .int .i64 ay], .agg #[.int .i64 bx, .int .i64 by'], .agg #[.int .i64 px, .int .i64 py]] W fun e w' => e = .returned (.bool r) ∧ Gr W w' := by
  have H1 := Lib.hid A1
  have H2 := Lib.hid A2
  have H3 := Lib.hid A3
  have H4 := Lib.hid A4
  clear A1 A2 A3 A4
  rcases hc with ⟨rfl, rfl⟩ | ⟨rfl, rfl, rfl⟩ | ⟨rfl, rfl, rfl, rfl⟩ | ⟨rfl, rfl, rfl, hc⟩
  · go_enter Tryz.func106, Tryz.ntmps106
    go_wp2_with fail
    go_at_call 24
    refine ((H1.out _)).mono ?_
    rintro e w1 ⟨rfl, hw1⟩
    have cw1_0_0 := ci hw1 (W.heap.size) 0 ax (by go_simp)
    have cw1_0_1 := ci hw1 (W.heap.size) 1 ay (by go_simp)
    have cw1_1_0 := ci hw1 (W.heap.size + 1) 0 bx (by go_simp)
    have cw1_1_1 := ci hw1 (W.heap.size + 1) 1 by' (by go_simp)
    have cw1_2_0 := ci hw1 (W.heap.size + 1 + 1) 0 px (by go_simp)
    have cw1_2_1 := ci hw1 (W.heap.size + 1 + 1) 1 py (by go_simp)
    have gw1 : Gr W w1 := Gr.trans (by go_grown) hw1
    clear hw1
    go_wp2_with fail
    go_ret
    exact ⟨rfl, by go_grown⟩
  · go_enter Tryz.func106, Tryz.ntmps106
    go_wp2_with fail
    go_at_call 24
    refine ((H1.out _)).mono ?_
    rintro e w1 ⟨rfl, hw1⟩
    have cw1_0_0 := ci hw1 (W.heap.size) 0 ax (by go_simp)
    have cw1_0_1 := ci hw1 (W.heap.size) 1 ay (by go_simp)
    have cw1_1_0 := ci hw1 (W.heap.size + 1) 0 bx (by go_simp)
    have cw1_1_1 := ci hw1 (W.heap.size + 1) 1 by' (by go_simp)
    have cw1_2_0 := ci hw1 (W.heap.size + 1 + 1) 0 px (by go_simp)
    have cw1_2_1 := ci hw1 (W.heap.size + 1 + 1) 1 py (by go_simp)
    have gw1 : Gr W w1 := Gr.trans (by go_grown) hw1
    clear hw1
    go_wp2_with fail
    go_at_call 24
    refine ((H2.out _)).mono ?_
    rintro e w2 ⟨rfl, hw2⟩
    have cw2_0_0 := ci hw2 (W.heap.size) 0 ax (by go_simp)
    have cw2_0_1 := ci hw2 (W.heap.size) 1 ay (by go_simp)
    have cw2_1_0 := ci hw2 (W.heap.size + 1) 0 bx (by go_simp)
    have cw2_1_1 := ci hw2 (W.heap.size + 1) 1 by' (by go_simp)
    have cw2_2_0 := ci hw2 (W.heap.size + 1 + 1) 0 px (by go_simp)
    have cw2_2_1 := ci hw2 (W.heap.size + 1 + 1) 1 py (by go_simp)
    have gw2 : Gr W w2 := Gr.trans (by have gg := gw1; have gs := gg.size; go_grown) hw2
    clear hw2 gw1 cw1_0_0 cw1_0_1 cw1_1_0 cw1_1_1 cw1_2_0 cw1_2_1
    go_wp2_with fail
    go_ret
    exact ⟨rfl, by go_grown⟩
  · go_enter Tryz.func106, Tryz.ntmps106
    go_wp2_with fail
    go_at_call 24
    refine ((H1.out _)).mono ?_
    rintro e w1 ⟨rfl, hw1⟩
    have cw1_0_0 := ci hw1 (W.heap.size) 0 ax (by go_simp)
    have cw1_0_1 := ci hw1 (W.heap.size) 1 ay (by go_simp)
    have cw1_1_0 := ci hw1 (W.heap.size + 1) 0 bx (by go_simp)
    have cw1_1_1 := ci hw1 (W.heap.size + 1) 1 by' (by go_simp)
    have cw1_2_0 := ci hw1 (W.heap.size + 1 + 1) 0 px (by go_simp)
    have cw1_2_1 := ci hw1 (W.heap.size + 1 + 1) 1 py (by go_simp)
    have gw1 : Gr W w1 := Gr.trans (by go_grown) hw1
    clear hw1
    go_wp2_with fail
    go_at_call 24
    refine ((H2.out _)).mono ?_
    rintro e w2 ⟨rfl, hw2⟩
    have cw2_0_0 := ci hw2 (W.heap.size) 0 ax (by go_simp)
    have cw2_0_1 := ci hw2 (W.heap.size) 1 ay (by go_simp)
    have cw2_1_0 := ci hw2 (W.heap.size + 1) 0 bx (by go_simp)
    have cw2_1_1 := ci hw2 (W.heap.size + 1) 1 by' (by go_simp)
    have cw2_2_0 := ci hw2 (W.heap.size + 1 + 1) 0 px (by go_simp)
    have cw2_2_1 := ci hw2 (W.heap.size + 1 + 1) 1 py (by go_simp)
    have gw2 : Gr W w2 := Gr.trans (by have gg := gw1; have gs := gg.size; go_grown) hw2
    clear hw2 gw1 cw1_0_0 cw1_0_1 cw1_1_0 cw1_1_1 cw1_2_0 cw1_2_1
    go_wp2_with fail
    go_at_call 24
    refine ((H3.out _)).mono ?_
    rintro e w3 ⟨rfl, hw3⟩
    have cw3_0_0 := ci hw3 (W.heap.size) 0 ax (by go_simp)
    have cw3_0_1 := ci hw3 (W.heap.size) 1 ay (by go_simp)
    have cw3_1_0 := ci hw3 (W.heap.size + 1) 0 bx (by go_simp)
    have cw3_1_1 := ci hw3 (W.heap.size + 1) 1 by' (by go_simp)
    have cw3_2_0 := ci hw3 (W.heap.size + 1 + 1) 0 px (by go_simp)
    have cw3_2_1 := ci hw3 (W.heap.size + 1 + 1) 1 py (by go_simp)
    have gw3 : Gr W w3 := Gr.trans (by have gg := gw2; have gs := gg.size; go_grown) hw3
    clear hw3 gw2 cw2_0_0 cw2_0_1 cw2_1_0 cw2_1_1 cw2_2_0 cw2_2_1
    go_wp2_with fail
    go_ret
    exact ⟨rfl, by go_grown⟩
  · rcases hc with ⟨a0, rfl⟩ | ⟨a0, a1, rfl⟩ | ⟨a0, a1, a2, rfl⟩ | ⟨a0, a1, a2, a3, rfl⟩ | ⟨a0, a1, a2, a3, a4, rfl⟩ | ⟨a0, a1, a2, a3, a4, rfl⟩
    all_goals
      go_enter Tryz.func106, Tryz.ntmps106
      go_wp2_with fail
      go_at_call 24
      refine ((H1.out _)).mono ?_
      rintro e w1 ⟨rfl, hw1⟩
      have cw1_0_0 := ci hw1 (W.heap.size) 0 ax (by go_simp)
      have cw1_0_1 := ci hw1 (W.heap.size) 1 ay (by go_simp)
      have cw1_1_0 := ci hw1 (W.heap.size + 1) 0 bx (by go_simp)
      have cw1_1_1 := ci hw1 (W.heap.size + 1) 1 by' (by go_simp)
      have cw1_2_0 := ci hw1 (W.heap.size + 1 + 1) 0 px (by go_simp)
      have cw1_2_1 := ci hw1 (W.heap.size + 1 + 1) 1 py (by go_simp)
      have gw1 : Gr W w1 := Gr.trans (by go_grown) hw1
      clear hw1
      go_wp2_with fail
      go_at_call 24
      refine ((H2.out _)).mono ?_
      rintro e w2 ⟨rfl, hw2⟩
      have cw2_0_0 := ci hw2 (W.heap.size) 0 ax (by go_simp)
      have cw2_0_1 := ci hw2 (W.heap.size) 1 ay (by go_simp)
      have cw2_1_0 := ci hw2 (W.heap.size + 1) 0 bx (by go_simp)
      have cw2_1_1 := ci hw2 (W.heap.size + 1) 1 by' (by go_simp)
      have cw2_2_0 := ci hw2 (W.heap.size + 1 + 1) 0 px (by go_simp)
      have cw2_2_1 := ci hw2 (W.heap.size + 1 + 1) 1 py (by go_simp)
      have gw2 : Gr W w2 := Gr.trans (by have gg := gw1; have gs := gg.size; go_grown) hw2
      clear hw2 gw1 cw1_0_0 cw1_0_1 cw1_1_0 cw1_1_1 cw1_2_0 cw1_2_1
      go_wp2_with fail
      go_at_call 24
      refine ((H3.out _)).mono ?_
      rintro e w3 ⟨rfl, hw3⟩
      have cw3_0_0 := ci hw3 (W.heap.size) 0 ax (by go_simp)
      have cw3_0_1 := ci hw3 (W.heap.size) 1 ay (by go_simp)
      have cw3_1_0 := ci hw3 (W.heap.size + 1) 0 bx (by go_simp)
      have cw3_1_1 := ci hw3 (W.heap.size + 1) 1 by' (by go_simp)
      have cw3_2_0 := ci hw3 (W.heap.size + 1 + 1) 0 px (by go_simp)
      have cw3_2_1 := ci hw3 (W.heap.size + 1 + 1) 1 py (by go_simp)
      have gw3 : Gr W w3 := Gr.trans (by have gg := gw2; have gs := gg.size; go_grown) hw3
      clear hw3 gw2 cw2_0_0 cw2_0_1 cw2_1_0 cw2_1_1 cw2_2_0 cw2_2_1
      go_wp2_with fail
      go_at_call 81
      refine ((H4.out _)).mono ?_
      rintro e w4 ⟨rfl, hw4⟩
      have cw4_0_0 := ci hw4 (W.heap.size) 0 ax (by go_simp)
      have cw4_0_1 := ci hw4 (W.heap.size) 1 ay (by go_simp)
      have cw4_1_0 := ci hw4 (W.heap.size + 1) 0 bx (by go_simp)
      have cw4_1_1 := ci hw4 (W.heap.size + 1) 1 by' (by go_simp)
      have cw4_2_0 := ci hw4 (W.heap.size + 1 + 1) 0 px (by go_simp)
      have cw4_2_1 := ci hw4 (W.heap.size + 1 + 1) 1 py (by go_simp)
      have gw4 : Gr W w4 := Gr.trans (by have gg := gw3; have gs := gg.size; go_grown) hw4
      clear hw4 gw3 cw3_0_0 cw3_0_1 cw3_1_0 cw3_1_1 cw3_2_0 cw3_2_1
      go_wp2_with fail
      go_ret
      exact ⟨by first | rfl | simp [a4], by go_grown⟩
theorem c_rOn (ax ay bx by' px py : Int) (W : World) : Calls Tryz.prog 106 #[.agg #[.int .i64 ax, .int .i64 ay], .agg #[.int .i64 bx, .int .i64 by'], .agg #[.int .i64 px, .int .i64 py]] W fun e w' => e = .returned (.bool (onG ax ay bx by' px py)) ∧ Gr W w' := by
  refine ron_core ax ay bx by' px py _ _ _ _ _ _ _ _ _ W (run_min _ _) (run_maxZ _ _) (run_min _ _) (run_maxZ _ _) (c_rPoint ax ay) (c_rPoint bx by') (c_rPoint px py) (c_rCross ax ay bx by' px py) ?_
  unfold onG onF
  cases n1 : nearB ax ay
  · exact Or.inl ⟨rfl, rfl⟩
  · cases n2 : nearB bx by'
    · exact Or.inr (Or.inl ⟨rfl, rfl, rfl⟩)
    · cases n3 : nearB px py
      · exact Or.inr (Or.inr (Or.inl ⟨rfl, rfl, rfl, rfl⟩))
      · refine Or.inr (Or.inr (Or.inr ⟨rfl, rfl, rfl, ?_⟩))
        have e : crossZ ax ay bx by' px py = cr ax ay bx by' px py := by unfold crossZ cr; rw [n1, n2, n3]; rfl
        rw [e]
        have s : (sg ax ay bx by' px py == 0) = (cr ax ay bx by' px py == 0) := by
          rw [Bool.eq_iff_iff, beq_iff_eq, beq_iff_eq]
          have := sg_cases ax ay bx by' px py
          omega
        rw [s]
        unfold btw
        generalize minZ ax bx = m1
        generalize maxZ ax bx = m2
        generalize minZ ay by' = m3
        generalize maxZ ay by' = m4
        cases hk : (cr ax ay bx by' px py == 0) <;> by_cases a1 : m1 ≤ px <;> by_cases a2 : px ≤ m2 <;> by_cases a3 : m3 ≤ py <;> by_cases a4 : py ≤ m4 <;> simp [a1, a2, a3, a4]
set_option maxHeartbeats 4000000 in
set_option maxRecDepth 100000 in
theorem rproper_core (ax ay bx by' cx cy dx dy k1 k2 k3 k4 p1 p2 : Int) (r : Bool) (W : World) (e1 : wrap64 (k1 * k2) = p1) (e2 : IntKind.i64.wrap (k1 * k2) = p1) (e3 : wrap64 (k3 * k4) = p2) (e4 : IntKind.i64.wrap (k3 * k4) = p2)
    (hc : (decide (p1 < 0) = false ∧ r = false) ∨ (decide (p1 < 0) = true ∧ decide (p2 < 0) = r))
    (A1 : ∀ w, Calls Tryz.prog 133 #[.agg #[.int .i64 ax, .int .i64 ay], .agg #[.int .i64 bx, .int .i64 by'], .agg #[.int .i64 cx, .int .i64 cy]] w fun e w' => e = .returned (.int .i64 k1) ∧ Gr w w')
    (A2 : ∀ w, Calls Tryz.prog 133 #[.agg #[.int .i64 ax, .int .i64 ay], .agg #[.int .i64 bx, .int .i64 by'], .agg #[.int .i64 dx, .int .i64 dy]] w fun e w' => e = .returned (.int .i64 k2) ∧ Gr w w')
    (A3 : ∀ w, Calls Tryz.prog 133 #[.agg #[.int .i64 cx, .int .i64 cy], .agg #[.int .i64 dx, .int .i64 dy], .agg #[.int .i64 ax, .int .i64 ay]] w fun e w' => e = .returned (.int .i64 k3) ∧ Gr w w')
    (A4 : ∀ w, Calls Tryz.prog 133 #[.agg #[.int .i64 cx, .int .i64 cy], .agg #[.int .i64 dx, .int .i64 dy], .agg #[.int .i64 bx, .int .i64 by']] w fun e w' => e = .returned (.int .i64 k4) ∧ Gr w w') :
    Calls Tryz.prog 105 #[.agg #[.int .i64 ax, .int .i64 ay], .agg #[.int .i64 bx, .int .i64 by'], .agg #[.int .i64 cx, .int .i64 cy], .agg #[.int .i64 dx, .int .i64 dy]] W fun e w' => e = .returned (.bool r) ∧ Gr W w' := by
  have H1 := Lib.hid A1
  have H2 := Lib.hid A2
  have H3 := Lib.hid A3
  have H4 := Lib.hid A4
  clear A1 A2 A3 A4
  rcases hc with ⟨c1, rfl⟩ | ⟨c1, c2⟩
  all_goals
    go_enter Tryz.func105, Tryz.ntmps105
    go_wp2_with fail
    generalize hhw0 : ((((W.alloc (.cells #[.int .i64 ax, .int .i64 ay] 26)).alloc (.cells #[.int .i64 bx, .int .i64 by'] 26)).alloc (.cells #[.int .i64 cx, .int .i64 cy] 26)).alloc (.cells #[.int .i64 dx, .int .i64 dy] 26)) = w0
    have cw0_0_0 : w0.cell? ⟨W.heap.size, 0, none⟩ = some (.int .i64 ax) := by subst hhw0; go_simp
    have cw0_0_1 : w0.cell? ⟨W.heap.size, 1, none⟩ = some (.int .i64 ay) := by subst hhw0; go_simp
    have zw0_0 := zb cw0_0_0
    have cw0_1_0 : w0.cell? ⟨W.heap.size + 1, 0, none⟩ = some (.int .i64 bx) := by subst hhw0; go_simp
    have cw0_1_1 : w0.cell? ⟨W.heap.size + 1, 1, none⟩ = some (.int .i64 by') := by subst hhw0; go_simp
    have zw0_1 := zb cw0_1_0
    have cw0_2_0 : w0.cell? ⟨W.heap.size + 1 + 1, 0, none⟩ = some (.int .i64 cx) := by subst hhw0; go_simp
    have cw0_2_1 : w0.cell? ⟨W.heap.size + 1 + 1, 1, none⟩ = some (.int .i64 cy) := by subst hhw0; go_simp
    have zw0_2 := zb cw0_2_0
    have cw0_3_0 : w0.cell? ⟨W.heap.size + 1 + 1 + 1, 0, none⟩ = some (.int .i64 dx) := by subst hhw0; go_simp
    have cw0_3_1 : w0.cell? ⟨W.heap.size + 1 + 1 + 1, 1, none⟩ = some (.int .i64 dy) := by subst hhw0; go_simp
    have zw0_3 := zb cw0_3_0
    have gw0 : Gr W w0 := by subst hhw0; go_grown
    clear hhw0
    go_wp2_with fail
    refine wp_region_spread (by kernel_rfl) (by kernel_rfl) ?_
    try simp only [List.append]
    repeat (first | go_big_quiet_skip | (go_big_quiet_want; go_big_quiet_op; (first | go_big_quiet_on | (apply Exists.intro; refine ⟨fun _ => ?_, ?_⟩; (· (first | (go_at_call 133; first | ((with_reducible refine ((H1.out _)).mono ?_); rintro e w' ⟨rfl, hg⟩; exact ⟨rfl, spread_gr hg⟩) | ((with_reducible refine ((H2.out _)).mono ?_); rintro e w' ⟨rfl, hg⟩; exact ⟨rfl, spread_gr hg⟩) | ((with_reducible refine ((H3.out _)).mono ?_); rintro e w' ⟨rfl, hg⟩; exact ⟨rfl, spread_gr hg⟩) | ((with_reducible refine ((H4.out _)).mono ?_); rintro e w' ⟨rfl, hg⟩; exact ⟨rfl, spread_gr hg⟩)))); go_big_quiet_on))))
    refine wpQuiet_nil ?_
    intro wr hr
    obtain ⟨mr, rfl⟩ := hr
    go_wp2_with fail
    go_ret
    exact ⟨rfl, Gr.trans (by have gg := gw0; have gs := gg.size; go_grown) (gr_spread _ _)⟩
theorem orZ_far {ax ay bx by' cx cy : Int} (h : (nearB ax ay && nearB bx by' && nearB cx cy) = false) : orZ ax ay bx by' cx cy = 0 := by
  unfold orZ crossZ
  rw [if_neg (by rw [h]; simp), cmpZ_eq]
theorem c_rProper (ax ay bx by' cx cy dx dy : Int) (W : World) : Calls Tryz.prog 105 #[.agg #[.int .i64 ax, .int .i64 ay], .agg #[.int .i64 bx, .int .i64 by'], .agg #[.int .i64 cx, .int .i64 cy], .agg #[.int .i64 dx, .int .i64 dy]] W fun e w' => e = .returned (.bool (prG ax ay bx by' cx cy dx dy)) ∧ Gr W w' := by
  have b1 := mul3 (orZ_cases ax ay bx by' cx cy) (orZ_cases ax ay bx by' dx dy)
  have b2 := mul3 (orZ_cases cx cy dx dy ax ay) (orZ_cases cx cy dx dy bx by')
  refine rproper_core ax ay bx by' cx cy dx dy (orZ ax ay bx by' cx cy) (orZ ax ay bx by' dx dy) (orZ cx cy dx dy ax ay) (orZ cx cy dx dy bx by') _ _ _ W (IntWalk.wrap64_in _ (by omega)) (IntWalk.i64_in _ (by omega)) (IntWalk.wrap64_in _ (by omega)) (IntWalk.i64_in _ (by omega)) ?_
    (c_rOrient ax ay bx by' cx cy) (c_rOrient ax ay bx by' dx dy) (c_rOrient cx cy dx dy ax ay) (c_rOrient cx cy dx dy bx by')
  unfold prG
  cases hq : all4 ax ay bx by' cx cy dx dy
  · have z : orZ ax ay bx by' cx cy * orZ ax ay bx by' dx dy = 0 ∨ orZ cx cy dx dy ax ay * orZ cx cy dx dy bx by' = 0 := by
      by_cases n1 : (nearB ax ay && nearB bx by' && nearB cx cy) = true
      · have n2 : (nearB ax ay && nearB bx by' && nearB dx dy) = false := by
          unfold all4 at hq
          cases g1 : nearB ax ay <;> cases g2 : nearB bx by' <;> cases g3 : nearB cx cy <;> cases g4 : nearB dx dy <;> simp_all
        left; rw [orZ_far n2, Int.mul_zero]
      · left; rw [orZ_far (by simpa using n1), Int.zero_mul]
    rcases z with z | z
    · left; exact ⟨by rw [z]; rfl, rfl⟩
    · rcases b1 with h | h | h
      · left; exact ⟨by rw [h]; rfl, rfl⟩
      · right; exact ⟨by rw [h]; rfl, by rw [z]; rfl⟩
      · left; exact ⟨by rw [h]; rfl, rfl⟩
  · have hn : nearB ax ay = true ∧ nearB bx by' = true ∧ nearB cx cy = true ∧ nearB dx dy = true := by
      unfold all4 at hq
      simpa [and_assoc] using hq
    obtain ⟨n1, n2, n3, n4⟩ := hn
    rw [orZ_sg ⟨n1, n2, n3⟩, orZ_sg ⟨n1, n2, n4⟩] at b1 ⊢
    rw [orZ_sg ⟨n3, n4, n1⟩, orZ_sg ⟨n3, n4, n2⟩] at b2 ⊢
    unfold prF
    generalize sg ax ay bx by' cx cy * sg ax ay bx by' dx dy = p1 at *
    generalize sg cx cy dx dy ax ay * sg cx cy dx dy bx by' = p2 at *
    rcases b1 with rfl | rfl | rfl <;> rcases b2 with rfl | rfl | rfl <;> simp
set_option maxHeartbeats 4000000 in
set_option maxRecDepth 100000 in
theorem rmeet_core (ax ay bx by' cx cy dx dy : Int) (q1 q2 q3 q4 p o1 o2 o3 o4 r : Bool) (W : World)
    (hc : (q1 = false ∧ r = false) ∨ (q1 = true ∧ q2 = false ∧ r = false) ∨ (q1 = true ∧ q2 = true ∧ q3 = false ∧ r = false) ∨ (q1 = true ∧ q2 = true ∧ q3 = true ∧ q4 = false ∧ r = false) ∨ (q1 = true ∧ q2 = true ∧ q3 = true ∧ q4 = true ∧ ((p = true ∧ r = true) ∨ (p = false ∧ o1 = true ∧ r = true) ∨ (p = false ∧ o1 = false ∧ o2 = true ∧ r = true) ∨ (p = false ∧ o1 = false ∧ o2 = false ∧ o3 = true ∧ r = true) ∨ (p = false ∧ o1 = false ∧ o2 = false ∧ o3 = false ∧ r = o4))))
    (A1 : ∀ w, Calls Tryz.prog 24 #[.agg #[.int .i64 ax, .int .i64 ay]] w fun e w' => e = .returned (.bool q1) ∧ Gr w w')
    (A2 : ∀ w, Calls Tryz.prog 24 #[.agg #[.int .i64 bx, .int .i64 by']] w fun e w' => e = .returned (.bool q2) ∧ Gr w w')
    (A3 : ∀ w, Calls Tryz.prog 24 #[.agg #[.int .i64 cx, .int .i64 cy]] w fun e w' => e = .returned (.bool q3) ∧ Gr w w')
    (A4 : ∀ w, Calls Tryz.prog 24 #[.agg #[.int .i64 dx, .int .i64 dy]] w fun e w' => e = .returned (.bool q4) ∧ Gr w w')
    (A5 : ∀ w, Calls Tryz.prog 105 #[.agg #[.int .i64 ax, .int .i64 ay], .agg #[.int .i64 bx, .int .i64 by'], .agg #[.int .i64 cx, .int .i64 cy], .agg #[.int .i64 dx, .int .i64 dy]] w fun e w' => e = .returned (.bool p) ∧ Gr w w')
    (A6 : ∀ w, Calls Tryz.prog 106 #[.agg #[.int .i64 ax, .int .i64 ay], .agg #[.int .i64 bx, .int .i64 by'], .agg #[.int .i64 cx, .int .i64 cy]] w fun e w' => e = .returned (.bool o1) ∧ Gr w w')
    (A7 : ∀ w, Calls Tryz.prog 106 #[.agg #[.int .i64 ax, .int .i64 ay], .agg #[.int .i64 bx, .int .i64 by'], .agg #[.int .i64 dx, .int .i64 dy]] w fun e w' => e = .returned (.bool o2) ∧ Gr w w')
    (A8 : ∀ w, Calls Tryz.prog 106 #[.agg #[.int .i64 cx, .int .i64 cy], .agg #[.int .i64 dx, .int .i64 dy], .agg #[.int .i64 ax, .int .i64 ay]] w fun e w' => e = .returned (.bool o3) ∧ Gr w w')
    (A9 : ∀ w, Calls Tryz.prog 106 #[.agg #[.int .i64 cx, .int .i64 cy], .agg #[.int .i64 dx, .int .i64 dy], .agg #[.int .i64 bx, .int .i64 by']] w fun e w' => e = .returned (.bool o4) ∧ Gr w w') :
    Calls Tryz.prog 70 #[.agg #[.int .i64 ax, .int .i64 ay], .agg #[.int .i64 bx, .int .i64 by'], .agg #[.int .i64 cx, .int .i64 cy], .agg #[.int .i64 dx, .int .i64 dy]] W fun e w' => e = .returned (.bool r) ∧ Gr W w' := by
  have H1 := Lib.hid A1
  have H2 := Lib.hid A2
  have H3 := Lib.hid A3
  have H4 := Lib.hid A4
  have H5 := Lib.hid A5
  have H6 := Lib.hid A6
  have H7 := Lib.hid A7
  have H8 := Lib.hid A8
  have H9 := Lib.hid A9
  clear A1 A2 A3 A4 A5 A6 A7 A8 A9
  rcases hc with ⟨rfl, rfl⟩ | ⟨rfl, rfl, rfl⟩ | ⟨rfl, rfl, rfl, rfl⟩ | ⟨rfl, rfl, rfl, rfl, rfl⟩ | ⟨rfl, rfl, rfl, rfl, ⟨rfl, rfl⟩ | ⟨rfl, rfl, rfl⟩ | ⟨rfl, rfl, rfl, rfl⟩ | ⟨rfl, rfl, rfl, rfl, rfl⟩ | ⟨rfl, rfl, rfl, rfl, rfl⟩⟩
  · go_enter Tryz.func70, Tryz.ntmps70
    go_wp2_with fail
    go_at_call 24
    refine ((H1.out _)).mono ?_
    rintro e w1 ⟨rfl, hw1⟩
    have cw1_0_0 := ci hw1 (W.heap.size) 0 ax (by go_simp)
    have cw1_0_1 := ci hw1 (W.heap.size) 1 ay (by go_simp)
    have cw1_1_0 := ci hw1 (W.heap.size + 1) 0 bx (by go_simp)
    have cw1_1_1 := ci hw1 (W.heap.size + 1) 1 by' (by go_simp)
    have cw1_2_0 := ci hw1 (W.heap.size + 1 + 1) 0 cx (by go_simp)
    have cw1_2_1 := ci hw1 (W.heap.size + 1 + 1) 1 cy (by go_simp)
    have cw1_3_0 := ci hw1 (W.heap.size + 1 + 1 + 1) 0 dx (by go_simp)
    have cw1_3_1 := ci hw1 (W.heap.size + 1 + 1 + 1) 1 dy (by go_simp)
    have gw1 : Gr W w1 := Gr.trans (by go_grown) hw1
    clear hw1
    go_wp2_with fail
    go_ret
    exact ⟨rfl, by go_grown⟩
  · go_enter Tryz.func70, Tryz.ntmps70
    go_wp2_with fail
    go_at_call 24
    refine ((H1.out _)).mono ?_
    rintro e w1 ⟨rfl, hw1⟩
    have cw1_0_0 := ci hw1 (W.heap.size) 0 ax (by go_simp)
    have cw1_0_1 := ci hw1 (W.heap.size) 1 ay (by go_simp)
    have cw1_1_0 := ci hw1 (W.heap.size + 1) 0 bx (by go_simp)
    have cw1_1_1 := ci hw1 (W.heap.size + 1) 1 by' (by go_simp)
    have cw1_2_0 := ci hw1 (W.heap.size + 1 + 1) 0 cx (by go_simp)
    have cw1_2_1 := ci hw1 (W.heap.size + 1 + 1) 1 cy (by go_simp)
    have cw1_3_0 := ci hw1 (W.heap.size + 1 + 1 + 1) 0 dx (by go_simp)
    have cw1_3_1 := ci hw1 (W.heap.size + 1 + 1 + 1) 1 dy (by go_simp)
    have gw1 : Gr W w1 := Gr.trans (by go_grown) hw1
    clear hw1
    go_wp2_with fail
    go_at_call 24
    refine ((H2.out _)).mono ?_
    rintro e w2 ⟨rfl, hw2⟩
    have cw2_0_0 := ci hw2 (W.heap.size) 0 ax (by go_simp)
    have cw2_0_1 := ci hw2 (W.heap.size) 1 ay (by go_simp)
    have cw2_1_0 := ci hw2 (W.heap.size + 1) 0 bx (by go_simp)
    have cw2_1_1 := ci hw2 (W.heap.size + 1) 1 by' (by go_simp)
    have cw2_2_0 := ci hw2 (W.heap.size + 1 + 1) 0 cx (by go_simp)
    have cw2_2_1 := ci hw2 (W.heap.size + 1 + 1) 1 cy (by go_simp)
    have cw2_3_0 := ci hw2 (W.heap.size + 1 + 1 + 1) 0 dx (by go_simp)
    have cw2_3_1 := ci hw2 (W.heap.size + 1 + 1 + 1) 1 dy (by go_simp)
    have gw2 : Gr W w2 := Gr.trans (by have gg := gw1; have gs := gg.size; go_grown) hw2
    clear hw2 gw1 cw1_0_0 cw1_0_1 cw1_1_0 cw1_1_1 cw1_2_0 cw1_2_1 cw1_3_0 cw1_3_1
    go_wp2_with fail
    go_ret
    exact ⟨rfl, by go_grown⟩
  · go_enter Tryz.func70, Tryz.ntmps70
    go_wp2_with fail
    go_at_call 24
    refine ((H1.out _)).mono ?_
    rintro e w1 ⟨rfl, hw1⟩
    have cw1_0_0 := ci hw1 (W.heap.size) 0 ax (by go_simp)
    have cw1_0_1 := ci hw1 (W.heap.size) 1 ay (by go_simp)
    have cw1_1_0 := ci hw1 (W.heap.size + 1) 0 bx (by go_simp)
    have cw1_1_1 := ci hw1 (W.heap.size + 1) 1 by' (by go_simp)
    have cw1_2_0 := ci hw1 (W.heap.size + 1 + 1) 0 cx (by go_simp)
    have cw1_2_1 := ci hw1 (W.heap.size + 1 + 1) 1 cy (by go_simp)
    have cw1_3_0 := ci hw1 (W.heap.size + 1 + 1 + 1) 0 dx (by go_simp)
    have cw1_3_1 := ci hw1 (W.heap.size + 1 + 1 + 1) 1 dy (by go_simp)
    have gw1 : Gr W w1 := Gr.trans (by go_grown) hw1
    clear hw1
    go_wp2_with fail
    go_at_call 24
    refine ((H2.out _)).mono ?_
    rintro e w2 ⟨rfl, hw2⟩
    have cw2_0_0 := ci hw2 (W.heap.size) 0 ax (by go_simp)
    have cw2_0_1 := ci hw2 (W.heap.size) 1 ay (by go_simp)
    have cw2_1_0 := ci hw2 (W.heap.size + 1) 0 bx (by go_simp)
    have cw2_1_1 := ci hw2 (W.heap.size + 1) 1 by' (by go_simp)
    have cw2_2_0 := ci hw2 (W.heap.size + 1 + 1) 0 cx (by go_simp)
    have cw2_2_1 := ci hw2 (W.heap.size + 1 + 1) 1 cy (by go_simp)
    have cw2_3_0 := ci hw2 (W.heap.size + 1 + 1 + 1) 0 dx (by go_simp)
    have cw2_3_1 := ci hw2 (W.heap.size + 1 + 1 + 1) 1 dy (by go_simp)
    have gw2 : Gr W w2 := Gr.trans (by have gg := gw1; have gs := gg.size; go_grown) hw2
    clear hw2 gw1 cw1_0_0 cw1_0_1 cw1_1_0 cw1_1_1 cw1_2_0 cw1_2_1 cw1_3_0 cw1_3_1
    go_wp2_with fail
    go_at_call 24
    refine ((H3.out _)).mono ?_
    rintro e w3 ⟨rfl, hw3⟩
    have cw3_0_0 := ci hw3 (W.heap.size) 0 ax (by go_simp)
    have cw3_0_1 := ci hw3 (W.heap.size) 1 ay (by go_simp)
    have cw3_1_0 := ci hw3 (W.heap.size + 1) 0 bx (by go_simp)
    have cw3_1_1 := ci hw3 (W.heap.size + 1) 1 by' (by go_simp)
    have cw3_2_0 := ci hw3 (W.heap.size + 1 + 1) 0 cx (by go_simp)
    have cw3_2_1 := ci hw3 (W.heap.size + 1 + 1) 1 cy (by go_simp)
    have cw3_3_0 := ci hw3 (W.heap.size + 1 + 1 + 1) 0 dx (by go_simp)
    have cw3_3_1 := ci hw3 (W.heap.size + 1 + 1 + 1) 1 dy (by go_simp)
    have gw3 : Gr W w3 := Gr.trans (by have gg := gw2; have gs := gg.size; go_grown) hw3
    clear hw3 gw2 cw2_0_0 cw2_0_1 cw2_1_0 cw2_1_1 cw2_2_0 cw2_2_1 cw2_3_0 cw2_3_1
    go_wp2_with fail
    go_ret
    exact ⟨rfl, by go_grown⟩
  · go_enter Tryz.func70, Tryz.ntmps70
    go_wp2_with fail
    go_at_call 24
    refine ((H1.out _)).mono ?_
    rintro e w1 ⟨rfl, hw1⟩
    have cw1_0_0 := ci hw1 (W.heap.size) 0 ax (by go_simp)
    have cw1_0_1 := ci hw1 (W.heap.size) 1 ay (by go_simp)
    have cw1_1_0 := ci hw1 (W.heap.size + 1) 0 bx (by go_simp)
    have cw1_1_1 := ci hw1 (W.heap.size + 1) 1 by' (by go_simp)
    have cw1_2_0 := ci hw1 (W.heap.size + 1 + 1) 0 cx (by go_simp)
    have cw1_2_1 := ci hw1 (W.heap.size + 1 + 1) 1 cy (by go_simp)
    have cw1_3_0 := ci hw1 (W.heap.size + 1 + 1 + 1) 0 dx (by go_simp)
    have cw1_3_1 := ci hw1 (W.heap.size + 1 + 1 + 1) 1 dy (by go_simp)
    have gw1 : Gr W w1 := Gr.trans (by go_grown) hw1
    clear hw1
    go_wp2_with fail
    go_at_call 24
    refine ((H2.out _)).mono ?_
    rintro e w2 ⟨rfl, hw2⟩
    have cw2_0_0 := ci hw2 (W.heap.size) 0 ax (by go_simp)
    have cw2_0_1 := ci hw2 (W.heap.size) 1 ay (by go_simp)
    have cw2_1_0 := ci hw2 (W.heap.size + 1) 0 bx (by go_simp)
    have cw2_1_1 := ci hw2 (W.heap.size + 1) 1 by' (by go_simp)
    have cw2_2_0 := ci hw2 (W.heap.size + 1 + 1) 0 cx (by go_simp)
    have cw2_2_1 := ci hw2 (W.heap.size + 1 + 1) 1 cy (by go_simp)
    have cw2_3_0 := ci hw2 (W.heap.size + 1 + 1 + 1) 0 dx (by go_simp)
    have cw2_3_1 := ci hw2 (W.heap.size + 1 + 1 + 1) 1 dy (by go_simp)
    have gw2 : Gr W w2 := Gr.trans (by have gg := gw1; have gs := gg.size; go_grown) hw2
    clear hw2 gw1 cw1_0_0 cw1_0_1 cw1_1_0 cw1_1_1 cw1_2_0 cw1_2_1 cw1_3_0 cw1_3_1
    go_wp2_with fail
    go_at_call 24
    refine ((H3.out _)).mono ?_
    rintro e w3 ⟨rfl, hw3⟩
    have cw3_0_0 := ci hw3 (W.heap.size) 0 ax (by go_simp)
    have cw3_0_1 := ci hw3 (W.heap.size) 1 ay (by go_simp)
    have cw3_1_0 := ci hw3 (W.heap.size + 1) 0 bx (by go_simp)
    have cw3_1_1 := ci hw3 (W.heap.size + 1) 1 by' (by go_simp)
    have cw3_2_0 := ci hw3 (W.heap.size + 1 + 1) 0 cx (by go_simp)
    have cw3_2_1 := ci hw3 (W.heap.size + 1 + 1) 1 cy (by go_simp)
    have cw3_3_0 := ci hw3 (W.heap.size + 1 + 1 + 1) 0 dx (by go_simp)
    have cw3_3_1 := ci hw3 (W.heap.size + 1 + 1 + 1) 1 dy (by go_simp)
    have gw3 : Gr W w3 := Gr.trans (by have gg := gw2; have gs := gg.size; go_grown) hw3
    clear hw3 gw2 cw2_0_0 cw2_0_1 cw2_1_0 cw2_1_1 cw2_2_0 cw2_2_1 cw2_3_0 cw2_3_1
    go_wp2_with fail
    go_at_call 24
    refine ((H4.out _)).mono ?_
    rintro e w4 ⟨rfl, hw4⟩
    have cw4_0_0 := ci hw4 (W.heap.size) 0 ax (by go_simp)
    have cw4_0_1 := ci hw4 (W.heap.size) 1 ay (by go_simp)
    have cw4_1_0 := ci hw4 (W.heap.size + 1) 0 bx (by go_simp)
    have cw4_1_1 := ci hw4 (W.heap.size + 1) 1 by' (by go_simp)
    have cw4_2_0 := ci hw4 (W.heap.size + 1 + 1) 0 cx (by go_simp)
    have cw4_2_1 := ci hw4 (W.heap.size + 1 + 1) 1 cy (by go_simp)
    have cw4_3_0 := ci hw4 (W.heap.size + 1 + 1 + 1) 0 dx (by go_simp)
    have cw4_3_1 := ci hw4 (W.heap.size + 1 + 1 + 1) 1 dy (by go_simp)
    have gw4 : Gr W w4 := Gr.trans (by have gg := gw3; have gs := gg.size; go_grown) hw4
    clear hw4 gw3 cw3_0_0 cw3_0_1 cw3_1_0 cw3_1_1 cw3_2_0 cw3_2_1 cw3_3_0 cw3_3_1
    go_wp2_with fail
    go_ret
    exact ⟨rfl, by go_grown⟩
  · go_enter Tryz.func70, Tryz.ntmps70
    go_wp2_with fail
    go_at_call 24
    refine ((H1.out _)).mono ?_
    rintro e w1 ⟨rfl, hw1⟩
    have cw1_0_0 := ci hw1 (W.heap.size) 0 ax (by go_simp)
    have cw1_0_1 := ci hw1 (W.heap.size) 1 ay (by go_simp)
    have cw1_1_0 := ci hw1 (W.heap.size + 1) 0 bx (by go_simp)
    have cw1_1_1 := ci hw1 (W.heap.size + 1) 1 by' (by go_simp)
    have cw1_2_0 := ci hw1 (W.heap.size + 1 + 1) 0 cx (by go_simp)
    have cw1_2_1 := ci hw1 (W.heap.size + 1 + 1) 1 cy (by go_simp)
    have cw1_3_0 := ci hw1 (W.heap.size + 1 + 1 + 1) 0 dx (by go_simp)
    have cw1_3_1 := ci hw1 (W.heap.size + 1 + 1 + 1) 1 dy (by go_simp)
    have gw1 : Gr W w1 := Gr.trans (by go_grown) hw1
    clear hw1
    go_wp2_with fail
    go_at_call 24
    refine ((H2.out _)).mono ?_
    rintro e w2 ⟨rfl, hw2⟩
    have cw2_0_0 := ci hw2 (W.heap.size) 0 ax (by go_simp)
    have cw2_0_1 := ci hw2 (W.heap.size) 1 ay (by go_simp)
    have cw2_1_0 := ci hw2 (W.heap.size + 1) 0 bx (by go_simp)
    have cw2_1_1 := ci hw2 (W.heap.size + 1) 1 by' (by go_simp)
    have cw2_2_0 := ci hw2 (W.heap.size + 1 + 1) 0 cx (by go_simp)
    have cw2_2_1 := ci hw2 (W.heap.size + 1 + 1) 1 cy (by go_simp)
    have cw2_3_0 := ci hw2 (W.heap.size + 1 + 1 + 1) 0 dx (by go_simp)
    have cw2_3_1 := ci hw2 (W.heap.size + 1 + 1 + 1) 1 dy (by go_simp)
    have gw2 : Gr W w2 := Gr.trans (by have gg := gw1; have gs := gg.size; go_grown) hw2
    clear hw2 gw1 cw1_0_0 cw1_0_1 cw1_1_0 cw1_1_1 cw1_2_0 cw1_2_1 cw1_3_0 cw1_3_1
    go_wp2_with fail
    go_at_call 24
    refine ((H3.out _)).mono ?_
    rintro e w3 ⟨rfl, hw3⟩
    have cw3_0_0 := ci hw3 (W.heap.size) 0 ax (by go_simp)
    have cw3_0_1 := ci hw3 (W.heap.size) 1 ay (by go_simp)
    have cw3_1_0 := ci hw3 (W.heap.size + 1) 0 bx (by go_simp)
    have cw3_1_1 := ci hw3 (W.heap.size + 1) 1 by' (by go_simp)
    have cw3_2_0 := ci hw3 (W.heap.size + 1 + 1) 0 cx (by go_simp)
    have cw3_2_1 := ci hw3 (W.heap.size + 1 + 1) 1 cy (by go_simp)
    have cw3_3_0 := ci hw3 (W.heap.size + 1 + 1 + 1) 0 dx (by go_simp)
    have cw3_3_1 := ci hw3 (W.heap.size + 1 + 1 + 1) 1 dy (by go_simp)
    have gw3 : Gr W w3 := Gr.trans (by have gg := gw2; have gs := gg.size; go_grown) hw3
    clear hw3 gw2 cw2_0_0 cw2_0_1 cw2_1_0 cw2_1_1 cw2_2_0 cw2_2_1 cw2_3_0 cw2_3_1
    go_wp2_with fail
    go_at_call 24
    refine ((H4.out _)).mono ?_
    rintro e w4 ⟨rfl, hw4⟩
    have cw4_0_0 := ci hw4 (W.heap.size) 0 ax (by go_simp)
    have cw4_0_1 := ci hw4 (W.heap.size) 1 ay (by go_simp)
    have cw4_1_0 := ci hw4 (W.heap.size + 1) 0 bx (by go_simp)
    have cw4_1_1 := ci hw4 (W.heap.size + 1) 1 by' (by go_simp)
    have cw4_2_0 := ci hw4 (W.heap.size + 1 + 1) 0 cx (by go_simp)
    have cw4_2_1 := ci hw4 (W.heap.size + 1 + 1) 1 cy (by go_simp)
    have cw4_3_0 := ci hw4 (W.heap.size + 1 + 1 + 1) 0 dx (by go_simp)
    have cw4_3_1 := ci hw4 (W.heap.size + 1 + 1 + 1) 1 dy (by go_simp)
    have gw4 : Gr W w4 := Gr.trans (by have gg := gw3; have gs := gg.size; go_grown) hw4
    clear hw4 gw3 cw3_0_0 cw3_0_1 cw3_1_0 cw3_1_1 cw3_2_0 cw3_2_1 cw3_3_0 cw3_3_1
    go_wp2_with fail
    go_at_call 105
    refine ((H5.out _)).mono ?_
    rintro e w5 ⟨rfl, hw5⟩
    have cw5_0_0 := ci hw5 (W.heap.size) 0 ax (by go_simp)
    have cw5_0_1 := ci hw5 (W.heap.size) 1 ay (by go_simp)
    have cw5_1_0 := ci hw5 (W.heap.size + 1) 0 bx (by go_simp)
    have cw5_1_1 := ci hw5 (W.heap.size + 1) 1 by' (by go_simp)
    have cw5_2_0 := ci hw5 (W.heap.size + 1 + 1) 0 cx (by go_simp)
    have cw5_2_1 := ci hw5 (W.heap.size + 1 + 1) 1 cy (by go_simp)
    have cw5_3_0 := ci hw5 (W.heap.size + 1 + 1 + 1) 0 dx (by go_simp)
    have cw5_3_1 := ci hw5 (W.heap.size + 1 + 1 + 1) 1 dy (by go_simp)
    have gw5 : Gr W w5 := Gr.trans (by have gg := gw4; have gs := gg.size; go_grown) hw5
    clear hw5 gw4 cw4_0_0 cw4_0_1 cw4_1_0 cw4_1_1 cw4_2_0 cw4_2_1 cw4_3_0 cw4_3_1
    go_wp2_with fail
    go_ret
    exact ⟨rfl, by go_grown⟩
  · go_enter Tryz.func70, Tryz.ntmps70
    go_wp2_with fail
    go_at_call 24
    refine ((H1.out _)).mono ?_
    rintro e w1 ⟨rfl, hw1⟩
    have cw1_0_0 := ci hw1 (W.heap.size) 0 ax (by go_simp)
    have cw1_0_1 := ci hw1 (W.heap.size) 1 ay (by go_simp)
    have cw1_1_0 := ci hw1 (W.heap.size + 1) 0 bx (by go_simp)
    have cw1_1_1 := ci hw1 (W.heap.size + 1) 1 by' (by go_simp)
    have cw1_2_0 := ci hw1 (W.heap.size + 1 + 1) 0 cx (by go_simp)
    have cw1_2_1 := ci hw1 (W.heap.size + 1 + 1) 1 cy (by go_simp)
    have cw1_3_0 := ci hw1 (W.heap.size + 1 + 1 + 1) 0 dx (by go_simp)
    have cw1_3_1 := ci hw1 (W.heap.size + 1 + 1 + 1) 1 dy (by go_simp)
    have gw1 : Gr W w1 := Gr.trans (by go_grown) hw1
    clear hw1
    go_wp2_with fail
    go_at_call 24
    refine ((H2.out _)).mono ?_
    rintro e w2 ⟨rfl, hw2⟩
    have cw2_0_0 := ci hw2 (W.heap.size) 0 ax (by go_simp)
    have cw2_0_1 := ci hw2 (W.heap.size) 1 ay (by go_simp)
    have cw2_1_0 := ci hw2 (W.heap.size + 1) 0 bx (by go_simp)
    have cw2_1_1 := ci hw2 (W.heap.size + 1) 1 by' (by go_simp)
    have cw2_2_0 := ci hw2 (W.heap.size + 1 + 1) 0 cx (by go_simp)
    have cw2_2_1 := ci hw2 (W.heap.size + 1 + 1) 1 cy (by go_simp)
    have cw2_3_0 := ci hw2 (W.heap.size + 1 + 1 + 1) 0 dx (by go_simp)
    have cw2_3_1 := ci hw2 (W.heap.size + 1 + 1 + 1) 1 dy (by go_simp)
    have gw2 : Gr W w2 := Gr.trans (by have gg := gw1; have gs := gg.size; go_grown) hw2
    clear hw2 gw1 cw1_0_0 cw1_0_1 cw1_1_0 cw1_1_1 cw1_2_0 cw1_2_1 cw1_3_0 cw1_3_1
    go_wp2_with fail
    go_at_call 24
    refine ((H3.out _)).mono ?_
    rintro e w3 ⟨rfl, hw3⟩
    have cw3_0_0 := ci hw3 (W.heap.size) 0 ax (by go_simp)
    have cw3_0_1 := ci hw3 (W.heap.size) 1 ay (by go_simp)
    have cw3_1_0 := ci hw3 (W.heap.size + 1) 0 bx (by go_simp)
    have cw3_1_1 := ci hw3 (W.heap.size + 1) 1 by' (by go_simp)
    have cw3_2_0 := ci hw3 (W.heap.size + 1 + 1) 0 cx (by go_simp)
    have cw3_2_1 := ci hw3 (W.heap.size + 1 + 1) 1 cy (by go_simp)
    have cw3_3_0 := ci hw3 (W.heap.size + 1 + 1 + 1) 0 dx (by go_simp)
    have cw3_3_1 := ci hw3 (W.heap.size + 1 + 1 + 1) 1 dy (by go_simp)
    have gw3 : Gr W w3 := Gr.trans (by have gg := gw2; have gs := gg.size; go_grown) hw3
    clear hw3 gw2 cw2_0_0 cw2_0_1 cw2_1_0 cw2_1_1 cw2_2_0 cw2_2_1 cw2_3_0 cw2_3_1
    go_wp2_with fail
    go_at_call 24
    refine ((H4.out _)).mono ?_
    rintro e w4 ⟨rfl, hw4⟩
    have cw4_0_0 := ci hw4 (W.heap.size) 0 ax (by go_simp)
    have cw4_0_1 := ci hw4 (W.heap.size) 1 ay (by go_simp)
    have cw4_1_0 := ci hw4 (W.heap.size + 1) 0 bx (by go_simp)
    have cw4_1_1 := ci hw4 (W.heap.size + 1) 1 by' (by go_simp)
    have cw4_2_0 := ci hw4 (W.heap.size + 1 + 1) 0 cx (by go_simp)
    have cw4_2_1 := ci hw4 (W.heap.size + 1 + 1) 1 cy (by go_simp)
    have cw4_3_0 := ci hw4 (W.heap.size + 1 + 1 + 1) 0 dx (by go_simp)
    have cw4_3_1 := ci hw4 (W.heap.size + 1 + 1 + 1) 1 dy (by go_simp)
    have gw4 : Gr W w4 := Gr.trans (by have gg := gw3; have gs := gg.size; go_grown) hw4
    clear hw4 gw3 cw3_0_0 cw3_0_1 cw3_1_0 cw3_1_1 cw3_2_0 cw3_2_1 cw3_3_0 cw3_3_1
    go_wp2_with fail
    go_at_call 105
    refine ((H5.out _)).mono ?_
    rintro e w5 ⟨rfl, hw5⟩
    have cw5_0_0 := ci hw5 (W.heap.size) 0 ax (by go_simp)
    have cw5_0_1 := ci hw5 (W.heap.size) 1 ay (by go_simp)
    have cw5_1_0 := ci hw5 (W.heap.size + 1) 0 bx (by go_simp)
    have cw5_1_1 := ci hw5 (W.heap.size + 1) 1 by' (by go_simp)
    have cw5_2_0 := ci hw5 (W.heap.size + 1 + 1) 0 cx (by go_simp)
    have cw5_2_1 := ci hw5 (W.heap.size + 1 + 1) 1 cy (by go_simp)
    have cw5_3_0 := ci hw5 (W.heap.size + 1 + 1 + 1) 0 dx (by go_simp)
    have cw5_3_1 := ci hw5 (W.heap.size + 1 + 1 + 1) 1 dy (by go_simp)
    have gw5 : Gr W w5 := Gr.trans (by have gg := gw4; have gs := gg.size; go_grown) hw5
    clear hw5 gw4 cw4_0_0 cw4_0_1 cw4_1_0 cw4_1_1 cw4_2_0 cw4_2_1 cw4_3_0 cw4_3_1
    go_wp2_with fail
    go_at_call 106
    refine ((H6.out _)).mono ?_
    rintro e w6 ⟨rfl, hw6⟩
    have cw6_0_0 := ci hw6 (W.heap.size) 0 ax (by go_simp)
    have cw6_0_1 := ci hw6 (W.heap.size) 1 ay (by go_simp)
    have cw6_1_0 := ci hw6 (W.heap.size + 1) 0 bx (by go_simp)
    have cw6_1_1 := ci hw6 (W.heap.size + 1) 1 by' (by go_simp)
    have cw6_2_0 := ci hw6 (W.heap.size + 1 + 1) 0 cx (by go_simp)
    have cw6_2_1 := ci hw6 (W.heap.size + 1 + 1) 1 cy (by go_simp)
    have cw6_3_0 := ci hw6 (W.heap.size + 1 + 1 + 1) 0 dx (by go_simp)
    have cw6_3_1 := ci hw6 (W.heap.size + 1 + 1 + 1) 1 dy (by go_simp)
    have gw6 : Gr W w6 := Gr.trans (by have gg := gw5; have gs := gg.size; go_grown) hw6
    clear hw6 gw5 cw5_0_0 cw5_0_1 cw5_1_0 cw5_1_1 cw5_2_0 cw5_2_1 cw5_3_0 cw5_3_1
    go_wp2_with fail
    go_ret
    exact ⟨rfl, by go_grown⟩
  · go_enter Tryz.func70, Tryz.ntmps70
    go_wp2_with fail
    go_at_call 24
    refine ((H1.out _)).mono ?_
    rintro e w1 ⟨rfl, hw1⟩
    have cw1_0_0 := ci hw1 (W.heap.size) 0 ax (by go_simp)
    have cw1_0_1 := ci hw1 (W.heap.size) 1 ay (by go_simp)
    have cw1_1_0 := ci hw1 (W.heap.size + 1) 0 bx (by go_simp)
    have cw1_1_1 := ci hw1 (W.heap.size + 1) 1 by' (by go_simp)
    have cw1_2_0 := ci hw1 (W.heap.size + 1 + 1) 0 cx (by go_simp)
    have cw1_2_1 := ci hw1 (W.heap.size + 1 + 1) 1 cy (by go_simp)
    have cw1_3_0 := ci hw1 (W.heap.size + 1 + 1 + 1) 0 dx (by go_simp)
    have cw1_3_1 := ci hw1 (W.heap.size + 1 + 1 + 1) 1 dy (by go_simp)
    have gw1 : Gr W w1 := Gr.trans (by go_grown) hw1
    clear hw1
    go_wp2_with fail
    go_at_call 24
    refine ((H2.out _)).mono ?_
    rintro e w2 ⟨rfl, hw2⟩
    have cw2_0_0 := ci hw2 (W.heap.size) 0 ax (by go_simp)
    have cw2_0_1 := ci hw2 (W.heap.size) 1 ay (by go_simp)
    have cw2_1_0 := ci hw2 (W.heap.size + 1) 0 bx (by go_simp)
    have cw2_1_1 := ci hw2 (W.heap.size + 1) 1 by' (by go_simp)
    have cw2_2_0 := ci hw2 (W.heap.size + 1 + 1) 0 cx (by go_simp)
    have cw2_2_1 := ci hw2 (W.heap.size + 1 + 1) 1 cy (by go_simp)
    have cw2_3_0 := ci hw2 (W.heap.size + 1 + 1 + 1) 0 dx (by go_simp)
    have cw2_3_1 := ci hw2 (W.heap.size + 1 + 1 + 1) 1 dy (by go_simp)
    have gw2 : Gr W w2 := Gr.trans (by have gg := gw1; have gs := gg.size; go_grown) hw2
    clear hw2 gw1 cw1_0_0 cw1_0_1 cw1_1_0 cw1_1_1 cw1_2_0 cw1_2_1 cw1_3_0 cw1_3_1
    go_wp2_with fail
    go_at_call 24
    refine ((H3.out _)).mono ?_
    rintro e w3 ⟨rfl, hw3⟩
    have cw3_0_0 := ci hw3 (W.heap.size) 0 ax (by go_simp)
    have cw3_0_1 := ci hw3 (W.heap.size) 1 ay (by go_simp)
    have cw3_1_0 := ci hw3 (W.heap.size + 1) 0 bx (by go_simp)
    have cw3_1_1 := ci hw3 (W.heap.size + 1) 1 by' (by go_simp)
    have cw3_2_0 := ci hw3 (W.heap.size + 1 + 1) 0 cx (by go_simp)
    have cw3_2_1 := ci hw3 (W.heap.size + 1 + 1) 1 cy (by go_simp)
    have cw3_3_0 := ci hw3 (W.heap.size + 1 + 1 + 1) 0 dx (by go_simp)
    have cw3_3_1 := ci hw3 (W.heap.size + 1 + 1 + 1) 1 dy (by go_simp)
    have gw3 : Gr W w3 := Gr.trans (by have gg := gw2; have gs := gg.size; go_grown) hw3
    clear hw3 gw2 cw2_0_0 cw2_0_1 cw2_1_0 cw2_1_1 cw2_2_0 cw2_2_1 cw2_3_0 cw2_3_1
    go_wp2_with fail
    go_at_call 24
    refine ((H4.out _)).mono ?_
    rintro e w4 ⟨rfl, hw4⟩
    have cw4_0_0 := ci hw4 (W.heap.size) 0 ax (by go_simp)
    have cw4_0_1 := ci hw4 (W.heap.size) 1 ay (by go_simp)
    have cw4_1_0 := ci hw4 (W.heap.size + 1) 0 bx (by go_simp)
    have cw4_1_1 := ci hw4 (W.heap.size + 1) 1 by' (by go_simp)
    have cw4_2_0 := ci hw4 (W.heap.size + 1 + 1) 0 cx (by go_simp)
    have cw4_2_1 := ci hw4 (W.heap.size + 1 + 1) 1 cy (by go_simp)
    have cw4_3_0 := ci hw4 (W.heap.size + 1 + 1 + 1) 0 dx (by go_simp)
    have cw4_3_1 := ci hw4 (W.heap.size + 1 + 1 + 1) 1 dy (by go_simp)
    have gw4 : Gr W w4 := Gr.trans (by have gg := gw3; have gs := gg.size; go_grown) hw4
    clear hw4 gw3 cw3_0_0 cw3_0_1 cw3_1_0 cw3_1_1 cw3_2_0 cw3_2_1 cw3_3_0 cw3_3_1
    go_wp2_with fail
    go_at_call 105
    refine ((H5.out _)).mono ?_
    rintro e w5 ⟨rfl, hw5⟩
    have cw5_0_0 := ci hw5 (W.heap.size) 0 ax (by go_simp)
    have cw5_0_1 := ci hw5 (W.heap.size) 1 ay (by go_simp)
    have cw5_1_0 := ci hw5 (W.heap.size + 1) 0 bx (by go_simp)
    have cw5_1_1 := ci hw5 (W.heap.size + 1) 1 by' (by go_simp)
    have cw5_2_0 := ci hw5 (W.heap.size + 1 + 1) 0 cx (by go_simp)
    have cw5_2_1 := ci hw5 (W.heap.size + 1 + 1) 1 cy (by go_simp)
    have cw5_3_0 := ci hw5 (W.heap.size + 1 + 1 + 1) 0 dx (by go_simp)
    have cw5_3_1 := ci hw5 (W.heap.size + 1 + 1 + 1) 1 dy (by go_simp)
    have gw5 : Gr W w5 := Gr.trans (by have gg := gw4; have gs := gg.size; go_grown) hw5
    clear hw5 gw4 cw4_0_0 cw4_0_1 cw4_1_0 cw4_1_1 cw4_2_0 cw4_2_1 cw4_3_0 cw4_3_1
    go_wp2_with fail
    go_at_call 106
    refine ((H6.out _)).mono ?_
    rintro e w6 ⟨rfl, hw6⟩
    have cw6_0_0 := ci hw6 (W.heap.size) 0 ax (by go_simp)
    have cw6_0_1 := ci hw6 (W.heap.size) 1 ay (by go_simp)
    have cw6_1_0 := ci hw6 (W.heap.size + 1) 0 bx (by go_simp)
    have cw6_1_1 := ci hw6 (W.heap.size + 1) 1 by' (by go_simp)
    have cw6_2_0 := ci hw6 (W.heap.size + 1 + 1) 0 cx (by go_simp)
    have cw6_2_1 := ci hw6 (W.heap.size + 1 + 1) 1 cy (by go_simp)
    have cw6_3_0 := ci hw6 (W.heap.size + 1 + 1 + 1) 0 dx (by go_simp)
    have cw6_3_1 := ci hw6 (W.heap.size + 1 + 1 + 1) 1 dy (by go_simp)
    have gw6 : Gr W w6 := Gr.trans (by have gg := gw5; have gs := gg.size; go_grown) hw6
    clear hw6 gw5 cw5_0_0 cw5_0_1 cw5_1_0 cw5_1_1 cw5_2_0 cw5_2_1 cw5_3_0 cw5_3_1
    go_wp2_with fail
    go_at_call 106
    refine ((H7.out _)).mono ?_
    rintro e w7 ⟨rfl, hw7⟩
    have cw7_0_0 := ci hw7 (W.heap.size) 0 ax (by go_simp)
    have cw7_0_1 := ci hw7 (W.heap.size) 1 ay (by go_simp)
    have cw7_1_0 := ci hw7 (W.heap.size + 1) 0 bx (by go_simp)
    have cw7_1_1 := ci hw7 (W.heap.size + 1) 1 by' (by go_simp)
    have cw7_2_0 := ci hw7 (W.heap.size + 1 + 1) 0 cx (by go_simp)
    have cw7_2_1 := ci hw7 (W.heap.size + 1 + 1) 1 cy (by go_simp)
    have cw7_3_0 := ci hw7 (W.heap.size + 1 + 1 + 1) 0 dx (by go_simp)
    have cw7_3_1 := ci hw7 (W.heap.size + 1 + 1 + 1) 1 dy (by go_simp)
    have gw7 : Gr W w7 := Gr.trans (by have gg := gw6; have gs := gg.size; go_grown) hw7
    clear hw7 gw6 cw6_0_0 cw6_0_1 cw6_1_0 cw6_1_1 cw6_2_0 cw6_2_1 cw6_3_0 cw6_3_1
    go_wp2_with fail
    go_ret
    exact ⟨rfl, by go_grown⟩
  · go_enter Tryz.func70, Tryz.ntmps70
    go_wp2_with fail
    go_at_call 24
    refine ((H1.out _)).mono ?_
    rintro e w1 ⟨rfl, hw1⟩
    have cw1_0_0 := ci hw1 (W.heap.size) 0 ax (by go_simp)
    have cw1_0_1 := ci hw1 (W.heap.size) 1 ay (by go_simp)
    have cw1_1_0 := ci hw1 (W.heap.size + 1) 0 bx (by go_simp)
    have cw1_1_1 := ci hw1 (W.heap.size + 1) 1 by' (by go_simp)
    have cw1_2_0 := ci hw1 (W.heap.size + 1 + 1) 0 cx (by go_simp)
    have cw1_2_1 := ci hw1 (W.heap.size + 1 + 1) 1 cy (by go_simp)
    have cw1_3_0 := ci hw1 (W.heap.size + 1 + 1 + 1) 0 dx (by go_simp)
    have cw1_3_1 := ci hw1 (W.heap.size + 1 + 1 + 1) 1 dy (by go_simp)
    have gw1 : Gr W w1 := Gr.trans (by go_grown) hw1
    clear hw1
    go_wp2_with fail
    go_at_call 24
    refine ((H2.out _)).mono ?_
    rintro e w2 ⟨rfl, hw2⟩
    have cw2_0_0 := ci hw2 (W.heap.size) 0 ax (by go_simp)
    have cw2_0_1 := ci hw2 (W.heap.size) 1 ay (by go_simp)
    have cw2_1_0 := ci hw2 (W.heap.size + 1) 0 bx (by go_simp)
    have cw2_1_1 := ci hw2 (W.heap.size + 1) 1 by' (by go_simp)
    have cw2_2_0 := ci hw2 (W.heap.size + 1 + 1) 0 cx (by go_simp)
    have cw2_2_1 := ci hw2 (W.heap.size + 1 + 1) 1 cy (by go_simp)
    have cw2_3_0 := ci hw2 (W.heap.size + 1 + 1 + 1) 0 dx (by go_simp)
    have cw2_3_1 := ci hw2 (W.heap.size + 1 + 1 + 1) 1 dy (by go_simp)
    have gw2 : Gr W w2 := Gr.trans (by have gg := gw1; have gs := gg.size; go_grown) hw2
    clear hw2 gw1 cw1_0_0 cw1_0_1 cw1_1_0 cw1_1_1 cw1_2_0 cw1_2_1 cw1_3_0 cw1_3_1
    go_wp2_with fail
    go_at_call 24
    refine ((H3.out _)).mono ?_
    rintro e w3 ⟨rfl, hw3⟩
    have cw3_0_0 := ci hw3 (W.heap.size) 0 ax (by go_simp)
    have cw3_0_1 := ci hw3 (W.heap.size) 1 ay (by go_simp)
    have cw3_1_0 := ci hw3 (W.heap.size + 1) 0 bx (by go_simp)
    have cw3_1_1 := ci hw3 (W.heap.size + 1) 1 by' (by go_simp)
    have cw3_2_0 := ci hw3 (W.heap.size + 1 + 1) 0 cx (by go_simp)
    have cw3_2_1 := ci hw3 (W.heap.size + 1 + 1) 1 cy (by go_simp)
    have cw3_3_0 := ci hw3 (W.heap.size + 1 + 1 + 1) 0 dx (by go_simp)
    have cw3_3_1 := ci hw3 (W.heap.size + 1 + 1 + 1) 1 dy (by go_simp)
    have gw3 : Gr W w3 := Gr.trans (by have gg := gw2; have gs := gg.size; go_grown) hw3
    clear hw3 gw2 cw2_0_0 cw2_0_1 cw2_1_0 cw2_1_1 cw2_2_0 cw2_2_1 cw2_3_0 cw2_3_1
    go_wp2_with fail
    go_at_call 24
    refine ((H4.out _)).mono ?_
    rintro e w4 ⟨rfl, hw4⟩
    have cw4_0_0 := ci hw4 (W.heap.size) 0 ax (by go_simp)
    have cw4_0_1 := ci hw4 (W.heap.size) 1 ay (by go_simp)
    have cw4_1_0 := ci hw4 (W.heap.size + 1) 0 bx (by go_simp)
    have cw4_1_1 := ci hw4 (W.heap.size + 1) 1 by' (by go_simp)
    have cw4_2_0 := ci hw4 (W.heap.size + 1 + 1) 0 cx (by go_simp)
    have cw4_2_1 := ci hw4 (W.heap.size + 1 + 1) 1 cy (by go_simp)
    have cw4_3_0 := ci hw4 (W.heap.size + 1 + 1 + 1) 0 dx (by go_simp)
    have cw4_3_1 := ci hw4 (W.heap.size + 1 + 1 + 1) 1 dy (by go_simp)
    have gw4 : Gr W w4 := Gr.trans (by have gg := gw3; have gs := gg.size; go_grown) hw4
    clear hw4 gw3 cw3_0_0 cw3_0_1 cw3_1_0 cw3_1_1 cw3_2_0 cw3_2_1 cw3_3_0 cw3_3_1
    go_wp2_with fail
    go_at_call 105
    refine ((H5.out _)).mono ?_
    rintro e w5 ⟨rfl, hw5⟩
    have cw5_0_0 := ci hw5 (W.heap.size) 0 ax (by go_simp)
    have cw5_0_1 := ci hw5 (W.heap.size) 1 ay (by go_simp)
    have cw5_1_0 := ci hw5 (W.heap.size + 1) 0 bx (by go_simp)
    have cw5_1_1 := ci hw5 (W.heap.size + 1) 1 by' (by go_simp)
    have cw5_2_0 := ci hw5 (W.heap.size + 1 + 1) 0 cx (by go_simp)
    have cw5_2_1 := ci hw5 (W.heap.size + 1 + 1) 1 cy (by go_simp)
    have cw5_3_0 := ci hw5 (W.heap.size + 1 + 1 + 1) 0 dx (by go_simp)
    have cw5_3_1 := ci hw5 (W.heap.size + 1 + 1 + 1) 1 dy (by go_simp)
    have gw5 : Gr W w5 := Gr.trans (by have gg := gw4; have gs := gg.size; go_grown) hw5
    clear hw5 gw4 cw4_0_0 cw4_0_1 cw4_1_0 cw4_1_1 cw4_2_0 cw4_2_1 cw4_3_0 cw4_3_1
    go_wp2_with fail
    go_at_call 106
    refine ((H6.out _)).mono ?_
    rintro e w6 ⟨rfl, hw6⟩
    have cw6_0_0 := ci hw6 (W.heap.size) 0 ax (by go_simp)
    have cw6_0_1 := ci hw6 (W.heap.size) 1 ay (by go_simp)
    have cw6_1_0 := ci hw6 (W.heap.size + 1) 0 bx (by go_simp)
    have cw6_1_1 := ci hw6 (W.heap.size + 1) 1 by' (by go_simp)
    have cw6_2_0 := ci hw6 (W.heap.size + 1 + 1) 0 cx (by go_simp)
    have cw6_2_1 := ci hw6 (W.heap.size + 1 + 1) 1 cy (by go_simp)
    have cw6_3_0 := ci hw6 (W.heap.size + 1 + 1 + 1) 0 dx (by go_simp)
    have cw6_3_1 := ci hw6 (W.heap.size + 1 + 1 + 1) 1 dy (by go_simp)
    have gw6 : Gr W w6 := Gr.trans (by have gg := gw5; have gs := gg.size; go_grown) hw6
    clear hw6 gw5 cw5_0_0 cw5_0_1 cw5_1_0 cw5_1_1 cw5_2_0 cw5_2_1 cw5_3_0 cw5_3_1
    go_wp2_with fail
    go_at_call 106
    refine ((H7.out _)).mono ?_
    rintro e w7 ⟨rfl, hw7⟩
    have cw7_0_0 := ci hw7 (W.heap.size) 0 ax (by go_simp)
    have cw7_0_1 := ci hw7 (W.heap.size) 1 ay (by go_simp)
    have cw7_1_0 := ci hw7 (W.heap.size + 1) 0 bx (by go_simp)
    have cw7_1_1 := ci hw7 (W.heap.size + 1) 1 by' (by go_simp)
    have cw7_2_0 := ci hw7 (W.heap.size + 1 + 1) 0 cx (by go_simp)
    have cw7_2_1 := ci hw7 (W.heap.size + 1 + 1) 1 cy (by go_simp)
    have cw7_3_0 := ci hw7 (W.heap.size + 1 + 1 + 1) 0 dx (by go_simp)
    have cw7_3_1 := ci hw7 (W.heap.size + 1 + 1 + 1) 1 dy (by go_simp)
    have gw7 : Gr W w7 := Gr.trans (by have gg := gw6; have gs := gg.size; go_grown) hw7
    clear hw7 gw6 cw6_0_0 cw6_0_1 cw6_1_0 cw6_1_1 cw6_2_0 cw6_2_1 cw6_3_0 cw6_3_1
    go_wp2_with fail
    go_at_call 106
    refine ((H8.out _)).mono ?_
    rintro e w8 ⟨rfl, hw8⟩
    have cw8_1_0 := ci hw8 (W.heap.size + 1) 0 bx (by go_simp)
    have cw8_1_1 := ci hw8 (W.heap.size + 1) 1 by' (by go_simp)
    have cw8_2_0 := ci hw8 (W.heap.size + 1 + 1) 0 cx (by go_simp)
    have cw8_2_1 := ci hw8 (W.heap.size + 1 + 1) 1 cy (by go_simp)
    have cw8_3_0 := ci hw8 (W.heap.size + 1 + 1 + 1) 0 dx (by go_simp)
    have cw8_3_1 := ci hw8 (W.heap.size + 1 + 1 + 1) 1 dy (by go_simp)
    have gw8 : Gr W w8 := Gr.trans (by have gg := gw7; have gs := gg.size; go_grown) hw8
    clear hw8 gw7 cw7_0_0 cw7_0_1 cw7_1_0 cw7_1_1 cw7_2_0 cw7_2_1 cw7_3_0 cw7_3_1
    go_wp2_with fail
    go_ret
    exact ⟨rfl, by go_grown⟩
  · go_enter Tryz.func70, Tryz.ntmps70
    go_wp2_with fail
    go_at_call 24
    refine ((H1.out _)).mono ?_
    rintro e w1 ⟨rfl, hw1⟩
    have cw1_0_0 := ci hw1 (W.heap.size) 0 ax (by go_simp)
    have cw1_0_1 := ci hw1 (W.heap.size) 1 ay (by go_simp)
    have cw1_1_0 := ci hw1 (W.heap.size + 1) 0 bx (by go_simp)
    have cw1_1_1 := ci hw1 (W.heap.size + 1) 1 by' (by go_simp)
    have cw1_2_0 := ci hw1 (W.heap.size + 1 + 1) 0 cx (by go_simp)
    have cw1_2_1 := ci hw1 (W.heap.size + 1 + 1) 1 cy (by go_simp)
    have cw1_3_0 := ci hw1 (W.heap.size + 1 + 1 + 1) 0 dx (by go_simp)
    have cw1_3_1 := ci hw1 (W.heap.size + 1 + 1 + 1) 1 dy (by go_simp)
    have gw1 : Gr W w1 := Gr.trans (by go_grown) hw1
    clear hw1
    go_wp2_with fail
    go_at_call 24
    refine ((H2.out _)).mono ?_
    rintro e w2 ⟨rfl, hw2⟩
    have cw2_0_0 := ci hw2 (W.heap.size) 0 ax (by go_simp)
    have cw2_0_1 := ci hw2 (W.heap.size) 1 ay (by go_simp)
    have cw2_1_0 := ci hw2 (W.heap.size + 1) 0 bx (by go_simp)
    have cw2_1_1 := ci hw2 (W.heap.size + 1) 1 by' (by go_simp)
    have cw2_2_0 := ci hw2 (W.heap.size + 1 + 1) 0 cx (by go_simp)
    have cw2_2_1 := ci hw2 (W.heap.size + 1 + 1) 1 cy (by go_simp)
    have cw2_3_0 := ci hw2 (W.heap.size + 1 + 1 + 1) 0 dx (by go_simp)
    have cw2_3_1 := ci hw2 (W.heap.size + 1 + 1 + 1) 1 dy (by go_simp)
    have gw2 : Gr W w2 := Gr.trans (by have gg := gw1; have gs := gg.size; go_grown) hw2
    clear hw2 gw1 cw1_0_0 cw1_0_1 cw1_1_0 cw1_1_1 cw1_2_0 cw1_2_1 cw1_3_0 cw1_3_1
    go_wp2_with fail
    go_at_call 24
    refine ((H3.out _)).mono ?_
    rintro e w3 ⟨rfl, hw3⟩
    have cw3_0_0 := ci hw3 (W.heap.size) 0 ax (by go_simp)
    have cw3_0_1 := ci hw3 (W.heap.size) 1 ay (by go_simp)
    have cw3_1_0 := ci hw3 (W.heap.size + 1) 0 bx (by go_simp)
    have cw3_1_1 := ci hw3 (W.heap.size + 1) 1 by' (by go_simp)
    have cw3_2_0 := ci hw3 (W.heap.size + 1 + 1) 0 cx (by go_simp)
    have cw3_2_1 := ci hw3 (W.heap.size + 1 + 1) 1 cy (by go_simp)
    have cw3_3_0 := ci hw3 (W.heap.size + 1 + 1 + 1) 0 dx (by go_simp)
    have cw3_3_1 := ci hw3 (W.heap.size + 1 + 1 + 1) 1 dy (by go_simp)
    have gw3 : Gr W w3 := Gr.trans (by have gg := gw2; have gs := gg.size; go_grown) hw3
    clear hw3 gw2 cw2_0_0 cw2_0_1 cw2_1_0 cw2_1_1 cw2_2_0 cw2_2_1 cw2_3_0 cw2_3_1
    go_wp2_with fail
    go_at_call 24
    refine ((H4.out _)).mono ?_
    rintro e w4 ⟨rfl, hw4⟩
    have cw4_0_0 := ci hw4 (W.heap.size) 0 ax (by go_simp)
    have cw4_0_1 := ci hw4 (W.heap.size) 1 ay (by go_simp)
    have cw4_1_0 := ci hw4 (W.heap.size + 1) 0 bx (by go_simp)
    have cw4_1_1 := ci hw4 (W.heap.size + 1) 1 by' (by go_simp)
    have cw4_2_0 := ci hw4 (W.heap.size + 1 + 1) 0 cx (by go_simp)
    have cw4_2_1 := ci hw4 (W.heap.size + 1 + 1) 1 cy (by go_simp)
    have cw4_3_0 := ci hw4 (W.heap.size + 1 + 1 + 1) 0 dx (by go_simp)
    have cw4_3_1 := ci hw4 (W.heap.size + 1 + 1 + 1) 1 dy (by go_simp)
    have gw4 : Gr W w4 := Gr.trans (by have gg := gw3; have gs := gg.size; go_grown) hw4
    clear hw4 gw3 cw3_0_0 cw3_0_1 cw3_1_0 cw3_1_1 cw3_2_0 cw3_2_1 cw3_3_0 cw3_3_1
    go_wp2_with fail
    go_at_call 105
    refine ((H5.out _)).mono ?_
    rintro e w5 ⟨rfl, hw5⟩
    have cw5_0_0 := ci hw5 (W.heap.size) 0 ax (by go_simp)
    have cw5_0_1 := ci hw5 (W.heap.size) 1 ay (by go_simp)
    have cw5_1_0 := ci hw5 (W.heap.size + 1) 0 bx (by go_simp)
    have cw5_1_1 := ci hw5 (W.heap.size + 1) 1 by' (by go_simp)
    have cw5_2_0 := ci hw5 (W.heap.size + 1 + 1) 0 cx (by go_simp)
    have cw5_2_1 := ci hw5 (W.heap.size + 1 + 1) 1 cy (by go_simp)
    have cw5_3_0 := ci hw5 (W.heap.size + 1 + 1 + 1) 0 dx (by go_simp)
    have cw5_3_1 := ci hw5 (W.heap.size + 1 + 1 + 1) 1 dy (by go_simp)
    have gw5 : Gr W w5 := Gr.trans (by have gg := gw4; have gs := gg.size; go_grown) hw5
    clear hw5 gw4 cw4_0_0 cw4_0_1 cw4_1_0 cw4_1_1 cw4_2_0 cw4_2_1 cw4_3_0 cw4_3_1
    go_wp2_with fail
    go_at_call 106
    refine ((H6.out _)).mono ?_
    rintro e w6 ⟨rfl, hw6⟩
    have cw6_0_0 := ci hw6 (W.heap.size) 0 ax (by go_simp)
    have cw6_0_1 := ci hw6 (W.heap.size) 1 ay (by go_simp)
    have cw6_1_0 := ci hw6 (W.heap.size + 1) 0 bx (by go_simp)
    have cw6_1_1 := ci hw6 (W.heap.size + 1) 1 by' (by go_simp)
    have cw6_2_0 := ci hw6 (W.heap.size + 1 + 1) 0 cx (by go_simp)
    have cw6_2_1 := ci hw6 (W.heap.size + 1 + 1) 1 cy (by go_simp)
    have cw6_3_0 := ci hw6 (W.heap.size + 1 + 1 + 1) 0 dx (by go_simp)
    have cw6_3_1 := ci hw6 (W.heap.size + 1 + 1 + 1) 1 dy (by go_simp)
    have gw6 : Gr W w6 := Gr.trans (by have gg := gw5; have gs := gg.size; go_grown) hw6
    clear hw6 gw5 cw5_0_0 cw5_0_1 cw5_1_0 cw5_1_1 cw5_2_0 cw5_2_1 cw5_3_0 cw5_3_1
    go_wp2_with fail
    go_at_call 106
    refine ((H7.out _)).mono ?_
    rintro e w7 ⟨rfl, hw7⟩
    have cw7_0_0 := ci hw7 (W.heap.size) 0 ax (by go_simp)
    have cw7_0_1 := ci hw7 (W.heap.size) 1 ay (by go_simp)
    have cw7_1_0 := ci hw7 (W.heap.size + 1) 0 bx (by go_simp)
    have cw7_1_1 := ci hw7 (W.heap.size + 1) 1 by' (by go_simp)
    have cw7_2_0 := ci hw7 (W.heap.size + 1 + 1) 0 cx (by go_simp)
    have cw7_2_1 := ci hw7 (W.heap.size + 1 + 1) 1 cy (by go_simp)
    have cw7_3_0 := ci hw7 (W.heap.size + 1 + 1 + 1) 0 dx (by go_simp)
    have cw7_3_1 := ci hw7 (W.heap.size + 1 + 1 + 1) 1 dy (by go_simp)
    have gw7 : Gr W w7 := Gr.trans (by have gg := gw6; have gs := gg.size; go_grown) hw7
    clear hw7 gw6 cw6_0_0 cw6_0_1 cw6_1_0 cw6_1_1 cw6_2_0 cw6_2_1 cw6_3_0 cw6_3_1
    go_wp2_with fail
    go_at_call 106
    refine ((H8.out _)).mono ?_
    rintro e w8 ⟨rfl, hw8⟩
    have cw8_1_0 := ci hw8 (W.heap.size + 1) 0 bx (by go_simp)
    have cw8_1_1 := ci hw8 (W.heap.size + 1) 1 by' (by go_simp)
    have cw8_2_0 := ci hw8 (W.heap.size + 1 + 1) 0 cx (by go_simp)
    have cw8_2_1 := ci hw8 (W.heap.size + 1 + 1) 1 cy (by go_simp)
    have cw8_3_0 := ci hw8 (W.heap.size + 1 + 1 + 1) 0 dx (by go_simp)
    have cw8_3_1 := ci hw8 (W.heap.size + 1 + 1 + 1) 1 dy (by go_simp)
    have gw8 : Gr W w8 := Gr.trans (by have gg := gw7; have gs := gg.size; go_grown) hw8
    clear hw8 gw7 cw7_0_0 cw7_0_1 cw7_1_0 cw7_1_1 cw7_2_0 cw7_2_1 cw7_3_0 cw7_3_1
    go_wp2_with fail
    go_at_call 106
    refine ((H9.out _)).mono ?_
    rintro e w9 ⟨rfl, hw9⟩
    have gw9 : Gr W w9 := Gr.trans (by have gg := gw8; have gs := gg.size; go_grown) hw9
    clear hw9 gw8 cw8_1_0 cw8_1_1 cw8_2_0 cw8_2_1 cw8_3_0 cw8_3_1
    go_wp2_with fail
    go_ret
    exact ⟨rfl, by go_grown⟩
theorem c_rMeet (ax ay bx by' cx cy dx dy : Int) (W : World) : Calls Tryz.prog 70 #[.agg #[.int .i64 ax, .int .i64 ay], .agg #[.int .i64 bx, .int .i64 by'], .agg #[.int .i64 cx, .int .i64 cy], .agg #[.int .i64 dx, .int .i64 dy]] W fun e w' => e = .returned (.bool (meG ax ay bx by' cx cy dx dy)) ∧ Gr W w' := by
  refine rmeet_core ax ay bx by' cx cy dx dy _ _ _ _ _ _ _ _ _ _ W ?_ (c_rPoint ax ay) (c_rPoint bx by') (c_rPoint cx cy) (c_rPoint dx dy) (c_rProper ax ay bx by' cx cy dx dy) (c_rOn ax ay bx by' cx cy) (c_rOn ax ay bx by' dx dy) (c_rOn cx cy dx dy ax ay) (c_rOn cx cy dx dy bx by')
  unfold meG prG onG all4 meF enF
  cases n1 : nearB ax ay
  · exact Or.inl ⟨rfl, rfl⟩
  · cases n2 : nearB bx by'
    · exact Or.inr (Or.inl ⟨rfl, rfl, rfl⟩)
    · cases n3 : nearB cx cy
      · exact Or.inr (Or.inr (Or.inl ⟨rfl, rfl, rfl, rfl⟩))
      · cases n4 : nearB dx dy
        · exact Or.inr (Or.inr (Or.inr (Or.inl ⟨rfl, rfl, rfl, rfl, rfl⟩)))
        · refine Or.inr (Or.inr (Or.inr (Or.inr ⟨rfl, rfl, rfl, rfl, ?_⟩)))
          simp only [Bool.and_self, Bool.true_and]
          cases prF ax ay bx by' cx cy dx dy <;> cases onF ax ay bx by' cx cy <;> cases onF ax ay bx by' dx dy <;> cases onF cx cy dx dy ax ay <;> simp
end Go.Proofs.YtfobmlgpjhghdaaGreatDoor
namespace Go.Proofs.YtfobmlgpjhghdaaGreatDoor
set_option linter.unusedVariables false
open Go.ChangeShapes Go.WideShapes Go.ChangeAt Go.RowKit
theorem min_le (a b : Int) : minZ a b ≤ a ∧ minZ a b ≤ b ∧ (minZ a b = a ∨ minZ a b = b) := by unfold minZ; split <;> omega
theorem max_ge (a b : Int) : a ≤ maxZ a b ∧ b ≤ maxZ a b ∧ (maxZ a b = a ∨ maxZ a b = b) := by unfold maxZ; split <;> omega
theorem box_join {l1 l2 l3 l4 m1 m2 m3 m4 : Int} (h1 : boxB l1 l2 l3 l4 = true) (h2 : boxB m1 m2 m3 m4 = true) : boxB (minZ l1 m1) (minZ l2 m2) (maxZ l3 m3) (maxZ l4 m4) = true := by
  rw [boxB_iff, nearB_iff, nearB_iff] at *
  have a1 := min_le l1 m1
  have a2 := min_le l2 m2
  have a3 := max_ge l3 m3
  have a4 := max_ge l4 m4
  omega
end Go.Proofs.YtfobmlgpjhghdaaGreatDoor
namespace Go.Proofs.YtfobmlgpjhghdaaGreatDoor
set_option linter.unusedVariables false
open Go.ChangeShapes Go.WideShapes Go.ChangeAt Go.RowKit
theorem val_join (n : Nat) : val (n / 18446744073709551616) (n % 18446744073709551616) = n := by unfold val; omega
theorem field_lo (h l : Int) (w : World) : (Instr.field 79 (.agg #[.int .u64 h, .int .u64 l]) 1).run Tryz.prog w = .ok (.int .u64 l) w := by kernel_rfl
theorem c_dot (ax ay bx by' px py : Int) (h1 : nearB ax ay = true) (h2 : nearB bx by' = true) (h3 : nearB px py = true) (W : World) :
    Calls Tryz.prog 82 #[.agg #[.int .i64 ax, .int .i64 ay], .agg #[.int .i64 bx, .int .i64 by'], .agg #[.int .i64 px, .int .i64 py]] W fun e w' => e = .returned (.int .i64 (alZ ax ay bx by' px py)) ∧ Gr W w' := by
  have n1 := nearB_iff.1 h1
  have n2 := nearB_iff.1 h2
  have n3 := nearB_iff.1 h3
  have m1 := mul_near (x := bx - ax) (y := px - ax) (by omega) (by omega)
  have m2 := mul_near (x := by' - ay) (y := py - ay) (by omega) (by omega)
  unfold alZ
  obtain ⟨p1, hp1⟩ : ∃ p, p = (bx - ax) * (px - ax) := ⟨_, rfl⟩
  obtain ⟨p2, hp2⟩ : ∃ p, p = (by' - ay) * (py - ay) := ⟨_, rfl⟩
  rw [← hp1] at m1
  rw [← hp2] at m2
  have e1 : wrap64 (bx - ax) = bx - ax := IntWalk.wrap64_in _ (by omega)
  have e2 : wrap64 (px - ax) = px - ax := IntWalk.wrap64_in _ (by omega)
  have e3 : wrap64 (by' - ay) = by' - ay := IntWalk.wrap64_in _ (by omega)
  have e4 : wrap64 (py - ay) = py - ay := IntWalk.wrap64_in _ (by omega)
  have e5 : wrap64 ((bx - ax) * (px - ax)) = p1 := by rw [← hp1]; exact IntWalk.wrap64_in _ (by omega)
  have e6 : wrap64 ((by' - ay) * (py - ay)) = p2 := by rw [← hp2]; exact IntWalk.wrap64_in _ (by omega)
  have e7 : wrap64 (p1 + p2) = p1 + p2 := IntWalk.wrap64_in _ (by omega)
  have f1 : IntKind.i64.wrap (bx - ax) = bx - ax := IntWalk.i64_in _ (by omega)
  have f2 : IntKind.i64.wrap (px - ax) = px - ax := IntWalk.i64_in _ (by omega)
  have f3 : IntKind.i64.wrap (by' - ay) = by' - ay := IntWalk.i64_in _ (by omega)
  have f4 : IntKind.i64.wrap (py - ay) = py - ay := IntWalk.i64_in _ (by omega)
  have f5 : IntKind.i64.wrap ((bx - ax) * (px - ax)) = p1 := by rw [← hp1]; exact IntWalk.i64_in _ (by omega)
  have f6 : IntKind.i64.wrap ((by' - ay) * (py - ay)) = p2 := by rw [← hp2]; exact IntWalk.i64_in _ (by omega)
  have f7 : IntKind.i64.wrap (p1 + p2) = p1 + p2 := IntWalk.i64_in _ (by omega)
  rw [← hp1, ← hp2]
  clear n1 n2 n3 h1 h2 h3 m1 m2 hp1 hp2
  go_enter Tryz.func82, Tryz.ntmps82
  go_wp2_with fail
  go_ret
  exact ⟨rfl, by go_grown⟩
set_option maxHeartbeats 4000000 in
set_option maxRecDepth 100000 in
theorem rsd_no (ax ay bx by' px py : Int) (q1 q2 q3 : Bool) (W : World) (hc : q1 = false ∨ (q1 = true ∧ q2 = false) ∨ (q1 = true ∧ q2 = true ∧ q3 = false))
    (A1 : ∀ w, Calls Tryz.prog 24 #[.agg #[.int .i64 ax, .int .i64 ay]] w fun e w' => e = .returned (.bool q1) ∧ Gr w w')
    (A2 : ∀ w, Calls Tryz.prog 24 #[.agg #[.int .i64 bx, .int .i64 by']] w fun e w' => e = .returned (.bool q2) ∧ Gr w w')
    (A3 : ∀ w, Calls Tryz.prog 24 #[.agg #[.int .i64 px, .int .i64 py]] w fun e w' => e = .returned (.bool q3) ∧ Gr w w') :
    Calls Tryz.prog 48 #[.agg #[.int .i64 ax, .int .i64 ay], .agg #[.int .i64 bx, .int .i64 by'], .agg #[.int .i64 px, .int .i64 py]] W fun e w' => e = .returned (.agg #[.int .u64 0, .int .u64 0, .int .u64 0]) ∧ Gr W w' := by
  have H1 := Lib.hid A1
  have H2 := Lib.hid A2
  have H3 := Lib.hid A3
  clear A1 A2 A3
  rcases hc with rfl | ⟨rfl, rfl⟩ | ⟨rfl, rfl, rfl⟩
  · go_enter Tryz.func48, Tryz.ntmps48
    go_wp2_with fail
    go_at_call 24
    refine ((H1.out _)).mono ?_
    rintro e w1 ⟨rfl, hw1⟩
    have cw1_1_0 := ci hw1 (W.heap.size + 1) 0 bx (by go_simp)
    have cw1_1_1 := ci hw1 (W.heap.size + 1) 1 by' (by go_simp)
    have cw1_2_0 := ci hw1 (W.heap.size + 1 + 1) 0 px (by go_simp)
    have cw1_2_1 := ci hw1 (W.heap.size + 1 + 1) 1 py (by go_simp)
    have cw1_3_0 := cu hw1 (W.heap.size + 1 + 1 + 1) 0 0 (by go_simp)
    have fw1_3_0 := fq hw1 (W.heap.size + 1 + 1 + 1) 0 (.int .u64 0) (by go_simp) (by go_simp)
    have cw1_3_1 := cu hw1 (W.heap.size + 1 + 1 + 1) 1 0 (by go_simp)
    have fw1_3_1 := fq hw1 (W.heap.size + 1 + 1 + 1) 1 (.int .u64 0) (by go_simp) (by go_simp)
    have cw1_3_2 := cu hw1 (W.heap.size + 1 + 1 + 1) 2 0 (by go_simp)
    have fw1_3_2 := fq hw1 (W.heap.size + 1 + 1 + 1) 2 (.int .u64 0) (by go_simp) (by go_simp)
    have gw1 : Gr W w1 := Gr.trans (by go_grown) hw1
    clear hw1
    go_wp2_with fail
    refine bodyPost_ret (v := .agg #[.int .u64 0, .int .u64 0, .int .u64 0]) (by simp [results, Tryz.results48, go_sem, *]) rfl ⟨rfl, by go_grown⟩
  · go_enter Tryz.func48, Tryz.ntmps48
    go_wp2_with fail
    go_at_call 24
    refine ((H1.out _)).mono ?_
    rintro e w1 ⟨rfl, hw1⟩
    have cw1_1_0 := ci hw1 (W.heap.size + 1) 0 bx (by go_simp)
    have cw1_1_1 := ci hw1 (W.heap.size + 1) 1 by' (by go_simp)
    have cw1_2_0 := ci hw1 (W.heap.size + 1 + 1) 0 px (by go_simp)
    have cw1_2_1 := ci hw1 (W.heap.size + 1 + 1) 1 py (by go_simp)
    have cw1_3_0 := cu hw1 (W.heap.size + 1 + 1 + 1) 0 0 (by go_simp)
    have fw1_3_0 := fq hw1 (W.heap.size + 1 + 1 + 1) 0 (.int .u64 0) (by go_simp) (by go_simp)
    have cw1_3_1 := cu hw1 (W.heap.size + 1 + 1 + 1) 1 0 (by go_simp)
    have fw1_3_1 := fq hw1 (W.heap.size + 1 + 1 + 1) 1 (.int .u64 0) (by go_simp) (by go_simp)
    have cw1_3_2 := cu hw1 (W.heap.size + 1 + 1 + 1) 2 0 (by go_simp)
    have fw1_3_2 := fq hw1 (W.heap.size + 1 + 1 + 1) 2 (.int .u64 0) (by go_simp) (by go_simp)
    have gw1 : Gr W w1 := Gr.trans (by go_grown) hw1
    clear hw1
    go_wp2_with fail
    go_at_call 24
    refine ((H2.out _)).mono ?_
    rintro e w2 ⟨rfl, hw2⟩
    have cw2_2_0 := ci hw2 (W.heap.size + 1 + 1) 0 px (by go_simp)
    have cw2_2_1 := ci hw2 (W.heap.size + 1 + 1) 1 py (by go_simp)
    have cw2_3_0 := cu hw2 (W.heap.size + 1 + 1 + 1) 0 0 (by go_simp)
    have fw2_3_0 := fq hw2 (W.heap.size + 1 + 1 + 1) 0 (.int .u64 0) (by go_simp) (by go_simp)
    have cw2_3_1 := cu hw2 (W.heap.size + 1 + 1 + 1) 1 0 (by go_simp)
    have fw2_3_1 := fq hw2 (W.heap.size + 1 + 1 + 1) 1 (.int .u64 0) (by go_simp) (by go_simp)
    have cw2_3_2 := cu hw2 (W.heap.size + 1 + 1 + 1) 2 0 (by go_simp)
    have fw2_3_2 := fq hw2 (W.heap.size + 1 + 1 + 1) 2 (.int .u64 0) (by go_simp) (by go_simp)
    have gw2 : Gr W w2 := Gr.trans (by have gg := gw1; have gs := gg.size; go_grown) hw2
    clear hw2 gw1 cw1_1_0 cw1_1_1 cw1_2_0 cw1_2_1 cw1_3_0 fw1_3_0 cw1_3_1 fw1_3_1 cw1_3_2 fw1_3_2
    go_wp2_with fail
    refine bodyPost_ret (v := .agg #[.int .u64 0, .int .u64 0, .int .u64 0]) (by simp [results, Tryz.results48, go_sem, *]) rfl ⟨rfl, by go_grown⟩
  · go_enter Tryz.func48, Tryz.ntmps48
    go_wp2_with fail
    go_at_call 24
    refine ((H1.out _)).mono ?_
    rintro e w1 ⟨rfl, hw1⟩
    have cw1_1_0 := ci hw1 (W.heap.size + 1) 0 bx (by go_simp)
    have cw1_1_1 := ci hw1 (W.heap.size + 1) 1 by' (by go_simp)
    have cw1_2_0 := ci hw1 (W.heap.size + 1 + 1) 0 px (by go_simp)
    have cw1_2_1 := ci hw1 (W.heap.size + 1 + 1) 1 py (by go_simp)
    have cw1_3_0 := cu hw1 (W.heap.size + 1 + 1 + 1) 0 0 (by go_simp)
    have fw1_3_0 := fq hw1 (W.heap.size + 1 + 1 + 1) 0 (.int .u64 0) (by go_simp) (by go_simp)
    have cw1_3_1 := cu hw1 (W.heap.size + 1 + 1 + 1) 1 0 (by go_simp)
    have fw1_3_1 := fq hw1 (W.heap.size + 1 + 1 + 1) 1 (.int .u64 0) (by go_simp) (by go_simp)
    have cw1_3_2 := cu hw1 (W.heap.size + 1 + 1 + 1) 2 0 (by go_simp)
    have fw1_3_2 := fq hw1 (W.heap.size + 1 + 1 + 1) 2 (.int .u64 0) (by go_simp) (by go_simp)
    have gw1 : Gr W w1 := Gr.trans (by go_grown) hw1
    clear hw1
    go_wp2_with fail
    go_at_call 24
    refine ((H2.out _)).mono ?_
    rintro e w2 ⟨rfl, hw2⟩
    have cw2_2_0 := ci hw2 (W.heap.size + 1 + 1) 0 px (by go_simp)
    have cw2_2_1 := ci hw2 (W.heap.size + 1 + 1) 1 py (by go_simp)
    have cw2_3_0 := cu hw2 (W.heap.size + 1 + 1 + 1) 0 0 (by go_simp)
    have fw2_3_0 := fq hw2 (W.heap.size + 1 + 1 + 1) 0 (.int .u64 0) (by go_simp) (by go_simp)
    have cw2_3_1 := cu hw2 (W.heap.size + 1 + 1 + 1) 1 0 (by go_simp)
    have fw2_3_1 := fq hw2 (W.heap.size + 1 + 1 + 1) 1 (.int .u64 0) (by go_simp) (by go_simp)
    have cw2_3_2 := cu hw2 (W.heap.size + 1 + 1 + 1) 2 0 (by go_simp)
    have fw2_3_2 := fq hw2 (W.heap.size + 1 + 1 + 1) 2 (.int .u64 0) (by go_simp) (by go_simp)
    have gw2 : Gr W w2 := Gr.trans (by have gg := gw1; have gs := gg.size; go_grown) hw2
    clear hw2 gw1 cw1_1_0 cw1_1_1 cw1_2_0 cw1_2_1 cw1_3_0 fw1_3_0 cw1_3_1 fw1_3_1 cw1_3_2 fw1_3_2
    go_wp2_with fail
    go_at_call 24
    refine ((H3.out _)).mono ?_
    rintro e w3 ⟨rfl, hw3⟩
    have cw3_3_0 := cu hw3 (W.heap.size + 1 + 1 + 1) 0 0 (by go_simp)
    have fw3_3_0 := fq hw3 (W.heap.size + 1 + 1 + 1) 0 (.int .u64 0) (by go_simp) (by go_simp)
    have cw3_3_1 := cu hw3 (W.heap.size + 1 + 1 + 1) 1 0 (by go_simp)
    have fw3_3_1 := fq hw3 (W.heap.size + 1 + 1 + 1) 1 (.int .u64 0) (by go_simp) (by go_simp)
    have cw3_3_2 := cu hw3 (W.heap.size + 1 + 1 + 1) 2 0 (by go_simp)
    have fw3_3_2 := fq hw3 (W.heap.size + 1 + 1 + 1) 2 (.int .u64 0) (by go_simp) (by go_simp)
    have gw3 : Gr W w3 := Gr.trans (by have gg := gw2; have gs := gg.size; go_grown) hw3
    clear hw3 gw2 cw2_2_0 cw2_2_1 cw2_3_0 fw2_3_0 cw2_3_1 fw2_3_1 cw2_3_2 fw2_3_2
    go_wp2_with fail
    refine bodyPost_ret (v := .agg #[.int .u64 0, .int .u64 0, .int .u64 0]) (by simp [results, Tryz.results48, go_sem, *]) rfl ⟨rfl, by go_grown⟩
set_option maxHeartbeats 4000000 in
set_option maxRecDepth 100000 in
theorem rsd_yes (ax ay bx by' px py d1 d2 s1 s2 c h l wh qh ql qd r1 r2 r3 x y : Int) (eb : Bool) (W : World)
    (E : ∀ w, (binOp .eql 26 (.agg #[.int .i64 ax, .int .i64 ay]) (.agg #[.int .i64 bx, .int .i64 by'])).run Tryz.prog w = .ok (.bool eb) w)
    (x1 : wrap64 (ax - bx) = x) (x2 : IntKind.i64.wrap (ax - bx) = x) (y1 : wrap64 (ay - by') = y) (y2 : IntKind.i64.wrap (ay - by') = y)
    (A1 : ∀ w, Calls Tryz.prog 24 #[.agg #[.int .i64 ax, .int .i64 ay]] w fun e w' => e = .returned (.bool true) ∧ Gr w w')
    (A2 : ∀ w, Calls Tryz.prog 24 #[.agg #[.int .i64 bx, .int .i64 by']] w fun e w' => e = .returned (.bool true) ∧ Gr w w')
    (A3 : ∀ w, Calls Tryz.prog 24 #[.agg #[.int .i64 px, .int .i64 py]] w fun e w' => e = .returned (.bool true) ∧ Gr w w')
    (A4 : ∀ w, Calls Tryz.prog 82 #[.agg #[.int .i64 ax, .int .i64 ay], .agg #[.int .i64 bx, .int .i64 by'], .agg #[.int .i64 px, .int .i64 py]] w fun e w' => e = .returned (.int .i64 d1) ∧ Gr w w')
    (A5 : ∀ w, Calls Tryz.prog 82 #[.agg #[.int .i64 bx, .int .i64 by'], .agg #[.int .i64 ax, .int .i64 ay], .agg #[.int .i64 px, .int .i64 py]] w fun e w' => e = .returned (.int .i64 d2) ∧ Gr w w')
    (A6 : ∀ w, Calls Tryz.prog 83 #[.agg #[.int .i64 ax, .int .i64 ay], .agg #[.int .i64 px, .int .i64 py]] w fun e w' => e = .returned (.agg #[.int .u64 0, .int .u64 s1, .int .u64 1]) ∧ Gr w w')
    (A7 : ∀ w, Calls Tryz.prog 83 #[.agg #[.int .i64 bx, .int .i64 by'], .agg #[.int .i64 px, .int .i64 py]] w fun e w' => e = .returned (.agg #[.int .u64 0, .int .u64 s2, .int .u64 1]) ∧ Gr w w')
    (A8 : ∀ w, Calls Tryz.prog 81 #[.agg #[.int .i64 ax, .int .i64 ay], .agg #[.int .i64 bx, .int .i64 by'], .agg #[.int .i64 px, .int .i64 py]] w fun e w' => e = .returned (.int .i64 c) ∧ Gr w w')
    (A9 : ∀ w, Calls Tryz.prog 84 #[.int .i64 c] w fun e w' => e = .returned (.agg #[.int .u64 h, .int .u64 l]) ∧ Gr w w')
    (A0 : ∀ w, Calls Tryz.prog 58 #[.int .i64 x, .int .i64 y] w fun e w' => e = .returned (.agg #[.int .u64 0, .int .u64 wh]) ∧ Gr w w')
    (hc : (eb = true ∧ r1 = 0 ∧ r2 = s1 ∧ r3 = 1) ∨ (eb = false ∧ d1 ≤ 0 ∧ r1 = 0 ∧ r2 = s1 ∧ r3 = 1) ∨ (eb = false ∧ ¬ d1 ≤ 0 ∧ d2 ≤ 0 ∧ r1 = 0 ∧ r2 = s2 ∧ r3 = 1) ∨ (eb = false ∧ ¬ d1 ≤ 0 ∧ ¬ d2 ≤ 0 ∧ r1 = qh ∧ r2 = ql ∧ r3 = qd ∧ ∀ w, Calls Tryz.prog 57 #[.agg #[.int .u64 h, .int .u64 l], .int .u64 wh] w fun e w' => e = .returned (.agg #[.int .u64 qh, .int .u64 ql, .int .u64 qd]) ∧ Gr w w')) :
    Calls Tryz.prog 48 #[.agg #[.int .i64 ax, .int .i64 ay], .agg #[.int .i64 bx, .int .i64 by'], .agg #[.int .i64 px, .int .i64 py]] W fun e w' => e = .returned (.agg #[.int .u64 r1, .int .u64 r2, .int .u64 r3]) ∧ Gr W w' := by
  have H1 := Lib.hid A1
  have H2 := Lib.hid A2
  have H3 := Lib.hid A3
  have H4 := Lib.hid A4
  have H5 := Lib.hid A5
  have H6 := Lib.hid A6
  have H7 := Lib.hid A7
  have H8 := Lib.hid A8
  have H9 := Lib.hid A9
  have H0 := Lib.hid A0
  clear A1 A2 A3 A4 A5 A6 A7 A8 A9 A0
  rcases hc with ⟨rfl, rfl, rfl, rfl⟩ | ⟨rfl, c1, rfl, rfl, rfl⟩ | ⟨rfl, c1, c2, rfl, rfl, rfl⟩ | ⟨rfl, c1, c2, rfl, rfl, rfl, AL⟩
  · go_enter Tryz.func48, Tryz.ntmps48
    go_wp2_with fail
    go_at_call 24
    refine ((H1.out _)).mono ?_
    rintro e w1 ⟨rfl, hw1⟩
    have cw1_0_0 := ci hw1 (W.heap.size) 0 ax (by go_simp)
    have cw1_0_1 := ci hw1 (W.heap.size) 1 ay (by go_simp)
    have cw1_1_0 := ci hw1 (W.heap.size + 1) 0 bx (by go_simp)
    have cw1_1_1 := ci hw1 (W.heap.size + 1) 1 by' (by go_simp)
    have cw1_2_0 := ci hw1 (W.heap.size + 1 + 1) 0 px (by go_simp)
    have cw1_2_1 := ci hw1 (W.heap.size + 1 + 1) 1 py (by go_simp)
    have cw1_3_0 := cu hw1 (W.heap.size + 1 + 1 + 1) 0 0 (by go_simp)
    have fw1_3_0 := fq hw1 (W.heap.size + 1 + 1 + 1) 0 (.int .u64 0) (by go_simp) (by go_simp)
    have cw1_3_1 := cu hw1 (W.heap.size + 1 + 1 + 1) 1 0 (by go_simp)
    have fw1_3_1 := fq hw1 (W.heap.size + 1 + 1 + 1) 1 (.int .u64 0) (by go_simp) (by go_simp)
    have cw1_3_2 := cu hw1 (W.heap.size + 1 + 1 + 1) 2 0 (by go_simp)
    have fw1_3_2 := fq hw1 (W.heap.size + 1 + 1 + 1) 2 (.int .u64 0) (by go_simp) (by go_simp)
    have gw1 : Gr W w1 := Gr.trans (by go_grown) hw1
    clear hw1
    go_wp2_with fail
    go_at_call 24
    refine ((H2.out _)).mono ?_
    rintro e w2 ⟨rfl, hw2⟩
    have cw2_0_0 := ci hw2 (W.heap.size) 0 ax (by go_simp)
    have cw2_0_1 := ci hw2 (W.heap.size) 1 ay (by go_simp)
    have cw2_1_0 := ci hw2 (W.heap.size + 1) 0 bx (by go_simp)
    have cw2_1_1 := ci hw2 (W.heap.size + 1) 1 by' (by go_simp)
    have cw2_2_0 := ci hw2 (W.heap.size + 1 + 1) 0 px (by go_simp)
    have cw2_2_1 := ci hw2 (W.heap.size + 1 + 1) 1 py (by go_simp)
    have cw2_3_0 := cu hw2 (W.heap.size + 1 + 1 + 1) 0 0 (by go_simp)
    have fw2_3_0 := fq hw2 (W.heap.size + 1 + 1 + 1) 0 (.int .u64 0) (by go_simp) (by go_simp)
    have cw2_3_1 := cu hw2 (W.heap.size + 1 + 1 + 1) 1 0 (by go_simp)
    have fw2_3_1 := fq hw2 (W.heap.size + 1 + 1 + 1) 1 (.int .u64 0) (by go_simp) (by go_simp)
    have cw2_3_2 := cu hw2 (W.heap.size + 1 + 1 + 1) 2 0 (by go_simp)
    have fw2_3_2 := fq hw2 (W.heap.size + 1 + 1 + 1) 2 (.int .u64 0) (by go_simp) (by go_simp)
    have gw2 : Gr W w2 := Gr.trans (by have gg := gw1; have gs := gg.size; go_grown) hw2
    clear hw2 gw1 cw1_0_0 cw1_0_1 cw1_1_0 cw1_1_1 cw1_2_0 cw1_2_1 cw1_3_0 fw1_3_0 cw1_3_1 fw1_3_1 cw1_3_2 fw1_3_2
    go_wp2_with fail
    go_at_call 24
    refine ((H3.out _)).mono ?_
    rintro e w3 ⟨rfl, hw3⟩
    have cw3_0_0 := ci hw3 (W.heap.size) 0 ax (by go_simp)
    have cw3_0_1 := ci hw3 (W.heap.size) 1 ay (by go_simp)
    have cw3_1_0 := ci hw3 (W.heap.size + 1) 0 bx (by go_simp)
    have cw3_1_1 := ci hw3 (W.heap.size + 1) 1 by' (by go_simp)
    have cw3_2_0 := ci hw3 (W.heap.size + 1 + 1) 0 px (by go_simp)
    have cw3_2_1 := ci hw3 (W.heap.size + 1 + 1) 1 py (by go_simp)
    have cw3_3_0 := cu hw3 (W.heap.size + 1 + 1 + 1) 0 0 (by go_simp)
    have fw3_3_0 := fq hw3 (W.heap.size + 1 + 1 + 1) 0 (.int .u64 0) (by go_simp) (by go_simp)
    have cw3_3_1 := cu hw3 (W.heap.size + 1 + 1 + 1) 1 0 (by go_simp)
    have fw3_3_1 := fq hw3 (W.heap.size + 1 + 1 + 1) 1 (.int .u64 0) (by go_simp) (by go_simp)
    have cw3_3_2 := cu hw3 (W.heap.size + 1 + 1 + 1) 2 0 (by go_simp)
    have fw3_3_2 := fq hw3 (W.heap.size + 1 + 1 + 1) 2 (.int .u64 0) (by go_simp) (by go_simp)
    have gw3 : Gr W w3 := Gr.trans (by have gg := gw2; have gs := gg.size; go_grown) hw3
    clear hw3 gw2 cw2_0_0 cw2_0_1 cw2_1_0 cw2_1_1 cw2_2_0 cw2_2_1 cw2_3_0 fw2_3_0 cw2_3_1 fw2_3_1 cw2_3_2 fw2_3_2
    go_wp2_with fail
    go_at_call 83
    refine ((H6.out _)).mono ?_
    rintro e w4 ⟨rfl, hw4⟩
    have cw4_0_0 := ci hw4 (W.heap.size) 0 ax (by go_simp)
    have cw4_0_1 := ci hw4 (W.heap.size) 1 ay (by go_simp)
    have cw4_1_0 := ci hw4 (W.heap.size + 1) 0 bx (by go_simp)
    have cw4_1_1 := ci hw4 (W.heap.size + 1) 1 by' (by go_simp)
    have cw4_2_0 := ci hw4 (W.heap.size + 1 + 1) 0 px (by go_simp)
    have cw4_2_1 := ci hw4 (W.heap.size + 1 + 1) 1 py (by go_simp)
    have cw4_3_0 := cu hw4 (W.heap.size + 1 + 1 + 1) 0 0 (by go_simp)
    have fw4_3_0 := fq hw4 (W.heap.size + 1 + 1 + 1) 0 (.int .u64 0) (by go_simp) (by go_simp)
    have cw4_3_1 := cu hw4 (W.heap.size + 1 + 1 + 1) 1 0 (by go_simp)
    have fw4_3_1 := fq hw4 (W.heap.size + 1 + 1 + 1) 1 (.int .u64 0) (by go_simp) (by go_simp)
    have cw4_3_2 := cu hw4 (W.heap.size + 1 + 1 + 1) 2 0 (by go_simp)
    have fw4_3_2 := fq hw4 (W.heap.size + 1 + 1 + 1) 2 (.int .u64 0) (by go_simp) (by go_simp)
    have gw4 : Gr W w4 := Gr.trans (by have gg := gw3; have gs := gg.size; go_grown) hw4
    clear hw4 gw3 cw3_0_0 cw3_0_1 cw3_1_0 cw3_1_1 cw3_2_0 cw3_2_1 cw3_3_0 fw3_3_0 cw3_3_1 fw3_3_1 cw3_3_2 fw3_3_2
    go_wp2_with fail
    refine bodyPost_ret (v := .agg #[.int .u64 0, .int .u64 r2, .int .u64 1]) (by simp [results, Tryz.results48, go_sem, *]) rfl ⟨rfl, by go_grown⟩
  · go_enter Tryz.func48, Tryz.ntmps48
    go_wp2_with fail
    go_at_call 24
    refine ((H1.out _)).mono ?_
    rintro e w1 ⟨rfl, hw1⟩
    have cw1_0_0 := ci hw1 (W.heap.size) 0 ax (by go_simp)
    have cw1_0_1 := ci hw1 (W.heap.size) 1 ay (by go_simp)
    have cw1_1_0 := ci hw1 (W.heap.size + 1) 0 bx (by go_simp)
    have cw1_1_1 := ci hw1 (W.heap.size + 1) 1 by' (by go_simp)
    have cw1_2_0 := ci hw1 (W.heap.size + 1 + 1) 0 px (by go_simp)
    have cw1_2_1 := ci hw1 (W.heap.size + 1 + 1) 1 py (by go_simp)
    have cw1_3_0 := cu hw1 (W.heap.size + 1 + 1 + 1) 0 0 (by go_simp)
    have fw1_3_0 := fq hw1 (W.heap.size + 1 + 1 + 1) 0 (.int .u64 0) (by go_simp) (by go_simp)
    have cw1_3_1 := cu hw1 (W.heap.size + 1 + 1 + 1) 1 0 (by go_simp)
    have fw1_3_1 := fq hw1 (W.heap.size + 1 + 1 + 1) 1 (.int .u64 0) (by go_simp) (by go_simp)
    have cw1_3_2 := cu hw1 (W.heap.size + 1 + 1 + 1) 2 0 (by go_simp)
    have fw1_3_2 := fq hw1 (W.heap.size + 1 + 1 + 1) 2 (.int .u64 0) (by go_simp) (by go_simp)
    have gw1 : Gr W w1 := Gr.trans (by go_grown) hw1
    clear hw1
    go_wp2_with fail
    go_at_call 24
    refine ((H2.out _)).mono ?_
    rintro e w2 ⟨rfl, hw2⟩
    have cw2_0_0 := ci hw2 (W.heap.size) 0 ax (by go_simp)
    have cw2_0_1 := ci hw2 (W.heap.size) 1 ay (by go_simp)
    have cw2_1_0 := ci hw2 (W.heap.size + 1) 0 bx (by go_simp)
    have cw2_1_1 := ci hw2 (W.heap.size + 1) 1 by' (by go_simp)
    have cw2_2_0 := ci hw2 (W.heap.size + 1 + 1) 0 px (by go_simp)
    have cw2_2_1 := ci hw2 (W.heap.size + 1 + 1) 1 py (by go_simp)
    have cw2_3_0 := cu hw2 (W.heap.size + 1 + 1 + 1) 0 0 (by go_simp)
    have fw2_3_0 := fq hw2 (W.heap.size + 1 + 1 + 1) 0 (.int .u64 0) (by go_simp) (by go_simp)
    have cw2_3_1 := cu hw2 (W.heap.size + 1 + 1 + 1) 1 0 (by go_simp)
    have fw2_3_1 := fq hw2 (W.heap.size + 1 + 1 + 1) 1 (.int .u64 0) (by go_simp) (by go_simp)
    have cw2_3_2 := cu hw2 (W.heap.size + 1 + 1 + 1) 2 0 (by go_simp)
    have fw2_3_2 := fq hw2 (W.heap.size + 1 + 1 + 1) 2 (.int .u64 0) (by go_simp) (by go_simp)
    have gw2 : Gr W w2 := Gr.trans (by have gg := gw1; have gs := gg.size; go_grown) hw2
    clear hw2 gw1 cw1_0_0 cw1_0_1 cw1_1_0 cw1_1_1 cw1_2_0 cw1_2_1 cw1_3_0 fw1_3_0 cw1_3_1 fw1_3_1 cw1_3_2 fw1_3_2
    go_wp2_with fail
    go_at_call 24
    refine ((H3.out _)).mono ?_
    rintro e w3 ⟨rfl, hw3⟩
    have cw3_0_0 := ci hw3 (W.heap.size) 0 ax (by go_simp)
    have cw3_0_1 := ci hw3 (W.heap.size) 1 ay (by go_simp)
    have cw3_1_0 := ci hw3 (W.heap.size + 1) 0 bx (by go_simp)
    have cw3_1_1 := ci hw3 (W.heap.size + 1) 1 by' (by go_simp)
    have cw3_2_0 := ci hw3 (W.heap.size + 1 + 1) 0 px (by go_simp)
    have cw3_2_1 := ci hw3 (W.heap.size + 1 + 1) 1 py (by go_simp)
    have cw3_3_0 := cu hw3 (W.heap.size + 1 + 1 + 1) 0 0 (by go_simp)
    have fw3_3_0 := fq hw3 (W.heap.size + 1 + 1 + 1) 0 (.int .u64 0) (by go_simp) (by go_simp)
    have cw3_3_1 := cu hw3 (W.heap.size + 1 + 1 + 1) 1 0 (by go_simp)
    have fw3_3_1 := fq hw3 (W.heap.size + 1 + 1 + 1) 1 (.int .u64 0) (by go_simp) (by go_simp)
    have cw3_3_2 := cu hw3 (W.heap.size + 1 + 1 + 1) 2 0 (by go_simp)
    have fw3_3_2 := fq hw3 (W.heap.size + 1 + 1 + 1) 2 (.int .u64 0) (by go_simp) (by go_simp)
    have gw3 : Gr W w3 := Gr.trans (by have gg := gw2; have gs := gg.size; go_grown) hw3
    clear hw3 gw2 cw2_0_0 cw2_0_1 cw2_1_0 cw2_1_1 cw2_2_0 cw2_2_1 cw2_3_0 fw2_3_0 cw2_3_1 fw2_3_1 cw2_3_2 fw2_3_2
    go_wp2_with fail
    go_at_call 82
    refine ((H4.out _)).mono ?_
    rintro e w4 ⟨rfl, hw4⟩
    have cw4_0_0 := ci hw4 (W.heap.size) 0 ax (by go_simp)
    have cw4_0_1 := ci hw4 (W.heap.size) 1 ay (by go_simp)
    have cw4_1_0 := ci hw4 (W.heap.size + 1) 0 bx (by go_simp)
    have cw4_1_1 := ci hw4 (W.heap.size + 1) 1 by' (by go_simp)
    have cw4_2_0 := ci hw4 (W.heap.size + 1 + 1) 0 px (by go_simp)
    have cw4_2_1 := ci hw4 (W.heap.size + 1 + 1) 1 py (by go_simp)
    have cw4_3_0 := cu hw4 (W.heap.size + 1 + 1 + 1) 0 0 (by go_simp)
    have fw4_3_0 := fq hw4 (W.heap.size + 1 + 1 + 1) 0 (.int .u64 0) (by go_simp) (by go_simp)
    have cw4_3_1 := cu hw4 (W.heap.size + 1 + 1 + 1) 1 0 (by go_simp)
    have fw4_3_1 := fq hw4 (W.heap.size + 1 + 1 + 1) 1 (.int .u64 0) (by go_simp) (by go_simp)
    have cw4_3_2 := cu hw4 (W.heap.size + 1 + 1 + 1) 2 0 (by go_simp)
    have fw4_3_2 := fq hw4 (W.heap.size + 1 + 1 + 1) 2 (.int .u64 0) (by go_simp) (by go_simp)
    have gw4 : Gr W w4 := Gr.trans (by have gg := gw3; have gs := gg.size; go_grown) hw4
    clear hw4 gw3 cw3_0_0 cw3_0_1 cw3_1_0 cw3_1_1 cw3_2_0 cw3_2_1 cw3_3_0 fw3_3_0 cw3_3_1 fw3_3_1 cw3_3_2 fw3_3_2
    go_wp2_with fail
    go_at_call 83
    refine ((H6.out _)).mono ?_
    rintro e w5 ⟨rfl, hw5⟩
    have cw5_0_0 := ci hw5 (W.heap.size) 0 ax (by go_simp)
    have cw5_0_1 := ci hw5 (W.heap.size) 1 ay (by go_simp)
    have cw5_1_0 := ci hw5 (W.heap.size + 1) 0 bx (by go_simp)
    have cw5_1_1 := ci hw5 (W.heap.size + 1) 1 by' (by go_simp)
    have cw5_2_0 := ci hw5 (W.heap.size + 1 + 1) 0 px (by go_simp)
    have cw5_2_1 := ci hw5 (W.heap.size + 1 + 1) 1 py (by go_simp)
    have cw5_3_0 := cu hw5 (W.heap.size + 1 + 1 + 1) 0 0 (by go_simp)
    have fw5_3_0 := fq hw5 (W.heap.size + 1 + 1 + 1) 0 (.int .u64 0) (by go_simp) (by go_simp)
    have cw5_3_1 := cu hw5 (W.heap.size + 1 + 1 + 1) 1 0 (by go_simp)
    have fw5_3_1 := fq hw5 (W.heap.size + 1 + 1 + 1) 1 (.int .u64 0) (by go_simp) (by go_simp)
    have cw5_3_2 := cu hw5 (W.heap.size + 1 + 1 + 1) 2 0 (by go_simp)
    have fw5_3_2 := fq hw5 (W.heap.size + 1 + 1 + 1) 2 (.int .u64 0) (by go_simp) (by go_simp)
    have gw5 : Gr W w5 := Gr.trans (by have gg := gw4; have gs := gg.size; go_grown) hw5
    clear hw5 gw4 cw4_0_0 cw4_0_1 cw4_1_0 cw4_1_1 cw4_2_0 cw4_2_1 cw4_3_0 fw4_3_0 cw4_3_1 fw4_3_1 cw4_3_2 fw4_3_2
    go_wp2_with fail
    refine bodyPost_ret (v := .agg #[.int .u64 0, .int .u64 r2, .int .u64 1]) (by simp [results, Tryz.results48, go_sem, *]) rfl ⟨rfl, by go_grown⟩
  · go_enter Tryz.func48, Tryz.ntmps48
    go_wp2_with fail
    go_at_call 24
    refine ((H1.out _)).mono ?_
    rintro e w1 ⟨rfl, hw1⟩
    have cw1_0_0 := ci hw1 (W.heap.size) 0 ax (by go_simp)
    have cw1_0_1 := ci hw1 (W.heap.size) 1 ay (by go_simp)
    have cw1_1_0 := ci hw1 (W.heap.size + 1) 0 bx (by go_simp)
    have cw1_1_1 := ci hw1 (W.heap.size + 1) 1 by' (by go_simp)
    have cw1_2_0 := ci hw1 (W.heap.size + 1 + 1) 0 px (by go_simp)
    have cw1_2_1 := ci hw1 (W.heap.size + 1 + 1) 1 py (by go_simp)
    have cw1_3_0 := cu hw1 (W.heap.size + 1 + 1 + 1) 0 0 (by go_simp)
    have fw1_3_0 := fq hw1 (W.heap.size + 1 + 1 + 1) 0 (.int .u64 0) (by go_simp) (by go_simp)
    have cw1_3_1 := cu hw1 (W.heap.size + 1 + 1 + 1) 1 0 (by go_simp)
    have fw1_3_1 := fq hw1 (W.heap.size + 1 + 1 + 1) 1 (.int .u64 0) (by go_simp) (by go_simp)
    have cw1_3_2 := cu hw1 (W.heap.size + 1 + 1 + 1) 2 0 (by go_simp)
    have fw1_3_2 := fq hw1 (W.heap.size + 1 + 1 + 1) 2 (.int .u64 0) (by go_simp) (by go_simp)
    have gw1 : Gr W w1 := Gr.trans (by go_grown) hw1
    clear hw1
    go_wp2_with fail
    go_at_call 24
    refine ((H2.out _)).mono ?_
    rintro e w2 ⟨rfl, hw2⟩
    have cw2_0_0 := ci hw2 (W.heap.size) 0 ax (by go_simp)
    have cw2_0_1 := ci hw2 (W.heap.size) 1 ay (by go_simp)
    have cw2_1_0 := ci hw2 (W.heap.size + 1) 0 bx (by go_simp)
    have cw2_1_1 := ci hw2 (W.heap.size + 1) 1 by' (by go_simp)
    have cw2_2_0 := ci hw2 (W.heap.size + 1 + 1) 0 px (by go_simp)
    have cw2_2_1 := ci hw2 (W.heap.size + 1 + 1) 1 py (by go_simp)
    have cw2_3_0 := cu hw2 (W.heap.size + 1 + 1 + 1) 0 0 (by go_simp)
    have fw2_3_0 := fq hw2 (W.heap.size + 1 + 1 + 1) 0 (.int .u64 0) (by go_simp) (by go_simp)
    have cw2_3_1 := cu hw2 (W.heap.size + 1 + 1 + 1) 1 0 (by go_simp)
    have fw2_3_1 := fq hw2 (W.heap.size + 1 + 1 + 1) 1 (.int .u64 0) (by go_simp) (by go_simp)
    have cw2_3_2 := cu hw2 (W.heap.size + 1 + 1 + 1) 2 0 (by go_simp)
    have fw2_3_2 := fq hw2 (W.heap.size + 1 + 1 + 1) 2 (.int .u64 0) (by go_simp) (by go_simp)
    have gw2 : Gr W w2 := Gr.trans (by have gg := gw1; have gs := gg.size; go_grown) hw2
    clear hw2 gw1 cw1_0_0 cw1_0_1 cw1_1_0 cw1_1_1 cw1_2_0 cw1_2_1 cw1_3_0 fw1_3_0 cw1_3_1 fw1_3_1 cw1_3_2 fw1_3_2
    go_wp2_with fail
    go_at_call 24
    refine ((H3.out _)).mono ?_
    rintro e w3 ⟨rfl, hw3⟩
    have cw3_0_0 := ci hw3 (W.heap.size) 0 ax (by go_simp)
    have cw3_0_1 := ci hw3 (W.heap.size) 1 ay (by go_simp)
    have cw3_1_0 := ci hw3 (W.heap.size + 1) 0 bx (by go_simp)
    have cw3_1_1 := ci hw3 (W.heap.size + 1) 1 by' (by go_simp)
    have cw3_2_0 := ci hw3 (W.heap.size + 1 + 1) 0 px (by go_simp)
    have cw3_2_1 := ci hw3 (W.heap.size + 1 + 1) 1 py (by go_simp)
    have cw3_3_0 := cu hw3 (W.heap.size + 1 + 1 + 1) 0 0 (by go_simp)
    have fw3_3_0 := fq hw3 (W.heap.size + 1 + 1 + 1) 0 (.int .u64 0) (by go_simp) (by go_simp)
    have cw3_3_1 := cu hw3 (W.heap.size + 1 + 1 + 1) 1 0 (by go_simp)
    have fw3_3_1 := fq hw3 (W.heap.size + 1 + 1 + 1) 1 (.int .u64 0) (by go_simp) (by go_simp)
    have cw3_3_2 := cu hw3 (W.heap.size + 1 + 1 + 1) 2 0 (by go_simp)
    have fw3_3_2 := fq hw3 (W.heap.size + 1 + 1 + 1) 2 (.int .u64 0) (by go_simp) (by go_simp)
    have gw3 : Gr W w3 := Gr.trans (by have gg := gw2; have gs := gg.size; go_grown) hw3
    clear hw3 gw2 cw2_0_0 cw2_0_1 cw2_1_0 cw2_1_1 cw2_2_0 cw2_2_1 cw2_3_0 fw2_3_0 cw2_3_1 fw2_3_1 cw2_3_2 fw2_3_2
    go_wp2_with fail
    go_at_call 82
    refine ((H4.out _)).mono ?_
    rintro e w4 ⟨rfl, hw4⟩
    have cw4_0_0 := ci hw4 (W.heap.size) 0 ax (by go_simp)
    have cw4_0_1 := ci hw4 (W.heap.size) 1 ay (by go_simp)
    have cw4_1_0 := ci hw4 (W.heap.size + 1) 0 bx (by go_simp)
    have cw4_1_1 := ci hw4 (W.heap.size + 1) 1 by' (by go_simp)
    have cw4_2_0 := ci hw4 (W.heap.size + 1 + 1) 0 px (by go_simp)
    have cw4_2_1 := ci hw4 (W.heap.size + 1 + 1) 1 py (by go_simp)
    have cw4_3_0 := cu hw4 (W.heap.size + 1 + 1 + 1) 0 0 (by go_simp)
    have fw4_3_0 := fq hw4 (W.heap.size + 1 + 1 + 1) 0 (.int .u64 0) (by go_simp) (by go_simp)
    have cw4_3_1 := cu hw4 (W.heap.size + 1 + 1 + 1) 1 0 (by go_simp)
    have fw4_3_1 := fq hw4 (W.heap.size + 1 + 1 + 1) 1 (.int .u64 0) (by go_simp) (by go_simp)
    have cw4_3_2 := cu hw4 (W.heap.size + 1 + 1 + 1) 2 0 (by go_simp)
    have fw4_3_2 := fq hw4 (W.heap.size + 1 + 1 + 1) 2 (.int .u64 0) (by go_simp) (by go_simp)
    have gw4 : Gr W w4 := Gr.trans (by have gg := gw3; have gs := gg.size; go_grown) hw4
    clear hw4 gw3 cw3_0_0 cw3_0_1 cw3_1_0 cw3_1_1 cw3_2_0 cw3_2_1 cw3_3_0 fw3_3_0 cw3_3_1 fw3_3_1 cw3_3_2 fw3_3_2
    go_wp2_with fail
    go_at_call 82
    refine ((H5.out _)).mono ?_
    rintro e w5 ⟨rfl, hw5⟩
    have cw5_0_0 := ci hw5 (W.heap.size) 0 ax (by go_simp)
    have cw5_0_1 := ci hw5 (W.heap.size) 1 ay (by go_simp)
    have cw5_1_0 := ci hw5 (W.heap.size + 1) 0 bx (by go_simp)
    have cw5_1_1 := ci hw5 (W.heap.size + 1) 1 by' (by go_simp)
    have cw5_2_0 := ci hw5 (W.heap.size + 1 + 1) 0 px (by go_simp)
    have cw5_2_1 := ci hw5 (W.heap.size + 1 + 1) 1 py (by go_simp)
    have cw5_3_0 := cu hw5 (W.heap.size + 1 + 1 + 1) 0 0 (by go_simp)
    have fw5_3_0 := fq hw5 (W.heap.size + 1 + 1 + 1) 0 (.int .u64 0) (by go_simp) (by go_simp)
    have cw5_3_1 := cu hw5 (W.heap.size + 1 + 1 + 1) 1 0 (by go_simp)
    have fw5_3_1 := fq hw5 (W.heap.size + 1 + 1 + 1) 1 (.int .u64 0) (by go_simp) (by go_simp)
    have cw5_3_2 := cu hw5 (W.heap.size + 1 + 1 + 1) 2 0 (by go_simp)
    have fw5_3_2 := fq hw5 (W.heap.size + 1 + 1 + 1) 2 (.int .u64 0) (by go_simp) (by go_simp)
    have gw5 : Gr W w5 := Gr.trans (by have gg := gw4; have gs := gg.size; go_grown) hw5
    clear hw5 gw4 cw4_0_0 cw4_0_1 cw4_1_0 cw4_1_1 cw4_2_0 cw4_2_1 cw4_3_0 fw4_3_0 cw4_3_1 fw4_3_1 cw4_3_2 fw4_3_2
    go_wp2_with fail
    go_at_call 83
    refine ((H7.out _)).mono ?_
    rintro e w6 ⟨rfl, hw6⟩
    have cw6_3_0 := cu hw6 (W.heap.size + 1 + 1 + 1) 0 0 (by go_simp)
    have fw6_3_0 := fq hw6 (W.heap.size + 1 + 1 + 1) 0 (.int .u64 0) (by go_simp) (by go_simp)
    have cw6_3_1 := cu hw6 (W.heap.size + 1 + 1 + 1) 1 0 (by go_simp)
    have fw6_3_1 := fq hw6 (W.heap.size + 1 + 1 + 1) 1 (.int .u64 0) (by go_simp) (by go_simp)
    have cw6_3_2 := cu hw6 (W.heap.size + 1 + 1 + 1) 2 0 (by go_simp)
    have fw6_3_2 := fq hw6 (W.heap.size + 1 + 1 + 1) 2 (.int .u64 0) (by go_simp) (by go_simp)
    have gw6 : Gr W w6 := Gr.trans (by have gg := gw5; have gs := gg.size; go_grown) hw6
    clear hw6 gw5 cw5_0_0 cw5_0_1 cw5_1_0 cw5_1_1 cw5_2_0 cw5_2_1 cw5_3_0 fw5_3_0 cw5_3_1 fw5_3_1 cw5_3_2 fw5_3_2
    go_wp2_with fail
    refine bodyPost_ret (v := .agg #[.int .u64 0, .int .u64 r2, .int .u64 1]) (by simp [results, Tryz.results48, go_sem, *]) rfl ⟨rfl, by go_grown⟩
  · have HL := Lib.hid AL
    clear AL
    have FD := field_lo 0 wh
    go_enter Tryz.func48, Tryz.ntmps48
    go_wp2_with fail
    go_at_call 24
    refine ((H1.out _)).mono ?_
    rintro e w1 ⟨rfl, hw1⟩
    have cw1_0_0 := ci hw1 (W.heap.size) 0 ax (by go_simp)
    have cw1_0_1 := ci hw1 (W.heap.size) 1 ay (by go_simp)
    have cw1_1_0 := ci hw1 (W.heap.size + 1) 0 bx (by go_simp)
    have cw1_1_1 := ci hw1 (W.heap.size + 1) 1 by' (by go_simp)
    have cw1_2_0 := ci hw1 (W.heap.size + 1 + 1) 0 px (by go_simp)
    have cw1_2_1 := ci hw1 (W.heap.size + 1 + 1) 1 py (by go_simp)
    have cw1_3_0 := cu hw1 (W.heap.size + 1 + 1 + 1) 0 0 (by go_simp)
    have fw1_3_0 := fq hw1 (W.heap.size + 1 + 1 + 1) 0 (.int .u64 0) (by go_simp) (by go_simp)
    have cw1_3_1 := cu hw1 (W.heap.size + 1 + 1 + 1) 1 0 (by go_simp)
    have fw1_3_1 := fq hw1 (W.heap.size + 1 + 1 + 1) 1 (.int .u64 0) (by go_simp) (by go_simp)
    have cw1_3_2 := cu hw1 (W.heap.size + 1 + 1 + 1) 2 0 (by go_simp)
    have fw1_3_2 := fq hw1 (W.heap.size + 1 + 1 + 1) 2 (.int .u64 0) (by go_simp) (by go_simp)
    have gw1 : Gr W w1 := Gr.trans (by go_grown) hw1
    clear hw1
    go_wp2_with fail
    go_at_call 24
    refine ((H2.out _)).mono ?_
    rintro e w2 ⟨rfl, hw2⟩
    have cw2_0_0 := ci hw2 (W.heap.size) 0 ax (by go_simp)
    have cw2_0_1 := ci hw2 (W.heap.size) 1 ay (by go_simp)
    have cw2_1_0 := ci hw2 (W.heap.size + 1) 0 bx (by go_simp)
    have cw2_1_1 := ci hw2 (W.heap.size + 1) 1 by' (by go_simp)
    have cw2_2_0 := ci hw2 (W.heap.size + 1 + 1) 0 px (by go_simp)
    have cw2_2_1 := ci hw2 (W.heap.size + 1 + 1) 1 py (by go_simp)
    have cw2_3_0 := cu hw2 (W.heap.size + 1 + 1 + 1) 0 0 (by go_simp)
    have fw2_3_0 := fq hw2 (W.heap.size + 1 + 1 + 1) 0 (.int .u64 0) (by go_simp) (by go_simp)
    have cw2_3_1 := cu hw2 (W.heap.size + 1 + 1 + 1) 1 0 (by go_simp)
    have fw2_3_1 := fq hw2 (W.heap.size + 1 + 1 + 1) 1 (.int .u64 0) (by go_simp) (by go_simp)
    have cw2_3_2 := cu hw2 (W.heap.size + 1 + 1 + 1) 2 0 (by go_simp)
    have fw2_3_2 := fq hw2 (W.heap.size + 1 + 1 + 1) 2 (.int .u64 0) (by go_simp) (by go_simp)
    have gw2 : Gr W w2 := Gr.trans (by have gg := gw1; have gs := gg.size; go_grown) hw2
    clear hw2 gw1 cw1_0_0 cw1_0_1 cw1_1_0 cw1_1_1 cw1_2_0 cw1_2_1 cw1_3_0 fw1_3_0 cw1_3_1 fw1_3_1 cw1_3_2 fw1_3_2
    go_wp2_with fail
    go_at_call 24
    refine ((H3.out _)).mono ?_
    rintro e w3 ⟨rfl, hw3⟩
    have cw3_0_0 := ci hw3 (W.heap.size) 0 ax (by go_simp)
    have cw3_0_1 := ci hw3 (W.heap.size) 1 ay (by go_simp)
    have cw3_1_0 := ci hw3 (W.heap.size + 1) 0 bx (by go_simp)
    have cw3_1_1 := ci hw3 (W.heap.size + 1) 1 by' (by go_simp)
    have cw3_2_0 := ci hw3 (W.heap.size + 1 + 1) 0 px (by go_simp)
    have cw3_2_1 := ci hw3 (W.heap.size + 1 + 1) 1 py (by go_simp)
    have cw3_3_0 := cu hw3 (W.heap.size + 1 + 1 + 1) 0 0 (by go_simp)
    have fw3_3_0 := fq hw3 (W.heap.size + 1 + 1 + 1) 0 (.int .u64 0) (by go_simp) (by go_simp)
    have cw3_3_1 := cu hw3 (W.heap.size + 1 + 1 + 1) 1 0 (by go_simp)
    have fw3_3_1 := fq hw3 (W.heap.size + 1 + 1 + 1) 1 (.int .u64 0) (by go_simp) (by go_simp)
    have cw3_3_2 := cu hw3 (W.heap.size + 1 + 1 + 1) 2 0 (by go_simp)
    have fw3_3_2 := fq hw3 (W.heap.size + 1 + 1 + 1) 2 (.int .u64 0) (by go_simp) (by go_simp)
    have gw3 : Gr W w3 := Gr.trans (by have gg := gw2; have gs := gg.size; go_grown) hw3
    clear hw3 gw2 cw2_0_0 cw2_0_1 cw2_1_0 cw2_1_1 cw2_2_0 cw2_2_1 cw2_3_0 fw2_3_0 cw2_3_1 fw2_3_1 cw2_3_2 fw2_3_2
    go_wp2_with fail
    go_at_call 82
    refine ((H4.out _)).mono ?_
    rintro e w4 ⟨rfl, hw4⟩
    have cw4_0_0 := ci hw4 (W.heap.size) 0 ax (by go_simp)
    have cw4_0_1 := ci hw4 (W.heap.size) 1 ay (by go_simp)
    have cw4_1_0 := ci hw4 (W.heap.size + 1) 0 bx (by go_simp)
    have cw4_1_1 := ci hw4 (W.heap.size + 1) 1 by' (by go_simp)
    have cw4_2_0 := ci hw4 (W.heap.size + 1 + 1) 0 px (by go_simp)
    have cw4_2_1 := ci hw4 (W.heap.size + 1 + 1) 1 py (by go_simp)
    have cw4_3_0 := cu hw4 (W.heap.size + 1 + 1 + 1) 0 0 (by go_simp)
    have fw4_3_0 := fq hw4 (W.heap.size + 1 + 1 + 1) 0 (.int .u64 0) (by go_simp) (by go_simp)
    have cw4_3_1 := cu hw4 (W.heap.size + 1 + 1 + 1) 1 0 (by go_simp)
    have fw4_3_1 := fq hw4 (W.heap.size + 1 + 1 + 1) 1 (.int .u64 0) (by go_simp) (by go_simp)
    have cw4_3_2 := cu hw4 (W.heap.size + 1 + 1 + 1) 2 0 (by go_simp)
    have fw4_3_2 := fq hw4 (W.heap.size + 1 + 1 + 1) 2 (.int .u64 0) (by go_simp) (by go_simp)
    have gw4 : Gr W w4 := Gr.trans (by have gg := gw3; have gs := gg.size; go_grown) hw4
    clear hw4 gw3 cw3_0_0 cw3_0_1 cw3_1_0 cw3_1_1 cw3_2_0 cw3_2_1 cw3_3_0 fw3_3_0 cw3_3_1 fw3_3_1 cw3_3_2 fw3_3_2
    go_wp2_with fail
    go_at_call 82
    refine ((H5.out _)).mono ?_
    rintro e w5 ⟨rfl, hw5⟩
    have cw5_0_0 := ci hw5 (W.heap.size) 0 ax (by go_simp)
    have cw5_0_1 := ci hw5 (W.heap.size) 1 ay (by go_simp)
    have cw5_1_0 := ci hw5 (W.heap.size + 1) 0 bx (by go_simp)
    have cw5_1_1 := ci hw5 (W.heap.size + 1) 1 by' (by go_simp)
    have cw5_2_0 := ci hw5 (W.heap.size + 1 + 1) 0 px (by go_simp)
    have cw5_2_1 := ci hw5 (W.heap.size + 1 + 1) 1 py (by go_simp)
    have cw5_3_0 := cu hw5 (W.heap.size + 1 + 1 + 1) 0 0 (by go_simp)
    have fw5_3_0 := fq hw5 (W.heap.size + 1 + 1 + 1) 0 (.int .u64 0) (by go_simp) (by go_simp)
    have cw5_3_1 := cu hw5 (W.heap.size + 1 + 1 + 1) 1 0 (by go_simp)
    have fw5_3_1 := fq hw5 (W.heap.size + 1 + 1 + 1) 1 (.int .u64 0) (by go_simp) (by go_simp)
    have cw5_3_2 := cu hw5 (W.heap.size + 1 + 1 + 1) 2 0 (by go_simp)
    have fw5_3_2 := fq hw5 (W.heap.size + 1 + 1 + 1) 2 (.int .u64 0) (by go_simp) (by go_simp)
    have gw5 : Gr W w5 := Gr.trans (by have gg := gw4; have gs := gg.size; go_grown) hw5
    clear hw5 gw4 cw4_0_0 cw4_0_1 cw4_1_0 cw4_1_1 cw4_2_0 cw4_2_1 cw4_3_0 fw4_3_0 cw4_3_1 fw4_3_1 cw4_3_2 fw4_3_2
    go_wp2_with fail
    refine Hd.wp_region_tail 18 (by kernel_rfl) (by kernel_rfl) ?_
    intro KQ hKQ
    repeat (first | (refine Hd.wpG_skip (by decide) rfl ?_; simp only [Act.put, List.setIfInBounds_toArray, List.set_cons_zero, List.set_cons_succ]) | (refine Hd.wpG_want (by decide) rfl ?_; apply Exists.intro; refine ⟨?_, ?_⟩; (· intro wx gx; (obtain ⟨mx, rfl⟩ := gx); all_goals (apply Hd.gAt_of_quiet; intro K hK; go_big_quiet_op; first | exact hK _ rfl | (apply Exists.intro; refine ⟨fun _ => ?_, ?_⟩; (· (first | (go_at_call 81; first | ((with_reducible refine ((H8.out _)).mono ?_); rintro e w' ⟨rfl, hg⟩; exact ⟨rfl, spread_gr hg⟩)) | (go_at_call 84; first | ((with_reducible refine ((H9.out _)).mono ?_); rintro e w' ⟨rfl, hg⟩; exact ⟨rfl, spread_gr hg⟩)) | (go_at_call 58; first | ((with_reducible refine ((H0.out _)).mono ?_); rintro e w' ⟨rfl, hg⟩; exact ⟨rfl, spread_gr hg⟩)) | (go_at_call 57; first | ((with_reducible refine ((HL.out _)).mono ?_); rintro e w' ⟨rfl, hg⟩; exact ⟨rfl, spread_gr hg⟩)))); exact hK _ rfl))); try simp only [Act.put, List.setIfInBounds_toArray, List.set_cons_zero, List.set_cons_succ]))
    refine Hd.wpG_nil (hKQ _ ?_)
    clear hKQ KQ
    intro w6 hhw6
    have hw6 := Hd.gr_of_spread hhw6
    have cw6_3_0 := cu hw6 (W.heap.size + 1 + 1 + 1) 0 0 (by go_simp)
    have fw6_3_0 := fq hw6 (W.heap.size + 1 + 1 + 1) 0 (.int .u64 0) (by go_simp) (by go_simp)
    have cw6_3_1 := cu hw6 (W.heap.size + 1 + 1 + 1) 1 0 (by go_simp)
    have fw6_3_1 := fq hw6 (W.heap.size + 1 + 1 + 1) 1 (.int .u64 0) (by go_simp) (by go_simp)
    have cw6_3_2 := cu hw6 (W.heap.size + 1 + 1 + 1) 2 0 (by go_simp)
    have fw6_3_2 := fq hw6 (W.heap.size + 1 + 1 + 1) 2 (.int .u64 0) (by go_simp) (by go_simp)
    have gw6 : Gr W w6 := Gr.trans (by have gg := gw5; have gs := gg.size; go_grown) hw6
    clear hw6 hhw6 gw5 cw5_0_0 cw5_0_1 cw5_1_0 cw5_1_1 cw5_2_0 cw5_2_1 cw5_3_0 fw5_3_0 cw5_3_1 fw5_3_1 cw5_3_2 fw5_3_2
    go_wp2_with fail
    refine bodyPost_ret (v := .agg #[.int .u64 r1, .int .u64 r2, .int .u64 r3]) (by simp [results, Tryz.results48, go_sem, *]) rfl ⟨rfl, by go_grown⟩
theorem eqPt4 (ax ay bx by' : Int) (w : World) : (binOp .eql 26 (.agg #[.int .i64 ax, .int .i64 ay]) (.agg #[.int .i64 bx, .int .i64 by'])).run Tryz.prog w = .ok (.bool (decide (ax = bx ∧ ay = by'))) w := eqPt ax ay bx by' w
theorem c_rSegDist (ax ay bx by' px py : Int) (h : (nearB ax ay && nearB bx by' && nearB px py) = true) (W : World) :
    Calls Tryz.prog 48 #[.agg #[.int .i64 ax, .int .i64 ay], .agg #[.int .i64 bx, .int .i64 by'], .agg #[.int .i64 px, .int .i64 py]] W fun e w' => e = .returned (.agg #[.int .u64 (dsH ax ay bx by' px py), .int .u64 (dsL ax ay bx by' px py), .int .u64 (sdD ax ay bx by' px py)]) ∧ Gr W w' := by
  have hn : (nearB ax ay = true ∧ nearB bx by' = true) ∧ nearB px py = true := by simpa using h
  obtain ⟨⟨n1, n2⟩, n3⟩ := hn
  have b1 := nearB_iff.1 n1
  have b2 := nearB_iff.1 n2
  have Q1 := c_rPoint ax ay
  have Q2 := c_rPoint bx by'
  have Q3 := c_rPoint px py
  rw [n1] at Q1
  rw [n2] at Q2
  rw [n3] at Q3
  obtain ⟨s1, hs1⟩ : ∃ s : Nat, (s : Int) = sqZ ax ay px py := ⟨_, Int.toNat_of_nonneg (sq_nn _ _ _ _)⟩
  obtain ⟨s2, hs2⟩ : ∃ s : Nat, (s : Int) = sqZ bx by' px py := ⟨_, Int.toNat_of_nonneg (sq_nn _ _ _ _)⟩
  obtain ⟨wh, hwh⟩ : ∃ s : Nat, (s : Int) = sqZ ax ay bx by' := ⟨_, Int.toNat_of_nonneg (sq_nn _ _ _ _)⟩
  have S1 := c_rSq ax ay px py n1 n3 s1 hs1
  have S2 := c_rSq bx by' px py n2 n3 s2 hs2
  have D1 := c_dot ax ay bx by' px py n1 n2 n3
  have D2 := c_dot bx by' ax ay px py n2 n1 n3
  have C := c_rCross ax ay bx by' px py
  obtain ⟨ce, cb⟩ := cr_bound h
  rw [ce] at C
  have SQ := c_rSquare (cr ax ay bx by' px py) (by omega)
  have SM := c_sum (ax - bx) (ay - by') (by omega) (by omega) wh (by rw [hwh]; unfold sqZ; grind)
  have da := dot_al ax ay bx by' px py
  have t1 : (sqZ ax ay px py).toNat = s1 := by omega
  have t2 : (sqZ bx by' px py).toNat = s2 := by omega
  have t3 : (sqZ ax ay bx by').toNat = wh := by omega
  have q1 := sqZ_bound n1 n3
  have q2 := sqZ_bound n2 n3
  have q3 := sqZ_bound n1 n2
  refine rsd_yes ax ay bx by' px py _ _ s1 s2 _ _ _ wh ((lowN ((cr ax ay bx by' px py).natAbs * (cr ax ay bx by' px py).natAbs) wh / 18446744073709551616 : Nat) : Int) ((lowN ((cr ax ay bx by' px py).natAbs * (cr ax ay bx by' px py).natAbs) wh % 18446744073709551616 : Nat) : Int) (lowD ((cr ax ay bx by' px py).natAbs * (cr ax ay bx by' px py).natAbs) wh) _ _ _ _ _ _ W (eqPt4 ax ay bx by') (IntWalk.wrap64_in _ (by omega)) (IntWalk.i64_in _ (by omega)) (IntWalk.wrap64_in _ (by omega)) (IntWalk.i64_in _ (by omega)) Q1 Q2 Q3 D1 D2 S1 S2 C SQ SM ?_
  unfold dsH dsL sdN sdD
  rw [t1, t2, t3]
  by_cases eb : ax = bx ∧ ay = by'
  · left
    have ea : alZ ax ay bx by' px py = 0 := by
      obtain ⟨rfl, rfl⟩ := eb
      unfold alZ; simp
    rw [if_pos (by omega), if_pos (by omega)]
    refine ⟨decide_eq_true eb, ?_, ?_, rfl⟩ <;> omega
  · right
    by_cases c1 : alZ ax ay bx by' px py ≤ 0
    · left
      rw [if_pos c1, if_pos c1]
      refine ⟨decide_eq_false eb, c1, ?_, ?_, rfl⟩ <;> omega
    · right
      rw [if_neg c1, if_neg c1]
      by_cases c2 : sqZ ax ay bx by' ≤ alZ ax ay bx by' px py
      · left
        rw [if_pos c2, if_pos c2]
        refine ⟨decide_eq_false eb, c1, by omega, ?_, ?_, rfl⟩ <;> omega
      · right
        rw [if_neg c2, if_neg c2]
        refine ⟨decide_eq_false eb, c1, by omega, rfl, rfl, rfl, fun w => ?_⟩
        have cc : (cr ax ay bx by' px py).natAbs * (cr ax ay bx by' px py).natAbs ≤ 9223372019674906632 * 9223372019674906632 := Nat.mul_le_mul (by omega) (by omega)
        have M := c_Lowest ((cr ax ay bx by' px py).natAbs * (cr ax ay bx by' px py).natAbs / 18446744073709551616) ((cr ax ay bx by' px py).natAbs * (cr ax ay bx by' px py).natAbs % 18446744073709551616) wh (by unfold Wd; omega) (by unfold Wd; omega) (by unfold Wd; omega) (by omega) w
        rw [val_join] at M
        exact M
theorem c_rSegDist_no (ax ay bx by' px py : Int) (h : (nearB ax ay && nearB bx by' && nearB px py) = false) (W : World) :
    Calls Tryz.prog 48 #[.agg #[.int .i64 ax, .int .i64 ay], .agg #[.int .i64 bx, .int .i64 by'], .agg #[.int .i64 px, .int .i64 py]] W fun e w' => e = .returned (.agg #[.int .u64 0, .int .u64 0, .int .u64 0]) ∧ Gr W w' := by
  refine rsd_no ax ay bx by' px py _ _ _ W ?_ (c_rPoint ax ay) (c_rPoint bx by') (c_rPoint px py)
  cases g1 : nearB ax ay <;> cases g2 : nearB bx by' <;> cases g3 : nearB px py <;> simp_all
set_option maxHeartbeats 1000000 in
set_option maxRecDepth 100000 in
theorem c_corners (lx ly hx hy : Int) (W : World) : Calls Tryz.prog 107 #[.agg #[.int .i64 lx, .int .i64 ly, .int .i64 hx, .int .i64 hy]] W fun e w' => ∃ B, e = .returned (.slice (some ⟨B, 0, none⟩) 4 4) ∧ w'.cell? ⟨B, 0, none⟩ = some (.int .i64 lx) ∧ w'.cell? ⟨B, 1, none⟩ = some (.int .i64 ly) ∧ w'.cell? ⟨B, 2, none⟩ = some (.int .i64 hx) ∧ w'.cell? ⟨B, 3, none⟩ = some (.int .i64 ly) ∧ w'.cell? ⟨B, 4, none⟩ = some (.int .i64 hx) ∧ w'.cell? ⟨B, 5, none⟩ = some (.int .i64 hy) ∧ w'.cell? ⟨B, 6, none⟩ = some (.int .i64 lx) ∧ w'.cell? ⟨B, 7, none⟩ = some (.int .i64 hy) ∧ Gr W w' := by
  go_enter Tryz.func107, Tryz.ntmps107
  go_wp2_with fail
  go_ret
  exact ⟨_, rfl, by go_simp, by go_simp, by go_simp, by go_simp, by go_simp, by go_simp, by go_simp, by go_simp, by go_grown⟩
end Go.Proofs.YtfobmlgpjhghdaaGreatDoor
namespace Go.Proofs.YtfobmlgpjhghdaaGreatDoor
set_option linter.unusedVariables false
open Go.ChangeShapes Go.WideShapes Go.ChangeAt Go.RowKit
set_option maxHeartbeats 2000000 in
set_option maxRecDepth 100000 in
theorem over_core (ax ay cx cy bx by' x d : Int) (q1 q2 r : Bool) (W : World)
    (E1 : ∀ w, (binOp .neq 26 (.agg #[.int .i64 ax, .int .i64 ay]) (.agg #[.int .i64 cx, .int .i64 cy])).run Tryz.prog w = .ok (.bool q1) w)
    (E2 : ∀ w, (binOp .neq 26 (.agg #[.int .i64 bx, .int .i64 by']) (.agg #[.int .i64 cx, .int .i64 cy])).run Tryz.prog w = .ok (.bool q2) w)
    (A1 : ∀ w, Calls Tryz.prog 81 #[.agg #[.int .i64 cx, .int .i64 cy], .agg #[.int .i64 ax, .int .i64 ay], .agg #[.int .i64 bx, .int .i64 by']] w fun e w' => e = .returned (.int .i64 x) ∧ Gr w w')
    (A2 : ∀ w, Calls Tryz.prog 82 #[.agg #[.int .i64 cx, .int .i64 cy], .agg #[.int .i64 ax, .int .i64 ay], .agg #[.int .i64 bx, .int .i64 by']] w fun e w' => e = .returned (.int .i64 d) ∧ Gr w w')
    (hr : r = (q1 && (q2 && (decide (x = 0) && decide (0 < d))))) :
    Calls Tryz.prog 127 #[.agg #[.int .i64 ax, .int .i64 ay], .agg #[.int .i64 cx, .int .i64 cy], .agg #[.int .i64 bx, .int .i64 by']] W fun e w' => e = .returned (.bool r) ∧ Gr W w' := by
  have H1 := Lib.hid A1
  have H2 := Lib.hid A2
  clear A1 A2
  subst hr
  cases q1
  · go_enter Tryz.func127, Tryz.ntmps127
    go_wp2_with fail
    go_ret
    exact ⟨rfl, by go_grown⟩
  cases q2
  · go_enter Tryz.func127, Tryz.ntmps127
    go_wp2_with fail
    go_ret
    exact ⟨rfl, by go_grown⟩
  simp only [Bool.true_and]
  by_cases hx : x = 0
  · subst hx
    simp only [decide_true, Bool.true_and]
    by_cases hd : 0 < d
    · rw [decide_eq_true hd]
      have t1 : decide ((0 : Int) < d) = true := decide_eq_true hd
      go_enter Tryz.func127, Tryz.ntmps127
      go_wp2_with fail
      go_at_call 81
      (with_reducible refine ((H1.out _)).mono ?_)
      rintro e w1 ⟨rfl, hw1⟩
      have cw1_0_0 := ci hw1 (W.heap.size) 0 ax (by go_simp)
      have cw1_0_1 := ci hw1 (W.heap.size) 1 ay (by go_simp)
      have cw1_1_0 := ci hw1 (W.heap.size + 1) 0 cx (by go_simp)
      have cw1_1_1 := ci hw1 (W.heap.size + 1) 1 cy (by go_simp)
      have cw1_2_0 := ci hw1 (W.heap.size + 1 + 1) 0 bx (by go_simp)
      have cw1_2_1 := ci hw1 (W.heap.size + 1 + 1) 1 by' (by go_simp)
      have gw1 : Gr W w1 := Gr.trans (by go_grown) hw1
      clear hw1
      go_wp2_with fail
      go_at_call 82
      (with_reducible refine ((H2.out _)).mono ?_)
      rintro e w2 ⟨rfl, hw2⟩
      have gw2 : Gr W w2 := Gr.trans (by have gg := gw1; have gs := gg.size; go_grown) hw2
      clear hw2 gw1 cw1_0_0 cw1_0_1 cw1_1_0 cw1_1_1 cw1_2_0 cw1_2_1
      go_wp2_with fail
      go_ret
      exact ⟨rfl, by go_grown⟩
    · rw [decide_eq_false hd]
      have t1 : decide ((0 : Int) < d) = false := decide_eq_false hd
      go_enter Tryz.func127, Tryz.ntmps127
      go_wp2_with fail
      go_at_call 81
      (with_reducible refine ((H1.out _)).mono ?_)
      rintro e w1 ⟨rfl, hw1⟩
      have cw1_0_0 := ci hw1 (W.heap.size) 0 ax (by go_simp)
      have cw1_0_1 := ci hw1 (W.heap.size) 1 ay (by go_simp)
      have cw1_1_0 := ci hw1 (W.heap.size + 1) 0 cx (by go_simp)
      have cw1_1_1 := ci hw1 (W.heap.size + 1) 1 cy (by go_simp)
      have cw1_2_0 := ci hw1 (W.heap.size + 1 + 1) 0 bx (by go_simp)
      have cw1_2_1 := ci hw1 (W.heap.size + 1 + 1) 1 by' (by go_simp)
      have gw1 : Gr W w1 := Gr.trans (by go_grown) hw1
      clear hw1
      go_wp2_with fail
      go_at_call 82
      (with_reducible refine ((H2.out _)).mono ?_)
      rintro e w2 ⟨rfl, hw2⟩
      have gw2 : Gr W w2 := Gr.trans (by have gg := gw1; have gs := gg.size; go_grown) hw2
      clear hw2 gw1 cw1_0_0 cw1_0_1 cw1_1_0 cw1_1_1 cw1_2_0 cw1_2_1
      go_wp2_with fail
      go_ret
      exact ⟨rfl, by go_grown⟩
  · have t1 : (x == 0) = false := by simpa using hx
    rw [decide_eq_false hx, Bool.false_and]
    go_enter Tryz.func127, Tryz.ntmps127
    go_wp2_with fail
    go_at_call 81
    (with_reducible refine ((H1.out _)).mono ?_)
    rintro e w1 ⟨rfl, hw1⟩
    have cw1_0_0 := ci hw1 (W.heap.size) 0 ax (by go_simp)
    have cw1_0_1 := ci hw1 (W.heap.size) 1 ay (by go_simp)
    have cw1_1_0 := ci hw1 (W.heap.size + 1) 0 cx (by go_simp)
    have cw1_1_1 := ci hw1 (W.heap.size + 1) 1 cy (by go_simp)
    have cw1_2_0 := ci hw1 (W.heap.size + 1 + 1) 0 bx (by go_simp)
    have cw1_2_1 := ci hw1 (W.heap.size + 1 + 1) 1 by' (by go_simp)
    have gw1 : Gr W w1 := Gr.trans (by go_grown) hw1
    clear hw1
    go_wp2_with fail
    go_ret
    exact ⟨rfl, by go_grown⟩
theorem c_gOver (ax ay cx cy bx by' : Int) (h1 : nearB ax ay = true) (h2 : nearB cx cy = true) (h3 : nearB bx by' = true) (W : World) :
    Calls Tryz.prog 127 #[.agg #[.int .i64 ax, .int .i64 ay], .agg #[.int .i64 cx, .int .i64 cy], .agg #[.int .i64 bx, .int .i64 by']] W fun e w' => e = .returned (.bool (Rg.ovF ax ay cx cy bx by')) ∧ Gr W w' := by
  have e : crossZ cx cy ax ay bx by' = cr cx cy ax ay bx by' := by unfold crossZ cr; rw [h1, h2, h3]; rfl
  exact over_core ax ay cx cy bx by' _ _ _ _ _ W (nePt ax ay cx cy) (nePt bx by' cx cy) (c_rCross cx cy ax ay bx by') (c_dot cx cy ax ay bx by' h2 h1 h3) (by rw [e]; rfl)
def TwoAt (W : World) (x0 y0 x1 y1 : Int) (p q : Value) (wx : World) : Prop := ∃ b1 b2 : Nat, p = .pointer (some ⟨b1, 0, none⟩) ∧ q = .pointer (some ⟨b2, 0, none⟩) ∧ wx.cell? ⟨b1, 0, none⟩ = some (.int .i64 x0) ∧ wx.cell? ⟨b1, 1, none⟩ = some (.int .i64 y0) ∧ wx.cell? ⟨b2, 0, none⟩ = some (.int .i64 x1) ∧ wx.cell? ⟨b2, 1, none⟩ = some (.int .i64 y1) ∧ Gr W wx
theorem nx_rem {n j : Nat} (h : j < n) (hn : n ≤ 1000000) : Int.tmod ((j : Int) + 1) (n : Int) = (Rg.nx1 n j : Nat) ∧ ((j : Int) + 1) % (n : Int) = (Rg.nx1 n j : Nat) := by
  have e : ((j : Int) + 1) % (n : Int) = (Rg.nx1 n j : Nat) := by
    unfold Rg.nx1
    split
    · rename_i h1
      have : (j : Int) + 1 = (n : Int) := by omega
      rw [this]; simp
    · rename_i h1
      rw [Int.emod_eq_of_lt (by omega) (by omega)]; omega
  refine ⟨?_, e⟩
  rw [Int.tmod_eq_emod_of_nonneg (by omega)]
  exact e
set_option maxHeartbeats 8000000 in
set_option maxRecDepth 100000 in
theorem c_rclash {n : Nat} {X Y : Nat → Int} {v : Value} (W : World) (h : Pts W v n X Y) (hnr : ∀ k, k < n → nearB (X k) (Y k) = true) (i j : Nat) (hij : i < j) (hj : j < n) (hn3 : 3 ≤ n) (hn : n ≤ 1000000) :
    Calls Tryz.prog 90 #[v, .int .i64 i, .int .i64 j] W fun e w' => e = .returned (.bool (Rg.clF n X Y i j)) ∧ Gr W w' := by
  obtain ⟨ad, cap, B, off, rfl, h1, h2, h3, h4⟩ := h
  obtain rfl := h3 (by omega)
  have hxn : Rg.nx1 n j < n := by unfold Rg.nx1; split <;> omega
  obtain ⟨i0, i1⟩ := h4 i (by omega)
  obtain ⟨j0, j1⟩ := h4 j hj
  obtain ⟨z0, z1⟩ := h4 (Rg.nx1 n j) hxn
  obtain ⟨s0, s1⟩ := h4 (i + 1) (by omega)
  have e1 : Rg.foF (X i) (Y i) (X (i + 1)) (Y (i + 1)) (X (Rg.nx1 n j)) (Y (Rg.nx1 n j)) = Rg.ovF (X i) (Y i) (X (i + 1)) (Y (i + 1)) (X (Rg.nx1 n j)) (Y (Rg.nx1 n j)) := Rg.fo_ov (hnr i (by omega)) (hnr (i + 1) (by omega)) (hnr _ hxn)
  have e2 : i = 0 → Rg.foF (X j) (Y j) (X 0) (Y 0) (X 1) (Y 1) = Rg.ovF (X (i + 1)) (Y (i + 1)) (X i) (Y i) (X j) (Y j) := fun h0 => by
    subst h0
    rw [← Rg.fo_flip]
    exact Rg.fo_ov (hnr 1 (by omega)) (hnr 0 (by omega)) (hnr j hj)
  have O1 := Lib.hid (c_gOver (X i) (Y i) (X (i + 1)) (Y (i + 1)) (X (Rg.nx1 n j)) (Y (Rg.nx1 n j)) (hnr i (by omega)) (hnr (i + 1) (by omega)) (hnr _ hxn))
  have O2 := Lib.hid (c_gOver (X (i + 1)) (Y (i + 1)) (X i) (Y i) (X j) (Y j) (hnr (i + 1) (by omega)) (hnr i (by omega)) (hnr j hj))
  have O3 := Lib.hid (c_rMeet (X i) (Y i) (X (i + 1)) (Y (i + 1)) (X j) (Y j) (X (Rg.nx1 n j)) (Y (Rg.nx1 n j)))
  have er := nx_rem hj hn
  have hv : Rg.clF n X Y i j = (if j = i + 1 then Rg.ovF (X i) (Y i) (X (i + 1)) (Y (i + 1)) (X (Rg.nx1 n j)) (Y (Rg.nx1 n j)) else if i = 0 ∧ j + 1 = n then Rg.ovF (X (i + 1)) (Y (i + 1)) (X i) (Y i) (X j) (Y j) else meG (X i) (Y i) (X (i + 1)) (Y (i + 1)) (X j) (Y j) (X (Rg.nx1 n j)) (Y (Rg.nx1 n j))) := by
    unfold Rg.clF
    by_cases c1 : j = i + 1
    · rw [if_pos c1, if_pos c1, ← e1, ← c1]
    · rw [if_neg c1, if_neg c1]
      by_cases c2 : i = 0 ∧ j + 1 = n
      · rw [if_pos c2, if_pos c2, e2 c2.1]
      · rw [if_neg c2, if_neg c2]
  rw [hv]
  clear hv e1 e2 hnr h3 h4
  generalize Rg.ovF (X i) (Y i) (X (i + 1)) (Y (i + 1)) (X (Rg.nx1 n j)) (Y (Rg.nx1 n j)) = r1 at O1 ⊢
  generalize Rg.ovF (X (i + 1)) (Y (i + 1)) (X i) (Y i) (X j) (Y j) = r2 at O2 ⊢
  generalize meG (X i) (Y i) (X (i + 1)) (Y (i + 1)) (X j) (Y j) (X (Rg.nx1 n j)) (Y (Rg.nx1 n j)) = r3 at O3 ⊢
  obtain ⟨r, hr⟩ : ∃ r : Bool, r = (if j = i + 1 then r1 else if i = 0 ∧ j + 1 = n then r2 else r3) := ⟨_, rfl⟩
  rw [← hr]
  have HRR := Lib.hid hr
  clear hr
  generalize hnx : Rg.nx1 n j = nx at *
  generalize X nx = nxx at *
  generalize Y nx = nxy at *
  generalize X i = xi at *
  generalize Y i = yi at *
  generalize X j = xj at *
  generalize Y j = yj at *
  generalize X (i + 1) = xs at *
  generalize Y (i + 1) = ys at *
  have hB := World.block_lt_of_cell? _ _ i0
  have hib : (i : Int) ≤ 1000000 := by omega
  have hjb : (j : Int) ≤ 1000000 := by omega
  have hnb : (n : Int) ≤ 1000000 := by omega
  have b1 : (i : Int) < (n : Int) := by omega
  have b2 : (j : Int) < (n : Int) := by omega
  have b5 : (i : Int) + 1 < (n : Int) := by omega
  have b6 : (nx : Int) < (n : Int) := by omega
  have b7 : ((n : Int) == 0) = false := by simp; omega
  have b8 : (n : Int) ≠ 0 := by omega
  obtain ⟨er1, er2⟩ := er
  have T := Lib.hid (And.intro er1 er2)
  have c1d : (j = i + 1 ∧ ((j : Int) == (i : Int) + 1) = true) ∨ (j ≠ i + 1 ∧ ((j : Int) == (i : Int) + 1) = false) := by
    by_cases c : j = i + 1
    · exact Or.inl ⟨c, by simp; omega⟩
    · exact Or.inr ⟨c, by simp; omega⟩
  have HC := Lib.hid c1d
  clear hnx er1 er2 c1d
  have w0 : IntKind.i64.wrap ((i : Int) + 1) = (i : Int) + 1 := IntWalk.i64_in _ (by omega)
  go_enter Tryz.func90, Tryz.ntmps90
  go_upto_region 2 with fail
  go_cut [8, 9] from 14 to 22 (fun p q wx => TwoAt W xi yi xs ys p q wx)
  case first =>
    go_region
    all_goals (go_wp2_with fail; go_meet; exact ⟨_, _, rfl, rfl, by go_simp, by go_simp, by go_simp, by go_simp, by go_grown⟩)
  case rest =>
    obtain ⟨b8', b9, rfl, rfl, p0, p1, p2, p3, gwc⟩ := hcut
    clear w0
    have j0' := cell_gr gwc j0
    have j1' := cell_gr gwc j1
    have z0' := cell_gr gwc z0
    have z1' := cell_gr gwc z1
    have hBc := World.block_lt_of_cell? _ _ j0'
    have w1 : IntKind.i64.wrap ((j : Int) + 1) = (j : Int) + 1 := IntWalk.i64_in _ (by omega)
    have w2 : IntKind.i64.wrap (nx : Int) = (nx : Int) := IntWalk.i64_in _ (by omega)
    have tr1 := T.out.1
    have tr2 := T.out.2
    clear i0 i1 j0 j1 z0 z1 s0 s1
    go_upto_region 3 with fail
    go_cut [10, 11] from 23 to 33 (fun p q wx => TwoAt wc xj yj nxx nxy p q wx)
    case first =>
      go_region
      all_goals (go_wp2_with fail; go_meet; exact ⟨_, _, rfl, rfl, by go_simp, by go_simp, by go_simp, by go_simp, by go_grown⟩)
    case rest =>
      obtain ⟨b10, b11, rfl, rfl, m0, m1, m2, m3, gwd⟩ := hcut
      replace p0 := cell_gr gwd p0
      replace p1 := cell_gr gwd p1
      replace p2 := cell_gr gwd p2
      replace p3 := cell_gr gwd p3
      have G2 := Gr.trans gwc gwd
      clear j0' j1' z0' z1' w1 w2 tr1 tr2 gwc gwd hBc hB T
      rcases HC.out with ⟨c1, t1⟩ | ⟨c1, t1⟩
      · have HE := Lib.hid (show r = r1 by rw [HRR.out, if_pos c1])
        clear c1
        go_wp2_with fail
        go_at_call 127
        (with_reducible refine (O1.out _).mono ?_)
        rintro e wz ⟨rfl, gz⟩
        go_wp2_with fail
        go_ret
        exact ⟨by rw [HE.out]; rfl, Gr.trans G2 gz⟩
      · by_cases c2 : i = 0 ∧ j + 1 = n
        · have HE := Lib.hid (show r = r2 by rw [HRR.out, if_neg c1, if_pos c2])
          have t2 : ((i : Int) == 0) = true := by simp [c2.1]
          have t3 : ((j : Int) == (n : Int) - 1) = true := by simp; omega
          clear c2 c1
          go_wp2_with fail
          go_at_call 127
          (with_reducible refine (O2.out _).mono ?_)
          rintro e wz ⟨rfl, gz⟩
          go_wp2_with fail
          go_ret
          exact ⟨by rw [HE.out]; rfl, Gr.trans G2 gz⟩
        · have HE := Lib.hid (show r = r3 by rw [HRR.out, if_neg c1, if_neg c2])
          by_cases c3 : i = 0
          · have t2 : ((i : Int) == 0) = true := by simp [c3]
            have t3 : ((j : Int) == (n : Int) - 1) = false := by simp; omega
            clear c2 c1 c3
            go_wp2_with fail
            go_at_call 70
            (with_reducible refine (O3.out _).mono ?_)
            rintro e wz ⟨rfl, gz⟩
            go_wp2_with fail
            go_ret
            exact ⟨by rw [HE.out]; rfl, Gr.trans G2 gz⟩
          · have t2 : ((i : Int) == 0) = false := by simp [c3]
            clear c2 c1 c3
            go_wp2_with fail
            go_at_call 70
            (with_reducible refine (O3.out _).mono ?_)
            rintro e wz ⟨rfl, gz⟩
            go_wp2_with fail
            go_ret
            exact ⟨by rw [HE.out]; rfl, Gr.trans G2 gz⟩
def RRingTo (W : World) (n : Nat) (X Y : Nat → Int) (e : Ending) (w' : World) : Prop := e = .returned (.tuple #[.int .i64 ((Rg.ringC n X Y).1 : Nat), .int .i64 ((Rg.ringC n X Y).2 : Nat)]) ∧ Gr W w'
theorem rringTo {W w' : World} {n : Nat} {X Y : Nat → Int} {k id : Nat} (e : Rg.ringC n X Y = (k, id)) (g : Gr W w') : RRingTo W n X Y (.returned (.tuple #[.int .i64 k, .int .i64 id])) w' := by
  refine ⟨?_, g⟩
  rw [e]
end Go.Proofs.YtfobmlgpjhghdaaGreatDoor
namespace Go.Proofs.YtfobmlgpjhghdaaGreatDoor
set_option linter.unusedVariables false
open Go.ChangeShapes Go.WideShapes Go.ChangeAt Go.RowKit
set_option maxHeartbeats 8000000 in
set_option maxRecDepth 100000 in
theorem c_CheckRing {n : Nat} {X Y : Nat → Int} {v : Value} (W : World) (h : Pts W v n X Y) :
    Calls Tryz.prog 54 #[v] W (RRingTo W n X Y) := by
  have HP := Lib.hid h
  obtain ⟨ad, cap, B, off, rfl, h1, h2, h3, h4⟩ := h
  have h2i : (n : Int) ≤ 9223372036854775807 := by omega
  by_cases c1 : n < 3
  · have t1 : decide ((n : Int) < 3) = true := decide_eq_true (by omega)
    have t2 : (n : Int) < 3 := by omega
    have hk := Rg.ringC_3 (X := X) (Y := Y) (show n < 3 ∨ 64 < n by omega)
    have HK := Lib.hid hk
    clear hk h3 h4 c1
    go_enter Tryz.func54, Tryz.ntmps54
    go_wp2_with fail
    go_ret2
    exact rringTo HK.out (Below.refl _ _)
  have t1 : decide ((n : Int) < 3) = false := decide_eq_false (by omega)
  have t2 : ¬ (n : Int) < 3 := by omega
  by_cases c2 : 64 < n
  · have t3 : decide ((64 : Int) < (n : Int)) = true := decide_eq_true (by omega)
    have t4 : (64 : Int) < (n : Int) := by omega
    have hk := Rg.ringC_3 (X := X) (Y := Y) (show n < 3 ∨ 64 < n by omega)
    have HK := Lib.hid hk
    clear hk h3 h4 c1
    go_enter Tryz.func54, Tryz.ntmps54
    go_wp2_with fail
    go_ret2
    exact rringTo HK.out (Below.refl _ _)
  have t3 : decide ((64 : Int) < (n : Int)) = false := decide_eq_false (by omega)
  have t4 : ¬ (64 : Int) < (n : Int) := by omega
  have hn64 : (n : Int) ≤ 64 := by omega
  have hn0 : ¬ (n < 3 ∨ 64 < n) := by omega
  obtain rfl := h3 (by omega)
  have HX := Lib.hid h4
  have HN := Lib.hid hn0
  clear h3 h4 hn0
  go_enter Tryz.func54, Tryz.ntmps54
  go_wp2_with fail
  go_loopg [5] n (fun k y wr => ∃ i : Nat, y = .int .i64 i ∧ i ≤ n ∧ k = n - i ∧ (∀ m, m < i → nearB (X m) (Y m) = true) ∧ Gr W wr)
  case atStart => exact ⟨0, rfl, Nat.zero_le _, by omega, fun m hm => absurd hm (by omega), Below.refl _ _⟩
  case round =>
    obtain ⟨i, rfl, hi, hk, hnr, hg⟩ := hrel
    have HNR := Lib.hid hnr
    clear hnr
    by_cases hin : i < n
    · have ti : decide ((i : Int) < (n : Int)) = true := decide_eq_true (by omega)
      have ti2 : decide (i < n) = true := decide_eq_true hin
      have ti3 : (i : Int) < (n : Int) := by omega
      obtain ⟨k0, k1⟩ := HX.out i hin
      have p0 := cell_gr hg k0
      have p1 := cell_gr hg k1
      have CP := c_rPoint (X i) (Y i)
      have hmm : n - (i + 1) < gk := by omega
      clear k0 k1 hk
      cases hq : nearB (X i) (Y i)
      · rw [hq] at CP
        have hk := Rg.ringC_2 HN.out hin hq HNR.out
        have HC := Lib.hid CP
        have HK := Lib.hid hk
        generalize X i = x at p0 HC
        generalize Y i = y at p1 HC
        clear CP hk hq
        go_wp2_with fail
        go_at_call 24
        (with_reducible refine (HC.out _).mono ?_)
        rintro e w1 ⟨rfl, g1⟩
        have G1 : Gr W w1 := Gr.trans (Gr.trans hg (by go_grown)) g1
        go_wp2_with fail
        go_ret2
        exact rringTo HK.out G1
      · rw [hq] at CP
        have hnx : ∀ m, m < i + 1 → nearB (X m) (Y m) = true := fun m hm => by
          rcases Nat.lt_succ_iff_lt_or_eq.1 hm with h | rfl
          · exact HNR.out m h
          · exact hq
        have HC := Lib.hid CP
        have HNX := Lib.hid hnx
        generalize X i = x at p0 HC
        generalize Y i = y at p1 HC
        clear CP hq hnx
        go_wp2_with fail
        go_at_call 24
        (with_reducible refine (HC.out _).mono ?_)
        rintro e w1 ⟨rfl, g1⟩
        have G1 : Gr W w1 := Gr.trans (Gr.trans hg (by go_grown)) g1
        go_wp2_with fail
        go_roundg (n - (i + 1))
        case measure => exact hmm
        case rel => exact ⟨i + 1, by go_num, hin, rfl, HNX.out, G1⟩
    · obtain rfl : n = i := by omega
      have ti : decide ((n : Int) < (n : Int)) = false := decide_eq_false (by omega)
      have ti2 : decide (n < n) = false := decide_eq_false (by omega)
      clear hk hin
      go_wp2_with fail
      obtain ⟨wo, rfl⟩ : ∃ wo : World, wo = wr := ⟨_, rfl⟩
      go_loopg [6] n (fun k y wr => ∃ i : Nat, y = .int .i64 i ∧ i ≤ n ∧ k = n - i ∧ (∀ a, a < i → ∀ b, a < b → b < n → Rg.bdF n X Y a b = false) ∧ Gr W wr)
      case atStart => exact ⟨0, rfl, Nat.zero_le _, by omega, fun a ha => absurd ha (by omega), hg⟩
      case round =>
        obtain ⟨i, rfl, hi, hk, hbd, hg2⟩ := hrel
        have HB := Lib.hid hbd
        clear hbd
        by_cases hin : i < n
        · have ti : decide ((i : Int) < (n : Int)) = true := decide_eq_true (by omega)
          have ti2 : decide (i < n) = true := decide_eq_true hin
          have ti3 : (i : Int) < (n : Int) := by omega
          have hmm : n - (i + 1) < gk := by omega
          clear hk
          go_wp2_with fail
          obtain ⟨wp, rfl⟩ : ∃ wp : World, wp = wr := ⟨_, rfl⟩
          go_loopg [7] (n - (i + 1)) (fun k y wr => ∃ j : Nat, y = .int .i64 j ∧ i < j ∧ j ≤ n ∧ k = n - j ∧ (∀ b, i < b → b < j → Rg.bdF n X Y i b = false) ∧ Gr W wr)
          case atStart => exact ⟨i + 1, by go_num, by omega, by omega, rfl, fun b h1 h2 => absurd h1 (by omega), hg2⟩
          case round =>
            obtain ⟨j, rfl, hij, hj, hk, hbj, hg3⟩ := hrel
            have HBJ := Lib.hid hbj
            clear hbj
            by_cases hjn : j < n
            · have tj : decide ((j : Int) < (n : Int)) = true := decide_eq_true (by omega)
              have tj2 : decide (j < n) = true := decide_eq_true hjn
              have tj3 : (j : Int) < (n : Int) := by omega
              obtain ⟨k0, k1⟩ := HX.out i hin
              obtain ⟨l0, l1⟩ := HX.out j hjn
              have p0 := cell_gr hg3 k0
              have p1 := cell_gr hg3 k1
              have q0 := cell_gr hg3 l0
              have q1 := cell_gr hg3 l1
              have CC := fun w (g : Gr wr w) => c_rclash w (pts_gr HP.out (Gr.trans hg3 g)) HNR.out i j hij hjn (by have := HN.out; omega) (by omega)
              have E := eqPt2 (X i) (Y i) (X j) (Y j)
              have hbe : Rg.bdF n X Y i j = ((decide (X i = X j) && decide (Y i = Y j)) || Rg.clF n X Y i j) := rfl
              generalize (decide (X i = X j) && decide (Y i = Y j)) = qe at E hbe
              generalize Rg.clF n X Y i j = qc at CC hbe
              generalize X i = xi at p0 E
              generalize Y i = yi at p1 E
              generalize X j = xj at q0 E
              generalize Y j = yj at q1 E
              have HC := Lib.hid CC
              have hmm2 : n - (j + 1) < gk := by omega
              clear CC k0 k1 l0 l1 hk
              cases qe
              · cases qc
                · have hnx : ∀ b, i < b → b < j + 1 → Rg.bdF n X Y i b = false := fun b h1 h2 => by
                    rcases Nat.lt_succ_iff_lt_or_eq.1 h2 with h | rfl
                    · exact HBJ.out b h1 h
                    · exact hbe
                  have HNX := Lib.hid hnx
                  clear hnx hbe
                  have gwr := hg3
                  go_wp2_with fail
                  refine wp_region_spread (by kernel_rfl) (by kernel_rfl) ?_
                  try simp only [List.append]
                  repeat (first | go_big_quiet_skip | (go_big_quiet_want; go_big_quiet_op; (first | go_big_quiet_on | (apply Exists.intro; refine ⟨fun _ => ?_, ?_⟩; (· (first | (go_at_call 90; first | ((with_reducible refine ((HC.out _ (gr_spread _ _))).mono ?_); rintro e w' ⟨rfl, hg⟩; exact ⟨rfl, spread_gr hg⟩)))); go_big_quiet_on))))
                  refine wpQuiet_nil ?_
                  intro wr hr
                  obtain ⟨mr, rfl⟩ := hr
                  have G1 := Gr.trans hg3 (gr_spread wr mr)
                  go_wp2_with fail
                  go_roundg (n - (j + 1))
                  case measure => exact hmm2
                  case rel => exact ⟨j + 1, by go_num, by omega, hjn, rfl, HNX.out, G1⟩
                · have hk := Rg.ringC_4 HN.out HNR.out hij hjn hbe HB.out
                  have HK := Lib.hid hk
                  clear hk hbe
                  have gwr := hg3
                  go_wp2_with fail
                  refine wp_region_spread (by kernel_rfl) (by kernel_rfl) ?_
                  try simp only [List.append]
                  repeat (first | go_big_quiet_skip | (go_big_quiet_want; go_big_quiet_op; (first | go_big_quiet_on | (apply Exists.intro; refine ⟨fun _ => ?_, ?_⟩; (· (first | (go_at_call 90; first | ((with_reducible refine ((HC.out _ (gr_spread _ _))).mono ?_); rintro e w' ⟨rfl, hg⟩; exact ⟨rfl, spread_gr hg⟩)))); go_big_quiet_on))))
                  refine wpQuiet_nil ?_
                  intro wr hr
                  obtain ⟨mr, rfl⟩ := hr
                  have G1 := Gr.trans hg3 (gr_spread wr mr)
                  go_wp2_with fail
                  go_ret2
                  exact rringTo HK.out G1
              · have hk := Rg.ringC_4 HN.out HNR.out hij hjn (hbe.trans (Bool.true_or _)) HB.out
                have HK := Lib.hid hk
                clear hk hbe
                have gwr := hg3
                go_wp2_with fail
                refine wp_region_spread (by kernel_rfl) (by kernel_rfl) ?_
                try simp only [List.append]
                repeat (first | go_big_quiet_skip | (go_big_quiet_want; go_big_quiet_op; (first | go_big_quiet_on | (apply Exists.intro; refine ⟨fun _ => ?_, ?_⟩; (· fail); go_big_quiet_on))))
                refine wpQuiet_nil ?_
                intro wr hr
                obtain ⟨mr, rfl⟩ := hr
                have G1 := Gr.trans hg3 (gr_spread wr mr)
                go_wp2_with fail
                go_ret2
                exact rringTo HK.out G1
            · obtain rfl : n = j := by omega
              have tj : decide ((n : Int) < (n : Int)) = false := decide_eq_false (by omega)
              have tj2 : decide (n < n) = false := decide_eq_false (by omega)
              have hnx : ∀ a, a < i + 1 → ∀ b, a < b → b < n → Rg.bdF n X Y a b = false := fun a ha b h1 h2 => by
                rcases Nat.lt_succ_iff_lt_or_eq.1 ha with h | rfl
                · exact HB.out a h b h1 h2
                · exact HBJ.out b h1 h2
              have HNX := Lib.hid hnx
              clear hnx hk hjn
              go_wp2_with fail
              go_roundg (n - (i + 1))
              case measure => exact hmm
              case rel => exact ⟨i + 1, by go_num, hin, rfl, HNX.out, hg3⟩
        · obtain rfl : n = i := by omega
          have ti4 : decide ((n : Int) < (n : Int)) = false := decide_eq_false (by omega)
          have hk0 := Rg.ringC_0 HN.out HNR.out HB.out
          have HK := Lib.hid hk0
          clear hk0 hk hin
          go_wp2_with fail
          go_ret2
          exact rringTo HK.out hg2
end Go.Proofs.YtfobmlgpjhghdaaGreatDoor
namespace Go.Proofs.YtfobmlgpjhghdaaGreatDoor
set_option linter.unusedVariables false
set_option linter.unusedSimpArgs false
open Go.ChangeShapes Go.WideShapes Go.ChangeAt Go.RowKit
theorem boxN_pt (x y : Int) : boxN x y x y = if nearB x y = true then 0 else 2 := by
  unfold boxN
  cases nearB x y
  · rfl
  · rw [decide_eq_true (Int.le_refl x), decide_eq_true (Int.le_refl y)]; rfl
theorem boxN_iv (x y : Int) : boxN x 0 y 0 = if nearB x y = true then (if y < x then 1 else 0) else 2 := by
  unfold boxN
  have e : (nearB x 0 && nearB y 0) = nearB x y := by
    rw [Bool.eq_iff_iff, Bool.and_eq_true, nearB_iff, nearB_iff, nearB_iff]
    omega
  rw [e]
  cases nearB x y
  · rfl
  · simp only [if_true]
    by_cases h : y < x
    · rw [if_pos h, decide_eq_false (by omega : ¬ x ≤ y)]; rfl
    · rw [if_neg h, decide_eq_true (by omega : x ≤ y)]; rfl
def RChTo (W : World) (c : Nat) (e : Ending) (w' : World) : Prop := e = .returned (.int .i64 (c : Nat)) ∧ Gr W w'
set_option maxHeartbeats 2000000 in
set_option maxRecDepth 100000 in
theorem rcheck_verts (k : Int) (n cap : Nat) (ad : Option Addr) (W : World) (hk : k = 1 ∧ n ≠ 1 ∨ k = 2 ∧ n ≠ 1 ∨ k = 3 ∧ n ≠ 2) :
    Calls Tryz.prog 33 #[.agg #[.int .i64 k, .slice ad n cap]] W (RChTo W 3) := by
  rcases hk with ⟨rfl, h⟩ | ⟨rfl, h⟩ | ⟨rfl, h⟩
  · have t1 : ((n : Int) != 1) = true := by simp; omega
    have t2 : (n != 1) = true := by simp; omega
    clear h
    go_enter Tryz.func33, Tryz.ntmps33
    go_wp2_with fail
    go_ret
    exact ⟨rfl, by go_grown⟩
  · have t1 : ((n : Int) != 1) = true := by simp; omega
    have t2 : (n != 1) = true := by simp; omega
    clear h
    go_enter Tryz.func33, Tryz.ntmps33
    go_wp2_with fail
    go_ret
    exact ⟨rfl, by go_grown⟩
  · have t1 : ((n : Int) != 2) = true := by simp; omega
    have t2 : (n != 2) = true := by simp; omega
    clear h
    go_enter Tryz.func33, Tryz.ntmps33
    go_wp2_with fail
    go_ret
    exact ⟨rfl, by go_grown⟩
set_option maxHeartbeats 2000000 in
set_option maxRecDepth 100000 in
theorem rcheck_kind (k : Int) (n cap : Nat) (ad : Option Addr) (W : World) (h4 : k ≠ 4) (h3 : k ≠ 3) (h1 : k ≠ 1) (h2 : k ≠ 2) :
    Calls Tryz.prog 33 #[.agg #[.int .i64 k, .slice ad n cap]] W (RChTo W 5) := by
  have t1 : (k == 1) = false := by simp; omega
  have t2 : (k == 2) = false := by simp; omega
  have t3 : (k == 3) = false := by simp; omega
  have t4 : (k == 4) = false := by simp; omega
  clear h1 h2 h3 h4
  go_enter Tryz.func33, Tryz.ntmps33
  go_wp2_with fail
  go_ret
  exact ⟨rfl, by go_grown⟩
set_option maxHeartbeats 2000000 in
set_option maxRecDepth 100000 in
theorem rcheck_ring {n : Nat} {X Y : Nat → Int} {v : Value} (W : World) (h : Pts W v n X Y) :
    Calls Tryz.prog 33 #[.agg #[.int .i64 4, v]] W (RChTo W (Rg.ringC n X Y).1) := by
  have A1 : ∀ w, Gr W w → Calls Tryz.prog 54 #[v] w fun e w' => e = .returned (.tuple #[.int .i64 ((Rg.ringC n X Y).1 : Nat), .int .i64 ((Rg.ringC n X Y).2 : Nat)]) ∧ Gr w w' := fun w g => c_CheckRing w (pts_gr h g)
  generalize (Rg.ringC n X Y).1 = c at A1 ⊢
  generalize (Rg.ringC n X Y).2 = id at A1
  obtain ⟨ad, cap, B, off, rfl, _⟩ := h
  have H1 := Lib.hid A1
  clear A1
  go_enter Tryz.func33, Tryz.ntmps33
  go_wp2_with fail
  go_at_call 54
  refine ((H1.out _ (by go_grown))).mono ?_
  rintro e w1 ⟨rfl, hw1⟩
  have gw1 : Gr W w1 := Gr.trans (by go_grown) hw1
  clear hw1
  go_wp2_with fail
  go_ret
  exact ⟨rfl, gw1⟩
set_option maxHeartbeats 4000000 in
set_option maxRecDepth 100000 in
theorem rcheck_1 (x y : Int) (B off cap : Nat) (W : World) (p0 : W.cell? ⟨B, off, none⟩ = some (.int .i64 x)) (p1 : W.cell? ⟨B, off + 1, none⟩ = some (.int .i64 y)) :
    Calls Tryz.prog 33 #[.agg #[.int .i64 1, .slice (some ⟨B, off, none⟩) 1 cap]] W (RChTo W (boxN x y x y)) := by
  rw [boxN_pt]
  have A1 := c_rPoint x y
  have hB := World.block_lt_of_cell? _ _ p0
  cases hq : nearB x y
  · rw [hq] at A1
    rw [if_neg (by decide)]
    have H1 := Lib.hid A1
    clear A1
    clear hq
    go_enter Tryz.func33, Tryz.ntmps33
    go_wp2_with fail
    go_at_call 24
    refine ((H1.out _)).mono ?_
    rintro e w1 ⟨rfl, hw1⟩
    have cw1_0_0 := ci hw1 (W.heap.size) 0 1 (by go_simp)
    have gw1 : Gr W w1 := Gr.trans (by go_grown) hw1
    clear hw1
    go_wp2_with fail
    go_ret
    exact ⟨rfl, gw1⟩
  · rw [hq] at A1
    rw [if_pos rfl]
    have H1 := Lib.hid A1
    clear A1
    clear hq
    go_enter Tryz.func33, Tryz.ntmps33
    go_wp2_with fail
    go_at_call 24
    refine ((H1.out _)).mono ?_
    rintro e w1 ⟨rfl, hw1⟩
    have cw1_0_0 := ci hw1 (W.heap.size) 0 1 (by go_simp)
    have gw1 : Gr W w1 := Gr.trans (by go_grown) hw1
    clear hw1
    go_wp2_with fail
    refine wp_region_spread (by kernel_rfl) (by kernel_rfl) ?_
    try simp only [List.append]
    repeat (first | go_big_quiet_skip | (go_big_quiet_want; go_big_quiet_op; (first | go_big_quiet_on | (apply Exists.intro; refine ⟨fun _ => ?_, ?_⟩; (· fail); go_big_quiet_on))))
    refine wpQuiet_nil ?_
    intro w2 hhw2
    have hw2 := Hd.gr_of_spread hhw2
    have gw2 : Gr W w2 := Gr.trans (by have gg := gw1; have gs := gg.size; go_grown) hw2
    clear hw2 hhw2 gw1 cw1_0_0
    go_wp2_with fail
    go_ret
    exact ⟨rfl, gw2⟩
set_option maxHeartbeats 4000000 in
set_option maxRecDepth 100000 in
theorem rcheck_2 (x y : Int) (B off cap : Nat) (W : World) (p0 : W.cell? ⟨B, off, none⟩ = some (.int .i64 x)) (p1 : W.cell? ⟨B, off + 1, none⟩ = some (.int .i64 y)) :
    Calls Tryz.prog 33 #[.agg #[.int .i64 2, .slice (some ⟨B, off, none⟩) 1 cap]] W (RChTo W (boxN x 0 y 0)) := by
  rw [boxN_iv]
  have A1 := c_rPoint x y
  have hB := World.block_lt_of_cell? _ _ p0
  cases hq : nearB x y
  · rw [hq] at A1
    rw [if_neg (by decide)]
    have H1 := Lib.hid A1
    clear A1
    clear hq
    go_enter Tryz.func33, Tryz.ntmps33
    go_wp2_with fail
    go_at_call 24
    refine ((H1.out _)).mono ?_
    rintro e w1 ⟨rfl, hw1⟩
    have cw1_0_0 := ci hw1 (W.heap.size) 0 2 (by go_simp)
    have gw1 : Gr W w1 := Gr.trans (by go_grown) hw1
    clear hw1
    go_wp2_with fail
    go_ret
    exact ⟨rfl, gw1⟩
  · rw [hq] at A1
    rw [if_pos rfl]
    have H1 := Lib.hid A1
    clear A1
    clear hq
    by_cases c : y < x
    · rw [if_pos c]
      have t1 : decide (y < x) = true := decide_eq_true c
      go_enter Tryz.func33, Tryz.ntmps33
      go_wp2_with fail
      go_at_call 24
      refine ((H1.out _)).mono ?_
      rintro e w1 ⟨rfl, hw1⟩
      have cw1_0_0 := ci hw1 (W.heap.size) 0 2 (by go_simp)
      have cw1_1_0 := ci hw1 B off x (by go_simp)
      have cw1_1_1 := ci hw1 B (off + 1) y (by go_simp)
      have gw1 : Gr W w1 := Gr.trans (by go_grown) hw1
      clear hw1
      go_wp2_with fail
      refine wp_region_spread (by kernel_rfl) (by kernel_rfl) ?_
      try simp only [List.append]
      repeat (first | go_big_quiet_skip | (go_big_quiet_want; go_big_quiet_op; (first | go_big_quiet_on | (apply Exists.intro; refine ⟨fun _ => ?_, ?_⟩; (· fail); go_big_quiet_on))))
      refine wpQuiet_nil ?_
      intro w2 hhw2
      have hw2 := Hd.gr_of_spread hhw2
      have gw2 : Gr W w2 := Gr.trans (by have gg := gw1; have gs := gg.size; go_grown) hw2
      clear hw2 hhw2 gw1 cw1_0_0 cw1_1_0 cw1_1_1
      go_wp2_with fail
      go_ret
      exact ⟨rfl, gw2⟩
    · rw [if_neg c]
      have t1 : decide (y < x) = false := decide_eq_false c
      go_enter Tryz.func33, Tryz.ntmps33
      go_wp2_with fail
      go_at_call 24
      refine ((H1.out _)).mono ?_
      rintro e w1 ⟨rfl, hw1⟩
      have cw1_0_0 := ci hw1 (W.heap.size) 0 2 (by go_simp)
      have cw1_1_0 := ci hw1 B off x (by go_simp)
      have cw1_1_1 := ci hw1 B (off + 1) y (by go_simp)
      have gw1 : Gr W w1 := Gr.trans (by go_grown) hw1
      clear hw1
      go_wp2_with fail
      refine wp_region_spread (by kernel_rfl) (by kernel_rfl) ?_
      try simp only [List.append]
      repeat (first | go_big_quiet_skip | (go_big_quiet_want; go_big_quiet_op; (first | go_big_quiet_on | (apply Exists.intro; refine ⟨fun _ => ?_, ?_⟩; (· fail); go_big_quiet_on))))
      refine wpQuiet_nil ?_
      intro w2 hhw2
      have hw2 := Hd.gr_of_spread hhw2
      have gw2 : Gr W w2 := Gr.trans (by have gg := gw1; have gs := gg.size; go_grown) hw2
      clear hw2 hhw2 gw1 cw1_0_0 cw1_1_0 cw1_1_1
      go_wp2_with fail
      go_ret
      exact ⟨rfl, gw2⟩
set_option maxHeartbeats 4000000 in
set_option maxRecDepth 100000 in
theorem rcheck_3 (x y z u : Int) (B off cap : Nat) (W : World) (p0 : W.cell? ⟨B, off, none⟩ = some (.int .i64 x)) (p1 : W.cell? ⟨B, off + 1, none⟩ = some (.int .i64 y)) (p2 : W.cell? ⟨B, off + 2, none⟩ = some (.int .i64 z)) (p3 : W.cell? ⟨B, off + 3, none⟩ = some (.int .i64 u)) :
    Calls Tryz.prog 33 #[.agg #[.int .i64 3, .slice (some ⟨B, off, none⟩) 2 cap]] W (RChTo W (boxN x y z u)) := by
  have A1 := c_rCheckBox x y z u
  rw [boxN_code] at A1
  generalize boxN x y z u = c at A1 ⊢
  have hB := World.block_lt_of_cell? _ _ p0
  have p4 : W.cell? ⟨B, off + 2 + 1, none⟩ = some (.int .i64 u) := p3
  have H1 := Lib.hid A1
  clear A1
  go_enter Tryz.func33, Tryz.ntmps33
  go_wp2_with fail
  go_wp2_with fail
  refine wp_region_spread (by kernel_rfl) (by kernel_rfl) ?_
  try simp only [List.append]
  repeat (first | go_big_quiet_skip | (go_big_quiet_want; go_big_quiet_op; (first | go_big_quiet_on | (apply Exists.intro; refine ⟨fun _ => ?_, ?_⟩; (· (first | (go_at_call 25; first | ((with_reducible refine ((H1.out _)).mono ?_); rintro e w' ⟨rfl, hg⟩; exact ⟨rfl, spread_gr hg⟩)))); go_big_quiet_on))))
  refine wpQuiet_nil ?_
  intro w2 hhw2
  have hw2 := Hd.gr_of_spread hhw2
  have gw2 : Gr W w2 := Gr.trans (by go_grown) hw2
  clear hw2 hhw2
  go_wp2_with fail
  go_ret
  exact ⟨rfl, gw2⟩
theorem c_rCheck {n : Nat} {X Y : Nat → Int} {v : Value} (k : Int) (W : World) (h : Pts W v n X Y) :
    Calls Tryz.prog 33 #[.agg #[.int .i64 k, v]] W (RChTo W (objC k n X Y)) := by
  by_cases h4 : k = 4
  · subst h4; rw [objC_4]; exact rcheck_ring W h
  obtain ⟨ad, cap, _, _, rfl, _⟩ := (show Pts W v n X Y from h)
  by_cases h3 : k = 3
  · subst h3
    rw [objC_3]
    by_cases hn : n = 2
    · rw [if_pos hn]
      subst hn
      obtain ⟨B, off, rfl, hB, p0, p1, p2⟩ := pts_at0 h (by omega)
      exact rcheck_3 _ _ _ _ B off cap W p0 p1 (p2 (by omega)).1 (p2 (by omega)).2
    · rw [if_neg hn]
      exact rcheck_verts 3 n cap ad W (Or.inr (Or.inr ⟨rfl, hn⟩))
  by_cases h1 : k = 1
  · subst h1
    rw [objC_1]
    by_cases hn : n = 1
    · rw [if_pos hn]
      subst hn
      obtain ⟨B, off, rfl, hB, p0, p1, p2⟩ := pts_at0 h (by omega)
      exact rcheck_1 _ _ B off cap W p0 p1
    · rw [if_neg hn]
      exact rcheck_verts 1 n cap ad W (Or.inl ⟨rfl, hn⟩)
  by_cases h2 : k = 2
  · subst h2
    rw [objC_2]
    by_cases hn : n = 1
    · rw [if_pos hn]
      subst hn
      obtain ⟨B, off, rfl, hB, p0, p1, p2⟩ := pts_at0 h (by omega)
      exact rcheck_2 _ _ B off cap W p0 p1
    · rw [if_neg hn]
      exact rcheck_verts 2 n cap ad W (Or.inr (Or.inl ⟨rfl, hn⟩))
  rw [objC_x h4 h3 h1 h2]
  exact rcheck_kind k n cap ad W h4 h3 h1 h2
end Go.Proofs.YtfobmlgpjhghdaaGreatDoor
namespace Go.Proofs.YtfobmlgpjhghdaaGreatDoor
set_option linter.unusedVariables false
set_option linter.unusedSimpArgs false
open Go.ChangeShapes Go.WideShapes Go.ChangeAt Go.RowKit
def qC (k lx ly hx hy : Int) (n : Nat) (X Y : Nat → Int) : Nat :=
  if k = 1 ∨ k = 2 then boxN lx ly hx hy else if k = 3 then (if nearB lx ly = true then 0 else 2) else if k = 4 then (Rg.ringC n X Y).1 else 5
abbrev queryS : ByteArray := ⟨#[113, 117, 101, 114, 121]⟩
abbrev qryV (k lx ly hx hy : Int) (v : Value) : Value := .agg #[.int .i64 k, .int .i64 lx, .int .i64 ly, .int .i64 hx, .int .i64 hy, v]
set_option maxHeartbeats 2000000 in
set_option maxRecDepth 100000 in
theorem c_qRefusal {n : Nat} {X Y : Nat → Int} {v : Value} (k lx ly hx hy : Int) (W : World) (h : Pts W v n X Y) :
    Calls Tryz.prog 66 #[qryV k lx ly hx hy v] W (ObjTo W (qC k lx ly hx hy n X Y)) := by
  have A1 := fun w => c_CheckBox lx ly hx hy w
  have A2 := fun w => c_CheckPoint lx ly w
  have A3 : ∀ w, Gr W w → Calls Tryz.prog 52 #[v] w fun e w' => ∃ f, e = .returned f ∧ AErr ringS w' f (Rg.ringC n X Y).2 (Rg.ringC n X Y).1 ∧ Gr w w' := fun w g => c_ringCheck w (pts_gr h g)
  obtain ⟨ad, cap, B, off, rfl, _⟩ := h
  unfold qC
  generalize (Rg.ringC n X Y).1 = c at A3 ⊢
  generalize (Rg.ringC n X Y).2 = id at A3
  by_cases k12 : k = 1 ∨ k = 2
  · rw [if_pos k12]
    have E := fun w => boxN_err w lx ly hx hy
    obtain ⟨u, hu⟩ : ∃ u, u = boxErr lx ly hx hy := ⟨_, rfl⟩
    rw [← hu] at A1 E
    generalize boxN lx ly hx hy = c at E ⊢
    have H1 := Lib.hid A1
    clear A1
    have HE := Lib.hid E
    clear hu E A2 A3
    rcases k12 with rfl | rfl
    all_goals
      go_enter Tryz.func66, Tryz.ntmps66
      go_wp2_with fail
      go_at_call 96
      refine ((H1.out _)).mono ?_
      rintro e w1 ⟨rfl, hw1⟩
      have gw1 : Gr W w1 := Gr.trans (by go_grown) hw1
      clear hw1
      go_wp2_with fail
      go_ret
      exact ⟨_, rfl, HE.out _, gw1⟩
  rw [if_neg k12]
  have b1 : (k == 1) = false := by simp; omega
  have b2 : (k == 2) = false := by simp; omega
  by_cases k3 : k = 3
  · rw [if_pos k3]
    subst k3
    have E : ∀ w, OErr w (if nearB lx ly = true then .nilIface else .iface 66 (.int .i64 2)) (if nearB lx ly = true then 0 else 2) := fun w => by
      cases nearB lx ly
      · exact errno_one w 2 (by omega)
      · exact Or.inl ⟨rfl, rfl⟩
    generalize (if nearB lx ly = true then Value.nilIface else .iface 66 (.int .i64 2)) = u at A2 E
    generalize (if nearB lx ly = true then 0 else 2) = c at E ⊢
    have H2 := Lib.hid A2
    clear A2
    have HE := Lib.hid E
    clear E A1 A3 k12
    go_enter Tryz.func66, Tryz.ntmps66
    go_wp2_with fail
    go_at_call 45
    refine ((H2.out _)).mono ?_
    rintro e w1 ⟨rfl, hw1⟩
    have gw1 : Gr W w1 := Gr.trans (by go_grown) hw1
    clear hw1
    go_wp2_with fail
    go_ret
    exact ⟨_, rfl, HE.out _, gw1⟩
  rw [if_neg k3]
  have b3 : (k == 3) = false := by simp; omega
  by_cases k4 : k = 4
  · rw [if_pos k4]
    subst k4
    have H3 := Lib.hid A3
    clear A3
    clear A1 A2 k12 k3
    go_enter Tryz.func66, Tryz.ntmps66
    go_wp2_with fail
    go_at_call 52
    refine (H3.out _ (by go_grown)).mono ?_
    rintro e w1 ⟨x, rfl, hx, g1⟩
    have HX := Lib.hid hx
    clear hx
    go_wp2_with fail
    go_ret
    exact ⟨_, rfl, oerr_aerr HX.out, Gr.trans (by go_grown) g1⟩
  rw [if_neg k4]
  have b4 : (k == 4) = false := by simp; omega
  have HE := Lib.hid (fun w => errno_one w 5 (by omega))
  clear A1 A2 A3 k12 k3 k4
  go_enter Tryz.func66, Tryz.ntmps66
  go_wp2_with fail
  go_ret
  exact ⟨_, rfl, HE.out _, by go_grown⟩
set_option maxHeartbeats 2000000 in
set_option maxRecDepth 100000 in
theorem c_CheckQuery {n : Nat} {X Y : Nat → Int} {v : Value} (k lx ly hx hy : Int) (W : World) (h : Pts W v n X Y) :
    Calls Tryz.prog 40 #[qryV k lx ly hx hy v] W (WrTo queryS W k (qC k lx ly hx hy n X Y)) := by
  have A1 : ∀ w, Gr W w → Calls Tryz.prog 66 #[qryV k lx ly hx hy v] w fun e w' => ∃ u, e = .returned u ∧ OErr w' u (qC k lx ly hx hy n X Y) ∧ Gr w w' := fun w g => c_qRefusal k lx ly hx hy w (pts_gr h g)
  generalize qC k lx ly hx hy n X Y = c at A1 ⊢
  have A2 : ∀ (w : World) (u : Value), OErr w u c → Calls Tryz.prog 59 #[.string queryS, .int .i64 k, u] w fun e w' => ∃ x, e = .returned x ∧ WErr queryS w' x k c ∧ Gr w w' := fun w u hu => c_told queryS k u c w hu
  obtain ⟨ad, cap, B, off, rfl, _⟩ := h
  have H1 := Lib.hid A1
  have H2 := Lib.hid A2
  clear A1 A2
  go_enter Tryz.func40, Tryz.ntmps40
  go_wp2_with fail
  try simp only [List.append]
  refine Od.wp_region_ord [(0, false), (1, false), (2, false), (3, true), (4, true), (5, false)] (by kernel_rfl) (by kernel_rfl) ?_
  intro w0 hw0 KQ hKQ
  have cw0_0_0 := ci hw0 (W.heap.size) 0 k (by go_simp)
  have cw0_0_1 := ci hw0 (W.heap.size) 1 lx (by go_simp)
  have cw0_0_2 := ci hw0 (W.heap.size) 2 ly (by go_simp)
  have cw0_0_3 := ci hw0 (W.heap.size) 3 hx (by go_simp)
  have cw0_0_4 := ci hw0 (W.heap.size) 4 hy (by go_simp)
  have cw0_0_5 := cg hw0 (W.heap.size) 5 (.slice ad n cap) (by go_simp)
  have gw0 : Gr W w0 := Gr.trans (by go_grown) hw0
  skip
  clear hw0
  repeat (first | (refine Od.wpO_skip (by simp only [List.getElem?_toArray, List.getElem?_cons_succ, List.getElem?_cons_zero] <;> rfl) rfl ?_; simp only [Act.put, List.setIfInBounds_toArray, List.set_cons_zero, List.set_cons_succ]) | (refine Od.wpO_pure (by simp only [List.getElem?_toArray, List.getElem?_cons_succ, List.getElem?_cons_zero] <;> rfl) rfl ?_; apply Exists.intro; refine ⟨?_, ?_⟩; (· intro wx gx; obtain ⟨mx, rfl⟩ := spread_of_gr gx; clear gx; all_goals (apply Od.pAt_of_quiet; intro K hK; go_big_quiet_op; first | exact hK _ rfl | (apply Exists.intro; refine ⟨fun _ => ?_, ?_⟩; (· fail); exact hK _ rfl))); try simp only [Act.put, List.setIfInBounds_toArray, List.set_cons_zero, List.set_cons_succ]))
  refine Od.wpO_call (by simp only [List.getElem?_toArray, List.getElem?_cons_succ, List.getElem?_cons_zero] <;> rfl) rfl ?_
  intro QS hQS
  go_wp2_with fail
  go_at_call 66
  (with_reducible refine ((H1.out _ gw0)).mono ?_)
  rintro e w1 ⟨u, rfl, hu, hw1⟩
  go_wp2_with fail
  apply Exists.intro
  refine ⟨?_, hw1, ?_⟩
  · simp only [Act.put, List.setIfInBounds_toArray, List.set_cons_zero, List.set_cons_succ]; rfl
  have gw1 : Gr W w1 := Gr.trans (by have gg := gw0; have gs := gg.size; go_grown) hw1
  clear gw0 cw0_0_0 cw0_0_1 cw0_0_2 cw0_0_3 cw0_0_4 cw0_0_5
  clear hw1
  try simp only [Act.put, List.setIfInBounds_toArray, List.set_cons_zero, List.set_cons_succ]
  repeat (first | (refine Od.wpO_skip (by simp only [List.getElem?_toArray, List.getElem?_cons_succ, List.getElem?_cons_zero] <;> rfl) rfl ?_; simp only [Act.put, List.setIfInBounds_toArray, List.set_cons_zero, List.set_cons_succ]) | (refine Od.wpO_pure (by simp only [List.getElem?_toArray, List.getElem?_cons_succ, List.getElem?_cons_zero] <;> rfl) rfl ?_; apply Exists.intro; refine ⟨?_, ?_⟩; (· intro wx gx; obtain ⟨mx, rfl⟩ := spread_of_gr gx; clear gx; all_goals (apply Od.pAt_of_quiet; intro K hK; go_big_quiet_op; first | exact hK _ rfl | (apply Exists.intro; refine ⟨fun _ => ?_, ?_⟩; (· fail); exact hK _ rfl))); try simp only [Act.put, List.setIfInBounds_toArray, List.set_cons_zero, List.set_cons_succ]))
  refine Od.wpO_call (by simp only [List.getElem?_toArray, List.getElem?_cons_succ, List.getElem?_cons_zero] <;> rfl) rfl ?_
  intro QS hQS
  go_wp2_with fail
  go_at_call 59
  (with_reducible refine ((H2.out _ _ hu)).mono ?_)
  rintro e w2 ⟨x, rfl, hz, hw2⟩
  go_wp2_with fail
  apply Exists.intro
  refine ⟨?_, hw2, ?_⟩
  · simp only [Act.put, List.setIfInBounds_toArray, List.set_cons_zero, List.set_cons_succ]; rfl
  have gw2 : Gr W w2 := Gr.trans (by have gg := gw1; have gs := gg.size; go_grown) hw2
  clear gw1
  clear hw2
  try simp only [Act.put, List.setIfInBounds_toArray, List.set_cons_zero, List.set_cons_succ]
  repeat (first | (refine Od.wpO_skip (by simp only [List.getElem?_toArray, List.getElem?_cons_succ, List.getElem?_cons_zero] <;> rfl) rfl ?_; simp only [Act.put, List.setIfInBounds_toArray, List.set_cons_zero, List.set_cons_succ]) | (refine Od.wpO_pure (by simp only [List.getElem?_toArray, List.getElem?_cons_succ, List.getElem?_cons_zero] <;> rfl) rfl ?_; apply Exists.intro; refine ⟨?_, ?_⟩; (· intro wx gx; obtain ⟨mx, rfl⟩ := spread_of_gr gx; clear gx; all_goals (apply Od.pAt_of_quiet; intro K hK; go_big_quiet_op; first | exact hK _ rfl | (apply Exists.intro; refine ⟨fun _ => ?_, ?_⟩; (· fail); exact hK _ rfl))); try simp only [Act.put, List.setIfInBounds_toArray, List.set_cons_zero, List.set_cons_succ]))
  refine Od.wpO_nil (hKQ _ _ ?_)
  clear hKQ KQ
  have HX := Lib.hid hz
  clear hz
  go_wp2_with fail
  go_ret
  exact ⟨_, rfl, HX.out, gw2⟩
set_option maxHeartbeats 2000000 in
set_option maxRecDepth 100000 in
theorem c_rCheckQuery {n : Nat} {X Y : Nat → Int} {v : Value} (k lx ly hx hy : Int) (W : World) (h : Pts W v n X Y) :
    Calls Tryz.prog 31 #[qryV k lx ly hx hy v] W (RChTo W (qC k lx ly hx hy n X Y)) := by
  have A1 := fun w => c_rCheckBox lx ly hx hy w
  rw [boxN_code] at A1
  have A2 := fun w => c_rPoint lx ly w
  have A3 : ∀ w, Gr W w → Calls Tryz.prog 54 #[v] w fun e w' => e = .returned (.tuple #[.int .i64 ((Rg.ringC n X Y).1 : Nat), .int .i64 ((Rg.ringC n X Y).2 : Nat)]) ∧ Gr w w' := fun w g => c_CheckRing w (pts_gr h g)
  obtain ⟨ad, cap, B, off, rfl, _⟩ := h
  unfold qC
  generalize (Rg.ringC n X Y).1 = c at A3 ⊢
  generalize (Rg.ringC n X Y).2 = id at A3
  by_cases k12 : k = 1 ∨ k = 2
  · rw [if_pos k12]
    generalize boxN lx ly hx hy = c at A1 ⊢
    have H1 := Lib.hid A1
    clear A1
    clear A2 A3
    rcases k12 with rfl | rfl
    all_goals
      go_enter Tryz.func31, Tryz.ntmps31
      go_wp2_with fail
      go_at_call 25
      refine ((H1.out _)).mono ?_
      rintro e w1 ⟨rfl, hw1⟩
      have gw1 : Gr W w1 := Gr.trans (by go_grown) hw1
      clear hw1
      go_wp2_with fail
      go_ret
      exact ⟨rfl, gw1⟩
  rw [if_neg k12]
  have b1 : (k == 1) = false := by simp; omega
  have b2 : (k == 2) = false := by simp; omega
  by_cases k3 : k = 3
  · rw [if_pos k3]
    subst k3
    cases hq : nearB lx ly
    · rw [hq] at A2
      rw [if_neg (by decide)]
      have H2 := Lib.hid A2
      clear A2
      clear A1 A3 k12 hq
      go_enter Tryz.func31, Tryz.ntmps31
      go_wp2_with fail
      go_at_call 24
      refine ((H2.out _)).mono ?_
      rintro e w1 ⟨rfl, hw1⟩
      have gw1 : Gr W w1 := Gr.trans (by go_grown) hw1
      clear hw1
      go_wp2_with fail
      go_ret
      exact ⟨rfl, gw1⟩
    · rw [hq] at A2
      rw [if_pos rfl]
      have H2 := Lib.hid A2
      clear A2
      clear A1 A3 k12 hq
      go_enter Tryz.func31, Tryz.ntmps31
      go_wp2_with fail
      go_at_call 24
      refine ((H2.out _)).mono ?_
      rintro e w1 ⟨rfl, hw1⟩
      have gw1 : Gr W w1 := Gr.trans (by go_grown) hw1
      clear hw1
      go_wp2_with fail
      go_ret
      exact ⟨rfl, gw1⟩
  rw [if_neg k3]
  have b3 : (k == 3) = false := by simp; omega
  by_cases k4 : k = 4
  · rw [if_pos k4]
    subst k4
    have H3 := Lib.hid A3
    clear A3
    clear A1 A2 k12 k3
    go_enter Tryz.func31, Tryz.ntmps31
    go_wp2_with fail
    go_at_call 54
    refine ((H3.out _ (by go_grown))).mono ?_
    rintro e w1 ⟨rfl, hw1⟩
    have gw1 : Gr W w1 := Gr.trans (by go_grown) hw1
    clear hw1
    go_wp2_with fail
    go_ret
    exact ⟨rfl, gw1⟩
  rw [if_neg k4]
  have b4 : (k == 4) = false := by simp; omega
  clear A1 A2 A3 k12 k3 k4
  go_enter Tryz.func31, Tryz.ntmps31
  go_wp2_with fail
  go_ret
  exact ⟨rfl, by go_grown⟩
end Go.Proofs.YtfobmlgpjhghdaaGreatDoor
namespace Go.Proofs.YtfobmlgpjhghdaaGreatDoor
set_option linter.unusedVariables false
open Go.ChangeShapes Go.WideShapes Go.ChangeAt Go.RowKit
def mnN (F : Nat → Int) : Nat → Int
  | 0 => 0
  | n + 1 => if n = 0 then F n else minZ (mnN F n) (F n)
def mxN (F : Nat → Int) : Nat → Int
  | 0 => 0
  | n + 1 => if n = 0 then F n else maxZ (mxN F n) (F n)
theorem mnN_0 (F : Nat → Int) {n : Nat} (h : n = 0) : mnN F (n + 1) = F n := by unfold mnN; rw [if_pos h]
theorem mnN_s (F : Nat → Int) {n : Nat} (h : ¬ n = 0) : mnN F (n + 1) = minZ (mnN F n) (F n) := by conv => lhs; unfold mnN; rw [if_neg h]
theorem mxN_0 (F : Nat → Int) {n : Nat} (h : n = 0) : mxN F (n + 1) = F n := by unfold mxN; rw [if_pos h]
theorem mxN_s (F : Nat → Int) {n : Nat} (h : ¬ n = 0) : mxN F (n + 1) = maxZ (mxN F n) (F n) := by conv => lhs; unfold mxN; rw [if_neg h]
set_option maxHeartbeats 4000000 in
set_option maxRecDepth 100000 in
theorem c_AroundN {n : Nat} {X Y : Nat → Int} {v : Value} (W : World) (h : Pts W v n X Y) (hn : n ≤ 1000000) :
    Calls Tryz.prog 62 #[v] W fun e w' => e = .returned (.agg #[.int .i64 (mnN X n), .int .i64 (mnN Y n), .int .i64 (mxN X n), .int .i64 (mxN Y n)]) ∧ Gr W w' := by
  obtain ⟨ad, cap, B, off, rfl, h1, h2, h3, h4⟩ := h
  have H3 := Lib.hid h3
  have H4 := Lib.hid h4
  have hn9 : (n : Int) ≤ 1000000 := by omega
  clear h3 h4
  go_enter Tryz.func62, Tryz.ntmps62
  go_wp2_with fail
  go_loopg [10] n (fun k u wr => ∃ i : Nat, u = .int .i64 i ∧ i ≤ n ∧ k = n - i ∧
    wr.cell? ⟨W.heap.size, 0, none⟩ = some (.int .i64 0) ∧ wr.cell? ⟨W.heap.size, 1, none⟩ = some (.int .i64 0) ∧ wr.cell? ⟨W.heap.size, 2, none⟩ = some (.int .i64 0) ∧ wr.cell? ⟨W.heap.size, 3, none⟩ = some (.int .i64 0) ∧
    wr.frozen? ⟨W.heap.size, 0, none⟩ = false ∧ wr.frozen? ⟨W.heap.size, 1, none⟩ = false ∧ wr.frozen? ⟨W.heap.size, 2, none⟩ = false ∧ wr.frozen? ⟨W.heap.size, 3, none⟩ = false ∧
    wr.cell? ⟨W.heap.size + 1, 0, none⟩ = some (.int .i64 (mnN X i)) ∧ wr.cell? ⟨W.heap.size + 1, 1, none⟩ = some (.int .i64 (mnN Y i)) ∧ wr.cell? ⟨W.heap.size + 1, 2, none⟩ = some (.int .i64 (mxN X i)) ∧ wr.cell? ⟨W.heap.size + 1, 3, none⟩ = some (.int .i64 (mxN Y i)) ∧
    wr.frozen? ⟨W.heap.size + 1, 0, none⟩ = false ∧ wr.frozen? ⟨W.heap.size + 1, 1, none⟩ = false ∧ wr.frozen? ⟨W.heap.size + 1, 2, none⟩ = false ∧ wr.frozen? ⟨W.heap.size + 1, 3, none⟩ = false ∧ Gr W wr)
  case atStart => exact ⟨0, rfl, Nat.zero_le _, by omega, by go_simp, by go_simp, by go_simp, by go_simp, by go_simp, by go_simp, by go_simp, by go_simp, (show _ = some (Value.int .i64 0) by go_simp), (show _ = some (Value.int .i64 0) by go_simp), (show _ = some (Value.int .i64 0) by go_simp), (show _ = some (Value.int .i64 0) by go_simp), by go_simp, by go_simp, by go_simp, by go_simp, by go_grown⟩
  case round =>
    obtain ⟨i, rfl, hi, hk, c0, c1, c2, c3, f0, f1, f2, f3, a0, a1, a2, a3, g0, g1, g2, g3, gwr⟩ := hrel
    have zwr0 := zb c0
    have zwr := zb a0
    by_cases hlt : i < n
    · have ti : decide ((i : Int) < (n : Int)) = true := decide_eq_true (by omega)
      have ti2 : decide (i < n) = true := decide_eq_true hlt
      have ti3 : (i : Int) < (n : Int) := by omega
      have hii : (i : Int) ≤ 1000000 := by omega
      have hmm : n - (i + 1) < gk := by omega
      obtain ⟨k0, k1⟩ := H4.out i hlt
      obtain rfl := H3.out (by omega)
      have s0 := cell_gr gwr k0
      have s1 := cell_gr gwr k1
      have zB := zb k0
      have nB1 : ¬ B = W.heap.size + 1 := by omega
      have nB2 : ¬ W.heap.size + 1 = B := by omega
      have nB3 : ¬ B = W.heap.size := by omega
      have nB4 : ¬ W.heap.size = B := by omega
      have CJ := Lib.hid (c_join_self (X i) (Y i) (X i) (Y i))
      have CK := Lib.hid (c_join (mnN X i) (mnN Y i) (mxN X i) (mxN Y i) (X i) (Y i) (X i) (Y i))
      by_cases c : i = 0
      · have E := Lib.hid (And.intro (mnN_0 X c) (And.intro (mnN_0 Y c) (And.intro (mxN_0 X c) (mxN_0 Y c))))
        have u1 : ((i : Int) == 0) = true := by simp; omega
        have u2 : (i == 0) = true := by simp; omega
        generalize mnN X i = a at a0 CK
        generalize mnN Y i = b at a1 CK
        generalize mxN X i = d at a2 CK
        generalize mxN Y i = e at a3 CK
        generalize X i = x at *
        generalize Y i = y at *
        clear hk k0 k1 c CK
        go_wp2_with fail
        go_at_call 101
        refine ((CJ.out _)).mono ?_
        rintro e w1 ⟨rfl, hw1⟩
        have cw1_0_0 := ci hw1 (W.heap.size) 0 0 (by go_simp)
        have fw1_0_0 := fq hw1 (W.heap.size) 0 (.int .i64 0) (by go_simp) (by go_simp)
        have cw1_0_1 := ci hw1 (W.heap.size) 1 0 (by go_simp)
        have fw1_0_1 := fq hw1 (W.heap.size) 1 (.int .i64 0) (by go_simp) (by go_simp)
        have cw1_0_2 := ci hw1 (W.heap.size) 2 0 (by go_simp)
        have fw1_0_2 := fq hw1 (W.heap.size) 2 (.int .i64 0) (by go_simp) (by go_simp)
        have cw1_0_3 := ci hw1 (W.heap.size) 3 0 (by go_simp)
        have fw1_0_3 := fq hw1 (W.heap.size) 3 (.int .i64 0) (by go_simp) (by go_simp)
        have cw1_1_0 := ci hw1 (W.heap.size + 1) 0 x (by go_simp)
        have fw1_1_0 := fq hw1 (W.heap.size + 1) 0 (.int .i64 x) (by go_simp) (by go_simp)
        have cw1_1_1 := ci hw1 (W.heap.size + 1) 1 y (by go_simp)
        have fw1_1_1 := fq hw1 (W.heap.size + 1) 1 (.int .i64 y) (by go_simp) (by go_simp)
        have cw1_1_2 := ci hw1 (W.heap.size + 1) 2 x (by go_simp)
        have fw1_1_2 := fq hw1 (W.heap.size + 1) 2 (.int .i64 x) (by go_simp) (by go_simp)
        have cw1_1_3 := ci hw1 (W.heap.size + 1) 3 y (by go_simp)
        have fw1_1_3 := fq hw1 (W.heap.size + 1) 3 (.int .i64 y) (by go_simp) (by go_simp)
        have gw1 : Gr W w1 := Gr.trans (by have gg := gwr; have gs := gg.size; go_grown) hw1
        clear hw1 gwr
        go_wp2_with fail
        go_roundg (n - (i + 1))
        case measure => exact hmm
        case rel =>
          refine ⟨i + 1, by go_num, hlt, rfl, by go_simp, by go_simp, by go_simp, by go_simp, by go_simp, by go_simp, by go_simp, by go_simp, ?_, ?_, ?_, ?_, by go_simp, by go_simp, by go_simp, by go_simp, by have gg := gw1; have gs := gg.size; go_grown⟩
          · rw [E.out.1]; go_simp
          · rw [E.out.2.1]; go_simp
          · rw [E.out.2.2.1]; go_simp
          · rw [E.out.2.2.2]; go_simp
      · have E := Lib.hid (And.intro (mnN_s X c) (And.intro (mnN_s Y c) (And.intro (mxN_s X c) (mxN_s Y c))))
        have u1 : ((i : Int) == 0) = false := by simp; omega
        have u2 : (i == 0) = false := by simp; omega
        generalize mnN X i = a at a0 CK E
        generalize mnN Y i = b at a1 CK E
        generalize mxN X i = d at a2 CK E
        generalize mxN Y i = e at a3 CK E
        generalize X i = x at *
        generalize Y i = y at *
        generalize minZ a x = m1 at *
        generalize minZ b y = m2 at *
        generalize maxZ d x = m3 at *
        generalize maxZ e y = m4 at *
        clear hk k0 k1 c CJ
        go_wp2_with fail
        go_at_call 101
        refine ((CK.out _)).mono ?_
        rintro e w1 ⟨rfl, hw1⟩
        have cw1_0_0 := ci hw1 (W.heap.size) 0 0 (by go_simp)
        have fw1_0_0 := fq hw1 (W.heap.size) 0 (.int .i64 0) (by go_simp) (by go_simp)
        have cw1_0_1 := ci hw1 (W.heap.size) 1 0 (by go_simp)
        have fw1_0_1 := fq hw1 (W.heap.size) 1 (.int .i64 0) (by go_simp) (by go_simp)
        have cw1_0_2 := ci hw1 (W.heap.size) 2 0 (by go_simp)
        have fw1_0_2 := fq hw1 (W.heap.size) 2 (.int .i64 0) (by go_simp) (by go_simp)
        have cw1_0_3 := ci hw1 (W.heap.size) 3 0 (by go_simp)
        have fw1_0_3 := fq hw1 (W.heap.size) 3 (.int .i64 0) (by go_simp) (by go_simp)
        have cw1_1_0 := ci hw1 (W.heap.size + 1) 0 a (by go_simp)
        have fw1_1_0 := fq hw1 (W.heap.size + 1) 0 (.int .i64 a) (by go_simp) (by go_simp)
        have cw1_1_1 := ci hw1 (W.heap.size + 1) 1 b (by go_simp)
        have fw1_1_1 := fq hw1 (W.heap.size + 1) 1 (.int .i64 b) (by go_simp) (by go_simp)
        have cw1_1_2 := ci hw1 (W.heap.size + 1) 2 d (by go_simp)
        have fw1_1_2 := fq hw1 (W.heap.size + 1) 2 (.int .i64 d) (by go_simp) (by go_simp)
        have cw1_1_3 := ci hw1 (W.heap.size + 1) 3 e (by go_simp)
        have fw1_1_3 := fq hw1 (W.heap.size + 1) 3 (.int .i64 e) (by go_simp) (by go_simp)
        have gw1 : Gr W w1 := Gr.trans (by have gg := gwr; have gs := gg.size; go_grown) hw1
        clear hw1 gwr
        go_wp2_with fail
        go_roundg (n - (i + 1))
        case measure => exact hmm
        case rel =>
          refine ⟨i + 1, by go_num, hlt, rfl, by go_simp, by go_simp, by go_simp, by go_simp, by go_simp, by go_simp, by go_simp, by go_simp, ?_, ?_, ?_, ?_, by go_simp, by go_simp, by go_simp, by go_simp, by have gg := gw1; have gs := gg.size; go_grown⟩
          · rw [E.out.1]; go_simp
          · rw [E.out.2.1]; go_simp
          · rw [E.out.2.2.1]; go_simp
          · rw [E.out.2.2.2]; go_simp
    · obtain rfl : i = n := by omega
      have ti : decide ((i : Int) < (i : Int)) = false := decide_eq_false (by omega)
      have ti2 : decide (i < i) = false := decide_eq_false (by omega)
      clear hk
      go_wp2_with fail
      refine bodyPost_ret (v := .agg #[.int .i64 (mnN X i), .int .i64 (mnN Y i), .int .i64 (mxN X i), .int .i64 (mxN Y i)]) (by simp [results, Tryz.results62, go_sem, *]) rfl ⟨rfl, by have gg := gwr; have gs := gg.size; go_grown⟩
end Go.Proofs.YtfobmlgpjhghdaaGreatDoor
namespace Go.Proofs.YtfobmlgpjhghdaaGreatDoor
set_option linter.unusedVariables false
open Go.ChangeShapes Go.WideShapes Go.ChangeAt Go.RowKit
def ovB (lx ly hx hy ax ay bx by' : Int) : Bool := decide (minZ ax bx ≤ hx) && decide (lx ≤ maxZ ax bx) && decide (minZ ay by' ≤ hy) && decide (ly ≤ maxZ ay by')
theorem ovB_iff {lx ly hx hy ax ay bx by' : Int} : ovB lx ly hx hy ax ay bx by' = true ↔ ovP lx ly hx hy ax ay bx by' := by
  unfold ovB ovP
  simp only [Bool.and_eq_true, decide_eq_true_eq, min_le', le_max, and_assoc]
theorem inB_P {lx ly hx hy px py : Int} : inB lx ly hx hy px py = true ↔ inP lx ly hx hy px py := by
  rw [inB_iff]; rfl
def mbF (ax ay bx by' lx ly hx hy : Int) : Bool := ovB lx ly hx hy ax ay bx by' && (inB lx ly hx hy ax ay || inB lx ly hx hy bx by' || diF lx ly hx hy ax ay bx by')
def mbG (ax ay bx by' lx ly hx hy : Int) : Bool := nearB ax ay && nearB bx by' && boxB lx ly hx hy && mbF ax ay bx by' lx ly hx hy
set_option maxHeartbeats 4000000 in
set_option maxRecDepth 100000 in
theorem gmb_no (ax ay bx by' lx ly hx hy k : Int) (q : Bool) (ev : Value) (W : World) (hc : q = false ∨ (q = true ∧ ev = .iface 66 (.int .i64 k)))
    (A1 : ∀ b w, b < w.heap.size → w.cell? ⟨b, 0, none⟩ = some (.int .i64 ax) → w.cell? ⟨b, 1, none⟩ = some (.int .i64 ay) → w.cell? ⟨b, 2, none⟩ = some (.int .i64 bx) → w.cell? ⟨b, 3, none⟩ = some (.int .i64 by') →
      Calls Tryz.prog 116 #[.slice (some ⟨b, 0, none⟩) 2 2] w fun e w' => e = .returned (.bool q) ∧ Gr w w')
    (A2 : ∀ w, Calls Tryz.prog 96 #[.agg #[.int .i64 lx, .int .i64 ly, .int .i64 hx, .int .i64 hy]] w fun e w' => e = .returned (ev) ∧ Gr w w') :
    Calls Tryz.prog 88 #[.agg #[.int .i64 ax, .int .i64 ay], .agg #[.int .i64 bx, .int .i64 by'], .agg #[.int .i64 lx, .int .i64 ly, .int .i64 hx, .int .i64 hy]] W fun e w' => e = .returned (.bool false) ∧ Gr W w' := by
  have H1 := Lib.hid A1
  have H2 := Lib.hid A2
  clear A1 A2
  rcases hc with rfl | ⟨rfl, rfl⟩
  · go_enter Tryz.func88, Tryz.ntmps88
    go_wp2_with fail
    go_at_call 116
    refine ((H1.out _ _ (by go_simp) (by go_simp) (by go_simp) (by go_simp) (by go_simp))).mono ?_
    rintro e w1 ⟨rfl, hw1⟩
    have cw1_2_0 := ci hw1 (W.heap.size + 1 + 1) 0 lx (by go_simp)
    have cw1_2_1 := ci hw1 (W.heap.size + 1 + 1) 1 ly (by go_simp)
    have cw1_2_2 := ci hw1 (W.heap.size + 1 + 1) 2 hx (by go_simp)
    have cw1_2_3 := ci hw1 (W.heap.size + 1 + 1) 3 hy (by go_simp)
    have gw1 : Gr W w1 := Gr.trans (by go_grown) hw1
    clear hw1
    go_wp2_with fail
    go_ret
    exact ⟨rfl, by go_grown⟩
  · go_enter Tryz.func88, Tryz.ntmps88
    go_wp2_with fail
    go_at_call 116
    refine ((H1.out _ _ (by go_simp) (by go_simp) (by go_simp) (by go_simp) (by go_simp))).mono ?_
    rintro e w1 ⟨rfl, hw1⟩
    have cw1_2_0 := ci hw1 (W.heap.size + 1 + 1) 0 lx (by go_simp)
    have cw1_2_1 := ci hw1 (W.heap.size + 1 + 1) 1 ly (by go_simp)
    have cw1_2_2 := ci hw1 (W.heap.size + 1 + 1) 2 hx (by go_simp)
    have cw1_2_3 := ci hw1 (W.heap.size + 1 + 1) 3 hy (by go_simp)
    have gw1 : Gr W w1 := Gr.trans (by go_grown) hw1
    clear hw1
    go_wp2_with fail
    go_at_call 96
    refine ((H2.out _)).mono ?_
    rintro e w2 ⟨rfl, hw2⟩
    have gw2 : Gr W w2 := Gr.trans (by have gg := gw1; have gs := gg.size; go_grown) hw2
    clear hw2 gw1 cw1_2_0 cw1_2_1 cw1_2_2 cw1_2_3
    go_wp2_with fail
    go_ret
    exact ⟨rfl, by go_grown⟩
theorem c_gMeetsBox (ax ay bx by' lx ly hx hy : Int) (W : World) : Calls Tryz.prog 88 #[.agg #[.int .i64 ax, .int .i64 ay], .agg #[.int .i64 bx, .int .i64 by'], .agg #[.int .i64 lx, .int .i64 ly, .int .i64 hx, .int .i64 hy]] W fun e w' => e = .returned (.bool (mbG ax ay bx by' lx ly hx hy)) ∧ Gr W w' := by
  have A1 := fun b w => c_gMayBe2 ax ay bx by' _ rfl b w
  have A2 := c_CheckBox lx ly hx hy
  unfold mbG
  cases hq : (nearB ax ay && nearB bx by')
  · rw [hq] at A1
    rw [Bool.false_and, Bool.false_and]
    exact gmb_no ax ay bx by' lx ly hx hy 0 false _ W (Or.inl rfl) A1 A2
  · rw [hq] at A1
    cases hb : boxB lx ly hx hy
    · obtain ⟨k, hk⟩ := boxErr_false hb
      rw [Bool.and_false, Bool.false_and]
      exact gmb_no ax ay bx by' lx ly hx hy k true _ W (Or.inr ⟨rfl, hk⟩) A1 A2
    · rw [boxErr_true hb] at A2
      have hn : nearB ax ay = true ∧ nearB bx by' = true := by simpa using hq
      have ha : boxB ax ay ax ay = true := by rw [boxB_iff]; exact ⟨⟨hn.1, hn.1⟩, by omega, by omega⟩
      have hb2 : boxB bx by' bx by' = true := by rw [boxB_iff]; exact ⟨⟨hn.2, hn.2⟩, by omega, by omega⟩
      have hj := box_join ha hb2
      have hbn := (boxB_iff.1 hb).1
      have A3 := fun b w => c_Around2 ax ay bx by' b w
      have A4 := c_Meets (minZ ax bx) (minZ ay by') (maxZ ax bx) (maxZ ay by') lx ly hx hy
      rw [hj, hb] at A4
      have A5 := c_Has lx ly hx hy ax ay
      have A6 := c_Has lx ly hx hy bx by'
      rw [hb, hn.1] at A5
      rw [hb, hn.2] at A6
      simp only [Bool.true_and] at A4 A5 A6
      have A7 := c_gMeet ax ay bx by' lx ly hx hy
      have A8 := c_gMeet ax ay bx by' lx hy hx ly
      have g1 : nearB lx hy = true := by
        have n1 := nearB_iff.1 hbn.1
        have n2 := nearB_iff.1 hbn.2
        rw [nearB_iff]; omega
      have g2 : nearB hx ly = true := by
        have n1 := nearB_iff.1 hbn.1
        have n2 := nearB_iff.1 hbn.2
        rw [nearB_iff]; omega
      rw [show meG ax ay bx by' lx ly hx hy = meF ax ay bx by' lx ly hx hy by unfold meG all4; rw [hn.1, hn.2, hbn.1, hbn.2]; rfl] at A7
      rw [show meG ax ay bx by' lx hy hx ly = meF ax ay bx by' lx hy hx ly by unfold meG all4; rw [hn.1, hn.2, g1, g2]; rfl] at A8
      simp only [Bool.true_and]
      refine gmb_in ax ay bx by' lx ly hx hy _ _ _ _ _ _ _ _ _ _ _ W ?_ rfl A1 A2 A3 A4 A5 A6 A7 A8
      unfold mbF ovB diF
      generalize (decide (minZ ax bx ≤ hx) && decide (lx ≤ maxZ ax bx) && decide (minZ ay by' ≤ hy) && decide (ly ≤ maxZ ay by')) = m
      generalize inB lx ly hx hy ax ay = h1
      generalize inB lx ly hx hy bx by' = h2
      generalize meF ax ay bx by' lx ly hx hy = k1
      generalize meF ax ay bx by' lx hy hx ly = k2
      cases m <;> cases h1 <;> cases h2 <;> cases k1 <;> simp
set_option maxHeartbeats 4000000 in
set_option maxRecDepth 100000 in
theorem rmb_no (ax ay bx by' lx ly hx hy k : Int) (q1 q2 ha hb r : Bool) (W : World)
    (hc : (q1 = false ∧ r = false) ∨ (q1 = true ∧ q2 = false ∧ r = false) ∨ (q1 = true ∧ q2 = true ∧ (k != 0) = true ∧ r = false) ∨ (q1 = true ∧ q2 = true ∧ k = 0 ∧ ha = true ∧ r = true) ∨ (q1 = true ∧ q2 = true ∧ k = 0 ∧ ha = false ∧ hb = true ∧ r = true))
    (A1 : ∀ w, Calls Tryz.prog 24 #[.agg #[.int .i64 ax, .int .i64 ay]] w fun e w' => e = .returned (.bool q1) ∧ Gr w w')
    (A2 : ∀ w, Calls Tryz.prog 24 #[.agg #[.int .i64 bx, .int .i64 by']] w fun e w' => e = .returned (.bool q2) ∧ Gr w w')
    (A3 : ∀ w, Calls Tryz.prog 25 #[.agg #[.int .i64 lx, .int .i64 ly, .int .i64 hx, .int .i64 hy]] w fun e w' => e = .returned (.int .i64 k) ∧ Gr w w')
    (A4 : ∀ w, Calls Tryz.prog 28 #[.agg #[.int .i64 lx, .int .i64 ly, .int .i64 hx, .int .i64 hy], .agg #[.int .i64 ax, .int .i64 ay]] w fun e w' => e = .returned (.bool ha) ∧ Gr w w')
    (A5 : ∀ w, Calls Tryz.prog 28 #[.agg #[.int .i64 lx, .int .i64 ly, .int .i64 hx, .int .i64 hy], .agg #[.int .i64 bx, .int .i64 by']] w fun e w' => e = .returned (.bool hb) ∧ Gr w w') :
    Calls Tryz.prog 71 #[.agg #[.int .i64 ax, .int .i64 ay], .agg #[.int .i64 bx, .int .i64 by'], .agg #[.int .i64 lx, .int .i64 ly, .int .i64 hx, .int .i64 hy]] W fun e w' => e = .returned (.bool r) ∧ Gr W w' := by
  have H1 := Lib.hid A1
  have H2 := Lib.hid A2
  have H3 := Lib.hid A3
  have H4 := Lib.hid A4
  have H5 := Lib.hid A5
  clear A1 A2 A3 A4 A5
  rcases hc with ⟨rfl, rfl⟩ | ⟨rfl, rfl, rfl⟩ | ⟨rfl, rfl, hk, rfl⟩ | ⟨rfl, rfl, rfl, rfl, rfl⟩ | ⟨rfl, rfl, rfl, rfl, rfl, rfl⟩
  · go_enter Tryz.func71, Tryz.ntmps71
    go_wp2_with fail
    go_at_call 24
    refine ((H1.out _)).mono ?_
    rintro e w1 ⟨rfl, hw1⟩
    have cw1_0_0 := ci hw1 (W.heap.size) 0 ax (by go_simp)
    have cw1_0_1 := ci hw1 (W.heap.size) 1 ay (by go_simp)
    have cw1_1_0 := ci hw1 (W.heap.size + 1) 0 bx (by go_simp)
    have cw1_1_1 := ci hw1 (W.heap.size + 1) 1 by' (by go_simp)
    have cw1_2_0 := ci hw1 (W.heap.size + 1 + 1) 0 lx (by go_simp)
    have cw1_2_1 := ci hw1 (W.heap.size + 1 + 1) 1 ly (by go_simp)
    have cw1_2_2 := ci hw1 (W.heap.size + 1 + 1) 2 hx (by go_simp)
    have cw1_2_3 := ci hw1 (W.heap.size + 1 + 1) 3 hy (by go_simp)
    have gw1 : Gr W w1 := Gr.trans (by go_grown) hw1
    clear hw1
    go_wp2_with fail
    go_ret
    exact ⟨rfl, by go_grown⟩
  · go_enter Tryz.func71, Tryz.ntmps71
    go_wp2_with fail
    go_at_call 24
    refine ((H1.out _)).mono ?_
    rintro e w1 ⟨rfl, hw1⟩
    have cw1_0_0 := ci hw1 (W.heap.size) 0 ax (by go_simp)
    have cw1_0_1 := ci hw1 (W.heap.size) 1 ay (by go_simp)
    have cw1_1_0 := ci hw1 (W.heap.size + 1) 0 bx (by go_simp)
    have cw1_1_1 := ci hw1 (W.heap.size + 1) 1 by' (by go_simp)
    have cw1_2_0 := ci hw1 (W.heap.size + 1 + 1) 0 lx (by go_simp)
    have cw1_2_1 := ci hw1 (W.heap.size + 1 + 1) 1 ly (by go_simp)
    have cw1_2_2 := ci hw1 (W.heap.size + 1 + 1) 2 hx (by go_simp)
    have cw1_2_3 := ci hw1 (W.heap.size + 1 + 1) 3 hy (by go_simp)
    have gw1 : Gr W w1 := Gr.trans (by go_grown) hw1
    clear hw1
    go_wp2_with fail
    go_at_call 24
    refine ((H2.out _)).mono ?_
    rintro e w2 ⟨rfl, hw2⟩
    have cw2_0_0 := ci hw2 (W.heap.size) 0 ax (by go_simp)
    have cw2_0_1 := ci hw2 (W.heap.size) 1 ay (by go_simp)
    have cw2_1_0 := ci hw2 (W.heap.size + 1) 0 bx (by go_simp)
    have cw2_1_1 := ci hw2 (W.heap.size + 1) 1 by' (by go_simp)
    have cw2_2_0 := ci hw2 (W.heap.size + 1 + 1) 0 lx (by go_simp)
    have cw2_2_1 := ci hw2 (W.heap.size + 1 + 1) 1 ly (by go_simp)
    have cw2_2_2 := ci hw2 (W.heap.size + 1 + 1) 2 hx (by go_simp)
    have cw2_2_3 := ci hw2 (W.heap.size + 1 + 1) 3 hy (by go_simp)
    have gw2 : Gr W w2 := Gr.trans (by have gg := gw1; have gs := gg.size; go_grown) hw2
    clear hw2 gw1 cw1_0_0 cw1_0_1 cw1_1_0 cw1_1_1 cw1_2_0 cw1_2_1 cw1_2_2 cw1_2_3
    go_wp2_with fail
    go_ret
    exact ⟨rfl, by go_grown⟩
  · go_enter Tryz.func71, Tryz.ntmps71
    go_wp2_with fail
    go_at_call 24
    refine ((H1.out _)).mono ?_
    rintro e w1 ⟨rfl, hw1⟩
    have cw1_0_0 := ci hw1 (W.heap.size) 0 ax (by go_simp)
    have cw1_0_1 := ci hw1 (W.heap.size) 1 ay (by go_simp)
    have cw1_1_0 := ci hw1 (W.heap.size + 1) 0 bx (by go_simp)
    have cw1_1_1 := ci hw1 (W.heap.size + 1) 1 by' (by go_simp)
    have cw1_2_0 := ci hw1 (W.heap.size + 1 + 1) 0 lx (by go_simp)
    have cw1_2_1 := ci hw1 (W.heap.size + 1 + 1) 1 ly (by go_simp)
    have cw1_2_2 := ci hw1 (W.heap.size + 1 + 1) 2 hx (by go_simp)
    have cw1_2_3 := ci hw1 (W.heap.size + 1 + 1) 3 hy (by go_simp)
    have gw1 : Gr W w1 := Gr.trans (by go_grown) hw1
    clear hw1
    go_wp2_with fail
    go_at_call 24
    refine ((H2.out _)).mono ?_
    rintro e w2 ⟨rfl, hw2⟩
    have cw2_0_0 := ci hw2 (W.heap.size) 0 ax (by go_simp)
    have cw2_0_1 := ci hw2 (W.heap.size) 1 ay (by go_simp)
    have cw2_1_0 := ci hw2 (W.heap.size + 1) 0 bx (by go_simp)
    have cw2_1_1 := ci hw2 (W.heap.size + 1) 1 by' (by go_simp)
    have cw2_2_0 := ci hw2 (W.heap.size + 1 + 1) 0 lx (by go_simp)
    have cw2_2_1 := ci hw2 (W.heap.size + 1 + 1) 1 ly (by go_simp)
    have cw2_2_2 := ci hw2 (W.heap.size + 1 + 1) 2 hx (by go_simp)
    have cw2_2_3 := ci hw2 (W.heap.size + 1 + 1) 3 hy (by go_simp)
    have gw2 : Gr W w2 := Gr.trans (by have gg := gw1; have gs := gg.size; go_grown) hw2
    clear hw2 gw1 cw1_0_0 cw1_0_1 cw1_1_0 cw1_1_1 cw1_2_0 cw1_2_1 cw1_2_2 cw1_2_3
    go_wp2_with fail
    go_at_call 25
    refine ((H3.out _)).mono ?_
    rintro e w3 ⟨rfl, hw3⟩
    have cw3_0_0 := ci hw3 (W.heap.size) 0 ax (by go_simp)
    have cw3_0_1 := ci hw3 (W.heap.size) 1 ay (by go_simp)
    have cw3_1_0 := ci hw3 (W.heap.size + 1) 0 bx (by go_simp)
    have cw3_1_1 := ci hw3 (W.heap.size + 1) 1 by' (by go_simp)
    have cw3_2_0 := ci hw3 (W.heap.size + 1 + 1) 0 lx (by go_simp)
    have cw3_2_1 := ci hw3 (W.heap.size + 1 + 1) 1 ly (by go_simp)
    have cw3_2_2 := ci hw3 (W.heap.size + 1 + 1) 2 hx (by go_simp)
    have cw3_2_3 := ci hw3 (W.heap.size + 1 + 1) 3 hy (by go_simp)
    have gw3 : Gr W w3 := Gr.trans (by have gg := gw2; have gs := gg.size; go_grown) hw3
    clear hw3 gw2 cw2_0_0 cw2_0_1 cw2_1_0 cw2_1_1 cw2_2_0 cw2_2_1 cw2_2_2 cw2_2_3
    go_wp2_with fail
    go_ret
    exact ⟨rfl, by go_grown⟩
  · go_enter Tryz.func71, Tryz.ntmps71
    go_wp2_with fail
    go_at_call 24
    refine ((H1.out _)).mono ?_
    rintro e w1 ⟨rfl, hw1⟩
    have cw1_0_0 := ci hw1 (W.heap.size) 0 ax (by go_simp)
    have cw1_0_1 := ci hw1 (W.heap.size) 1 ay (by go_simp)
    have cw1_1_0 := ci hw1 (W.heap.size + 1) 0 bx (by go_simp)
    have cw1_1_1 := ci hw1 (W.heap.size + 1) 1 by' (by go_simp)
    have cw1_2_0 := ci hw1 (W.heap.size + 1 + 1) 0 lx (by go_simp)
    have cw1_2_1 := ci hw1 (W.heap.size + 1 + 1) 1 ly (by go_simp)
    have cw1_2_2 := ci hw1 (W.heap.size + 1 + 1) 2 hx (by go_simp)
    have cw1_2_3 := ci hw1 (W.heap.size + 1 + 1) 3 hy (by go_simp)
    have gw1 : Gr W w1 := Gr.trans (by go_grown) hw1
    clear hw1
    go_wp2_with fail
    go_at_call 24
    refine ((H2.out _)).mono ?_
    rintro e w2 ⟨rfl, hw2⟩
    have cw2_0_0 := ci hw2 (W.heap.size) 0 ax (by go_simp)
    have cw2_0_1 := ci hw2 (W.heap.size) 1 ay (by go_simp)
    have cw2_1_0 := ci hw2 (W.heap.size + 1) 0 bx (by go_simp)
    have cw2_1_1 := ci hw2 (W.heap.size + 1) 1 by' (by go_simp)
    have cw2_2_0 := ci hw2 (W.heap.size + 1 + 1) 0 lx (by go_simp)
    have cw2_2_1 := ci hw2 (W.heap.size + 1 + 1) 1 ly (by go_simp)
    have cw2_2_2 := ci hw2 (W.heap.size + 1 + 1) 2 hx (by go_simp)
    have cw2_2_3 := ci hw2 (W.heap.size + 1 + 1) 3 hy (by go_simp)
    have gw2 : Gr W w2 := Gr.trans (by have gg := gw1; have gs := gg.size; go_grown) hw2
    clear hw2 gw1 cw1_0_0 cw1_0_1 cw1_1_0 cw1_1_1 cw1_2_0 cw1_2_1 cw1_2_2 cw1_2_3
    go_wp2_with fail
    go_at_call 25
    refine ((H3.out _)).mono ?_
    rintro e w3 ⟨rfl, hw3⟩
    have cw3_0_0 := ci hw3 (W.heap.size) 0 ax (by go_simp)
    have cw3_0_1 := ci hw3 (W.heap.size) 1 ay (by go_simp)
    have cw3_1_0 := ci hw3 (W.heap.size + 1) 0 bx (by go_simp)
    have cw3_1_1 := ci hw3 (W.heap.size + 1) 1 by' (by go_simp)
    have cw3_2_0 := ci hw3 (W.heap.size + 1 + 1) 0 lx (by go_simp)
    have cw3_2_1 := ci hw3 (W.heap.size + 1 + 1) 1 ly (by go_simp)
    have cw3_2_2 := ci hw3 (W.heap.size + 1 + 1) 2 hx (by go_simp)
    have cw3_2_3 := ci hw3 (W.heap.size + 1 + 1) 3 hy (by go_simp)
    have gw3 : Gr W w3 := Gr.trans (by have gg := gw2; have gs := gg.size; go_grown) hw3
    clear hw3 gw2 cw2_0_0 cw2_0_1 cw2_1_0 cw2_1_1 cw2_2_0 cw2_2_1 cw2_2_2 cw2_2_3
    go_wp2_with fail
    go_at_call 28
    refine ((H4.out _)).mono ?_
    rintro e w4 ⟨rfl, hw4⟩
    have cw4_1_0 := ci hw4 (W.heap.size + 1) 0 bx (by go_simp)
    have cw4_1_1 := ci hw4 (W.heap.size + 1) 1 by' (by go_simp)
    have cw4_2_0 := ci hw4 (W.heap.size + 1 + 1) 0 lx (by go_simp)
    have cw4_2_1 := ci hw4 (W.heap.size + 1 + 1) 1 ly (by go_simp)
    have cw4_2_2 := ci hw4 (W.heap.size + 1 + 1) 2 hx (by go_simp)
    have cw4_2_3 := ci hw4 (W.heap.size + 1 + 1) 3 hy (by go_simp)
    have gw4 : Gr W w4 := Gr.trans (by have gg := gw3; have gs := gg.size; go_grown) hw4
    clear hw4 gw3 cw3_0_0 cw3_0_1 cw3_1_0 cw3_1_1 cw3_2_0 cw3_2_1 cw3_2_2 cw3_2_3
    go_wp2_with fail
    go_ret
    exact ⟨rfl, by go_grown⟩
  · go_enter Tryz.func71, Tryz.ntmps71
    go_wp2_with fail
    go_at_call 24
    refine ((H1.out _)).mono ?_
    rintro e w1 ⟨rfl, hw1⟩
    have cw1_0_0 := ci hw1 (W.heap.size) 0 ax (by go_simp)
    have cw1_0_1 := ci hw1 (W.heap.size) 1 ay (by go_simp)
    have cw1_1_0 := ci hw1 (W.heap.size + 1) 0 bx (by go_simp)
    have cw1_1_1 := ci hw1 (W.heap.size + 1) 1 by' (by go_simp)
    have cw1_2_0 := ci hw1 (W.heap.size + 1 + 1) 0 lx (by go_simp)
    have cw1_2_1 := ci hw1 (W.heap.size + 1 + 1) 1 ly (by go_simp)
    have cw1_2_2 := ci hw1 (W.heap.size + 1 + 1) 2 hx (by go_simp)
    have cw1_2_3 := ci hw1 (W.heap.size + 1 + 1) 3 hy (by go_simp)
    have gw1 : Gr W w1 := Gr.trans (by go_grown) hw1
    clear hw1
    go_wp2_with fail
    go_at_call 24
    refine ((H2.out _)).mono ?_
    rintro e w2 ⟨rfl, hw2⟩
    have cw2_0_0 := ci hw2 (W.heap.size) 0 ax (by go_simp)
    have cw2_0_1 := ci hw2 (W.heap.size) 1 ay (by go_simp)
    have cw2_1_0 := ci hw2 (W.heap.size + 1) 0 bx (by go_simp)
    have cw2_1_1 := ci hw2 (W.heap.size + 1) 1 by' (by go_simp)
    have cw2_2_0 := ci hw2 (W.heap.size + 1 + 1) 0 lx (by go_simp)
    have cw2_2_1 := ci hw2 (W.heap.size + 1 + 1) 1 ly (by go_simp)
    have cw2_2_2 := ci hw2 (W.heap.size + 1 + 1) 2 hx (by go_simp)
    have cw2_2_3 := ci hw2 (W.heap.size + 1 + 1) 3 hy (by go_simp)
    have gw2 : Gr W w2 := Gr.trans (by have gg := gw1; have gs := gg.size; go_grown) hw2
    clear hw2 gw1 cw1_0_0 cw1_0_1 cw1_1_0 cw1_1_1 cw1_2_0 cw1_2_1 cw1_2_2 cw1_2_3
    go_wp2_with fail
    go_at_call 25
    refine ((H3.out _)).mono ?_
    rintro e w3 ⟨rfl, hw3⟩
    have cw3_0_0 := ci hw3 (W.heap.size) 0 ax (by go_simp)
    have cw3_0_1 := ci hw3 (W.heap.size) 1 ay (by go_simp)
    have cw3_1_0 := ci hw3 (W.heap.size + 1) 0 bx (by go_simp)
    have cw3_1_1 := ci hw3 (W.heap.size + 1) 1 by' (by go_simp)
    have cw3_2_0 := ci hw3 (W.heap.size + 1 + 1) 0 lx (by go_simp)
    have cw3_2_1 := ci hw3 (W.heap.size + 1 + 1) 1 ly (by go_simp)
    have cw3_2_2 := ci hw3 (W.heap.size + 1 + 1) 2 hx (by go_simp)
    have cw3_2_3 := ci hw3 (W.heap.size + 1 + 1) 3 hy (by go_simp)
    have gw3 : Gr W w3 := Gr.trans (by have gg := gw2; have gs := gg.size; go_grown) hw3
    clear hw3 gw2 cw2_0_0 cw2_0_1 cw2_1_0 cw2_1_1 cw2_2_0 cw2_2_1 cw2_2_2 cw2_2_3
    go_wp2_with fail
    go_at_call 28
    refine ((H4.out _)).mono ?_
    rintro e w4 ⟨rfl, hw4⟩
    have cw4_1_0 := ci hw4 (W.heap.size + 1) 0 bx (by go_simp)
    have cw4_1_1 := ci hw4 (W.heap.size + 1) 1 by' (by go_simp)
    have cw4_2_0 := ci hw4 (W.heap.size + 1 + 1) 0 lx (by go_simp)
    have cw4_2_1 := ci hw4 (W.heap.size + 1 + 1) 1 ly (by go_simp)
    have cw4_2_2 := ci hw4 (W.heap.size + 1 + 1) 2 hx (by go_simp)
    have cw4_2_3 := ci hw4 (W.heap.size + 1 + 1) 3 hy (by go_simp)
    have gw4 : Gr W w4 := Gr.trans (by have gg := gw3; have gs := gg.size; go_grown) hw4
    clear hw4 gw3 cw3_0_0 cw3_0_1 cw3_1_0 cw3_1_1 cw3_2_0 cw3_2_1 cw3_2_2 cw3_2_3
    go_wp2_with fail
    go_at_call 28
    refine ((H5.out _)).mono ?_
    rintro e w5 ⟨rfl, hw5⟩
    have gw5 : Gr W w5 := Gr.trans (by have gg := gw4; have gs := gg.size; go_grown) hw5
    clear hw5 gw4 cw4_1_0 cw4_1_1 cw4_2_0 cw4_2_1 cw4_2_2 cw4_2_3
    go_wp2_with fail
    go_ret
    exact ⟨rfl, by go_grown⟩
set_option maxHeartbeats 8000000 in
set_option maxRecDepth 100000 in
theorem rmb_in (ax ay bx by' lx ly hx hy : Int) (m0 m1 m2 m3 r : Bool) (W : World)
    (hc : (m0 = true ∧ r = true) ∨ (m0 = false ∧ m1 = true ∧ r = true) ∨ (m0 = false ∧ m1 = false ∧ m2 = true ∧ r = true) ∨ (m0 = false ∧ m1 = false ∧ m2 = false ∧ m3 = true ∧ r = true) ∨ (m0 = false ∧ m1 = false ∧ m2 = false ∧ m3 = false ∧ r = false))
    (A1 : ∀ w, Calls Tryz.prog 24 #[.agg #[.int .i64 ax, .int .i64 ay]] w fun e w' => e = .returned (.bool true) ∧ Gr w w')
    (A2 : ∀ w, Calls Tryz.prog 24 #[.agg #[.int .i64 bx, .int .i64 by']] w fun e w' => e = .returned (.bool true) ∧ Gr w w')
    (A3 : ∀ w, Calls Tryz.prog 25 #[.agg #[.int .i64 lx, .int .i64 ly, .int .i64 hx, .int .i64 hy]] w fun e w' => e = .returned (.int .i64 0) ∧ Gr w w')
    (A4 : ∀ w, Calls Tryz.prog 28 #[.agg #[.int .i64 lx, .int .i64 ly, .int .i64 hx, .int .i64 hy], .agg #[.int .i64 ax, .int .i64 ay]] w fun e w' => e = .returned (.bool false) ∧ Gr w w')
    (A5 : ∀ w, Calls Tryz.prog 28 #[.agg #[.int .i64 lx, .int .i64 ly, .int .i64 hx, .int .i64 hy], .agg #[.int .i64 bx, .int .i64 by']] w fun e w' => e = .returned (.bool false) ∧ Gr w w')
    (A6 : ∀ w, Calls Tryz.prog 70 #[.agg #[.int .i64 ax, .int .i64 ay], .agg #[.int .i64 bx, .int .i64 by'], .agg #[.int .i64 lx, .int .i64 ly], .agg #[.int .i64 hx, .int .i64 ly]] w fun e w' => e = .returned (.bool m0) ∧ Gr w w')
    (A7 : ∀ w, Calls Tryz.prog 70 #[.agg #[.int .i64 ax, .int .i64 ay], .agg #[.int .i64 bx, .int .i64 by'], .agg #[.int .i64 hx, .int .i64 ly], .agg #[.int .i64 hx, .int .i64 hy]] w fun e w' => e = .returned (.bool m1) ∧ Gr w w')
    (A8 : ∀ w, Calls Tryz.prog 70 #[.agg #[.int .i64 ax, .int .i64 ay], .agg #[.int .i64 bx, .int .i64 by'], .agg #[.int .i64 hx, .int .i64 hy], .agg #[.int .i64 lx, .int .i64 hy]] w fun e w' => e = .returned (.bool m2) ∧ Gr w w')
    (A9 : ∀ w, Calls Tryz.prog 70 #[.agg #[.int .i64 ax, .int .i64 ay], .agg #[.int .i64 bx, .int .i64 by'], .agg #[.int .i64 lx, .int .i64 hy], .agg #[.int .i64 lx, .int .i64 ly]] w fun e w' => e = .returned (.bool m3) ∧ Gr w w') :
    Calls Tryz.prog 71 #[.agg #[.int .i64 ax, .int .i64 ay], .agg #[.int .i64 bx, .int .i64 by'], .agg #[.int .i64 lx, .int .i64 ly, .int .i64 hx, .int .i64 hy]] W fun e w' => e = .returned (.bool r) ∧ Gr W w' := by
  have H1 := Lib.hid A1
  have H2 := Lib.hid A2
  have H3 := Lib.hid A3
  have H4 := Lib.hid A4
  have H5 := Lib.hid A5
  have H6 := Lib.hid A6
  have H7 := Lib.hid A7
  have H8 := Lib.hid A8
  have H9 := Lib.hid A9
  clear A1 A2 A3 A4 A5 A6 A7 A8 A9
  have HC := Lib.hid (c_corners lx ly hx hy)
  rcases hc with ⟨rfl, rfl⟩ | ⟨rfl, rfl, rfl⟩ | ⟨rfl, rfl, rfl, rfl⟩ | ⟨rfl, rfl, rfl, rfl, rfl⟩ | ⟨rfl, rfl, rfl, rfl, rfl⟩
  · go_enter Tryz.func71, Tryz.ntmps71
    go_wp2_with fail
    go_at_call 24
    refine ((H1.out _)).mono ?_
    rintro e w1 ⟨rfl, hw1⟩
    have cw1_0_0 := ci hw1 (W.heap.size) 0 ax (by go_simp)
    have cw1_0_1 := ci hw1 (W.heap.size) 1 ay (by go_simp)
    have cw1_1_0 := ci hw1 (W.heap.size + 1) 0 bx (by go_simp)
    have cw1_1_1 := ci hw1 (W.heap.size + 1) 1 by' (by go_simp)
    have cw1_2_0 := ci hw1 (W.heap.size + 1 + 1) 0 lx (by go_simp)
    have cw1_2_1 := ci hw1 (W.heap.size + 1 + 1) 1 ly (by go_simp)
    have cw1_2_2 := ci hw1 (W.heap.size + 1 + 1) 2 hx (by go_simp)
    have cw1_2_3 := ci hw1 (W.heap.size + 1 + 1) 3 hy (by go_simp)
    have gw1 : Gr W w1 := Gr.trans (by go_grown) hw1
    clear hw1
    go_wp2_with fail
    go_at_call 24
    refine ((H2.out _)).mono ?_
    rintro e w2 ⟨rfl, hw2⟩
    have cw2_0_0 := ci hw2 (W.heap.size) 0 ax (by go_simp)
    have cw2_0_1 := ci hw2 (W.heap.size) 1 ay (by go_simp)
    have cw2_1_0 := ci hw2 (W.heap.size + 1) 0 bx (by go_simp)
    have cw2_1_1 := ci hw2 (W.heap.size + 1) 1 by' (by go_simp)
    have cw2_2_0 := ci hw2 (W.heap.size + 1 + 1) 0 lx (by go_simp)
    have cw2_2_1 := ci hw2 (W.heap.size + 1 + 1) 1 ly (by go_simp)
    have cw2_2_2 := ci hw2 (W.heap.size + 1 + 1) 2 hx (by go_simp)
    have cw2_2_3 := ci hw2 (W.heap.size + 1 + 1) 3 hy (by go_simp)
    have gw2 : Gr W w2 := Gr.trans (by have gg := gw1; have gs := gg.size; go_grown) hw2
    clear hw2 gw1 cw1_0_0 cw1_0_1 cw1_1_0 cw1_1_1 cw1_2_0 cw1_2_1 cw1_2_2 cw1_2_3
    go_wp2_with fail
    go_at_call 25
    refine ((H3.out _)).mono ?_
    rintro e w3 ⟨rfl, hw3⟩
    have cw3_0_0 := ci hw3 (W.heap.size) 0 ax (by go_simp)
    have cw3_0_1 := ci hw3 (W.heap.size) 1 ay (by go_simp)
    have cw3_1_0 := ci hw3 (W.heap.size + 1) 0 bx (by go_simp)
    have cw3_1_1 := ci hw3 (W.heap.size + 1) 1 by' (by go_simp)
    have cw3_2_0 := ci hw3 (W.heap.size + 1 + 1) 0 lx (by go_simp)
    have cw3_2_1 := ci hw3 (W.heap.size + 1 + 1) 1 ly (by go_simp)
    have cw3_2_2 := ci hw3 (W.heap.size + 1 + 1) 2 hx (by go_simp)
    have cw3_2_3 := ci hw3 (W.heap.size + 1 + 1) 3 hy (by go_simp)
    have gw3 : Gr W w3 := Gr.trans (by have gg := gw2; have gs := gg.size; go_grown) hw3
    clear hw3 gw2 cw2_0_0 cw2_0_1 cw2_1_0 cw2_1_1 cw2_2_0 cw2_2_1 cw2_2_2 cw2_2_3
    go_wp2_with fail
    go_at_call 28
    refine ((H4.out _)).mono ?_
    rintro e w4 ⟨rfl, hw4⟩
    have cw4_0_0 := ci hw4 (W.heap.size) 0 ax (by go_simp)
    have cw4_0_1 := ci hw4 (W.heap.size) 1 ay (by go_simp)
    have cw4_1_0 := ci hw4 (W.heap.size + 1) 0 bx (by go_simp)
    have cw4_1_1 := ci hw4 (W.heap.size + 1) 1 by' (by go_simp)
    have cw4_2_0 := ci hw4 (W.heap.size + 1 + 1) 0 lx (by go_simp)
    have cw4_2_1 := ci hw4 (W.heap.size + 1 + 1) 1 ly (by go_simp)
    have cw4_2_2 := ci hw4 (W.heap.size + 1 + 1) 2 hx (by go_simp)
    have cw4_2_3 := ci hw4 (W.heap.size + 1 + 1) 3 hy (by go_simp)
    have gw4 : Gr W w4 := Gr.trans (by have gg := gw3; have gs := gg.size; go_grown) hw4
    clear hw4 gw3 cw3_0_0 cw3_0_1 cw3_1_0 cw3_1_1 cw3_2_0 cw3_2_1 cw3_2_2 cw3_2_3
    go_wp2_with fail
    go_at_call 28
    refine ((H5.out _)).mono ?_
    rintro e w5 ⟨rfl, hw5⟩
    have cw5_0_0 := ci hw5 (W.heap.size) 0 ax (by go_simp)
    have cw5_0_1 := ci hw5 (W.heap.size) 1 ay (by go_simp)
    have cw5_1_0 := ci hw5 (W.heap.size + 1) 0 bx (by go_simp)
    have cw5_1_1 := ci hw5 (W.heap.size + 1) 1 by' (by go_simp)
    have cw5_2_0 := ci hw5 (W.heap.size + 1 + 1) 0 lx (by go_simp)
    have cw5_2_1 := ci hw5 (W.heap.size + 1 + 1) 1 ly (by go_simp)
    have cw5_2_2 := ci hw5 (W.heap.size + 1 + 1) 2 hx (by go_simp)
    have cw5_2_3 := ci hw5 (W.heap.size + 1 + 1) 3 hy (by go_simp)
    have gw5 : Gr W w5 := Gr.trans (by have gg := gw4; have gs := gg.size; go_grown) hw5
    clear hw5 gw4 cw4_0_0 cw4_0_1 cw4_1_0 cw4_1_1 cw4_2_0 cw4_2_1 cw4_2_2 cw4_2_3
    go_wp2_with fail
    go_at_call 107
    refine (HC.out _).mono ?_
    rintro e x0 ⟨G, rfl, j0, j1, j2, j3, j4, j5, j6, j7, hx0⟩
    have gx0 : Gr W x0 := Gr.trans (by have gg := gw5; have gs := gg.size; go_grown) hx0
    have y0 : x0.cell? ⟨W.heap.size, 0, none⟩ = some (.int .i64 ax) := cell_gr hx0 (by go_simp)
    have y1 : x0.cell? ⟨W.heap.size, 1, none⟩ = some (.int .i64 ay) := cell_gr hx0 (by go_simp)
    have y2 : x0.cell? ⟨W.heap.size + 1, 0, none⟩ = some (.int .i64 bx) := cell_gr hx0 (by go_simp)
    have y3 : x0.cell? ⟨W.heap.size + 1, 1, none⟩ = some (.int .i64 by') := cell_gr hx0 (by go_simp)
    have y4 : x0.cell? ⟨W.heap.size + 1 + 1, 0, none⟩ = some (.int .i64 lx) := cell_gr hx0 (by go_simp)
    have y5 : x0.cell? ⟨W.heap.size + 1 + 1, 1, none⟩ = some (.int .i64 ly) := cell_gr hx0 (by go_simp)
    have y6 : x0.cell? ⟨W.heap.size + 1 + 1, 2, none⟩ = some (.int .i64 hx) := cell_gr hx0 (by go_simp)
    have y7 : x0.cell? ⟨W.heap.size + 1 + 1, 3, none⟩ = some (.int .i64 hy) := cell_gr hx0 (by go_simp)
    have u0 := World.block_lt_of_cell? _ _ y0
    have u1 := World.block_lt_of_cell? _ _ y2
    have u2 := World.block_lt_of_cell? _ _ y4
    have u3 := World.block_lt_of_cell? _ _ j0
    clear hx0 gw5 cw5_0_0 cw5_0_1 cw5_1_0 cw5_1_1 cw5_2_0 cw5_2_1 cw5_2_2 cw5_2_3
    go_wp2_with fail
    refine wp_loop_rounds 5 ?_
    rw [rounds_succ]
    go_wp2_with fail
    go_wp2_with fail
    refine wp_region_spread (by kernel_rfl) (by kernel_rfl) ?_
    try simp only [List.append]
    repeat (first | go_big_quiet_skip | (go_big_quiet_want; go_big_quiet_op; (first | go_big_quiet_on | (apply Exists.intro; refine ⟨fun _ => ?_, ?_⟩; (· (first | (go_at_call 70; first | ((with_reducible refine ((H6.out _)).mono ?_); rintro e w' ⟨rfl, hg⟩; exact ⟨rfl, spread_gr hg⟩)))); go_big_quiet_on))))
    refine wpQuiet_nil ?_
    intro v1 hhv1
    have hv1 := Hd.gr_of_spread hhv1
    have cv1_0_0 := ci hv1 (W.heap.size) 0 ax (by go_simp)
    have cv1_0_1 := ci hv1 (W.heap.size) 1 ay (by go_simp)
    have cv1_1_0 := ci hv1 (W.heap.size + 1) 0 bx (by go_simp)
    have cv1_1_1 := ci hv1 (W.heap.size + 1) 1 by' (by go_simp)
    have cv1_3_0 := ci hv1 G 0 lx (by go_simp)
    have cv1_3_1 := ci hv1 G 1 ly (by go_simp)
    have cv1_3_2 := ci hv1 G 2 hx (by go_simp)
    have cv1_3_3 := ci hv1 G 3 ly (by go_simp)
    have cv1_3_4 := ci hv1 G 4 hx (by go_simp)
    have cv1_3_5 := ci hv1 G 5 hy (by go_simp)
    have cv1_3_6 := ci hv1 G 6 lx (by go_simp)
    have cv1_3_7 := ci hv1 G 7 hy (by go_simp)
    have gv1 : Gr W v1 := Gr.trans (by have gg := gx0; have gs := gg.size; go_grown) hv1
    clear hv1 hhv1 gx0
    go_wp2_with fail
    go_ret
    exact ⟨rfl, gv1⟩
  · go_enter Tryz.func71, Tryz.ntmps71
    go_wp2_with fail
    go_at_call 24
    refine ((H1.out _)).mono ?_
    rintro e w1 ⟨rfl, hw1⟩
    have cw1_0_0 := ci hw1 (W.heap.size) 0 ax (by go_simp)
    have cw1_0_1 := ci hw1 (W.heap.size) 1 ay (by go_simp)
    have cw1_1_0 := ci hw1 (W.heap.size + 1) 0 bx (by go_simp)
    have cw1_1_1 := ci hw1 (W.heap.size + 1) 1 by' (by go_simp)
    have cw1_2_0 := ci hw1 (W.heap.size + 1 + 1) 0 lx (by go_simp)
    have cw1_2_1 := ci hw1 (W.heap.size + 1 + 1) 1 ly (by go_simp)
    have cw1_2_2 := ci hw1 (W.heap.size + 1 + 1) 2 hx (by go_simp)
    have cw1_2_3 := ci hw1 (W.heap.size + 1 + 1) 3 hy (by go_simp)
    have gw1 : Gr W w1 := Gr.trans (by go_grown) hw1
    clear hw1
    go_wp2_with fail
    go_at_call 24
    refine ((H2.out _)).mono ?_
    rintro e w2 ⟨rfl, hw2⟩
    have cw2_0_0 := ci hw2 (W.heap.size) 0 ax (by go_simp)
    have cw2_0_1 := ci hw2 (W.heap.size) 1 ay (by go_simp)
    have cw2_1_0 := ci hw2 (W.heap.size + 1) 0 bx (by go_simp)
    have cw2_1_1 := ci hw2 (W.heap.size + 1) 1 by' (by go_simp)
    have cw2_2_0 := ci hw2 (W.heap.size + 1 + 1) 0 lx (by go_simp)
    have cw2_2_1 := ci hw2 (W.heap.size + 1 + 1) 1 ly (by go_simp)
    have cw2_2_2 := ci hw2 (W.heap.size + 1 + 1) 2 hx (by go_simp)
    have cw2_2_3 := ci hw2 (W.heap.size + 1 + 1) 3 hy (by go_simp)
    have gw2 : Gr W w2 := Gr.trans (by have gg := gw1; have gs := gg.size; go_grown) hw2
    clear hw2 gw1 cw1_0_0 cw1_0_1 cw1_1_0 cw1_1_1 cw1_2_0 cw1_2_1 cw1_2_2 cw1_2_3
    go_wp2_with fail
    go_at_call 25
    refine ((H3.out _)).mono ?_
    rintro e w3 ⟨rfl, hw3⟩
    have cw3_0_0 := ci hw3 (W.heap.size) 0 ax (by go_simp)
    have cw3_0_1 := ci hw3 (W.heap.size) 1 ay (by go_simp)
    have cw3_1_0 := ci hw3 (W.heap.size + 1) 0 bx (by go_simp)
    have cw3_1_1 := ci hw3 (W.heap.size + 1) 1 by' (by go_simp)
    have cw3_2_0 := ci hw3 (W.heap.size + 1 + 1) 0 lx (by go_simp)
    have cw3_2_1 := ci hw3 (W.heap.size + 1 + 1) 1 ly (by go_simp)
    have cw3_2_2 := ci hw3 (W.heap.size + 1 + 1) 2 hx (by go_simp)
    have cw3_2_3 := ci hw3 (W.heap.size + 1 + 1) 3 hy (by go_simp)
    have gw3 : Gr W w3 := Gr.trans (by have gg := gw2; have gs := gg.size; go_grown) hw3
    clear hw3 gw2 cw2_0_0 cw2_0_1 cw2_1_0 cw2_1_1 cw2_2_0 cw2_2_1 cw2_2_2 cw2_2_3
    go_wp2_with fail
    go_at_call 28
    refine ((H4.out _)).mono ?_
    rintro e w4 ⟨rfl, hw4⟩
    have cw4_0_0 := ci hw4 (W.heap.size) 0 ax (by go_simp)
    have cw4_0_1 := ci hw4 (W.heap.size) 1 ay (by go_simp)
    have cw4_1_0 := ci hw4 (W.heap.size + 1) 0 bx (by go_simp)
    have cw4_1_1 := ci hw4 (W.heap.size + 1) 1 by' (by go_simp)
    have cw4_2_0 := ci hw4 (W.heap.size + 1 + 1) 0 lx (by go_simp)
    have cw4_2_1 := ci hw4 (W.heap.size + 1 + 1) 1 ly (by go_simp)
    have cw4_2_2 := ci hw4 (W.heap.size + 1 + 1) 2 hx (by go_simp)
    have cw4_2_3 := ci hw4 (W.heap.size + 1 + 1) 3 hy (by go_simp)
    have gw4 : Gr W w4 := Gr.trans (by have gg := gw3; have gs := gg.size; go_grown) hw4
    clear hw4 gw3 cw3_0_0 cw3_0_1 cw3_1_0 cw3_1_1 cw3_2_0 cw3_2_1 cw3_2_2 cw3_2_3
    go_wp2_with fail
    go_at_call 28
    refine ((H5.out _)).mono ?_
    rintro e w5 ⟨rfl, hw5⟩
    have cw5_0_0 := ci hw5 (W.heap.size) 0 ax (by go_simp)
    have cw5_0_1 := ci hw5 (W.heap.size) 1 ay (by go_simp)
    have cw5_1_0 := ci hw5 (W.heap.size + 1) 0 bx (by go_simp)
    have cw5_1_1 := ci hw5 (W.heap.size + 1) 1 by' (by go_simp)
    have cw5_2_0 := ci hw5 (W.heap.size + 1 + 1) 0 lx (by go_simp)
    have cw5_2_1 := ci hw5 (W.heap.size + 1 + 1) 1 ly (by go_simp)
    have cw5_2_2 := ci hw5 (W.heap.size + 1 + 1) 2 hx (by go_simp)
    have cw5_2_3 := ci hw5 (W.heap.size + 1 + 1) 3 hy (by go_simp)
    have gw5 : Gr W w5 := Gr.trans (by have gg := gw4; have gs := gg.size; go_grown) hw5
    clear hw5 gw4 cw4_0_0 cw4_0_1 cw4_1_0 cw4_1_1 cw4_2_0 cw4_2_1 cw4_2_2 cw4_2_3
    go_wp2_with fail
    go_at_call 107
    refine (HC.out _).mono ?_
    rintro e x0 ⟨G, rfl, j0, j1, j2, j3, j4, j5, j6, j7, hx0⟩
    have gx0 : Gr W x0 := Gr.trans (by have gg := gw5; have gs := gg.size; go_grown) hx0
    have y0 : x0.cell? ⟨W.heap.size, 0, none⟩ = some (.int .i64 ax) := cell_gr hx0 (by go_simp)
    have y1 : x0.cell? ⟨W.heap.size, 1, none⟩ = some (.int .i64 ay) := cell_gr hx0 (by go_simp)
    have y2 : x0.cell? ⟨W.heap.size + 1, 0, none⟩ = some (.int .i64 bx) := cell_gr hx0 (by go_simp)
    have y3 : x0.cell? ⟨W.heap.size + 1, 1, none⟩ = some (.int .i64 by') := cell_gr hx0 (by go_simp)
    have y4 : x0.cell? ⟨W.heap.size + 1 + 1, 0, none⟩ = some (.int .i64 lx) := cell_gr hx0 (by go_simp)
    have y5 : x0.cell? ⟨W.heap.size + 1 + 1, 1, none⟩ = some (.int .i64 ly) := cell_gr hx0 (by go_simp)
    have y6 : x0.cell? ⟨W.heap.size + 1 + 1, 2, none⟩ = some (.int .i64 hx) := cell_gr hx0 (by go_simp)
    have y7 : x0.cell? ⟨W.heap.size + 1 + 1, 3, none⟩ = some (.int .i64 hy) := cell_gr hx0 (by go_simp)
    have u0 := World.block_lt_of_cell? _ _ y0
    have u1 := World.block_lt_of_cell? _ _ y2
    have u2 := World.block_lt_of_cell? _ _ y4
    have u3 := World.block_lt_of_cell? _ _ j0
    clear hx0 gw5 cw5_0_0 cw5_0_1 cw5_1_0 cw5_1_1 cw5_2_0 cw5_2_1 cw5_2_2 cw5_2_3
    go_wp2_with fail
    refine wp_loop_rounds 5 ?_
    rw [rounds_succ]
    go_wp2_with fail
    go_wp2_with fail
    refine wp_region_spread (by kernel_rfl) (by kernel_rfl) ?_
    try simp only [List.append]
    repeat (first | go_big_quiet_skip | (go_big_quiet_want; go_big_quiet_op; (first | go_big_quiet_on | (apply Exists.intro; refine ⟨fun _ => ?_, ?_⟩; (· (first | (go_at_call 70; first | ((with_reducible refine ((H6.out _)).mono ?_); rintro e w' ⟨rfl, hg⟩; exact ⟨rfl, spread_gr hg⟩)))); go_big_quiet_on))))
    refine wpQuiet_nil ?_
    intro v1 hhv1
    have hv1 := Hd.gr_of_spread hhv1
    have cv1_0_0 := ci hv1 (W.heap.size) 0 ax (by go_simp)
    have cv1_0_1 := ci hv1 (W.heap.size) 1 ay (by go_simp)
    have cv1_1_0 := ci hv1 (W.heap.size + 1) 0 bx (by go_simp)
    have cv1_1_1 := ci hv1 (W.heap.size + 1) 1 by' (by go_simp)
    have cv1_3_0 := ci hv1 G 0 lx (by go_simp)
    have cv1_3_1 := ci hv1 G 1 ly (by go_simp)
    have cv1_3_2 := ci hv1 G 2 hx (by go_simp)
    have cv1_3_3 := ci hv1 G 3 ly (by go_simp)
    have cv1_3_4 := ci hv1 G 4 hx (by go_simp)
    have cv1_3_5 := ci hv1 G 5 hy (by go_simp)
    have cv1_3_6 := ci hv1 G 6 lx (by go_simp)
    have cv1_3_7 := ci hv1 G 7 hy (by go_simp)
    have gv1 : Gr W v1 := Gr.trans (by have gg := gx0; have gs := gg.size; go_grown) hv1
    clear hv1 hhv1 gx0
    go_wp2_with fail
    rw [rounds_succ]
    go_wp2_with fail
    go_wp2_with fail
    refine wp_region_spread (by kernel_rfl) (by kernel_rfl) ?_
    try simp only [List.append]
    repeat (first | go_big_quiet_skip | (go_big_quiet_want; go_big_quiet_op; (first | go_big_quiet_on | (apply Exists.intro; refine ⟨fun _ => ?_, ?_⟩; (· (first | (go_at_call 70; first | ((with_reducible refine ((H7.out _)).mono ?_); rintro e w' ⟨rfl, hg⟩; exact ⟨rfl, spread_gr hg⟩)))); go_big_quiet_on))))
    refine wpQuiet_nil ?_
    intro v2 hhv2
    have hv2 := Hd.gr_of_spread hhv2
    have cv2_0_0 := ci hv2 (W.heap.size) 0 ax (by go_simp)
    have cv2_0_1 := ci hv2 (W.heap.size) 1 ay (by go_simp)
    have cv2_1_0 := ci hv2 (W.heap.size + 1) 0 bx (by go_simp)
    have cv2_1_1 := ci hv2 (W.heap.size + 1) 1 by' (by go_simp)
    have cv2_3_0 := ci hv2 G 0 lx (by go_simp)
    have cv2_3_1 := ci hv2 G 1 ly (by go_simp)
    have cv2_3_4 := ci hv2 G 4 hx (by go_simp)
    have cv2_3_5 := ci hv2 G 5 hy (by go_simp)
    have cv2_3_6 := ci hv2 G 6 lx (by go_simp)
    have cv2_3_7 := ci hv2 G 7 hy (by go_simp)
    have gv2 : Gr W v2 := Gr.trans (by have gg := gv1; have gs := gg.size; go_grown) hv2
    clear hv2 hhv2 gv1 cv1_0_0 cv1_0_1 cv1_1_0 cv1_1_1 cv1_3_0 cv1_3_1 cv1_3_2 cv1_3_3 cv1_3_4 cv1_3_5 cv1_3_6 cv1_3_7
    go_wp2_with fail
    go_ret
    exact ⟨rfl, gv2⟩
  · go_enter Tryz.func71, Tryz.ntmps71
    go_wp2_with fail
    go_at_call 24
    refine ((H1.out _)).mono ?_
    rintro e w1 ⟨rfl, hw1⟩
    have cw1_0_0 := ci hw1 (W.heap.size) 0 ax (by go_simp)
    have cw1_0_1 := ci hw1 (W.heap.size) 1 ay (by go_simp)
    have cw1_1_0 := ci hw1 (W.heap.size + 1) 0 bx (by go_simp)
    have cw1_1_1 := ci hw1 (W.heap.size + 1) 1 by' (by go_simp)
    have cw1_2_0 := ci hw1 (W.heap.size + 1 + 1) 0 lx (by go_simp)
    have cw1_2_1 := ci hw1 (W.heap.size + 1 + 1) 1 ly (by go_simp)
    have cw1_2_2 := ci hw1 (W.heap.size + 1 + 1) 2 hx (by go_simp)
    have cw1_2_3 := ci hw1 (W.heap.size + 1 + 1) 3 hy (by go_simp)
    have gw1 : Gr W w1 := Gr.trans (by go_grown) hw1
    clear hw1
    go_wp2_with fail
    go_at_call 24
    refine ((H2.out _)).mono ?_
    rintro e w2 ⟨rfl, hw2⟩
    have cw2_0_0 := ci hw2 (W.heap.size) 0 ax (by go_simp)
    have cw2_0_1 := ci hw2 (W.heap.size) 1 ay (by go_simp)
    have cw2_1_0 := ci hw2 (W.heap.size + 1) 0 bx (by go_simp)
    have cw2_1_1 := ci hw2 (W.heap.size + 1) 1 by' (by go_simp)
    have cw2_2_0 := ci hw2 (W.heap.size + 1 + 1) 0 lx (by go_simp)
    have cw2_2_1 := ci hw2 (W.heap.size + 1 + 1) 1 ly (by go_simp)
    have cw2_2_2 := ci hw2 (W.heap.size + 1 + 1) 2 hx (by go_simp)
    have cw2_2_3 := ci hw2 (W.heap.size + 1 + 1) 3 hy (by go_simp)
    have gw2 : Gr W w2 := Gr.trans (by have gg := gw1; have gs := gg.size; go_grown) hw2
    clear hw2 gw1 cw1_0_0 cw1_0_1 cw1_1_0 cw1_1_1 cw1_2_0 cw1_2_1 cw1_2_2 cw1_2_3
    go_wp2_with fail
    go_at_call 25
    refine ((H3.out _)).mono ?_
    rintro e w3 ⟨rfl, hw3⟩
    have cw3_0_0 := ci hw3 (W.heap.size) 0 ax (by go_simp)
    have cw3_0_1 := ci hw3 (W.heap.size) 1 ay (by go_simp)
    have cw3_1_0 := ci hw3 (W.heap.size + 1) 0 bx (by go_simp)
    have cw3_1_1 := ci hw3 (W.heap.size + 1) 1 by' (by go_simp)
    have cw3_2_0 := ci hw3 (W.heap.size + 1 + 1) 0 lx (by go_simp)
    have cw3_2_1 := ci hw3 (W.heap.size + 1 + 1) 1 ly (by go_simp)
    have cw3_2_2 := ci hw3 (W.heap.size + 1 + 1) 2 hx (by go_simp)
    have cw3_2_3 := ci hw3 (W.heap.size + 1 + 1) 3 hy (by go_simp)
    have gw3 : Gr W w3 := Gr.trans (by have gg := gw2; have gs := gg.size; go_grown) hw3
    clear hw3 gw2 cw2_0_0 cw2_0_1 cw2_1_0 cw2_1_1 cw2_2_0 cw2_2_1 cw2_2_2 cw2_2_3
    go_wp2_with fail
    go_at_call 28
    refine ((H4.out _)).mono ?_
    rintro e w4 ⟨rfl, hw4⟩
    have cw4_0_0 := ci hw4 (W.heap.size) 0 ax (by go_simp)
    have cw4_0_1 := ci hw4 (W.heap.size) 1 ay (by go_simp)
    have cw4_1_0 := ci hw4 (W.heap.size + 1) 0 bx (by go_simp)
    have cw4_1_1 := ci hw4 (W.heap.size + 1) 1 by' (by go_simp)
    have cw4_2_0 := ci hw4 (W.heap.size + 1 + 1) 0 lx (by go_simp)
    have cw4_2_1 := ci hw4 (W.heap.size + 1 + 1) 1 ly (by go_simp)
    have cw4_2_2 := ci hw4 (W.heap.size + 1 + 1) 2 hx (by go_simp)
    have cw4_2_3 := ci hw4 (W.heap.size + 1 + 1) 3 hy (by go_simp)
    have gw4 : Gr W w4 := Gr.trans (by have gg := gw3; have gs := gg.size; go_grown) hw4
    clear hw4 gw3 cw3_0_0 cw3_0_1 cw3_1_0 cw3_1_1 cw3_2_0 cw3_2_1 cw3_2_2 cw3_2_3
    go_wp2_with fail
    go_at_call 28
    refine ((H5.out _)).mono ?_
    rintro e w5 ⟨rfl, hw5⟩
    have cw5_0_0 := ci hw5 (W.heap.size) 0 ax (by go_simp)
    have cw5_0_1 := ci hw5 (W.heap.size) 1 ay (by go_simp)
    have cw5_1_0 := ci hw5 (W.heap.size + 1) 0 bx (by go_simp)
    have cw5_1_1 := ci hw5 (W.heap.size + 1) 1 by' (by go_simp)
    have cw5_2_0 := ci hw5 (W.heap.size + 1 + 1) 0 lx (by go_simp)
    have cw5_2_1 := ci hw5 (W.heap.size + 1 + 1) 1 ly (by go_simp)
    have cw5_2_2 := ci hw5 (W.heap.size + 1 + 1) 2 hx (by go_simp)
    have cw5_2_3 := ci hw5 (W.heap.size + 1 + 1) 3 hy (by go_simp)
    have gw5 : Gr W w5 := Gr.trans (by have gg := gw4; have gs := gg.size; go_grown) hw5
    clear hw5 gw4 cw4_0_0 cw4_0_1 cw4_1_0 cw4_1_1 cw4_2_0 cw4_2_1 cw4_2_2 cw4_2_3
    go_wp2_with fail
    go_at_call 107
    refine (HC.out _).mono ?_
    rintro e x0 ⟨G, rfl, j0, j1, j2, j3, j4, j5, j6, j7, hx0⟩
    have gx0 : Gr W x0 := Gr.trans (by have gg := gw5; have gs := gg.size; go_grown) hx0
    have y0 : x0.cell? ⟨W.heap.size, 0, none⟩ = some (.int .i64 ax) := cell_gr hx0 (by go_simp)
    have y1 : x0.cell? ⟨W.heap.size, 1, none⟩ = some (.int .i64 ay) := cell_gr hx0 (by go_simp)
    have y2 : x0.cell? ⟨W.heap.size + 1, 0, none⟩ = some (.int .i64 bx) := cell_gr hx0 (by go_simp)
    have y3 : x0.cell? ⟨W.heap.size + 1, 1, none⟩ = some (.int .i64 by') := cell_gr hx0 (by go_simp)
    have y4 : x0.cell? ⟨W.heap.size + 1 + 1, 0, none⟩ = some (.int .i64 lx) := cell_gr hx0 (by go_simp)
    have y5 : x0.cell? ⟨W.heap.size + 1 + 1, 1, none⟩ = some (.int .i64 ly) := cell_gr hx0 (by go_simp)
    have y6 : x0.cell? ⟨W.heap.size + 1 + 1, 2, none⟩ = some (.int .i64 hx) := cell_gr hx0 (by go_simp)
    have y7 : x0.cell? ⟨W.heap.size + 1 + 1, 3, none⟩ = some (.int .i64 hy) := cell_gr hx0 (by go_simp)
    have u0 := World.block_lt_of_cell? _ _ y0
    have u1 := World.block_lt_of_cell? _ _ y2
    have u2 := World.block_lt_of_cell? _ _ y4
    have u3 := World.block_lt_of_cell? _ _ j0
    clear hx0 gw5 cw5_0_0 cw5_0_1 cw5_1_0 cw5_1_1 cw5_2_0 cw5_2_1 cw5_2_2 cw5_2_3
    go_wp2_with fail
    refine wp_loop_rounds 5 ?_
    rw [rounds_succ]
    go_wp2_with fail
    go_wp2_with fail
    refine wp_region_spread (by kernel_rfl) (by kernel_rfl) ?_
    try simp only [List.append]
    repeat (first | go_big_quiet_skip | (go_big_quiet_want; go_big_quiet_op; (first | go_big_quiet_on | (apply Exists.intro; refine ⟨fun _ => ?_, ?_⟩; (· (first | (go_at_call 70; first | ((with_reducible refine ((H6.out _)).mono ?_); rintro e w' ⟨rfl, hg⟩; exact ⟨rfl, spread_gr hg⟩)))); go_big_quiet_on))))
    refine wpQuiet_nil ?_
    intro v1 hhv1
    have hv1 := Hd.gr_of_spread hhv1
    have cv1_0_0 := ci hv1 (W.heap.size) 0 ax (by go_simp)
    have cv1_0_1 := ci hv1 (W.heap.size) 1 ay (by go_simp)
    have cv1_1_0 := ci hv1 (W.heap.size + 1) 0 bx (by go_simp)
    have cv1_1_1 := ci hv1 (W.heap.size + 1) 1 by' (by go_simp)
    have cv1_3_0 := ci hv1 G 0 lx (by go_simp)
    have cv1_3_1 := ci hv1 G 1 ly (by go_simp)
    have cv1_3_2 := ci hv1 G 2 hx (by go_simp)
    have cv1_3_3 := ci hv1 G 3 ly (by go_simp)
    have cv1_3_4 := ci hv1 G 4 hx (by go_simp)
    have cv1_3_5 := ci hv1 G 5 hy (by go_simp)
    have cv1_3_6 := ci hv1 G 6 lx (by go_simp)
    have cv1_3_7 := ci hv1 G 7 hy (by go_simp)
    have gv1 : Gr W v1 := Gr.trans (by have gg := gx0; have gs := gg.size; go_grown) hv1
    clear hv1 hhv1 gx0
    go_wp2_with fail
    rw [rounds_succ]
    go_wp2_with fail
    go_wp2_with fail
    refine wp_region_spread (by kernel_rfl) (by kernel_rfl) ?_
    try simp only [List.append]
    repeat (first | go_big_quiet_skip | (go_big_quiet_want; go_big_quiet_op; (first | go_big_quiet_on | (apply Exists.intro; refine ⟨fun _ => ?_, ?_⟩; (· (first | (go_at_call 70; first | ((with_reducible refine ((H7.out _)).mono ?_); rintro e w' ⟨rfl, hg⟩; exact ⟨rfl, spread_gr hg⟩)))); go_big_quiet_on))))
    refine wpQuiet_nil ?_
    intro v2 hhv2
    have hv2 := Hd.gr_of_spread hhv2
    have cv2_0_0 := ci hv2 (W.heap.size) 0 ax (by go_simp)
    have cv2_0_1 := ci hv2 (W.heap.size) 1 ay (by go_simp)
    have cv2_1_0 := ci hv2 (W.heap.size + 1) 0 bx (by go_simp)
    have cv2_1_1 := ci hv2 (W.heap.size + 1) 1 by' (by go_simp)
    have cv2_3_0 := ci hv2 G 0 lx (by go_simp)
    have cv2_3_1 := ci hv2 G 1 ly (by go_simp)
    have cv2_3_4 := ci hv2 G 4 hx (by go_simp)
    have cv2_3_5 := ci hv2 G 5 hy (by go_simp)
    have cv2_3_6 := ci hv2 G 6 lx (by go_simp)
    have cv2_3_7 := ci hv2 G 7 hy (by go_simp)
    have gv2 : Gr W v2 := Gr.trans (by have gg := gv1; have gs := gg.size; go_grown) hv2
    clear hv2 hhv2 gv1 cv1_0_0 cv1_0_1 cv1_1_0 cv1_1_1 cv1_3_0 cv1_3_1 cv1_3_2 cv1_3_3 cv1_3_4 cv1_3_5 cv1_3_6 cv1_3_7
    go_wp2_with fail
    rw [rounds_succ]
    go_wp2_with fail
    go_wp2_with fail
    refine wp_region_spread (by kernel_rfl) (by kernel_rfl) ?_
    try simp only [List.append]
    repeat (first | go_big_quiet_skip | (go_big_quiet_want; go_big_quiet_op; (first | go_big_quiet_on | (apply Exists.intro; refine ⟨fun _ => ?_, ?_⟩; (· (first | (go_at_call 70; first | ((with_reducible refine ((H8.out _)).mono ?_); rintro e w' ⟨rfl, hg⟩; exact ⟨rfl, spread_gr hg⟩)))); go_big_quiet_on))))
    refine wpQuiet_nil ?_
    intro v3 hhv3
    have hv3 := Hd.gr_of_spread hhv3
    have cv3_0_0 := ci hv3 (W.heap.size) 0 ax (by go_simp)
    have cv3_0_1 := ci hv3 (W.heap.size) 1 ay (by go_simp)
    have cv3_1_0 := ci hv3 (W.heap.size + 1) 0 bx (by go_simp)
    have cv3_1_1 := ci hv3 (W.heap.size + 1) 1 by' (by go_simp)
    have cv3_3_0 := ci hv3 G 0 lx (by go_simp)
    have cv3_3_1 := ci hv3 G 1 ly (by go_simp)
    have cv3_3_6 := ci hv3 G 6 lx (by go_simp)
    have cv3_3_7 := ci hv3 G 7 hy (by go_simp)
    have gv3 : Gr W v3 := Gr.trans (by have gg := gv2; have gs := gg.size; go_grown) hv3
    clear hv3 hhv3 gv2 cv2_0_0 cv2_0_1 cv2_1_0 cv2_1_1 cv2_3_0 cv2_3_1 cv2_3_4 cv2_3_5 cv2_3_6 cv2_3_7
    go_wp2_with fail
    go_ret
    exact ⟨rfl, gv3⟩
  · go_enter Tryz.func71, Tryz.ntmps71
    go_wp2_with fail
    go_at_call 24
    refine ((H1.out _)).mono ?_
    rintro e w1 ⟨rfl, hw1⟩
    have cw1_0_0 := ci hw1 (W.heap.size) 0 ax (by go_simp)
    have cw1_0_1 := ci hw1 (W.heap.size) 1 ay (by go_simp)
    have cw1_1_0 := ci hw1 (W.heap.size + 1) 0 bx (by go_simp)
    have cw1_1_1 := ci hw1 (W.heap.size + 1) 1 by' (by go_simp)
    have cw1_2_0 := ci hw1 (W.heap.size + 1 + 1) 0 lx (by go_simp)
    have cw1_2_1 := ci hw1 (W.heap.size + 1 + 1) 1 ly (by go_simp)
    have cw1_2_2 := ci hw1 (W.heap.size + 1 + 1) 2 hx (by go_simp)
    have cw1_2_3 := ci hw1 (W.heap.size + 1 + 1) 3 hy (by go_simp)
    have gw1 : Gr W w1 := Gr.trans (by go_grown) hw1
    clear hw1
    go_wp2_with fail
    go_at_call 24
    refine ((H2.out _)).mono ?_
    rintro e w2 ⟨rfl, hw2⟩
    have cw2_0_0 := ci hw2 (W.heap.size) 0 ax (by go_simp)
    have cw2_0_1 := ci hw2 (W.heap.size) 1 ay (by go_simp)
    have cw2_1_0 := ci hw2 (W.heap.size + 1) 0 bx (by go_simp)
    have cw2_1_1 := ci hw2 (W.heap.size + 1) 1 by' (by go_simp)
    have cw2_2_0 := ci hw2 (W.heap.size + 1 + 1) 0 lx (by go_simp)
    have cw2_2_1 := ci hw2 (W.heap.size + 1 + 1) 1 ly (by go_simp)
    have cw2_2_2 := ci hw2 (W.heap.size + 1 + 1) 2 hx (by go_simp)
    have cw2_2_3 := ci hw2 (W.heap.size + 1 + 1) 3 hy (by go_simp)
    have gw2 : Gr W w2 := Gr.trans (by have gg := gw1; have gs := gg.size; go_grown) hw2
    clear hw2 gw1 cw1_0_0 cw1_0_1 cw1_1_0 cw1_1_1 cw1_2_0 cw1_2_1 cw1_2_2 cw1_2_3
    go_wp2_with fail
    go_at_call 25
    refine ((H3.out _)).mono ?_
    rintro e w3 ⟨rfl, hw3⟩
    have cw3_0_0 := ci hw3 (W.heap.size) 0 ax (by go_simp)
    have cw3_0_1 := ci hw3 (W.heap.size) 1 ay (by go_simp)
    have cw3_1_0 := ci hw3 (W.heap.size + 1) 0 bx (by go_simp)
    have cw3_1_1 := ci hw3 (W.heap.size + 1) 1 by' (by go_simp)
    have cw3_2_0 := ci hw3 (W.heap.size + 1 + 1) 0 lx (by go_simp)
    have cw3_2_1 := ci hw3 (W.heap.size + 1 + 1) 1 ly (by go_simp)
    have cw3_2_2 := ci hw3 (W.heap.size + 1 + 1) 2 hx (by go_simp)
    have cw3_2_3 := ci hw3 (W.heap.size + 1 + 1) 3 hy (by go_simp)
    have gw3 : Gr W w3 := Gr.trans (by have gg := gw2; have gs := gg.size; go_grown) hw3
    clear hw3 gw2 cw2_0_0 cw2_0_1 cw2_1_0 cw2_1_1 cw2_2_0 cw2_2_1 cw2_2_2 cw2_2_3
    go_wp2_with fail
    go_at_call 28
    refine ((H4.out _)).mono ?_
    rintro e w4 ⟨rfl, hw4⟩
    have cw4_0_0 := ci hw4 (W.heap.size) 0 ax (by go_simp)
    have cw4_0_1 := ci hw4 (W.heap.size) 1 ay (by go_simp)
    have cw4_1_0 := ci hw4 (W.heap.size + 1) 0 bx (by go_simp)
    have cw4_1_1 := ci hw4 (W.heap.size + 1) 1 by' (by go_simp)
    have cw4_2_0 := ci hw4 (W.heap.size + 1 + 1) 0 lx (by go_simp)
    have cw4_2_1 := ci hw4 (W.heap.size + 1 + 1) 1 ly (by go_simp)
    have cw4_2_2 := ci hw4 (W.heap.size + 1 + 1) 2 hx (by go_simp)
    have cw4_2_3 := ci hw4 (W.heap.size + 1 + 1) 3 hy (by go_simp)
    have gw4 : Gr W w4 := Gr.trans (by have gg := gw3; have gs := gg.size; go_grown) hw4
    clear hw4 gw3 cw3_0_0 cw3_0_1 cw3_1_0 cw3_1_1 cw3_2_0 cw3_2_1 cw3_2_2 cw3_2_3
    go_wp2_with fail
    go_at_call 28
    refine ((H5.out _)).mono ?_
    rintro e w5 ⟨rfl, hw5⟩
    have cw5_0_0 := ci hw5 (W.heap.size) 0 ax (by go_simp)
    have cw5_0_1 := ci hw5 (W.heap.size) 1 ay (by go_simp)
    have cw5_1_0 := ci hw5 (W.heap.size + 1) 0 bx (by go_simp)
    have cw5_1_1 := ci hw5 (W.heap.size + 1) 1 by' (by go_simp)
    have cw5_2_0 := ci hw5 (W.heap.size + 1 + 1) 0 lx (by go_simp)
    have cw5_2_1 := ci hw5 (W.heap.size + 1 + 1) 1 ly (by go_simp)
    have cw5_2_2 := ci hw5 (W.heap.size + 1 + 1) 2 hx (by go_simp)
    have cw5_2_3 := ci hw5 (W.heap.size + 1 + 1) 3 hy (by go_simp)
    have gw5 : Gr W w5 := Gr.trans (by have gg := gw4; have gs := gg.size; go_grown) hw5
    clear hw5 gw4 cw4_0_0 cw4_0_1 cw4_1_0 cw4_1_1 cw4_2_0 cw4_2_1 cw4_2_2 cw4_2_3
    go_wp2_with fail
    go_at_call 107
    refine (HC.out _).mono ?_
    rintro e x0 ⟨G, rfl, j0, j1, j2, j3, j4, j5, j6, j7, hx0⟩
    have gx0 : Gr W x0 := Gr.trans (by have gg := gw5; have gs := gg.size; go_grown) hx0
    have y0 : x0.cell? ⟨W.heap.size, 0, none⟩ = some (.int .i64 ax) := cell_gr hx0 (by go_simp)
    have y1 : x0.cell? ⟨W.heap.size, 1, none⟩ = some (.int .i64 ay) := cell_gr hx0 (by go_simp)
    have y2 : x0.cell? ⟨W.heap.size + 1, 0, none⟩ = some (.int .i64 bx) := cell_gr hx0 (by go_simp)
    have y3 : x0.cell? ⟨W.heap.size + 1, 1, none⟩ = some (.int .i64 by') := cell_gr hx0 (by go_simp)
    have y4 : x0.cell? ⟨W.heap.size + 1 + 1, 0, none⟩ = some (.int .i64 lx) := cell_gr hx0 (by go_simp)
    have y5 : x0.cell? ⟨W.heap.size + 1 + 1, 1, none⟩ = some (.int .i64 ly) := cell_gr hx0 (by go_simp)
    have y6 : x0.cell? ⟨W.heap.size + 1 + 1, 2, none⟩ = some (.int .i64 hx) := cell_gr hx0 (by go_simp)
    have y7 : x0.cell? ⟨W.heap.size + 1 + 1, 3, none⟩ = some (.int .i64 hy) := cell_gr hx0 (by go_simp)
    have u0 := World.block_lt_of_cell? _ _ y0
    have u1 := World.block_lt_of_cell? _ _ y2
    have u2 := World.block_lt_of_cell? _ _ y4
    have u3 := World.block_lt_of_cell? _ _ j0
    clear hx0 gw5 cw5_0_0 cw5_0_1 cw5_1_0 cw5_1_1 cw5_2_0 cw5_2_1 cw5_2_2 cw5_2_3
    go_wp2_with fail
    refine wp_loop_rounds 5 ?_
    rw [rounds_succ]
    go_wp2_with fail
    go_wp2_with fail
    refine wp_region_spread (by kernel_rfl) (by kernel_rfl) ?_
    try simp only [List.append]
    repeat (first | go_big_quiet_skip | (go_big_quiet_want; go_big_quiet_op; (first | go_big_quiet_on | (apply Exists.intro; refine ⟨fun _ => ?_, ?_⟩; (· (first | (go_at_call 70; first | ((with_reducible refine ((H6.out _)).mono ?_); rintro e w' ⟨rfl, hg⟩; exact ⟨rfl, spread_gr hg⟩)))); go_big_quiet_on))))
    refine wpQuiet_nil ?_
    intro v1 hhv1
    have hv1 := Hd.gr_of_spread hhv1
    have cv1_0_0 := ci hv1 (W.heap.size) 0 ax (by go_simp)
    have cv1_0_1 := ci hv1 (W.heap.size) 1 ay (by go_simp)
    have cv1_1_0 := ci hv1 (W.heap.size + 1) 0 bx (by go_simp)
    have cv1_1_1 := ci hv1 (W.heap.size + 1) 1 by' (by go_simp)
    have cv1_3_0 := ci hv1 G 0 lx (by go_simp)
    have cv1_3_1 := ci hv1 G 1 ly (by go_simp)
    have cv1_3_2 := ci hv1 G 2 hx (by go_simp)
    have cv1_3_3 := ci hv1 G 3 ly (by go_simp)
    have cv1_3_4 := ci hv1 G 4 hx (by go_simp)
    have cv1_3_5 := ci hv1 G 5 hy (by go_simp)
    have cv1_3_6 := ci hv1 G 6 lx (by go_simp)
    have cv1_3_7 := ci hv1 G 7 hy (by go_simp)
    have gv1 : Gr W v1 := Gr.trans (by have gg := gx0; have gs := gg.size; go_grown) hv1
    clear hv1 hhv1 gx0
    go_wp2_with fail
    rw [rounds_succ]
    go_wp2_with fail
    go_wp2_with fail
    refine wp_region_spread (by kernel_rfl) (by kernel_rfl) ?_
    try simp only [List.append]
    repeat (first | go_big_quiet_skip | (go_big_quiet_want; go_big_quiet_op; (first | go_big_quiet_on | (apply Exists.intro; refine ⟨fun _ => ?_, ?_⟩; (· (first | (go_at_call 70; first | ((with_reducible refine ((H7.out _)).mono ?_); rintro e w' ⟨rfl, hg⟩; exact ⟨rfl, spread_gr hg⟩)))); go_big_quiet_on))))
    refine wpQuiet_nil ?_
    intro v2 hhv2
    have hv2 := Hd.gr_of_spread hhv2
    have cv2_0_0 := ci hv2 (W.heap.size) 0 ax (by go_simp)
    have cv2_0_1 := ci hv2 (W.heap.size) 1 ay (by go_simp)
    have cv2_1_0 := ci hv2 (W.heap.size + 1) 0 bx (by go_simp)
    have cv2_1_1 := ci hv2 (W.heap.size + 1) 1 by' (by go_simp)
    have cv2_3_0 := ci hv2 G 0 lx (by go_simp)
    have cv2_3_1 := ci hv2 G 1 ly (by go_simp)
    have cv2_3_4 := ci hv2 G 4 hx (by go_simp)
    have cv2_3_5 := ci hv2 G 5 hy (by go_simp)
    have cv2_3_6 := ci hv2 G 6 lx (by go_simp)
    have cv2_3_7 := ci hv2 G 7 hy (by go_simp)
    have gv2 : Gr W v2 := Gr.trans (by have gg := gv1; have gs := gg.size; go_grown) hv2
    clear hv2 hhv2 gv1 cv1_0_0 cv1_0_1 cv1_1_0 cv1_1_1 cv1_3_0 cv1_3_1 cv1_3_2 cv1_3_3 cv1_3_4 cv1_3_5 cv1_3_6 cv1_3_7
    go_wp2_with fail
    rw [rounds_succ]
    go_wp2_with fail
    go_wp2_with fail
    refine wp_region_spread (by kernel_rfl) (by kernel_rfl) ?_
    try simp only [List.append]
    repeat (first | go_big_quiet_skip | (go_big_quiet_want; go_big_quiet_op; (first | go_big_quiet_on | (apply Exists.intro; refine ⟨fun _ => ?_, ?_⟩; (· (first | (go_at_call 70; first | ((with_reducible refine ((H8.out _)).mono ?_); rintro e w' ⟨rfl, hg⟩; exact ⟨rfl, spread_gr hg⟩)))); go_big_quiet_on))))
    refine wpQuiet_nil ?_
    intro v3 hhv3
    have hv3 := Hd.gr_of_spread hhv3
    have cv3_0_0 := ci hv3 (W.heap.size) 0 ax (by go_simp)
    have cv3_0_1 := ci hv3 (W.heap.size) 1 ay (by go_simp)
    have cv3_1_0 := ci hv3 (W.heap.size + 1) 0 bx (by go_simp)
    have cv3_1_1 := ci hv3 (W.heap.size + 1) 1 by' (by go_simp)
    have cv3_3_0 := ci hv3 G 0 lx (by go_simp)
    have cv3_3_1 := ci hv3 G 1 ly (by go_simp)
    have cv3_3_6 := ci hv3 G 6 lx (by go_simp)
    have cv3_3_7 := ci hv3 G 7 hy (by go_simp)
    have gv3 : Gr W v3 := Gr.trans (by have gg := gv2; have gs := gg.size; go_grown) hv3
    clear hv3 hhv3 gv2 cv2_0_0 cv2_0_1 cv2_1_0 cv2_1_1 cv2_3_0 cv2_3_1 cv2_3_4 cv2_3_5 cv2_3_6 cv2_3_7
    go_wp2_with fail
    rw [rounds_succ]
    go_wp2_with fail
    go_wp2_with fail
    refine wp_region_spread (by kernel_rfl) (by kernel_rfl) ?_
    try simp only [List.append]
    repeat (first | go_big_quiet_skip | (go_big_quiet_want; go_big_quiet_op; (first | go_big_quiet_on | (apply Exists.intro; refine ⟨fun _ => ?_, ?_⟩; (· (first | (go_at_call 70; first | ((with_reducible refine ((H9.out _)).mono ?_); rintro e w' ⟨rfl, hg⟩; exact ⟨rfl, spread_gr hg⟩)))); go_big_quiet_on))))
    refine wpQuiet_nil ?_
    intro v4 hhv4
    have hv4 := Hd.gr_of_spread hhv4
    have gv4 : Gr W v4 := Gr.trans (by have gg := gv3; have gs := gg.size; go_grown) hv4
    clear hv4 hhv4 gv3 cv3_0_0 cv3_0_1 cv3_1_0 cv3_1_1 cv3_3_0 cv3_3_1 cv3_3_6 cv3_3_7
    go_wp2_with fail
    go_ret
    exact ⟨rfl, gv4⟩
  · go_enter Tryz.func71, Tryz.ntmps71
    go_wp2_with fail
    go_at_call 24
    refine ((H1.out _)).mono ?_
    rintro e w1 ⟨rfl, hw1⟩
    have cw1_0_0 := ci hw1 (W.heap.size) 0 ax (by go_simp)
    have cw1_0_1 := ci hw1 (W.heap.size) 1 ay (by go_simp)
    have cw1_1_0 := ci hw1 (W.heap.size + 1) 0 bx (by go_simp)
    have cw1_1_1 := ci hw1 (W.heap.size + 1) 1 by' (by go_simp)
    have cw1_2_0 := ci hw1 (W.heap.size + 1 + 1) 0 lx (by go_simp)
    have cw1_2_1 := ci hw1 (W.heap.size + 1 + 1) 1 ly (by go_simp)
    have cw1_2_2 := ci hw1 (W.heap.size + 1 + 1) 2 hx (by go_simp)
    have cw1_2_3 := ci hw1 (W.heap.size + 1 + 1) 3 hy (by go_simp)
    have gw1 : Gr W w1 := Gr.trans (by go_grown) hw1
    clear hw1
    go_wp2_with fail
    go_at_call 24
    refine ((H2.out _)).mono ?_
    rintro e w2 ⟨rfl, hw2⟩
    have cw2_0_0 := ci hw2 (W.heap.size) 0 ax (by go_simp)
    have cw2_0_1 := ci hw2 (W.heap.size) 1 ay (by go_simp)
    have cw2_1_0 := ci hw2 (W.heap.size + 1) 0 bx (by go_simp)
    have cw2_1_1 := ci hw2 (W.heap.size + 1) 1 by' (by go_simp)
    have cw2_2_0 := ci hw2 (W.heap.size + 1 + 1) 0 lx (by go_simp)
    have cw2_2_1 := ci hw2 (W.heap.size + 1 + 1) 1 ly (by go_simp)
    have cw2_2_2 := ci hw2 (W.heap.size + 1 + 1) 2 hx (by go_simp)
    have cw2_2_3 := ci hw2 (W.heap.size + 1 + 1) 3 hy (by go_simp)
    have gw2 : Gr W w2 := Gr.trans (by have gg := gw1; have gs := gg.size; go_grown) hw2
    clear hw2 gw1 cw1_0_0 cw1_0_1 cw1_1_0 cw1_1_1 cw1_2_0 cw1_2_1 cw1_2_2 cw1_2_3
    go_wp2_with fail
    go_at_call 25
    refine ((H3.out _)).mono ?_
    rintro e w3 ⟨rfl, hw3⟩
    have cw3_0_0 := ci hw3 (W.heap.size) 0 ax (by go_simp)
    have cw3_0_1 := ci hw3 (W.heap.size) 1 ay (by go_simp)
    have cw3_1_0 := ci hw3 (W.heap.size + 1) 0 bx (by go_simp)
    have cw3_1_1 := ci hw3 (W.heap.size + 1) 1 by' (by go_simp)
    have cw3_2_0 := ci hw3 (W.heap.size + 1 + 1) 0 lx (by go_simp)
    have cw3_2_1 := ci hw3 (W.heap.size + 1 + 1) 1 ly (by go_simp)
    have cw3_2_2 := ci hw3 (W.heap.size + 1 + 1) 2 hx (by go_simp)
    have cw3_2_3 := ci hw3 (W.heap.size + 1 + 1) 3 hy (by go_simp)
    have gw3 : Gr W w3 := Gr.trans (by have gg := gw2; have gs := gg.size; go_grown) hw3
    clear hw3 gw2 cw2_0_0 cw2_0_1 cw2_1_0 cw2_1_1 cw2_2_0 cw2_2_1 cw2_2_2 cw2_2_3
    go_wp2_with fail
    go_at_call 28
    refine ((H4.out _)).mono ?_
    rintro e w4 ⟨rfl, hw4⟩
    have cw4_0_0 := ci hw4 (W.heap.size) 0 ax (by go_simp)
    have cw4_0_1 := ci hw4 (W.heap.size) 1 ay (by go_simp)
    have cw4_1_0 := ci hw4 (W.heap.size + 1) 0 bx (by go_simp)
    have cw4_1_1 := ci hw4 (W.heap.size + 1) 1 by' (by go_simp)
    have cw4_2_0 := ci hw4 (W.heap.size + 1 + 1) 0 lx (by go_simp)
    have cw4_2_1 := ci hw4 (W.heap.size + 1 + 1) 1 ly (by go_simp)
    have cw4_2_2 := ci hw4 (W.heap.size + 1 + 1) 2 hx (by go_simp)
    have cw4_2_3 := ci hw4 (W.heap.size + 1 + 1) 3 hy (by go_simp)
    have gw4 : Gr W w4 := Gr.trans (by have gg := gw3; have gs := gg.size; go_grown) hw4
    clear hw4 gw3 cw3_0_0 cw3_0_1 cw3_1_0 cw3_1_1 cw3_2_0 cw3_2_1 cw3_2_2 cw3_2_3
    go_wp2_with fail
    go_at_call 28
    refine ((H5.out _)).mono ?_
    rintro e w5 ⟨rfl, hw5⟩
    have cw5_0_0 := ci hw5 (W.heap.size) 0 ax (by go_simp)
    have cw5_0_1 := ci hw5 (W.heap.size) 1 ay (by go_simp)
    have cw5_1_0 := ci hw5 (W.heap.size + 1) 0 bx (by go_simp)
    have cw5_1_1 := ci hw5 (W.heap.size + 1) 1 by' (by go_simp)
    have cw5_2_0 := ci hw5 (W.heap.size + 1 + 1) 0 lx (by go_simp)
    have cw5_2_1 := ci hw5 (W.heap.size + 1 + 1) 1 ly (by go_simp)
    have cw5_2_2 := ci hw5 (W.heap.size + 1 + 1) 2 hx (by go_simp)
    have cw5_2_3 := ci hw5 (W.heap.size + 1 + 1) 3 hy (by go_simp)
    have gw5 : Gr W w5 := Gr.trans (by have gg := gw4; have gs := gg.size; go_grown) hw5
    clear hw5 gw4 cw4_0_0 cw4_0_1 cw4_1_0 cw4_1_1 cw4_2_0 cw4_2_1 cw4_2_2 cw4_2_3
    go_wp2_with fail
    go_at_call 107
    refine (HC.out _).mono ?_
    rintro e x0 ⟨G, rfl, j0, j1, j2, j3, j4, j5, j6, j7, hx0⟩
    have gx0 : Gr W x0 := Gr.trans (by have gg := gw5; have gs := gg.size; go_grown) hx0
    have y0 : x0.cell? ⟨W.heap.size, 0, none⟩ = some (.int .i64 ax) := cell_gr hx0 (by go_simp)
    have y1 : x0.cell? ⟨W.heap.size, 1, none⟩ = some (.int .i64 ay) := cell_gr hx0 (by go_simp)
    have y2 : x0.cell? ⟨W.heap.size + 1, 0, none⟩ = some (.int .i64 bx) := cell_gr hx0 (by go_simp)
    have y3 : x0.cell? ⟨W.heap.size + 1, 1, none⟩ = some (.int .i64 by') := cell_gr hx0 (by go_simp)
    have y4 : x0.cell? ⟨W.heap.size + 1 + 1, 0, none⟩ = some (.int .i64 lx) := cell_gr hx0 (by go_simp)
    have y5 : x0.cell? ⟨W.heap.size + 1 + 1, 1, none⟩ = some (.int .i64 ly) := cell_gr hx0 (by go_simp)
    have y6 : x0.cell? ⟨W.heap.size + 1 + 1, 2, none⟩ = some (.int .i64 hx) := cell_gr hx0 (by go_simp)
    have y7 : x0.cell? ⟨W.heap.size + 1 + 1, 3, none⟩ = some (.int .i64 hy) := cell_gr hx0 (by go_simp)
    have u0 := World.block_lt_of_cell? _ _ y0
    have u1 := World.block_lt_of_cell? _ _ y2
    have u2 := World.block_lt_of_cell? _ _ y4
    have u3 := World.block_lt_of_cell? _ _ j0
    clear hx0 gw5 cw5_0_0 cw5_0_1 cw5_1_0 cw5_1_1 cw5_2_0 cw5_2_1 cw5_2_2 cw5_2_3
    go_wp2_with fail
    refine wp_loop_rounds 5 ?_
    rw [rounds_succ]
    go_wp2_with fail
    go_wp2_with fail
    refine wp_region_spread (by kernel_rfl) (by kernel_rfl) ?_
    try simp only [List.append]
    repeat (first | go_big_quiet_skip | (go_big_quiet_want; go_big_quiet_op; (first | go_big_quiet_on | (apply Exists.intro; refine ⟨fun _ => ?_, ?_⟩; (· (first | (go_at_call 70; first | ((with_reducible refine ((H6.out _)).mono ?_); rintro e w' ⟨rfl, hg⟩; exact ⟨rfl, spread_gr hg⟩)))); go_big_quiet_on))))
    refine wpQuiet_nil ?_
    intro v1 hhv1
    have hv1 := Hd.gr_of_spread hhv1
    have cv1_0_0 := ci hv1 (W.heap.size) 0 ax (by go_simp)
    have cv1_0_1 := ci hv1 (W.heap.size) 1 ay (by go_simp)
    have cv1_1_0 := ci hv1 (W.heap.size + 1) 0 bx (by go_simp)
    have cv1_1_1 := ci hv1 (W.heap.size + 1) 1 by' (by go_simp)
    have cv1_3_0 := ci hv1 G 0 lx (by go_simp)
    have cv1_3_1 := ci hv1 G 1 ly (by go_simp)
    have cv1_3_2 := ci hv1 G 2 hx (by go_simp)
    have cv1_3_3 := ci hv1 G 3 ly (by go_simp)
    have cv1_3_4 := ci hv1 G 4 hx (by go_simp)
    have cv1_3_5 := ci hv1 G 5 hy (by go_simp)
    have cv1_3_6 := ci hv1 G 6 lx (by go_simp)
    have cv1_3_7 := ci hv1 G 7 hy (by go_simp)
    have gv1 : Gr W v1 := Gr.trans (by have gg := gx0; have gs := gg.size; go_grown) hv1
    clear hv1 hhv1 gx0
    go_wp2_with fail
    rw [rounds_succ]
    go_wp2_with fail
    go_wp2_with fail
    refine wp_region_spread (by kernel_rfl) (by kernel_rfl) ?_
    try simp only [List.append]
    repeat (first | go_big_quiet_skip | (go_big_quiet_want; go_big_quiet_op; (first | go_big_quiet_on | (apply Exists.intro; refine ⟨fun _ => ?_, ?_⟩; (· (first | (go_at_call 70; first | ((with_reducible refine ((H7.out _)).mono ?_); rintro e w' ⟨rfl, hg⟩; exact ⟨rfl, spread_gr hg⟩)))); go_big_quiet_on))))
    refine wpQuiet_nil ?_
    intro v2 hhv2
    have hv2 := Hd.gr_of_spread hhv2
    have cv2_0_0 := ci hv2 (W.heap.size) 0 ax (by go_simp)
    have cv2_0_1 := ci hv2 (W.heap.size) 1 ay (by go_simp)
    have cv2_1_0 := ci hv2 (W.heap.size + 1) 0 bx (by go_simp)
    have cv2_1_1 := ci hv2 (W.heap.size + 1) 1 by' (by go_simp)
    have cv2_3_0 := ci hv2 G 0 lx (by go_simp)
    have cv2_3_1 := ci hv2 G 1 ly (by go_simp)
    have cv2_3_4 := ci hv2 G 4 hx (by go_simp)
    have cv2_3_5 := ci hv2 G 5 hy (by go_simp)
    have cv2_3_6 := ci hv2 G 6 lx (by go_simp)
    have cv2_3_7 := ci hv2 G 7 hy (by go_simp)
    have gv2 : Gr W v2 := Gr.trans (by have gg := gv1; have gs := gg.size; go_grown) hv2
    clear hv2 hhv2 gv1 cv1_0_0 cv1_0_1 cv1_1_0 cv1_1_1 cv1_3_0 cv1_3_1 cv1_3_2 cv1_3_3 cv1_3_4 cv1_3_5 cv1_3_6 cv1_3_7
    go_wp2_with fail
    rw [rounds_succ]
    go_wp2_with fail
    go_wp2_with fail
    refine wp_region_spread (by kernel_rfl) (by kernel_rfl) ?_
    try simp only [List.append]
    repeat (first | go_big_quiet_skip | (go_big_quiet_want; go_big_quiet_op; (first | go_big_quiet_on | (apply Exists.intro; refine ⟨fun _ => ?_, ?_⟩; (· (first | (go_at_call 70; first | ((with_reducible refine ((H8.out _)).mono ?_); rintro e w' ⟨rfl, hg⟩; exact ⟨rfl, spread_gr hg⟩)))); go_big_quiet_on))))
    refine wpQuiet_nil ?_
    intro v3 hhv3
    have hv3 := Hd.gr_of_spread hhv3
    have cv3_0_0 := ci hv3 (W.heap.size) 0 ax (by go_simp)
    have cv3_0_1 := ci hv3 (W.heap.size) 1 ay (by go_simp)
    have cv3_1_0 := ci hv3 (W.heap.size + 1) 0 bx (by go_simp)
    have cv3_1_1 := ci hv3 (W.heap.size + 1) 1 by' (by go_simp)
    have cv3_3_0 := ci hv3 G 0 lx (by go_simp)
    have cv3_3_1 := ci hv3 G 1 ly (by go_simp)
    have cv3_3_6 := ci hv3 G 6 lx (by go_simp)
    have cv3_3_7 := ci hv3 G 7 hy (by go_simp)
    have gv3 : Gr W v3 := Gr.trans (by have gg := gv2; have gs := gg.size; go_grown) hv3
    clear hv3 hhv3 gv2 cv2_0_0 cv2_0_1 cv2_1_0 cv2_1_1 cv2_3_0 cv2_3_1 cv2_3_4 cv2_3_5 cv2_3_6 cv2_3_7
    go_wp2_with fail
    rw [rounds_succ]
    go_wp2_with fail
    go_wp2_with fail
    refine wp_region_spread (by kernel_rfl) (by kernel_rfl) ?_
    try simp only [List.append]
    repeat (first | go_big_quiet_skip | (go_big_quiet_want; go_big_quiet_op; (first | go_big_quiet_on | (apply Exists.intro; refine ⟨fun _ => ?_, ?_⟩; (· (first | (go_at_call 70; first | ((with_reducible refine ((H9.out _)).mono ?_); rintro e w' ⟨rfl, hg⟩; exact ⟨rfl, spread_gr hg⟩)))); go_big_quiet_on))))
    refine wpQuiet_nil ?_
    intro v4 hhv4
    have hv4 := Hd.gr_of_spread hhv4
    have gv4 : Gr W v4 := Gr.trans (by have gg := gv3; have gs := gg.size; go_grown) hv4
    clear hv4 hhv4 gv3 cv3_0_0 cv3_0_1 cv3_1_0 cv3_1_1 cv3_3_0 cv3_3_1 cv3_3_6 cv3_3_7
    go_wp2_with fail
    rw [rounds_succ]
    go_wp2_with fail
    go_ret
    exact ⟨rfl, gv4⟩
theorem c_rMeetsBox (ax ay bx by' lx ly hx hy : Int) (W : World) : Calls Tryz.prog 71 #[.agg #[.int .i64 ax, .int .i64 ay], .agg #[.int .i64 bx, .int .i64 by'], .agg #[.int .i64 lx, .int .i64 ly, .int .i64 hx, .int .i64 hy]] W fun e w' => e = .returned (.bool (mbG ax ay bx by' lx ly hx hy)) ∧ Gr W w' := by
  have A1 := c_rPoint ax ay
  have A2 := c_rPoint bx by'
  have A3 := c_rCheckBox lx ly hx hy
  have A4 := c_rBoxHas lx ly hx hy ax ay
  have A5 := c_rBoxHas lx ly hx hy bx by'
  have hz := boxCode_zero (lx := lx) (ly := ly) (hx := hx) (hy := hy)
  unfold mbG
  cases n1 : nearB ax ay
  · rw [n1] at A1
    exact rmb_no ax ay bx by' lx ly hx hy _ _ _ _ _ _ W (Or.inl ⟨rfl, rfl⟩) A1 A2 A3 A4 A5
  · rw [n1] at A1
    cases n2 : nearB bx by'
    · rw [n2] at A2
      exact rmb_no ax ay bx by' lx ly hx hy _ _ _ _ _ _ W (Or.inr (Or.inl ⟨rfl, rfl, rfl⟩)) A1 A2 A3 A4 A5
    · rw [n2] at A2
      cases hb : boxB lx ly hx hy
      · rw [hb] at hz
        refine rmb_no ax ay bx by' lx ly hx hy _ _ _ _ _ _ W (Or.inr (Or.inr (Or.inl ⟨rfl, rfl, ?_, rfl⟩))) A1 A2 A3 A4 A5
        simpa using hz
      · rw [hb] at hz
        have z0 : boxCode lx ly hx hy = 0 := by simpa using hz
        rw [z0] at A3
        rw [hb, n1] at A4
        rw [hb, n2] at A5
        simp only [Bool.true_and] at A4 A5 ⊢
        unfold mbF
        have hbn := (boxB_iff.1 hb).1
        have hbl := (boxB_iff.1 hb).2
        have o1 := nearB_iff.1 hbn.1
        have o2 := nearB_iff.1 hbn.2
        have g1 : nearB lx hy = true := by rw [nearB_iff]; omega
        have g2 : nearB hx ly = true := by rw [nearB_iff]; omega
        cases ha : inB lx ly hx hy ax ay
        · cases hb2 : inB lx ly hx hy bx by'
          · rw [ha] at A4
            rw [hb2] at A5
            have M0 := c_rMeet ax ay bx by' lx ly hx ly
            have M1 := c_rMeet ax ay bx by' hx ly hx hy
            have M2 := c_rMeet ax ay bx by' hx hy lx hy
            have M3 := c_rMeet ax ay bx by' lx hy lx ly
            rw [show meG ax ay bx by' lx ly hx ly = meF ax ay bx by' lx ly hx ly by unfold meG all4; rw [n1, n2, hbn.1, g2]; rfl] at M0
            rw [show meG ax ay bx by' hx ly hx hy = meF ax ay bx by' hx ly hx hy by unfold meG all4; rw [n1, n2, hbn.2, g2]; rfl] at M1
            rw [show meG ax ay bx by' hx hy lx hy = meF ax ay bx by' hx hy lx hy by unfold meG all4; rw [n1, n2, hbn.2, g1]; rfl] at M2
            rw [show meG ax ay bx by' lx hy lx ly = meF ax ay bx by' lx hy lx ly by unfold meG all4; rw [n1, n2, hbn.1, g1]; rfl] at M3
            have e : (ovB lx ly hx hy ax ay bx by' && (false || false || diF lx ly hx hy ax ay bx by')) = siF lx ly hx hy ax ay bx by' := by
              cases hv : ovB lx ly hx hy ax ay bx by'
              · cases hs : siF lx ly hx hy ax ay bx by'
                · rfl
                · have := ovB_iff.2 (si_ov hbl hs)
                  rw [this] at hv; cases hv
              · rw [sides_diag hbl (ovB_iff.1 hv) (by rw [← inB_P, ha]; simp) (by rw [← inB_P, hb2]; simp)]
                simp
            rw [e]
            refine rmb_in ax ay bx by' lx ly hx hy _ _ _ _ _ W ?_ A1 A2 A3 A4 A5 M0 M1 M2 M3
            unfold siF
            generalize meF ax ay bx by' lx ly hx ly = m0
            generalize meF ax ay bx by' hx ly hx hy = m1
            generalize meF ax ay bx by' hx hy lx hy = m2
            generalize meF ax ay bx by' lx hy lx ly = m3
            cases m0 <;> cases m1 <;> cases m2 <;> cases m3 <;> simp
          · rw [ha] at A4
            rw [hb2] at A5
            have hv : ovB lx ly hx hy ax ay bx by' = true := by
              have := inB_P.1 hb2
              rw [ovB_iff]
              unfold inP at this
              unfold ovP
              omega
            rw [hv]
            exact rmb_no ax ay bx by' lx ly hx hy _ _ _ _ _ _ W (Or.inr (Or.inr (Or.inr (Or.inr ⟨rfl, rfl, rfl, rfl, rfl, rfl⟩)))) A1 A2 A3 A4 A5
        · rw [ha] at A4
          have hv : ovB lx ly hx hy ax ay bx by' = true := by
            have := inB_P.1 ha
            rw [ovB_iff]
            unfold inP at this
            unfold ovP
            omega
          rw [hv]
          exact rmb_no ax ay bx by' lx ly hx hy _ _ _ _ _ _ W (Or.inr (Or.inr (Or.inr (Or.inl ⟨rfl, rfl, rfl, rfl, rfl⟩)))) A1 A2 A3 A4 A5
end Go.Proofs.YtfobmlgpjhghdaaGreatDoor
namespace Go.Proofs.YtfobmlgpjhghdaaGreatDoor
set_option linter.unusedVariables false
open Go.ChangeShapes Go.WideShapes Go.ChangeAt Go.RowKit Go.Shelf
attribute [local go_sem] Oper.semAt_some
def Box4 (W : World) (B : Nat) (x y z u : Int) : Prop := W.heap[B]? = some (.cells #[.int .i64 x, .int .i64 y, .int .i64 z, .int .i64 u] 28 (0, 0))
theorem Box4.lt {W : World} {B : Nat} {x y z u : Int} (h : Box4 W B x y z u) : B < W.heap.size := (Array.getElem?_eq_some_iff.1 h).1
theorem Box4.cells {W : World} {B : Nat} {x y z u : Int} (h : Box4 W B x y z u) : W.cell? ⟨B, 0, none⟩ = some (.int .i64 x) ∧ W.cell? ⟨B, 1, none⟩ = some (.int .i64 y) ∧ W.cell? ⟨B, 2, none⟩ = some (.int .i64 z) ∧ W.cell? ⟨B, 3, none⟩ = some (.int .i64 u) := by
  refine ⟨?_, ?_, ?_, ?_⟩ <;> simp [World.cell?, show W.heap[B]? = _ from h]
theorem Box4.kept {W W' : World} {row : Option Nat} {B : Nat} {x y z u : Int} (h : Box4 W B x y z u) (hg : W.grownBy W' row) (hne : some B ≠ row) : Box4 W' B x y z u := (hg.block B h.lt hne).trans h
theorem Box4.new (W : World) (x y z u : Int) : Box4 (W.alloc (.cells #[.int .i64 x, .int .i64 y, .int .i64 z, .int .i64 u] 28)) W.heap.size x y z u := World.alloc_heap_new W _
theorem Box4.alloc {W : World} {B : Nat} {x y z u : Int} (h : Box4 W B x y z u) (o : Obj) : Box4 (W.alloc o) B x y z u := h.kept (World.grownBy_alloc W o none) (by simp)
theorem box4_notcells {W W' : World} {row : Option Nat} {B : Nat} {x y z u : Int} (h : Box4 W B x y z u) (hg : W.grownBy W' row) (hr : ∀ r, row = some r → ∃ o : Obj, W.heap[r]? = some o ∧ o.isCells = false) : Box4 W' B x y z u := by
  refine h.kept hg fun e => ?_
  obtain ⟨o, h1, h2⟩ := hr B e.symm
  rw [show W.heap[B]? = _ from h] at h1
  cases h1
  cases h2
theorem box4_own {β : Type} (B : Nat) (x y z u : Int) : Own (fun (_ : β) W => Box4 W B x y z u) := fun s X Y row hs hg hrow => box4_notcells hs hg hrow
def mbW (n : Nat) (X Y : Nat → Int) (lx ly hx hy : Int) (pre : List Nat) : Bool := pre.any fun k => mbG (X k) (Y k) (X (Rg.nx1 n k)) (Y (Rg.nx1 n k)) lx ly hx hy
theorem mbW_snoc (n : Nat) (X Y : Nat → Int) (lx ly hx hy : Int) (pre : List Nat) (k : Nat) : mbW n X Y lx ly hx hy (pre ++ [k]) = (mbW n X Y lx ly hx hy pre || mbG (X k) (Y k) (X (Rg.nx1 n k)) (Y (Rg.nx1 n k)) lx ly hx hy) := by
  unfold mbW; rw [List.any_append]; simp
theorem mbW_mono {n : Nat} {X Y : Nat → Int} {lx ly hx hy : Int} {k : Nat} (hk : k ≤ n) (h : mbW n X Y lx ly hx hy (List.range k) = true) : mbW n X Y lx ly hx hy (List.range n) = true := by
  unfold mbW at *
  rw [List.any_eq_true] at *
  obtain ⟨x, h1, h2⟩ := h
  exact ⟨x, List.mem_range.2 (by have := List.mem_range.1 h1; omega), h2⟩
def arM (n : Nat) (X Y : Nat → Int) (lx ly hx hy : Int) : Bool := boxB (mnN X n) (mnN Y n) (mxN X n) (mxN Y n) && boxB lx ly hx hy && decide (mnN X n ≤ hx) && decide (lx ≤ mxN X n) && decide (mnN Y n ≤ hy) && decide (ly ≤ mxN Y n)
set_option maxHeartbeats 8000000 in
set_option maxRecDepth 100000 in
theorem c_rmb {n : Nat} {X Y : Nat → Int} {v : Value} {lx ly hx hy : Int} (w : World) (h : Pts w v n X Y) (h0 : (Rg.ringC n X Y).1 = 0) (hm : arM n X Y lx ly hx hy = true) :
    Calls Tryz.prog 104 #[v, .agg #[.int .i64 lx, .int .i64 ly, .int .i64 hx, .int .i64 hy]] w fun e w' => e = .returned (.bool (mbW n X Y lx ly hx hy (List.range n) || (nearB lx ly && Rg.hasN n X Y lx ly))) ∧ Gr w w' := by
  have A1 := fun w' (g : Gr w w') => c_AroundN w' (pts_gr h g) (by have := (Rg.ringC_ok h0).1; omega)
  have A2 := fun w' => c_Meets (mnN X n) (mnN Y n) (mxN X n) (mxN Y n) lx ly hx hy w'
  have A3 := fun w' (g : Gr w w') => c_hs w h h0 lx ly w' g
  unfold arM at hm
  rw [hm] at A2
  have h1 : 1 ≤ n := by have := (Rg.ringC_ok h0).1; omega
  have hn : n ≤ 1000 := by have := (Rg.ringC_ok h0).1; omega
  generalize (nearB lx ly && Rg.hasN n X Y lx ly) = hz at A3 ⊢
  obtain ⟨ad, cap, B, off, rfl, q1, q2, q3, q4⟩ := h
  obtain rfl := q3 (by omega)
  have hB : B < w.heap.size := World.block_lt_of_cell? _ _ (q4 0 (by omega)).1
  have HC := Lib.hid q4
  have hmx : Tryz.prog.follows .mixedOrders = true := by kernel_rfl
  have H1 := Lib.hid A1
  have H2 := Lib.hid A2
  have H3 := Lib.hid A3
  clear A1 A2 A3
  clear q3 q4 hm h0
  refine (callsIn_wide (n := 10)).1 ?_
  refine callsIn_of_wp_marks Tryz.func104 rfl trivial ?_ rfl
  simp only [Tryz.ntmps104, List.size_toArray, List.length_cons, List.length_nil, Nat.reduceAdd, Nat.reduceSub, Array.replicate_succ, Array.replicate_zero, List.push_toArray, List.append_toArray, List.nil_append, List.cons_append]
  have n0 : 0 < n := by omega
  gi_wp2
  have bP : Box4 (w.alloc (.cells #[.int .i64 lx, .int .i64 ly, .int .i64 hx, .int .i64 hy] 28)) w.heap.size lx ly hx hy := Box4.new w lx ly hx hy
  have bR := Boxed.new (w.alloc (.cells #[.int .i64 lx, .int .i64 ly, .int .i64 hx, .int .i64 hy] 28)) 4 (.bool false)
  have bP0 := bP.alloc (.cells #[.bool false] 4)
  have hG0 : Gr w ((w.alloc (.cells #[.int .i64 lx, .int .i64 ly, .int .i64 hx, .int .i64 hy] 28)).alloc (.cells #[.bool false] 4)) := by go_grown
  have hsz : ((w.alloc (.cells #[.int .i64 lx, .int .i64 ly, .int .i64 hx, .int .i64 hy] 28)).alloc (.cells #[.bool false] 4)).heap.size = w.heap.size + 2 := by simp
  simp only [World.size_alloc] at bR
  obtain ⟨W1, hW1⟩ : ∃ W1, (w.alloc (.cells #[.int .i64 lx, .int .i64 ly, .int .i64 hx, .int .i64 hy] 28)).alloc (.cells #[.bool false] 4) = W1 := ⟨_, rfl⟩
  rw [hW1] at bP0 bR hG0 hsz ⊢
  clear hW1 bP
  obtain ⟨b0, b1, b2, b3⟩ := bP0.cells
  refine wpIn_mono (Q := Exit.then (fun a' W2 => a' = { tmps := #[.slice (some ⟨B, off, none⟩) n cap, .agg #[.int .i64 lx, .int .i64 ly, .int .i64 hx, .int .i64 hy], undef, .pointer (some ⟨w.heap.size, 0, none⟩), .pointer (some ⟨w.heap.size + 1, 0, none⟩), undef, undef, .slice (some ⟨B, off, none⟩) n cap, .agg #[.int .i64 (mnN X n), .int .i64 (mnN Y n), .int .i64 (mxN X n), .int .i64 (mxN Y n)], .agg #[.int .i64 lx, .int .i64 ly, .int .i64 hx, .int .i64 hy], .bool true, .bool false, undef, undef, undef, undef, undef, undef, undef, undef, undef, undef, undef, undef], defers := [] } ∧ Gr W1 W2) (fun _ _ _ => False)) ?_ ?_
  · generalize mnN X n = m1 at H1 H2 ⊢
    generalize mnN Y n = m2 at H1 H2 ⊢
    generalize mxN X n = m3 at H1 H2 ⊢
    generalize mxN Y n = m4 at H1 H2 ⊢
    gi_region_with_o (first
      | (refine ⟨trivial, ?_⟩; gi_at_call 62; (refine (callsIn_wide.2 (H1.out _ (Gr.trans hG0 (by go_grown)))).mono ?_); rintro e w' ⟨rfl, gx⟩; (have gy : Gr W1 w' := Gr.trans (by go_grown) gx); (have d0 := cell_gr gy b0); (have d1 := cell_gr gy b1); (have d2 := cell_gr gy b2); (have d3 := cell_gr gy b3); clear gx)
      | (gi_at_call 62; (refine (callsIn_wide.2 (H1.out _ (Gr.trans hG0 (by go_grown)))).mono ?_); rintro e w' ⟨rfl, gx⟩; (have gy : Gr W1 w' := Gr.trans (by go_grown) gx); (have d0 := cell_gr gy b0); (have d1 := cell_gr gy b1); (have d2 := cell_gr gy b2); (have d3 := cell_gr gy b3); clear gx)
      | (refine ⟨trivial, ?_⟩; gi_at_call 87; (refine (callsIn_wide.2 (H2.out _)).mono ?_); rintro e w'' ⟨rfl, gx⟩; (have gz : Gr W1 w'' := Gr.trans gy (Gr.trans (by go_grown) gx)); clear gx)
      | (gi_at_call 87; (refine (callsIn_wide.2 (H2.out _)).mono ?_); rintro e w'' ⟨rfl, gx⟩; (have gz : Gr W1 w'' := Gr.trans gy (Gr.trans (by go_grown) gx)); clear gx))
    all_goals exact ⟨rfl, Gr.trans gz (by go_grown)⟩
  intro e a' W2 hh
  cases e
  all_goals try exact False.elim hh
  obtain ⟨rfl, g2⟩ := hh
  dsimp only [Exit.then]
  have g2s := g2.size
  have bP2 : Box4 W2 w.heap.size lx ly hx hy := bP0.kept (gr_grown g2) (by simp)
  have bR2 : Boxed W2 (w.heap.size + 1) 4 (.bool false) := bR.kept (gr_grown g2) (by simp)
  have hG2 : Gr w W2 := Gr.trans hG0 g2
  clear b0 b1 b2 b3 bP0 bR hG0 g2
  gi_wp2_with (refine ⟨trivial, ?_⟩; gi_at_call 76; refine (callsIn_wide.2 (c_Edges _ _ _ _)).mono ?_; rintro e w' ⟨rfl, rfl⟩)
  have bE := Boxed.new W2 22 (.slice (some ⟨B, off, none⟩) n cap)
  have bP0 := bP2.alloc (.cells #[.slice (some ⟨B, off, none⟩) n cap] 22)
  have bR0 := bR2.alloc (.cells #[.slice (some ⟨B, off, none⟩) n cap] 22)
  have hG0 : Gr w (W2.alloc (.cells #[.slice (some ⟨B, off, none⟩) n cap] 22)) := Gr.trans hG2 (by go_grown)
  have hsz0 : (W2.alloc (.cells #[.slice (some ⟨B, off, none⟩) n cap] 22)).heap.size = W2.heap.size + 1 := by simp
  obtain ⟨W0, hW0⟩ : ∃ W0, W2.alloc (.cells #[.slice (some ⟨B, off, none⟩) n cap] 22) = W0 := ⟨_, rfl⟩
  rw [hW0] at bE bP0 bR0 hG0 hsz0 ⊢
  obtain ⟨q, hq⟩ : ∃ q, W2.heap.size = q := ⟨_, rfl⟩
  rw [hq] at bE hsz0 g2s ⊢
  clear hW0 bP2 bR2 hG2 hq H1 H2
  refine wpIn_rangeFunc_ownH rfl (by decide) (gf := 114) (lb := #[.pointer (some ⟨q, 0, none⟩)]) rfl trivial (enters_of Tryz.func114 (by kernel_rfl) rfl)
    (edges_stops (10 - 1) (by decide) q B off n cap X Y hn h1 W0 bE.cell q1 q2 (fun k hk => ⟨cell_gr hG0 (HC.out k hk).1, cell_gr hG0 (HC.out k hk).2⟩)) KK.trans (kk_put (by omega) (by omega)) (Below.refl _ _) (fun _ => rfl)
    (fun pre W => (Boxed W (w.heap.size + 1) 4 (.bool false)) ∧ ((Box4 W w.heap.size lx ly hx hy ∧ mbW n X Y lx ly hx hy pre = false) ∧ (q + 1 ≤ W.heap.size ∧ Below w.heap.size w W)))
    (fun c pre W => (c = .ret ∧ mbW n X Y lx ly hx hy pre = true) ∧ (Boxed W (w.heap.size + 1) 4 (.bool true) ∧ Below w.heap.size w W))
    (OwnFrom.and (Own.from (boxed_own _ _ _) _) (OwnFrom.and (OwnFrom.and (Own.from (box4_own _ _ _ _ _) _) (ownFrom_pure _ _)) (OwnFrom.and (fun _ P Q row hs hg hr => Nat.le_trans hs hg.size) (ownFrom_below (Nat.le_refl _) (by omega)))))
    (fun c => OwnFrom.and (ownFrom_pure _ _) (OwnFrom.and (Own.from (boxed_own _ _ _) _) (ownFrom_below (Nat.le_refl _) (by omega))))
    ⟨bR0, ⟨bP0, rfl⟩, by omega, hG0⟩
    (fun x a' W => ∃ Ba Bb, q + 1 ≤ Ba ∧ q + 1 ≤ Bb ∧ Box2 W Ba (X x) (Y x) ∧ Box2 W Bb (X (Rg.nx1 n x)) (Y (Rg.nx1 n x)) ∧ a' = { tmps := #[.slice (some ⟨B, off, none⟩) n cap, .agg #[.int .i64 lx, .int .i64 ly, .int .i64 hx, .int .i64 hy], undef, .pointer (some ⟨w.heap.size, 0, none⟩), .pointer (some ⟨w.heap.size + 1, 0, none⟩), .pointer (some ⟨Ba, 0, none⟩), .pointer (some ⟨Bb, 0, none⟩), .slice (some ⟨B, off, none⟩) n cap, .agg #[.int .i64 (mnN X n), .int .i64 (mnN Y n), .int .i64 (mxN X n), .int .i64 (mxN Y n)], .agg #[.int .i64 lx, .int .i64 ly, .int .i64 hx, .int .i64 hy], .bool true, .bool false, .slice (some ⟨B, off, none⟩) n cap, .func (.func 114) #[] #[.pointer (some ⟨q, 0, none⟩)], .agg #[.int .i64 (X x), .int .i64 (Y x)], .agg #[.int .i64 (X (Rg.nx1 n x)), .int .i64 (Y (Rg.nx1 n x))], undef, undef, undef, undef, undef, undef, undef, undef], defers := [] })
    (fun x a' _ P Q row hs hg hr => by obtain ⟨Ba, Bb, i1, i2, i3, i4, i5⟩ := hs; exact ⟨Ba, Bb, i1, i2, box2_notcells i3 hg (fun r e => (hr r e).2), box2_notcells i4 hg (fun r e => (hr r e).2), i5⟩)
    ?assign ?body ?done ?stop
  case assign =>
    rintro l pre x W K ⟨bR1, ⟨bP1, hon⟩, hs3, hB1⟩ hK
    gi_wp2
    have gA : Gr W ((W.alloc (.cells #[.int .i64 (X x), .int .i64 (Y x)] 26)).alloc (.cells #[.int .i64 (X (Rg.nx1 n x)), .int .i64 (Y (Rg.nx1 n x))] 26)) := by go_grown
    exact hK _ _ ((gr_keeps gA).from _) ((KK.refl _ _ _).gr gA (by omega) (by omega)) ⟨(bR1.alloc _).alloc _, ⟨(bP1.alloc _).alloc _, hon⟩, Nat.le_trans hs3 gA.size, Gr.trans hB1 gA⟩
      ⟨W.heap.size, W.heap.size + 1, hs3, by omega, (Box2.new W (X x) (Y x)).alloc _, (by have := Box2.new (W.alloc (.cells #[.int .i64 (X x), .int .i64 (Y x)] 26)) (X (Rg.nx1 n x)) (Y (Rg.nx1 n x)); rwa [World.size_alloc] at this), rfl⟩
  case body =>
    rintro l pre x a' W hl ⟨r, hr⟩ ⟨bR1, ⟨bP1, hon⟩, hs3, hB1⟩ ⟨Ba, Bb, hBa, hBb, bA, bB, rfl⟩ hlt
    obtain ⟨a0, a1⟩ := bA.cells
    obtain ⟨b0, b1⟩ := bB.cells
    obtain ⟨p0, p1, p2, p3⟩ := bP1.cells
    have cR := bR1.cell
    have fR := bR1.frozen
    have hso := mbW_snoc n X Y lx ly hx hy pre x
    rw [hon, Bool.false_or] at hso
    have CO := c_gMeetsBox (X x) (Y x) (X (Rg.nx1 n x)) (Y (Rg.nx1 n x)) lx ly hx hy
    generalize mbG (X x) (Y x) (X (Rg.nx1 n x)) (Y (Rg.nx1 n x)) lx ly hx hy = og at CO hso
    generalize X x = xa at a0 CO
    generalize Y x = ya at a1 CO
    generalize X (Rg.nx1 n x) = xb at b0 CO
    generalize Y (Rg.nx1 n x) = yb at b1 CO
    have HCO := Lib.hid CO
    have HSO := Lib.hid hso
    have HB := Lib.hid (And.intro bR1 bP1)
    clear CO hso hon bA bB bR1 bP1
    cases og
    · gi_wp2_with (refine ⟨trivial, ?_⟩; gi_at_call 88; (refine (CallsIn.inRound l (callsIn_wide.2 (HCO.out _))).mono ?_); rintro e w2 ⟨rfl, g2⟩)
      obtain ⟨bR1, bP1⟩ := HB.out
      have g2s := g2.size
      exact ⟨(gr_keeps g2).from _, (KK.refl B q W).gr g2 (by omega) (by omega), ⟨bR1.kept (gr_grown g2) (by simp), ⟨bP1.kept (gr_grown g2) (by simp), HSO.out⟩, by omega, Gr.trans hB1 g2⟩⟩
    · gi_wp2_with (refine ⟨trivial, ?_⟩; gi_at_call 88; (refine (CallsIn.inRound l (callsIn_wide.2 (HCO.out _))).mono ?_); rintro e w2 ⟨rfl, g2⟩; have dR := cell_gr g2 cR; have eR := frozen_gr g2 cR fR)
      obtain ⟨bR1, bP1⟩ := HB.out
      exact ⟨((gr_keeps g2).trans (KeepsOthers.setCell _ _ _)).from _, ⟨rfl, HSO.out⟩, (bR1.kept (gr_grown g2) (by simp)).set _, (Gr.trans hB1 g2).setCell (p := ⟨w.heap.size + 1, 0, none⟩) (by simp) _⟩
  case done =>
    rintro D ys W' hD rfl ⟨bR1, ⟨bP1, hon⟩, hs3, hB1⟩ hK
    obtain ⟨p0, p1, p2, p3⟩ := bP1.cells
    have cR := bR1.cell
    have fR := bR1.frozen
    have HBR := Lib.hid bR1
    clear bR1 bP1
    gi_wp2_with (refine ⟨trivial, ?_⟩; gi_at_call 74; refine (callsIn_wide.2 (H3.out _ (Gr.trans hB1 (by go_grown)))).mono ?_; rintro e w2 ⟨rfl, gx⟩; (have g2 : Gr W' w2 := Gr.trans (by go_grown) gx); have dR := cell_gr g2 cR; have eR := frozen_gr g2 cR fR; clear gx)
    rw [hon, Bool.false_or]
    have bR2 : Boxed w2 (w.heap.size + 1) 4 (.bool false) := HBR.out.kept (gr_grown g2) (by simp)
    have hK1 : w2.heap[D]? = some (.deferred (some [])) := (gr_keeps g2).same D _ hK rfl
    have hK2 : (w2.setCell ⟨w.heap.size + 1, 0, none⟩ (.bool hz)).heap[D]? = some (.deferred (some [])) := (KeepsOthers.setCell _ _ _).same D _ hK1 rfl
    have hc2 := cell_kept (bR2.set (.bool hz)).cell (grownBy_putObj' _ D (.deferred none)) (fun r e => by cases e; exact ⟨_, hK2, rfl⟩)
    refine ⟨by simp, .inl ⟨_, _, rfl, run_takeDeferred hK2, ?_⟩⟩
    exact ⟨_, results_cell1 rfl rfl (Tryz.underlying4) rfl hc2, rfl, ((Gr.trans hB1 g2).setCell (p := ⟨w.heap.size + 1, 0, none⟩) (by simp) _).trans (belowK_b (w := w) (Nat.le_refl _) _ D _ _ (by omega) hK2 rfl rfl)⟩
  case stop =>
    rintro D c pre W hD ⟨k, hk, rfl⟩ ⟨⟨rfl, hon⟩, bR1, hB1⟩ hK
    have cR := bR1.cell
    gi_wp2
    have hc2 := cell_kept cR (grownBy_putObj' _ D (.deferred none)) (fun r e => by cases e; exact ⟨_, hK, rfl⟩)
    rw [mbW_mono hk hon, Bool.true_or]
    refine ⟨by simp, .inl ⟨_, _, rfl, run_takeDeferred hK, ?_⟩⟩
    exact ⟨_, results_cell1 rfl rfl (Tryz.underlying4) rfl hc2, rfl, hB1.trans (belowK_b (w := w) (Nat.le_refl _) _ D _ _ (by omega) hK rfl rfl)⟩
end Go.Proofs.YtfobmlgpjhghdaaGreatDoor
