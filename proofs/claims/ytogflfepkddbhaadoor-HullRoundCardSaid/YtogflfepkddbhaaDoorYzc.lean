/- HullRound: all points on the left; corners among them, none twice; the hull of it is it -/
import Derived.Test.YtogflfepkddbhaaDoorYz
import Derived.Test.YtogflfepkddbhaaDoorYzb
namespace Go.Proofs.YtogflfepkddbhaaDoor
set_option linter.unusedVariables false
set_option linter.unusedSimpArgs false
open Go.ChangeShapes Go.WideShapes Go.ChangeAt Go.RowKit

theorem eqPt_r {ax ay bx by' : Int} {r : Bool} (hr : r = true ↔ (ax = bx ∧ ay = by')) (w : World) : (binOp .eql 30 (.agg #[.int .i64 ax, .int .i64 ay]) (.agg #[.int .i64 bx, .int .i64 by'])).run Tryd.prog w = .ok (.bool r) w := by
  rw [eqPt]
  congr 2
  rw [Bool.eq_iff_iff, decide_eq_true_eq, hr]
theorem nePt_f {ax ay bx by' : Int} (h : ax = bx ∧ ay = by') (w : World) : (binOp .neq 30 (.agg #[.int .i64 ax, .int .i64 ay]) (.agg #[.int .i64 bx, .int .i64 by'])).run Tryd.prog w = .ok (.bool false) w := by
  obtain ⟨rfl, rfl⟩ := h
  simp [go_sem]
/-- No point is right of an edge. -/
theorem hull_side {l : List Hp.Pt} {n : Nat} {X Y : Nat → Int} (h : Hp.HullOK l n (fun i => (X i, Y i))) (h3 : 2 ≤ n) (hnr : ∀ p ∈ l, nearB p.1 p.2 = true) {i : Nat} (hi : i < n) {p : Hp.Pt} (hp : p ∈ l) :
    ¬ cmpZ (crossZ (X i) (Y i) (X ((i + 1) % n)) (Y ((i + 1) % n)) p.1 p.2) 0 < 0 := by
  have m1 := hnr _ (h.mem i hi)
  have m2 := hnr _ (h.mem ((i + 1) % n) (Nat.mod_lt _ (by omega)))
  rw [near_cz (a := (X i, Y i)) (b := (X ((i + 1) % n), Y ((i + 1) % n))) (c := p) m1 m2 (hnr p hp)]
  have := (h.edge h3 i hi).2 p hp
  unfold cmpZ
  split
  · rcases this with k | ⟨k, -⟩ <;> omega
  · split <;> omega
theorem hull_on {l : List Hp.Pt} {X Y : Nat → Int} (h : Hp.HullOK l 2 (fun i => (X i, Y i))) (hnr : ∀ p ∈ l, nearB p.1 p.2 = true) {p : Hp.Pt} (hp : p ∈ l) :
    onG (X 0) (Y 0) (X 1) (Y 1) p.1 p.2 = true := by
  have m1 := hnr _ (h.mem 0 (by omega))
  have m2 := hnr _ (h.mem 1 (by omega))
  have e1 := (h.edge (by omega) 0 (by omega)).2 p hp
  have e2 := (h.edge (by omega) 1 (by omega)).2 p hp
  have t : Hp.cz (X 1, Y 1) (X 0, Y 0) p = - Hp.cz (X 0, Y 0) (X 1, Y 1) p := Hp.cz_swap _ _ _
  have k : Hp.cz (X 0, Y 0) (X 1, Y 1) p = 0 ∧ Hp.bw (X 0, Y 0) p (X 1, Y 1) := by
    rcases e1 with e1 | e1
    · rcases e2 with e2 | ⟨e2, -⟩
      · have e2' : 0 < Hp.cz (X 1, Y 1) (X 0, Y 0) p := e2
        have e1' : 0 < Hp.cz (X 0, Y 0) (X 1, Y 1) p := e1
        omega
      · have e2' : Hp.cz (X 1, Y 1) (X 0, Y 0) p = 0 := e2
        have e1' : 0 < Hp.cz (X 0, Y 0) (X 1, Y 1) p := e1
        omega
    · exact e1
  rw [Rg.onG_near m1 m2 (hnr p hp)]
  obtain ⟨k1, k2⟩ := k
  have k3 : cr (X 0) (Y 0) (X 1) (Y 1) p.1 p.2 = 0 := k1
  unfold onF
  rcases sg_cases (X 0) (Y 0) (X 1) (Y 1) p.1 p.2 with ⟨-, q⟩ | ⟨q, -⟩ | ⟨-, q⟩
  · omega
  · rw [q]
    unfold Hp.bw at k2
    simp only at k2
    unfold btw minZ maxZ
    simp only [Bool.and_eq_true, decide_eq_true_eq, beq_self_eq_true, and_true]
    refine ⟨⟨⟨?_, ?_⟩, ?_⟩, ?_⟩ <;> split <;> omega
  · omega
theorem cells_of_pts {w : World} {g n c : Nat} {X Y : Nat → Int} (h : Pts w (.slice (some ⟨g, 0, none⟩) n c) n X Y) : ∀ t, t < n → w.cell? ⟨g, t * 2, none⟩ = some (.int .i64 (X t)) ∧ w.cell? ⟨g, t * 2 + 1, none⟩ = some (.int .i64 (Y t)) := by
  intro t ht
  obtain ⟨ad', cap', B', off', e, -, -, e2, e3⟩ := h
  cases e
  have e4 := e2 (by omega)
  cases e4
  have := e3 t ht
  rwa [Nat.zero_add] at this
set_option maxHeartbeats 4000000 in
set_option maxRecDepth 100000 in
theorem ronP_core (ax ay bx by' px py m1 m2 m3 m4 k : Int) (q1 q2 q3 r : Bool) (W : World)
    (M1 : ∀ w, (Builtin.min_ #[3, 3] 3 #[.int .i64 ax, .int .i64 bx]).run Tryd.prog w = .ok (.int .i64 m1) w)
    (M2 : ∀ w, (Builtin.max_ #[3, 3] 3 #[.int .i64 ax, .int .i64 bx]).run Tryd.prog w = .ok (.int .i64 m2) w)
    (M3 : ∀ w, (Builtin.min_ #[3, 3] 3 #[.int .i64 ay, .int .i64 by']).run Tryd.prog w = .ok (.int .i64 m3) w)
    (M4 : ∀ w, (Builtin.max_ #[3, 3] 3 #[.int .i64 ay, .int .i64 by']).run Tryd.prog w = .ok (.int .i64 m4) w)
    (A1 : ∀ w, Calls Tryd.prog 19 #[.agg #[.int .i64 ax, .int .i64 ay]] w fun e w' => e = .returned (.bool q1) ∧ Gr w w')
    (A2 : ∀ w, Calls Tryd.prog 19 #[.agg #[.int .i64 bx, .int .i64 by']] w fun e w' => e = .returned (.bool q2) ∧ Gr w w')
    (A3 : ∀ w, Calls Tryd.prog 19 #[.agg #[.int .i64 px, .int .i64 py]] w fun e w' => e = .returned (.bool q3) ∧ Gr w w')
    (A4 : ∀ w, Calls Tryd.prog 33 #[.agg #[.int .i64 ax, .int .i64 ay], .agg #[.int .i64 bx, .int .i64 by'], .agg #[.int .i64 px, .int .i64 py]] w fun e w' => e = .returned (.int .i64 k) ∧ Gr w w')
    (hc : (q1 = false ∧ r = false) ∨ (q1 = true ∧ q2 = false ∧ r = false) ∨ (q1 = true ∧ q2 = true ∧ q3 = false ∧ r = false) ∨ (q1 = true ∧ q2 = true ∧ q3 = true ∧
      (((k == 0) = false ∧ r = false) ∨ ((k == 0) = true ∧ ¬ m1 ≤ px ∧ r = false) ∨ ((k == 0) = true ∧ m1 ≤ px ∧ ¬ px ≤ m2 ∧ r = false) ∨ ((k == 0) = true ∧ m1 ≤ px ∧ px ≤ m2 ∧ ¬ m3 ≤ py ∧ r = false) ∨ ((k == 0) = true ∧ m1 ≤ px ∧ px ≤ m2 ∧ m3 ≤ py ∧ ¬ py ≤ m4 ∧ r = false) ∨ ((k == 0) = true ∧ m1 ≤ px ∧ px ≤ m2 ∧ m3 ≤ py ∧ py ≤ m4 ∧ r = true)))) :
    Calls Tryd.prog 11 #[.agg #[.int .i64 ax, .int .i64 ay], .agg #[.int .i64 bx, .int .i64 by'], .agg #[.int .i64 px, .int .i64 py]] W fun e w' => e = .returned (.bool r) ∧ Gr W w' := by
  have H1 := Lib.hid A1
  have H2 := Lib.hid A2
  have H3 := Lib.hid A3
  have H4 := Lib.hid A4
  clear A1 A2 A3 A4
  rcases hc with ⟨rfl, rfl⟩ | ⟨rfl, rfl, rfl⟩ | ⟨rfl, rfl, rfl, rfl⟩ | ⟨rfl, rfl, rfl, hc⟩
  · go_enter Tryd.func11, Tryd.ntmps11
    go_wp2_with fail
    go_at_call 19
    refine ((H1.out _)).mono ?_
    rintro e w1 ⟨rfl, hw1⟩
    have cw1_0_0 : w1.cell? ⟨W.heap.size, 0, none⟩ = some (.int .i64 ax) := cell_gr hw1 (by go_simp)
    have cw1_0_1 : w1.cell? ⟨W.heap.size, 1, none⟩ = some (.int .i64 ay) := cell_gr hw1 (by go_simp)
    have zw1_0 : W.heap.size < w1.heap.size := World.block_lt_of_cell? _ _ cw1_0_0
    have cw1_1_0 : w1.cell? ⟨W.heap.size + 1, 0, none⟩ = some (.int .i64 bx) := cell_gr hw1 (by go_simp)
    have cw1_1_1 : w1.cell? ⟨W.heap.size + 1, 1, none⟩ = some (.int .i64 by') := cell_gr hw1 (by go_simp)
    have zw1_1 : W.heap.size + 1 < w1.heap.size := World.block_lt_of_cell? _ _ cw1_1_0
    have cw1_2_0 : w1.cell? ⟨W.heap.size + 1 + 1, 0, none⟩ = some (.int .i64 px) := cell_gr hw1 (by go_simp)
    have cw1_2_1 : w1.cell? ⟨W.heap.size + 1 + 1, 1, none⟩ = some (.int .i64 py) := cell_gr hw1 (by go_simp)
    have zw1_2 : W.heap.size + 1 + 1 < w1.heap.size := World.block_lt_of_cell? _ _ cw1_2_0
    have gw1 : Gr W w1 := Gr.trans (by go_grown) hw1
    clear hw1
    go_wp2_with fail
    go_ret
    exact ⟨rfl, by go_grown⟩
  · go_enter Tryd.func11, Tryd.ntmps11
    go_wp2_with fail
    go_at_call 19
    refine ((H1.out _)).mono ?_
    rintro e w1 ⟨rfl, hw1⟩
    have cw1_0_0 : w1.cell? ⟨W.heap.size, 0, none⟩ = some (.int .i64 ax) := cell_gr hw1 (by go_simp)
    have cw1_0_1 : w1.cell? ⟨W.heap.size, 1, none⟩ = some (.int .i64 ay) := cell_gr hw1 (by go_simp)
    have zw1_0 : W.heap.size < w1.heap.size := World.block_lt_of_cell? _ _ cw1_0_0
    have cw1_1_0 : w1.cell? ⟨W.heap.size + 1, 0, none⟩ = some (.int .i64 bx) := cell_gr hw1 (by go_simp)
    have cw1_1_1 : w1.cell? ⟨W.heap.size + 1, 1, none⟩ = some (.int .i64 by') := cell_gr hw1 (by go_simp)
    have zw1_1 : W.heap.size + 1 < w1.heap.size := World.block_lt_of_cell? _ _ cw1_1_0
    have cw1_2_0 : w1.cell? ⟨W.heap.size + 1 + 1, 0, none⟩ = some (.int .i64 px) := cell_gr hw1 (by go_simp)
    have cw1_2_1 : w1.cell? ⟨W.heap.size + 1 + 1, 1, none⟩ = some (.int .i64 py) := cell_gr hw1 (by go_simp)
    have zw1_2 : W.heap.size + 1 + 1 < w1.heap.size := World.block_lt_of_cell? _ _ cw1_2_0
    have gw1 : Gr W w1 := Gr.trans (by go_grown) hw1
    clear hw1
    go_wp2_with fail
    go_at_call 19
    refine ((H2.out _)).mono ?_
    rintro e w2 ⟨rfl, hw2⟩
    have cw2_0_0 : w2.cell? ⟨W.heap.size, 0, none⟩ = some (.int .i64 ax) := cell_gr hw2 (by go_simp)
    have cw2_0_1 : w2.cell? ⟨W.heap.size, 1, none⟩ = some (.int .i64 ay) := cell_gr hw2 (by go_simp)
    have zw2_0 : W.heap.size < w2.heap.size := World.block_lt_of_cell? _ _ cw2_0_0
    have cw2_1_0 : w2.cell? ⟨W.heap.size + 1, 0, none⟩ = some (.int .i64 bx) := cell_gr hw2 (by go_simp)
    have cw2_1_1 : w2.cell? ⟨W.heap.size + 1, 1, none⟩ = some (.int .i64 by') := cell_gr hw2 (by go_simp)
    have zw2_1 : W.heap.size + 1 < w2.heap.size := World.block_lt_of_cell? _ _ cw2_1_0
    have cw2_2_0 : w2.cell? ⟨W.heap.size + 1 + 1, 0, none⟩ = some (.int .i64 px) := cell_gr hw2 (by go_simp)
    have cw2_2_1 : w2.cell? ⟨W.heap.size + 1 + 1, 1, none⟩ = some (.int .i64 py) := cell_gr hw2 (by go_simp)
    have zw2_2 : W.heap.size + 1 + 1 < w2.heap.size := World.block_lt_of_cell? _ _ cw2_2_0
    have gw2 : Gr W w2 := Gr.trans (by have gg := gw1; have gs := gg.size; go_grown) hw2
    clear hw2 gw1 zw1_0 cw1_0_0 cw1_0_1 zw1_1 cw1_1_0 cw1_1_1 zw1_2 cw1_2_0 cw1_2_1
    go_wp2_with fail
    go_ret
    exact ⟨rfl, by go_grown⟩
  · go_enter Tryd.func11, Tryd.ntmps11
    go_wp2_with fail
    go_at_call 19
    refine ((H1.out _)).mono ?_
    rintro e w1 ⟨rfl, hw1⟩
    have cw1_0_0 : w1.cell? ⟨W.heap.size, 0, none⟩ = some (.int .i64 ax) := cell_gr hw1 (by go_simp)
    have cw1_0_1 : w1.cell? ⟨W.heap.size, 1, none⟩ = some (.int .i64 ay) := cell_gr hw1 (by go_simp)
    have zw1_0 : W.heap.size < w1.heap.size := World.block_lt_of_cell? _ _ cw1_0_0
    have cw1_1_0 : w1.cell? ⟨W.heap.size + 1, 0, none⟩ = some (.int .i64 bx) := cell_gr hw1 (by go_simp)
    have cw1_1_1 : w1.cell? ⟨W.heap.size + 1, 1, none⟩ = some (.int .i64 by') := cell_gr hw1 (by go_simp)
    have zw1_1 : W.heap.size + 1 < w1.heap.size := World.block_lt_of_cell? _ _ cw1_1_0
    have cw1_2_0 : w1.cell? ⟨W.heap.size + 1 + 1, 0, none⟩ = some (.int .i64 px) := cell_gr hw1 (by go_simp)
    have cw1_2_1 : w1.cell? ⟨W.heap.size + 1 + 1, 1, none⟩ = some (.int .i64 py) := cell_gr hw1 (by go_simp)
    have zw1_2 : W.heap.size + 1 + 1 < w1.heap.size := World.block_lt_of_cell? _ _ cw1_2_0
    have gw1 : Gr W w1 := Gr.trans (by go_grown) hw1
    clear hw1
    go_wp2_with fail
    go_at_call 19
    refine ((H2.out _)).mono ?_
    rintro e w2 ⟨rfl, hw2⟩
    have cw2_0_0 : w2.cell? ⟨W.heap.size, 0, none⟩ = some (.int .i64 ax) := cell_gr hw2 (by go_simp)
    have cw2_0_1 : w2.cell? ⟨W.heap.size, 1, none⟩ = some (.int .i64 ay) := cell_gr hw2 (by go_simp)
    have zw2_0 : W.heap.size < w2.heap.size := World.block_lt_of_cell? _ _ cw2_0_0
    have cw2_1_0 : w2.cell? ⟨W.heap.size + 1, 0, none⟩ = some (.int .i64 bx) := cell_gr hw2 (by go_simp)
    have cw2_1_1 : w2.cell? ⟨W.heap.size + 1, 1, none⟩ = some (.int .i64 by') := cell_gr hw2 (by go_simp)
    have zw2_1 : W.heap.size + 1 < w2.heap.size := World.block_lt_of_cell? _ _ cw2_1_0
    have cw2_2_0 : w2.cell? ⟨W.heap.size + 1 + 1, 0, none⟩ = some (.int .i64 px) := cell_gr hw2 (by go_simp)
    have cw2_2_1 : w2.cell? ⟨W.heap.size + 1 + 1, 1, none⟩ = some (.int .i64 py) := cell_gr hw2 (by go_simp)
    have zw2_2 : W.heap.size + 1 + 1 < w2.heap.size := World.block_lt_of_cell? _ _ cw2_2_0
    have gw2 : Gr W w2 := Gr.trans (by have gg := gw1; have gs := gg.size; go_grown) hw2
    clear hw2 gw1 zw1_0 cw1_0_0 cw1_0_1 zw1_1 cw1_1_0 cw1_1_1 zw1_2 cw1_2_0 cw1_2_1
    go_wp2_with fail
    go_at_call 19
    refine ((H3.out _)).mono ?_
    rintro e w3 ⟨rfl, hw3⟩
    have cw3_0_0 : w3.cell? ⟨W.heap.size, 0, none⟩ = some (.int .i64 ax) := cell_gr hw3 (by go_simp)
    have cw3_0_1 : w3.cell? ⟨W.heap.size, 1, none⟩ = some (.int .i64 ay) := cell_gr hw3 (by go_simp)
    have zw3_0 : W.heap.size < w3.heap.size := World.block_lt_of_cell? _ _ cw3_0_0
    have cw3_1_0 : w3.cell? ⟨W.heap.size + 1, 0, none⟩ = some (.int .i64 bx) := cell_gr hw3 (by go_simp)
    have cw3_1_1 : w3.cell? ⟨W.heap.size + 1, 1, none⟩ = some (.int .i64 by') := cell_gr hw3 (by go_simp)
    have zw3_1 : W.heap.size + 1 < w3.heap.size := World.block_lt_of_cell? _ _ cw3_1_0
    have cw3_2_0 : w3.cell? ⟨W.heap.size + 1 + 1, 0, none⟩ = some (.int .i64 px) := cell_gr hw3 (by go_simp)
    have cw3_2_1 : w3.cell? ⟨W.heap.size + 1 + 1, 1, none⟩ = some (.int .i64 py) := cell_gr hw3 (by go_simp)
    have zw3_2 : W.heap.size + 1 + 1 < w3.heap.size := World.block_lt_of_cell? _ _ cw3_2_0
    have gw3 : Gr W w3 := Gr.trans (by have gg := gw2; have gs := gg.size; go_grown) hw3
    clear hw3 gw2 zw2_0 cw2_0_0 cw2_0_1 zw2_1 cw2_1_0 cw2_1_1 zw2_2 cw2_2_0 cw2_2_1
    go_wp2_with fail
    go_ret
    exact ⟨rfl, by go_grown⟩
  · rcases hc with ⟨a0, rfl⟩ | ⟨a0, a1, rfl⟩ | ⟨a0, a1, a2, rfl⟩ | ⟨a0, a1, a2, a3, rfl⟩ | ⟨a0, a1, a2, a3, a4, rfl⟩ | ⟨a0, a1, a2, a3, a4, rfl⟩
    all_goals
      go_enter Tryd.func11, Tryd.ntmps11
      go_wp2_with fail
      go_at_call 19
      refine ((H1.out _)).mono ?_
      rintro e w1 ⟨rfl, hw1⟩
      have cw1_0_0 : w1.cell? ⟨W.heap.size, 0, none⟩ = some (.int .i64 ax) := cell_gr hw1 (by go_simp)
      have cw1_0_1 : w1.cell? ⟨W.heap.size, 1, none⟩ = some (.int .i64 ay) := cell_gr hw1 (by go_simp)
      have zw1_0 : W.heap.size < w1.heap.size := World.block_lt_of_cell? _ _ cw1_0_0
      have cw1_1_0 : w1.cell? ⟨W.heap.size + 1, 0, none⟩ = some (.int .i64 bx) := cell_gr hw1 (by go_simp)
      have cw1_1_1 : w1.cell? ⟨W.heap.size + 1, 1, none⟩ = some (.int .i64 by') := cell_gr hw1 (by go_simp)
      have zw1_1 : W.heap.size + 1 < w1.heap.size := World.block_lt_of_cell? _ _ cw1_1_0
      have cw1_2_0 : w1.cell? ⟨W.heap.size + 1 + 1, 0, none⟩ = some (.int .i64 px) := cell_gr hw1 (by go_simp)
      have cw1_2_1 : w1.cell? ⟨W.heap.size + 1 + 1, 1, none⟩ = some (.int .i64 py) := cell_gr hw1 (by go_simp)
      have zw1_2 : W.heap.size + 1 + 1 < w1.heap.size := World.block_lt_of_cell? _ _ cw1_2_0
      have gw1 : Gr W w1 := Gr.trans (by go_grown) hw1
      clear hw1
      go_wp2_with fail
      go_at_call 19
      refine ((H2.out _)).mono ?_
      rintro e w2 ⟨rfl, hw2⟩
      have cw2_0_0 : w2.cell? ⟨W.heap.size, 0, none⟩ = some (.int .i64 ax) := cell_gr hw2 (by go_simp)
      have cw2_0_1 : w2.cell? ⟨W.heap.size, 1, none⟩ = some (.int .i64 ay) := cell_gr hw2 (by go_simp)
      have zw2_0 : W.heap.size < w2.heap.size := World.block_lt_of_cell? _ _ cw2_0_0
      have cw2_1_0 : w2.cell? ⟨W.heap.size + 1, 0, none⟩ = some (.int .i64 bx) := cell_gr hw2 (by go_simp)
      have cw2_1_1 : w2.cell? ⟨W.heap.size + 1, 1, none⟩ = some (.int .i64 by') := cell_gr hw2 (by go_simp)
      have zw2_1 : W.heap.size + 1 < w2.heap.size := World.block_lt_of_cell? _ _ cw2_1_0
      have cw2_2_0 : w2.cell? ⟨W.heap.size + 1 + 1, 0, none⟩ = some (.int .i64 px) := cell_gr hw2 (by go_simp)
      have cw2_2_1 : w2.cell? ⟨W.heap.size + 1 + 1, 1, none⟩ = some (.int .i64 py) := cell_gr hw2 (by go_simp)
      have zw2_2 : W.heap.size + 1 + 1 < w2.heap.size := World.block_lt_of_cell? _ _ cw2_2_0
      have gw2 : Gr W w2 := Gr.trans (by have gg := gw1; have gs := gg.size; go_grown) hw2
      clear hw2 gw1 zw1_0 cw1_0_0 cw1_0_1 zw1_1 cw1_1_0 cw1_1_1 zw1_2 cw1_2_0 cw1_2_1
      go_wp2_with fail
      go_at_call 19
      refine ((H3.out _)).mono ?_
      rintro e w3 ⟨rfl, hw3⟩
      have cw3_0_0 : w3.cell? ⟨W.heap.size, 0, none⟩ = some (.int .i64 ax) := cell_gr hw3 (by go_simp)
      have cw3_0_1 : w3.cell? ⟨W.heap.size, 1, none⟩ = some (.int .i64 ay) := cell_gr hw3 (by go_simp)
      have zw3_0 : W.heap.size < w3.heap.size := World.block_lt_of_cell? _ _ cw3_0_0
      have cw3_1_0 : w3.cell? ⟨W.heap.size + 1, 0, none⟩ = some (.int .i64 bx) := cell_gr hw3 (by go_simp)
      have cw3_1_1 : w3.cell? ⟨W.heap.size + 1, 1, none⟩ = some (.int .i64 by') := cell_gr hw3 (by go_simp)
      have zw3_1 : W.heap.size + 1 < w3.heap.size := World.block_lt_of_cell? _ _ cw3_1_0
      have cw3_2_0 : w3.cell? ⟨W.heap.size + 1 + 1, 0, none⟩ = some (.int .i64 px) := cell_gr hw3 (by go_simp)
      have cw3_2_1 : w3.cell? ⟨W.heap.size + 1 + 1, 1, none⟩ = some (.int .i64 py) := cell_gr hw3 (by go_simp)
      have zw3_2 : W.heap.size + 1 + 1 < w3.heap.size := World.block_lt_of_cell? _ _ cw3_2_0
      have gw3 : Gr W w3 := Gr.trans (by have gg := gw2; have gs := gg.size; go_grown) hw3
      clear hw3 gw2 zw2_0 cw2_0_0 cw2_0_1 zw2_1 cw2_1_0 cw2_1_1 zw2_2 cw2_2_0 cw2_2_1
      go_wp2_with fail
      go_at_call 33
      refine ((H4.out _)).mono ?_
      rintro e w4 ⟨rfl, hw4⟩
      have cw4_0_0 : w4.cell? ⟨W.heap.size, 0, none⟩ = some (.int .i64 ax) := cell_gr hw4 (by go_simp)
      have cw4_0_1 : w4.cell? ⟨W.heap.size, 1, none⟩ = some (.int .i64 ay) := cell_gr hw4 (by go_simp)
      have zw4_0 : W.heap.size < w4.heap.size := World.block_lt_of_cell? _ _ cw4_0_0
      have cw4_1_0 : w4.cell? ⟨W.heap.size + 1, 0, none⟩ = some (.int .i64 bx) := cell_gr hw4 (by go_simp)
      have cw4_1_1 : w4.cell? ⟨W.heap.size + 1, 1, none⟩ = some (.int .i64 by') := cell_gr hw4 (by go_simp)
      have zw4_1 : W.heap.size + 1 < w4.heap.size := World.block_lt_of_cell? _ _ cw4_1_0
      have cw4_2_0 : w4.cell? ⟨W.heap.size + 1 + 1, 0, none⟩ = some (.int .i64 px) := cell_gr hw4 (by go_simp)
      have cw4_2_1 : w4.cell? ⟨W.heap.size + 1 + 1, 1, none⟩ = some (.int .i64 py) := cell_gr hw4 (by go_simp)
      have zw4_2 : W.heap.size + 1 + 1 < w4.heap.size := World.block_lt_of_cell? _ _ cw4_2_0
      have gw4 : Gr W w4 := Gr.trans (by have gg := gw3; have gs := gg.size; go_grown) hw4
      clear hw4 gw3 zw3_0 cw3_0_0 cw3_0_1 zw3_1 cw3_1_0 cw3_1_1 zw3_2 cw3_2_0 cw3_2_1
      go_wp2_with fail
      go_ret
      exact ⟨by first | rfl | simp [a4], by go_grown⟩
theorem c_rOnP (ax ay bx by' px py : Int) (W : World) : Calls Tryd.prog 11 #[.agg #[.int .i64 ax, .int .i64 ay], .agg #[.int .i64 bx, .int .i64 by'], .agg #[.int .i64 px, .int .i64 py]] W fun e w' => e = .returned (.bool (onG ax ay bx by' px py)) ∧ Gr W w' := by
  refine ronP_core ax ay bx by' px py _ _ _ _ _ _ _ _ _ W (run_min _ _) (run_maxZ _ _) (run_min _ _) (run_maxZ _ _) (c_rPoint ax ay) (c_rPoint bx by') (c_rPoint px py) (c_rCross ax ay bx by' px py) ?_
  unfold onG onF
  cases n1 : nearB ax ay
  · exact Or.inl ⟨rfl, rfl⟩
  · cases n2 : nearB bx by'
    · exact Or.inr (Or.inl ⟨rfl, rfl, rfl⟩)
    · cases n3 : nearB px py
      · exact Or.inr (Or.inr (Or.inl ⟨rfl, rfl, rfl, rfl⟩))
      · refine Or.inr (Or.inr (Or.inr ⟨rfl, rfl, rfl, ?_⟩))
        have e : crossZ ax ay bx by' px py = cr ax ay bx by' px py := by unfold crossZ cr; rw [n1, n2, n3]; rfl
        rw [e]
        have s : (sg ax ay bx by' px py == 0) = (cr ax ay bx by' px py == 0) := by
          rw [Bool.eq_iff_iff, beq_iff_eq, beq_iff_eq]
          have := sg_cases ax ay bx by' px py
          omega
        rw [s]
        unfold btw
        generalize minZ ax bx = m1
        generalize maxZ ax bx = m2
        generalize minZ ay by' = m3
        generalize maxZ ay by' = m4
        cases hk : (cr ax ay bx by' px py == 0) <;> by_cases a1 : m1 ≤ px <;> by_cases a2 : px ≤ m2 <;> by_cases a3 : m3 ≤ py <;> by_cases a4 : py ≤ m4 <;> simp [a1, a2, a3, a4]
set_option maxHeartbeats 20000000 in
set_option maxRecDepth 100000 in
theorem round_no {n cap : Nat} {a : Option Addr} (W : World) (hE : ErrT W) (h : 100 < n) : Calls Tryd.prog 3 #[.slice a n cap] W fun e w' => e = .returned (.bool true) ∧ Gr W w' := by
  have HAW := Lib.hid (fun w (g : Gr W w) => p21_awake w (errT_gr hE g))
  have hb : decide (n ≤ 100) = false := decide_eq_false (by omega)
  have HS := Lib.hid (fun w => h_small a n cap false hb.symm w)
  clear hE h hb
  go_enter Tryd.func3, Tryd.ntmps3
  go_wp2_with fail
  go_at_call 7
  refine ((HS.out _)).mono ?_
  rintro e w1 ⟨rfl, hw1⟩
  have gw1 : Gr W w1 := Gr.trans (by go_grown) hw1
  clear hw1
  go_wp2_with fail
  go_at_call 8
  refine ((HAW.out _ gw1)).mono ?_
  rintro e w2 ⟨rfl, hw2⟩
  have gw2 : Gr W w2 := Gr.trans (by have gg := gw1; have gs := gg.size; go_grown) hw2
  clear hw2 gw1
  go_wp2_with fail
  go_ret
  exact ⟨rfl, gw2⟩
set_option maxHeartbeats 20000000 in
set_option maxRecDepth 100000 in
theorem round_err {n : Nat} {X Y : Nat → Int} {v : Value} (W : World) (hE : ErrT W) (h : Pts W v n X Y) (h1 : n ≤ 100) (h0 : (mnC 1 n X Y).1 ≠ 0) : Calls Tryd.prog 3 #[v] W fun e w' => e = .returned (.bool true) ∧ Gr W w' := by
  have HAW := Lib.hid (fun w (g : Gr W w) => p21_awake w (errT_gr hE g))
  have HHL := Lib.hid (fun w (g : Gr W w) => hull_no w (pts_gr h g) h0)
  obtain ⟨a, cap, B, off, rfl, -, -, -, -⟩ := h
  have HS := Lib.hid (fun w => h_small a n cap true (decide_eq_true h1).symm w)
  clear hE h0
  go_enter Tryd.func3, Tryd.ntmps3
  go_wp2_with fail
  go_at_call 7
  refine ((HS.out _)).mono ?_
  rintro e w1 ⟨rfl, hw1⟩
  have gw1 : Gr W w1 := Gr.trans (by go_grown) hw1
  clear hw1
  go_wp2_with fail
  go_at_call 9
  (with_reducible refine (HHL.out _ gw1).mono ?_)
  rintro e w2 ⟨Bq, rfl, -, g2⟩
  go_wp2_with fail
  go_at_call 8
  (with_reducible refine (HAW.out _ (Gr.trans gw1 g2)).mono ?_)
  rintro e w3 ⟨rfl, g3⟩
  go_wp2_with fail
  go_ret
  exact ⟨rfl, Gr.trans (Gr.trans gw1 g2) g3⟩
set_option maxHeartbeats 40000000 in
set_option maxRecDepth 100000 in
theorem round_yes {n : Nat} {X Y : Nat → Int} {v : Value} (W : World) (hE : ErrT W) (h : Pts W v n X Y) (h1 : n ≤ 100) (h0 : (mnC 1 n X Y).1 = 0) : Calls Tryd.prog 3 #[v] W fun e w' => e = .returned (.bool true) ∧ Gr W w' := by
  have HAW := Lib.hid (fun w (g : Gr W w) => p21_awake w (errT_gr hE g))
  have HHL := Lib.hid (fun w (g : Gr W w) => hull_yes w (pts_gr h g) h0)
  have h2 : 1 ≤ n := (mnC_ok.1 h0).1
  have HNR := Lib.hid (mnC_ok.1 h0).2.2
  obtain ⟨ad, cap, B, off, rfl, k1, k2, k3, k4⟩ := h
  obtain rfl := k3 (by omega)
  have HX := Lib.hid k4
  have HS := Lib.hid (fun w => h_small (some ⟨B, off, none⟩) n cap true (decide_eq_true h1).symm w)
  have hni : (n : Int) ≤ 100 := by omega
  clear hE h0 k3 k4
  go_enter Tryd.func3, Tryd.ntmps3
  go_wp2_with fail
  go_at_call 7
  refine ((HS.out _)).mono ?_
  rintro e w1 ⟨rfl, hw1⟩
  have gw1 : Gr W w1 := Gr.trans (by go_grown) hw1
  clear hw1
  go_wp2_with fail
  go_at_call 9
  (with_reducible refine (HHL.out _ gw1).mono ?_)
  rintro e w4 ⟨ga, ca, ka, a, rfl, oa, hoka, g4⟩
  have gw4 : Gr W w4 := Gr.trans gw1 g4
  have hka : ka = a.length := (ownP_blk oa).2.2.1
  have hPA := pts_len hka (ownP_pts oa)
  have PA := Lib.hid hPA
  have HA := Lib.hid (cells_of_pts hPA)
  have hka2 : ka ≤ n := by have := hoka.le_len; rwa [lsP_len] at this
  have hkap : 1 ≤ ka := hoka.pos
  have hca : ka ≤ ca := (ownP_blk oa).2.2.2
  have hka9 : (ka : Int) ≤ 100 := by omega
  have nl := near_lsP HNR.out
  have nc : ∀ q, q < ka → nearB (fX a q) (fY a q) = true := fun q hq => nl _ (hoka.mem q hq)
  have HOK : Hp.HullOK (lsP n X Y) ka (fun i => (fX a i, fY a i)) := hoka
  have HOKA := Lib.hid HOK
  have HSELF := Lib.hid (HOK.self (m := lsP ka (fX a) (fY a)) (fun p hp => by
    obtain ⟨q, hq, rfl⟩ := lsP_mem.1 hp
    exact HOK.mem q hq) (fun i hi => lsP_in hi))
  have HM2 := Lib.hid (mnC_ok.2 ⟨hkap, by omega, nc⟩)
  have HNC := Lib.hid nc
  have HNL := Lib.hid nl
  have HGW := Lib.hid gw4
  have HX4 := Lib.hid (fun t (ht : t < n) => And.intro (cell_gr gw4 (HX.out t ht).1) (cell_gr gw4 (HX.out t ht).2))
  have HSI := Lib.hid (fun (h3 : 3 ≤ ka) i (hi : i < ka) => hull_left HOK h3 nc hi)
  clear g4 gw1 oa hka hoka nc HOK nl hPA HX
  by_cases c1 : ka = 1
  · have HC1 := Lib.hid c1
    have hle : ka ≤ 1 := by omega
    clear c1
    have e1 : ((ka : Int) == 1) = true := by simp; omega
    have f1 : (ka == 1) = true := by simp; omega
    have e2 : ((ka : Int) == 2) = false := by simp; omega
    have f2 : (ka == 2) = false := by simp; omega
    have e4 : decide ((2 : Int) < (ka : Int)) = false := decide_eq_false (by omega)
    have e5 : decide (2 < ka) = false := decide_eq_false (by omega)
    have e6 : ¬ 2 < ka := by omega
    have i0 : decide ((0 : Int) < (ka : Int)) = true := decide_eq_true (by omega)
    have i1 : decide (0 < ka) = true := decide_eq_true (by omega)
    have i2 : decide ((ka : Int) < 3) = true := decide_eq_true (by omega)
    have i3 : decide (ka < 3) = true := decide_eq_true (by omega)
    have i4 : (0 : Int) < (ka : Int) := by omega
    go_wp2_with fail
    go_loopg [6] 0 (fun gk z wr => z = .int .i64 0 ∧ Gr w4 wr)
    case atStart => exact ⟨rfl, Below.refl _ _⟩
    case round =>
      obtain ⟨rfl, gr⟩ := hrel
      go_wp2_with fail
      go_loopg [10] ka (fun gk z wr => ∃ i : Nat, z = .int .i64 i ∧ i ≤ ka ∧ gk = ka - i ∧ Gr w4 wr)
      case atStart => exact ⟨0, rfl, Nat.zero_le _, rfl, gr⟩
      case round =>
        clear gr
        obtain ⟨i, rfl, hi, hgk, gr⟩ := hrel
        by_cases hik : i < ka
        · have ti : decide ((i : Int) < (ka : Int)) = true := decide_eq_true (by omega)
          have ti2 : decide (i < ka) = true := decide_eq_true hik
          have ti3 : (i : Int) < (ka : Int) := by omega
          have hmm : ka - (i + 1) < gk := by omega
          have hii : (i : Int) ≤ 100 := by omega
          obtain ⟨xi, exi⟩ : ∃ x, x = fX a i := ⟨_, rfl⟩
          obtain ⟨yi, eyi⟩ : ∃ x, x = fY a i := ⟨_, rfl⟩
          have HXI := Lib.hid (And.intro exi eyi)
          have HAI := Lib.hid (HA.out i hik)
          rw [← exi, ← eyi] at HAI
          clear hgk exi eyi
          go_wp2_with fail
          go_loopg [11, 12] n (fun gk z u wr => ∃ (t : Nat) (m : Bool), u = .int .i64 t ∧ z = .bool m ∧ t ≤ n ∧ gk = n - t ∧ (m = true ∨ ∀ s, s < t → ¬ (X s = xi ∧ Y s = yi)) ∧ Gr w4 wr)
          case atStart => exact ⟨0, false, rfl, rfl, Nat.zero_le _, rfl, .inr (fun s hs => absurd hs (Nat.not_lt_zero _)), gr⟩
          case round =>
            clear gr
            obtain ⟨t, m, rfl, rfl, ht, hgk, hm, gr⟩ := hrel
            have HMM := Lib.hid hm
            clear hm
            by_cases htn : t < n
            · have tj : decide ((t : Int) < (n : Int)) = true := decide_eq_true (by omega)
              have tj2 : decide (t < n) = true := decide_eq_true htn
              have tj3 : (t : Int) < (n : Int) := by omega
              have hmm2 : n - (t + 1) < gk := by omega
              have htt : (t : Int) ≤ 100 := by omega
              obtain ⟨x0, x1⟩ := HX4.out t htn
              obtain ⟨y0, y1⟩ := HAI.out
              have s0 := cell_gr gr x0
              have s1 := cell_gr gr x1
              have s2 := cell_gr gr y0
              have s3 := cell_gr gr y1
              have zB := World.block_lt_of_cell? _ _ s0
              have zG := World.block_lt_of_cell? _ _ s2
              have y2 := HA.out 0 (by omega)
              have one : X t = fX a 0 ∧ Y t = fY a 0 := by
                have := HOKA.out.one (by omega) _ (lsP_in (X := X) (Y := Y) htn)
                exact ⟨congrArg Prod.fst this, congrArg Prod.snd this⟩
              have z0 := cell_gr gr y2.1
              have z1 := cell_gr gr y2.2
              rw [Nat.zero_mul] at z0 z1
              have NP := nePt_f (ax := X t) (ay := Y t) (bx := fX a 0) (by' := fY a 0) one
              generalize fX a 0 = h0 at z0 NP
              generalize fY a 0 = h1' at z1 NP
              clear y2 one
              have HTN := Lib.hid (lsP_in (X := X) (Y := Y) htn)
              obtain ⟨r, er⟩ : ∃ r, r = decide (X t = xi ∧ Y t = yi) := ⟨_, rfl⟩
              have EP := eqPt_r (ax := X t) (ay := Y t) (bx := xi) (by' := yi) (r := r) (by rw [er, decide_eq_true_eq])
              have HER := Lib.hid er
              obtain ⟨xt, ext⟩ : ∃ x, x = X t := ⟨_, rfl⟩
              obtain ⟨yt, eyt⟩ : ∃ x, x = Y t := ⟨_, rfl⟩
              rw [← ext] at s0 EP NP
              rw [← eyt] at s1 EP NP
              clear x0 x1 y0 y1 hgk er ext eyt
              cases m
              · 
                go_wp2_with fail
                refine wp_region_spread (by kernel_rfl) (by kernel_rfl) ?_
                try simp only [List.append]
                repeat (first | go_big_quiet_skip | (go_big_quiet_want; go_big_quiet_op; (first | go_big_quiet_on | (apply Exists.intro; refine ⟨fun _ => ?_, ?_⟩; (· fail); go_big_quiet_on))))
                refine wpQuiet_nil ?_
                intro w5 hhw5
                have hw5 := Hd.gr_of_spread hhw5
                have gw5 : Gr wr w5 := Gr.trans (by go_grown) hw5
                clear hw5 hhw5
                have gr5 := Gr.trans gr gw5
                have s5 := cell_gr gw5 s0
                have s6 := cell_gr gw5 s1
                have s7 := cell_gr gw5 s2
                have s8 := cell_gr gw5 s3
                have zB5 := World.block_lt_of_cell? _ _ s5
                have zG5 := World.block_lt_of_cell? _ _ s7
                have s9 := cell_gr gw5 z0
                have s10 := cell_gr gw5 z1
                clear z0 z1
                clear s0 s1 s2 s3 zB zG EP gr gw5
                go_wp2_with fail
                refine wp_region_spread (by kernel_rfl) (by kernel_rfl) ?_
                try simp only [List.append]
                repeat (first | go_big_quiet_skip | (go_big_quiet_want; go_big_quiet_op; (first | go_big_quiet_on | (apply Exists.intro; refine ⟨fun _ => ?_, ?_⟩; (· fail); go_big_quiet_on))))
                refine wpQuiet_nil ?_
                intro w6 hhw6
                have hw6 := Hd.gr_of_spread hhw6
                have gw6 : Gr w5 w6 := Gr.trans (by go_grown) hw6
                clear hw6 hhw6
                go_wp2_with fail
                go_roundg (n - (t + 1))
                case measure => exact hmm2
                case rel =>
                  refine ⟨t + 1, r, by go_num, rfl, htn, rfl, ?_, Gr.trans gr5 gw6⟩
                  cases r
                  · right
                    intro s hs
                    by_cases c : s = t
                    · subst c; exact of_decide_eq_false HER.out.symm
                    · exact (HMM.out.resolve_left (by simp)) s (by omega)
                  · left; rfl
              · 
                go_wp2_with fail
                refine wp_region_spread (by kernel_rfl) (by kernel_rfl) ?_
                try simp only [List.append]
                repeat (first | go_big_quiet_skip | (go_big_quiet_want; go_big_quiet_op; (first | go_big_quiet_on | (apply Exists.intro; refine ⟨fun _ => ?_, ?_⟩; (· fail); go_big_quiet_on))))
                refine wpQuiet_nil ?_
                intro w5 hhw5
                have hw5 := Hd.gr_of_spread hhw5
                have gw5 : Gr wr w5 := Gr.trans (by go_grown) hw5
                clear hw5 hhw5
                have gr5 := Gr.trans gr gw5
                have s5 := cell_gr gw5 s0
                have s6 := cell_gr gw5 s1
                have s7 := cell_gr gw5 s2
                have s8 := cell_gr gw5 s3
                have zB5 := World.block_lt_of_cell? _ _ s5
                have zG5 := World.block_lt_of_cell? _ _ s7
                have s9 := cell_gr gw5 z0
                have s10 := cell_gr gw5 z1
                clear z0 z1
                clear s0 s1 s2 s3 zB zG EP gr gw5
                go_wp2_with fail
                refine wp_region_spread (by kernel_rfl) (by kernel_rfl) ?_
                try simp only [List.append]
                repeat (first | go_big_quiet_skip | (go_big_quiet_want; go_big_quiet_op; (first | go_big_quiet_on | (apply Exists.intro; refine ⟨fun _ => ?_, ?_⟩; (· fail); go_big_quiet_on))))
                refine wpQuiet_nil ?_
                intro w6 hhw6
                have hw6 := Hd.gr_of_spread hhw6
                have gw6 : Gr w5 w6 := Gr.trans (by go_grown) hw6
                clear hw6 hhw6
                go_wp2_with fail
                go_roundg (n - (t + 1))
                case measure => exact hmm2
                case rel => exact ⟨t + 1, true, by go_num, rfl, htn, rfl, .inl rfl, Gr.trans gr5 gw6⟩
            · obtain rfl : n = t := by omega
              have tj : decide ((n : Int) < (n : Int)) = false := decide_eq_false (by omega)
              have tj2 : decide (n < n) = false := decide_eq_false (by omega)
              have hmt : m = true := by
                rcases HMM.out with h | h
                · exact h
                · obtain ⟨s, hs, e⟩ := lsP_mem.1 (HOKA.out.mem i hik)
                  exact absurd ⟨by rw [HXI.out.1]; exact (congrArg Prod.fst e).symm, by rw [HXI.out.2]; exact (congrArg Prod.snd e).symm⟩ (h s hs)
              subst hmt
              clear hgk
              go_wp2_with fail
              clear tj tj2
              go_loopg [13] i (fun gk z wr => ∃ t : Nat, z = .int .i64 t ∧ t ≤ i ∧ gk = i - t ∧ Gr w4 wr)
              case atStart => exact ⟨0, rfl, Nat.zero_le _, rfl, gr⟩
              case round =>
                clear gr
                obtain ⟨t, rfl, ht, hgk, gr⟩ := hrel
                by_cases hti : t < i
                · have tj : decide ((t : Int) < (i : Int)) = true := decide_eq_true (by omega)
                  have tj2 : decide (t < i) = true := decide_eq_true hti
                  have tj3 : (t : Int) < (ka : Int) := by omega
                  have hmm2 : i - (t + 1) < gk := by omega
                  have htt : (t : Int) ≤ 100 := by omega
                  obtain ⟨x0, x1⟩ := HA.out t (by omega)
                  obtain ⟨y0, y1⟩ := HAI.out
                  have s0 := cell_gr gr x0
                  have s1 := cell_gr gr x1
                  have s2 := cell_gr gr y0
                  have s3 := cell_gr gr y1
                  have zG := World.block_lt_of_cell? _ _ s2
                  have EP := eqPt_r (ax := fX a t) (ay := fY a t) (bx := xi) (by' := yi) (r := false) ⟨fun h => Bool.noConfusion h, fun h => by
                    have := HOKA.out.inj t i (by omega) hik (by rw [HXI.out.1, HXI.out.2] at h; exact Prod.ext h.1 h.2)
                    omega⟩
                  generalize fX a t = xt at s0 EP
                  generalize fY a t = yt at s1 EP
                  clear x0 x1 y0 y1 hgk
                  go_wp2_with fail
                  refine wp_region_spread (by kernel_rfl) (by kernel_rfl) ?_
                  try simp only [List.append]
                  repeat (first | go_big_quiet_skip | (go_big_quiet_want; go_big_quiet_op; (first | go_big_quiet_on | (apply Exists.intro; refine ⟨fun _ => ?_, ?_⟩; (· fail); go_big_quiet_on))))
                  refine wpQuiet_nil ?_
                  intro w7 hhw7
                  have hw7 := Hd.gr_of_spread hhw7
                  have gw7 : Gr wr w7 := Gr.trans (by go_grown) hw7
                  clear hw7 hhw7
                  go_wp2_with fail
                  go_roundg (i - (t + 1))
                  case measure => exact hmm2
                  case rel => exact ⟨t + 1, by go_num, hti, rfl, Gr.trans gr gw7⟩
                · obtain rfl : i = t := by omega
                  have tj : decide ((i : Int) < (i : Int)) = false := decide_eq_false (by omega)
                  have tj2 : decide (i < i) = false := decide_eq_false (by omega)
                  clear hgk
                  go_wp2_with fail
                  go_roundg (ka - (i + 1))
                  case measure => exact hmm
                  case rel => exact ⟨i + 1, by go_num, hik, rfl, gr⟩
        · obtain rfl : ka = i := by omega
          have ti : decide ((ka : Int) < (ka : Int)) = false := decide_eq_false (by omega)
          have ti2 : decide (ka < ka) = false := decide_eq_false (by omega)
          clear hgk
          have HHB := Lib.hid (hull_yes wr (pts_gr PA.out gr) HM2.out)
          go_wp2_with fail
          go_at_call 9
          (with_reducible refine HHB.out.mono ?_)
          rintro e w8 ⟨gb, cb, kb, b, rfl, ob, hokb, g8⟩
          have gr8 : Gr w4 w8 := Gr.trans gr g8
          have PB := Lib.hid (pts_len (ownP_blk ob).2.2.1 (ownP_pts ob))
          have hs := HSELF.out.uniq hokb
          have CP := fun w (g : Gr w8 w) => h_rPoints true w (pts_gr PB.out g) (pts_gr PA.out (Gr.trans gr8 g)) (by omega) ⟨fun _ => ⟨hs.1.symm, fun q hq => ⟨(congrArg Prod.fst (hs.2 q (by omega))).symm, (congrArg Prod.snd (hs.2 q (by omega))).symm⟩⟩, fun _ => rfl⟩
          have HCP := Lib.hid CP
          have HGR := Lib.hid gr8
          clear CP hs hokb ob HHB g8
          go_wp2_with fail
          go_at_call 12
          (with_reducible refine (HCP.out _ (Below.refl _ _)).mono ?_)
          rintro e w9 ⟨rfl, g9⟩
          go_wp2_with fail
          go_at_call 8
          (with_reducible refine (HAW.out _ (Gr.trans HGW.out (Gr.trans HGR.out g9))).mono ?_)
          rintro e w15 ⟨rfl, g15⟩
          go_wp2_with fail
          go_ret
          exact ⟨rfl, Gr.trans (Gr.trans HGW.out (Gr.trans HGR.out g9)) g15⟩
  by_cases c2 : ka = 2
  · have HC2 := Lib.hid c2
    have hle : ka ≤ 2 := by omega
    have hge : 2 ≤ ka := by omega
    clear c2
    have e1 : ((ka : Int) == 1) = false := by simp; omega
    have f1 : (ka == 1) = false := by simp; omega
    have e2 : ((ka : Int) == 2) = true := by simp; omega
    have f2 : (ka == 2) = true := by simp; omega
    have e4 : decide ((2 : Int) < (ka : Int)) = false := decide_eq_false (by omega)
    have e5 : decide (2 < ka) = false := decide_eq_false (by omega)
    have e6 : ¬ 2 < ka := by omega
    have i0 : decide ((0 : Int) < (ka : Int)) = true := decide_eq_true (by omega)
    have i1 : decide (0 < ka) = true := decide_eq_true (by omega)
    have i2 : decide ((ka : Int) < 3) = true := decide_eq_true (by omega)
    have i3 : decide (ka < 3) = true := decide_eq_true (by omega)
    have i4 : (0 : Int) < (ka : Int) := by omega
    have i5 : (1 : Int) < (ka : Int) := by omega
    go_wp2_with fail
    go_loopg [6] 0 (fun gk z wr => z = .int .i64 0 ∧ Gr w4 wr)
    case atStart => exact ⟨rfl, Below.refl _ _⟩
    case round =>
      obtain ⟨rfl, gr⟩ := hrel
      go_wp2_with fail
      go_loopg [10] ka (fun gk z wr => ∃ i : Nat, z = .int .i64 i ∧ i ≤ ka ∧ gk = ka - i ∧ Gr w4 wr)
      case atStart => exact ⟨0, rfl, Nat.zero_le _, rfl, gr⟩
      case round =>
        clear gr
        obtain ⟨i, rfl, hi, hgk, gr⟩ := hrel
        by_cases hik : i < ka
        · have ti : decide ((i : Int) < (ka : Int)) = true := decide_eq_true (by omega)
          have ti2 : decide (i < ka) = true := decide_eq_true hik
          have ti3 : (i : Int) < (ka : Int) := by omega
          have hmm : ka - (i + 1) < gk := by omega
          have hii : (i : Int) ≤ 100 := by omega
          obtain ⟨xi, exi⟩ : ∃ x, x = fX a i := ⟨_, rfl⟩
          obtain ⟨yi, eyi⟩ : ∃ x, x = fY a i := ⟨_, rfl⟩
          have HXI := Lib.hid (And.intro exi eyi)
          have HAI := Lib.hid (HA.out i hik)
          rw [← exi, ← eyi] at HAI
          clear hgk exi eyi
          go_wp2_with fail
          go_loopg [11, 12] n (fun gk z u wr => ∃ (t : Nat) (m : Bool), u = .int .i64 t ∧ z = .bool m ∧ t ≤ n ∧ gk = n - t ∧ (m = true ∨ ∀ s, s < t → ¬ (X s = xi ∧ Y s = yi)) ∧ Gr w4 wr)
          case atStart => exact ⟨0, false, rfl, rfl, Nat.zero_le _, rfl, .inr (fun s hs => absurd hs (Nat.not_lt_zero _)), gr⟩
          case round =>
            clear gr
            obtain ⟨t, m, rfl, rfl, ht, hgk, hm, gr⟩ := hrel
            have HMM := Lib.hid hm
            clear hm
            by_cases htn : t < n
            · have tj : decide ((t : Int) < (n : Int)) = true := decide_eq_true (by omega)
              have tj2 : decide (t < n) = true := decide_eq_true htn
              have tj3 : (t : Int) < (n : Int) := by omega
              have hmm2 : n - (t + 1) < gk := by omega
              have htt : (t : Int) ≤ 100 := by omega
              obtain ⟨x0, x1⟩ := HX4.out t htn
              obtain ⟨y0, y1⟩ := HAI.out
              have s0 := cell_gr gr x0
              have s1 := cell_gr gr x1
              have s2 := cell_gr gr y0
              have s3 := cell_gr gr y1
              have zB := World.block_lt_of_cell? _ _ s0
              have zG := World.block_lt_of_cell? _ _ s2
              have y2 := HA.out 0 (by omega)
              have y3 := HA.out 1 (by omega)
              have CN := fun w => c_rOnP (fX a 0) (fY a 0) (fX a 1) (fY a 1) (X t) (Y t) w
              rw [hull_on (by have := HOKA.out; rwa [HC2.out] at this) HNL.out (lsP_in (X := X) (Y := Y) htn)] at CN
              have z0 := cell_gr gr y2.1
              have z1 := cell_gr gr y2.2
              have z2 := cell_gr gr y3.1
              have z3 := cell_gr gr y3.2
              rw [Nat.zero_mul] at z0 z1
              rw [Nat.one_mul] at z2 z3
              generalize fX a 0 = h0 at z0 CN
              generalize fY a 0 = h1' at z1 CN
              generalize fX a 1 = h2' at z2 CN
              generalize fY a 1 = h3' at z3 CN
              clear y2 y3
              have HTN := Lib.hid (lsP_in (X := X) (Y := Y) htn)
              obtain ⟨r, er⟩ : ∃ r, r = decide (X t = xi ∧ Y t = yi) := ⟨_, rfl⟩
              have EP := eqPt_r (ax := X t) (ay := Y t) (bx := xi) (by' := yi) (r := r) (by rw [er, decide_eq_true_eq])
              have HER := Lib.hid er
              obtain ⟨xt, ext⟩ : ∃ x, x = X t := ⟨_, rfl⟩
              obtain ⟨yt, eyt⟩ : ∃ x, x = Y t := ⟨_, rfl⟩
              rw [← ext] at s0 EP CN
              rw [← eyt] at s1 EP CN
              clear x0 x1 y0 y1 hgk er ext eyt
              cases m
              · 
                go_wp2_with fail
                refine wp_region_spread (by kernel_rfl) (by kernel_rfl) ?_
                try simp only [List.append]
                repeat (first | go_big_quiet_skip | (go_big_quiet_want; go_big_quiet_op; (first | go_big_quiet_on | (apply Exists.intro; refine ⟨fun _ => ?_, ?_⟩; (· fail); go_big_quiet_on))))
                refine wpQuiet_nil ?_
                intro w5 hhw5
                have hw5 := Hd.gr_of_spread hhw5
                have gw5 : Gr wr w5 := Gr.trans (by go_grown) hw5
                clear hw5 hhw5
                have gr5 := Gr.trans gr gw5
                have s5 := cell_gr gw5 s0
                have s6 := cell_gr gw5 s1
                have s7 := cell_gr gw5 s2
                have s8 := cell_gr gw5 s3
                have zB5 := World.block_lt_of_cell? _ _ s5
                have zG5 := World.block_lt_of_cell? _ _ s7
                have s9 := cell_gr gw5 z0
                have s10 := cell_gr gw5 z1
                have s11 := cell_gr gw5 z2
                have s12 := cell_gr gw5 z3
                have HCN := Lib.hid CN
                clear z0 z1 z2 z3 CN
                clear s0 s1 s2 s3 zB zG EP gr gw5
                go_wp2_with fail
                refine wp_region_spread (by kernel_rfl) (by kernel_rfl) ?_
                try simp only [List.append]
                repeat (first | go_big_quiet_skip | (go_big_quiet_want; go_big_quiet_op; (first | go_big_quiet_on | (apply Exists.intro; refine ⟨fun _ => ?_, ?_⟩; (· (first | (go_at_call 11; first | ((with_reducible refine ((HCN.out _)).mono ?_); rintro e w' ⟨rfl, hg⟩; exact ⟨rfl, spread_gr hg⟩)))); go_big_quiet_on))))
                refine wpQuiet_nil ?_
                intro w6 hhw6
                have hw6 := Hd.gr_of_spread hhw6
                have gw6 : Gr w5 w6 := Gr.trans (by go_grown) hw6
                clear hw6 hhw6
                go_wp2_with fail
                go_roundg (n - (t + 1))
                case measure => exact hmm2
                case rel =>
                  refine ⟨t + 1, r, by go_num, rfl, htn, rfl, ?_, Gr.trans gr5 gw6⟩
                  cases r
                  · right
                    intro s hs
                    by_cases c : s = t
                    · subst c; exact of_decide_eq_false HER.out.symm
                    · exact (HMM.out.resolve_left (by simp)) s (by omega)
                  · left; rfl
              · 
                go_wp2_with fail
                refine wp_region_spread (by kernel_rfl) (by kernel_rfl) ?_
                try simp only [List.append]
                repeat (first | go_big_quiet_skip | (go_big_quiet_want; go_big_quiet_op; (first | go_big_quiet_on | (apply Exists.intro; refine ⟨fun _ => ?_, ?_⟩; (· fail); go_big_quiet_on))))
                refine wpQuiet_nil ?_
                intro w5 hhw5
                have hw5 := Hd.gr_of_spread hhw5
                have gw5 : Gr wr w5 := Gr.trans (by go_grown) hw5
                clear hw5 hhw5
                have gr5 := Gr.trans gr gw5
                have s5 := cell_gr gw5 s0
                have s6 := cell_gr gw5 s1
                have s7 := cell_gr gw5 s2
                have s8 := cell_gr gw5 s3
                have zB5 := World.block_lt_of_cell? _ _ s5
                have zG5 := World.block_lt_of_cell? _ _ s7
                have s9 := cell_gr gw5 z0
                have s10 := cell_gr gw5 z1
                have s11 := cell_gr gw5 z2
                have s12 := cell_gr gw5 z3
                have HCN := Lib.hid CN
                clear z0 z1 z2 z3 CN
                clear s0 s1 s2 s3 zB zG EP gr gw5
                go_wp2_with fail
                refine wp_region_spread (by kernel_rfl) (by kernel_rfl) ?_
                try simp only [List.append]
                repeat (first | go_big_quiet_skip | (go_big_quiet_want; go_big_quiet_op; (first | go_big_quiet_on | (apply Exists.intro; refine ⟨fun _ => ?_, ?_⟩; (· (first | (go_at_call 11; first | ((with_reducible refine ((HCN.out _)).mono ?_); rintro e w' ⟨rfl, hg⟩; exact ⟨rfl, spread_gr hg⟩)))); go_big_quiet_on))))
                refine wpQuiet_nil ?_
                intro w6 hhw6
                have hw6 := Hd.gr_of_spread hhw6
                have gw6 : Gr w5 w6 := Gr.trans (by go_grown) hw6
                clear hw6 hhw6
                go_wp2_with fail
                go_roundg (n - (t + 1))
                case measure => exact hmm2
                case rel => exact ⟨t + 1, true, by go_num, rfl, htn, rfl, .inl rfl, Gr.trans gr5 gw6⟩
            · obtain rfl : n = t := by omega
              have tj : decide ((n : Int) < (n : Int)) = false := decide_eq_false (by omega)
              have tj2 : decide (n < n) = false := decide_eq_false (by omega)
              have hmt : m = true := by
                rcases HMM.out with h | h
                · exact h
                · obtain ⟨s, hs, e⟩ := lsP_mem.1 (HOKA.out.mem i hik)
                  exact absurd ⟨by rw [HXI.out.1]; exact (congrArg Prod.fst e).symm, by rw [HXI.out.2]; exact (congrArg Prod.snd e).symm⟩ (h s hs)
              subst hmt
              clear hgk
              go_wp2_with fail
              clear tj tj2
              go_loopg [13] i (fun gk z wr => ∃ t : Nat, z = .int .i64 t ∧ t ≤ i ∧ gk = i - t ∧ Gr w4 wr)
              case atStart => exact ⟨0, rfl, Nat.zero_le _, rfl, gr⟩
              case round =>
                clear gr
                obtain ⟨t, rfl, ht, hgk, gr⟩ := hrel
                by_cases hti : t < i
                · have tj : decide ((t : Int) < (i : Int)) = true := decide_eq_true (by omega)
                  have tj2 : decide (t < i) = true := decide_eq_true hti
                  have tj3 : (t : Int) < (ka : Int) := by omega
                  have hmm2 : i - (t + 1) < gk := by omega
                  have htt : (t : Int) ≤ 100 := by omega
                  obtain ⟨x0, x1⟩ := HA.out t (by omega)
                  obtain ⟨y0, y1⟩ := HAI.out
                  have s0 := cell_gr gr x0
                  have s1 := cell_gr gr x1
                  have s2 := cell_gr gr y0
                  have s3 := cell_gr gr y1
                  have zG := World.block_lt_of_cell? _ _ s2
                  have EP := eqPt_r (ax := fX a t) (ay := fY a t) (bx := xi) (by' := yi) (r := false) ⟨fun h => Bool.noConfusion h, fun h => by
                    have := HOKA.out.inj t i (by omega) hik (by rw [HXI.out.1, HXI.out.2] at h; exact Prod.ext h.1 h.2)
                    omega⟩
                  generalize fX a t = xt at s0 EP
                  generalize fY a t = yt at s1 EP
                  clear x0 x1 y0 y1 hgk
                  go_wp2_with fail
                  refine wp_region_spread (by kernel_rfl) (by kernel_rfl) ?_
                  try simp only [List.append]
                  repeat (first | go_big_quiet_skip | (go_big_quiet_want; go_big_quiet_op; (first | go_big_quiet_on | (apply Exists.intro; refine ⟨fun _ => ?_, ?_⟩; (· fail); go_big_quiet_on))))
                  refine wpQuiet_nil ?_
                  intro w7 hhw7
                  have hw7 := Hd.gr_of_spread hhw7
                  have gw7 : Gr wr w7 := Gr.trans (by go_grown) hw7
                  clear hw7 hhw7
                  go_wp2_with fail
                  go_roundg (i - (t + 1))
                  case measure => exact hmm2
                  case rel => exact ⟨t + 1, by go_num, hti, rfl, Gr.trans gr gw7⟩
                · obtain rfl : i = t := by omega
                  have tj : decide ((i : Int) < (i : Int)) = false := decide_eq_false (by omega)
                  have tj2 : decide (i < i) = false := decide_eq_false (by omega)
                  clear hgk
                  go_wp2_with fail
                  go_roundg (ka - (i + 1))
                  case measure => exact hmm
                  case rel => exact ⟨i + 1, by go_num, hik, rfl, gr⟩
        · obtain rfl : ka = i := by omega
          have ti : decide ((ka : Int) < (ka : Int)) = false := decide_eq_false (by omega)
          have ti2 : decide (ka < ka) = false := decide_eq_false (by omega)
          clear hgk
          have HHB := Lib.hid (hull_yes wr (pts_gr PA.out gr) HM2.out)
          go_wp2_with fail
          go_at_call 9
          (with_reducible refine HHB.out.mono ?_)
          rintro e w8 ⟨gb, cb, kb, b, rfl, ob, hokb, g8⟩
          have gr8 : Gr w4 w8 := Gr.trans gr g8
          have PB := Lib.hid (pts_len (ownP_blk ob).2.2.1 (ownP_pts ob))
          have hs := HSELF.out.uniq hokb
          have CP := fun w (g : Gr w8 w) => h_rPoints true w (pts_gr PB.out g) (pts_gr PA.out (Gr.trans gr8 g)) (by omega) ⟨fun _ => ⟨hs.1.symm, fun q hq => ⟨(congrArg Prod.fst (hs.2 q (by omega))).symm, (congrArg Prod.snd (hs.2 q (by omega))).symm⟩⟩, fun _ => rfl⟩
          have HCP := Lib.hid CP
          have HGR := Lib.hid gr8
          clear CP hs hokb ob HHB g8
          go_wp2_with fail
          go_at_call 12
          (with_reducible refine (HCP.out _ (Below.refl _ _)).mono ?_)
          rintro e w9 ⟨rfl, g9⟩
          go_wp2_with fail
          go_at_call 8
          (with_reducible refine (HAW.out _ (Gr.trans HGW.out (Gr.trans HGR.out g9))).mono ?_)
          rintro e w15 ⟨rfl, g15⟩
          go_wp2_with fail
          go_ret
          exact ⟨rfl, Gr.trans (Gr.trans HGW.out (Gr.trans HGR.out g9)) g15⟩
  · have hge : 3 ≤ ka := by omega
    clear c1 c2
    have e1 : ((ka : Int) == 1) = false := by simp; omega
    have f1 : (ka == 1) = false := by simp; omega
    have e2 : ((ka : Int) == 2) = false := by simp; omega
    have f2 : (ka == 2) = false := by simp; omega
    have e3 : (2 : Int) < ka := by omega
    have e4 : decide ((2 : Int) < (ka : Int)) = true := decide_eq_true (by omega)
    have e5 : decide (2 < ka) = true := decide_eq_true (by omega)
    have i0 : decide ((0 : Int) < (ka : Int)) = true := decide_eq_true (by omega)
    have i1 : decide (0 < ka) = true := decide_eq_true (by omega)
    have i2 : decide ((ka : Int) < 3) = false := decide_eq_false (by omega)
    have i3 : decide (ka < 3) = false := decide_eq_false (by omega)
    have i4 : (0 : Int) < (ka : Int) := by omega
    go_wp2_with fail
    go_loopg [6] ka (fun gk z wr => ∃ i : Nat, z = .int .i64 i ∧ i ≤ ka ∧ gk = ka - i ∧ Gr w4 wr)
    case atStart => exact ⟨0, rfl, Nat.zero_le _, rfl, Below.refl _ _⟩
    case round =>
      obtain ⟨i, rfl, hi, hgk, gr⟩ := hrel
      by_cases hik : i < ka
      · have ti : decide ((i : Int) < (ka : Int)) = true := decide_eq_true (by omega)
        have ti2 : decide (i < ka) = true := decide_eq_true hik
        have ti3 : (i : Int) < (ka : Int) := by omega
        have hmm : ka - (i + 1) < gk := by omega
        have hii : (i : Int) ≤ 100 := by omega
        have hj : (i + 1) % ka < ka := Nat.mod_lt _ (by omega)
        have hk : (i + 2) % ka < ka := Nat.mod_lt _ (by omega)
        have q1 := rem_at ka i 1
        have q2 := rem_at ka i 2
        have CO := fun w => c_rOrient (fX a i) (fY a i) (fX a ((i + 1) % ka)) (fY a ((i + 1) % ka)) (fX a ((i + 2) % ka)) (fY a ((i + 2) % ka)) w
        rw [HSI.out (by omega) i hik] at CO
        have SD : ∀ t, t < n → ¬ cmpZ (crossZ (fX a i) (fY a i) (fX a ((i + 1) % ka)) (fY a ((i + 1) % ka)) (X t) (Y t)) 0 < 0 := fun t ht => by
          have h := hull_side (X := fX a) (Y := fY a) (p := (X t, Y t)) HOKA.out (by omega) HNL.out hik (lsP_in ht)
          exact h
        obtain ⟨a0, a1⟩ := HA.out i hik
        obtain ⟨b0, b1⟩ := HA.out _ hj
        obtain ⟨d0, d1⟩ := HA.out _ hk
        generalize fX a i = xi at a0 CO SD
        generalize fY a i = yi at a1 CO SD
        generalize fX a ((i + 1) % ka) = xj at b0 CO SD
        generalize fY a ((i + 1) % ka) = yj at b1 CO SD
        generalize fX a ((i + 2) % ka) = xk at d0 CO
        generalize fY a ((i + 2) % ka) = yk at d1 CO
        generalize (i + 1) % ka = j at hj q1 b0 b1
        generalize (i + 2) % ka = k at hk q2 d0 d1
        have HCO := Lib.hid CO
        have HSD := Lib.hid SD
        have s0 := cell_gr gr a0
        have s1 := cell_gr gr a1
        have s2 := cell_gr gr b0
        have s3 := cell_gr gr b1
        have s4 := cell_gr gr d0
        have s5 := cell_gr gr d1
        have zG := World.block_lt_of_cell? _ _ s0
        have hj9 : (j : Int) ≤ 100 := by omega
        have hk9 : (k : Int) ≤ 100 := by omega
        have tj3 : (j : Int) < (ka : Int) := by omega
        have tk3 : (k : Int) < (ka : Int) := by omega
        have nz : ((ka : Int) == 0) = false := by simp; omega
        have nz1 : (ka == 0) = false := by simp; omega
        have nz2 : (ka : Int) ≠ 0 := by omega
        rw [show ((1 : Nat) : Int) = 1 from rfl] at q1
        rw [show ((2 : Nat) : Int) = 2 from rfl] at q2
        have wp1 : IntKind.i64.wrap ((i : Int) + 1) = (i : Int) + 1 := IntWalk.i64_in _ (by omega)
        have wp2 : IntKind.i64.wrap (j : Int) = (j : Int) := IntWalk.i64_in _ (by omega)
        have wp3 : IntKind.i64.wrap ((i : Int) + 2) = (i : Int) + 2 := IntWalk.i64_in _ (by omega)
        have wp4 : IntKind.i64.wrap (k : Int) = (k : Int) := IntWalk.i64_in _ (by omega)
        clear CO SD a0 a1 b0 b1 d0 d1 hgk
        go_wp2_with fail
        generalize hhwq : ((wr.alloc (.cells #[.int .i64 xi, .int .i64 yi] 30)).alloc (.cells #[.int .i64 xj, .int .i64 yj] 30)) = wq
        have cwq_0_0 : wq.cell? ⟨wr.heap.size, 0, none⟩ = some (.int .i64 xi) := by subst hhwq; go_simp
        have cwq_0_1 : wq.cell? ⟨wr.heap.size, 1, none⟩ = some (.int .i64 yi) := by subst hhwq; go_simp
        have zwq_0 : wr.heap.size < wq.heap.size := World.block_lt_of_cell? _ _ cwq_0_0
        have cwq_1_0 : wq.cell? ⟨wr.heap.size + 1, 0, none⟩ = some (.int .i64 xj) := by subst hhwq; go_simp
        have cwq_1_1 : wq.cell? ⟨wr.heap.size + 1, 1, none⟩ = some (.int .i64 yj) := by subst hhwq; go_simp
        have zwq_1 : wr.heap.size + 1 < wq.heap.size := World.block_lt_of_cell? _ _ cwq_1_0
        have gwq : Gr wr wq := by subst hhwq; go_grown
        clear hhwq
        have s4q := cell_gr gwq s4
        have s5q := cell_gr gwq s5
        have zGq := World.block_lt_of_cell? _ _ s4q
        clear s0 s1 s2 s3 s4 s5 zG
        go_wp2_with fail
        refine wp_region_spread (by kernel_rfl) (by kernel_rfl) ?_
        try simp only [List.append]
        repeat (first | go_big_quiet_skip | (go_big_quiet_want; go_big_quiet_op; (first | go_big_quiet_on | (apply Exists.intro; refine ⟨fun _ => ?_, ?_⟩; (· (first | (go_at_call 10; first | ((with_reducible refine ((HCO.out _)).mono ?_); rintro e w' ⟨rfl, hg⟩; exact ⟨rfl, spread_gr hg⟩)))); go_big_quiet_on))))
        refine wpQuiet_nil ?_
        intro w5 hhw5
        have hw5 := Hd.gr_of_spread hhw5
        have cw5_0_0 : w5.cell? ⟨wr.heap.size, 0, none⟩ = some (.int .i64 xi) := cell_gr hw5 (by go_simp)
        have cw5_0_1 : w5.cell? ⟨wr.heap.size, 1, none⟩ = some (.int .i64 yi) := cell_gr hw5 (by go_simp)
        have zw5_0 : wr.heap.size < w5.heap.size := World.block_lt_of_cell? _ _ cw5_0_0
        have cw5_1_0 : w5.cell? ⟨wr.heap.size + 1, 0, none⟩ = some (.int .i64 xj) := cell_gr hw5 (by go_simp)
        have cw5_1_1 : w5.cell? ⟨wr.heap.size + 1, 1, none⟩ = some (.int .i64 yj) := cell_gr hw5 (by go_simp)
        have zw5_1 : wr.heap.size + 1 < w5.heap.size := World.block_lt_of_cell? _ _ cw5_1_0
        have gw5 : Gr wr w5 := Gr.trans (by have gg := gwq; have gs := gg.size; go_grown) hw5
        clear hw5 hhw5 gwq zwq_0 cwq_0_0 cwq_0_1 zwq_1 cwq_1_0 cwq_1_1
        have gr5 : Gr w4 w5 := Gr.trans gr gw5
        obtain ⟨A2, eA2⟩ : ∃ b, b = wr.heap.size + 1 := ⟨_, rfl⟩
        rw [← eA2] at cw5_1_0 cw5_1_1 ⊢
        obtain ⟨A1, eA1⟩ : ∃ b, b = wr.heap.size := ⟨_, rfl⟩
        rw [← eA1] at cw5_0_0 cw5_0_1 ⊢
        clear s4q s5q zGq zw5_0 zw5_1 gw5 gr eA1 eA2 hj hk q1 q2 wp2 wp3 wp4 hj9 hk9 tj3 tk3 nz nz1 nz2
        go_wp2_with fail
        go_loopg [9] n (fun gk z wr => ∃ t : Nat, z = .int .i64 t ∧ t ≤ n ∧ gk = n - t ∧ wr.cell? ⟨A1, 0, none⟩ = some (.int .i64 xi) ∧ wr.cell? ⟨A1, 1, none⟩ = some (.int .i64 yi) ∧ wr.cell? ⟨A2, 0, none⟩ = some (.int .i64 xj) ∧ wr.cell? ⟨A2, 1, none⟩ = some (.int .i64 yj) ∧ Gr w4 wr)
        case atStart => exact ⟨0, rfl, Nat.zero_le _, rfl, cw5_0_0, cw5_0_1, cw5_1_0, cw5_1_1, gr5⟩
        case round =>
          clear cw5_0_0 cw5_0_1 cw5_1_0 cw5_1_1 gr5
          obtain ⟨t, rfl, ht, hgk, a0, a1, b0, b1, gr⟩ := hrel
          by_cases htn : t < n
          · have tj : decide ((t : Int) < (n : Int)) = true := decide_eq_true (by omega)
            have tj2 : decide (t < n) = true := decide_eq_true htn
            have tj3 : (t : Int) < (n : Int) := by omega
            have hmm2 : n - (t + 1) < gk := by omega
            have htt : (t : Int) ≤ 100 := by omega
            obtain ⟨x0, x1⟩ := HX4.out t htn
            obtain ⟨o, eo⟩ : ∃ o, o = cmpZ (crossZ xi yi xj yj (X t) (Y t)) 0 := ⟨_, rfl⟩
            have to2 : ¬ o < 0 := by rw [eo]; exact Int.not_lt.2 (HSD.out t htn)
            have to1 : decide (o < (0 : Int)) = false := decide_eq_false to2
            have CO := fun w => c_rOrient xi yi xj yj (X t) (Y t) w
            rw [← eo] at CO
            generalize X t = xt at x0 CO
            generalize Y t = yt at x1 CO
            have HCO2 := Lib.hid CO
            have s0 := cell_gr gr x0
            have s1 := cell_gr gr x1
            have zB := World.block_lt_of_cell? _ _ s0
            have zA1 := World.block_lt_of_cell? _ _ a0
            have zA2 := World.block_lt_of_cell? _ _ b0
            clear CO eo x0 x1 hgk
            go_wp2_with fail
            refine wp_region_spread (by kernel_rfl) (by kernel_rfl) ?_
            try simp only [List.append]
            repeat (first | go_big_quiet_skip | (go_big_quiet_want; go_big_quiet_op; (first | go_big_quiet_on | (apply Exists.intro; refine ⟨fun _ => ?_, ?_⟩; (· (first | (go_at_call 10; first | ((with_reducible refine ((HCO2.out _)).mono ?_); rintro e w' ⟨rfl, hg⟩; exact ⟨rfl, spread_gr hg⟩)))); go_big_quiet_on))))
            refine wpQuiet_nil ?_
            intro w6 hhw6
            have hw6 := Hd.gr_of_spread hhw6
            have cw6_0_0 : w6.cell? ⟨A1, 0, none⟩ = some (.int .i64 xi) := cell_gr hw6 (by go_simp)
            have cw6_0_1 : w6.cell? ⟨A1, 1, none⟩ = some (.int .i64 yi) := cell_gr hw6 (by go_simp)
            have zw6_0 : A1 < w6.heap.size := World.block_lt_of_cell? _ _ cw6_0_0
            have cw6_1_0 : w6.cell? ⟨A2, 0, none⟩ = some (.int .i64 xj) := cell_gr hw6 (by go_simp)
            have cw6_1_1 : w6.cell? ⟨A2, 1, none⟩ = some (.int .i64 yj) := cell_gr hw6 (by go_simp)
            have zw6_1 : A2 < w6.heap.size := World.block_lt_of_cell? _ _ cw6_1_0
            have gw6 : Gr wr w6 := Gr.trans (by go_grown) hw6
            clear hw6 hhw6
            go_wp2_with fail
            go_roundg (n - (t + 1))
            case measure => exact hmm2
            case rel => exact ⟨t + 1, by go_num, htn, rfl, cw6_0_0, cw6_0_1, cw6_1_0, cw6_1_1, Gr.trans gr gw6⟩
          · obtain rfl : n = t := by omega
            have tj : decide ((n : Int) < (n : Int)) = false := decide_eq_false (by omega)
            have tj2 : decide (n < n) = false := decide_eq_false (by omega)
            clear hgk
            go_wp2_with fail
            go_roundg (ka - (i + 1))
            case measure => exact hmm
            case rel => exact ⟨i + 1, by go_num, hik, rfl, gr⟩
      · obtain rfl : ka = i := by omega
        have ti : decide ((ka : Int) < (ka : Int)) = false := decide_eq_false (by omega)
        have ti2 : decide (ka < ka) = false := decide_eq_false (by omega)
        clear hgk
        go_wp2_with fail
        clear ti ti2
        go_loopg [10] ka (fun gk z wr => ∃ i : Nat, z = .int .i64 i ∧ i ≤ ka ∧ gk = ka - i ∧ Gr w4 wr)
        case atStart => exact ⟨0, rfl, Nat.zero_le _, rfl, gr⟩
        case round =>
          clear gr
          obtain ⟨i, rfl, hi, hgk, gr⟩ := hrel
          by_cases hik : i < ka
          · have ti : decide ((i : Int) < (ka : Int)) = true := decide_eq_true (by omega)
            have ti2 : decide (i < ka) = true := decide_eq_true hik
            have ti3 : (i : Int) < (ka : Int) := by omega
            have hmm : ka - (i + 1) < gk := by omega
            have hii : (i : Int) ≤ 100 := by omega
            obtain ⟨xi, exi⟩ : ∃ x, x = fX a i := ⟨_, rfl⟩
            obtain ⟨yi, eyi⟩ : ∃ x, x = fY a i := ⟨_, rfl⟩
            have HXI := Lib.hid (And.intro exi eyi)
            have HAI := Lib.hid (HA.out i hik)
            rw [← exi, ← eyi] at HAI
            clear hgk exi eyi
            go_wp2_with fail
            go_loopg [11, 12] n (fun gk z u wr => ∃ (t : Nat) (m : Bool), u = .int .i64 t ∧ z = .bool m ∧ t ≤ n ∧ gk = n - t ∧ (m = true ∨ ∀ s, s < t → ¬ (X s = xi ∧ Y s = yi)) ∧ Gr w4 wr)
            case atStart => exact ⟨0, false, rfl, rfl, Nat.zero_le _, rfl, .inr (fun s hs => absurd hs (Nat.not_lt_zero _)), gr⟩
            case round =>
              clear gr
              obtain ⟨t, m, rfl, rfl, ht, hgk, hm, gr⟩ := hrel
              have HMM := Lib.hid hm
              clear hm
              by_cases htn : t < n
              · have tj : decide ((t : Int) < (n : Int)) = true := decide_eq_true (by omega)
                have tj2 : decide (t < n) = true := decide_eq_true htn
                have tj3 : (t : Int) < (n : Int) := by omega
                have hmm2 : n - (t + 1) < gk := by omega
                have htt : (t : Int) ≤ 100 := by omega
                obtain ⟨x0, x1⟩ := HX4.out t htn
                obtain ⟨y0, y1⟩ := HAI.out
                have s0 := cell_gr gr x0
                have s1 := cell_gr gr x1
                have s2 := cell_gr gr y0
                have s3 := cell_gr gr y1
                have zB := World.block_lt_of_cell? _ _ s0
                have zG := World.block_lt_of_cell? _ _ s2
                have HTN := Lib.hid (lsP_in (X := X) (Y := Y) htn)
                obtain ⟨r, er⟩ : ∃ r, r = decide (X t = xi ∧ Y t = yi) := ⟨_, rfl⟩
                have EP := eqPt_r (ax := X t) (ay := Y t) (bx := xi) (by' := yi) (r := r) (by rw [er, decide_eq_true_eq])
                have HER := Lib.hid er
                obtain ⟨xt, ext⟩ : ∃ x, x = X t := ⟨_, rfl⟩
                obtain ⟨yt, eyt⟩ : ∃ x, x = Y t := ⟨_, rfl⟩
                rw [← ext] at s0 EP
                rw [← eyt] at s1 EP
                clear x0 x1 y0 y1 hgk er ext eyt
                cases m
                · 
                  go_wp2_with fail
                  refine wp_region_spread (by kernel_rfl) (by kernel_rfl) ?_
                  try simp only [List.append]
                  repeat (first | go_big_quiet_skip | (go_big_quiet_want; go_big_quiet_op; (first | go_big_quiet_on | (apply Exists.intro; refine ⟨fun _ => ?_, ?_⟩; (· fail); go_big_quiet_on))))
                  refine wpQuiet_nil ?_
                  intro w5 hhw5
                  have hw5 := Hd.gr_of_spread hhw5
                  have gw5 : Gr wr w5 := Gr.trans (by go_grown) hw5
                  clear hw5 hhw5
                  have gr5 := Gr.trans gr gw5
                  have s5 := cell_gr gw5 s0
                  have s6 := cell_gr gw5 s1
                  have s7 := cell_gr gw5 s2
                  have s8 := cell_gr gw5 s3
                  have zB5 := World.block_lt_of_cell? _ _ s5
                  have zG5 := World.block_lt_of_cell? _ _ s7
                  clear s0 s1 s2 s3 zB zG EP gr gw5
                  go_wp2_with fail
                  refine wp_region_spread (by kernel_rfl) (by kernel_rfl) ?_
                  try simp only [List.append]
                  repeat (first | go_big_quiet_skip | (go_big_quiet_want; go_big_quiet_op; (first | go_big_quiet_on | (apply Exists.intro; refine ⟨fun _ => ?_, ?_⟩; (· fail); go_big_quiet_on))))
                  refine wpQuiet_nil ?_
                  intro w6 hhw6
                  have hw6 := Hd.gr_of_spread hhw6
                  have gw6 : Gr w5 w6 := Gr.trans (by go_grown) hw6
                  clear hw6 hhw6
                  go_wp2_with fail
                  go_roundg (n - (t + 1))
                  case measure => exact hmm2
                  case rel =>
                    refine ⟨t + 1, r, by go_num, rfl, htn, rfl, ?_, Gr.trans gr5 gw6⟩
                    cases r
                    · right
                      intro s hs
                      by_cases c : s = t
                      · subst c; exact of_decide_eq_false HER.out.symm
                      · exact (HMM.out.resolve_left (by simp)) s (by omega)
                    · left; rfl
                · 
                  go_wp2_with fail
                  refine wp_region_spread (by kernel_rfl) (by kernel_rfl) ?_
                  try simp only [List.append]
                  repeat (first | go_big_quiet_skip | (go_big_quiet_want; go_big_quiet_op; (first | go_big_quiet_on | (apply Exists.intro; refine ⟨fun _ => ?_, ?_⟩; (· fail); go_big_quiet_on))))
                  refine wpQuiet_nil ?_
                  intro w5 hhw5
                  have hw5 := Hd.gr_of_spread hhw5
                  have gw5 : Gr wr w5 := Gr.trans (by go_grown) hw5
                  clear hw5 hhw5
                  have gr5 := Gr.trans gr gw5
                  have s5 := cell_gr gw5 s0
                  have s6 := cell_gr gw5 s1
                  have s7 := cell_gr gw5 s2
                  have s8 := cell_gr gw5 s3
                  have zB5 := World.block_lt_of_cell? _ _ s5
                  have zG5 := World.block_lt_of_cell? _ _ s7
                  clear s0 s1 s2 s3 zB zG EP gr gw5
                  go_wp2_with fail
                  refine wp_region_spread (by kernel_rfl) (by kernel_rfl) ?_
                  try simp only [List.append]
                  repeat (first | go_big_quiet_skip | (go_big_quiet_want; go_big_quiet_op; (first | go_big_quiet_on | (apply Exists.intro; refine ⟨fun _ => ?_, ?_⟩; (· fail); go_big_quiet_on))))
                  refine wpQuiet_nil ?_
                  intro w6 hhw6
                  have hw6 := Hd.gr_of_spread hhw6
                  have gw6 : Gr w5 w6 := Gr.trans (by go_grown) hw6
                  clear hw6 hhw6
                  go_wp2_with fail
                  go_roundg (n - (t + 1))
                  case measure => exact hmm2
                  case rel => exact ⟨t + 1, true, by go_num, rfl, htn, rfl, .inl rfl, Gr.trans gr5 gw6⟩
              · obtain rfl : n = t := by omega
                have tj : decide ((n : Int) < (n : Int)) = false := decide_eq_false (by omega)
                have tj2 : decide (n < n) = false := decide_eq_false (by omega)
                have hmt : m = true := by
                  rcases HMM.out with h | h
                  · exact h
                  · obtain ⟨s, hs, e⟩ := lsP_mem.1 (HOKA.out.mem i hik)
                    exact absurd ⟨by rw [HXI.out.1]; exact (congrArg Prod.fst e).symm, by rw [HXI.out.2]; exact (congrArg Prod.snd e).symm⟩ (h s hs)
                subst hmt
                clear hgk
                go_wp2_with fail
                clear tj tj2
                go_loopg [13] i (fun gk z wr => ∃ t : Nat, z = .int .i64 t ∧ t ≤ i ∧ gk = i - t ∧ Gr w4 wr)
                case atStart => exact ⟨0, rfl, Nat.zero_le _, rfl, gr⟩
                case round =>
                  clear gr
                  obtain ⟨t, rfl, ht, hgk, gr⟩ := hrel
                  by_cases hti : t < i
                  · have tj : decide ((t : Int) < (i : Int)) = true := decide_eq_true (by omega)
                    have tj2 : decide (t < i) = true := decide_eq_true hti
                    have tj3 : (t : Int) < (ka : Int) := by omega
                    have hmm2 : i - (t + 1) < gk := by omega
                    have htt : (t : Int) ≤ 100 := by omega
                    obtain ⟨x0, x1⟩ := HA.out t (by omega)
                    obtain ⟨y0, y1⟩ := HAI.out
                    have s0 := cell_gr gr x0
                    have s1 := cell_gr gr x1
                    have s2 := cell_gr gr y0
                    have s3 := cell_gr gr y1
                    have zG := World.block_lt_of_cell? _ _ s2
                    have EP := eqPt_r (ax := fX a t) (ay := fY a t) (bx := xi) (by' := yi) (r := false) ⟨fun h => Bool.noConfusion h, fun h => by
                      have := HOKA.out.inj t i (by omega) hik (by rw [HXI.out.1, HXI.out.2] at h; exact Prod.ext h.1 h.2)
                      omega⟩
                    generalize fX a t = xt at s0 EP
                    generalize fY a t = yt at s1 EP
                    clear x0 x1 y0 y1 hgk
                    go_wp2_with fail
                    refine wp_region_spread (by kernel_rfl) (by kernel_rfl) ?_
                    try simp only [List.append]
                    repeat (first | go_big_quiet_skip | (go_big_quiet_want; go_big_quiet_op; (first | go_big_quiet_on | (apply Exists.intro; refine ⟨fun _ => ?_, ?_⟩; (· fail); go_big_quiet_on))))
                    refine wpQuiet_nil ?_
                    intro w7 hhw7
                    have hw7 := Hd.gr_of_spread hhw7
                    have gw7 : Gr wr w7 := Gr.trans (by go_grown) hw7
                    clear hw7 hhw7
                    go_wp2_with fail
                    go_roundg (i - (t + 1))
                    case measure => exact hmm2
                    case rel => exact ⟨t + 1, by go_num, hti, rfl, Gr.trans gr gw7⟩
                  · obtain rfl : i = t := by omega
                    have tj : decide ((i : Int) < (i : Int)) = false := decide_eq_false (by omega)
                    have tj2 : decide (i < i) = false := decide_eq_false (by omega)
                    clear hgk
                    go_wp2_with fail
                    go_roundg (ka - (i + 1))
                    case measure => exact hmm
                    case rel => exact ⟨i + 1, by go_num, hik, rfl, gr⟩
          · obtain rfl : ka = i := by omega
            have ti : decide ((ka : Int) < (ka : Int)) = false := decide_eq_false (by omega)
            have ti2 : decide (ka < ka) = false := decide_eq_false (by omega)
            clear hgk
            have HHB := Lib.hid (hull_yes wr (pts_gr PA.out gr) HM2.out)
            go_wp2_with fail
            go_at_call 9
            (with_reducible refine HHB.out.mono ?_)
            rintro e w8 ⟨gb, cb, kb, b, rfl, ob, hokb, g8⟩
            have gr8 : Gr w4 w8 := Gr.trans gr g8
            have PB := Lib.hid (pts_len (ownP_blk ob).2.2.1 (ownP_pts ob))
            have hs := HSELF.out.uniq hokb
            have CP := fun w (g : Gr w8 w) => h_rPoints true w (pts_gr PB.out g) (pts_gr PA.out (Gr.trans gr8 g)) (by omega) ⟨fun _ => ⟨hs.1.symm, fun q hq => ⟨(congrArg Prod.fst (hs.2 q (by omega))).symm, (congrArg Prod.snd (hs.2 q (by omega))).symm⟩⟩, fun _ => rfl⟩
            have HCP := Lib.hid CP
            have HGR := Lib.hid gr8
            clear CP hs hokb ob HHB g8
            go_wp2_with fail
            go_at_call 12
            (with_reducible refine (HCP.out _ (Below.refl _ _)).mono ?_)
            rintro e w9 ⟨rfl, g9⟩
            have c4 := Nat.lt_or_ge 64 ka
            rcases c4 with c4 | c4
            · have u1 : decide ((64 : Int) < (ka : Int)) = true := decide_eq_true (by omega)
              have u2 : decide (64 < ka) = true := decide_eq_true c4
              go_wp2_with fail
              go_at_call 8
              (with_reducible refine (HAW.out _ (Gr.trans HGW.out (Gr.trans HGR.out g9))).mono ?_)
              rintro e w15 ⟨rfl, g15⟩
              go_wp2_with fail
              go_ret
              exact ⟨rfl, Gr.trans (Gr.trans HGW.out (Gr.trans HGR.out g9)) g15⟩
            · have u1 : decide ((64 : Int) < (ka : Int)) = false := decide_eq_false (by omega)
              have u2 : decide (64 < ka) = false := decide_eq_false (by omega)
              have HCV := Lib.hid (c_convexH w9 (pts_gr PA.out (Gr.trans HGR.out g9)) HOKA.out (by omega) (by omega) HNC.out)
              go_wp2_with fail
              go_at_call 13
              (with_reducible refine HCV.out.mono ?_)
              rintro e w10 ⟨rfl, g10⟩
              go_wp2_with fail
              go_at_call 8
              (with_reducible refine (HAW.out _ (Gr.trans HGW.out (Gr.trans HGR.out (Gr.trans g9 g10)))).mono ?_)
              rintro e w15 ⟨rfl, g15⟩
              go_wp2_with fail
              go_ret
              exact ⟨rfl, Gr.trans (Gr.trans HGW.out (Gr.trans HGR.out (Gr.trans g9 g10))) g15⟩
end Go.Proofs.YtogflfepkddbhaaDoor
