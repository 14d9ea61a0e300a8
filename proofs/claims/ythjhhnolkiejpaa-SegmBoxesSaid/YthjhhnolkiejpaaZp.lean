/- MeetsBox of any segment and box; the document's -/
import Derived.Test.YthjhhnolkiejpaaZo
import Derived.Test.YthjhhnolkiejpaaZb
namespace Go.Proofs.Ythjhhnolkiejpaa
set_option linter.unusedVariables false
open Go.ChangeShapes Go.WideShapes Go.ChangeAt Go.RowKit

/-- The box of a b and another one have something in common. -/
def ovB (lx ly hx hy ax ay bx by' : Int) : Bool := decide (minZ ax bx ≤ hx) && decide (lx ≤ maxZ ax bx) && decide (minZ ay by' ≤ hy) && decide (ly ≤ maxZ ay by')
theorem ovB_iff {lx ly hx hy ax ay bx by' : Int} : ovB lx ly hx hy ax ay bx by' = true ↔ ovP lx ly hx hy ax ay bx by' := by
  unfold ovB ovP
  simp only [Bool.and_eq_true, decide_eq_true_eq, min_le', le_max, and_assoc]
theorem inB_P {lx ly hx hy px py : Int} : inB lx ly hx hy px py = true ↔ inP lx ly hx hy px py := by
  rw [inB_iff]; rfl
/-- MeetsBox's answer, of what may be. -/
def mbF (ax ay bx by' lx ly hx hy : Int) : Bool := ovB lx ly hx hy ax ay bx by' && (inB lx ly hx hy ax ay || inB lx ly hx hy bx by' || diF lx ly hx hy ax ay bx by')
/-- MeetsBox's answer. -/
def mbG (ax ay bx by' lx ly hx hy : Int) : Bool := nearB ax ay && nearB bx by' && boxB lx ly hx hy && mbF ax ay bx by' lx ly hx hy
set_option maxHeartbeats 4000000 in
set_option maxRecDepth 100000 in
theorem gmb_no (ax ay bx by' lx ly hx hy k : Int) (q : Bool) (ev : Value) (W : World) (hc : q = false ∨ (q = true ∧ ev = .iface 56 (.int .i64 k)))
    (A1 : ∀ b w, b < w.heap.size → w.cell? ⟨b, 0, none⟩ = some (.int .i64 ax) → w.cell? ⟨b, 1, none⟩ = some (.int .i64 ay) → w.cell? ⟨b, 2, none⟩ = some (.int .i64 bx) → w.cell? ⟨b, 3, none⟩ = some (.int .i64 by') →
      Calls Try.prog 65 #[.slice (some ⟨b, 0, none⟩) 2 2] w fun e w' => e = .returned (.bool q) ∧ Gr w w')
    (A2 : ∀ w, Calls Try.prog 56 #[.agg #[.int .i64 lx, .int .i64 ly, .int .i64 hx, .int .i64 hy]] w fun e w' => e = .returned (ev) ∧ Gr w w') :
    Calls Try.prog 28 #[.agg #[.int .i64 ax, .int .i64 ay], .agg #[.int .i64 bx, .int .i64 by'], .agg #[.int .i64 lx, .int .i64 ly, .int .i64 hx, .int .i64 hy]] W fun e w' => e = .returned (.bool false) ∧ Gr W w' := by
  have H1 := Lib.hid A1
  have H2 := Lib.hid A2
  clear A1 A2
  rcases hc with rfl | ⟨rfl, rfl⟩
  · go_enter Try.func28, Try.ntmps28
    go_wp2_with fail
    go_at_call 65
    refine ((H1.out _ _ (by go_simp) (by go_simp) (by go_simp) (by go_simp) (by go_simp))).mono ?_
    rintro e w1 ⟨rfl, hw1⟩
    have cw1_0_0 : w1.cell? ⟨W.heap.size, 0, none⟩ = some (.int .i64 ax) := cell_gr hw1 (by go_simp)
    have cw1_0_1 : w1.cell? ⟨W.heap.size, 1, none⟩ = some (.int .i64 ay) := cell_gr hw1 (by go_simp)
    have zw1_0 : W.heap.size < w1.heap.size := World.block_lt_of_cell? _ _ cw1_0_0
    have cw1_1_0 : w1.cell? ⟨W.heap.size + 1, 0, none⟩ = some (.int .i64 bx) := cell_gr hw1 (by go_simp)
    have cw1_1_1 : w1.cell? ⟨W.heap.size + 1, 1, none⟩ = some (.int .i64 by') := cell_gr hw1 (by go_simp)
    have zw1_1 : W.heap.size + 1 < w1.heap.size := World.block_lt_of_cell? _ _ cw1_1_0
    have cw1_2_0 : w1.cell? ⟨W.heap.size + 1 + 1, 0, none⟩ = some (.int .i64 lx) := cell_gr hw1 (by go_simp)
    have cw1_2_1 : w1.cell? ⟨W.heap.size + 1 + 1, 1, none⟩ = some (.int .i64 ly) := cell_gr hw1 (by go_simp)
    have cw1_2_2 : w1.cell? ⟨W.heap.size + 1 + 1, 2, none⟩ = some (.int .i64 hx) := cell_gr hw1 (by go_simp)
    have cw1_2_3 : w1.cell? ⟨W.heap.size + 1 + 1, 3, none⟩ = some (.int .i64 hy) := cell_gr hw1 (by go_simp)
    have zw1_2 : W.heap.size + 1 + 1 < w1.heap.size := World.block_lt_of_cell? _ _ cw1_2_0
    have gw1 : Gr W w1 := Gr.trans (by go_grown) hw1
    clear hw1
    go_wp2_with fail
    go_ret
    exact ⟨rfl, by go_grown⟩
  · go_enter Try.func28, Try.ntmps28
    go_wp2_with fail
    go_at_call 65
    refine ((H1.out _ _ (by go_simp) (by go_simp) (by go_simp) (by go_simp) (by go_simp))).mono ?_
    rintro e w1 ⟨rfl, hw1⟩
    have cw1_0_0 : w1.cell? ⟨W.heap.size, 0, none⟩ = some (.int .i64 ax) := cell_gr hw1 (by go_simp)
    have cw1_0_1 : w1.cell? ⟨W.heap.size, 1, none⟩ = some (.int .i64 ay) := cell_gr hw1 (by go_simp)
    have zw1_0 : W.heap.size < w1.heap.size := World.block_lt_of_cell? _ _ cw1_0_0
    have cw1_1_0 : w1.cell? ⟨W.heap.size + 1, 0, none⟩ = some (.int .i64 bx) := cell_gr hw1 (by go_simp)
    have cw1_1_1 : w1.cell? ⟨W.heap.size + 1, 1, none⟩ = some (.int .i64 by') := cell_gr hw1 (by go_simp)
    have zw1_1 : W.heap.size + 1 < w1.heap.size := World.block_lt_of_cell? _ _ cw1_1_0
    have cw1_2_0 : w1.cell? ⟨W.heap.size + 1 + 1, 0, none⟩ = some (.int .i64 lx) := cell_gr hw1 (by go_simp)
    have cw1_2_1 : w1.cell? ⟨W.heap.size + 1 + 1, 1, none⟩ = some (.int .i64 ly) := cell_gr hw1 (by go_simp)
    have cw1_2_2 : w1.cell? ⟨W.heap.size + 1 + 1, 2, none⟩ = some (.int .i64 hx) := cell_gr hw1 (by go_simp)
    have cw1_2_3 : w1.cell? ⟨W.heap.size + 1 + 1, 3, none⟩ = some (.int .i64 hy) := cell_gr hw1 (by go_simp)
    have zw1_2 : W.heap.size + 1 + 1 < w1.heap.size := World.block_lt_of_cell? _ _ cw1_2_0
    have gw1 : Gr W w1 := Gr.trans (by go_grown) hw1
    clear hw1
    go_wp2_with fail
    go_at_call 56
    refine ((H2.out _)).mono ?_
    rintro e w2 ⟨rfl, hw2⟩
    have cw2_0_0 : w2.cell? ⟨W.heap.size, 0, none⟩ = some (.int .i64 ax) := cell_gr hw2 (by go_simp)
    have cw2_0_1 : w2.cell? ⟨W.heap.size, 1, none⟩ = some (.int .i64 ay) := cell_gr hw2 (by go_simp)
    have zw2_0 : W.heap.size < w2.heap.size := World.block_lt_of_cell? _ _ cw2_0_0
    have cw2_1_0 : w2.cell? ⟨W.heap.size + 1, 0, none⟩ = some (.int .i64 bx) := cell_gr hw2 (by go_simp)
    have cw2_1_1 : w2.cell? ⟨W.heap.size + 1, 1, none⟩ = some (.int .i64 by') := cell_gr hw2 (by go_simp)
    have zw2_1 : W.heap.size + 1 < w2.heap.size := World.block_lt_of_cell? _ _ cw2_1_0
    have cw2_2_0 : w2.cell? ⟨W.heap.size + 1 + 1, 0, none⟩ = some (.int .i64 lx) := cell_gr hw2 (by go_simp)
    have cw2_2_1 : w2.cell? ⟨W.heap.size + 1 + 1, 1, none⟩ = some (.int .i64 ly) := cell_gr hw2 (by go_simp)
    have cw2_2_2 : w2.cell? ⟨W.heap.size + 1 + 1, 2, none⟩ = some (.int .i64 hx) := cell_gr hw2 (by go_simp)
    have cw2_2_3 : w2.cell? ⟨W.heap.size + 1 + 1, 3, none⟩ = some (.int .i64 hy) := cell_gr hw2 (by go_simp)
    have zw2_2 : W.heap.size + 1 + 1 < w2.heap.size := World.block_lt_of_cell? _ _ cw2_2_0
    have gw2 : Gr W w2 := Gr.trans (by have gg := gw1; have gs := gg.size; go_grown) hw2
    clear hw2 gw1 zw1_0 cw1_0_0 cw1_0_1 zw1_1 cw1_1_0 cw1_1_1 zw1_2 cw1_2_0 cw1_2_1 cw1_2_2 cw1_2_3
    go_wp2_with fail
    go_ret
    exact ⟨rfl, by go_grown⟩
theorem c_gMeetsBox (ax ay bx by' lx ly hx hy : Int) (W : World) : Calls Try.prog 28 #[.agg #[.int .i64 ax, .int .i64 ay], .agg #[.int .i64 bx, .int .i64 by'], .agg #[.int .i64 lx, .int .i64 ly, .int .i64 hx, .int .i64 hy]] W fun e w' => e = .returned (.bool (mbG ax ay bx by' lx ly hx hy)) ∧ Gr W w' := by
  have A1 := fun b w => c_gMayBe2 ax ay bx by' _ rfl b w
  have A2 := c_CheckBox lx ly hx hy
  unfold mbG
  cases hq : (nearB ax ay && nearB bx by')
  · rw [hq] at A1
    rw [Bool.false_and, Bool.false_and]
    exact gmb_no ax ay bx by' lx ly hx hy 0 false _ W (Or.inl rfl) A1 A2
  · rw [hq] at A1
    cases hb : boxB lx ly hx hy
    · obtain ⟨k, hk⟩ := boxErr_false hb
      rw [Bool.and_false, Bool.false_and]
      exact gmb_no ax ay bx by' lx ly hx hy k true _ W (Or.inr ⟨rfl, hk⟩) A1 A2
    · rw [boxErr_true hb] at A2
      have hn : nearB ax ay = true ∧ nearB bx by' = true := by simpa using hq
      have ha : boxB ax ay ax ay = true := by rw [boxB_iff]; exact ⟨⟨hn.1, hn.1⟩, by omega, by omega⟩
      have hb2 : boxB bx by' bx by' = true := by rw [boxB_iff]; exact ⟨⟨hn.2, hn.2⟩, by omega, by omega⟩
      have hj := box_join ha hb2
      have hbn := (boxB_iff.1 hb).1
      have A3 := fun b w => c_Around2 ax ay bx by' b w
      have A4 := c_Meets (minZ ax bx) (minZ ay by') (maxZ ax bx) (maxZ ay by') lx ly hx hy
      rw [hj, hb] at A4
      have A5 := c_Has lx ly hx hy ax ay
      have A6 := c_Has lx ly hx hy bx by'
      rw [hb, hn.1] at A5
      rw [hb, hn.2] at A6
      simp only [Bool.true_and] at A4 A5 A6
      have A7 := c_gMeet ax ay bx by' lx ly hx hy
      have A8 := c_gMeet ax ay bx by' lx hy hx ly
      have g1 : nearB lx hy = true := by
        have n1 := nearB_iff.1 hbn.1
        have n2 := nearB_iff.1 hbn.2
        rw [nearB_iff]; omega
      have g2 : nearB hx ly = true := by
        have n1 := nearB_iff.1 hbn.1
        have n2 := nearB_iff.1 hbn.2
        rw [nearB_iff]; omega
      rw [show meG ax ay bx by' lx ly hx hy = meF ax ay bx by' lx ly hx hy by unfold meG all4; rw [hn.1, hn.2, hbn.1, hbn.2]; rfl] at A7
      rw [show meG ax ay bx by' lx hy hx ly = meF ax ay bx by' lx hy hx ly by unfold meG all4; rw [hn.1, hn.2, g1, g2]; rfl] at A8
      simp only [Bool.true_and]
      refine gmb_in ax ay bx by' lx ly hx hy _ _ _ _ _ _ _ _ _ _ _ W ?_ rfl A1 A2 A3 A4 A5 A6 A7 A8
      unfold mbF ovB diF
      generalize (decide (minZ ax bx ≤ hx) && decide (lx ≤ maxZ ax bx) && decide (minZ ay by' ≤ hy) && decide (ly ≤ maxZ ay by')) = m
      generalize inB lx ly hx hy ax ay = h1
      generalize inB lx ly hx hy bx by' = h2
      generalize meF ax ay bx by' lx ly hx hy = k1
      generalize meF ax ay bx by' lx hy hx ly = k2
      cases m <;> cases h1 <;> cases h2 <;> cases k1 <;> simp

set_option maxHeartbeats 4000000 in
set_option maxRecDepth 100000 in
theorem rmb_no (ax ay bx by' lx ly hx hy k : Int) (q1 q2 ha hb r : Bool) (W : World)
    (hc : (q1 = false ∧ r = false) ∨ (q1 = true ∧ q2 = false ∧ r = false) ∨ (q1 = true ∧ q2 = true ∧ (k != 0) = true ∧ r = false) ∨ (q1 = true ∧ q2 = true ∧ k = 0 ∧ ha = true ∧ r = true) ∨ (q1 = true ∧ q2 = true ∧ k = 0 ∧ ha = false ∧ hb = true ∧ r = true))
    (A1 : ∀ w, Calls Try.prog 14 #[.agg #[.int .i64 ax, .int .i64 ay]] w fun e w' => e = .returned (.bool q1) ∧ Gr w w')
    (A2 : ∀ w, Calls Try.prog 14 #[.agg #[.int .i64 bx, .int .i64 by']] w fun e w' => e = .returned (.bool q2) ∧ Gr w w')
    (A3 : ∀ w, Calls Try.prog 34 #[.agg #[.int .i64 lx, .int .i64 ly, .int .i64 hx, .int .i64 hy]] w fun e w' => e = .returned (.int .i64 k) ∧ Gr w w')
    (A4 : ∀ w, Calls Try.prog 35 #[.agg #[.int .i64 lx, .int .i64 ly, .int .i64 hx, .int .i64 hy], .agg #[.int .i64 ax, .int .i64 ay]] w fun e w' => e = .returned (.bool ha) ∧ Gr w w')
    (A5 : ∀ w, Calls Try.prog 35 #[.agg #[.int .i64 lx, .int .i64 ly, .int .i64 hx, .int .i64 hy], .agg #[.int .i64 bx, .int .i64 by']] w fun e w' => e = .returned (.bool hb) ∧ Gr w w') :
    Calls Try.prog 29 #[.agg #[.int .i64 ax, .int .i64 ay], .agg #[.int .i64 bx, .int .i64 by'], .agg #[.int .i64 lx, .int .i64 ly, .int .i64 hx, .int .i64 hy]] W fun e w' => e = .returned (.bool r) ∧ Gr W w' := by
  have H1 := Lib.hid A1
  have H2 := Lib.hid A2
  have H3 := Lib.hid A3
  have H4 := Lib.hid A4
  have H5 := Lib.hid A5
  clear A1 A2 A3 A4 A5
  rcases hc with ⟨rfl, rfl⟩ | ⟨rfl, rfl, rfl⟩ | ⟨rfl, rfl, hk, rfl⟩ | ⟨rfl, rfl, rfl, rfl, rfl⟩ | ⟨rfl, rfl, rfl, rfl, rfl, rfl⟩
  · go_enter Try.func29, Try.ntmps29
    go_wp2_with fail
    go_at_call 14
    refine ((H1.out _)).mono ?_
    rintro e w1 ⟨rfl, hw1⟩
    have cw1_0_0 : w1.cell? ⟨W.heap.size, 0, none⟩ = some (.int .i64 ax) := cell_gr hw1 (by go_simp)
    have cw1_0_1 : w1.cell? ⟨W.heap.size, 1, none⟩ = some (.int .i64 ay) := cell_gr hw1 (by go_simp)
    have zw1_0 : W.heap.size < w1.heap.size := World.block_lt_of_cell? _ _ cw1_0_0
    have cw1_1_0 : w1.cell? ⟨W.heap.size + 1, 0, none⟩ = some (.int .i64 bx) := cell_gr hw1 (by go_simp)
    have cw1_1_1 : w1.cell? ⟨W.heap.size + 1, 1, none⟩ = some (.int .i64 by') := cell_gr hw1 (by go_simp)
    have zw1_1 : W.heap.size + 1 < w1.heap.size := World.block_lt_of_cell? _ _ cw1_1_0
    have cw1_2_0 : w1.cell? ⟨W.heap.size + 1 + 1, 0, none⟩ = some (.int .i64 lx) := cell_gr hw1 (by go_simp)
    have cw1_2_1 : w1.cell? ⟨W.heap.size + 1 + 1, 1, none⟩ = some (.int .i64 ly) := cell_gr hw1 (by go_simp)
    have cw1_2_2 : w1.cell? ⟨W.heap.size + 1 + 1, 2, none⟩ = some (.int .i64 hx) := cell_gr hw1 (by go_simp)
    have cw1_2_3 : w1.cell? ⟨W.heap.size + 1 + 1, 3, none⟩ = some (.int .i64 hy) := cell_gr hw1 (by go_simp)
    have zw1_2 : W.heap.size + 1 + 1 < w1.heap.size := World.block_lt_of_cell? _ _ cw1_2_0
    have gw1 : Gr W w1 := Gr.trans (by go_grown) hw1
    clear hw1
    go_wp2_with fail
    go_ret
    exact ⟨rfl, by go_grown⟩
  · go_enter Try.func29, Try.ntmps29
    go_wp2_with fail
    go_at_call 14
    refine ((H1.out _)).mono ?_
    rintro e w1 ⟨rfl, hw1⟩
    have cw1_0_0 : w1.cell? ⟨W.heap.size, 0, none⟩ = some (.int .i64 ax) := cell_gr hw1 (by go_simp)
    have cw1_0_1 : w1.cell? ⟨W.heap.size, 1, none⟩ = some (.int .i64 ay) := cell_gr hw1 (by go_simp)
    have zw1_0 : W.heap.size < w1.heap.size := World.block_lt_of_cell? _ _ cw1_0_0
    have cw1_1_0 : w1.cell? ⟨W.heap.size + 1, 0, none⟩ = some (.int .i64 bx) := cell_gr hw1 (by go_simp)
    have cw1_1_1 : w1.cell? ⟨W.heap.size + 1, 1, none⟩ = some (.int .i64 by') := cell_gr hw1 (by go_simp)
    have zw1_1 : W.heap.size + 1 < w1.heap.size := World.block_lt_of_cell? _ _ cw1_1_0
    have cw1_2_0 : w1.cell? ⟨W.heap.size + 1 + 1, 0, none⟩ = some (.int .i64 lx) := cell_gr hw1 (by go_simp)
    have cw1_2_1 : w1.cell? ⟨W.heap.size + 1 + 1, 1, none⟩ = some (.int .i64 ly) := cell_gr hw1 (by go_simp)
    have cw1_2_2 : w1.cell? ⟨W.heap.size + 1 + 1, 2, none⟩ = some (.int .i64 hx) := cell_gr hw1 (by go_simp)
    have cw1_2_3 : w1.cell? ⟨W.heap.size + 1 + 1, 3, none⟩ = some (.int .i64 hy) := cell_gr hw1 (by go_simp)
    have zw1_2 : W.heap.size + 1 + 1 < w1.heap.size := World.block_lt_of_cell? _ _ cw1_2_0
    have gw1 : Gr W w1 := Gr.trans (by go_grown) hw1
    clear hw1
    go_wp2_with fail
    go_at_call 14
    refine ((H2.out _)).mono ?_
    rintro e w2 ⟨rfl, hw2⟩
    have cw2_0_0 : w2.cell? ⟨W.heap.size, 0, none⟩ = some (.int .i64 ax) := cell_gr hw2 (by go_simp)
    have cw2_0_1 : w2.cell? ⟨W.heap.size, 1, none⟩ = some (.int .i64 ay) := cell_gr hw2 (by go_simp)
    have zw2_0 : W.heap.size < w2.heap.size := World.block_lt_of_cell? _ _ cw2_0_0
    have cw2_1_0 : w2.cell? ⟨W.heap.size + 1, 0, none⟩ = some (.int .i64 bx) := cell_gr hw2 (by go_simp)
    have cw2_1_1 : w2.cell? ⟨W.heap.size + 1, 1, none⟩ = some (.int .i64 by') := cell_gr hw2 (by go_simp)
    have zw2_1 : W.heap.size + 1 < w2.heap.size := World.block_lt_of_cell? _ _ cw2_1_0
    have cw2_2_0 : w2.cell? ⟨W.heap.size + 1 + 1, 0, none⟩ = some (.int .i64 lx) := cell_gr hw2 (by go_simp)
    have cw2_2_1 : w2.cell? ⟨W.heap.size + 1 + 1, 1, none⟩ = some (.int .i64 ly) := cell_gr hw2 (by go_simp)
    have cw2_2_2 : w2.cell? ⟨W.heap.size + 1 + 1, 2, none⟩ = some (.int .i64 hx) := cell_gr hw2 (by go_simp)
    have cw2_2_3 : w2.cell? ⟨W.heap.size + 1 + 1, 3, none⟩ = some (.int .i64 hy) := cell_gr hw2 (by go_simp)
    have zw2_2 : W.heap.size + 1 + 1 < w2.heap.size := World.block_lt_of_cell? _ _ cw2_2_0
    have gw2 : Gr W w2 := Gr.trans (by have gg := gw1; have gs := gg.size; go_grown) hw2
    clear hw2 gw1 zw1_0 cw1_0_0 cw1_0_1 zw1_1 cw1_1_0 cw1_1_1 zw1_2 cw1_2_0 cw1_2_1 cw1_2_2 cw1_2_3
    go_wp2_with fail
    go_ret
    exact ⟨rfl, by go_grown⟩
  · go_enter Try.func29, Try.ntmps29
    go_wp2_with fail
    go_at_call 14
    refine ((H1.out _)).mono ?_
    rintro e w1 ⟨rfl, hw1⟩
    have cw1_0_0 : w1.cell? ⟨W.heap.size, 0, none⟩ = some (.int .i64 ax) := cell_gr hw1 (by go_simp)
    have cw1_0_1 : w1.cell? ⟨W.heap.size, 1, none⟩ = some (.int .i64 ay) := cell_gr hw1 (by go_simp)
    have zw1_0 : W.heap.size < w1.heap.size := World.block_lt_of_cell? _ _ cw1_0_0
    have cw1_1_0 : w1.cell? ⟨W.heap.size + 1, 0, none⟩ = some (.int .i64 bx) := cell_gr hw1 (by go_simp)
    have cw1_1_1 : w1.cell? ⟨W.heap.size + 1, 1, none⟩ = some (.int .i64 by') := cell_gr hw1 (by go_simp)
    have zw1_1 : W.heap.size + 1 < w1.heap.size := World.block_lt_of_cell? _ _ cw1_1_0
    have cw1_2_0 : w1.cell? ⟨W.heap.size + 1 + 1, 0, none⟩ = some (.int .i64 lx) := cell_gr hw1 (by go_simp)
    have cw1_2_1 : w1.cell? ⟨W.heap.size + 1 + 1, 1, none⟩ = some (.int .i64 ly) := cell_gr hw1 (by go_simp)
    have cw1_2_2 : w1.cell? ⟨W.heap.size + 1 + 1, 2, none⟩ = some (.int .i64 hx) := cell_gr hw1 (by go_simp)
    have cw1_2_3 : w1.cell? ⟨W.heap.size + 1 + 1, 3, none⟩ = some (.int .i64 hy) := cell_gr hw1 (by go_simp)
    have zw1_2 : W.heap.size + 1 + 1 < w1.heap.size := World.block_lt_of_cell? _ _ cw1_2_0
    have gw1 : Gr W w1 := Gr.trans (by go_grown) hw1
    clear hw1
    go_wp2_with fail
    go_at_call 14
    refine ((H2.out _)).mono ?_
    rintro e w2 ⟨rfl, hw2⟩
    have cw2_0_0 : w2.cell? ⟨W.heap.size, 0, none⟩ = some (.int .i64 ax) := cell_gr hw2 (by go_simp)
    have cw2_0_1 : w2.cell? ⟨W.heap.size, 1, none⟩ = some (.int .i64 ay) := cell_gr hw2 (by go_simp)
    have zw2_0 : W.heap.size < w2.heap.size := World.block_lt_of_cell? _ _ cw2_0_0
    have cw2_1_0 : w2.cell? ⟨W.heap.size + 1, 0, none⟩ = some (.int .i64 bx) := cell_gr hw2 (by go_simp)
    have cw2_1_1 : w2.cell? ⟨W.heap.size + 1, 1, none⟩ = some (.int .i64 by') := cell_gr hw2 (by go_simp)
    have zw2_1 : W.heap.size + 1 < w2.heap.size := World.block_lt_of_cell? _ _ cw2_1_0
    have cw2_2_0 : w2.cell? ⟨W.heap.size + 1 + 1, 0, none⟩ = some (.int .i64 lx) := cell_gr hw2 (by go_simp)
    have cw2_2_1 : w2.cell? ⟨W.heap.size + 1 + 1, 1, none⟩ = some (.int .i64 ly) := cell_gr hw2 (by go_simp)
    have cw2_2_2 : w2.cell? ⟨W.heap.size + 1 + 1, 2, none⟩ = some (.int .i64 hx) := cell_gr hw2 (by go_simp)
    have cw2_2_3 : w2.cell? ⟨W.heap.size + 1 + 1, 3, none⟩ = some (.int .i64 hy) := cell_gr hw2 (by go_simp)
    have zw2_2 : W.heap.size + 1 + 1 < w2.heap.size := World.block_lt_of_cell? _ _ cw2_2_0
    have gw2 : Gr W w2 := Gr.trans (by have gg := gw1; have gs := gg.size; go_grown) hw2
    clear hw2 gw1 zw1_0 cw1_0_0 cw1_0_1 zw1_1 cw1_1_0 cw1_1_1 zw1_2 cw1_2_0 cw1_2_1 cw1_2_2 cw1_2_3
    go_wp2_with fail
    go_at_call 34
    refine ((H3.out _)).mono ?_
    rintro e w3 ⟨rfl, hw3⟩
    have cw3_0_0 : w3.cell? ⟨W.heap.size, 0, none⟩ = some (.int .i64 ax) := cell_gr hw3 (by go_simp)
    have cw3_0_1 : w3.cell? ⟨W.heap.size, 1, none⟩ = some (.int .i64 ay) := cell_gr hw3 (by go_simp)
    have zw3_0 : W.heap.size < w3.heap.size := World.block_lt_of_cell? _ _ cw3_0_0
    have cw3_1_0 : w3.cell? ⟨W.heap.size + 1, 0, none⟩ = some (.int .i64 bx) := cell_gr hw3 (by go_simp)
    have cw3_1_1 : w3.cell? ⟨W.heap.size + 1, 1, none⟩ = some (.int .i64 by') := cell_gr hw3 (by go_simp)
    have zw3_1 : W.heap.size + 1 < w3.heap.size := World.block_lt_of_cell? _ _ cw3_1_0
    have cw3_2_0 : w3.cell? ⟨W.heap.size + 1 + 1, 0, none⟩ = some (.int .i64 lx) := cell_gr hw3 (by go_simp)
    have cw3_2_1 : w3.cell? ⟨W.heap.size + 1 + 1, 1, none⟩ = some (.int .i64 ly) := cell_gr hw3 (by go_simp)
    have cw3_2_2 : w3.cell? ⟨W.heap.size + 1 + 1, 2, none⟩ = some (.int .i64 hx) := cell_gr hw3 (by go_simp)
    have cw3_2_3 : w3.cell? ⟨W.heap.size + 1 + 1, 3, none⟩ = some (.int .i64 hy) := cell_gr hw3 (by go_simp)
    have zw3_2 : W.heap.size + 1 + 1 < w3.heap.size := World.block_lt_of_cell? _ _ cw3_2_0
    have gw3 : Gr W w3 := Gr.trans (by have gg := gw2; have gs := gg.size; go_grown) hw3
    clear hw3 gw2 zw2_0 cw2_0_0 cw2_0_1 zw2_1 cw2_1_0 cw2_1_1 zw2_2 cw2_2_0 cw2_2_1 cw2_2_2 cw2_2_3
    go_wp2_with fail
    go_ret
    exact ⟨rfl, by go_grown⟩
  · go_enter Try.func29, Try.ntmps29
    go_wp2_with fail
    go_at_call 14
    refine ((H1.out _)).mono ?_
    rintro e w1 ⟨rfl, hw1⟩
    have cw1_0_0 : w1.cell? ⟨W.heap.size, 0, none⟩ = some (.int .i64 ax) := cell_gr hw1 (by go_simp)
    have cw1_0_1 : w1.cell? ⟨W.heap.size, 1, none⟩ = some (.int .i64 ay) := cell_gr hw1 (by go_simp)
    have zw1_0 : W.heap.size < w1.heap.size := World.block_lt_of_cell? _ _ cw1_0_0
    have cw1_1_0 : w1.cell? ⟨W.heap.size + 1, 0, none⟩ = some (.int .i64 bx) := cell_gr hw1 (by go_simp)
    have cw1_1_1 : w1.cell? ⟨W.heap.size + 1, 1, none⟩ = some (.int .i64 by') := cell_gr hw1 (by go_simp)
    have zw1_1 : W.heap.size + 1 < w1.heap.size := World.block_lt_of_cell? _ _ cw1_1_0
    have cw1_2_0 : w1.cell? ⟨W.heap.size + 1 + 1, 0, none⟩ = some (.int .i64 lx) := cell_gr hw1 (by go_simp)
    have cw1_2_1 : w1.cell? ⟨W.heap.size + 1 + 1, 1, none⟩ = some (.int .i64 ly) := cell_gr hw1 (by go_simp)
    have cw1_2_2 : w1.cell? ⟨W.heap.size + 1 + 1, 2, none⟩ = some (.int .i64 hx) := cell_gr hw1 (by go_simp)
    have cw1_2_3 : w1.cell? ⟨W.heap.size + 1 + 1, 3, none⟩ = some (.int .i64 hy) := cell_gr hw1 (by go_simp)
    have zw1_2 : W.heap.size + 1 + 1 < w1.heap.size := World.block_lt_of_cell? _ _ cw1_2_0
    have gw1 : Gr W w1 := Gr.trans (by go_grown) hw1
    clear hw1
    go_wp2_with fail
    go_at_call 14
    refine ((H2.out _)).mono ?_
    rintro e w2 ⟨rfl, hw2⟩
    have cw2_0_0 : w2.cell? ⟨W.heap.size, 0, none⟩ = some (.int .i64 ax) := cell_gr hw2 (by go_simp)
    have cw2_0_1 : w2.cell? ⟨W.heap.size, 1, none⟩ = some (.int .i64 ay) := cell_gr hw2 (by go_simp)
    have zw2_0 : W.heap.size < w2.heap.size := World.block_lt_of_cell? _ _ cw2_0_0
    have cw2_1_0 : w2.cell? ⟨W.heap.size + 1, 0, none⟩ = some (.int .i64 bx) := cell_gr hw2 (by go_simp)
    have cw2_1_1 : w2.cell? ⟨W.heap.size + 1, 1, none⟩ = some (.int .i64 by') := cell_gr hw2 (by go_simp)
    have zw2_1 : W.heap.size + 1 < w2.heap.size := World.block_lt_of_cell? _ _ cw2_1_0
    have cw2_2_0 : w2.cell? ⟨W.heap.size + 1 + 1, 0, none⟩ = some (.int .i64 lx) := cell_gr hw2 (by go_simp)
    have cw2_2_1 : w2.cell? ⟨W.heap.size + 1 + 1, 1, none⟩ = some (.int .i64 ly) := cell_gr hw2 (by go_simp)
    have cw2_2_2 : w2.cell? ⟨W.heap.size + 1 + 1, 2, none⟩ = some (.int .i64 hx) := cell_gr hw2 (by go_simp)
    have cw2_2_3 : w2.cell? ⟨W.heap.size + 1 + 1, 3, none⟩ = some (.int .i64 hy) := cell_gr hw2 (by go_simp)
    have zw2_2 : W.heap.size + 1 + 1 < w2.heap.size := World.block_lt_of_cell? _ _ cw2_2_0
    have gw2 : Gr W w2 := Gr.trans (by have gg := gw1; have gs := gg.size; go_grown) hw2
    clear hw2 gw1 zw1_0 cw1_0_0 cw1_0_1 zw1_1 cw1_1_0 cw1_1_1 zw1_2 cw1_2_0 cw1_2_1 cw1_2_2 cw1_2_3
    go_wp2_with fail
    go_at_call 34
    refine ((H3.out _)).mono ?_
    rintro e w3 ⟨rfl, hw3⟩
    have cw3_0_0 : w3.cell? ⟨W.heap.size, 0, none⟩ = some (.int .i64 ax) := cell_gr hw3 (by go_simp)
    have cw3_0_1 : w3.cell? ⟨W.heap.size, 1, none⟩ = some (.int .i64 ay) := cell_gr hw3 (by go_simp)
    have zw3_0 : W.heap.size < w3.heap.size := World.block_lt_of_cell? _ _ cw3_0_0
    have cw3_1_0 : w3.cell? ⟨W.heap.size + 1, 0, none⟩ = some (.int .i64 bx) := cell_gr hw3 (by go_simp)
    have cw3_1_1 : w3.cell? ⟨W.heap.size + 1, 1, none⟩ = some (.int .i64 by') := cell_gr hw3 (by go_simp)
    have zw3_1 : W.heap.size + 1 < w3.heap.size := World.block_lt_of_cell? _ _ cw3_1_0
    have cw3_2_0 : w3.cell? ⟨W.heap.size + 1 + 1, 0, none⟩ = some (.int .i64 lx) := cell_gr hw3 (by go_simp)
    have cw3_2_1 : w3.cell? ⟨W.heap.size + 1 + 1, 1, none⟩ = some (.int .i64 ly) := cell_gr hw3 (by go_simp)
    have cw3_2_2 : w3.cell? ⟨W.heap.size + 1 + 1, 2, none⟩ = some (.int .i64 hx) := cell_gr hw3 (by go_simp)
    have cw3_2_3 : w3.cell? ⟨W.heap.size + 1 + 1, 3, none⟩ = some (.int .i64 hy) := cell_gr hw3 (by go_simp)
    have zw3_2 : W.heap.size + 1 + 1 < w3.heap.size := World.block_lt_of_cell? _ _ cw3_2_0
    have gw3 : Gr W w3 := Gr.trans (by have gg := gw2; have gs := gg.size; go_grown) hw3
    clear hw3 gw2 zw2_0 cw2_0_0 cw2_0_1 zw2_1 cw2_1_0 cw2_1_1 zw2_2 cw2_2_0 cw2_2_1 cw2_2_2 cw2_2_3
    go_wp2_with fail
    go_at_call 35
    refine ((H4.out _)).mono ?_
    rintro e w4 ⟨rfl, hw4⟩
    have cw4_0_0 : w4.cell? ⟨W.heap.size, 0, none⟩ = some (.int .i64 ax) := cell_gr hw4 (by go_simp)
    have cw4_0_1 : w4.cell? ⟨W.heap.size, 1, none⟩ = some (.int .i64 ay) := cell_gr hw4 (by go_simp)
    have zw4_0 : W.heap.size < w4.heap.size := World.block_lt_of_cell? _ _ cw4_0_0
    have cw4_1_0 : w4.cell? ⟨W.heap.size + 1, 0, none⟩ = some (.int .i64 bx) := cell_gr hw4 (by go_simp)
    have cw4_1_1 : w4.cell? ⟨W.heap.size + 1, 1, none⟩ = some (.int .i64 by') := cell_gr hw4 (by go_simp)
    have zw4_1 : W.heap.size + 1 < w4.heap.size := World.block_lt_of_cell? _ _ cw4_1_0
    have cw4_2_0 : w4.cell? ⟨W.heap.size + 1 + 1, 0, none⟩ = some (.int .i64 lx) := cell_gr hw4 (by go_simp)
    have cw4_2_1 : w4.cell? ⟨W.heap.size + 1 + 1, 1, none⟩ = some (.int .i64 ly) := cell_gr hw4 (by go_simp)
    have cw4_2_2 : w4.cell? ⟨W.heap.size + 1 + 1, 2, none⟩ = some (.int .i64 hx) := cell_gr hw4 (by go_simp)
    have cw4_2_3 : w4.cell? ⟨W.heap.size + 1 + 1, 3, none⟩ = some (.int .i64 hy) := cell_gr hw4 (by go_simp)
    have zw4_2 : W.heap.size + 1 + 1 < w4.heap.size := World.block_lt_of_cell? _ _ cw4_2_0
    have gw4 : Gr W w4 := Gr.trans (by have gg := gw3; have gs := gg.size; go_grown) hw4
    clear hw4 gw3 zw3_0 cw3_0_0 cw3_0_1 zw3_1 cw3_1_0 cw3_1_1 zw3_2 cw3_2_0 cw3_2_1 cw3_2_2 cw3_2_3
    go_wp2_with fail
    go_ret
    exact ⟨rfl, by go_grown⟩
  · go_enter Try.func29, Try.ntmps29
    go_wp2_with fail
    go_at_call 14
    refine ((H1.out _)).mono ?_
    rintro e w1 ⟨rfl, hw1⟩
    have cw1_0_0 : w1.cell? ⟨W.heap.size, 0, none⟩ = some (.int .i64 ax) := cell_gr hw1 (by go_simp)
    have cw1_0_1 : w1.cell? ⟨W.heap.size, 1, none⟩ = some (.int .i64 ay) := cell_gr hw1 (by go_simp)
    have zw1_0 : W.heap.size < w1.heap.size := World.block_lt_of_cell? _ _ cw1_0_0
    have cw1_1_0 : w1.cell? ⟨W.heap.size + 1, 0, none⟩ = some (.int .i64 bx) := cell_gr hw1 (by go_simp)
    have cw1_1_1 : w1.cell? ⟨W.heap.size + 1, 1, none⟩ = some (.int .i64 by') := cell_gr hw1 (by go_simp)
    have zw1_1 : W.heap.size + 1 < w1.heap.size := World.block_lt_of_cell? _ _ cw1_1_0
    have cw1_2_0 : w1.cell? ⟨W.heap.size + 1 + 1, 0, none⟩ = some (.int .i64 lx) := cell_gr hw1 (by go_simp)
    have cw1_2_1 : w1.cell? ⟨W.heap.size + 1 + 1, 1, none⟩ = some (.int .i64 ly) := cell_gr hw1 (by go_simp)
    have cw1_2_2 : w1.cell? ⟨W.heap.size + 1 + 1, 2, none⟩ = some (.int .i64 hx) := cell_gr hw1 (by go_simp)
    have cw1_2_3 : w1.cell? ⟨W.heap.size + 1 + 1, 3, none⟩ = some (.int .i64 hy) := cell_gr hw1 (by go_simp)
    have zw1_2 : W.heap.size + 1 + 1 < w1.heap.size := World.block_lt_of_cell? _ _ cw1_2_0
    have gw1 : Gr W w1 := Gr.trans (by go_grown) hw1
    clear hw1
    go_wp2_with fail
    go_at_call 14
    refine ((H2.out _)).mono ?_
    rintro e w2 ⟨rfl, hw2⟩
    have cw2_0_0 : w2.cell? ⟨W.heap.size, 0, none⟩ = some (.int .i64 ax) := cell_gr hw2 (by go_simp)
    have cw2_0_1 : w2.cell? ⟨W.heap.size, 1, none⟩ = some (.int .i64 ay) := cell_gr hw2 (by go_simp)
    have zw2_0 : W.heap.size < w2.heap.size := World.block_lt_of_cell? _ _ cw2_0_0
    have cw2_1_0 : w2.cell? ⟨W.heap.size + 1, 0, none⟩ = some (.int .i64 bx) := cell_gr hw2 (by go_simp)
    have cw2_1_1 : w2.cell? ⟨W.heap.size + 1, 1, none⟩ = some (.int .i64 by') := cell_gr hw2 (by go_simp)
    have zw2_1 : W.heap.size + 1 < w2.heap.size := World.block_lt_of_cell? _ _ cw2_1_0
    have cw2_2_0 : w2.cell? ⟨W.heap.size + 1 + 1, 0, none⟩ = some (.int .i64 lx) := cell_gr hw2 (by go_simp)
    have cw2_2_1 : w2.cell? ⟨W.heap.size + 1 + 1, 1, none⟩ = some (.int .i64 ly) := cell_gr hw2 (by go_simp)
    have cw2_2_2 : w2.cell? ⟨W.heap.size + 1 + 1, 2, none⟩ = some (.int .i64 hx) := cell_gr hw2 (by go_simp)
    have cw2_2_3 : w2.cell? ⟨W.heap.size + 1 + 1, 3, none⟩ = some (.int .i64 hy) := cell_gr hw2 (by go_simp)
    have zw2_2 : W.heap.size + 1 + 1 < w2.heap.size := World.block_lt_of_cell? _ _ cw2_2_0
    have gw2 : Gr W w2 := Gr.trans (by have gg := gw1; have gs := gg.size; go_grown) hw2
    clear hw2 gw1 zw1_0 cw1_0_0 cw1_0_1 zw1_1 cw1_1_0 cw1_1_1 zw1_2 cw1_2_0 cw1_2_1 cw1_2_2 cw1_2_3
    go_wp2_with fail
    go_at_call 34
    refine ((H3.out _)).mono ?_
    rintro e w3 ⟨rfl, hw3⟩
    have cw3_0_0 : w3.cell? ⟨W.heap.size, 0, none⟩ = some (.int .i64 ax) := cell_gr hw3 (by go_simp)
    have cw3_0_1 : w3.cell? ⟨W.heap.size, 1, none⟩ = some (.int .i64 ay) := cell_gr hw3 (by go_simp)
    have zw3_0 : W.heap.size < w3.heap.size := World.block_lt_of_cell? _ _ cw3_0_0
    have cw3_1_0 : w3.cell? ⟨W.heap.size + 1, 0, none⟩ = some (.int .i64 bx) := cell_gr hw3 (by go_simp)
    have cw3_1_1 : w3.cell? ⟨W.heap.size + 1, 1, none⟩ = some (.int .i64 by') := cell_gr hw3 (by go_simp)
    have zw3_1 : W.heap.size + 1 < w3.heap.size := World.block_lt_of_cell? _ _ cw3_1_0
    have cw3_2_0 : w3.cell? ⟨W.heap.size + 1 + 1, 0, none⟩ = some (.int .i64 lx) := cell_gr hw3 (by go_simp)
    have cw3_2_1 : w3.cell? ⟨W.heap.size + 1 + 1, 1, none⟩ = some (.int .i64 ly) := cell_gr hw3 (by go_simp)
    have cw3_2_2 : w3.cell? ⟨W.heap.size + 1 + 1, 2, none⟩ = some (.int .i64 hx) := cell_gr hw3 (by go_simp)
    have cw3_2_3 : w3.cell? ⟨W.heap.size + 1 + 1, 3, none⟩ = some (.int .i64 hy) := cell_gr hw3 (by go_simp)
    have zw3_2 : W.heap.size + 1 + 1 < w3.heap.size := World.block_lt_of_cell? _ _ cw3_2_0
    have gw3 : Gr W w3 := Gr.trans (by have gg := gw2; have gs := gg.size; go_grown) hw3
    clear hw3 gw2 zw2_0 cw2_0_0 cw2_0_1 zw2_1 cw2_1_0 cw2_1_1 zw2_2 cw2_2_0 cw2_2_1 cw2_2_2 cw2_2_3
    go_wp2_with fail
    go_at_call 35
    refine ((H4.out _)).mono ?_
    rintro e w4 ⟨rfl, hw4⟩
    have cw4_0_0 : w4.cell? ⟨W.heap.size, 0, none⟩ = some (.int .i64 ax) := cell_gr hw4 (by go_simp)
    have cw4_0_1 : w4.cell? ⟨W.heap.size, 1, none⟩ = some (.int .i64 ay) := cell_gr hw4 (by go_simp)
    have zw4_0 : W.heap.size < w4.heap.size := World.block_lt_of_cell? _ _ cw4_0_0
    have cw4_1_0 : w4.cell? ⟨W.heap.size + 1, 0, none⟩ = some (.int .i64 bx) := cell_gr hw4 (by go_simp)
    have cw4_1_1 : w4.cell? ⟨W.heap.size + 1, 1, none⟩ = some (.int .i64 by') := cell_gr hw4 (by go_simp)
    have zw4_1 : W.heap.size + 1 < w4.heap.size := World.block_lt_of_cell? _ _ cw4_1_0
    have cw4_2_0 : w4.cell? ⟨W.heap.size + 1 + 1, 0, none⟩ = some (.int .i64 lx) := cell_gr hw4 (by go_simp)
    have cw4_2_1 : w4.cell? ⟨W.heap.size + 1 + 1, 1, none⟩ = some (.int .i64 ly) := cell_gr hw4 (by go_simp)
    have cw4_2_2 : w4.cell? ⟨W.heap.size + 1 + 1, 2, none⟩ = some (.int .i64 hx) := cell_gr hw4 (by go_simp)
    have cw4_2_3 : w4.cell? ⟨W.heap.size + 1 + 1, 3, none⟩ = some (.int .i64 hy) := cell_gr hw4 (by go_simp)
    have zw4_2 : W.heap.size + 1 + 1 < w4.heap.size := World.block_lt_of_cell? _ _ cw4_2_0
    have gw4 : Gr W w4 := Gr.trans (by have gg := gw3; have gs := gg.size; go_grown) hw4
    clear hw4 gw3 zw3_0 cw3_0_0 cw3_0_1 zw3_1 cw3_1_0 cw3_1_1 zw3_2 cw3_2_0 cw3_2_1 cw3_2_2 cw3_2_3
    go_wp2_with fail
    go_at_call 35
    refine ((H5.out _)).mono ?_
    rintro e w5 ⟨rfl, hw5⟩
    have cw5_0_0 : w5.cell? ⟨W.heap.size, 0, none⟩ = some (.int .i64 ax) := cell_gr hw5 (by go_simp)
    have cw5_0_1 : w5.cell? ⟨W.heap.size, 1, none⟩ = some (.int .i64 ay) := cell_gr hw5 (by go_simp)
    have zw5_0 : W.heap.size < w5.heap.size := World.block_lt_of_cell? _ _ cw5_0_0
    have cw5_1_0 : w5.cell? ⟨W.heap.size + 1, 0, none⟩ = some (.int .i64 bx) := cell_gr hw5 (by go_simp)
    have cw5_1_1 : w5.cell? ⟨W.heap.size + 1, 1, none⟩ = some (.int .i64 by') := cell_gr hw5 (by go_simp)
    have zw5_1 : W.heap.size + 1 < w5.heap.size := World.block_lt_of_cell? _ _ cw5_1_0
    have cw5_2_0 : w5.cell? ⟨W.heap.size + 1 + 1, 0, none⟩ = some (.int .i64 lx) := cell_gr hw5 (by go_simp)
    have cw5_2_1 : w5.cell? ⟨W.heap.size + 1 + 1, 1, none⟩ = some (.int .i64 ly) := cell_gr hw5 (by go_simp)
    have cw5_2_2 : w5.cell? ⟨W.heap.size + 1 + 1, 2, none⟩ = some (.int .i64 hx) := cell_gr hw5 (by go_simp)
    have cw5_2_3 : w5.cell? ⟨W.heap.size + 1 + 1, 3, none⟩ = some (.int .i64 hy) := cell_gr hw5 (by go_simp)
    have zw5_2 : W.heap.size + 1 + 1 < w5.heap.size := World.block_lt_of_cell? _ _ cw5_2_0
    have gw5 : Gr W w5 := Gr.trans (by have gg := gw4; have gs := gg.size; go_grown) hw5
    clear hw5 gw4 zw4_0 cw4_0_0 cw4_0_1 zw4_1 cw4_1_0 cw4_1_1 zw4_2 cw4_2_0 cw4_2_1 cw4_2_2 cw4_2_3
    go_wp2_with fail
    go_ret
    exact ⟨rfl, by go_grown⟩
set_option maxHeartbeats 8000000 in
set_option maxRecDepth 100000 in
theorem rmb_in (ax ay bx by' lx ly hx hy : Int) (m0 m1 m2 m3 r : Bool) (W : World)
    (hc : (m0 = true ∧ r = true) ∨ (m0 = false ∧ m1 = true ∧ r = true) ∨ (m0 = false ∧ m1 = false ∧ m2 = true ∧ r = true) ∨ (m0 = false ∧ m1 = false ∧ m2 = false ∧ m3 = true ∧ r = true) ∨ (m0 = false ∧ m1 = false ∧ m2 = false ∧ m3 = false ∧ r = false))
    (A1 : ∀ w, Calls Try.prog 14 #[.agg #[.int .i64 ax, .int .i64 ay]] w fun e w' => e = .returned (.bool true) ∧ Gr w w')
    (A2 : ∀ w, Calls Try.prog 14 #[.agg #[.int .i64 bx, .int .i64 by']] w fun e w' => e = .returned (.bool true) ∧ Gr w w')
    (A3 : ∀ w, Calls Try.prog 34 #[.agg #[.int .i64 lx, .int .i64 ly, .int .i64 hx, .int .i64 hy]] w fun e w' => e = .returned (.int .i64 0) ∧ Gr w w')
    (A4 : ∀ w, Calls Try.prog 35 #[.agg #[.int .i64 lx, .int .i64 ly, .int .i64 hx, .int .i64 hy], .agg #[.int .i64 ax, .int .i64 ay]] w fun e w' => e = .returned (.bool false) ∧ Gr w w')
    (A5 : ∀ w, Calls Try.prog 35 #[.agg #[.int .i64 lx, .int .i64 ly, .int .i64 hx, .int .i64 hy], .agg #[.int .i64 bx, .int .i64 by']] w fun e w' => e = .returned (.bool false) ∧ Gr w w')
    (A6 : ∀ w, Calls Try.prog 25 #[.agg #[.int .i64 ax, .int .i64 ay], .agg #[.int .i64 bx, .int .i64 by'], .agg #[.int .i64 lx, .int .i64 ly], .agg #[.int .i64 hx, .int .i64 ly]] w fun e w' => e = .returned (.bool m0) ∧ Gr w w')
    (A7 : ∀ w, Calls Try.prog 25 #[.agg #[.int .i64 ax, .int .i64 ay], .agg #[.int .i64 bx, .int .i64 by'], .agg #[.int .i64 hx, .int .i64 ly], .agg #[.int .i64 hx, .int .i64 hy]] w fun e w' => e = .returned (.bool m1) ∧ Gr w w')
    (A8 : ∀ w, Calls Try.prog 25 #[.agg #[.int .i64 ax, .int .i64 ay], .agg #[.int .i64 bx, .int .i64 by'], .agg #[.int .i64 hx, .int .i64 hy], .agg #[.int .i64 lx, .int .i64 hy]] w fun e w' => e = .returned (.bool m2) ∧ Gr w w')
    (A9 : ∀ w, Calls Try.prog 25 #[.agg #[.int .i64 ax, .int .i64 ay], .agg #[.int .i64 bx, .int .i64 by'], .agg #[.int .i64 lx, .int .i64 hy], .agg #[.int .i64 lx, .int .i64 ly]] w fun e w' => e = .returned (.bool m3) ∧ Gr w w') :
    Calls Try.prog 29 #[.agg #[.int .i64 ax, .int .i64 ay], .agg #[.int .i64 bx, .int .i64 by'], .agg #[.int .i64 lx, .int .i64 ly, .int .i64 hx, .int .i64 hy]] W fun e w' => e = .returned (.bool r) ∧ Gr W w' := by
  have H1 := Lib.hid A1
  have H2 := Lib.hid A2
  have H3 := Lib.hid A3
  have H4 := Lib.hid A4
  have H5 := Lib.hid A5
  have H6 := Lib.hid A6
  have H7 := Lib.hid A7
  have H8 := Lib.hid A8
  have H9 := Lib.hid A9
  clear A1 A2 A3 A4 A5 A6 A7 A8 A9
  have HC := Lib.hid (c_corners lx ly hx hy)
  rcases hc with ⟨rfl, rfl⟩ | ⟨rfl, rfl, rfl⟩ | ⟨rfl, rfl, rfl, rfl⟩ | ⟨rfl, rfl, rfl, rfl, rfl⟩ | ⟨rfl, rfl, rfl, rfl, rfl⟩
  · go_enter Try.func29, Try.ntmps29
    go_wp2_with fail
    go_at_call 14
    refine ((H1.out _)).mono ?_
    rintro e w1 ⟨rfl, hw1⟩
    have cw1_0_0 : w1.cell? ⟨W.heap.size, 0, none⟩ = some (.int .i64 ax) := cell_gr hw1 (by go_simp)
    have cw1_0_1 : w1.cell? ⟨W.heap.size, 1, none⟩ = some (.int .i64 ay) := cell_gr hw1 (by go_simp)
    have zw1_0 : W.heap.size < w1.heap.size := World.block_lt_of_cell? _ _ cw1_0_0
    have cw1_1_0 : w1.cell? ⟨W.heap.size + 1, 0, none⟩ = some (.int .i64 bx) := cell_gr hw1 (by go_simp)
    have cw1_1_1 : w1.cell? ⟨W.heap.size + 1, 1, none⟩ = some (.int .i64 by') := cell_gr hw1 (by go_simp)
    have zw1_1 : W.heap.size + 1 < w1.heap.size := World.block_lt_of_cell? _ _ cw1_1_0
    have cw1_2_0 : w1.cell? ⟨W.heap.size + 1 + 1, 0, none⟩ = some (.int .i64 lx) := cell_gr hw1 (by go_simp)
    have cw1_2_1 : w1.cell? ⟨W.heap.size + 1 + 1, 1, none⟩ = some (.int .i64 ly) := cell_gr hw1 (by go_simp)
    have cw1_2_2 : w1.cell? ⟨W.heap.size + 1 + 1, 2, none⟩ = some (.int .i64 hx) := cell_gr hw1 (by go_simp)
    have cw1_2_3 : w1.cell? ⟨W.heap.size + 1 + 1, 3, none⟩ = some (.int .i64 hy) := cell_gr hw1 (by go_simp)
    have zw1_2 : W.heap.size + 1 + 1 < w1.heap.size := World.block_lt_of_cell? _ _ cw1_2_0
    have gw1 : Gr W w1 := Gr.trans (by go_grown) hw1
    clear hw1
    go_wp2_with fail
    go_at_call 14
    refine ((H2.out _)).mono ?_
    rintro e w2 ⟨rfl, hw2⟩
    have cw2_0_0 : w2.cell? ⟨W.heap.size, 0, none⟩ = some (.int .i64 ax) := cell_gr hw2 (by go_simp)
    have cw2_0_1 : w2.cell? ⟨W.heap.size, 1, none⟩ = some (.int .i64 ay) := cell_gr hw2 (by go_simp)
    have zw2_0 : W.heap.size < w2.heap.size := World.block_lt_of_cell? _ _ cw2_0_0
    have cw2_1_0 : w2.cell? ⟨W.heap.size + 1, 0, none⟩ = some (.int .i64 bx) := cell_gr hw2 (by go_simp)
    have cw2_1_1 : w2.cell? ⟨W.heap.size + 1, 1, none⟩ = some (.int .i64 by') := cell_gr hw2 (by go_simp)
    have zw2_1 : W.heap.size + 1 < w2.heap.size := World.block_lt_of_cell? _ _ cw2_1_0
    have cw2_2_0 : w2.cell? ⟨W.heap.size + 1 + 1, 0, none⟩ = some (.int .i64 lx) := cell_gr hw2 (by go_simp)
    have cw2_2_1 : w2.cell? ⟨W.heap.size + 1 + 1, 1, none⟩ = some (.int .i64 ly) := cell_gr hw2 (by go_simp)
    have cw2_2_2 : w2.cell? ⟨W.heap.size + 1 + 1, 2, none⟩ = some (.int .i64 hx) := cell_gr hw2 (by go_simp)
    have cw2_2_3 : w2.cell? ⟨W.heap.size + 1 + 1, 3, none⟩ = some (.int .i64 hy) := cell_gr hw2 (by go_simp)
    have zw2_2 : W.heap.size + 1 + 1 < w2.heap.size := World.block_lt_of_cell? _ _ cw2_2_0
    have gw2 : Gr W w2 := Gr.trans (by have gg := gw1; have gs := gg.size; go_grown) hw2
    clear hw2 gw1 zw1_0 cw1_0_0 cw1_0_1 zw1_1 cw1_1_0 cw1_1_1 zw1_2 cw1_2_0 cw1_2_1 cw1_2_2 cw1_2_3
    go_wp2_with fail
    go_at_call 34
    refine ((H3.out _)).mono ?_
    rintro e w3 ⟨rfl, hw3⟩
    have cw3_0_0 : w3.cell? ⟨W.heap.size, 0, none⟩ = some (.int .i64 ax) := cell_gr hw3 (by go_simp)
    have cw3_0_1 : w3.cell? ⟨W.heap.size, 1, none⟩ = some (.int .i64 ay) := cell_gr hw3 (by go_simp)
    have zw3_0 : W.heap.size < w3.heap.size := World.block_lt_of_cell? _ _ cw3_0_0
    have cw3_1_0 : w3.cell? ⟨W.heap.size + 1, 0, none⟩ = some (.int .i64 bx) := cell_gr hw3 (by go_simp)
    have cw3_1_1 : w3.cell? ⟨W.heap.size + 1, 1, none⟩ = some (.int .i64 by') := cell_gr hw3 (by go_simp)
    have zw3_1 : W.heap.size + 1 < w3.heap.size := World.block_lt_of_cell? _ _ cw3_1_0
    have cw3_2_0 : w3.cell? ⟨W.heap.size + 1 + 1, 0, none⟩ = some (.int .i64 lx) := cell_gr hw3 (by go_simp)
    have cw3_2_1 : w3.cell? ⟨W.heap.size + 1 + 1, 1, none⟩ = some (.int .i64 ly) := cell_gr hw3 (by go_simp)
    have cw3_2_2 : w3.cell? ⟨W.heap.size + 1 + 1, 2, none⟩ = some (.int .i64 hx) := cell_gr hw3 (by go_simp)
    have cw3_2_3 : w3.cell? ⟨W.heap.size + 1 + 1, 3, none⟩ = some (.int .i64 hy) := cell_gr hw3 (by go_simp)
    have zw3_2 : W.heap.size + 1 + 1 < w3.heap.size := World.block_lt_of_cell? _ _ cw3_2_0
    have gw3 : Gr W w3 := Gr.trans (by have gg := gw2; have gs := gg.size; go_grown) hw3
    clear hw3 gw2 zw2_0 cw2_0_0 cw2_0_1 zw2_1 cw2_1_0 cw2_1_1 zw2_2 cw2_2_0 cw2_2_1 cw2_2_2 cw2_2_3
    go_wp2_with fail
    go_at_call 35
    refine ((H4.out _)).mono ?_
    rintro e w4 ⟨rfl, hw4⟩
    have cw4_0_0 : w4.cell? ⟨W.heap.size, 0, none⟩ = some (.int .i64 ax) := cell_gr hw4 (by go_simp)
    have cw4_0_1 : w4.cell? ⟨W.heap.size, 1, none⟩ = some (.int .i64 ay) := cell_gr hw4 (by go_simp)
    have zw4_0 : W.heap.size < w4.heap.size := World.block_lt_of_cell? _ _ cw4_0_0
    have cw4_1_0 : w4.cell? ⟨W.heap.size + 1, 0, none⟩ = some (.int .i64 bx) := cell_gr hw4 (by go_simp)
    have cw4_1_1 : w4.cell? ⟨W.heap.size + 1, 1, none⟩ = some (.int .i64 by') := cell_gr hw4 (by go_simp)
    have zw4_1 : W.heap.size + 1 < w4.heap.size := World.block_lt_of_cell? _ _ cw4_1_0
    have cw4_2_0 : w4.cell? ⟨W.heap.size + 1 + 1, 0, none⟩ = some (.int .i64 lx) := cell_gr hw4 (by go_simp)
    have cw4_2_1 : w4.cell? ⟨W.heap.size + 1 + 1, 1, none⟩ = some (.int .i64 ly) := cell_gr hw4 (by go_simp)
    have cw4_2_2 : w4.cell? ⟨W.heap.size + 1 + 1, 2, none⟩ = some (.int .i64 hx) := cell_gr hw4 (by go_simp)
    have cw4_2_3 : w4.cell? ⟨W.heap.size + 1 + 1, 3, none⟩ = some (.int .i64 hy) := cell_gr hw4 (by go_simp)
    have zw4_2 : W.heap.size + 1 + 1 < w4.heap.size := World.block_lt_of_cell? _ _ cw4_2_0
    have gw4 : Gr W w4 := Gr.trans (by have gg := gw3; have gs := gg.size; go_grown) hw4
    clear hw4 gw3 zw3_0 cw3_0_0 cw3_0_1 zw3_1 cw3_1_0 cw3_1_1 zw3_2 cw3_2_0 cw3_2_1 cw3_2_2 cw3_2_3
    go_wp2_with fail
    go_at_call 35
    refine ((H5.out _)).mono ?_
    rintro e w5 ⟨rfl, hw5⟩
    have cw5_0_0 : w5.cell? ⟨W.heap.size, 0, none⟩ = some (.int .i64 ax) := cell_gr hw5 (by go_simp)
    have cw5_0_1 : w5.cell? ⟨W.heap.size, 1, none⟩ = some (.int .i64 ay) := cell_gr hw5 (by go_simp)
    have zw5_0 : W.heap.size < w5.heap.size := World.block_lt_of_cell? _ _ cw5_0_0
    have cw5_1_0 : w5.cell? ⟨W.heap.size + 1, 0, none⟩ = some (.int .i64 bx) := cell_gr hw5 (by go_simp)
    have cw5_1_1 : w5.cell? ⟨W.heap.size + 1, 1, none⟩ = some (.int .i64 by') := cell_gr hw5 (by go_simp)
    have zw5_1 : W.heap.size + 1 < w5.heap.size := World.block_lt_of_cell? _ _ cw5_1_0
    have cw5_2_0 : w5.cell? ⟨W.heap.size + 1 + 1, 0, none⟩ = some (.int .i64 lx) := cell_gr hw5 (by go_simp)
    have cw5_2_1 : w5.cell? ⟨W.heap.size + 1 + 1, 1, none⟩ = some (.int .i64 ly) := cell_gr hw5 (by go_simp)
    have cw5_2_2 : w5.cell? ⟨W.heap.size + 1 + 1, 2, none⟩ = some (.int .i64 hx) := cell_gr hw5 (by go_simp)
    have cw5_2_3 : w5.cell? ⟨W.heap.size + 1 + 1, 3, none⟩ = some (.int .i64 hy) := cell_gr hw5 (by go_simp)
    have zw5_2 : W.heap.size + 1 + 1 < w5.heap.size := World.block_lt_of_cell? _ _ cw5_2_0
    have gw5 : Gr W w5 := Gr.trans (by have gg := gw4; have gs := gg.size; go_grown) hw5
    clear hw5 gw4 zw4_0 cw4_0_0 cw4_0_1 zw4_1 cw4_1_0 cw4_1_1 zw4_2 cw4_2_0 cw4_2_1 cw4_2_2 cw4_2_3
    go_wp2_with fail
    go_at_call 71
    refine (HC.out _).mono ?_
    rintro e x0 ⟨G, rfl, j0, j1, j2, j3, j4, j5, j6, j7, hx0⟩
    have gx0 : Gr W x0 := Gr.trans (by have gg := gw5; have gs := gg.size; go_grown) hx0
    have y0 : x0.cell? ⟨W.heap.size, 0, none⟩ = some (.int .i64 ax) := cell_gr hx0 (by go_simp)
    have y1 : x0.cell? ⟨W.heap.size, 1, none⟩ = some (.int .i64 ay) := cell_gr hx0 (by go_simp)
    have y2 : x0.cell? ⟨W.heap.size + 1, 0, none⟩ = some (.int .i64 bx) := cell_gr hx0 (by go_simp)
    have y3 : x0.cell? ⟨W.heap.size + 1, 1, none⟩ = some (.int .i64 by') := cell_gr hx0 (by go_simp)
    have y4 : x0.cell? ⟨W.heap.size + 1 + 1, 0, none⟩ = some (.int .i64 lx) := cell_gr hx0 (by go_simp)
    have y5 : x0.cell? ⟨W.heap.size + 1 + 1, 1, none⟩ = some (.int .i64 ly) := cell_gr hx0 (by go_simp)
    have y6 : x0.cell? ⟨W.heap.size + 1 + 1, 2, none⟩ = some (.int .i64 hx) := cell_gr hx0 (by go_simp)
    have y7 : x0.cell? ⟨W.heap.size + 1 + 1, 3, none⟩ = some (.int .i64 hy) := cell_gr hx0 (by go_simp)
    have u0 := World.block_lt_of_cell? _ _ y0
    have u1 := World.block_lt_of_cell? _ _ y2
    have u2 := World.block_lt_of_cell? _ _ y4
    have u3 := World.block_lt_of_cell? _ _ j0
    clear hx0 gw5 zw5_0 cw5_0_0 cw5_0_1 zw5_1 cw5_1_0 cw5_1_1 zw5_2 cw5_2_0 cw5_2_1 cw5_2_2 cw5_2_3
    go_wp2_with fail
    refine wp_loop_rounds 5 ?_
    rw [rounds_succ]
    go_wp2_with fail
    go_wp2_with fail
    refine wp_region_spread (by kernel_rfl) (by kernel_rfl) ?_
    try simp only [List.append]
    repeat (first | go_big_quiet_skip | (go_big_quiet_want; go_big_quiet_op; (first | go_big_quiet_on | (apply Exists.intro; refine ⟨fun _ => ?_, ?_⟩; (· (first | (go_at_call 25; first | ((with_reducible refine ((H6.out _)).mono ?_); rintro e w' ⟨rfl, hg⟩; exact ⟨rfl, spread_gr hg⟩)))); go_big_quiet_on))))
    refine wpQuiet_nil ?_
    intro v1 hhv1
    have hv1 := Hd.gr_of_spread hhv1
    have cv1_0_0 : v1.cell? ⟨W.heap.size, 0, none⟩ = some (.int .i64 ax) := cell_gr hv1 (by go_simp)
    have cv1_0_1 : v1.cell? ⟨W.heap.size, 1, none⟩ = some (.int .i64 ay) := cell_gr hv1 (by go_simp)
    have zv1_0 : W.heap.size < v1.heap.size := World.block_lt_of_cell? _ _ cv1_0_0
    have cv1_1_0 : v1.cell? ⟨W.heap.size + 1, 0, none⟩ = some (.int .i64 bx) := cell_gr hv1 (by go_simp)
    have cv1_1_1 : v1.cell? ⟨W.heap.size + 1, 1, none⟩ = some (.int .i64 by') := cell_gr hv1 (by go_simp)
    have zv1_1 : W.heap.size + 1 < v1.heap.size := World.block_lt_of_cell? _ _ cv1_1_0
    have cv1_2_0 : v1.cell? ⟨W.heap.size + 1 + 1, 0, none⟩ = some (.int .i64 lx) := cell_gr hv1 (by go_simp)
    have cv1_2_1 : v1.cell? ⟨W.heap.size + 1 + 1, 1, none⟩ = some (.int .i64 ly) := cell_gr hv1 (by go_simp)
    have cv1_2_2 : v1.cell? ⟨W.heap.size + 1 + 1, 2, none⟩ = some (.int .i64 hx) := cell_gr hv1 (by go_simp)
    have cv1_2_3 : v1.cell? ⟨W.heap.size + 1 + 1, 3, none⟩ = some (.int .i64 hy) := cell_gr hv1 (by go_simp)
    have zv1_2 : W.heap.size + 1 + 1 < v1.heap.size := World.block_lt_of_cell? _ _ cv1_2_0
    have cv1_3_0 : v1.cell? ⟨G, 0, none⟩ = some (.int .i64 lx) := cell_gr hv1 (by go_simp)
    have cv1_3_1 : v1.cell? ⟨G, 1, none⟩ = some (.int .i64 ly) := cell_gr hv1 (by go_simp)
    have cv1_3_2 : v1.cell? ⟨G, 2, none⟩ = some (.int .i64 hx) := cell_gr hv1 (by go_simp)
    have cv1_3_3 : v1.cell? ⟨G, 3, none⟩ = some (.int .i64 ly) := cell_gr hv1 (by go_simp)
    have cv1_3_4 : v1.cell? ⟨G, 4, none⟩ = some (.int .i64 hx) := cell_gr hv1 (by go_simp)
    have cv1_3_5 : v1.cell? ⟨G, 5, none⟩ = some (.int .i64 hy) := cell_gr hv1 (by go_simp)
    have cv1_3_6 : v1.cell? ⟨G, 6, none⟩ = some (.int .i64 lx) := cell_gr hv1 (by go_simp)
    have cv1_3_7 : v1.cell? ⟨G, 7, none⟩ = some (.int .i64 hy) := cell_gr hv1 (by go_simp)
    have zv1_3 : G < v1.heap.size := World.block_lt_of_cell? _ _ cv1_3_0
    have gv1 : Gr W v1 := Gr.trans (by have gg := gx0; have gs := gg.size; go_grown) hv1
    clear hv1 hhv1 gx0
    go_wp2_with fail
    go_ret
    exact ⟨rfl, gv1⟩
  · go_enter Try.func29, Try.ntmps29
    go_wp2_with fail
    go_at_call 14
    refine ((H1.out _)).mono ?_
    rintro e w1 ⟨rfl, hw1⟩
    have cw1_0_0 : w1.cell? ⟨W.heap.size, 0, none⟩ = some (.int .i64 ax) := cell_gr hw1 (by go_simp)
    have cw1_0_1 : w1.cell? ⟨W.heap.size, 1, none⟩ = some (.int .i64 ay) := cell_gr hw1 (by go_simp)
    have zw1_0 : W.heap.size < w1.heap.size := World.block_lt_of_cell? _ _ cw1_0_0
    have cw1_1_0 : w1.cell? ⟨W.heap.size + 1, 0, none⟩ = some (.int .i64 bx) := cell_gr hw1 (by go_simp)
    have cw1_1_1 : w1.cell? ⟨W.heap.size + 1, 1, none⟩ = some (.int .i64 by') := cell_gr hw1 (by go_simp)
    have zw1_1 : W.heap.size + 1 < w1.heap.size := World.block_lt_of_cell? _ _ cw1_1_0
    have cw1_2_0 : w1.cell? ⟨W.heap.size + 1 + 1, 0, none⟩ = some (.int .i64 lx) := cell_gr hw1 (by go_simp)
    have cw1_2_1 : w1.cell? ⟨W.heap.size + 1 + 1, 1, none⟩ = some (.int .i64 ly) := cell_gr hw1 (by go_simp)
    have cw1_2_2 : w1.cell? ⟨W.heap.size + 1 + 1, 2, none⟩ = some (.int .i64 hx) := cell_gr hw1 (by go_simp)
    have cw1_2_3 : w1.cell? ⟨W.heap.size + 1 + 1, 3, none⟩ = some (.int .i64 hy) := cell_gr hw1 (by go_simp)
    have zw1_2 : W.heap.size + 1 + 1 < w1.heap.size := World.block_lt_of_cell? _ _ cw1_2_0
    have gw1 : Gr W w1 := Gr.trans (by go_grown) hw1
    clear hw1
    go_wp2_with fail
    go_at_call 14
    refine ((H2.out _)).mono ?_
    rintro e w2 ⟨rfl, hw2⟩
    have cw2_0_0 : w2.cell? ⟨W.heap.size, 0, none⟩ = some (.int .i64 ax) := cell_gr hw2 (by go_simp)
    have cw2_0_1 : w2.cell? ⟨W.heap.size, 1, none⟩ = some (.int .i64 ay) := cell_gr hw2 (by go_simp)
    have zw2_0 : W.heap.size < w2.heap.size := World.block_lt_of_cell? _ _ cw2_0_0
    have cw2_1_0 : w2.cell? ⟨W.heap.size + 1, 0, none⟩ = some (.int .i64 bx) := cell_gr hw2 (by go_simp)
    have cw2_1_1 : w2.cell? ⟨W.heap.size + 1, 1, none⟩ = some (.int .i64 by') := cell_gr hw2 (by go_simp)
    have zw2_1 : W.heap.size + 1 < w2.heap.size := World.block_lt_of_cell? _ _ cw2_1_0
    have cw2_2_0 : w2.cell? ⟨W.heap.size + 1 + 1, 0, none⟩ = some (.int .i64 lx) := cell_gr hw2 (by go_simp)
    have cw2_2_1 : w2.cell? ⟨W.heap.size + 1 + 1, 1, none⟩ = some (.int .i64 ly) := cell_gr hw2 (by go_simp)
    have cw2_2_2 : w2.cell? ⟨W.heap.size + 1 + 1, 2, none⟩ = some (.int .i64 hx) := cell_gr hw2 (by go_simp)
    have cw2_2_3 : w2.cell? ⟨W.heap.size + 1 + 1, 3, none⟩ = some (.int .i64 hy) := cell_gr hw2 (by go_simp)
    have zw2_2 : W.heap.size + 1 + 1 < w2.heap.size := World.block_lt_of_cell? _ _ cw2_2_0
    have gw2 : Gr W w2 := Gr.trans (by have gg := gw1; have gs := gg.size; go_grown) hw2
    clear hw2 gw1 zw1_0 cw1_0_0 cw1_0_1 zw1_1 cw1_1_0 cw1_1_1 zw1_2 cw1_2_0 cw1_2_1 cw1_2_2 cw1_2_3
    go_wp2_with fail
    go_at_call 34
    refine ((H3.out _)).mono ?_
    rintro e w3 ⟨rfl, hw3⟩
    have cw3_0_0 : w3.cell? ⟨W.heap.size, 0, none⟩ = some (.int .i64 ax) := cell_gr hw3 (by go_simp)
    have cw3_0_1 : w3.cell? ⟨W.heap.size, 1, none⟩ = some (.int .i64 ay) := cell_gr hw3 (by go_simp)
    have zw3_0 : W.heap.size < w3.heap.size := World.block_lt_of_cell? _ _ cw3_0_0
    have cw3_1_0 : w3.cell? ⟨W.heap.size + 1, 0, none⟩ = some (.int .i64 bx) := cell_gr hw3 (by go_simp)
    have cw3_1_1 : w3.cell? ⟨W.heap.size + 1, 1, none⟩ = some (.int .i64 by') := cell_gr hw3 (by go_simp)
    have zw3_1 : W.heap.size + 1 < w3.heap.size := World.block_lt_of_cell? _ _ cw3_1_0
    have cw3_2_0 : w3.cell? ⟨W.heap.size + 1 + 1, 0, none⟩ = some (.int .i64 lx) := cell_gr hw3 (by go_simp)
    have cw3_2_1 : w3.cell? ⟨W.heap.size + 1 + 1, 1, none⟩ = some (.int .i64 ly) := cell_gr hw3 (by go_simp)
    have cw3_2_2 : w3.cell? ⟨W.heap.size + 1 + 1, 2, none⟩ = some (.int .i64 hx) := cell_gr hw3 (by go_simp)
    have cw3_2_3 : w3.cell? ⟨W.heap.size + 1 + 1, 3, none⟩ = some (.int .i64 hy) := cell_gr hw3 (by go_simp)
    have zw3_2 : W.heap.size + 1 + 1 < w3.heap.size := World.block_lt_of_cell? _ _ cw3_2_0
    have gw3 : Gr W w3 := Gr.trans (by have gg := gw2; have gs := gg.size; go_grown) hw3
    clear hw3 gw2 zw2_0 cw2_0_0 cw2_0_1 zw2_1 cw2_1_0 cw2_1_1 zw2_2 cw2_2_0 cw2_2_1 cw2_2_2 cw2_2_3
    go_wp2_with fail
    go_at_call 35
    refine ((H4.out _)).mono ?_
    rintro e w4 ⟨rfl, hw4⟩
    have cw4_0_0 : w4.cell? ⟨W.heap.size, 0, none⟩ = some (.int .i64 ax) := cell_gr hw4 (by go_simp)
    have cw4_0_1 : w4.cell? ⟨W.heap.size, 1, none⟩ = some (.int .i64 ay) := cell_gr hw4 (by go_simp)
    have zw4_0 : W.heap.size < w4.heap.size := World.block_lt_of_cell? _ _ cw4_0_0
    have cw4_1_0 : w4.cell? ⟨W.heap.size + 1, 0, none⟩ = some (.int .i64 bx) := cell_gr hw4 (by go_simp)
    have cw4_1_1 : w4.cell? ⟨W.heap.size + 1, 1, none⟩ = some (.int .i64 by') := cell_gr hw4 (by go_simp)
    have zw4_1 : W.heap.size + 1 < w4.heap.size := World.block_lt_of_cell? _ _ cw4_1_0
    have cw4_2_0 : w4.cell? ⟨W.heap.size + 1 + 1, 0, none⟩ = some (.int .i64 lx) := cell_gr hw4 (by go_simp)
    have cw4_2_1 : w4.cell? ⟨W.heap.size + 1 + 1, 1, none⟩ = some (.int .i64 ly) := cell_gr hw4 (by go_simp)
    have cw4_2_2 : w4.cell? ⟨W.heap.size + 1 + 1, 2, none⟩ = some (.int .i64 hx) := cell_gr hw4 (by go_simp)
    have cw4_2_3 : w4.cell? ⟨W.heap.size + 1 + 1, 3, none⟩ = some (.int .i64 hy) := cell_gr hw4 (by go_simp)
    have zw4_2 : W.heap.size + 1 + 1 < w4.heap.size := World.block_lt_of_cell? _ _ cw4_2_0
    have gw4 : Gr W w4 := Gr.trans (by have gg := gw3; have gs := gg.size; go_grown) hw4
    clear hw4 gw3 zw3_0 cw3_0_0 cw3_0_1 zw3_1 cw3_1_0 cw3_1_1 zw3_2 cw3_2_0 cw3_2_1 cw3_2_2 cw3_2_3
    go_wp2_with fail
    go_at_call 35
    refine ((H5.out _)).mono ?_
    rintro e w5 ⟨rfl, hw5⟩
    have cw5_0_0 : w5.cell? ⟨W.heap.size, 0, none⟩ = some (.int .i64 ax) := cell_gr hw5 (by go_simp)
    have cw5_0_1 : w5.cell? ⟨W.heap.size, 1, none⟩ = some (.int .i64 ay) := cell_gr hw5 (by go_simp)
    have zw5_0 : W.heap.size < w5.heap.size := World.block_lt_of_cell? _ _ cw5_0_0
    have cw5_1_0 : w5.cell? ⟨W.heap.size + 1, 0, none⟩ = some (.int .i64 bx) := cell_gr hw5 (by go_simp)
    have cw5_1_1 : w5.cell? ⟨W.heap.size + 1, 1, none⟩ = some (.int .i64 by') := cell_gr hw5 (by go_simp)
    have zw5_1 : W.heap.size + 1 < w5.heap.size := World.block_lt_of_cell? _ _ cw5_1_0
    have cw5_2_0 : w5.cell? ⟨W.heap.size + 1 + 1, 0, none⟩ = some (.int .i64 lx) := cell_gr hw5 (by go_simp)
    have cw5_2_1 : w5.cell? ⟨W.heap.size + 1 + 1, 1, none⟩ = some (.int .i64 ly) := cell_gr hw5 (by go_simp)
    have cw5_2_2 : w5.cell? ⟨W.heap.size + 1 + 1, 2, none⟩ = some (.int .i64 hx) := cell_gr hw5 (by go_simp)
    have cw5_2_3 : w5.cell? ⟨W.heap.size + 1 + 1, 3, none⟩ = some (.int .i64 hy) := cell_gr hw5 (by go_simp)
    have zw5_2 : W.heap.size + 1 + 1 < w5.heap.size := World.block_lt_of_cell? _ _ cw5_2_0
    have gw5 : Gr W w5 := Gr.trans (by have gg := gw4; have gs := gg.size; go_grown) hw5
    clear hw5 gw4 zw4_0 cw4_0_0 cw4_0_1 zw4_1 cw4_1_0 cw4_1_1 zw4_2 cw4_2_0 cw4_2_1 cw4_2_2 cw4_2_3
    go_wp2_with fail
    go_at_call 71
    refine (HC.out _).mono ?_
    rintro e x0 ⟨G, rfl, j0, j1, j2, j3, j4, j5, j6, j7, hx0⟩
    have gx0 : Gr W x0 := Gr.trans (by have gg := gw5; have gs := gg.size; go_grown) hx0
    have y0 : x0.cell? ⟨W.heap.size, 0, none⟩ = some (.int .i64 ax) := cell_gr hx0 (by go_simp)
    have y1 : x0.cell? ⟨W.heap.size, 1, none⟩ = some (.int .i64 ay) := cell_gr hx0 (by go_simp)
    have y2 : x0.cell? ⟨W.heap.size + 1, 0, none⟩ = some (.int .i64 bx) := cell_gr hx0 (by go_simp)
    have y3 : x0.cell? ⟨W.heap.size + 1, 1, none⟩ = some (.int .i64 by') := cell_gr hx0 (by go_simp)
    have y4 : x0.cell? ⟨W.heap.size + 1 + 1, 0, none⟩ = some (.int .i64 lx) := cell_gr hx0 (by go_simp)
    have y5 : x0.cell? ⟨W.heap.size + 1 + 1, 1, none⟩ = some (.int .i64 ly) := cell_gr hx0 (by go_simp)
    have y6 : x0.cell? ⟨W.heap.size + 1 + 1, 2, none⟩ = some (.int .i64 hx) := cell_gr hx0 (by go_simp)
    have y7 : x0.cell? ⟨W.heap.size + 1 + 1, 3, none⟩ = some (.int .i64 hy) := cell_gr hx0 (by go_simp)
    have u0 := World.block_lt_of_cell? _ _ y0
    have u1 := World.block_lt_of_cell? _ _ y2
    have u2 := World.block_lt_of_cell? _ _ y4
    have u3 := World.block_lt_of_cell? _ _ j0
    clear hx0 gw5 zw5_0 cw5_0_0 cw5_0_1 zw5_1 cw5_1_0 cw5_1_1 zw5_2 cw5_2_0 cw5_2_1 cw5_2_2 cw5_2_3
    go_wp2_with fail
    refine wp_loop_rounds 5 ?_
    rw [rounds_succ]
    go_wp2_with fail
    go_wp2_with fail
    refine wp_region_spread (by kernel_rfl) (by kernel_rfl) ?_
    try simp only [List.append]
    repeat (first | go_big_quiet_skip | (go_big_quiet_want; go_big_quiet_op; (first | go_big_quiet_on | (apply Exists.intro; refine ⟨fun _ => ?_, ?_⟩; (· (first | (go_at_call 25; first | ((with_reducible refine ((H6.out _)).mono ?_); rintro e w' ⟨rfl, hg⟩; exact ⟨rfl, spread_gr hg⟩)))); go_big_quiet_on))))
    refine wpQuiet_nil ?_
    intro v1 hhv1
    have hv1 := Hd.gr_of_spread hhv1
    have cv1_0_0 : v1.cell? ⟨W.heap.size, 0, none⟩ = some (.int .i64 ax) := cell_gr hv1 (by go_simp)
    have cv1_0_1 : v1.cell? ⟨W.heap.size, 1, none⟩ = some (.int .i64 ay) := cell_gr hv1 (by go_simp)
    have zv1_0 : W.heap.size < v1.heap.size := World.block_lt_of_cell? _ _ cv1_0_0
    have cv1_1_0 : v1.cell? ⟨W.heap.size + 1, 0, none⟩ = some (.int .i64 bx) := cell_gr hv1 (by go_simp)
    have cv1_1_1 : v1.cell? ⟨W.heap.size + 1, 1, none⟩ = some (.int .i64 by') := cell_gr hv1 (by go_simp)
    have zv1_1 : W.heap.size + 1 < v1.heap.size := World.block_lt_of_cell? _ _ cv1_1_0
    have cv1_2_0 : v1.cell? ⟨W.heap.size + 1 + 1, 0, none⟩ = some (.int .i64 lx) := cell_gr hv1 (by go_simp)
    have cv1_2_1 : v1.cell? ⟨W.heap.size + 1 + 1, 1, none⟩ = some (.int .i64 ly) := cell_gr hv1 (by go_simp)
    have cv1_2_2 : v1.cell? ⟨W.heap.size + 1 + 1, 2, none⟩ = some (.int .i64 hx) := cell_gr hv1 (by go_simp)
    have cv1_2_3 : v1.cell? ⟨W.heap.size + 1 + 1, 3, none⟩ = some (.int .i64 hy) := cell_gr hv1 (by go_simp)
    have zv1_2 : W.heap.size + 1 + 1 < v1.heap.size := World.block_lt_of_cell? _ _ cv1_2_0
    have cv1_3_0 : v1.cell? ⟨G, 0, none⟩ = some (.int .i64 lx) := cell_gr hv1 (by go_simp)
    have cv1_3_1 : v1.cell? ⟨G, 1, none⟩ = some (.int .i64 ly) := cell_gr hv1 (by go_simp)
    have cv1_3_2 : v1.cell? ⟨G, 2, none⟩ = some (.int .i64 hx) := cell_gr hv1 (by go_simp)
    have cv1_3_3 : v1.cell? ⟨G, 3, none⟩ = some (.int .i64 ly) := cell_gr hv1 (by go_simp)
    have cv1_3_4 : v1.cell? ⟨G, 4, none⟩ = some (.int .i64 hx) := cell_gr hv1 (by go_simp)
    have cv1_3_5 : v1.cell? ⟨G, 5, none⟩ = some (.int .i64 hy) := cell_gr hv1 (by go_simp)
    have cv1_3_6 : v1.cell? ⟨G, 6, none⟩ = some (.int .i64 lx) := cell_gr hv1 (by go_simp)
    have cv1_3_7 : v1.cell? ⟨G, 7, none⟩ = some (.int .i64 hy) := cell_gr hv1 (by go_simp)
    have zv1_3 : G < v1.heap.size := World.block_lt_of_cell? _ _ cv1_3_0
    have gv1 : Gr W v1 := Gr.trans (by have gg := gx0; have gs := gg.size; go_grown) hv1
    clear hv1 hhv1 gx0
    go_wp2_with fail
    rw [rounds_succ]
    go_wp2_with fail
    go_wp2_with fail
    refine wp_region_spread (by kernel_rfl) (by kernel_rfl) ?_
    try simp only [List.append]
    repeat (first | go_big_quiet_skip | (go_big_quiet_want; go_big_quiet_op; (first | go_big_quiet_on | (apply Exists.intro; refine ⟨fun _ => ?_, ?_⟩; (· (first | (go_at_call 25; first | ((with_reducible refine ((H7.out _)).mono ?_); rintro e w' ⟨rfl, hg⟩; exact ⟨rfl, spread_gr hg⟩)))); go_big_quiet_on))))
    refine wpQuiet_nil ?_
    intro v2 hhv2
    have hv2 := Hd.gr_of_spread hhv2
    have cv2_0_0 : v2.cell? ⟨W.heap.size, 0, none⟩ = some (.int .i64 ax) := cell_gr hv2 (by go_simp)
    have cv2_0_1 : v2.cell? ⟨W.heap.size, 1, none⟩ = some (.int .i64 ay) := cell_gr hv2 (by go_simp)
    have zv2_0 : W.heap.size < v2.heap.size := World.block_lt_of_cell? _ _ cv2_0_0
    have cv2_1_0 : v2.cell? ⟨W.heap.size + 1, 0, none⟩ = some (.int .i64 bx) := cell_gr hv2 (by go_simp)
    have cv2_1_1 : v2.cell? ⟨W.heap.size + 1, 1, none⟩ = some (.int .i64 by') := cell_gr hv2 (by go_simp)
    have zv2_1 : W.heap.size + 1 < v2.heap.size := World.block_lt_of_cell? _ _ cv2_1_0
    have cv2_2_0 : v2.cell? ⟨W.heap.size + 1 + 1, 0, none⟩ = some (.int .i64 lx) := cell_gr hv2 (by go_simp)
    have cv2_2_1 : v2.cell? ⟨W.heap.size + 1 + 1, 1, none⟩ = some (.int .i64 ly) := cell_gr hv2 (by go_simp)
    have cv2_2_2 : v2.cell? ⟨W.heap.size + 1 + 1, 2, none⟩ = some (.int .i64 hx) := cell_gr hv2 (by go_simp)
    have cv2_2_3 : v2.cell? ⟨W.heap.size + 1 + 1, 3, none⟩ = some (.int .i64 hy) := cell_gr hv2 (by go_simp)
    have zv2_2 : W.heap.size + 1 + 1 < v2.heap.size := World.block_lt_of_cell? _ _ cv2_2_0
    have cv2_3_0 : v2.cell? ⟨G, 0, none⟩ = some (.int .i64 lx) := cell_gr hv2 (by go_simp)
    have cv2_3_1 : v2.cell? ⟨G, 1, none⟩ = some (.int .i64 ly) := cell_gr hv2 (by go_simp)
    have cv2_3_2 : v2.cell? ⟨G, 2, none⟩ = some (.int .i64 hx) := cell_gr hv2 (by go_simp)
    have cv2_3_3 : v2.cell? ⟨G, 3, none⟩ = some (.int .i64 ly) := cell_gr hv2 (by go_simp)
    have cv2_3_4 : v2.cell? ⟨G, 4, none⟩ = some (.int .i64 hx) := cell_gr hv2 (by go_simp)
    have cv2_3_5 : v2.cell? ⟨G, 5, none⟩ = some (.int .i64 hy) := cell_gr hv2 (by go_simp)
    have cv2_3_6 : v2.cell? ⟨G, 6, none⟩ = some (.int .i64 lx) := cell_gr hv2 (by go_simp)
    have cv2_3_7 : v2.cell? ⟨G, 7, none⟩ = some (.int .i64 hy) := cell_gr hv2 (by go_simp)
    have zv2_3 : G < v2.heap.size := World.block_lt_of_cell? _ _ cv2_3_0
    have gv2 : Gr W v2 := Gr.trans (by have gg := gv1; have gs := gg.size; go_grown) hv2
    clear hv2 hhv2 gv1 zv1_0 cv1_0_0 cv1_0_1 zv1_1 cv1_1_0 cv1_1_1 zv1_2 cv1_2_0 cv1_2_1 cv1_2_2 cv1_2_3 zv1_3 cv1_3_0 cv1_3_1 cv1_3_2 cv1_3_3 cv1_3_4 cv1_3_5 cv1_3_6 cv1_3_7
    go_wp2_with fail
    go_ret
    exact ⟨rfl, gv2⟩
  · go_enter Try.func29, Try.ntmps29
    go_wp2_with fail
    go_at_call 14
    refine ((H1.out _)).mono ?_
    rintro e w1 ⟨rfl, hw1⟩
    have cw1_0_0 : w1.cell? ⟨W.heap.size, 0, none⟩ = some (.int .i64 ax) := cell_gr hw1 (by go_simp)
    have cw1_0_1 : w1.cell? ⟨W.heap.size, 1, none⟩ = some (.int .i64 ay) := cell_gr hw1 (by go_simp)
    have zw1_0 : W.heap.size < w1.heap.size := World.block_lt_of_cell? _ _ cw1_0_0
    have cw1_1_0 : w1.cell? ⟨W.heap.size + 1, 0, none⟩ = some (.int .i64 bx) := cell_gr hw1 (by go_simp)
    have cw1_1_1 : w1.cell? ⟨W.heap.size + 1, 1, none⟩ = some (.int .i64 by') := cell_gr hw1 (by go_simp)
    have zw1_1 : W.heap.size + 1 < w1.heap.size := World.block_lt_of_cell? _ _ cw1_1_0
    have cw1_2_0 : w1.cell? ⟨W.heap.size + 1 + 1, 0, none⟩ = some (.int .i64 lx) := cell_gr hw1 (by go_simp)
    have cw1_2_1 : w1.cell? ⟨W.heap.size + 1 + 1, 1, none⟩ = some (.int .i64 ly) := cell_gr hw1 (by go_simp)
    have cw1_2_2 : w1.cell? ⟨W.heap.size + 1 + 1, 2, none⟩ = some (.int .i64 hx) := cell_gr hw1 (by go_simp)
    have cw1_2_3 : w1.cell? ⟨W.heap.size + 1 + 1, 3, none⟩ = some (.int .i64 hy) := cell_gr hw1 (by go_simp)
    have zw1_2 : W.heap.size + 1 + 1 < w1.heap.size := World.block_lt_of_cell? _ _ cw1_2_0
    have gw1 : Gr W w1 := Gr.trans (by go_grown) hw1
    clear hw1
    go_wp2_with fail
    go_at_call 14
    refine ((H2.out _)).mono ?_
    rintro e w2 ⟨rfl, hw2⟩
    have cw2_0_0 : w2.cell? ⟨W.heap.size, 0, none⟩ = some (.int .i64 ax) := cell_gr hw2 (by go_simp)
    have cw2_0_1 : w2.cell? ⟨W.heap.size, 1, none⟩ = some (.int .i64 ay) := cell_gr hw2 (by go_simp)
    have zw2_0 : W.heap.size < w2.heap.size := World.block_lt_of_cell? _ _ cw2_0_0
    have cw2_1_0 : w2.cell? ⟨W.heap.size + 1, 0, none⟩ = some (.int .i64 bx) := cell_gr hw2 (by go_simp)
    have cw2_1_1 : w2.cell? ⟨W.heap.size + 1, 1, none⟩ = some (.int .i64 by') := cell_gr hw2 (by go_simp)
    have zw2_1 : W.heap.size + 1 < w2.heap.size := World.block_lt_of_cell? _ _ cw2_1_0
    have cw2_2_0 : w2.cell? ⟨W.heap.size + 1 + 1, 0, none⟩ = some (.int .i64 lx) := cell_gr hw2 (by go_simp)
    have cw2_2_1 : w2.cell? ⟨W.heap.size + 1 + 1, 1, none⟩ = some (.int .i64 ly) := cell_gr hw2 (by go_simp)
    have cw2_2_2 : w2.cell? ⟨W.heap.size + 1 + 1, 2, none⟩ = some (.int .i64 hx) := cell_gr hw2 (by go_simp)
    have cw2_2_3 : w2.cell? ⟨W.heap.size + 1 + 1, 3, none⟩ = some (.int .i64 hy) := cell_gr hw2 (by go_simp)
    have zw2_2 : W.heap.size + 1 + 1 < w2.heap.size := World.block_lt_of_cell? _ _ cw2_2_0
    have gw2 : Gr W w2 := Gr.trans (by have gg := gw1; have gs := gg.size; go_grown) hw2
    clear hw2 gw1 zw1_0 cw1_0_0 cw1_0_1 zw1_1 cw1_1_0 cw1_1_1 zw1_2 cw1_2_0 cw1_2_1 cw1_2_2 cw1_2_3
    go_wp2_with fail
    go_at_call 34
    refine ((H3.out _)).mono ?_
    rintro e w3 ⟨rfl, hw3⟩
    have cw3_0_0 : w3.cell? ⟨W.heap.size, 0, none⟩ = some (.int .i64 ax) := cell_gr hw3 (by go_simp)
    have cw3_0_1 : w3.cell? ⟨W.heap.size, 1, none⟩ = some (.int .i64 ay) := cell_gr hw3 (by go_simp)
    have zw3_0 : W.heap.size < w3.heap.size := World.block_lt_of_cell? _ _ cw3_0_0
    have cw3_1_0 : w3.cell? ⟨W.heap.size + 1, 0, none⟩ = some (.int .i64 bx) := cell_gr hw3 (by go_simp)
    have cw3_1_1 : w3.cell? ⟨W.heap.size + 1, 1, none⟩ = some (.int .i64 by') := cell_gr hw3 (by go_simp)
    have zw3_1 : W.heap.size + 1 < w3.heap.size := World.block_lt_of_cell? _ _ cw3_1_0
    have cw3_2_0 : w3.cell? ⟨W.heap.size + 1 + 1, 0, none⟩ = some (.int .i64 lx) := cell_gr hw3 (by go_simp)
    have cw3_2_1 : w3.cell? ⟨W.heap.size + 1 + 1, 1, none⟩ = some (.int .i64 ly) := cell_gr hw3 (by go_simp)
    have cw3_2_2 : w3.cell? ⟨W.heap.size + 1 + 1, 2, none⟩ = some (.int .i64 hx) := cell_gr hw3 (by go_simp)
    have cw3_2_3 : w3.cell? ⟨W.heap.size + 1 + 1, 3, none⟩ = some (.int .i64 hy) := cell_gr hw3 (by go_simp)
    have zw3_2 : W.heap.size + 1 + 1 < w3.heap.size := World.block_lt_of_cell? _ _ cw3_2_0
    have gw3 : Gr W w3 := Gr.trans (by have gg := gw2; have gs := gg.size; go_grown) hw3
    clear hw3 gw2 zw2_0 cw2_0_0 cw2_0_1 zw2_1 cw2_1_0 cw2_1_1 zw2_2 cw2_2_0 cw2_2_1 cw2_2_2 cw2_2_3
    go_wp2_with fail
    go_at_call 35
    refine ((H4.out _)).mono ?_
    rintro e w4 ⟨rfl, hw4⟩
    have cw4_0_0 : w4.cell? ⟨W.heap.size, 0, none⟩ = some (.int .i64 ax) := cell_gr hw4 (by go_simp)
    have cw4_0_1 : w4.cell? ⟨W.heap.size, 1, none⟩ = some (.int .i64 ay) := cell_gr hw4 (by go_simp)
    have zw4_0 : W.heap.size < w4.heap.size := World.block_lt_of_cell? _ _ cw4_0_0
    have cw4_1_0 : w4.cell? ⟨W.heap.size + 1, 0, none⟩ = some (.int .i64 bx) := cell_gr hw4 (by go_simp)
    have cw4_1_1 : w4.cell? ⟨W.heap.size + 1, 1, none⟩ = some (.int .i64 by') := cell_gr hw4 (by go_simp)
    have zw4_1 : W.heap.size + 1 < w4.heap.size := World.block_lt_of_cell? _ _ cw4_1_0
    have cw4_2_0 : w4.cell? ⟨W.heap.size + 1 + 1, 0, none⟩ = some (.int .i64 lx) := cell_gr hw4 (by go_simp)
    have cw4_2_1 : w4.cell? ⟨W.heap.size + 1 + 1, 1, none⟩ = some (.int .i64 ly) := cell_gr hw4 (by go_simp)
    have cw4_2_2 : w4.cell? ⟨W.heap.size + 1 + 1, 2, none⟩ = some (.int .i64 hx) := cell_gr hw4 (by go_simp)
    have cw4_2_3 : w4.cell? ⟨W.heap.size + 1 + 1, 3, none⟩ = some (.int .i64 hy) := cell_gr hw4 (by go_simp)
    have zw4_2 : W.heap.size + 1 + 1 < w4.heap.size := World.block_lt_of_cell? _ _ cw4_2_0
    have gw4 : Gr W w4 := Gr.trans (by have gg := gw3; have gs := gg.size; go_grown) hw4
    clear hw4 gw3 zw3_0 cw3_0_0 cw3_0_1 zw3_1 cw3_1_0 cw3_1_1 zw3_2 cw3_2_0 cw3_2_1 cw3_2_2 cw3_2_3
    go_wp2_with fail
    go_at_call 35
    refine ((H5.out _)).mono ?_
    rintro e w5 ⟨rfl, hw5⟩
    have cw5_0_0 : w5.cell? ⟨W.heap.size, 0, none⟩ = some (.int .i64 ax) := cell_gr hw5 (by go_simp)
    have cw5_0_1 : w5.cell? ⟨W.heap.size, 1, none⟩ = some (.int .i64 ay) := cell_gr hw5 (by go_simp)
    have zw5_0 : W.heap.size < w5.heap.size := World.block_lt_of_cell? _ _ cw5_0_0
    have cw5_1_0 : w5.cell? ⟨W.heap.size + 1, 0, none⟩ = some (.int .i64 bx) := cell_gr hw5 (by go_simp)
    have cw5_1_1 : w5.cell? ⟨W.heap.size + 1, 1, none⟩ = some (.int .i64 by') := cell_gr hw5 (by go_simp)
    have zw5_1 : W.heap.size + 1 < w5.heap.size := World.block_lt_of_cell? _ _ cw5_1_0
    have cw5_2_0 : w5.cell? ⟨W.heap.size + 1 + 1, 0, none⟩ = some (.int .i64 lx) := cell_gr hw5 (by go_simp)
    have cw5_2_1 : w5.cell? ⟨W.heap.size + 1 + 1, 1, none⟩ = some (.int .i64 ly) := cell_gr hw5 (by go_simp)
    have cw5_2_2 : w5.cell? ⟨W.heap.size + 1 + 1, 2, none⟩ = some (.int .i64 hx) := cell_gr hw5 (by go_simp)
    have cw5_2_3 : w5.cell? ⟨W.heap.size + 1 + 1, 3, none⟩ = some (.int .i64 hy) := cell_gr hw5 (by go_simp)
    have zw5_2 : W.heap.size + 1 + 1 < w5.heap.size := World.block_lt_of_cell? _ _ cw5_2_0
    have gw5 : Gr W w5 := Gr.trans (by have gg := gw4; have gs := gg.size; go_grown) hw5
    clear hw5 gw4 zw4_0 cw4_0_0 cw4_0_1 zw4_1 cw4_1_0 cw4_1_1 zw4_2 cw4_2_0 cw4_2_1 cw4_2_2 cw4_2_3
    go_wp2_with fail
    go_at_call 71
    refine (HC.out _).mono ?_
    rintro e x0 ⟨G, rfl, j0, j1, j2, j3, j4, j5, j6, j7, hx0⟩
    have gx0 : Gr W x0 := Gr.trans (by have gg := gw5; have gs := gg.size; go_grown) hx0
    have y0 : x0.cell? ⟨W.heap.size, 0, none⟩ = some (.int .i64 ax) := cell_gr hx0 (by go_simp)
    have y1 : x0.cell? ⟨W.heap.size, 1, none⟩ = some (.int .i64 ay) := cell_gr hx0 (by go_simp)
    have y2 : x0.cell? ⟨W.heap.size + 1, 0, none⟩ = some (.int .i64 bx) := cell_gr hx0 (by go_simp)
    have y3 : x0.cell? ⟨W.heap.size + 1, 1, none⟩ = some (.int .i64 by') := cell_gr hx0 (by go_simp)
    have y4 : x0.cell? ⟨W.heap.size + 1 + 1, 0, none⟩ = some (.int .i64 lx) := cell_gr hx0 (by go_simp)
    have y5 : x0.cell? ⟨W.heap.size + 1 + 1, 1, none⟩ = some (.int .i64 ly) := cell_gr hx0 (by go_simp)
    have y6 : x0.cell? ⟨W.heap.size + 1 + 1, 2, none⟩ = some (.int .i64 hx) := cell_gr hx0 (by go_simp)
    have y7 : x0.cell? ⟨W.heap.size + 1 + 1, 3, none⟩ = some (.int .i64 hy) := cell_gr hx0 (by go_simp)
    have u0 := World.block_lt_of_cell? _ _ y0
    have u1 := World.block_lt_of_cell? _ _ y2
    have u2 := World.block_lt_of_cell? _ _ y4
    have u3 := World.block_lt_of_cell? _ _ j0
    clear hx0 gw5 zw5_0 cw5_0_0 cw5_0_1 zw5_1 cw5_1_0 cw5_1_1 zw5_2 cw5_2_0 cw5_2_1 cw5_2_2 cw5_2_3
    go_wp2_with fail
    refine wp_loop_rounds 5 ?_
    rw [rounds_succ]
    go_wp2_with fail
    go_wp2_with fail
    refine wp_region_spread (by kernel_rfl) (by kernel_rfl) ?_
    try simp only [List.append]
    repeat (first | go_big_quiet_skip | (go_big_quiet_want; go_big_quiet_op; (first | go_big_quiet_on | (apply Exists.intro; refine ⟨fun _ => ?_, ?_⟩; (· (first | (go_at_call 25; first | ((with_reducible refine ((H6.out _)).mono ?_); rintro e w' ⟨rfl, hg⟩; exact ⟨rfl, spread_gr hg⟩)))); go_big_quiet_on))))
    refine wpQuiet_nil ?_
    intro v1 hhv1
    have hv1 := Hd.gr_of_spread hhv1
    have cv1_0_0 : v1.cell? ⟨W.heap.size, 0, none⟩ = some (.int .i64 ax) := cell_gr hv1 (by go_simp)
    have cv1_0_1 : v1.cell? ⟨W.heap.size, 1, none⟩ = some (.int .i64 ay) := cell_gr hv1 (by go_simp)
    have zv1_0 : W.heap.size < v1.heap.size := World.block_lt_of_cell? _ _ cv1_0_0
    have cv1_1_0 : v1.cell? ⟨W.heap.size + 1, 0, none⟩ = some (.int .i64 bx) := cell_gr hv1 (by go_simp)
    have cv1_1_1 : v1.cell? ⟨W.heap.size + 1, 1, none⟩ = some (.int .i64 by') := cell_gr hv1 (by go_simp)
    have zv1_1 : W.heap.size + 1 < v1.heap.size := World.block_lt_of_cell? _ _ cv1_1_0
    have cv1_2_0 : v1.cell? ⟨W.heap.size + 1 + 1, 0, none⟩ = some (.int .i64 lx) := cell_gr hv1 (by go_simp)
    have cv1_2_1 : v1.cell? ⟨W.heap.size + 1 + 1, 1, none⟩ = some (.int .i64 ly) := cell_gr hv1 (by go_simp)
    have cv1_2_2 : v1.cell? ⟨W.heap.size + 1 + 1, 2, none⟩ = some (.int .i64 hx) := cell_gr hv1 (by go_simp)
    have cv1_2_3 : v1.cell? ⟨W.heap.size + 1 + 1, 3, none⟩ = some (.int .i64 hy) := cell_gr hv1 (by go_simp)
    have zv1_2 : W.heap.size + 1 + 1 < v1.heap.size := World.block_lt_of_cell? _ _ cv1_2_0
    have cv1_3_0 : v1.cell? ⟨G, 0, none⟩ = some (.int .i64 lx) := cell_gr hv1 (by go_simp)
    have cv1_3_1 : v1.cell? ⟨G, 1, none⟩ = some (.int .i64 ly) := cell_gr hv1 (by go_simp)
    have cv1_3_2 : v1.cell? ⟨G, 2, none⟩ = some (.int .i64 hx) := cell_gr hv1 (by go_simp)
    have cv1_3_3 : v1.cell? ⟨G, 3, none⟩ = some (.int .i64 ly) := cell_gr hv1 (by go_simp)
    have cv1_3_4 : v1.cell? ⟨G, 4, none⟩ = some (.int .i64 hx) := cell_gr hv1 (by go_simp)
    have cv1_3_5 : v1.cell? ⟨G, 5, none⟩ = some (.int .i64 hy) := cell_gr hv1 (by go_simp)
    have cv1_3_6 : v1.cell? ⟨G, 6, none⟩ = some (.int .i64 lx) := cell_gr hv1 (by go_simp)
    have cv1_3_7 : v1.cell? ⟨G, 7, none⟩ = some (.int .i64 hy) := cell_gr hv1 (by go_simp)
    have zv1_3 : G < v1.heap.size := World.block_lt_of_cell? _ _ cv1_3_0
    have gv1 : Gr W v1 := Gr.trans (by have gg := gx0; have gs := gg.size; go_grown) hv1
    clear hv1 hhv1 gx0
    go_wp2_with fail
    rw [rounds_succ]
    go_wp2_with fail
    go_wp2_with fail
    refine wp_region_spread (by kernel_rfl) (by kernel_rfl) ?_
    try simp only [List.append]
    repeat (first | go_big_quiet_skip | (go_big_quiet_want; go_big_quiet_op; (first | go_big_quiet_on | (apply Exists.intro; refine ⟨fun _ => ?_, ?_⟩; (· (first | (go_at_call 25; first | ((with_reducible refine ((H7.out _)).mono ?_); rintro e w' ⟨rfl, hg⟩; exact ⟨rfl, spread_gr hg⟩)))); go_big_quiet_on))))
    refine wpQuiet_nil ?_
    intro v2 hhv2
    have hv2 := Hd.gr_of_spread hhv2
    have cv2_0_0 : v2.cell? ⟨W.heap.size, 0, none⟩ = some (.int .i64 ax) := cell_gr hv2 (by go_simp)
    have cv2_0_1 : v2.cell? ⟨W.heap.size, 1, none⟩ = some (.int .i64 ay) := cell_gr hv2 (by go_simp)
    have zv2_0 : W.heap.size < v2.heap.size := World.block_lt_of_cell? _ _ cv2_0_0
    have cv2_1_0 : v2.cell? ⟨W.heap.size + 1, 0, none⟩ = some (.int .i64 bx) := cell_gr hv2 (by go_simp)
    have cv2_1_1 : v2.cell? ⟨W.heap.size + 1, 1, none⟩ = some (.int .i64 by') := cell_gr hv2 (by go_simp)
    have zv2_1 : W.heap.size + 1 < v2.heap.size := World.block_lt_of_cell? _ _ cv2_1_0
    have cv2_2_0 : v2.cell? ⟨W.heap.size + 1 + 1, 0, none⟩ = some (.int .i64 lx) := cell_gr hv2 (by go_simp)
    have cv2_2_1 : v2.cell? ⟨W.heap.size + 1 + 1, 1, none⟩ = some (.int .i64 ly) := cell_gr hv2 (by go_simp)
    have cv2_2_2 : v2.cell? ⟨W.heap.size + 1 + 1, 2, none⟩ = some (.int .i64 hx) := cell_gr hv2 (by go_simp)
    have cv2_2_3 : v2.cell? ⟨W.heap.size + 1 + 1, 3, none⟩ = some (.int .i64 hy) := cell_gr hv2 (by go_simp)
    have zv2_2 : W.heap.size + 1 + 1 < v2.heap.size := World.block_lt_of_cell? _ _ cv2_2_0
    have cv2_3_0 : v2.cell? ⟨G, 0, none⟩ = some (.int .i64 lx) := cell_gr hv2 (by go_simp)
    have cv2_3_1 : v2.cell? ⟨G, 1, none⟩ = some (.int .i64 ly) := cell_gr hv2 (by go_simp)
    have cv2_3_2 : v2.cell? ⟨G, 2, none⟩ = some (.int .i64 hx) := cell_gr hv2 (by go_simp)
    have cv2_3_3 : v2.cell? ⟨G, 3, none⟩ = some (.int .i64 ly) := cell_gr hv2 (by go_simp)
    have cv2_3_4 : v2.cell? ⟨G, 4, none⟩ = some (.int .i64 hx) := cell_gr hv2 (by go_simp)
    have cv2_3_5 : v2.cell? ⟨G, 5, none⟩ = some (.int .i64 hy) := cell_gr hv2 (by go_simp)
    have cv2_3_6 : v2.cell? ⟨G, 6, none⟩ = some (.int .i64 lx) := cell_gr hv2 (by go_simp)
    have cv2_3_7 : v2.cell? ⟨G, 7, none⟩ = some (.int .i64 hy) := cell_gr hv2 (by go_simp)
    have zv2_3 : G < v2.heap.size := World.block_lt_of_cell? _ _ cv2_3_0
    have gv2 : Gr W v2 := Gr.trans (by have gg := gv1; have gs := gg.size; go_grown) hv2
    clear hv2 hhv2 gv1 zv1_0 cv1_0_0 cv1_0_1 zv1_1 cv1_1_0 cv1_1_1 zv1_2 cv1_2_0 cv1_2_1 cv1_2_2 cv1_2_3 zv1_3 cv1_3_0 cv1_3_1 cv1_3_2 cv1_3_3 cv1_3_4 cv1_3_5 cv1_3_6 cv1_3_7
    go_wp2_with fail
    rw [rounds_succ]
    go_wp2_with fail
    go_wp2_with fail
    refine wp_region_spread (by kernel_rfl) (by kernel_rfl) ?_
    try simp only [List.append]
    repeat (first | go_big_quiet_skip | (go_big_quiet_want; go_big_quiet_op; (first | go_big_quiet_on | (apply Exists.intro; refine ⟨fun _ => ?_, ?_⟩; (· (first | (go_at_call 25; first | ((with_reducible refine ((H8.out _)).mono ?_); rintro e w' ⟨rfl, hg⟩; exact ⟨rfl, spread_gr hg⟩)))); go_big_quiet_on))))
    refine wpQuiet_nil ?_
    intro v3 hhv3
    have hv3 := Hd.gr_of_spread hhv3
    have cv3_0_0 : v3.cell? ⟨W.heap.size, 0, none⟩ = some (.int .i64 ax) := cell_gr hv3 (by go_simp)
    have cv3_0_1 : v3.cell? ⟨W.heap.size, 1, none⟩ = some (.int .i64 ay) := cell_gr hv3 (by go_simp)
    have zv3_0 : W.heap.size < v3.heap.size := World.block_lt_of_cell? _ _ cv3_0_0
    have cv3_1_0 : v3.cell? ⟨W.heap.size + 1, 0, none⟩ = some (.int .i64 bx) := cell_gr hv3 (by go_simp)
    have cv3_1_1 : v3.cell? ⟨W.heap.size + 1, 1, none⟩ = some (.int .i64 by') := cell_gr hv3 (by go_simp)
    have zv3_1 : W.heap.size + 1 < v3.heap.size := World.block_lt_of_cell? _ _ cv3_1_0
    have cv3_2_0 : v3.cell? ⟨W.heap.size + 1 + 1, 0, none⟩ = some (.int .i64 lx) := cell_gr hv3 (by go_simp)
    have cv3_2_1 : v3.cell? ⟨W.heap.size + 1 + 1, 1, none⟩ = some (.int .i64 ly) := cell_gr hv3 (by go_simp)
    have cv3_2_2 : v3.cell? ⟨W.heap.size + 1 + 1, 2, none⟩ = some (.int .i64 hx) := cell_gr hv3 (by go_simp)
    have cv3_2_3 : v3.cell? ⟨W.heap.size + 1 + 1, 3, none⟩ = some (.int .i64 hy) := cell_gr hv3 (by go_simp)
    have zv3_2 : W.heap.size + 1 + 1 < v3.heap.size := World.block_lt_of_cell? _ _ cv3_2_0
    have cv3_3_0 : v3.cell? ⟨G, 0, none⟩ = some (.int .i64 lx) := cell_gr hv3 (by go_simp)
    have cv3_3_1 : v3.cell? ⟨G, 1, none⟩ = some (.int .i64 ly) := cell_gr hv3 (by go_simp)
    have cv3_3_2 : v3.cell? ⟨G, 2, none⟩ = some (.int .i64 hx) := cell_gr hv3 (by go_simp)
    have cv3_3_3 : v3.cell? ⟨G, 3, none⟩ = some (.int .i64 ly) := cell_gr hv3 (by go_simp)
    have cv3_3_4 : v3.cell? ⟨G, 4, none⟩ = some (.int .i64 hx) := cell_gr hv3 (by go_simp)
    have cv3_3_5 : v3.cell? ⟨G, 5, none⟩ = some (.int .i64 hy) := cell_gr hv3 (by go_simp)
    have cv3_3_6 : v3.cell? ⟨G, 6, none⟩ = some (.int .i64 lx) := cell_gr hv3 (by go_simp)
    have cv3_3_7 : v3.cell? ⟨G, 7, none⟩ = some (.int .i64 hy) := cell_gr hv3 (by go_simp)
    have zv3_3 : G < v3.heap.size := World.block_lt_of_cell? _ _ cv3_3_0
    have gv3 : Gr W v3 := Gr.trans (by have gg := gv2; have gs := gg.size; go_grown) hv3
    clear hv3 hhv3 gv2 zv2_0 cv2_0_0 cv2_0_1 zv2_1 cv2_1_0 cv2_1_1 zv2_2 cv2_2_0 cv2_2_1 cv2_2_2 cv2_2_3 zv2_3 cv2_3_0 cv2_3_1 cv2_3_2 cv2_3_3 cv2_3_4 cv2_3_5 cv2_3_6 cv2_3_7
    go_wp2_with fail
    go_ret
    exact ⟨rfl, gv3⟩
  · go_enter Try.func29, Try.ntmps29
    go_wp2_with fail
    go_at_call 14
    refine ((H1.out _)).mono ?_
    rintro e w1 ⟨rfl, hw1⟩
    have cw1_0_0 : w1.cell? ⟨W.heap.size, 0, none⟩ = some (.int .i64 ax) := cell_gr hw1 (by go_simp)
    have cw1_0_1 : w1.cell? ⟨W.heap.size, 1, none⟩ = some (.int .i64 ay) := cell_gr hw1 (by go_simp)
    have zw1_0 : W.heap.size < w1.heap.size := World.block_lt_of_cell? _ _ cw1_0_0
    have cw1_1_0 : w1.cell? ⟨W.heap.size + 1, 0, none⟩ = some (.int .i64 bx) := cell_gr hw1 (by go_simp)
    have cw1_1_1 : w1.cell? ⟨W.heap.size + 1, 1, none⟩ = some (.int .i64 by') := cell_gr hw1 (by go_simp)
    have zw1_1 : W.heap.size + 1 < w1.heap.size := World.block_lt_of_cell? _ _ cw1_1_0
    have cw1_2_0 : w1.cell? ⟨W.heap.size + 1 + 1, 0, none⟩ = some (.int .i64 lx) := cell_gr hw1 (by go_simp)
    have cw1_2_1 : w1.cell? ⟨W.heap.size + 1 + 1, 1, none⟩ = some (.int .i64 ly) := cell_gr hw1 (by go_simp)
    have cw1_2_2 : w1.cell? ⟨W.heap.size + 1 + 1, 2, none⟩ = some (.int .i64 hx) := cell_gr hw1 (by go_simp)
    have cw1_2_3 : w1.cell? ⟨W.heap.size + 1 + 1, 3, none⟩ = some (.int .i64 hy) := cell_gr hw1 (by go_simp)
    have zw1_2 : W.heap.size + 1 + 1 < w1.heap.size := World.block_lt_of_cell? _ _ cw1_2_0
    have gw1 : Gr W w1 := Gr.trans (by go_grown) hw1
    clear hw1
    go_wp2_with fail
    go_at_call 14
    refine ((H2.out _)).mono ?_
    rintro e w2 ⟨rfl, hw2⟩
    have cw2_0_0 : w2.cell? ⟨W.heap.size, 0, none⟩ = some (.int .i64 ax) := cell_gr hw2 (by go_simp)
    have cw2_0_1 : w2.cell? ⟨W.heap.size, 1, none⟩ = some (.int .i64 ay) := cell_gr hw2 (by go_simp)
    have zw2_0 : W.heap.size < w2.heap.size := World.block_lt_of_cell? _ _ cw2_0_0
    have cw2_1_0 : w2.cell? ⟨W.heap.size + 1, 0, none⟩ = some (.int .i64 bx) := cell_gr hw2 (by go_simp)
    have cw2_1_1 : w2.cell? ⟨W.heap.size + 1, 1, none⟩ = some (.int .i64 by') := cell_gr hw2 (by go_simp)
    have zw2_1 : W.heap.size + 1 < w2.heap.size := World.block_lt_of_cell? _ _ cw2_1_0
    have cw2_2_0 : w2.cell? ⟨W.heap.size + 1 + 1, 0, none⟩ = some (.int .i64 lx) := cell_gr hw2 (by go_simp)
    have cw2_2_1 : w2.cell? ⟨W.heap.size + 1 + 1, 1, none⟩ = some (.int .i64 ly) := cell_gr hw2 (by go_simp)
    have cw2_2_2 : w2.cell? ⟨W.heap.size + 1 + 1, 2, none⟩ = some (.int .i64 hx) := cell_gr hw2 (by go_simp)
    have cw2_2_3 : w2.cell? ⟨W.heap.size + 1 + 1, 3, none⟩ = some (.int .i64 hy) := cell_gr hw2 (by go_simp)
    have zw2_2 : W.heap.size + 1 + 1 < w2.heap.size := World.block_lt_of_cell? _ _ cw2_2_0
    have gw2 : Gr W w2 := Gr.trans (by have gg := gw1; have gs := gg.size; go_grown) hw2
    clear hw2 gw1 zw1_0 cw1_0_0 cw1_0_1 zw1_1 cw1_1_0 cw1_1_1 zw1_2 cw1_2_0 cw1_2_1 cw1_2_2 cw1_2_3
    go_wp2_with fail
    go_at_call 34
    refine ((H3.out _)).mono ?_
    rintro e w3 ⟨rfl, hw3⟩
    have cw3_0_0 : w3.cell? ⟨W.heap.size, 0, none⟩ = some (.int .i64 ax) := cell_gr hw3 (by go_simp)
    have cw3_0_1 : w3.cell? ⟨W.heap.size, 1, none⟩ = some (.int .i64 ay) := cell_gr hw3 (by go_simp)
    have zw3_0 : W.heap.size < w3.heap.size := World.block_lt_of_cell? _ _ cw3_0_0
    have cw3_1_0 : w3.cell? ⟨W.heap.size + 1, 0, none⟩ = some (.int .i64 bx) := cell_gr hw3 (by go_simp)
    have cw3_1_1 : w3.cell? ⟨W.heap.size + 1, 1, none⟩ = some (.int .i64 by') := cell_gr hw3 (by go_simp)
    have zw3_1 : W.heap.size + 1 < w3.heap.size := World.block_lt_of_cell? _ _ cw3_1_0
    have cw3_2_0 : w3.cell? ⟨W.heap.size + 1 + 1, 0, none⟩ = some (.int .i64 lx) := cell_gr hw3 (by go_simp)
    have cw3_2_1 : w3.cell? ⟨W.heap.size + 1 + 1, 1, none⟩ = some (.int .i64 ly) := cell_gr hw3 (by go_simp)
    have cw3_2_2 : w3.cell? ⟨W.heap.size + 1 + 1, 2, none⟩ = some (.int .i64 hx) := cell_gr hw3 (by go_simp)
    have cw3_2_3 : w3.cell? ⟨W.heap.size + 1 + 1, 3, none⟩ = some (.int .i64 hy) := cell_gr hw3 (by go_simp)
    have zw3_2 : W.heap.size + 1 + 1 < w3.heap.size := World.block_lt_of_cell? _ _ cw3_2_0
    have gw3 : Gr W w3 := Gr.trans (by have gg := gw2; have gs := gg.size; go_grown) hw3
    clear hw3 gw2 zw2_0 cw2_0_0 cw2_0_1 zw2_1 cw2_1_0 cw2_1_1 zw2_2 cw2_2_0 cw2_2_1 cw2_2_2 cw2_2_3
    go_wp2_with fail
    go_at_call 35
    refine ((H4.out _)).mono ?_
    rintro e w4 ⟨rfl, hw4⟩
    have cw4_0_0 : w4.cell? ⟨W.heap.size, 0, none⟩ = some (.int .i64 ax) := cell_gr hw4 (by go_simp)
    have cw4_0_1 : w4.cell? ⟨W.heap.size, 1, none⟩ = some (.int .i64 ay) := cell_gr hw4 (by go_simp)
    have zw4_0 : W.heap.size < w4.heap.size := World.block_lt_of_cell? _ _ cw4_0_0
    have cw4_1_0 : w4.cell? ⟨W.heap.size + 1, 0, none⟩ = some (.int .i64 bx) := cell_gr hw4 (by go_simp)
    have cw4_1_1 : w4.cell? ⟨W.heap.size + 1, 1, none⟩ = some (.int .i64 by') := cell_gr hw4 (by go_simp)
    have zw4_1 : W.heap.size + 1 < w4.heap.size := World.block_lt_of_cell? _ _ cw4_1_0
    have cw4_2_0 : w4.cell? ⟨W.heap.size + 1 + 1, 0, none⟩ = some (.int .i64 lx) := cell_gr hw4 (by go_simp)
    have cw4_2_1 : w4.cell? ⟨W.heap.size + 1 + 1, 1, none⟩ = some (.int .i64 ly) := cell_gr hw4 (by go_simp)
    have cw4_2_2 : w4.cell? ⟨W.heap.size + 1 + 1, 2, none⟩ = some (.int .i64 hx) := cell_gr hw4 (by go_simp)
    have cw4_2_3 : w4.cell? ⟨W.heap.size + 1 + 1, 3, none⟩ = some (.int .i64 hy) := cell_gr hw4 (by go_simp)
    have zw4_2 : W.heap.size + 1 + 1 < w4.heap.size := World.block_lt_of_cell? _ _ cw4_2_0
    have gw4 : Gr W w4 := Gr.trans (by have gg := gw3; have gs := gg.size; go_grown) hw4
    clear hw4 gw3 zw3_0 cw3_0_0 cw3_0_1 zw3_1 cw3_1_0 cw3_1_1 zw3_2 cw3_2_0 cw3_2_1 cw3_2_2 cw3_2_3
    go_wp2_with fail
    go_at_call 35
    refine ((H5.out _)).mono ?_
    rintro e w5 ⟨rfl, hw5⟩
    have cw5_0_0 : w5.cell? ⟨W.heap.size, 0, none⟩ = some (.int .i64 ax) := cell_gr hw5 (by go_simp)
    have cw5_0_1 : w5.cell? ⟨W.heap.size, 1, none⟩ = some (.int .i64 ay) := cell_gr hw5 (by go_simp)
    have zw5_0 : W.heap.size < w5.heap.size := World.block_lt_of_cell? _ _ cw5_0_0
    have cw5_1_0 : w5.cell? ⟨W.heap.size + 1, 0, none⟩ = some (.int .i64 bx) := cell_gr hw5 (by go_simp)
    have cw5_1_1 : w5.cell? ⟨W.heap.size + 1, 1, none⟩ = some (.int .i64 by') := cell_gr hw5 (by go_simp)
    have zw5_1 : W.heap.size + 1 < w5.heap.size := World.block_lt_of_cell? _ _ cw5_1_0
    have cw5_2_0 : w5.cell? ⟨W.heap.size + 1 + 1, 0, none⟩ = some (.int .i64 lx) := cell_gr hw5 (by go_simp)
    have cw5_2_1 : w5.cell? ⟨W.heap.size + 1 + 1, 1, none⟩ = some (.int .i64 ly) := cell_gr hw5 (by go_simp)
    have cw5_2_2 : w5.cell? ⟨W.heap.size + 1 + 1, 2, none⟩ = some (.int .i64 hx) := cell_gr hw5 (by go_simp)
    have cw5_2_3 : w5.cell? ⟨W.heap.size + 1 + 1, 3, none⟩ = some (.int .i64 hy) := cell_gr hw5 (by go_simp)
    have zw5_2 : W.heap.size + 1 + 1 < w5.heap.size := World.block_lt_of_cell? _ _ cw5_2_0
    have gw5 : Gr W w5 := Gr.trans (by have gg := gw4; have gs := gg.size; go_grown) hw5
    clear hw5 gw4 zw4_0 cw4_0_0 cw4_0_1 zw4_1 cw4_1_0 cw4_1_1 zw4_2 cw4_2_0 cw4_2_1 cw4_2_2 cw4_2_3
    go_wp2_with fail
    go_at_call 71
    refine (HC.out _).mono ?_
    rintro e x0 ⟨G, rfl, j0, j1, j2, j3, j4, j5, j6, j7, hx0⟩
    have gx0 : Gr W x0 := Gr.trans (by have gg := gw5; have gs := gg.size; go_grown) hx0
    have y0 : x0.cell? ⟨W.heap.size, 0, none⟩ = some (.int .i64 ax) := cell_gr hx0 (by go_simp)
    have y1 : x0.cell? ⟨W.heap.size, 1, none⟩ = some (.int .i64 ay) := cell_gr hx0 (by go_simp)
    have y2 : x0.cell? ⟨W.heap.size + 1, 0, none⟩ = some (.int .i64 bx) := cell_gr hx0 (by go_simp)
    have y3 : x0.cell? ⟨W.heap.size + 1, 1, none⟩ = some (.int .i64 by') := cell_gr hx0 (by go_simp)
    have y4 : x0.cell? ⟨W.heap.size + 1 + 1, 0, none⟩ = some (.int .i64 lx) := cell_gr hx0 (by go_simp)
    have y5 : x0.cell? ⟨W.heap.size + 1 + 1, 1, none⟩ = some (.int .i64 ly) := cell_gr hx0 (by go_simp)
    have y6 : x0.cell? ⟨W.heap.size + 1 + 1, 2, none⟩ = some (.int .i64 hx) := cell_gr hx0 (by go_simp)
    have y7 : x0.cell? ⟨W.heap.size + 1 + 1, 3, none⟩ = some (.int .i64 hy) := cell_gr hx0 (by go_simp)
    have u0 := World.block_lt_of_cell? _ _ y0
    have u1 := World.block_lt_of_cell? _ _ y2
    have u2 := World.block_lt_of_cell? _ _ y4
    have u3 := World.block_lt_of_cell? _ _ j0
    clear hx0 gw5 zw5_0 cw5_0_0 cw5_0_1 zw5_1 cw5_1_0 cw5_1_1 zw5_2 cw5_2_0 cw5_2_1 cw5_2_2 cw5_2_3
    go_wp2_with fail
    refine wp_loop_rounds 5 ?_
    rw [rounds_succ]
    go_wp2_with fail
    go_wp2_with fail
    refine wp_region_spread (by kernel_rfl) (by kernel_rfl) ?_
    try simp only [List.append]
    repeat (first | go_big_quiet_skip | (go_big_quiet_want; go_big_quiet_op; (first | go_big_quiet_on | (apply Exists.intro; refine ⟨fun _ => ?_, ?_⟩; (· (first | (go_at_call 25; first | ((with_reducible refine ((H6.out _)).mono ?_); rintro e w' ⟨rfl, hg⟩; exact ⟨rfl, spread_gr hg⟩)))); go_big_quiet_on))))
    refine wpQuiet_nil ?_
    intro v1 hhv1
    have hv1 := Hd.gr_of_spread hhv1
    have cv1_0_0 : v1.cell? ⟨W.heap.size, 0, none⟩ = some (.int .i64 ax) := cell_gr hv1 (by go_simp)
    have cv1_0_1 : v1.cell? ⟨W.heap.size, 1, none⟩ = some (.int .i64 ay) := cell_gr hv1 (by go_simp)
    have zv1_0 : W.heap.size < v1.heap.size := World.block_lt_of_cell? _ _ cv1_0_0
    have cv1_1_0 : v1.cell? ⟨W.heap.size + 1, 0, none⟩ = some (.int .i64 bx) := cell_gr hv1 (by go_simp)
    have cv1_1_1 : v1.cell? ⟨W.heap.size + 1, 1, none⟩ = some (.int .i64 by') := cell_gr hv1 (by go_simp)
    have zv1_1 : W.heap.size + 1 < v1.heap.size := World.block_lt_of_cell? _ _ cv1_1_0
    have cv1_2_0 : v1.cell? ⟨W.heap.size + 1 + 1, 0, none⟩ = some (.int .i64 lx) := cell_gr hv1 (by go_simp)
    have cv1_2_1 : v1.cell? ⟨W.heap.size + 1 + 1, 1, none⟩ = some (.int .i64 ly) := cell_gr hv1 (by go_simp)
    have cv1_2_2 : v1.cell? ⟨W.heap.size + 1 + 1, 2, none⟩ = some (.int .i64 hx) := cell_gr hv1 (by go_simp)
    have cv1_2_3 : v1.cell? ⟨W.heap.size + 1 + 1, 3, none⟩ = some (.int .i64 hy) := cell_gr hv1 (by go_simp)
    have zv1_2 : W.heap.size + 1 + 1 < v1.heap.size := World.block_lt_of_cell? _ _ cv1_2_0
    have cv1_3_0 : v1.cell? ⟨G, 0, none⟩ = some (.int .i64 lx) := cell_gr hv1 (by go_simp)
    have cv1_3_1 : v1.cell? ⟨G, 1, none⟩ = some (.int .i64 ly) := cell_gr hv1 (by go_simp)
    have cv1_3_2 : v1.cell? ⟨G, 2, none⟩ = some (.int .i64 hx) := cell_gr hv1 (by go_simp)
    have cv1_3_3 : v1.cell? ⟨G, 3, none⟩ = some (.int .i64 ly) := cell_gr hv1 (by go_simp)
    have cv1_3_4 : v1.cell? ⟨G, 4, none⟩ = some (.int .i64 hx) := cell_gr hv1 (by go_simp)
    have cv1_3_5 : v1.cell? ⟨G, 5, none⟩ = some (.int .i64 hy) := cell_gr hv1 (by go_simp)
    have cv1_3_6 : v1.cell? ⟨G, 6, none⟩ = some (.int .i64 lx) := cell_gr hv1 (by go_simp)
    have cv1_3_7 : v1.cell? ⟨G, 7, none⟩ = some (.int .i64 hy) := cell_gr hv1 (by go_simp)
    have zv1_3 : G < v1.heap.size := World.block_lt_of_cell? _ _ cv1_3_0
    have gv1 : Gr W v1 := Gr.trans (by have gg := gx0; have gs := gg.size; go_grown) hv1
    clear hv1 hhv1 gx0
    go_wp2_with fail
    rw [rounds_succ]
    go_wp2_with fail
    go_wp2_with fail
    refine wp_region_spread (by kernel_rfl) (by kernel_rfl) ?_
    try simp only [List.append]
    repeat (first | go_big_quiet_skip | (go_big_quiet_want; go_big_quiet_op; (first | go_big_quiet_on | (apply Exists.intro; refine ⟨fun _ => ?_, ?_⟩; (· (first | (go_at_call 25; first | ((with_reducible refine ((H7.out _)).mono ?_); rintro e w' ⟨rfl, hg⟩; exact ⟨rfl, spread_gr hg⟩)))); go_big_quiet_on))))
    refine wpQuiet_nil ?_
    intro v2 hhv2
    have hv2 := Hd.gr_of_spread hhv2
    have cv2_0_0 : v2.cell? ⟨W.heap.size, 0, none⟩ = some (.int .i64 ax) := cell_gr hv2 (by go_simp)
    have cv2_0_1 : v2.cell? ⟨W.heap.size, 1, none⟩ = some (.int .i64 ay) := cell_gr hv2 (by go_simp)
    have zv2_0 : W.heap.size < v2.heap.size := World.block_lt_of_cell? _ _ cv2_0_0
    have cv2_1_0 : v2.cell? ⟨W.heap.size + 1, 0, none⟩ = some (.int .i64 bx) := cell_gr hv2 (by go_simp)
    have cv2_1_1 : v2.cell? ⟨W.heap.size + 1, 1, none⟩ = some (.int .i64 by') := cell_gr hv2 (by go_simp)
    have zv2_1 : W.heap.size + 1 < v2.heap.size := World.block_lt_of_cell? _ _ cv2_1_0
    have cv2_2_0 : v2.cell? ⟨W.heap.size + 1 + 1, 0, none⟩ = some (.int .i64 lx) := cell_gr hv2 (by go_simp)
    have cv2_2_1 : v2.cell? ⟨W.heap.size + 1 + 1, 1, none⟩ = some (.int .i64 ly) := cell_gr hv2 (by go_simp)
    have cv2_2_2 : v2.cell? ⟨W.heap.size + 1 + 1, 2, none⟩ = some (.int .i64 hx) := cell_gr hv2 (by go_simp)
    have cv2_2_3 : v2.cell? ⟨W.heap.size + 1 + 1, 3, none⟩ = some (.int .i64 hy) := cell_gr hv2 (by go_simp)
    have zv2_2 : W.heap.size + 1 + 1 < v2.heap.size := World.block_lt_of_cell? _ _ cv2_2_0
    have cv2_3_0 : v2.cell? ⟨G, 0, none⟩ = some (.int .i64 lx) := cell_gr hv2 (by go_simp)
    have cv2_3_1 : v2.cell? ⟨G, 1, none⟩ = some (.int .i64 ly) := cell_gr hv2 (by go_simp)
    have cv2_3_2 : v2.cell? ⟨G, 2, none⟩ = some (.int .i64 hx) := cell_gr hv2 (by go_simp)
    have cv2_3_3 : v2.cell? ⟨G, 3, none⟩ = some (.int .i64 ly) := cell_gr hv2 (by go_simp)
    have cv2_3_4 : v2.cell? ⟨G, 4, none⟩ = some (.int .i64 hx) := cell_gr hv2 (by go_simp)
    have cv2_3_5 : v2.cell? ⟨G, 5, none⟩ = some (.int .i64 hy) := cell_gr hv2 (by go_simp)
    have cv2_3_6 : v2.cell? ⟨G, 6, none⟩ = some (.int .i64 lx) := cell_gr hv2 (by go_simp)
    have cv2_3_7 : v2.cell? ⟨G, 7, none⟩ = some (.int .i64 hy) := cell_gr hv2 (by go_simp)
    have zv2_3 : G < v2.heap.size := World.block_lt_of_cell? _ _ cv2_3_0
    have gv2 : Gr W v2 := Gr.trans (by have gg := gv1; have gs := gg.size; go_grown) hv2
    clear hv2 hhv2 gv1 zv1_0 cv1_0_0 cv1_0_1 zv1_1 cv1_1_0 cv1_1_1 zv1_2 cv1_2_0 cv1_2_1 cv1_2_2 cv1_2_3 zv1_3 cv1_3_0 cv1_3_1 cv1_3_2 cv1_3_3 cv1_3_4 cv1_3_5 cv1_3_6 cv1_3_7
    go_wp2_with fail
    rw [rounds_succ]
    go_wp2_with fail
    go_wp2_with fail
    refine wp_region_spread (by kernel_rfl) (by kernel_rfl) ?_
    try simp only [List.append]
    repeat (first | go_big_quiet_skip | (go_big_quiet_want; go_big_quiet_op; (first | go_big_quiet_on | (apply Exists.intro; refine ⟨fun _ => ?_, ?_⟩; (· (first | (go_at_call 25; first | ((with_reducible refine ((H8.out _)).mono ?_); rintro e w' ⟨rfl, hg⟩; exact ⟨rfl, spread_gr hg⟩)))); go_big_quiet_on))))
    refine wpQuiet_nil ?_
    intro v3 hhv3
    have hv3 := Hd.gr_of_spread hhv3
    have cv3_0_0 : v3.cell? ⟨W.heap.size, 0, none⟩ = some (.int .i64 ax) := cell_gr hv3 (by go_simp)
    have cv3_0_1 : v3.cell? ⟨W.heap.size, 1, none⟩ = some (.int .i64 ay) := cell_gr hv3 (by go_simp)
    have zv3_0 : W.heap.size < v3.heap.size := World.block_lt_of_cell? _ _ cv3_0_0
    have cv3_1_0 : v3.cell? ⟨W.heap.size + 1, 0, none⟩ = some (.int .i64 bx) := cell_gr hv3 (by go_simp)
    have cv3_1_1 : v3.cell? ⟨W.heap.size + 1, 1, none⟩ = some (.int .i64 by') := cell_gr hv3 (by go_simp)
    have zv3_1 : W.heap.size + 1 < v3.heap.size := World.block_lt_of_cell? _ _ cv3_1_0
    have cv3_2_0 : v3.cell? ⟨W.heap.size + 1 + 1, 0, none⟩ = some (.int .i64 lx) := cell_gr hv3 (by go_simp)
    have cv3_2_1 : v3.cell? ⟨W.heap.size + 1 + 1, 1, none⟩ = some (.int .i64 ly) := cell_gr hv3 (by go_simp)
    have cv3_2_2 : v3.cell? ⟨W.heap.size + 1 + 1, 2, none⟩ = some (.int .i64 hx) := cell_gr hv3 (by go_simp)
    have cv3_2_3 : v3.cell? ⟨W.heap.size + 1 + 1, 3, none⟩ = some (.int .i64 hy) := cell_gr hv3 (by go_simp)
    have zv3_2 : W.heap.size + 1 + 1 < v3.heap.size := World.block_lt_of_cell? _ _ cv3_2_0
    have cv3_3_0 : v3.cell? ⟨G, 0, none⟩ = some (.int .i64 lx) := cell_gr hv3 (by go_simp)
    have cv3_3_1 : v3.cell? ⟨G, 1, none⟩ = some (.int .i64 ly) := cell_gr hv3 (by go_simp)
    have cv3_3_2 : v3.cell? ⟨G, 2, none⟩ = some (.int .i64 hx) := cell_gr hv3 (by go_simp)
    have cv3_3_3 : v3.cell? ⟨G, 3, none⟩ = some (.int .i64 ly) := cell_gr hv3 (by go_simp)
    have cv3_3_4 : v3.cell? ⟨G, 4, none⟩ = some (.int .i64 hx) := cell_gr hv3 (by go_simp)
    have cv3_3_5 : v3.cell? ⟨G, 5, none⟩ = some (.int .i64 hy) := cell_gr hv3 (by go_simp)
    have cv3_3_6 : v3.cell? ⟨G, 6, none⟩ = some (.int .i64 lx) := cell_gr hv3 (by go_simp)
    have cv3_3_7 : v3.cell? ⟨G, 7, none⟩ = some (.int .i64 hy) := cell_gr hv3 (by go_simp)
    have zv3_3 : G < v3.heap.size := World.block_lt_of_cell? _ _ cv3_3_0
    have gv3 : Gr W v3 := Gr.trans (by have gg := gv2; have gs := gg.size; go_grown) hv3
    clear hv3 hhv3 gv2 zv2_0 cv2_0_0 cv2_0_1 zv2_1 cv2_1_0 cv2_1_1 zv2_2 cv2_2_0 cv2_2_1 cv2_2_2 cv2_2_3 zv2_3 cv2_3_0 cv2_3_1 cv2_3_2 cv2_3_3 cv2_3_4 cv2_3_5 cv2_3_6 cv2_3_7
    go_wp2_with fail
    rw [rounds_succ]
    go_wp2_with fail
    go_wp2_with fail
    refine wp_region_spread (by kernel_rfl) (by kernel_rfl) ?_
    try simp only [List.append]
    repeat (first | go_big_quiet_skip | (go_big_quiet_want; go_big_quiet_op; (first | go_big_quiet_on | (apply Exists.intro; refine ⟨fun _ => ?_, ?_⟩; (· (first | (go_at_call 25; first | ((with_reducible refine ((H9.out _)).mono ?_); rintro e w' ⟨rfl, hg⟩; exact ⟨rfl, spread_gr hg⟩)))); go_big_quiet_on))))
    refine wpQuiet_nil ?_
    intro v4 hhv4
    have hv4 := Hd.gr_of_spread hhv4
    have cv4_0_0 : v4.cell? ⟨W.heap.size, 0, none⟩ = some (.int .i64 ax) := cell_gr hv4 (by go_simp)
    have cv4_0_1 : v4.cell? ⟨W.heap.size, 1, none⟩ = some (.int .i64 ay) := cell_gr hv4 (by go_simp)
    have zv4_0 : W.heap.size < v4.heap.size := World.block_lt_of_cell? _ _ cv4_0_0
    have cv4_1_0 : v4.cell? ⟨W.heap.size + 1, 0, none⟩ = some (.int .i64 bx) := cell_gr hv4 (by go_simp)
    have cv4_1_1 : v4.cell? ⟨W.heap.size + 1, 1, none⟩ = some (.int .i64 by') := cell_gr hv4 (by go_simp)
    have zv4_1 : W.heap.size + 1 < v4.heap.size := World.block_lt_of_cell? _ _ cv4_1_0
    have cv4_2_0 : v4.cell? ⟨W.heap.size + 1 + 1, 0, none⟩ = some (.int .i64 lx) := cell_gr hv4 (by go_simp)
    have cv4_2_1 : v4.cell? ⟨W.heap.size + 1 + 1, 1, none⟩ = some (.int .i64 ly) := cell_gr hv4 (by go_simp)
    have cv4_2_2 : v4.cell? ⟨W.heap.size + 1 + 1, 2, none⟩ = some (.int .i64 hx) := cell_gr hv4 (by go_simp)
    have cv4_2_3 : v4.cell? ⟨W.heap.size + 1 + 1, 3, none⟩ = some (.int .i64 hy) := cell_gr hv4 (by go_simp)
    have zv4_2 : W.heap.size + 1 + 1 < v4.heap.size := World.block_lt_of_cell? _ _ cv4_2_0
    have cv4_3_0 : v4.cell? ⟨G, 0, none⟩ = some (.int .i64 lx) := cell_gr hv4 (by go_simp)
    have cv4_3_1 : v4.cell? ⟨G, 1, none⟩ = some (.int .i64 ly) := cell_gr hv4 (by go_simp)
    have cv4_3_2 : v4.cell? ⟨G, 2, none⟩ = some (.int .i64 hx) := cell_gr hv4 (by go_simp)
    have cv4_3_3 : v4.cell? ⟨G, 3, none⟩ = some (.int .i64 ly) := cell_gr hv4 (by go_simp)
    have cv4_3_4 : v4.cell? ⟨G, 4, none⟩ = some (.int .i64 hx) := cell_gr hv4 (by go_simp)
    have cv4_3_5 : v4.cell? ⟨G, 5, none⟩ = some (.int .i64 hy) := cell_gr hv4 (by go_simp)
    have cv4_3_6 : v4.cell? ⟨G, 6, none⟩ = some (.int .i64 lx) := cell_gr hv4 (by go_simp)
    have cv4_3_7 : v4.cell? ⟨G, 7, none⟩ = some (.int .i64 hy) := cell_gr hv4 (by go_simp)
    have zv4_3 : G < v4.heap.size := World.block_lt_of_cell? _ _ cv4_3_0
    have gv4 : Gr W v4 := Gr.trans (by have gg := gv3; have gs := gg.size; go_grown) hv4
    clear hv4 hhv4 gv3 zv3_0 cv3_0_0 cv3_0_1 zv3_1 cv3_1_0 cv3_1_1 zv3_2 cv3_2_0 cv3_2_1 cv3_2_2 cv3_2_3 zv3_3 cv3_3_0 cv3_3_1 cv3_3_2 cv3_3_3 cv3_3_4 cv3_3_5 cv3_3_6 cv3_3_7
    go_wp2_with fail
    go_ret
    exact ⟨rfl, gv4⟩
  · go_enter Try.func29, Try.ntmps29
    go_wp2_with fail
    go_at_call 14
    refine ((H1.out _)).mono ?_
    rintro e w1 ⟨rfl, hw1⟩
    have cw1_0_0 : w1.cell? ⟨W.heap.size, 0, none⟩ = some (.int .i64 ax) := cell_gr hw1 (by go_simp)
    have cw1_0_1 : w1.cell? ⟨W.heap.size, 1, none⟩ = some (.int .i64 ay) := cell_gr hw1 (by go_simp)
    have zw1_0 : W.heap.size < w1.heap.size := World.block_lt_of_cell? _ _ cw1_0_0
    have cw1_1_0 : w1.cell? ⟨W.heap.size + 1, 0, none⟩ = some (.int .i64 bx) := cell_gr hw1 (by go_simp)
    have cw1_1_1 : w1.cell? ⟨W.heap.size + 1, 1, none⟩ = some (.int .i64 by') := cell_gr hw1 (by go_simp)
    have zw1_1 : W.heap.size + 1 < w1.heap.size := World.block_lt_of_cell? _ _ cw1_1_0
    have cw1_2_0 : w1.cell? ⟨W.heap.size + 1 + 1, 0, none⟩ = some (.int .i64 lx) := cell_gr hw1 (by go_simp)
    have cw1_2_1 : w1.cell? ⟨W.heap.size + 1 + 1, 1, none⟩ = some (.int .i64 ly) := cell_gr hw1 (by go_simp)
    have cw1_2_2 : w1.cell? ⟨W.heap.size + 1 + 1, 2, none⟩ = some (.int .i64 hx) := cell_gr hw1 (by go_simp)
    have cw1_2_3 : w1.cell? ⟨W.heap.size + 1 + 1, 3, none⟩ = some (.int .i64 hy) := cell_gr hw1 (by go_simp)
    have zw1_2 : W.heap.size + 1 + 1 < w1.heap.size := World.block_lt_of_cell? _ _ cw1_2_0
    have gw1 : Gr W w1 := Gr.trans (by go_grown) hw1
    clear hw1
    go_wp2_with fail
    go_at_call 14
    refine ((H2.out _)).mono ?_
    rintro e w2 ⟨rfl, hw2⟩
    have cw2_0_0 : w2.cell? ⟨W.heap.size, 0, none⟩ = some (.int .i64 ax) := cell_gr hw2 (by go_simp)
    have cw2_0_1 : w2.cell? ⟨W.heap.size, 1, none⟩ = some (.int .i64 ay) := cell_gr hw2 (by go_simp)
    have zw2_0 : W.heap.size < w2.heap.size := World.block_lt_of_cell? _ _ cw2_0_0
    have cw2_1_0 : w2.cell? ⟨W.heap.size + 1, 0, none⟩ = some (.int .i64 bx) := cell_gr hw2 (by go_simp)
    have cw2_1_1 : w2.cell? ⟨W.heap.size + 1, 1, none⟩ = some (.int .i64 by') := cell_gr hw2 (by go_simp)
    have zw2_1 : W.heap.size + 1 < w2.heap.size := World.block_lt_of_cell? _ _ cw2_1_0
    have cw2_2_0 : w2.cell? ⟨W.heap.size + 1 + 1, 0, none⟩ = some (.int .i64 lx) := cell_gr hw2 (by go_simp)
    have cw2_2_1 : w2.cell? ⟨W.heap.size + 1 + 1, 1, none⟩ = some (.int .i64 ly) := cell_gr hw2 (by go_simp)
    have cw2_2_2 : w2.cell? ⟨W.heap.size + 1 + 1, 2, none⟩ = some (.int .i64 hx) := cell_gr hw2 (by go_simp)
    have cw2_2_3 : w2.cell? ⟨W.heap.size + 1 + 1, 3, none⟩ = some (.int .i64 hy) := cell_gr hw2 (by go_simp)
    have zw2_2 : W.heap.size + 1 + 1 < w2.heap.size := World.block_lt_of_cell? _ _ cw2_2_0
    have gw2 : Gr W w2 := Gr.trans (by have gg := gw1; have gs := gg.size; go_grown) hw2
    clear hw2 gw1 zw1_0 cw1_0_0 cw1_0_1 zw1_1 cw1_1_0 cw1_1_1 zw1_2 cw1_2_0 cw1_2_1 cw1_2_2 cw1_2_3
    go_wp2_with fail
    go_at_call 34
    refine ((H3.out _)).mono ?_
    rintro e w3 ⟨rfl, hw3⟩
    have cw3_0_0 : w3.cell? ⟨W.heap.size, 0, none⟩ = some (.int .i64 ax) := cell_gr hw3 (by go_simp)
    have cw3_0_1 : w3.cell? ⟨W.heap.size, 1, none⟩ = some (.int .i64 ay) := cell_gr hw3 (by go_simp)
    have zw3_0 : W.heap.size < w3.heap.size := World.block_lt_of_cell? _ _ cw3_0_0
    have cw3_1_0 : w3.cell? ⟨W.heap.size + 1, 0, none⟩ = some (.int .i64 bx) := cell_gr hw3 (by go_simp)
    have cw3_1_1 : w3.cell? ⟨W.heap.size + 1, 1, none⟩ = some (.int .i64 by') := cell_gr hw3 (by go_simp)
    have zw3_1 : W.heap.size + 1 < w3.heap.size := World.block_lt_of_cell? _ _ cw3_1_0
    have cw3_2_0 : w3.cell? ⟨W.heap.size + 1 + 1, 0, none⟩ = some (.int .i64 lx) := cell_gr hw3 (by go_simp)
    have cw3_2_1 : w3.cell? ⟨W.heap.size + 1 + 1, 1, none⟩ = some (.int .i64 ly) := cell_gr hw3 (by go_simp)
    have cw3_2_2 : w3.cell? ⟨W.heap.size + 1 + 1, 2, none⟩ = some (.int .i64 hx) := cell_gr hw3 (by go_simp)
    have cw3_2_3 : w3.cell? ⟨W.heap.size + 1 + 1, 3, none⟩ = some (.int .i64 hy) := cell_gr hw3 (by go_simp)
    have zw3_2 : W.heap.size + 1 + 1 < w3.heap.size := World.block_lt_of_cell? _ _ cw3_2_0
    have gw3 : Gr W w3 := Gr.trans (by have gg := gw2; have gs := gg.size; go_grown) hw3
    clear hw3 gw2 zw2_0 cw2_0_0 cw2_0_1 zw2_1 cw2_1_0 cw2_1_1 zw2_2 cw2_2_0 cw2_2_1 cw2_2_2 cw2_2_3
    go_wp2_with fail
    go_at_call 35
    refine ((H4.out _)).mono ?_
    rintro e w4 ⟨rfl, hw4⟩
    have cw4_0_0 : w4.cell? ⟨W.heap.size, 0, none⟩ = some (.int .i64 ax) := cell_gr hw4 (by go_simp)
    have cw4_0_1 : w4.cell? ⟨W.heap.size, 1, none⟩ = some (.int .i64 ay) := cell_gr hw4 (by go_simp)
    have zw4_0 : W.heap.size < w4.heap.size := World.block_lt_of_cell? _ _ cw4_0_0
    have cw4_1_0 : w4.cell? ⟨W.heap.size + 1, 0, none⟩ = some (.int .i64 bx) := cell_gr hw4 (by go_simp)
    have cw4_1_1 : w4.cell? ⟨W.heap.size + 1, 1, none⟩ = some (.int .i64 by') := cell_gr hw4 (by go_simp)
    have zw4_1 : W.heap.size + 1 < w4.heap.size := World.block_lt_of_cell? _ _ cw4_1_0
    have cw4_2_0 : w4.cell? ⟨W.heap.size + 1 + 1, 0, none⟩ = some (.int .i64 lx) := cell_gr hw4 (by go_simp)
    have cw4_2_1 : w4.cell? ⟨W.heap.size + 1 + 1, 1, none⟩ = some (.int .i64 ly) := cell_gr hw4 (by go_simp)
    have cw4_2_2 : w4.cell? ⟨W.heap.size + 1 + 1, 2, none⟩ = some (.int .i64 hx) := cell_gr hw4 (by go_simp)
    have cw4_2_3 : w4.cell? ⟨W.heap.size + 1 + 1, 3, none⟩ = some (.int .i64 hy) := cell_gr hw4 (by go_simp)
    have zw4_2 : W.heap.size + 1 + 1 < w4.heap.size := World.block_lt_of_cell? _ _ cw4_2_0
    have gw4 : Gr W w4 := Gr.trans (by have gg := gw3; have gs := gg.size; go_grown) hw4
    clear hw4 gw3 zw3_0 cw3_0_0 cw3_0_1 zw3_1 cw3_1_0 cw3_1_1 zw3_2 cw3_2_0 cw3_2_1 cw3_2_2 cw3_2_3
    go_wp2_with fail
    go_at_call 35
    refine ((H5.out _)).mono ?_
    rintro e w5 ⟨rfl, hw5⟩
    have cw5_0_0 : w5.cell? ⟨W.heap.size, 0, none⟩ = some (.int .i64 ax) := cell_gr hw5 (by go_simp)
    have cw5_0_1 : w5.cell? ⟨W.heap.size, 1, none⟩ = some (.int .i64 ay) := cell_gr hw5 (by go_simp)
    have zw5_0 : W.heap.size < w5.heap.size := World.block_lt_of_cell? _ _ cw5_0_0
    have cw5_1_0 : w5.cell? ⟨W.heap.size + 1, 0, none⟩ = some (.int .i64 bx) := cell_gr hw5 (by go_simp)
    have cw5_1_1 : w5.cell? ⟨W.heap.size + 1, 1, none⟩ = some (.int .i64 by') := cell_gr hw5 (by go_simp)
    have zw5_1 : W.heap.size + 1 < w5.heap.size := World.block_lt_of_cell? _ _ cw5_1_0
    have cw5_2_0 : w5.cell? ⟨W.heap.size + 1 + 1, 0, none⟩ = some (.int .i64 lx) := cell_gr hw5 (by go_simp)
    have cw5_2_1 : w5.cell? ⟨W.heap.size + 1 + 1, 1, none⟩ = some (.int .i64 ly) := cell_gr hw5 (by go_simp)
    have cw5_2_2 : w5.cell? ⟨W.heap.size + 1 + 1, 2, none⟩ = some (.int .i64 hx) := cell_gr hw5 (by go_simp)
    have cw5_2_3 : w5.cell? ⟨W.heap.size + 1 + 1, 3, none⟩ = some (.int .i64 hy) := cell_gr hw5 (by go_simp)
    have zw5_2 : W.heap.size + 1 + 1 < w5.heap.size := World.block_lt_of_cell? _ _ cw5_2_0
    have gw5 : Gr W w5 := Gr.trans (by have gg := gw4; have gs := gg.size; go_grown) hw5
    clear hw5 gw4 zw4_0 cw4_0_0 cw4_0_1 zw4_1 cw4_1_0 cw4_1_1 zw4_2 cw4_2_0 cw4_2_1 cw4_2_2 cw4_2_3
    go_wp2_with fail
    go_at_call 71
    refine (HC.out _).mono ?_
    rintro e x0 ⟨G, rfl, j0, j1, j2, j3, j4, j5, j6, j7, hx0⟩
    have gx0 : Gr W x0 := Gr.trans (by have gg := gw5; have gs := gg.size; go_grown) hx0
    have y0 : x0.cell? ⟨W.heap.size, 0, none⟩ = some (.int .i64 ax) := cell_gr hx0 (by go_simp)
    have y1 : x0.cell? ⟨W.heap.size, 1, none⟩ = some (.int .i64 ay) := cell_gr hx0 (by go_simp)
    have y2 : x0.cell? ⟨W.heap.size + 1, 0, none⟩ = some (.int .i64 bx) := cell_gr hx0 (by go_simp)
    have y3 : x0.cell? ⟨W.heap.size + 1, 1, none⟩ = some (.int .i64 by') := cell_gr hx0 (by go_simp)
    have y4 : x0.cell? ⟨W.heap.size + 1 + 1, 0, none⟩ = some (.int .i64 lx) := cell_gr hx0 (by go_simp)
    have y5 : x0.cell? ⟨W.heap.size + 1 + 1, 1, none⟩ = some (.int .i64 ly) := cell_gr hx0 (by go_simp)
    have y6 : x0.cell? ⟨W.heap.size + 1 + 1, 2, none⟩ = some (.int .i64 hx) := cell_gr hx0 (by go_simp)
    have y7 : x0.cell? ⟨W.heap.size + 1 + 1, 3, none⟩ = some (.int .i64 hy) := cell_gr hx0 (by go_simp)
    have u0 := World.block_lt_of_cell? _ _ y0
    have u1 := World.block_lt_of_cell? _ _ y2
    have u2 := World.block_lt_of_cell? _ _ y4
    have u3 := World.block_lt_of_cell? _ _ j0
    clear hx0 gw5 zw5_0 cw5_0_0 cw5_0_1 zw5_1 cw5_1_0 cw5_1_1 zw5_2 cw5_2_0 cw5_2_1 cw5_2_2 cw5_2_3
    go_wp2_with fail
    refine wp_loop_rounds 5 ?_
    rw [rounds_succ]
    go_wp2_with fail
    go_wp2_with fail
    refine wp_region_spread (by kernel_rfl) (by kernel_rfl) ?_
    try simp only [List.append]
    repeat (first | go_big_quiet_skip | (go_big_quiet_want; go_big_quiet_op; (first | go_big_quiet_on | (apply Exists.intro; refine ⟨fun _ => ?_, ?_⟩; (· (first | (go_at_call 25; first | ((with_reducible refine ((H6.out _)).mono ?_); rintro e w' ⟨rfl, hg⟩; exact ⟨rfl, spread_gr hg⟩)))); go_big_quiet_on))))
    refine wpQuiet_nil ?_
    intro v1 hhv1
    have hv1 := Hd.gr_of_spread hhv1
    have cv1_0_0 : v1.cell? ⟨W.heap.size, 0, none⟩ = some (.int .i64 ax) := cell_gr hv1 (by go_simp)
    have cv1_0_1 : v1.cell? ⟨W.heap.size, 1, none⟩ = some (.int .i64 ay) := cell_gr hv1 (by go_simp)
    have zv1_0 : W.heap.size < v1.heap.size := World.block_lt_of_cell? _ _ cv1_0_0
    have cv1_1_0 : v1.cell? ⟨W.heap.size + 1, 0, none⟩ = some (.int .i64 bx) := cell_gr hv1 (by go_simp)
    have cv1_1_1 : v1.cell? ⟨W.heap.size + 1, 1, none⟩ = some (.int .i64 by') := cell_gr hv1 (by go_simp)
    have zv1_1 : W.heap.size + 1 < v1.heap.size := World.block_lt_of_cell? _ _ cv1_1_0
    have cv1_2_0 : v1.cell? ⟨W.heap.size + 1 + 1, 0, none⟩ = some (.int .i64 lx) := cell_gr hv1 (by go_simp)
    have cv1_2_1 : v1.cell? ⟨W.heap.size + 1 + 1, 1, none⟩ = some (.int .i64 ly) := cell_gr hv1 (by go_simp)
    have cv1_2_2 : v1.cell? ⟨W.heap.size + 1 + 1, 2, none⟩ = some (.int .i64 hx) := cell_gr hv1 (by go_simp)
    have cv1_2_3 : v1.cell? ⟨W.heap.size + 1 + 1, 3, none⟩ = some (.int .i64 hy) := cell_gr hv1 (by go_simp)
    have zv1_2 : W.heap.size + 1 + 1 < v1.heap.size := World.block_lt_of_cell? _ _ cv1_2_0
    have cv1_3_0 : v1.cell? ⟨G, 0, none⟩ = some (.int .i64 lx) := cell_gr hv1 (by go_simp)
    have cv1_3_1 : v1.cell? ⟨G, 1, none⟩ = some (.int .i64 ly) := cell_gr hv1 (by go_simp)
    have cv1_3_2 : v1.cell? ⟨G, 2, none⟩ = some (.int .i64 hx) := cell_gr hv1 (by go_simp)
    have cv1_3_3 : v1.cell? ⟨G, 3, none⟩ = some (.int .i64 ly) := cell_gr hv1 (by go_simp)
    have cv1_3_4 : v1.cell? ⟨G, 4, none⟩ = some (.int .i64 hx) := cell_gr hv1 (by go_simp)
    have cv1_3_5 : v1.cell? ⟨G, 5, none⟩ = some (.int .i64 hy) := cell_gr hv1 (by go_simp)
    have cv1_3_6 : v1.cell? ⟨G, 6, none⟩ = some (.int .i64 lx) := cell_gr hv1 (by go_simp)
    have cv1_3_7 : v1.cell? ⟨G, 7, none⟩ = some (.int .i64 hy) := cell_gr hv1 (by go_simp)
    have zv1_3 : G < v1.heap.size := World.block_lt_of_cell? _ _ cv1_3_0
    have gv1 : Gr W v1 := Gr.trans (by have gg := gx0; have gs := gg.size; go_grown) hv1
    clear hv1 hhv1 gx0
    go_wp2_with fail
    rw [rounds_succ]
    go_wp2_with fail
    go_wp2_with fail
    refine wp_region_spread (by kernel_rfl) (by kernel_rfl) ?_
    try simp only [List.append]
    repeat (first | go_big_quiet_skip | (go_big_quiet_want; go_big_quiet_op; (first | go_big_quiet_on | (apply Exists.intro; refine ⟨fun _ => ?_, ?_⟩; (· (first | (go_at_call 25; first | ((with_reducible refine ((H7.out _)).mono ?_); rintro e w' ⟨rfl, hg⟩; exact ⟨rfl, spread_gr hg⟩)))); go_big_quiet_on))))
    refine wpQuiet_nil ?_
    intro v2 hhv2
    have hv2 := Hd.gr_of_spread hhv2
    have cv2_0_0 : v2.cell? ⟨W.heap.size, 0, none⟩ = some (.int .i64 ax) := cell_gr hv2 (by go_simp)
    have cv2_0_1 : v2.cell? ⟨W.heap.size, 1, none⟩ = some (.int .i64 ay) := cell_gr hv2 (by go_simp)
    have zv2_0 : W.heap.size < v2.heap.size := World.block_lt_of_cell? _ _ cv2_0_0
    have cv2_1_0 : v2.cell? ⟨W.heap.size + 1, 0, none⟩ = some (.int .i64 bx) := cell_gr hv2 (by go_simp)
    have cv2_1_1 : v2.cell? ⟨W.heap.size + 1, 1, none⟩ = some (.int .i64 by') := cell_gr hv2 (by go_simp)
    have zv2_1 : W.heap.size + 1 < v2.heap.size := World.block_lt_of_cell? _ _ cv2_1_0
    have cv2_2_0 : v2.cell? ⟨W.heap.size + 1 + 1, 0, none⟩ = some (.int .i64 lx) := cell_gr hv2 (by go_simp)
    have cv2_2_1 : v2.cell? ⟨W.heap.size + 1 + 1, 1, none⟩ = some (.int .i64 ly) := cell_gr hv2 (by go_simp)
    have cv2_2_2 : v2.cell? ⟨W.heap.size + 1 + 1, 2, none⟩ = some (.int .i64 hx) := cell_gr hv2 (by go_simp)
    have cv2_2_3 : v2.cell? ⟨W.heap.size + 1 + 1, 3, none⟩ = some (.int .i64 hy) := cell_gr hv2 (by go_simp)
    have zv2_2 : W.heap.size + 1 + 1 < v2.heap.size := World.block_lt_of_cell? _ _ cv2_2_0
    have cv2_3_0 : v2.cell? ⟨G, 0, none⟩ = some (.int .i64 lx) := cell_gr hv2 (by go_simp)
    have cv2_3_1 : v2.cell? ⟨G, 1, none⟩ = some (.int .i64 ly) := cell_gr hv2 (by go_simp)
    have cv2_3_2 : v2.cell? ⟨G, 2, none⟩ = some (.int .i64 hx) := cell_gr hv2 (by go_simp)
    have cv2_3_3 : v2.cell? ⟨G, 3, none⟩ = some (.int .i64 ly) := cell_gr hv2 (by go_simp)
    have cv2_3_4 : v2.cell? ⟨G, 4, none⟩ = some (.int .i64 hx) := cell_gr hv2 (by go_simp)
    have cv2_3_5 : v2.cell? ⟨G, 5, none⟩ = some (.int .i64 hy) := cell_gr hv2 (by go_simp)
    have cv2_3_6 : v2.cell? ⟨G, 6, none⟩ = some (.int .i64 lx) := cell_gr hv2 (by go_simp)
    have cv2_3_7 : v2.cell? ⟨G, 7, none⟩ = some (.int .i64 hy) := cell_gr hv2 (by go_simp)
    have zv2_3 : G < v2.heap.size := World.block_lt_of_cell? _ _ cv2_3_0
    have gv2 : Gr W v2 := Gr.trans (by have gg := gv1; have gs := gg.size; go_grown) hv2
    clear hv2 hhv2 gv1 zv1_0 cv1_0_0 cv1_0_1 zv1_1 cv1_1_0 cv1_1_1 zv1_2 cv1_2_0 cv1_2_1 cv1_2_2 cv1_2_3 zv1_3 cv1_3_0 cv1_3_1 cv1_3_2 cv1_3_3 cv1_3_4 cv1_3_5 cv1_3_6 cv1_3_7
    go_wp2_with fail
    rw [rounds_succ]
    go_wp2_with fail
    go_wp2_with fail
    refine wp_region_spread (by kernel_rfl) (by kernel_rfl) ?_
    try simp only [List.append]
    repeat (first | go_big_quiet_skip | (go_big_quiet_want; go_big_quiet_op; (first | go_big_quiet_on | (apply Exists.intro; refine ⟨fun _ => ?_, ?_⟩; (· (first | (go_at_call 25; first | ((with_reducible refine ((H8.out _)).mono ?_); rintro e w' ⟨rfl, hg⟩; exact ⟨rfl, spread_gr hg⟩)))); go_big_quiet_on))))
    refine wpQuiet_nil ?_
    intro v3 hhv3
    have hv3 := Hd.gr_of_spread hhv3
    have cv3_0_0 : v3.cell? ⟨W.heap.size, 0, none⟩ = some (.int .i64 ax) := cell_gr hv3 (by go_simp)
    have cv3_0_1 : v3.cell? ⟨W.heap.size, 1, none⟩ = some (.int .i64 ay) := cell_gr hv3 (by go_simp)
    have zv3_0 : W.heap.size < v3.heap.size := World.block_lt_of_cell? _ _ cv3_0_0
    have cv3_1_0 : v3.cell? ⟨W.heap.size + 1, 0, none⟩ = some (.int .i64 bx) := cell_gr hv3 (by go_simp)
    have cv3_1_1 : v3.cell? ⟨W.heap.size + 1, 1, none⟩ = some (.int .i64 by') := cell_gr hv3 (by go_simp)
    have zv3_1 : W.heap.size + 1 < v3.heap.size := World.block_lt_of_cell? _ _ cv3_1_0
    have cv3_2_0 : v3.cell? ⟨W.heap.size + 1 + 1, 0, none⟩ = some (.int .i64 lx) := cell_gr hv3 (by go_simp)
    have cv3_2_1 : v3.cell? ⟨W.heap.size + 1 + 1, 1, none⟩ = some (.int .i64 ly) := cell_gr hv3 (by go_simp)
    have cv3_2_2 : v3.cell? ⟨W.heap.size + 1 + 1, 2, none⟩ = some (.int .i64 hx) := cell_gr hv3 (by go_simp)
    have cv3_2_3 : v3.cell? ⟨W.heap.size + 1 + 1, 3, none⟩ = some (.int .i64 hy) := cell_gr hv3 (by go_simp)
    have zv3_2 : W.heap.size + 1 + 1 < v3.heap.size := World.block_lt_of_cell? _ _ cv3_2_0
    have cv3_3_0 : v3.cell? ⟨G, 0, none⟩ = some (.int .i64 lx) := cell_gr hv3 (by go_simp)
    have cv3_3_1 : v3.cell? ⟨G, 1, none⟩ = some (.int .i64 ly) := cell_gr hv3 (by go_simp)
    have cv3_3_2 : v3.cell? ⟨G, 2, none⟩ = some (.int .i64 hx) := cell_gr hv3 (by go_simp)
    have cv3_3_3 : v3.cell? ⟨G, 3, none⟩ = some (.int .i64 ly) := cell_gr hv3 (by go_simp)
    have cv3_3_4 : v3.cell? ⟨G, 4, none⟩ = some (.int .i64 hx) := cell_gr hv3 (by go_simp)
    have cv3_3_5 : v3.cell? ⟨G, 5, none⟩ = some (.int .i64 hy) := cell_gr hv3 (by go_simp)
    have cv3_3_6 : v3.cell? ⟨G, 6, none⟩ = some (.int .i64 lx) := cell_gr hv3 (by go_simp)
    have cv3_3_7 : v3.cell? ⟨G, 7, none⟩ = some (.int .i64 hy) := cell_gr hv3 (by go_simp)
    have zv3_3 : G < v3.heap.size := World.block_lt_of_cell? _ _ cv3_3_0
    have gv3 : Gr W v3 := Gr.trans (by have gg := gv2; have gs := gg.size; go_grown) hv3
    clear hv3 hhv3 gv2 zv2_0 cv2_0_0 cv2_0_1 zv2_1 cv2_1_0 cv2_1_1 zv2_2 cv2_2_0 cv2_2_1 cv2_2_2 cv2_2_3 zv2_3 cv2_3_0 cv2_3_1 cv2_3_2 cv2_3_3 cv2_3_4 cv2_3_5 cv2_3_6 cv2_3_7
    go_wp2_with fail
    rw [rounds_succ]
    go_wp2_with fail
    go_wp2_with fail
    refine wp_region_spread (by kernel_rfl) (by kernel_rfl) ?_
    try simp only [List.append]
    repeat (first | go_big_quiet_skip | (go_big_quiet_want; go_big_quiet_op; (first | go_big_quiet_on | (apply Exists.intro; refine ⟨fun _ => ?_, ?_⟩; (· (first | (go_at_call 25; first | ((with_reducible refine ((H9.out _)).mono ?_); rintro e w' ⟨rfl, hg⟩; exact ⟨rfl, spread_gr hg⟩)))); go_big_quiet_on))))
    refine wpQuiet_nil ?_
    intro v4 hhv4
    have hv4 := Hd.gr_of_spread hhv4
    have cv4_0_0 : v4.cell? ⟨W.heap.size, 0, none⟩ = some (.int .i64 ax) := cell_gr hv4 (by go_simp)
    have cv4_0_1 : v4.cell? ⟨W.heap.size, 1, none⟩ = some (.int .i64 ay) := cell_gr hv4 (by go_simp)
    have zv4_0 : W.heap.size < v4.heap.size := World.block_lt_of_cell? _ _ cv4_0_0
    have cv4_1_0 : v4.cell? ⟨W.heap.size + 1, 0, none⟩ = some (.int .i64 bx) := cell_gr hv4 (by go_simp)
    have cv4_1_1 : v4.cell? ⟨W.heap.size + 1, 1, none⟩ = some (.int .i64 by') := cell_gr hv4 (by go_simp)
    have zv4_1 : W.heap.size + 1 < v4.heap.size := World.block_lt_of_cell? _ _ cv4_1_0
    have cv4_2_0 : v4.cell? ⟨W.heap.size + 1 + 1, 0, none⟩ = some (.int .i64 lx) := cell_gr hv4 (by go_simp)
    have cv4_2_1 : v4.cell? ⟨W.heap.size + 1 + 1, 1, none⟩ = some (.int .i64 ly) := cell_gr hv4 (by go_simp)
    have cv4_2_2 : v4.cell? ⟨W.heap.size + 1 + 1, 2, none⟩ = some (.int .i64 hx) := cell_gr hv4 (by go_simp)
    have cv4_2_3 : v4.cell? ⟨W.heap.size + 1 + 1, 3, none⟩ = some (.int .i64 hy) := cell_gr hv4 (by go_simp)
    have zv4_2 : W.heap.size + 1 + 1 < v4.heap.size := World.block_lt_of_cell? _ _ cv4_2_0
    have cv4_3_0 : v4.cell? ⟨G, 0, none⟩ = some (.int .i64 lx) := cell_gr hv4 (by go_simp)
    have cv4_3_1 : v4.cell? ⟨G, 1, none⟩ = some (.int .i64 ly) := cell_gr hv4 (by go_simp)
    have cv4_3_2 : v4.cell? ⟨G, 2, none⟩ = some (.int .i64 hx) := cell_gr hv4 (by go_simp)
    have cv4_3_3 : v4.cell? ⟨G, 3, none⟩ = some (.int .i64 ly) := cell_gr hv4 (by go_simp)
    have cv4_3_4 : v4.cell? ⟨G, 4, none⟩ = some (.int .i64 hx) := cell_gr hv4 (by go_simp)
    have cv4_3_5 : v4.cell? ⟨G, 5, none⟩ = some (.int .i64 hy) := cell_gr hv4 (by go_simp)
    have cv4_3_6 : v4.cell? ⟨G, 6, none⟩ = some (.int .i64 lx) := cell_gr hv4 (by go_simp)
    have cv4_3_7 : v4.cell? ⟨G, 7, none⟩ = some (.int .i64 hy) := cell_gr hv4 (by go_simp)
    have zv4_3 : G < v4.heap.size := World.block_lt_of_cell? _ _ cv4_3_0
    have gv4 : Gr W v4 := Gr.trans (by have gg := gv3; have gs := gg.size; go_grown) hv4
    clear hv4 hhv4 gv3 zv3_0 cv3_0_0 cv3_0_1 zv3_1 cv3_1_0 cv3_1_1 zv3_2 cv3_2_0 cv3_2_1 cv3_2_2 cv3_2_3 zv3_3 cv3_3_0 cv3_3_1 cv3_3_2 cv3_3_3 cv3_3_4 cv3_3_5 cv3_3_6 cv3_3_7
    go_wp2_with fail
    rw [rounds_succ]
    go_wp2_with fail
    go_ret
    exact ⟨rfl, gv4⟩
theorem c_rMeetsBox (ax ay bx by' lx ly hx hy : Int) (W : World) : Calls Try.prog 29 #[.agg #[.int .i64 ax, .int .i64 ay], .agg #[.int .i64 bx, .int .i64 by'], .agg #[.int .i64 lx, .int .i64 ly, .int .i64 hx, .int .i64 hy]] W fun e w' => e = .returned (.bool (mbG ax ay bx by' lx ly hx hy)) ∧ Gr W w' := by
  have A1 := c_rPoint ax ay
  have A2 := c_rPoint bx by'
  have A3 := c_rCheckBox lx ly hx hy
  have A4 := c_rBoxHas lx ly hx hy ax ay
  have A5 := c_rBoxHas lx ly hx hy bx by'
  have hz := boxCode_zero (lx := lx) (ly := ly) (hx := hx) (hy := hy)
  unfold mbG
  cases n1 : nearB ax ay
  · rw [n1] at A1
    exact rmb_no ax ay bx by' lx ly hx hy _ _ _ _ _ _ W (Or.inl ⟨rfl, rfl⟩) A1 A2 A3 A4 A5
  · rw [n1] at A1
    cases n2 : nearB bx by'
    · rw [n2] at A2
      exact rmb_no ax ay bx by' lx ly hx hy _ _ _ _ _ _ W (Or.inr (Or.inl ⟨rfl, rfl, rfl⟩)) A1 A2 A3 A4 A5
    · rw [n2] at A2
      cases hb : boxB lx ly hx hy
      · rw [hb] at hz
        refine rmb_no ax ay bx by' lx ly hx hy _ _ _ _ _ _ W (Or.inr (Or.inr (Or.inl ⟨rfl, rfl, ?_, rfl⟩))) A1 A2 A3 A4 A5
        simpa using hz
      · rw [hb] at hz
        have z0 : boxCode lx ly hx hy = 0 := by simpa using hz
        rw [z0] at A3
        rw [hb, n1] at A4
        rw [hb, n2] at A5
        simp only [Bool.true_and] at A4 A5 ⊢
        unfold mbF
        have hbn := (boxB_iff.1 hb).1
        have hbl := (boxB_iff.1 hb).2
        have o1 := nearB_iff.1 hbn.1
        have o2 := nearB_iff.1 hbn.2
        have g1 : nearB lx hy = true := by rw [nearB_iff]; omega
        have g2 : nearB hx ly = true := by rw [nearB_iff]; omega
        cases ha : inB lx ly hx hy ax ay
        · cases hb2 : inB lx ly hx hy bx by'
          · rw [ha] at A4
            rw [hb2] at A5
            have M0 := c_rMeet ax ay bx by' lx ly hx ly
            have M1 := c_rMeet ax ay bx by' hx ly hx hy
            have M2 := c_rMeet ax ay bx by' hx hy lx hy
            have M3 := c_rMeet ax ay bx by' lx hy lx ly
            rw [show meG ax ay bx by' lx ly hx ly = meF ax ay bx by' lx ly hx ly by unfold meG all4; rw [n1, n2, hbn.1, g2]; rfl] at M0
            rw [show meG ax ay bx by' hx ly hx hy = meF ax ay bx by' hx ly hx hy by unfold meG all4; rw [n1, n2, hbn.2, g2]; rfl] at M1
            rw [show meG ax ay bx by' hx hy lx hy = meF ax ay bx by' hx hy lx hy by unfold meG all4; rw [n1, n2, hbn.2, g1]; rfl] at M2
            rw [show meG ax ay bx by' lx hy lx ly = meF ax ay bx by' lx hy lx ly by unfold meG all4; rw [n1, n2, hbn.1, g1]; rfl] at M3
            have e : (ovB lx ly hx hy ax ay bx by' && (false || false || diF lx ly hx hy ax ay bx by')) = siF lx ly hx hy ax ay bx by' := by
              cases hv : ovB lx ly hx hy ax ay bx by'
              · cases hs : siF lx ly hx hy ax ay bx by'
                · rfl
                · have := ovB_iff.2 (si_ov hbl hs)
                  rw [this] at hv; cases hv
              · rw [sides_diag hbl (ovB_iff.1 hv) (by rw [← inB_P, ha]; simp) (by rw [← inB_P, hb2]; simp)]
                simp
            rw [e]
            refine rmb_in ax ay bx by' lx ly hx hy _ _ _ _ _ W ?_ A1 A2 A3 A4 A5 M0 M1 M2 M3
            unfold siF
            generalize meF ax ay bx by' lx ly hx ly = m0
            generalize meF ax ay bx by' hx ly hx hy = m1
            generalize meF ax ay bx by' hx hy lx hy = m2
            generalize meF ax ay bx by' lx hy lx ly = m3
            cases m0 <;> cases m1 <;> cases m2 <;> cases m3 <;> simp
          · rw [ha] at A4
            rw [hb2] at A5
            have hv : ovB lx ly hx hy ax ay bx by' = true := by
              have := inB_P.1 hb2
              rw [ovB_iff]
              unfold inP at this
              unfold ovP
              omega
            rw [hv]
            exact rmb_no ax ay bx by' lx ly hx hy _ _ _ _ _ _ W (Or.inr (Or.inr (Or.inr (Or.inr ⟨rfl, rfl, rfl, rfl, rfl, rfl⟩)))) A1 A2 A3 A4 A5
        · rw [ha] at A4
          have hv : ovB lx ly hx hy ax ay bx by' = true := by
            have := inB_P.1 ha
            rw [ovB_iff]
            unfold inP at this
            unfold ovP
            omega
          rw [hv]
          exact rmb_no ax ay bx by' lx ly hx hy _ _ _ _ _ _ W (Or.inr (Or.inr (Or.inr (Or.inl ⟨rfl, rfl, rfl, rfl, rfl⟩)))) A1 A2 A3 A4 A5
end Go.Proofs.Ythjhhnolkiejpaa
