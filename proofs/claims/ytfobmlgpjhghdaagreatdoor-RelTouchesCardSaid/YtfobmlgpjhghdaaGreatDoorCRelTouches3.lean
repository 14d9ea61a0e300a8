/- What RelTouches leans on: Zp Ub Uc Ui Uj Ue Uf Ug Uk Um Un Ea Ey Id -/
import Derived.Test.YtfobmlgpjhghdaaGreatDoorCRelTouches2
import Derived.Laws.AppendOwn
import Derived.OwnWalk
import Derived.Laws.OwnMore
import Derived.Deep.RegionLaw
import Derived.Laws.Bits64b
import Derived.ArgAppend
import Derived.Deep.LoopGhost
import Derived.Maps.AppendAt
import Derived.Deep.RegionWith
namespace Go.Proofs.YtfobmlgpjhghdaaGreatDoor
set_option linter.unusedVariables false
open Go.ChangeShapes Go.WideShapes Go.ChangeAt Go.RowKit
def ovB (lx ly hx hy ax ay bx by' : Int) : Bool := decide (minZ ax bx ≤ hx) && decide (lx ≤ maxZ ax bx) && decide (minZ ay by' ≤ hy) && decide (ly ≤ maxZ ay by')
theorem ovB_iff {lx ly hx hy ax ay bx by' : Int} : ovB lx ly hx hy ax ay bx by' = true ↔ ovP lx ly hx hy ax ay bx by' := by
  unfold ovB ovP
  simp only [Bool.and_eq_true, decide_eq_true_eq, min_le', le_max, and_assoc]
theorem inB_P {lx ly hx hy px py : Int} : inB lx ly hx hy px py = true ↔ inP lx ly hx hy px py := by
  rw [inB_iff]; rfl
def mbF (ax ay bx by' lx ly hx hy : Int) : Bool := ovB lx ly hx hy ax ay bx by' && (inB lx ly hx hy ax ay || inB lx ly hx hy bx by' || diF lx ly hx hy ax ay bx by')
def mbG (ax ay bx by' lx ly hx hy : Int) : Bool := nearB ax ay && nearB bx by' && boxB lx ly hx hy && mbF ax ay bx by' lx ly hx hy
set_option maxHeartbeats 4000000 in
set_option maxRecDepth 100000 in
theorem gmb_no (ax ay bx by' lx ly hx hy k : Int) (q : Bool) (ev : Value) (W : World) (hc : q = false ∨ (q = true ∧ ev = .iface 66 (.int .i64 k)))
    (A1 : ∀ b w, b < w.heap.size → w.cell? ⟨b, 0, none⟩ = some (.int .i64 ax) → w.cell? ⟨b, 1, none⟩ = some (.int .i64 ay) → w.cell? ⟨b, 2, none⟩ = some (.int .i64 bx) → w.cell? ⟨b, 3, none⟩ = some (.int .i64 by') →
      Calls Tryz.prog 116 #[.slice (some ⟨b, 0, none⟩) 2 2] w fun e w' => e = .returned (.bool q) ∧ Gr w w')
    (A2 : ∀ w, Calls Tryz.prog 96 #[.agg #[.int .i64 lx, .int .i64 ly, .int .i64 hx, .int .i64 hy]] w fun e w' => e = .returned (ev) ∧ Gr w w') :
    Calls Tryz.prog 88 #[.agg #[.int .i64 ax, .int .i64 ay], .agg #[.int .i64 bx, .int .i64 by'], .agg #[.int .i64 lx, .int .i64 ly, .int .i64 hx, .int .i64 hy]] W fun e w' => e = .returned (.bool false) ∧ Gr W w' := by
  have H1 := Lib.hid A1
  have H2 := Lib.hid A2
  clear A1 A2
  rcases hc with rfl | ⟨rfl, rfl⟩
  · go_enter Tryz.func88, Tryz.ntmps88
    go_wp2_with fail
    go_at_call 116
    refine ((H1.out _ _ (by go_simp) (by go_simp) (by go_simp) (by go_simp) (by go_simp))).mono ?_
    rintro e w1 ⟨rfl, hw1⟩
    have cw1_0_0 : w1.cell? ⟨W.heap.size, 0, none⟩ = some (.int .i64 ax) := cell_gr hw1 (by go_simp)
    have cw1_0_1 : w1.cell? ⟨W.heap.size, 1, none⟩ = some (.int .i64 ay) := cell_gr hw1 (by go_simp)
    have zw1_0 : W.heap.size < w1.heap.size := World.block_lt_of_cell? _ _ cw1_0_0
    have cw1_1_0 : w1.cell? ⟨W.heap.size + 1, 0, none⟩ = some (.int .i64 bx) := cell_gr hw1 (by go_simp)
    have cw1_1_1 : w1.cell? ⟨W.heap.size + 1, 1, none⟩ = some (.int .i64 by') := cell_gr hw1 (by go_simp)
    have zw1_1 : W.heap.size + 1 < w1.heap.size := World.block_lt_of_cell? _ _ cw1_1_0
    have cw1_2_0 : w1.cell? ⟨W.heap.size + 1 + 1, 0, none⟩ = some (.int .i64 lx) := cell_gr hw1 (by go_simp)
    have cw1_2_1 : w1.cell? ⟨W.heap.size + 1 + 1, 1, none⟩ = some (.int .i64 ly) := cell_gr hw1 (by go_simp)
    have cw1_2_2 : w1.cell? ⟨W.heap.size + 1 + 1, 2, none⟩ = some (.int .i64 hx) := cell_gr hw1 (by go_simp)
    have cw1_2_3 : w1.cell? ⟨W.heap.size + 1 + 1, 3, none⟩ = some (.int .i64 hy) := cell_gr hw1 (by go_simp)
    have zw1_2 : W.heap.size + 1 + 1 < w1.heap.size := World.block_lt_of_cell? _ _ cw1_2_0
    have gw1 : Gr W w1 := Gr.trans (by go_grown) hw1
    clear hw1
    go_wp2_with fail
    go_ret
    exact ⟨rfl, by go_grown⟩
  · go_enter Tryz.func88, Tryz.ntmps88
    go_wp2_with fail
    go_at_call 116
    refine ((H1.out _ _ (by go_simp) (by go_simp) (by go_simp) (by go_simp) (by go_simp))).mono ?_
    rintro e w1 ⟨rfl, hw1⟩
    have cw1_0_0 : w1.cell? ⟨W.heap.size, 0, none⟩ = some (.int .i64 ax) := cell_gr hw1 (by go_simp)
    have cw1_0_1 : w1.cell? ⟨W.heap.size, 1, none⟩ = some (.int .i64 ay) := cell_gr hw1 (by go_simp)
    have zw1_0 : W.heap.size < w1.heap.size := World.block_lt_of_cell? _ _ cw1_0_0
    have cw1_1_0 : w1.cell? ⟨W.heap.size + 1, 0, none⟩ = some (.int .i64 bx) := cell_gr hw1 (by go_simp)
    have cw1_1_1 : w1.cell? ⟨W.heap.size + 1, 1, none⟩ = some (.int .i64 by') := cell_gr hw1 (by go_simp)
    have zw1_1 : W.heap.size + 1 < w1.heap.size := World.block_lt_of_cell? _ _ cw1_1_0
    have cw1_2_0 : w1.cell? ⟨W.heap.size + 1 + 1, 0, none⟩ = some (.int .i64 lx) := cell_gr hw1 (by go_simp)
    have cw1_2_1 : w1.cell? ⟨W.heap.size + 1 + 1, 1, none⟩ = some (.int .i64 ly) := cell_gr hw1 (by go_simp)
    have cw1_2_2 : w1.cell? ⟨W.heap.size + 1 + 1, 2, none⟩ = some (.int .i64 hx) := cell_gr hw1 (by go_simp)
    have cw1_2_3 : w1.cell? ⟨W.heap.size + 1 + 1, 3, none⟩ = some (.int .i64 hy) := cell_gr hw1 (by go_simp)
    have zw1_2 : W.heap.size + 1 + 1 < w1.heap.size := World.block_lt_of_cell? _ _ cw1_2_0
    have gw1 : Gr W w1 := Gr.trans (by go_grown) hw1
    clear hw1
    go_wp2_with fail
    go_at_call 96
    refine ((H2.out _)).mono ?_
    rintro e w2 ⟨rfl, hw2⟩
    have cw2_0_0 : w2.cell? ⟨W.heap.size, 0, none⟩ = some (.int .i64 ax) := cell_gr hw2 (by go_simp)
    have cw2_0_1 : w2.cell? ⟨W.heap.size, 1, none⟩ = some (.int .i64 ay) := cell_gr hw2 (by go_simp)
    have zw2_0 : W.heap.size < w2.heap.size := World.block_lt_of_cell? _ _ cw2_0_0
    have cw2_1_0 : w2.cell? ⟨W.heap.size + 1, 0, none⟩ = some (.int .i64 bx) := cell_gr hw2 (by go_simp)
    have cw2_1_1 : w2.cell? ⟨W.heap.size + 1, 1, none⟩ = some (.int .i64 by') := cell_gr hw2 (by go_simp)
    have zw2_1 : W.heap.size + 1 < w2.heap.size := World.block_lt_of_cell? _ _ cw2_1_0
    have cw2_2_0 : w2.cell? ⟨W.heap.size + 1 + 1, 0, none⟩ = some (.int .i64 lx) := cell_gr hw2 (by go_simp)
    have cw2_2_1 : w2.cell? ⟨W.heap.size + 1 + 1, 1, none⟩ = some (.int .i64 ly) := cell_gr hw2 (by go_simp)
    have cw2_2_2 : w2.cell? ⟨W.heap.size + 1 + 1, 2, none⟩ = some (.int .i64 hx) := cell_gr hw2 (by go_simp)
    have cw2_2_3 : w2.cell? ⟨W.heap.size + 1 + 1, 3, none⟩ = some (.int .i64 hy) := cell_gr hw2 (by go_simp)
    have zw2_2 : W.heap.size + 1 + 1 < w2.heap.size := World.block_lt_of_cell? _ _ cw2_2_0
    have gw2 : Gr W w2 := Gr.trans (by have gg := gw1; have gs := gg.size; go_grown) hw2
    clear hw2 gw1 zw1_0 cw1_0_0 cw1_0_1 zw1_1 cw1_1_0 cw1_1_1 zw1_2 cw1_2_0 cw1_2_1 cw1_2_2 cw1_2_3
    go_wp2_with fail
    go_ret
    exact ⟨rfl, by go_grown⟩
theorem c_gMeetsBox (ax ay bx by' lx ly hx hy : Int) (W : World) : Calls Tryz.prog 88 #[.agg #[.int .i64 ax, .int .i64 ay], .agg #[.int .i64 bx, .int .i64 by'], .agg #[.int .i64 lx, .int .i64 ly, .int .i64 hx, .int .i64 hy]] W fun e w' => e = .returned (.bool (mbG ax ay bx by' lx ly hx hy)) ∧ Gr W w' := by
  have A1 := fun b w => c_gMayBe2 ax ay bx by' _ rfl b w
  have A2 := c_CheckBox lx ly hx hy
  unfold mbG
  cases hq : (nearB ax ay && nearB bx by')
  · rw [hq] at A1
    rw [Bool.false_and, Bool.false_and]
    exact gmb_no ax ay bx by' lx ly hx hy 0 false _ W (Or.inl rfl) A1 A2
  · rw [hq] at A1
    cases hb : boxB lx ly hx hy
    · obtain ⟨k, hk⟩ := boxErr_false hb
      rw [Bool.and_false, Bool.false_and]
      exact gmb_no ax ay bx by' lx ly hx hy k true _ W (Or.inr ⟨rfl, hk⟩) A1 A2
    · rw [boxErr_true hb] at A2
      have hn : nearB ax ay = true ∧ nearB bx by' = true := by simpa using hq
      have ha : boxB ax ay ax ay = true := by rw [boxB_iff]; exact ⟨⟨hn.1, hn.1⟩, by omega, by omega⟩
      have hb2 : boxB bx by' bx by' = true := by rw [boxB_iff]; exact ⟨⟨hn.2, hn.2⟩, by omega, by omega⟩
      have hj := box_join ha hb2
      have hbn := (boxB_iff.1 hb).1
      have A3 := fun b w => c_Around2 ax ay bx by' b w
      have A4 := c_Meets (minZ ax bx) (minZ ay by') (maxZ ax bx) (maxZ ay by') lx ly hx hy
      rw [hj, hb] at A4
      have A5 := c_Has lx ly hx hy ax ay
      have A6 := c_Has lx ly hx hy bx by'
      rw [hb, hn.1] at A5
      rw [hb, hn.2] at A6
      simp only [Bool.true_and] at A4 A5 A6
      have A7 := c_gMeet ax ay bx by' lx ly hx hy
      have A8 := c_gMeet ax ay bx by' lx hy hx ly
      have g1 : nearB lx hy = true := by
        have n1 := nearB_iff.1 hbn.1
        have n2 := nearB_iff.1 hbn.2
        rw [nearB_iff]; omega
      have g2 : nearB hx ly = true := by
        have n1 := nearB_iff.1 hbn.1
        have n2 := nearB_iff.1 hbn.2
        rw [nearB_iff]; omega
      rw [show meG ax ay bx by' lx ly hx hy = meF ax ay bx by' lx ly hx hy by unfold meG all4; rw [hn.1, hn.2, hbn.1, hbn.2]; rfl] at A7
      rw [show meG ax ay bx by' lx hy hx ly = meF ax ay bx by' lx hy hx ly by unfold meG all4; rw [hn.1, hn.2, g1, g2]; rfl] at A8
      simp only [Bool.true_and]
      refine gmb_in ax ay bx by' lx ly hx hy _ _ _ _ _ _ _ _ _ _ _ W ?_ rfl A1 A2 A3 A4 A5 A6 A7 A8
      unfold mbF ovB diF
      generalize (decide (minZ ax bx ≤ hx) && decide (lx ≤ maxZ ax bx) && decide (minZ ay by' ≤ hy) && decide (ly ≤ maxZ ay by')) = m
      generalize inB lx ly hx hy ax ay = h1
      generalize inB lx ly hx hy bx by' = h2
      generalize meF ax ay bx by' lx ly hx hy = k1
      generalize meF ax ay bx by' lx hy hx ly = k2
      cases m <;> cases h1 <;> cases h2 <;> cases k1 <;> simp
set_option maxHeartbeats 4000000 in
set_option maxRecDepth 100000 in
theorem rmb_no (ax ay bx by' lx ly hx hy k : Int) (q1 q2 ha hb r : Bool) (W : World)
    (hc : (q1 = false ∧ r = false) ∨ (q1 = true ∧ q2 = false ∧ r = false) ∨ (q1 = true ∧ q2 = true ∧ (k != 0) = true ∧ r = false) ∨ (q1 = true ∧ q2 = true ∧ k = 0 ∧ ha = true ∧ r = true) ∨ (q1 = true ∧ q2 = true ∧ k = 0 ∧ ha = false ∧ hb = true ∧ r = true))
    (A1 : ∀ w, Calls Tryz.prog 24 #[.agg #[.int .i64 ax, .int .i64 ay]] w fun e w' => e = .returned (.bool q1) ∧ Gr w w')
    (A2 : ∀ w, Calls Tryz.prog 24 #[.agg #[.int .i64 bx, .int .i64 by']] w fun e w' => e = .returned (.bool q2) ∧ Gr w w')
    (A3 : ∀ w, Calls Tryz.prog 25 #[.agg #[.int .i64 lx, .int .i64 ly, .int .i64 hx, .int .i64 hy]] w fun e w' => e = .returned (.int .i64 k) ∧ Gr w w')
    (A4 : ∀ w, Calls Tryz.prog 28 #[.agg #[.int .i64 lx, .int .i64 ly, .int .i64 hx, .int .i64 hy], .agg #[.int .i64 ax, .int .i64 ay]] w fun e w' => e = .returned (.bool ha) ∧ Gr w w')
    (A5 : ∀ w, Calls Tryz.prog 28 #[.agg #[.int .i64 lx, .int .i64 ly, .int .i64 hx, .int .i64 hy], .agg #[.int .i64 bx, .int .i64 by']] w fun e w' => e = .returned (.bool hb) ∧ Gr w w') :
    Calls Tryz.prog 71 #[.agg #[.int .i64 ax, .int .i64 ay], .agg #[.int .i64 bx, .int .i64 by'], .agg #[.int .i64 lx, .int .i64 ly, .int .i64 hx, .int .i64 hy]] W fun e w' => e = .returned (.bool r) ∧ Gr W w' := by
  have H1 := Lib.hid A1
  have H2 := Lib.hid A2
  have H3 := Lib.hid A3
  have H4 := Lib.hid A4
  have H5 := Lib.hid A5
  clear A1 A2 A3 A4 A5
  rcases hc with ⟨rfl, rfl⟩ | ⟨rfl, rfl, rfl⟩ | ⟨rfl, rfl, hk, rfl⟩ | ⟨rfl, rfl, rfl, rfl, rfl⟩ | ⟨rfl, rfl, rfl, rfl, rfl, rfl⟩
  · go_enter Tryz.func71, Tryz.ntmps71
    go_wp2_with fail
    go_at_call 24
    refine ((H1.out _)).mono ?_
    rintro e w1 ⟨rfl, hw1⟩
    have cw1_0_0 : w1.cell? ⟨W.heap.size, 0, none⟩ = some (.int .i64 ax) := cell_gr hw1 (by go_simp)
    have cw1_0_1 : w1.cell? ⟨W.heap.size, 1, none⟩ = some (.int .i64 ay) := cell_gr hw1 (by go_simp)
    have zw1_0 : W.heap.size < w1.heap.size := World.block_lt_of_cell? _ _ cw1_0_0
    have cw1_1_0 : w1.cell? ⟨W.heap.size + 1, 0, none⟩ = some (.int .i64 bx) := cell_gr hw1 (by go_simp)
    have cw1_1_1 : w1.cell? ⟨W.heap.size + 1, 1, none⟩ = some (.int .i64 by') := cell_gr hw1 (by go_simp)
    have zw1_1 : W.heap.size + 1 < w1.heap.size := World.block_lt_of_cell? _ _ cw1_1_0
    have cw1_2_0 : w1.cell? ⟨W.heap.size + 1 + 1, 0, none⟩ = some (.int .i64 lx) := cell_gr hw1 (by go_simp)
    have cw1_2_1 : w1.cell? ⟨W.heap.size + 1 + 1, 1, none⟩ = some (.int .i64 ly) := cell_gr hw1 (by go_simp)
    have cw1_2_2 : w1.cell? ⟨W.heap.size + 1 + 1, 2, none⟩ = some (.int .i64 hx) := cell_gr hw1 (by go_simp)
    have cw1_2_3 : w1.cell? ⟨W.heap.size + 1 + 1, 3, none⟩ = some (.int .i64 hy) := cell_gr hw1 (by go_simp)
    have zw1_2 : W.heap.size + 1 + 1 < w1.heap.size := World.block_lt_of_cell? _ _ cw1_2_0
    have gw1 : Gr W w1 := Gr.trans (by go_grown) hw1
    clear hw1
    go_wp2_with fail
    go_ret
    exact ⟨rfl, by go_grown⟩
  · go_enter Tryz.func71, Tryz.ntmps71
    go_wp2_with fail
    go_at_call 24
    refine ((H1.out _)).mono ?_
    rintro e w1 ⟨rfl, hw1⟩
    have cw1_0_0 : w1.cell? ⟨W.heap.size, 0, none⟩ = some (.int .i64 ax) := cell_gr hw1 (by go_simp)
    have cw1_0_1 : w1.cell? ⟨W.heap.size, 1, none⟩ = some (.int .i64 ay) := cell_gr hw1 (by go_simp)
    have zw1_0 : W.heap.size < w1.heap.size := World.block_lt_of_cell? _ _ cw1_0_0
    have cw1_1_0 : w1.cell? ⟨W.heap.size + 1, 0, none⟩ = some (.int .i64 bx) := cell_gr hw1 (by go_simp)
    have cw1_1_1 : w1.cell? ⟨W.heap.size + 1, 1, none⟩ = some (.int .i64 by') := cell_gr hw1 (by go_simp)
    have zw1_1 : W.heap.size + 1 < w1.heap.size := World.block_lt_of_cell? _ _ cw1_1_0
    have cw1_2_0 : w1.cell? ⟨W.heap.size + 1 + 1, 0, none⟩ = some (.int .i64 lx) := cell_gr hw1 (by go_simp)
    have cw1_2_1 : w1.cell? ⟨W.heap.size + 1 + 1, 1, none⟩ = some (.int .i64 ly) := cell_gr hw1 (by go_simp)
    have cw1_2_2 : w1.cell? ⟨W.heap.size + 1 + 1, 2, none⟩ = some (.int .i64 hx) := cell_gr hw1 (by go_simp)
    have cw1_2_3 : w1.cell? ⟨W.heap.size + 1 + 1, 3, none⟩ = some (.int .i64 hy) := cell_gr hw1 (by go_simp)
    have zw1_2 : W.heap.size + 1 + 1 < w1.heap.size := World.block_lt_of_cell? _ _ cw1_2_0
    have gw1 : Gr W w1 := Gr.trans (by go_grown) hw1
    clear hw1
    go_wp2_with fail
    go_at_call 24
    refine ((H2.out _)).mono ?_
    rintro e w2 ⟨rfl, hw2⟩
    have cw2_0_0 : w2.cell? ⟨W.heap.size, 0, none⟩ = some (.int .i64 ax) := cell_gr hw2 (by go_simp)
    have cw2_0_1 : w2.cell? ⟨W.heap.size, 1, none⟩ = some (.int .i64 ay) := cell_gr hw2 (by go_simp)
    have zw2_0 : W.heap.size < w2.heap.size := World.block_lt_of_cell? _ _ cw2_0_0
    have cw2_1_0 : w2.cell? ⟨W.heap.size + 1, 0, none⟩ = some (.int .i64 bx) := cell_gr hw2 (by go_simp)
    have cw2_1_1 : w2.cell? ⟨W.heap.size + 1, 1, none⟩ = some (.int .i64 by') := cell_gr hw2 (by go_simp)
    have zw2_1 : W.heap.size + 1 < w2.heap.size := World.block_lt_of_cell? _ _ cw2_1_0
    have cw2_2_0 : w2.cell? ⟨W.heap.size + 1 + 1, 0, none⟩ = some (.int .i64 lx) := cell_gr hw2 (by go_simp)
    have cw2_2_1 : w2.cell? ⟨W.heap.size + 1 + 1, 1, none⟩ = some (.int .i64 ly) := cell_gr hw2 (by go_simp)
    have cw2_2_2 : w2.cell? ⟨W.heap.size + 1 + 1, 2, none⟩ = some (.int .i64 hx) := cell_gr hw2 (by go_simp)
    have cw2_2_3 : w2.cell? ⟨W.heap.size + 1 + 1, 3, none⟩ = some (.int .i64 hy) := cell_gr hw2 (by go_simp)
    have zw2_2 : W.heap.size + 1 + 1 < w2.heap.size := World.block_lt_of_cell? _ _ cw2_2_0
    have gw2 : Gr W w2 := Gr.trans (by have gg := gw1; have gs := gg.size; go_grown) hw2
    clear hw2 gw1 zw1_0 cw1_0_0 cw1_0_1 zw1_1 cw1_1_0 cw1_1_1 zw1_2 cw1_2_0 cw1_2_1 cw1_2_2 cw1_2_3
    go_wp2_with fail
    go_ret
    exact ⟨rfl, by go_grown⟩
  · go_enter Tryz.func71, Tryz.ntmps71
    go_wp2_with fail
    go_at_call 24
    refine ((H1.out _)).mono ?_
    rintro e w1 ⟨rfl, hw1⟩
    have cw1_0_0 : w1.cell? ⟨W.heap.size, 0, none⟩ = some (.int .i64 ax) := cell_gr hw1 (by go_simp)
    have cw1_0_1 : w1.cell? ⟨W.heap.size, 1, none⟩ = some (.int .i64 ay) := cell_gr hw1 (by go_simp)
    have zw1_0 : W.heap.size < w1.heap.size := World.block_lt_of_cell? _ _ cw1_0_0
    have cw1_1_0 : w1.cell? ⟨W.heap.size + 1, 0, none⟩ = some (.int .i64 bx) := cell_gr hw1 (by go_simp)
    have cw1_1_1 : w1.cell? ⟨W.heap.size + 1, 1, none⟩ = some (.int .i64 by') := cell_gr hw1 (by go_simp)
    have zw1_1 : W.heap.size + 1 < w1.heap.size := World.block_lt_of_cell? _ _ cw1_1_0
    have cw1_2_0 : w1.cell? ⟨W.heap.size + 1 + 1, 0, none⟩ = some (.int .i64 lx) := cell_gr hw1 (by go_simp)
    have cw1_2_1 : w1.cell? ⟨W.heap.size + 1 + 1, 1, none⟩ = some (.int .i64 ly) := cell_gr hw1 (by go_simp)
    have cw1_2_2 : w1.cell? ⟨W.heap.size + 1 + 1, 2, none⟩ = some (.int .i64 hx) := cell_gr hw1 (by go_simp)
    have cw1_2_3 : w1.cell? ⟨W.heap.size + 1 + 1, 3, none⟩ = some (.int .i64 hy) := cell_gr hw1 (by go_simp)
    have zw1_2 : W.heap.size + 1 + 1 < w1.heap.size := World.block_lt_of_cell? _ _ cw1_2_0
    have gw1 : Gr W w1 := Gr.trans (by go_grown) hw1
    clear hw1
    go_wp2_with fail
    go_at_call 24
    refine ((H2.out _)).mono ?_
    rintro e w2 ⟨rfl, hw2⟩
    have cw2_0_0 : w2.cell? ⟨W.heap.size, 0, none⟩ = some (.int .i64 ax) := cell_gr hw2 (by go_simp)
    have cw2_0_1 : w2.cell? ⟨W.heap.size, 1, none⟩ = some (.int .i64 ay) := cell_gr hw2 (by go_simp)
    have zw2_0 : W.heap.size < w2.heap.size := World.block_lt_of_cell? _ _ cw2_0_0
    have cw2_1_0 : w2.cell? ⟨W.heap.size + 1, 0, none⟩ = some (.int .i64 bx) := cell_gr hw2 (by go_simp)
    have cw2_1_1 : w2.cell? ⟨W.heap.size + 1, 1, none⟩ = some (.int .i64 by') := cell_gr hw2 (by go_simp)
    have zw2_1 : W.heap.size + 1 < w2.heap.size := World.block_lt_of_cell? _ _ cw2_1_0
    have cw2_2_0 : w2.cell? ⟨W.heap.size + 1 + 1, 0, none⟩ = some (.int .i64 lx) := cell_gr hw2 (by go_simp)
    have cw2_2_1 : w2.cell? ⟨W.heap.size + 1 + 1, 1, none⟩ = some (.int .i64 ly) := cell_gr hw2 (by go_simp)
    have cw2_2_2 : w2.cell? ⟨W.heap.size + 1 + 1, 2, none⟩ = some (.int .i64 hx) := cell_gr hw2 (by go_simp)
    have cw2_2_3 : w2.cell? ⟨W.heap.size + 1 + 1, 3, none⟩ = some (.int .i64 hy) := cell_gr hw2 (by go_simp)
    have zw2_2 : W.heap.size + 1 + 1 < w2.heap.size := World.block_lt_of_cell? _ _ cw2_2_0
    have gw2 : Gr W w2 := Gr.trans (by have gg := gw1; have gs := gg.size; go_grown) hw2
    clear hw2 gw1 zw1_0 cw1_0_0 cw1_0_1 zw1_1 cw1_1_0 cw1_1_1 zw1_2 cw1_2_0 cw1_2_1 cw1_2_2 cw1_2_3
    go_wp2_with fail
    go_at_call 25
    refine ((H3.out _)).mono ?_
    rintro e w3 ⟨rfl, hw3⟩
    have cw3_0_0 : w3.cell? ⟨W.heap.size, 0, none⟩ = some (.int .i64 ax) := cell_gr hw3 (by go_simp)
    have cw3_0_1 : w3.cell? ⟨W.heap.size, 1, none⟩ = some (.int .i64 ay) := cell_gr hw3 (by go_simp)
    have zw3_0 : W.heap.size < w3.heap.size := World.block_lt_of_cell? _ _ cw3_0_0
    have cw3_1_0 : w3.cell? ⟨W.heap.size + 1, 0, none⟩ = some (.int .i64 bx) := cell_gr hw3 (by go_simp)
    have cw3_1_1 : w3.cell? ⟨W.heap.size + 1, 1, none⟩ = some (.int .i64 by') := cell_gr hw3 (by go_simp)
    have zw3_1 : W.heap.size + 1 < w3.heap.size := World.block_lt_of_cell? _ _ cw3_1_0
    have cw3_2_0 : w3.cell? ⟨W.heap.size + 1 + 1, 0, none⟩ = some (.int .i64 lx) := cell_gr hw3 (by go_simp)
    have cw3_2_1 : w3.cell? ⟨W.heap.size + 1 + 1, 1, none⟩ = some (.int .i64 ly) := cell_gr hw3 (by go_simp)
    have cw3_2_2 : w3.cell? ⟨W.heap.size + 1 + 1, 2, none⟩ = some (.int .i64 hx) := cell_gr hw3 (by go_simp)
    have cw3_2_3 : w3.cell? ⟨W.heap.size + 1 + 1, 3, none⟩ = some (.int .i64 hy) := cell_gr hw3 (by go_simp)
    have zw3_2 : W.heap.size + 1 + 1 < w3.heap.size := World.block_lt_of_cell? _ _ cw3_2_0
    have gw3 : Gr W w3 := Gr.trans (by have gg := gw2; have gs := gg.size; go_grown) hw3
    clear hw3 gw2 zw2_0 cw2_0_0 cw2_0_1 zw2_1 cw2_1_0 cw2_1_1 zw2_2 cw2_2_0 cw2_2_1 cw2_2_2 cw2_2_3
    go_wp2_with fail
    go_ret
    exact ⟨rfl, by go_grown⟩
  · go_enter Tryz.func71, Tryz.ntmps71
    go_wp2_with fail
    go_at_call 24
    refine ((H1.out _)).mono ?_
    rintro e w1 ⟨rfl, hw1⟩
    have cw1_0_0 : w1.cell? ⟨W.heap.size, 0, none⟩ = some (.int .i64 ax) := cell_gr hw1 (by go_simp)
    have cw1_0_1 : w1.cell? ⟨W.heap.size, 1, none⟩ = some (.int .i64 ay) := cell_gr hw1 (by go_simp)
    have zw1_0 : W.heap.size < w1.heap.size := World.block_lt_of_cell? _ _ cw1_0_0
    have cw1_1_0 : w1.cell? ⟨W.heap.size + 1, 0, none⟩ = some (.int .i64 bx) := cell_gr hw1 (by go_simp)
    have cw1_1_1 : w1.cell? ⟨W.heap.size + 1, 1, none⟩ = some (.int .i64 by') := cell_gr hw1 (by go_simp)
    have zw1_1 : W.heap.size + 1 < w1.heap.size := World.block_lt_of_cell? _ _ cw1_1_0
    have cw1_2_0 : w1.cell? ⟨W.heap.size + 1 + 1, 0, none⟩ = some (.int .i64 lx) := cell_gr hw1 (by go_simp)
    have cw1_2_1 : w1.cell? ⟨W.heap.size + 1 + 1, 1, none⟩ = some (.int .i64 ly) := cell_gr hw1 (by go_simp)
    have cw1_2_2 : w1.cell? ⟨W.heap.size + 1 + 1, 2, none⟩ = some (.int .i64 hx) := cell_gr hw1 (by go_simp)
    have cw1_2_3 : w1.cell? ⟨W.heap.size + 1 + 1, 3, none⟩ = some (.int .i64 hy) := cell_gr hw1 (by go_simp)
    have zw1_2 : W.heap.size + 1 + 1 < w1.heap.size := World.block_lt_of_cell? _ _ cw1_2_0
    have gw1 : Gr W w1 := Gr.trans (by go_grown) hw1
    clear hw1
    go_wp2_with fail
    go_at_call 24
    refine ((H2.out _)).mono ?_
    rintro e w2 ⟨rfl, hw2⟩
    have cw2_0_0 : w2.cell? ⟨W.heap.size, 0, none⟩ = some (.int .i64 ax) := cell_gr hw2 (by go_simp)
    have cw2_0_1 : w2.cell? ⟨W.heap.size, 1, none⟩ = some (.int .i64 ay) := cell_gr hw2 (by go_simp)
    have zw2_0 : W.heap.size < w2.heap.size := World.block_lt_of_cell? _ _ cw2_0_0
    have cw2_1_0 : w2.cell? ⟨W.heap.size + 1, 0, none⟩ = some (.int .i64 bx) := cell_gr hw2 (by go_simp)
    have cw2_1_1 : w2.cell? ⟨W.heap.size + 1, 1, none⟩ = some (.int .i64 by') := cell_gr hw2 (by go_simp)
    have zw2_1 : W.heap.size + 1 < w2.heap.size := World.block_lt_of_cell? _ _ cw2_1_0
    have cw2_2_0 : w2.cell? ⟨W.heap.size + 1 + 1, 0, none⟩ = some (.int .i64 lx) := cell_gr hw2 (by go_simp)
    have cw2_2_1 : w2.cell? ⟨W.heap.size + 1 + 1, 1, none⟩ = some (.int .i64 ly) := cell_gr hw2 (by go_simp)
    have cw2_2_2 : w2.cell? ⟨W.heap.size + 1 + 1, 2, none⟩ = some (.int .i64 hx) := cell_gr hw2 (by go_simp)
    have cw2_2_3 : w2.cell? ⟨W.heap.size + 1 + 1, 3, none⟩ = some (.int .i64 hy) := cell_gr hw2 (by go_simp)
    have zw2_2 : W.heap.size + 1 + 1 < w2.heap.size := World.block_lt_of_cell? _ _ cw2_2_0
    have gw2 : Gr W w2 := Gr.trans (by have gg := gw1; have gs := gg.size; go_grown) hw2
    clear hw2 gw1 zw1_0 cw1_0_0 cw1_0_1 zw1_1 cw1_1_0 cw1_1_1 zw1_2 cw1_2_0 cw1_2_1 cw1_2_2 cw1_2_3
    go_wp2_with fail
    go_at_call 25
    refine ((H3.out _)).mono ?_
    rintro e w3 ⟨rfl, hw3⟩
    have cw3_0_0 : w3.cell? ⟨W.heap.size, 0, none⟩ = some (.int .i64 ax) := cell_gr hw3 (by go_simp)
    have cw3_0_1 : w3.cell? ⟨W.heap.size, 1, none⟩ = some (.int .i64 ay) := cell_gr hw3 (by go_simp)
    have zw3_0 : W.heap.size < w3.heap.size := World.block_lt_of_cell? _ _ cw3_0_0
    have cw3_1_0 : w3.cell? ⟨W.heap.size + 1, 0, none⟩ = some (.int .i64 bx) := cell_gr hw3 (by go_simp)
    have cw3_1_1 : w3.cell? ⟨W.heap.size + 1, 1, none⟩ = some (.int .i64 by') := cell_gr hw3 (by go_simp)
    have zw3_1 : W.heap.size + 1 < w3.heap.size := World.block_lt_of_cell? _ _ cw3_1_0
    have cw3_2_0 : w3.cell? ⟨W.heap.size + 1 + 1, 0, none⟩ = some (.int .i64 lx) := cell_gr hw3 (by go_simp)
    have cw3_2_1 : w3.cell? ⟨W.heap.size + 1 + 1, 1, none⟩ = some (.int .i64 ly) := cell_gr hw3 (by go_simp)
    have cw3_2_2 : w3.cell? ⟨W.heap.size + 1 + 1, 2, none⟩ = some (.int .i64 hx) := cell_gr hw3 (by go_simp)
    have cw3_2_3 : w3.cell? ⟨W.heap.size + 1 + 1, 3, none⟩ = some (.int .i64 hy) := cell_gr hw3 (by go_simp)
    have zw3_2 : W.heap.size + 1 + 1 < w3.heap.size := World.block_lt_of_cell? _ _ cw3_2_0
    have gw3 : Gr W w3 := Gr.trans (by have gg := gw2; have gs := gg.size; go_grown) hw3
    clear hw3 gw2 zw2_0 cw2_0_0 cw2_0_1 zw2_1 cw2_1_0 cw2_1_1 zw2_2 cw2_2_0 cw2_2_1 cw2_2_2 cw2_2_3
    go_wp2_with fail
    go_at_call 28
    refine ((H4.out _)).mono ?_
    rintro e w4 ⟨rfl, hw4⟩
    have cw4_0_0 : w4.cell? ⟨W.heap.size, 0, none⟩ = some (.int .i64 ax) := cell_gr hw4 (by go_simp)
    have cw4_0_1 : w4.cell? ⟨W.heap.size, 1, none⟩ = some (.int .i64 ay) := cell_gr hw4 (by go_simp)
    have zw4_0 : W.heap.size < w4.heap.size := World.block_lt_of_cell? _ _ cw4_0_0
    have cw4_1_0 : w4.cell? ⟨W.heap.size + 1, 0, none⟩ = some (.int .i64 bx) := cell_gr hw4 (by go_simp)
    have cw4_1_1 : w4.cell? ⟨W.heap.size + 1, 1, none⟩ = some (.int .i64 by') := cell_gr hw4 (by go_simp)
    have zw4_1 : W.heap.size + 1 < w4.heap.size := World.block_lt_of_cell? _ _ cw4_1_0
    have cw4_2_0 : w4.cell? ⟨W.heap.size + 1 + 1, 0, none⟩ = some (.int .i64 lx) := cell_gr hw4 (by go_simp)
    have cw4_2_1 : w4.cell? ⟨W.heap.size + 1 + 1, 1, none⟩ = some (.int .i64 ly) := cell_gr hw4 (by go_simp)
    have cw4_2_2 : w4.cell? ⟨W.heap.size + 1 + 1, 2, none⟩ = some (.int .i64 hx) := cell_gr hw4 (by go_simp)
    have cw4_2_3 : w4.cell? ⟨W.heap.size + 1 + 1, 3, none⟩ = some (.int .i64 hy) := cell_gr hw4 (by go_simp)
    have zw4_2 : W.heap.size + 1 + 1 < w4.heap.size := World.block_lt_of_cell? _ _ cw4_2_0
    have gw4 : Gr W w4 := Gr.trans (by have gg := gw3; have gs := gg.size; go_grown) hw4
    clear hw4 gw3 zw3_0 cw3_0_0 cw3_0_1 zw3_1 cw3_1_0 cw3_1_1 zw3_2 cw3_2_0 cw3_2_1 cw3_2_2 cw3_2_3
    go_wp2_with fail
    go_ret
    exact ⟨rfl, by go_grown⟩
  · go_enter Tryz.func71, Tryz.ntmps71
    go_wp2_with fail
    go_at_call 24
    refine ((H1.out _)).mono ?_
    rintro e w1 ⟨rfl, hw1⟩
    have cw1_0_0 : w1.cell? ⟨W.heap.size, 0, none⟩ = some (.int .i64 ax) := cell_gr hw1 (by go_simp)
    have cw1_0_1 : w1.cell? ⟨W.heap.size, 1, none⟩ = some (.int .i64 ay) := cell_gr hw1 (by go_simp)
    have zw1_0 : W.heap.size < w1.heap.size := World.block_lt_of_cell? _ _ cw1_0_0
    have cw1_1_0 : w1.cell? ⟨W.heap.size + 1, 0, none⟩ = some (.int .i64 bx) := cell_gr hw1 (by go_simp)
    have cw1_1_1 : w1.cell? ⟨W.heap.size + 1, 1, none⟩ = some (.int .i64 by') := cell_gr hw1 (by go_simp)
    have zw1_1 : W.heap.size + 1 < w1.heap.size := World.block_lt_of_cell? _ _ cw1_1_0
    have cw1_2_0 : w1.cell? ⟨W.heap.size + 1 + 1, 0, none⟩ = some (.int .i64 lx) := cell_gr hw1 (by go_simp)
    have cw1_2_1 : w1.cell? ⟨W.heap.size + 1 + 1, 1, none⟩ = some (.int .i64 ly) := cell_gr hw1 (by go_simp)
    have cw1_2_2 : w1.cell? ⟨W.heap.size + 1 + 1, 2, none⟩ = some (.int .i64 hx) := cell_gr hw1 (by go_simp)
    have cw1_2_3 : w1.cell? ⟨W.heap.size + 1 + 1, 3, none⟩ = some (.int .i64 hy) := cell_gr hw1 (by go_simp)
    have zw1_2 : W.heap.size + 1 + 1 < w1.heap.size := World.block_lt_of_cell? _ _ cw1_2_0
    have gw1 : Gr W w1 := Gr.trans (by go_grown) hw1
    clear hw1
    go_wp2_with fail
    go_at_call 24
    refine ((H2.out _)).mono ?_
    rintro e w2 ⟨rfl, hw2⟩
    have cw2_0_0 : w2.cell? ⟨W.heap.size, 0, none⟩ = some (.int .i64 ax) := cell_gr hw2 (by go_simp)
    have cw2_0_1 : w2.cell? ⟨W.heap.size, 1, none⟩ = some (.int .i64 ay) := cell_gr hw2 (by go_simp)
    have zw2_0 : W.heap.size < w2.heap.size := World.block_lt_of_cell? _ _ cw2_0_0
    have cw2_1_0 : w2.cell? ⟨W.heap.size + 1, 0, none⟩ = some (.int .i64 bx) := cell_gr hw2 (by go_simp)
    have cw2_1_1 : w2.cell? ⟨W.heap.size + 1, 1, none⟩ = some (.int .i64 by') := cell_gr hw2 (by go_simp)
    have zw2_1 : W.heap.size + 1 < w2.heap.size := World.block_lt_of_cell? _ _ cw2_1_0
    have cw2_2_0 : w2.cell? ⟨W.heap.size + 1 + 1, 0, none⟩ = some (.int .i64 lx) := cell_gr hw2 (by go_simp)
    have cw2_2_1 : w2.cell? ⟨W.heap.size + 1 + 1, 1, none⟩ = some (.int .i64 ly) := cell_gr hw2 (by go_simp)
    have cw2_2_2 : w2.cell? ⟨W.heap.size + 1 + 1, 2, none⟩ = some (.int .i64 hx) := cell_gr hw2 (by go_simp)
    have cw2_2_3 : w2.cell? ⟨W.heap.size + 1 + 1, 3, none⟩ = some (.int .i64 hy) := cell_gr hw2 (by go_simp)
    have zw2_2 : W.heap.size + 1 + 1 < w2.heap.size := World.block_lt_of_cell? _ _ cw2_2_0
    have gw2 : Gr W w2 := Gr.trans (by have gg := gw1; have gs := gg.size; go_grown) hw2
    clear hw2 gw1 zw1_0 cw1_0_0 cw1_0_1 zw1_1 cw1_1_0 cw1_1_1 zw1_2 cw1_2_0 cw1_2_1 cw1_2_2 cw1_2_3
    go_wp2_with fail
    go_at_call 25
    refine ((H3.out _)).mono ?_
    rintro e w3 ⟨rfl, hw3⟩
    have cw3_0_0 : w3.cell? ⟨W.heap.size, 0, none⟩ = some (.int .i64 ax) := cell_gr hw3 (by go_simp)
    have cw3_0_1 : w3.cell? ⟨W.heap.size, 1, none⟩ = some (.int .i64 ay) := cell_gr hw3 (by go_simp)
    have zw3_0 : W.heap.size < w3.heap.size := World.block_lt_of_cell? _ _ cw3_0_0
    have cw3_1_0 : w3.cell? ⟨W.heap.size + 1, 0, none⟩ = some (.int .i64 bx) := cell_gr hw3 (by go_simp)
    have cw3_1_1 : w3.cell? ⟨W.heap.size + 1, 1, none⟩ = some (.int .i64 by') := cell_gr hw3 (by go_simp)
    have zw3_1 : W.heap.size + 1 < w3.heap.size := World.block_lt_of_cell? _ _ cw3_1_0
    have cw3_2_0 : w3.cell? ⟨W.heap.size + 1 + 1, 0, none⟩ = some (.int .i64 lx) := cell_gr hw3 (by go_simp)
    have cw3_2_1 : w3.cell? ⟨W.heap.size + 1 + 1, 1, none⟩ = some (.int .i64 ly) := cell_gr hw3 (by go_simp)
    have cw3_2_2 : w3.cell? ⟨W.heap.size + 1 + 1, 2, none⟩ = some (.int .i64 hx) := cell_gr hw3 (by go_simp)
    have cw3_2_3 : w3.cell? ⟨W.heap.size + 1 + 1, 3, none⟩ = some (.int .i64 hy) := cell_gr hw3 (by go_simp)
    have zw3_2 : W.heap.size + 1 + 1 < w3.heap.size := World.block_lt_of_cell? _ _ cw3_2_0
    have gw3 : Gr W w3 := Gr.trans (by have gg := gw2; have gs := gg.size; go_grown) hw3
    clear hw3 gw2 zw2_0 cw2_0_0 cw2_0_1 zw2_1 cw2_1_0 cw2_1_1 zw2_2 cw2_2_0 cw2_2_1 cw2_2_2 cw2_2_3
    go_wp2_with fail
    go_at_call 28
    refine ((H4.out _)).mono ?_
    rintro e w4 ⟨rfl, hw4⟩
    have cw4_0_0 : w4.cell? ⟨W.heap.size, 0, none⟩ = some (.int .i64 ax) := cell_gr hw4 (by go_simp)
    have cw4_0_1 : w4.cell? ⟨W.heap.size, 1, none⟩ = some (.int .i64 ay) := cell_gr hw4 (by go_simp)
    have zw4_0 : W.heap.size < w4.heap.size := World.block_lt_of_cell? _ _ cw4_0_0
    have cw4_1_0 : w4.cell? ⟨W.heap.size + 1, 0, none⟩ = some (.int .i64 bx) := cell_gr hw4 (by go_simp)
    have cw4_1_1 : w4.cell? ⟨W.heap.size + 1, 1, none⟩ = some (.int .i64 by') := cell_gr hw4 (by go_simp)
    have zw4_1 : W.heap.size + 1 < w4.heap.size := World.block_lt_of_cell? _ _ cw4_1_0
    have cw4_2_0 : w4.cell? ⟨W.heap.size + 1 + 1, 0, none⟩ = some (.int .i64 lx) := cell_gr hw4 (by go_simp)
    have cw4_2_1 : w4.cell? ⟨W.heap.size + 1 + 1, 1, none⟩ = some (.int .i64 ly) := cell_gr hw4 (by go_simp)
    have cw4_2_2 : w4.cell? ⟨W.heap.size + 1 + 1, 2, none⟩ = some (.int .i64 hx) := cell_gr hw4 (by go_simp)
    have cw4_2_3 : w4.cell? ⟨W.heap.size + 1 + 1, 3, none⟩ = some (.int .i64 hy) := cell_gr hw4 (by go_simp)
    have zw4_2 : W.heap.size + 1 + 1 < w4.heap.size := World.block_lt_of_cell? _ _ cw4_2_0
    have gw4 : Gr W w4 := Gr.trans (by have gg := gw3; have gs := gg.size; go_grown) hw4
    clear hw4 gw3 zw3_0 cw3_0_0 cw3_0_1 zw3_1 cw3_1_0 cw3_1_1 zw3_2 cw3_2_0 cw3_2_1 cw3_2_2 cw3_2_3
    go_wp2_with fail
    go_at_call 28
    refine ((H5.out _)).mono ?_
    rintro e w5 ⟨rfl, hw5⟩
    have cw5_0_0 : w5.cell? ⟨W.heap.size, 0, none⟩ = some (.int .i64 ax) := cell_gr hw5 (by go_simp)
    have cw5_0_1 : w5.cell? ⟨W.heap.size, 1, none⟩ = some (.int .i64 ay) := cell_gr hw5 (by go_simp)
    have zw5_0 : W.heap.size < w5.heap.size := World.block_lt_of_cell? _ _ cw5_0_0
    have cw5_1_0 : w5.cell? ⟨W.heap.size + 1, 0, none⟩ = some (.int .i64 bx) := cell_gr hw5 (by go_simp)
    have cw5_1_1 : w5.cell? ⟨W.heap.size + 1, 1, none⟩ = some (.int .i64 by') := cell_gr hw5 (by go_simp)
    have zw5_1 : W.heap.size + 1 < w5.heap.size := World.block_lt_of_cell? _ _ cw5_1_0
    have cw5_2_0 : w5.cell? ⟨W.heap.size + 1 + 1, 0, none⟩ = some (.int .i64 lx) := cell_gr hw5 (by go_simp)
    have cw5_2_1 : w5.cell? ⟨W.heap.size + 1 + 1, 1, none⟩ = some (.int .i64 ly) := cell_gr hw5 (by go_simp)
    have cw5_2_2 : w5.cell? ⟨W.heap.size + 1 + 1, 2, none⟩ = some (.int .i64 hx) := cell_gr hw5 (by go_simp)
    have cw5_2_3 : w5.cell? ⟨W.heap.size + 1 + 1, 3, none⟩ = some (.int .i64 hy) := cell_gr hw5 (by go_simp)
    have zw5_2 : W.heap.size + 1 + 1 < w5.heap.size := World.block_lt_of_cell? _ _ cw5_2_0
    have gw5 : Gr W w5 := Gr.trans (by have gg := gw4; have gs := gg.size; go_grown) hw5
    clear hw5 gw4 zw4_0 cw4_0_0 cw4_0_1 zw4_1 cw4_1_0 cw4_1_1 zw4_2 cw4_2_0 cw4_2_1 cw4_2_2 cw4_2_3
    go_wp2_with fail
    go_ret
    exact ⟨rfl, by go_grown⟩
set_option maxHeartbeats 8000000 in
set_option maxRecDepth 100000 in
theorem rmb_in (ax ay bx by' lx ly hx hy : Int) (m0 m1 m2 m3 r : Bool) (W : World)
    (hc : (m0 = true ∧ r = true) ∨ (m0 = false ∧ m1 = true ∧ r = true) ∨ (m0 = false ∧ m1 = false ∧ m2 = true ∧ r = true) ∨ (m0 = false ∧ m1 = false ∧ m2 = false ∧ m3 = true ∧ r = true) ∨ (m0 = false ∧ m1 = false ∧ m2 = false ∧ m3 = false ∧ r = false))
    (A1 : ∀ w, Calls Tryz.prog 24 #[.agg #[.int .i64 ax, .int .i64 ay]] w fun e w' => e = .returned (.bool true) ∧ Gr w w')
    (A2 : ∀ w, Calls Tryz.prog 24 #[.agg #[.int .i64 bx, .int .i64 by']] w fun e w' => e = .returned (.bool true) ∧ Gr w w')
    (A3 : ∀ w, Calls Tryz.prog 25 #[.agg #[.int .i64 lx, .int .i64 ly, .int .i64 hx, .int .i64 hy]] w fun e w' => e = .returned (.int .i64 0) ∧ Gr w w')
    (A4 : ∀ w, Calls Tryz.prog 28 #[.agg #[.int .i64 lx, .int .i64 ly, .int .i64 hx, .int .i64 hy], .agg #[.int .i64 ax, .int .i64 ay]] w fun e w' => e = .returned (.bool false) ∧ Gr w w')
    (A5 : ∀ w, Calls Tryz.prog 28 #[.agg #[.int .i64 lx, .int .i64 ly, .int .i64 hx, .int .i64 hy], .agg #[.int .i64 bx, .int .i64 by']] w fun e w' => e = .returned (.bool false) ∧ Gr w w')
    (A6 : ∀ w, Calls Tryz.prog 70 #[.agg #[.int .i64 ax, .int .i64 ay], .agg #[.int .i64 bx, .int .i64 by'], .agg #[.int .i64 lx, .int .i64 ly], .agg #[.int .i64 hx, .int .i64 ly]] w fun e w' => e = .returned (.bool m0) ∧ Gr w w')
    (A7 : ∀ w, Calls Tryz.prog 70 #[.agg #[.int .i64 ax, .int .i64 ay], .agg #[.int .i64 bx, .int .i64 by'], .agg #[.int .i64 hx, .int .i64 ly], .agg #[.int .i64 hx, .int .i64 hy]] w fun e w' => e = .returned (.bool m1) ∧ Gr w w')
    (A8 : ∀ w, Calls Tryz.prog 70 #[.agg #[.int .i64 ax, .int .i64 ay], .agg #[.int .i64 bx, .int .i64 by'], .agg #[.int .i64 hx, .int .i64 hy], .agg #[.int .i64 lx, .int .i64 hy]] w fun e w' => e = .returned (.bool m2) ∧ Gr w w')
    (A9 : ∀ w, Calls Tryz.prog 70 #[.agg #[.int .i64 ax, .int .i64 ay], .agg #[.int .i64 bx, .int .i64 by'], .agg #[.int .i64 lx, .int .i64 hy], .agg #[.int .i64 lx, .int .i64 ly]] w fun e w' => e = .returned (.bool m3) ∧ Gr w w') :
    Calls Tryz.prog 71 #[.agg #[.int .i64 ax, .int .i64 ay], .agg #[.int .i64 bx, .int .i64 by'], .agg #[.int .i64 lx, .int .i64 ly, .int .i64 hx, .int .i64 hy]] W fun e w' => e = .returned (.bool r) ∧ Gr W w' := by
  have H1 := Lib.hid A1
  have H2 := Lib.hid A2
  have H3 := Lib.hid A3
  have H4 := Lib.hid A4
  have H5 := Lib.hid A5
  have H6 := Lib.hid A6
  have H7 := Lib.hid A7
  have H8 := Lib.hid A8
  have H9 := Lib.hid A9
  clear A1 A2 A3 A4 A5 A6 A7 A8 A9
  have HC := Lib.hid (c_corners lx ly hx hy)
  rcases hc with ⟨rfl, rfl⟩ | ⟨rfl, rfl, rfl⟩ | ⟨rfl, rfl, rfl, rfl⟩ | ⟨rfl, rfl, rfl, rfl, rfl⟩ | ⟨rfl, rfl, rfl, rfl, rfl⟩
  · go_enter Tryz.func71, Tryz.ntmps71
    go_wp2_with fail
    go_at_call 24
    refine ((H1.out _)).mono ?_
    rintro e w1 ⟨rfl, hw1⟩
    have cw1_0_0 : w1.cell? ⟨W.heap.size, 0, none⟩ = some (.int .i64 ax) := cell_gr hw1 (by go_simp)
    have cw1_0_1 : w1.cell? ⟨W.heap.size, 1, none⟩ = some (.int .i64 ay) := cell_gr hw1 (by go_simp)
    have zw1_0 : W.heap.size < w1.heap.size := World.block_lt_of_cell? _ _ cw1_0_0
    have cw1_1_0 : w1.cell? ⟨W.heap.size + 1, 0, none⟩ = some (.int .i64 bx) := cell_gr hw1 (by go_simp)
    have cw1_1_1 : w1.cell? ⟨W.heap.size + 1, 1, none⟩ = some (.int .i64 by') := cell_gr hw1 (by go_simp)
    have zw1_1 : W.heap.size + 1 < w1.heap.size := World.block_lt_of_cell? _ _ cw1_1_0
    have cw1_2_0 : w1.cell? ⟨W.heap.size + 1 + 1, 0, none⟩ = some (.int .i64 lx) := cell_gr hw1 (by go_simp)
    have cw1_2_1 : w1.cell? ⟨W.heap.size + 1 + 1, 1, none⟩ = some (.int .i64 ly) := cell_gr hw1 (by go_simp)
    have cw1_2_2 : w1.cell? ⟨W.heap.size + 1 + 1, 2, none⟩ = some (.int .i64 hx) := cell_gr hw1 (by go_simp)
    have cw1_2_3 : w1.cell? ⟨W.heap.size + 1 + 1, 3, none⟩ = some (.int .i64 hy) := cell_gr hw1 (by go_simp)
    have zw1_2 : W.heap.size + 1 + 1 < w1.heap.size := World.block_lt_of_cell? _ _ cw1_2_0
    have gw1 : Gr W w1 := Gr.trans (by go_grown) hw1
    clear hw1
    go_wp2_with fail
    go_at_call 24
    refine ((H2.out _)).mono ?_
    rintro e w2 ⟨rfl, hw2⟩
    have cw2_0_0 : w2.cell? ⟨W.heap.size, 0, none⟩ = some (.int .i64 ax) := cell_gr hw2 (by go_simp)
    have cw2_0_1 : w2.cell? ⟨W.heap.size, 1, none⟩ = some (.int .i64 ay) := cell_gr hw2 (by go_simp)
    have zw2_0 : W.heap.size < w2.heap.size := World.block_lt_of_cell? _ _ cw2_0_0
    have cw2_1_0 : w2.cell? ⟨W.heap.size + 1, 0, none⟩ = some (.int .i64 bx) := cell_gr hw2 (by go_simp)
    have cw2_1_1 : w2.cell? ⟨W.heap.size + 1, 1, none⟩ = some (.int .i64 by') := cell_gr hw2 (by go_simp)
    have zw2_1 : W.heap.size + 1 < w2.heap.size := World.block_lt_of_cell? _ _ cw2_1_0
    have cw2_2_0 : w2.cell? ⟨W.heap.size + 1 + 1, 0, none⟩ = some (.int .i64 lx) := cell_gr hw2 (by go_simp)
    have cw2_2_1 : w2.cell? ⟨W.heap.size + 1 + 1, 1, none⟩ = some (.int .i64 ly) := cell_gr hw2 (by go_simp)
    have cw2_2_2 : w2.cell? ⟨W.heap.size + 1 + 1, 2, none⟩ = some (.int .i64 hx) := cell_gr hw2 (by go_simp)
    have cw2_2_3 : w2.cell? ⟨W.heap.size + 1 + 1, 3, none⟩ = some (.int .i64 hy) := cell_gr hw2 (by go_simp)
    have zw2_2 : W.heap.size + 1 + 1 < w2.heap.size := World.block_lt_of_cell? _ _ cw2_2_0
    have gw2 : Gr W w2 := Gr.trans (by have gg := gw1; have gs := gg.size; go_grown) hw2
    clear hw2 gw1 zw1_0 cw1_0_0 cw1_0_1 zw1_1 cw1_1_0 cw1_1_1 zw1_2 cw1_2_0 cw1_2_1 cw1_2_2 cw1_2_3
    go_wp2_with fail
    go_at_call 25
    refine ((H3.out _)).mono ?_
    rintro e w3 ⟨rfl, hw3⟩
    have cw3_0_0 : w3.cell? ⟨W.heap.size, 0, none⟩ = some (.int .i64 ax) := cell_gr hw3 (by go_simp)
    have cw3_0_1 : w3.cell? ⟨W.heap.size, 1, none⟩ = some (.int .i64 ay) := cell_gr hw3 (by go_simp)
    have zw3_0 : W.heap.size < w3.heap.size := World.block_lt_of_cell? _ _ cw3_0_0
    have cw3_1_0 : w3.cell? ⟨W.heap.size + 1, 0, none⟩ = some (.int .i64 bx) := cell_gr hw3 (by go_simp)
    have cw3_1_1 : w3.cell? ⟨W.heap.size + 1, 1, none⟩ = some (.int .i64 by') := cell_gr hw3 (by go_simp)
    have zw3_1 : W.heap.size + 1 < w3.heap.size := World.block_lt_of_cell? _ _ cw3_1_0
    have cw3_2_0 : w3.cell? ⟨W.heap.size + 1 + 1, 0, none⟩ = some (.int .i64 lx) := cell_gr hw3 (by go_simp)
    have cw3_2_1 : w3.cell? ⟨W.heap.size + 1 + 1, 1, none⟩ = some (.int .i64 ly) := cell_gr hw3 (by go_simp)
    have cw3_2_2 : w3.cell? ⟨W.heap.size + 1 + 1, 2, none⟩ = some (.int .i64 hx) := cell_gr hw3 (by go_simp)
    have cw3_2_3 : w3.cell? ⟨W.heap.size + 1 + 1, 3, none⟩ = some (.int .i64 hy) := cell_gr hw3 (by go_simp)
    have zw3_2 : W.heap.size + 1 + 1 < w3.heap.size := World.block_lt_of_cell? _ _ cw3_2_0
    have gw3 : Gr W w3 := Gr.trans (by have gg := gw2; have gs := gg.size; go_grown) hw3
    clear hw3 gw2 zw2_0 cw2_0_0 cw2_0_1 zw2_1 cw2_1_0 cw2_1_1 zw2_2 cw2_2_0 cw2_2_1 cw2_2_2 cw2_2_3
    go_wp2_with fail
    go_at_call 28
    refine ((H4.out _)).mono ?_
    rintro e w4 ⟨rfl, hw4⟩
    have cw4_0_0 : w4.cell? ⟨W.heap.size, 0, none⟩ = some (.int .i64 ax) := cell_gr hw4 (by go_simp)
    have cw4_0_1 : w4.cell? ⟨W.heap.size, 1, none⟩ = some (.int .i64 ay) := cell_gr hw4 (by go_simp)
    have zw4_0 : W.heap.size < w4.heap.size := World.block_lt_of_cell? _ _ cw4_0_0
    have cw4_1_0 : w4.cell? ⟨W.heap.size + 1, 0, none⟩ = some (.int .i64 bx) := cell_gr hw4 (by go_simp)
    have cw4_1_1 : w4.cell? ⟨W.heap.size + 1, 1, none⟩ = some (.int .i64 by') := cell_gr hw4 (by go_simp)
    have zw4_1 : W.heap.size + 1 < w4.heap.size := World.block_lt_of_cell? _ _ cw4_1_0
    have cw4_2_0 : w4.cell? ⟨W.heap.size + 1 + 1, 0, none⟩ = some (.int .i64 lx) := cell_gr hw4 (by go_simp)
    have cw4_2_1 : w4.cell? ⟨W.heap.size + 1 + 1, 1, none⟩ = some (.int .i64 ly) := cell_gr hw4 (by go_simp)
    have cw4_2_2 : w4.cell? ⟨W.heap.size + 1 + 1, 2, none⟩ = some (.int .i64 hx) := cell_gr hw4 (by go_simp)
    have cw4_2_3 : w4.cell? ⟨W.heap.size + 1 + 1, 3, none⟩ = some (.int .i64 hy) := cell_gr hw4 (by go_simp)
    have zw4_2 : W.heap.size + 1 + 1 < w4.heap.size := World.block_lt_of_cell? _ _ cw4_2_0
    have gw4 : Gr W w4 := Gr.trans (by have gg := gw3; have gs := gg.size; go_grown) hw4
    clear hw4 gw3 zw3_0 cw3_0_0 cw3_0_1 zw3_1 cw3_1_0 cw3_1_1 zw3_2 cw3_2_0 cw3_2_1 cw3_2_2 cw3_2_3
    go_wp2_with fail
    go_at_call 28
    refine ((H5.out _)).mono ?_
    rintro e w5 ⟨rfl, hw5⟩
    have cw5_0_0 : w5.cell? ⟨W.heap.size, 0, none⟩ = some (.int .i64 ax) := cell_gr hw5 (by go_simp)
    have cw5_0_1 : w5.cell? ⟨W.heap.size, 1, none⟩ = some (.int .i64 ay) := cell_gr hw5 (by go_simp)
    have zw5_0 : W.heap.size < w5.heap.size := World.block_lt_of_cell? _ _ cw5_0_0
    have cw5_1_0 : w5.cell? ⟨W.heap.size + 1, 0, none⟩ = some (.int .i64 bx) := cell_gr hw5 (by go_simp)
    have cw5_1_1 : w5.cell? ⟨W.heap.size + 1, 1, none⟩ = some (.int .i64 by') := cell_gr hw5 (by go_simp)
    have zw5_1 : W.heap.size + 1 < w5.heap.size := World.block_lt_of_cell? _ _ cw5_1_0
    have cw5_2_0 : w5.cell? ⟨W.heap.size + 1 + 1, 0, none⟩ = some (.int .i64 lx) := cell_gr hw5 (by go_simp)
    have cw5_2_1 : w5.cell? ⟨W.heap.size + 1 + 1, 1, none⟩ = some (.int .i64 ly) := cell_gr hw5 (by go_simp)
    have cw5_2_2 : w5.cell? ⟨W.heap.size + 1 + 1, 2, none⟩ = some (.int .i64 hx) := cell_gr hw5 (by go_simp)
    have cw5_2_3 : w5.cell? ⟨W.heap.size + 1 + 1, 3, none⟩ = some (.int .i64 hy) := cell_gr hw5 (by go_simp)
    have zw5_2 : W.heap.size + 1 + 1 < w5.heap.size := World.block_lt_of_cell? _ _ cw5_2_0
    have gw5 : Gr W w5 := Gr.trans (by have gg := gw4; have gs := gg.size; go_grown) hw5
    clear hw5 gw4 zw4_0 cw4_0_0 cw4_0_1 zw4_1 cw4_1_0 cw4_1_1 zw4_2 cw4_2_0 cw4_2_1 cw4_2_2 cw4_2_3
    go_wp2_with fail
    go_at_call 107
    refine (HC.out _).mono ?_
    rintro e x0 ⟨G, rfl, j0, j1, j2, j3, j4, j5, j6, j7, hx0⟩
    have gx0 : Gr W x0 := Gr.trans (by have gg := gw5; have gs := gg.size; go_grown) hx0
    have y0 : x0.cell? ⟨W.heap.size, 0, none⟩ = some (.int .i64 ax) := cell_gr hx0 (by go_simp)
    have y1 : x0.cell? ⟨W.heap.size, 1, none⟩ = some (.int .i64 ay) := cell_gr hx0 (by go_simp)
    have y2 : x0.cell? ⟨W.heap.size + 1, 0, none⟩ = some (.int .i64 bx) := cell_gr hx0 (by go_simp)
    have y3 : x0.cell? ⟨W.heap.size + 1, 1, none⟩ = some (.int .i64 by') := cell_gr hx0 (by go_simp)
    have y4 : x0.cell? ⟨W.heap.size + 1 + 1, 0, none⟩ = some (.int .i64 lx) := cell_gr hx0 (by go_simp)
    have y5 : x0.cell? ⟨W.heap.size + 1 + 1, 1, none⟩ = some (.int .i64 ly) := cell_gr hx0 (by go_simp)
    have y6 : x0.cell? ⟨W.heap.size + 1 + 1, 2, none⟩ = some (.int .i64 hx) := cell_gr hx0 (by go_simp)
    have y7 : x0.cell? ⟨W.heap.size + 1 + 1, 3, none⟩ = some (.int .i64 hy) := cell_gr hx0 (by go_simp)
    have u0 := World.block_lt_of_cell? _ _ y0
    have u1 := World.block_lt_of_cell? _ _ y2
    have u2 := World.block_lt_of_cell? _ _ y4
    have u3 := World.block_lt_of_cell? _ _ j0
    clear hx0 gw5 zw5_0 cw5_0_0 cw5_0_1 zw5_1 cw5_1_0 cw5_1_1 zw5_2 cw5_2_0 cw5_2_1 cw5_2_2 cw5_2_3
    go_wp2_with fail
    refine wp_loop_rounds 5 ?_
    rw [rounds_succ]
    go_wp2_with fail
    go_wp2_with fail
    refine wp_region_spread (by kernel_rfl) (by kernel_rfl) ?_
    try simp only [List.append]
    repeat (first | go_big_quiet_skip | (go_big_quiet_want; go_big_quiet_op; (first | go_big_quiet_on | (apply Exists.intro; refine ⟨fun _ => ?_, ?_⟩; (· (first | (go_at_call 70; first | ((with_reducible refine ((H6.out _)).mono ?_); rintro e w' ⟨rfl, hg⟩; exact ⟨rfl, spread_gr hg⟩)))); go_big_quiet_on))))
    refine wpQuiet_nil ?_
    intro v1 hhv1
    have hv1 := Hd.gr_of_spread hhv1
    have cv1_0_0 : v1.cell? ⟨W.heap.size, 0, none⟩ = some (.int .i64 ax) := cell_gr hv1 (by go_simp)
    have cv1_0_1 : v1.cell? ⟨W.heap.size, 1, none⟩ = some (.int .i64 ay) := cell_gr hv1 (by go_simp)
    have zv1_0 : W.heap.size < v1.heap.size := World.block_lt_of_cell? _ _ cv1_0_0
    have cv1_1_0 : v1.cell? ⟨W.heap.size + 1, 0, none⟩ = some (.int .i64 bx) := cell_gr hv1 (by go_simp)
    have cv1_1_1 : v1.cell? ⟨W.heap.size + 1, 1, none⟩ = some (.int .i64 by') := cell_gr hv1 (by go_simp)
    have zv1_1 : W.heap.size + 1 < v1.heap.size := World.block_lt_of_cell? _ _ cv1_1_0
    have cv1_2_0 : v1.cell? ⟨W.heap.size + 1 + 1, 0, none⟩ = some (.int .i64 lx) := cell_gr hv1 (by go_simp)
    have cv1_2_1 : v1.cell? ⟨W.heap.size + 1 + 1, 1, none⟩ = some (.int .i64 ly) := cell_gr hv1 (by go_simp)
    have cv1_2_2 : v1.cell? ⟨W.heap.size + 1 + 1, 2, none⟩ = some (.int .i64 hx) := cell_gr hv1 (by go_simp)
    have cv1_2_3 : v1.cell? ⟨W.heap.size + 1 + 1, 3, none⟩ = some (.int .i64 hy) := cell_gr hv1 (by go_simp)
    have zv1_2 : W.heap.size + 1 + 1 < v1.heap.size := World.block_lt_of_cell? _ _ cv1_2_0
    have cv1_3_0 : v1.cell? ⟨G, 0, none⟩ = some (.int .i64 lx) := cell_gr hv1 (by go_simp)
    have cv1_3_1 : v1.cell? ⟨G, 1, none⟩ = some (.int .i64 ly) := cell_gr hv1 (by go_simp)
    have cv1_3_2 : v1.cell? ⟨G, 2, none⟩ = some (.int .i64 hx) := cell_gr hv1 (by go_simp)
    have cv1_3_3 : v1.cell? ⟨G, 3, none⟩ = some (.int .i64 ly) := cell_gr hv1 (by go_simp)
    have cv1_3_4 : v1.cell? ⟨G, 4, none⟩ = some (.int .i64 hx) := cell_gr hv1 (by go_simp)
    have cv1_3_5 : v1.cell? ⟨G, 5, none⟩ = some (.int .i64 hy) := cell_gr hv1 (by go_simp)
    have cv1_3_6 : v1.cell? ⟨G, 6, none⟩ = some (.int .i64 lx) := cell_gr hv1 (by go_simp)
    have cv1_3_7 : v1.cell? ⟨G, 7, none⟩ = some (.int .i64 hy) := cell_gr hv1 (by go_simp)
    have zv1_3 : G < v1.heap.size := World.block_lt_of_cell? _ _ cv1_3_0
    have gv1 : Gr W v1 := Gr.trans (by have gg := gx0; have gs := gg.size; go_grown) hv1
    clear hv1 hhv1 gx0
    go_wp2_with fail
    go_ret
    exact ⟨rfl, gv1⟩
  · go_enter Tryz.func71, Tryz.ntmps71
    go_wp2_with fail
    go_at_call 24
    refine ((H1.out _)).mono ?_
    rintro e w1 ⟨rfl, hw1⟩
    have cw1_0_0 : w1.cell? ⟨W.heap.size, 0, none⟩ = some (.int .i64 ax) := cell_gr hw1 (by go_simp)
    have cw1_0_1 : w1.cell? ⟨W.heap.size, 1, none⟩ = some (.int .i64 ay) := cell_gr hw1 (by go_simp)
    have zw1_0 : W.heap.size < w1.heap.size := World.block_lt_of_cell? _ _ cw1_0_0
    have cw1_1_0 : w1.cell? ⟨W.heap.size + 1, 0, none⟩ = some (.int .i64 bx) := cell_gr hw1 (by go_simp)
    have cw1_1_1 : w1.cell? ⟨W.heap.size + 1, 1, none⟩ = some (.int .i64 by') := cell_gr hw1 (by go_simp)
    have zw1_1 : W.heap.size + 1 < w1.heap.size := World.block_lt_of_cell? _ _ cw1_1_0
    have cw1_2_0 : w1.cell? ⟨W.heap.size + 1 + 1, 0, none⟩ = some (.int .i64 lx) := cell_gr hw1 (by go_simp)
    have cw1_2_1 : w1.cell? ⟨W.heap.size + 1 + 1, 1, none⟩ = some (.int .i64 ly) := cell_gr hw1 (by go_simp)
    have cw1_2_2 : w1.cell? ⟨W.heap.size + 1 + 1, 2, none⟩ = some (.int .i64 hx) := cell_gr hw1 (by go_simp)
    have cw1_2_3 : w1.cell? ⟨W.heap.size + 1 + 1, 3, none⟩ = some (.int .i64 hy) := cell_gr hw1 (by go_simp)
    have zw1_2 : W.heap.size + 1 + 1 < w1.heap.size := World.block_lt_of_cell? _ _ cw1_2_0
    have gw1 : Gr W w1 := Gr.trans (by go_grown) hw1
    clear hw1
    go_wp2_with fail
    go_at_call 24
    refine ((H2.out _)).mono ?_
    rintro e w2 ⟨rfl, hw2⟩
    have cw2_0_0 : w2.cell? ⟨W.heap.size, 0, none⟩ = some (.int .i64 ax) := cell_gr hw2 (by go_simp)
    have cw2_0_1 : w2.cell? ⟨W.heap.size, 1, none⟩ = some (.int .i64 ay) := cell_gr hw2 (by go_simp)
    have zw2_0 : W.heap.size < w2.heap.size := World.block_lt_of_cell? _ _ cw2_0_0
    have cw2_1_0 : w2.cell? ⟨W.heap.size + 1, 0, none⟩ = some (.int .i64 bx) := cell_gr hw2 (by go_simp)
    have cw2_1_1 : w2.cell? ⟨W.heap.size + 1, 1, none⟩ = some (.int .i64 by') := cell_gr hw2 (by go_simp)
    have zw2_1 : W.heap.size + 1 < w2.heap.size := World.block_lt_of_cell? _ _ cw2_1_0
    have cw2_2_0 : w2.cell? ⟨W.heap.size + 1 + 1, 0, none⟩ = some (.int .i64 lx) := cell_gr hw2 (by go_simp)
    have cw2_2_1 : w2.cell? ⟨W.heap.size + 1 + 1, 1, none⟩ = some (.int .i64 ly) := cell_gr hw2 (by go_simp)
    have cw2_2_2 : w2.cell? ⟨W.heap.size + 1 + 1, 2, none⟩ = some (.int .i64 hx) := cell_gr hw2 (by go_simp)
    have cw2_2_3 : w2.cell? ⟨W.heap.size + 1 + 1, 3, none⟩ = some (.int .i64 hy) := cell_gr hw2 (by go_simp)
    have zw2_2 : W.heap.size + 1 + 1 < w2.heap.size := World.block_lt_of_cell? _ _ cw2_2_0
    have gw2 : Gr W w2 := Gr.trans (by have gg := gw1; have gs := gg.size; go_grown) hw2
    clear hw2 gw1 zw1_0 cw1_0_0 cw1_0_1 zw1_1 cw1_1_0 cw1_1_1 zw1_2 cw1_2_0 cw1_2_1 cw1_2_2 cw1_2_3
    go_wp2_with fail
    go_at_call 25
    refine ((H3.out _)).mono ?_
    rintro e w3 ⟨rfl, hw3⟩
    have cw3_0_0 : w3.cell? ⟨W.heap.size, 0, none⟩ = some (.int .i64 ax) := cell_gr hw3 (by go_simp)
    have cw3_0_1 : w3.cell? ⟨W.heap.size, 1, none⟩ = some (.int .i64 ay) := cell_gr hw3 (by go_simp)
    have zw3_0 : W.heap.size < w3.heap.size := World.block_lt_of_cell? _ _ cw3_0_0
    have cw3_1_0 : w3.cell? ⟨W.heap.size + 1, 0, none⟩ = some (.int .i64 bx) := cell_gr hw3 (by go_simp)
    have cw3_1_1 : w3.cell? ⟨W.heap.size + 1, 1, none⟩ = some (.int .i64 by') := cell_gr hw3 (by go_simp)
    have zw3_1 : W.heap.size + 1 < w3.heap.size := World.block_lt_of_cell? _ _ cw3_1_0
    have cw3_2_0 : w3.cell? ⟨W.heap.size + 1 + 1, 0, none⟩ = some (.int .i64 lx) := cell_gr hw3 (by go_simp)
    have cw3_2_1 : w3.cell? ⟨W.heap.size + 1 + 1, 1, none⟩ = some (.int .i64 ly) := cell_gr hw3 (by go_simp)
    have cw3_2_2 : w3.cell? ⟨W.heap.size + 1 + 1, 2, none⟩ = some (.int .i64 hx) := cell_gr hw3 (by go_simp)
    have cw3_2_3 : w3.cell? ⟨W.heap.size + 1 + 1, 3, none⟩ = some (.int .i64 hy) := cell_gr hw3 (by go_simp)
    have zw3_2 : W.heap.size + 1 + 1 < w3.heap.size := World.block_lt_of_cell? _ _ cw3_2_0
    have gw3 : Gr W w3 := Gr.trans (by have gg := gw2; have gs := gg.size; go_grown) hw3
    clear hw3 gw2 zw2_0 cw2_0_0 cw2_0_1 zw2_1 cw2_1_0 cw2_1_1 zw2_2 cw2_2_0 cw2_2_1 cw2_2_2 cw2_2_3
    go_wp2_with fail
    go_at_call 28
    refine ((H4.out _)).mono ?_
    rintro e w4 ⟨rfl, hw4⟩
    have cw4_0_0 : w4.cell? ⟨W.heap.size, 0, none⟩ = some (.int .i64 ax) := cell_gr hw4 (by go_simp)
    have cw4_0_1 : w4.cell? ⟨W.heap.size, 1, none⟩ = some (.int .i64 ay) := cell_gr hw4 (by go_simp)
    have zw4_0 : W.heap.size < w4.heap.size := World.block_lt_of_cell? _ _ cw4_0_0
    have cw4_1_0 : w4.cell? ⟨W.heap.size + 1, 0, none⟩ = some (.int .i64 bx) := cell_gr hw4 (by go_simp)
    have cw4_1_1 : w4.cell? ⟨W.heap.size + 1, 1, none⟩ = some (.int .i64 by') := cell_gr hw4 (by go_simp)
    have zw4_1 : W.heap.size + 1 < w4.heap.size := World.block_lt_of_cell? _ _ cw4_1_0
    have cw4_2_0 : w4.cell? ⟨W.heap.size + 1 + 1, 0, none⟩ = some (.int .i64 lx) := cell_gr hw4 (by go_simp)
    have cw4_2_1 : w4.cell? ⟨W.heap.size + 1 + 1, 1, none⟩ = some (.int .i64 ly) := cell_gr hw4 (by go_simp)
    have cw4_2_2 : w4.cell? ⟨W.heap.size + 1 + 1, 2, none⟩ = some (.int .i64 hx) := cell_gr hw4 (by go_simp)
    have cw4_2_3 : w4.cell? ⟨W.heap.size + 1 + 1, 3, none⟩ = some (.int .i64 hy) := cell_gr hw4 (by go_simp)
    have zw4_2 : W.heap.size + 1 + 1 < w4.heap.size := World.block_lt_of_cell? _ _ cw4_2_0
    have gw4 : Gr W w4 := Gr.trans (by have gg := gw3; have gs := gg.size; go_grown) hw4
    clear hw4 gw3 zw3_0 cw3_0_0 cw3_0_1 zw3_1 cw3_1_0 cw3_1_1 zw3_2 cw3_2_0 cw3_2_1 cw3_2_2 cw3_2_3
    go_wp2_with fail
    go_at_call 28
    refine ((H5.out _)).mono ?_
    rintro e w5 ⟨rfl, hw5⟩
    have cw5_0_0 : w5.cell? ⟨W.heap.size, 0, none⟩ = some (.int .i64 ax) := cell_gr hw5 (by go_simp)
    have cw5_0_1 : w5.cell? ⟨W.heap.size, 1, none⟩ = some (.int .i64 ay) := cell_gr hw5 (by go_simp)
    have zw5_0 : W.heap.size < w5.heap.size := World.block_lt_of_cell? _ _ cw5_0_0
    have cw5_1_0 : w5.cell? ⟨W.heap.size + 1, 0, none⟩ = some (.int .i64 bx) := cell_gr hw5 (by go_simp)
    have cw5_1_1 : w5.cell? ⟨W.heap.size + 1, 1, none⟩ = some (.int .i64 by') := cell_gr hw5 (by go_simp)
    have zw5_1 : W.heap.size + 1 < w5.heap.size := World.block_lt_of_cell? _ _ cw5_1_0
    have cw5_2_0 : w5.cell? ⟨W.heap.size + 1 + 1, 0, none⟩ = some (.int .i64 lx) := cell_gr hw5 (by go_simp)
    have cw5_2_1 : w5.cell? ⟨W.heap.size + 1 + 1, 1, none⟩ = some (.int .i64 ly) := cell_gr hw5 (by go_simp)
    have cw5_2_2 : w5.cell? ⟨W.heap.size + 1 + 1, 2, none⟩ = some (.int .i64 hx) := cell_gr hw5 (by go_simp)
    have cw5_2_3 : w5.cell? ⟨W.heap.size + 1 + 1, 3, none⟩ = some (.int .i64 hy) := cell_gr hw5 (by go_simp)
    have zw5_2 : W.heap.size + 1 + 1 < w5.heap.size := World.block_lt_of_cell? _ _ cw5_2_0
    have gw5 : Gr W w5 := Gr.trans (by have gg := gw4; have gs := gg.size; go_grown) hw5
    clear hw5 gw4 zw4_0 cw4_0_0 cw4_0_1 zw4_1 cw4_1_0 cw4_1_1 zw4_2 cw4_2_0 cw4_2_1 cw4_2_2 cw4_2_3
    go_wp2_with fail
    go_at_call 107
    refine (HC.out _).mono ?_
    rintro e x0 ⟨G, rfl, j0, j1, j2, j3, j4, j5, j6, j7, hx0⟩
    have gx0 : Gr W x0 := Gr.trans (by have gg := gw5; have gs := gg.size; go_grown) hx0
    have y0 : x0.cell? ⟨W.heap.size, 0, none⟩ = some (.int .i64 ax) := cell_gr hx0 (by go_simp)
    have y1 : x0.cell? ⟨W.heap.size, 1, none⟩ = some (.int .i64 ay) := cell_gr hx0 (by go_simp)
    have y2 : x0.cell? ⟨W.heap.size + 1, 0, none⟩ = some (.int .i64 bx) := cell_gr hx0 (by go_simp)
    have y3 : x0.cell? ⟨W.heap.size + 1, 1, none⟩ = some (.int .i64 by') := cell_gr hx0 (by go_simp)
    have y4 : x0.cell? ⟨W.heap.size + 1 + 1, 0, none⟩ = some (.int .i64 lx) := cell_gr hx0 (by go_simp)
    have y5 : x0.cell? ⟨W.heap.size + 1 + 1, 1, none⟩ = some (.int .i64 ly) := cell_gr hx0 (by go_simp)
    have y6 : x0.cell? ⟨W.heap.size + 1 + 1, 2, none⟩ = some (.int .i64 hx) := cell_gr hx0 (by go_simp)
    have y7 : x0.cell? ⟨W.heap.size + 1 + 1, 3, none⟩ = some (.int .i64 hy) := cell_gr hx0 (by go_simp)
    have u0 := World.block_lt_of_cell? _ _ y0
    have u1 := World.block_lt_of_cell? _ _ y2
    have u2 := World.block_lt_of_cell? _ _ y4
    have u3 := World.block_lt_of_cell? _ _ j0
    clear hx0 gw5 zw5_0 cw5_0_0 cw5_0_1 zw5_1 cw5_1_0 cw5_1_1 zw5_2 cw5_2_0 cw5_2_1 cw5_2_2 cw5_2_3
    go_wp2_with fail
    refine wp_loop_rounds 5 ?_
    rw [rounds_succ]
    go_wp2_with fail
    go_wp2_with fail
    refine wp_region_spread (by kernel_rfl) (by kernel_rfl) ?_
    try simp only [List.append]
    repeat (first | go_big_quiet_skip | (go_big_quiet_want; go_big_quiet_op; (first | go_big_quiet_on | (apply Exists.intro; refine ⟨fun _ => ?_, ?_⟩; (· (first | (go_at_call 70; first | ((with_reducible refine ((H6.out _)).mono ?_); rintro e w' ⟨rfl, hg⟩; exact ⟨rfl, spread_gr hg⟩)))); go_big_quiet_on))))
    refine wpQuiet_nil ?_
    intro v1 hhv1
    have hv1 := Hd.gr_of_spread hhv1
    have cv1_0_0 : v1.cell? ⟨W.heap.size, 0, none⟩ = some (.int .i64 ax) := cell_gr hv1 (by go_simp)
    have cv1_0_1 : v1.cell? ⟨W.heap.size, 1, none⟩ = some (.int .i64 ay) := cell_gr hv1 (by go_simp)
    have zv1_0 : W.heap.size < v1.heap.size := World.block_lt_of_cell? _ _ cv1_0_0
    have cv1_1_0 : v1.cell? ⟨W.heap.size + 1, 0, none⟩ = some (.int .i64 bx) := cell_gr hv1 (by go_simp)
    have cv1_1_1 : v1.cell? ⟨W.heap.size + 1, 1, none⟩ = some (.int .i64 by') := cell_gr hv1 (by go_simp)
    have zv1_1 : W.heap.size + 1 < v1.heap.size := World.block_lt_of_cell? _ _ cv1_1_0
    have cv1_2_0 : v1.cell? ⟨W.heap.size + 1 + 1, 0, none⟩ = some (.int .i64 lx) := cell_gr hv1 (by go_simp)
    have cv1_2_1 : v1.cell? ⟨W.heap.size + 1 + 1, 1, none⟩ = some (.int .i64 ly) := cell_gr hv1 (by go_simp)
    have cv1_2_2 : v1.cell? ⟨W.heap.size + 1 + 1, 2, none⟩ = some (.int .i64 hx) := cell_gr hv1 (by go_simp)
    have cv1_2_3 : v1.cell? ⟨W.heap.size + 1 + 1, 3, none⟩ = some (.int .i64 hy) := cell_gr hv1 (by go_simp)
    have zv1_2 : W.heap.size + 1 + 1 < v1.heap.size := World.block_lt_of_cell? _ _ cv1_2_0
    have cv1_3_0 : v1.cell? ⟨G, 0, none⟩ = some (.int .i64 lx) := cell_gr hv1 (by go_simp)
    have cv1_3_1 : v1.cell? ⟨G, 1, none⟩ = some (.int .i64 ly) := cell_gr hv1 (by go_simp)
    have cv1_3_2 : v1.cell? ⟨G, 2, none⟩ = some (.int .i64 hx) := cell_gr hv1 (by go_simp)
    have cv1_3_3 : v1.cell? ⟨G, 3, none⟩ = some (.int .i64 ly) := cell_gr hv1 (by go_simp)
    have cv1_3_4 : v1.cell? ⟨G, 4, none⟩ = some (.int .i64 hx) := cell_gr hv1 (by go_simp)
    have cv1_3_5 : v1.cell? ⟨G, 5, none⟩ = some (.int .i64 hy) := cell_gr hv1 (by go_simp)
    have cv1_3_6 : v1.cell? ⟨G, 6, none⟩ = some (.int .i64 lx) := cell_gr hv1 (by go_simp)
    have cv1_3_7 : v1.cell? ⟨G, 7, none⟩ = some (.int .i64 hy) := cell_gr hv1 (by go_simp)
    have zv1_3 : G < v1.heap.size := World.block_lt_of_cell? _ _ cv1_3_0
    have gv1 : Gr W v1 := Gr.trans (by have gg := gx0; have gs := gg.size; go_grown) hv1
    clear hv1 hhv1 gx0
    go_wp2_with fail
    rw [rounds_succ]
    go_wp2_with fail
    go_wp2_with fail
    refine wp_region_spread (by kernel_rfl) (by kernel_rfl) ?_
    try simp only [List.append]
    repeat (first | go_big_quiet_skip | (go_big_quiet_want; go_big_quiet_op; (first | go_big_quiet_on | (apply Exists.intro; refine ⟨fun _ => ?_, ?_⟩; (· (first | (go_at_call 70; first | ((with_reducible refine ((H7.out _)).mono ?_); rintro e w' ⟨rfl, hg⟩; exact ⟨rfl, spread_gr hg⟩)))); go_big_quiet_on))))
    refine wpQuiet_nil ?_
    intro v2 hhv2
    have hv2 := Hd.gr_of_spread hhv2
    have cv2_0_0 : v2.cell? ⟨W.heap.size, 0, none⟩ = some (.int .i64 ax) := cell_gr hv2 (by go_simp)
    have cv2_0_1 : v2.cell? ⟨W.heap.size, 1, none⟩ = some (.int .i64 ay) := cell_gr hv2 (by go_simp)
    have zv2_0 : W.heap.size < v2.heap.size := World.block_lt_of_cell? _ _ cv2_0_0
    have cv2_1_0 : v2.cell? ⟨W.heap.size + 1, 0, none⟩ = some (.int .i64 bx) := cell_gr hv2 (by go_simp)
    have cv2_1_1 : v2.cell? ⟨W.heap.size + 1, 1, none⟩ = some (.int .i64 by') := cell_gr hv2 (by go_simp)
    have zv2_1 : W.heap.size + 1 < v2.heap.size := World.block_lt_of_cell? _ _ cv2_1_0
    have cv2_2_0 : v2.cell? ⟨W.heap.size + 1 + 1, 0, none⟩ = some (.int .i64 lx) := cell_gr hv2 (by go_simp)
    have cv2_2_1 : v2.cell? ⟨W.heap.size + 1 + 1, 1, none⟩ = some (.int .i64 ly) := cell_gr hv2 (by go_simp)
    have cv2_2_2 : v2.cell? ⟨W.heap.size + 1 + 1, 2, none⟩ = some (.int .i64 hx) := cell_gr hv2 (by go_simp)
    have cv2_2_3 : v2.cell? ⟨W.heap.size + 1 + 1, 3, none⟩ = some (.int .i64 hy) := cell_gr hv2 (by go_simp)
    have zv2_2 : W.heap.size + 1 + 1 < v2.heap.size := World.block_lt_of_cell? _ _ cv2_2_0
    have cv2_3_0 : v2.cell? ⟨G, 0, none⟩ = some (.int .i64 lx) := cell_gr hv2 (by go_simp)
    have cv2_3_1 : v2.cell? ⟨G, 1, none⟩ = some (.int .i64 ly) := cell_gr hv2 (by go_simp)
    have cv2_3_2 : v2.cell? ⟨G, 2, none⟩ = some (.int .i64 hx) := cell_gr hv2 (by go_simp)
    have cv2_3_3 : v2.cell? ⟨G, 3, none⟩ = some (.int .i64 ly) := cell_gr hv2 (by go_simp)
    have cv2_3_4 : v2.cell? ⟨G, 4, none⟩ = some (.int .i64 hx) := cell_gr hv2 (by go_simp)
    have cv2_3_5 : v2.cell? ⟨G, 5, none⟩ = some (.int .i64 hy) := cell_gr hv2 (by go_simp)
    have cv2_3_6 : v2.cell? ⟨G, 6, none⟩ = some (.int .i64 lx) := cell_gr hv2 (by go_simp)
    have cv2_3_7 : v2.cell? ⟨G, 7, none⟩ = some (.int .i64 hy) := cell_gr hv2 (by go_simp)
    have zv2_3 : G < v2.heap.size := World.block_lt_of_cell? _ _ cv2_3_0
    have gv2 : Gr W v2 := Gr.trans (by have gg := gv1; have gs := gg.size; go_grown) hv2
    clear hv2 hhv2 gv1 zv1_0 cv1_0_0 cv1_0_1 zv1_1 cv1_1_0 cv1_1_1 zv1_2 cv1_2_0 cv1_2_1 cv1_2_2 cv1_2_3 zv1_3 cv1_3_0 cv1_3_1 cv1_3_2 cv1_3_3 cv1_3_4 cv1_3_5 cv1_3_6 cv1_3_7
    go_wp2_with fail
    go_ret
    exact ⟨rfl, gv2⟩
  · go_enter Tryz.func71, Tryz.ntmps71
    go_wp2_with fail
    go_at_call 24
    refine ((H1.out _)).mono ?_
    rintro e w1 ⟨rfl, hw1⟩
    have cw1_0_0 : w1.cell? ⟨W.heap.size, 0, none⟩ = some (.int .i64 ax) := cell_gr hw1 (by go_simp)
    have cw1_0_1 : w1.cell? ⟨W.heap.size, 1, none⟩ = some (.int .i64 ay) := cell_gr hw1 (by go_simp)
    have zw1_0 : W.heap.size < w1.heap.size := World.block_lt_of_cell? _ _ cw1_0_0
    have cw1_1_0 : w1.cell? ⟨W.heap.size + 1, 0, none⟩ = some (.int .i64 bx) := cell_gr hw1 (by go_simp)
    have cw1_1_1 : w1.cell? ⟨W.heap.size + 1, 1, none⟩ = some (.int .i64 by') := cell_gr hw1 (by go_simp)
    have zw1_1 : W.heap.size + 1 < w1.heap.size := World.block_lt_of_cell? _ _ cw1_1_0
    have cw1_2_0 : w1.cell? ⟨W.heap.size + 1 + 1, 0, none⟩ = some (.int .i64 lx) := cell_gr hw1 (by go_simp)
    have cw1_2_1 : w1.cell? ⟨W.heap.size + 1 + 1, 1, none⟩ = some (.int .i64 ly) := cell_gr hw1 (by go_simp)
    have cw1_2_2 : w1.cell? ⟨W.heap.size + 1 + 1, 2, none⟩ = some (.int .i64 hx) := cell_gr hw1 (by go_simp)
    have cw1_2_3 : w1.cell? ⟨W.heap.size + 1 + 1, 3, none⟩ = some (.int .i64 hy) := cell_gr hw1 (by go_simp)
    have zw1_2 : W.heap.size + 1 + 1 < w1.heap.size := World.block_lt_of_cell? _ _ cw1_2_0
    have gw1 : Gr W w1 := Gr.trans (by go_grown) hw1
    clear hw1
    go_wp2_with fail
    go_at_call 24
    refine ((H2.out _)).mono ?_
    rintro e w2 ⟨rfl, hw2⟩
    have cw2_0_0 : w2.cell? ⟨W.heap.size, 0, none⟩ = some (.int .i64 ax) := cell_gr hw2 (by go_simp)
    have cw2_0_1 : w2.cell? ⟨W.heap.size, 1, none⟩ = some (.int .i64 ay) := cell_gr hw2 (by go_simp)
    have zw2_0 : W.heap.size < w2.heap.size := World.block_lt_of_cell? _ _ cw2_0_0
    have cw2_1_0 : w2.cell? ⟨W.heap.size + 1, 0, none⟩ = some (.int .i64 bx) := cell_gr hw2 (by go_simp)
    have cw2_1_1 : w2.cell? ⟨W.heap.size + 1, 1, none⟩ = some (.int .i64 by') := cell_gr hw2 (by go_simp)
    have zw2_1 : W.heap.size + 1 < w2.heap.size := World.block_lt_of_cell? _ _ cw2_1_0
    have cw2_2_0 : w2.cell? ⟨W.heap.size + 1 + 1, 0, none⟩ = some (.int .i64 lx) := cell_gr hw2 (by go_simp)
    have cw2_2_1 : w2.cell? ⟨W.heap.size + 1 + 1, 1, none⟩ = some (.int .i64 ly) := cell_gr hw2 (by go_simp)
    have cw2_2_2 : w2.cell? ⟨W.heap.size + 1 + 1, 2, none⟩ = some (.int .i64 hx) := cell_gr hw2 (by go_simp)
    have cw2_2_3 : w2.cell? ⟨W.heap.size + 1 + 1, 3, none⟩ = some (.int .i64 hy) := cell_gr hw2 (by go_simp)
    have zw2_2 : W.heap.size + 1 + 1 < w2.heap.size := World.block_lt_of_cell? _ _ cw2_2_0
    have gw2 : Gr W w2 := Gr.trans (by have gg := gw1; have gs := gg.size; go_grown) hw2
    clear hw2 gw1 zw1_0 cw1_0_0 cw1_0_1 zw1_1 cw1_1_0 cw1_1_1 zw1_2 cw1_2_0 cw1_2_1 cw1_2_2 cw1_2_3
    go_wp2_with fail
    go_at_call 25
    refine ((H3.out _)).mono ?_
    rintro e w3 ⟨rfl, hw3⟩
    have cw3_0_0 : w3.cell? ⟨W.heap.size, 0, none⟩ = some (.int .i64 ax) := cell_gr hw3 (by go_simp)
    have cw3_0_1 : w3.cell? ⟨W.heap.size, 1, none⟩ = some (.int .i64 ay) := cell_gr hw3 (by go_simp)
    have zw3_0 : W.heap.size < w3.heap.size := World.block_lt_of_cell? _ _ cw3_0_0
    have cw3_1_0 : w3.cell? ⟨W.heap.size + 1, 0, none⟩ = some (.int .i64 bx) := cell_gr hw3 (by go_simp)
    have cw3_1_1 : w3.cell? ⟨W.heap.size + 1, 1, none⟩ = some (.int .i64 by') := cell_gr hw3 (by go_simp)
    have zw3_1 : W.heap.size + 1 < w3.heap.size := World.block_lt_of_cell? _ _ cw3_1_0
    have cw3_2_0 : w3.cell? ⟨W.heap.size + 1 + 1, 0, none⟩ = some (.int .i64 lx) := cell_gr hw3 (by go_simp)
    have cw3_2_1 : w3.cell? ⟨W.heap.size + 1 + 1, 1, none⟩ = some (.int .i64 ly) := cell_gr hw3 (by go_simp)
    have cw3_2_2 : w3.cell? ⟨W.heap.size + 1 + 1, 2, none⟩ = some (.int .i64 hx) := cell_gr hw3 (by go_simp)
    have cw3_2_3 : w3.cell? ⟨W.heap.size + 1 + 1, 3, none⟩ = some (.int .i64 hy) := cell_gr hw3 (by go_simp)
    have zw3_2 : W.heap.size + 1 + 1 < w3.heap.size := World.block_lt_of_cell? _ _ cw3_2_0
    have gw3 : Gr W w3 := Gr.trans (by have gg := gw2; have gs := gg.size; go_grown) hw3
    clear hw3 gw2 zw2_0 cw2_0_0 cw2_0_1 zw2_1 cw2_1_0 cw2_1_1 zw2_2 cw2_2_0 cw2_2_1 cw2_2_2 cw2_2_3
    go_wp2_with fail
    go_at_call 28
    refine ((H4.out _)).mono ?_
    rintro e w4 ⟨rfl, hw4⟩
    have cw4_0_0 : w4.cell? ⟨W.heap.size, 0, none⟩ = some (.int .i64 ax) := cell_gr hw4 (by go_simp)
    have cw4_0_1 : w4.cell? ⟨W.heap.size, 1, none⟩ = some (.int .i64 ay) := cell_gr hw4 (by go_simp)
    have zw4_0 : W.heap.size < w4.heap.size := World.block_lt_of_cell? _ _ cw4_0_0
    have cw4_1_0 : w4.cell? ⟨W.heap.size + 1, 0, none⟩ = some (.int .i64 bx) := cell_gr hw4 (by go_simp)
    have cw4_1_1 : w4.cell? ⟨W.heap.size + 1, 1, none⟩ = some (.int .i64 by') := cell_gr hw4 (by go_simp)
    have zw4_1 : W.heap.size + 1 < w4.heap.size := World.block_lt_of_cell? _ _ cw4_1_0
    have cw4_2_0 : w4.cell? ⟨W.heap.size + 1 + 1, 0, none⟩ = some (.int .i64 lx) := cell_gr hw4 (by go_simp)
    have cw4_2_1 : w4.cell? ⟨W.heap.size + 1 + 1, 1, none⟩ = some (.int .i64 ly) := cell_gr hw4 (by go_simp)
    have cw4_2_2 : w4.cell? ⟨W.heap.size + 1 + 1, 2, none⟩ = some (.int .i64 hx) := cell_gr hw4 (by go_simp)
    have cw4_2_3 : w4.cell? ⟨W.heap.size + 1 + 1, 3, none⟩ = some (.int .i64 hy) := cell_gr hw4 (by go_simp)
    have zw4_2 : W.heap.size + 1 + 1 < w4.heap.size := World.block_lt_of_cell? _ _ cw4_2_0
    have gw4 : Gr W w4 := Gr.trans (by have gg := gw3; have gs := gg.size; go_grown) hw4
    clear hw4 gw3 zw3_0 cw3_0_0 cw3_0_1 zw3_1 cw3_1_0 cw3_1_1 zw3_2 cw3_2_0 cw3_2_1 cw3_2_2 cw3_2_3
    go_wp2_with fail
    go_at_call 28
    refine ((H5.out _)).mono ?_
    rintro e w5 ⟨rfl, hw5⟩
    have cw5_0_0 : w5.cell? ⟨W.heap.size, 0, none⟩ = some (.int .i64 ax) := cell_gr hw5 (by go_simp)
    have cw5_0_1 : w5.cell? ⟨W.heap.size, 1, none⟩ = some (.int .i64 ay) := cell_gr hw5 (by go_simp)
    have zw5_0 : W.heap.size < w5.heap.size := World.block_lt_of_cell? _ _ cw5_0_0
    have cw5_1_0 : w5.cell? ⟨W.heap.size + 1, 0, none⟩ = some (.int .i64 bx) := cell_gr hw5 (by go_simp)
    have cw5_1_1 : w5.cell? ⟨W.heap.size + 1, 1, none⟩ = some (.int .i64 by') := cell_gr hw5 (by go_simp)
    have zw5_1 : W.heap.size + 1 < w5.heap.size := World.block_lt_of_cell? _ _ cw5_1_0
    have cw5_2_0 : w5.cell? ⟨W.heap.size + 1 + 1, 0, none⟩ = some (.int .i64 lx) := cell_gr hw5 (by go_simp)
    have cw5_2_1 : w5.cell? ⟨W.heap.size + 1 + 1, 1, none⟩ = some (.int .i64 ly) := cell_gr hw5 (by go_simp)
    have cw5_2_2 : w5.cell? ⟨W.heap.size + 1 + 1, 2, none⟩ = some (.int .i64 hx) := cell_gr hw5 (by go_simp)
    have cw5_2_3 : w5.cell? ⟨W.heap.size + 1 + 1, 3, none⟩ = some (.int .i64 hy) := cell_gr hw5 (by go_simp)
    have zw5_2 : W.heap.size + 1 + 1 < w5.heap.size := World.block_lt_of_cell? _ _ cw5_2_0
    have gw5 : Gr W w5 := Gr.trans (by have gg := gw4; have gs := gg.size; go_grown) hw5
    clear hw5 gw4 zw4_0 cw4_0_0 cw4_0_1 zw4_1 cw4_1_0 cw4_1_1 zw4_2 cw4_2_0 cw4_2_1 cw4_2_2 cw4_2_3
    go_wp2_with fail
    go_at_call 107
    refine (HC.out _).mono ?_
    rintro e x0 ⟨G, rfl, j0, j1, j2, j3, j4, j5, j6, j7, hx0⟩
    have gx0 : Gr W x0 := Gr.trans (by have gg := gw5; have gs := gg.size; go_grown) hx0
    have y0 : x0.cell? ⟨W.heap.size, 0, none⟩ = some (.int .i64 ax) := cell_gr hx0 (by go_simp)
    have y1 : x0.cell? ⟨W.heap.size, 1, none⟩ = some (.int .i64 ay) := cell_gr hx0 (by go_simp)
    have y2 : x0.cell? ⟨W.heap.size + 1, 0, none⟩ = some (.int .i64 bx) := cell_gr hx0 (by go_simp)
    have y3 : x0.cell? ⟨W.heap.size + 1, 1, none⟩ = some (.int .i64 by') := cell_gr hx0 (by go_simp)
    have y4 : x0.cell? ⟨W.heap.size + 1 + 1, 0, none⟩ = some (.int .i64 lx) := cell_gr hx0 (by go_simp)
    have y5 : x0.cell? ⟨W.heap.size + 1 + 1, 1, none⟩ = some (.int .i64 ly) := cell_gr hx0 (by go_simp)
    have y6 : x0.cell? ⟨W.heap.size + 1 + 1, 2, none⟩ = some (.int .i64 hx) := cell_gr hx0 (by go_simp)
    have y7 : x0.cell? ⟨W.heap.size + 1 + 1, 3, none⟩ = some (.int .i64 hy) := cell_gr hx0 (by go_simp)
    have u0 := World.block_lt_of_cell? _ _ y0
    have u1 := World.block_lt_of_cell? _ _ y2
    have u2 := World.block_lt_of_cell? _ _ y4
    have u3 := World.block_lt_of_cell? _ _ j0
    clear hx0 gw5 zw5_0 cw5_0_0 cw5_0_1 zw5_1 cw5_1_0 cw5_1_1 zw5_2 cw5_2_0 cw5_2_1 cw5_2_2 cw5_2_3
    go_wp2_with fail
    refine wp_loop_rounds 5 ?_
    rw [rounds_succ]
    go_wp2_with fail
    go_wp2_with fail
    refine wp_region_spread (by kernel_rfl) (by kernel_rfl) ?_
    try simp only [List.append]
    repeat (first | go_big_quiet_skip | (go_big_quiet_want; go_big_quiet_op; (first | go_big_quiet_on | (apply Exists.intro; refine ⟨fun _ => ?_, ?_⟩; (· (first | (go_at_call 70; first | ((with_reducible refine ((H6.out _)).mono ?_); rintro e w' ⟨rfl, hg⟩; exact ⟨rfl, spread_gr hg⟩)))); go_big_quiet_on))))
    refine wpQuiet_nil ?_
    intro v1 hhv1
    have hv1 := Hd.gr_of_spread hhv1
    have cv1_0_0 : v1.cell? ⟨W.heap.size, 0, none⟩ = some (.int .i64 ax) := cell_gr hv1 (by go_simp)
    have cv1_0_1 : v1.cell? ⟨W.heap.size, 1, none⟩ = some (.int .i64 ay) := cell_gr hv1 (by go_simp)
    have zv1_0 : W.heap.size < v1.heap.size := World.block_lt_of_cell? _ _ cv1_0_0
    have cv1_1_0 : v1.cell? ⟨W.heap.size + 1, 0, none⟩ = some (.int .i64 bx) := cell_gr hv1 (by go_simp)
    have cv1_1_1 : v1.cell? ⟨W.heap.size + 1, 1, none⟩ = some (.int .i64 by') := cell_gr hv1 (by go_simp)
    have zv1_1 : W.heap.size + 1 < v1.heap.size := World.block_lt_of_cell? _ _ cv1_1_0
    have cv1_2_0 : v1.cell? ⟨W.heap.size + 1 + 1, 0, none⟩ = some (.int .i64 lx) := cell_gr hv1 (by go_simp)
    have cv1_2_1 : v1.cell? ⟨W.heap.size + 1 + 1, 1, none⟩ = some (.int .i64 ly) := cell_gr hv1 (by go_simp)
    have cv1_2_2 : v1.cell? ⟨W.heap.size + 1 + 1, 2, none⟩ = some (.int .i64 hx) := cell_gr hv1 (by go_simp)
    have cv1_2_3 : v1.cell? ⟨W.heap.size + 1 + 1, 3, none⟩ = some (.int .i64 hy) := cell_gr hv1 (by go_simp)
    have zv1_2 : W.heap.size + 1 + 1 < v1.heap.size := World.block_lt_of_cell? _ _ cv1_2_0
    have cv1_3_0 : v1.cell? ⟨G, 0, none⟩ = some (.int .i64 lx) := cell_gr hv1 (by go_simp)
    have cv1_3_1 : v1.cell? ⟨G, 1, none⟩ = some (.int .i64 ly) := cell_gr hv1 (by go_simp)
    have cv1_3_2 : v1.cell? ⟨G, 2, none⟩ = some (.int .i64 hx) := cell_gr hv1 (by go_simp)
    have cv1_3_3 : v1.cell? ⟨G, 3, none⟩ = some (.int .i64 ly) := cell_gr hv1 (by go_simp)
    have cv1_3_4 : v1.cell? ⟨G, 4, none⟩ = some (.int .i64 hx) := cell_gr hv1 (by go_simp)
    have cv1_3_5 : v1.cell? ⟨G, 5, none⟩ = some (.int .i64 hy) := cell_gr hv1 (by go_simp)
    have cv1_3_6 : v1.cell? ⟨G, 6, none⟩ = some (.int .i64 lx) := cell_gr hv1 (by go_simp)
    have cv1_3_7 : v1.cell? ⟨G, 7, none⟩ = some (.int .i64 hy) := cell_gr hv1 (by go_simp)
    have zv1_3 : G < v1.heap.size := World.block_lt_of_cell? _ _ cv1_3_0
    have gv1 : Gr W v1 := Gr.trans (by have gg := gx0; have gs := gg.size; go_grown) hv1
    clear hv1 hhv1 gx0
    go_wp2_with fail
    rw [rounds_succ]
    go_wp2_with fail
    go_wp2_with fail
    refine wp_region_spread (by kernel_rfl) (by kernel_rfl) ?_
    try simp only [List.append]
    repeat (first | go_big_quiet_skip | (go_big_quiet_want; go_big_quiet_op; (first | go_big_quiet_on | (apply Exists.intro; refine ⟨fun _ => ?_, ?_⟩; (· (first | (go_at_call 70; first | ((with_reducible refine ((H7.out _)).mono ?_); rintro e w' ⟨rfl, hg⟩; exact ⟨rfl, spread_gr hg⟩)))); go_big_quiet_on))))
    refine wpQuiet_nil ?_
    intro v2 hhv2
    have hv2 := Hd.gr_of_spread hhv2
    have cv2_0_0 : v2.cell? ⟨W.heap.size, 0, none⟩ = some (.int .i64 ax) := cell_gr hv2 (by go_simp)
    have cv2_0_1 : v2.cell? ⟨W.heap.size, 1, none⟩ = some (.int .i64 ay) := cell_gr hv2 (by go_simp)
    have zv2_0 : W.heap.size < v2.heap.size := World.block_lt_of_cell? _ _ cv2_0_0
    have cv2_1_0 : v2.cell? ⟨W.heap.size + 1, 0, none⟩ = some (.int .i64 bx) := cell_gr hv2 (by go_simp)
    have cv2_1_1 : v2.cell? ⟨W.heap.size + 1, 1, none⟩ = some (.int .i64 by') := cell_gr hv2 (by go_simp)
    have zv2_1 : W.heap.size + 1 < v2.heap.size := World.block_lt_of_cell? _ _ cv2_1_0
    have cv2_2_0 : v2.cell? ⟨W.heap.size + 1 + 1, 0, none⟩ = some (.int .i64 lx) := cell_gr hv2 (by go_simp)
    have cv2_2_1 : v2.cell? ⟨W.heap.size + 1 + 1, 1, none⟩ = some (.int .i64 ly) := cell_gr hv2 (by go_simp)
    have cv2_2_2 : v2.cell? ⟨W.heap.size + 1 + 1, 2, none⟩ = some (.int .i64 hx) := cell_gr hv2 (by go_simp)
    have cv2_2_3 : v2.cell? ⟨W.heap.size + 1 + 1, 3, none⟩ = some (.int .i64 hy) := cell_gr hv2 (by go_simp)
    have zv2_2 : W.heap.size + 1 + 1 < v2.heap.size := World.block_lt_of_cell? _ _ cv2_2_0
    have cv2_3_0 : v2.cell? ⟨G, 0, none⟩ = some (.int .i64 lx) := cell_gr hv2 (by go_simp)
    have cv2_3_1 : v2.cell? ⟨G, 1, none⟩ = some (.int .i64 ly) := cell_gr hv2 (by go_simp)
    have cv2_3_2 : v2.cell? ⟨G, 2, none⟩ = some (.int .i64 hx) := cell_gr hv2 (by go_simp)
    have cv2_3_3 : v2.cell? ⟨G, 3, none⟩ = some (.int .i64 ly) := cell_gr hv2 (by go_simp)
    have cv2_3_4 : v2.cell? ⟨G, 4, none⟩ = some (.int .i64 hx) := cell_gr hv2 (by go_simp)
    have cv2_3_5 : v2.cell? ⟨G, 5, none⟩ = some (.int .i64 hy) := cell_gr hv2 (by go_simp)
    have cv2_3_6 : v2.cell? ⟨G, 6, none⟩ = some (.int .i64 lx) := cell_gr hv2 (by go_simp)
    have cv2_3_7 : v2.cell? ⟨G, 7, none⟩ = some (.int .i64 hy) := cell_gr hv2 (by go_simp)
    have zv2_3 : G < v2.heap.size := World.block_lt_of_cell? _ _ cv2_3_0
    have gv2 : Gr W v2 := Gr.trans (by have gg := gv1; have gs := gg.size; go_grown) hv2
    clear hv2 hhv2 gv1 zv1_0 cv1_0_0 cv1_0_1 zv1_1 cv1_1_0 cv1_1_1 zv1_2 cv1_2_0 cv1_2_1 cv1_2_2 cv1_2_3 zv1_3 cv1_3_0 cv1_3_1 cv1_3_2 cv1_3_3 cv1_3_4 cv1_3_5 cv1_3_6 cv1_3_7
    go_wp2_with fail
    rw [rounds_succ]
    go_wp2_with fail
    go_wp2_with fail
    refine wp_region_spread (by kernel_rfl) (by kernel_rfl) ?_
    try simp only [List.append]
    repeat (first | go_big_quiet_skip | (go_big_quiet_want; go_big_quiet_op; (first | go_big_quiet_on | (apply Exists.intro; refine ⟨fun _ => ?_, ?_⟩; (· (first | (go_at_call 70; first | ((with_reducible refine ((H8.out _)).mono ?_); rintro e w' ⟨rfl, hg⟩; exact ⟨rfl, spread_gr hg⟩)))); go_big_quiet_on))))
    refine wpQuiet_nil ?_
    intro v3 hhv3
    have hv3 := Hd.gr_of_spread hhv3
    have cv3_0_0 : v3.cell? ⟨W.heap.size, 0, none⟩ = some (.int .i64 ax) := cell_gr hv3 (by go_simp)
    have cv3_0_1 : v3.cell? ⟨W.heap.size, 1, none⟩ = some (.int .i64 ay) := cell_gr hv3 (by go_simp)
    have zv3_0 : W.heap.size < v3.heap.size := World.block_lt_of_cell? _ _ cv3_0_0
    have cv3_1_0 : v3.cell? ⟨W.heap.size + 1, 0, none⟩ = some (.int .i64 bx) := cell_gr hv3 (by go_simp)
    have cv3_1_1 : v3.cell? ⟨W.heap.size + 1, 1, none⟩ = some (.int .i64 by') := cell_gr hv3 (by go_simp)
    have zv3_1 : W.heap.size + 1 < v3.heap.size := World.block_lt_of_cell? _ _ cv3_1_0
    have cv3_2_0 : v3.cell? ⟨W.heap.size + 1 + 1, 0, none⟩ = some (.int .i64 lx) := cell_gr hv3 (by go_simp)
    have cv3_2_1 : v3.cell? ⟨W.heap.size + 1 + 1, 1, none⟩ = some (.int .i64 ly) := cell_gr hv3 (by go_simp)
    have cv3_2_2 : v3.cell? ⟨W.heap.size + 1 + 1, 2, none⟩ = some (.int .i64 hx) := cell_gr hv3 (by go_simp)
    have cv3_2_3 : v3.cell? ⟨W.heap.size + 1 + 1, 3, none⟩ = some (.int .i64 hy) := cell_gr hv3 (by go_simp)
    have zv3_2 : W.heap.size + 1 + 1 < v3.heap.size := World.block_lt_of_cell? _ _ cv3_2_0
    have cv3_3_0 : v3.cell? ⟨G, 0, none⟩ = some (.int .i64 lx) := cell_gr hv3 (by go_simp)
    have cv3_3_1 : v3.cell? ⟨G, 1, none⟩ = some (.int .i64 ly) := cell_gr hv3 (by go_simp)
    have cv3_3_2 : v3.cell? ⟨G, 2, none⟩ = some (.int .i64 hx) := cell_gr hv3 (by go_simp)
    have cv3_3_3 : v3.cell? ⟨G, 3, none⟩ = some (.int .i64 ly) := cell_gr hv3 (by go_simp)
    have cv3_3_4 : v3.cell? ⟨G, 4, none⟩ = some (.int .i64 hx) := cell_gr hv3 (by go_simp)
    have cv3_3_5 : v3.cell? ⟨G, 5, none⟩ = some (.int .i64 hy) := cell_gr hv3 (by go_simp)
    have cv3_3_6 : v3.cell? ⟨G, 6, none⟩ = some (.int .i64 lx) := cell_gr hv3 (by go_simp)
    have cv3_3_7 : v3.cell? ⟨G, 7, none⟩ = some (.int .i64 hy) := cell_gr hv3 (by go_simp)
    have zv3_3 : G < v3.heap.size := World.block_lt_of_cell? _ _ cv3_3_0
    have gv3 : Gr W v3 := Gr.trans (by have gg := gv2; have gs := gg.size; go_grown) hv3
    clear hv3 hhv3 gv2 zv2_0 cv2_0_0 cv2_0_1 zv2_1 cv2_1_0 cv2_1_1 zv2_2 cv2_2_0 cv2_2_1 cv2_2_2 cv2_2_3 zv2_3 cv2_3_0 cv2_3_1 cv2_3_2 cv2_3_3 cv2_3_4 cv2_3_5 cv2_3_6 cv2_3_7
    go_wp2_with fail
    go_ret
    exact ⟨rfl, gv3⟩
  · go_enter Tryz.func71, Tryz.ntmps71
    go_wp2_with fail
    go_at_call 24
    refine ((H1.out _)).mono ?_
    rintro e w1 ⟨rfl, hw1⟩
    have cw1_0_0 : w1.cell? ⟨W.heap.size, 0, none⟩ = some (.int .i64 ax) := cell_gr hw1 (by go_simp)
    have cw1_0_1 : w1.cell? ⟨W.heap.size, 1, none⟩ = some (.int .i64 ay) := cell_gr hw1 (by go_simp)
    have zw1_0 : W.heap.size < w1.heap.size := World.block_lt_of_cell? _ _ cw1_0_0
    have cw1_1_0 : w1.cell? ⟨W.heap.size + 1, 0, none⟩ = some (.int .i64 bx) := cell_gr hw1 (by go_simp)
    have cw1_1_1 : w1.cell? ⟨W.heap.size + 1, 1, none⟩ = some (.int .i64 by') := cell_gr hw1 (by go_simp)
    have zw1_1 : W.heap.size + 1 < w1.heap.size := World.block_lt_of_cell? _ _ cw1_1_0
    have cw1_2_0 : w1.cell? ⟨W.heap.size + 1 + 1, 0, none⟩ = some (.int .i64 lx) := cell_gr hw1 (by go_simp)
    have cw1_2_1 : w1.cell? ⟨W.heap.size + 1 + 1, 1, none⟩ = some (.int .i64 ly) := cell_gr hw1 (by go_simp)
    have cw1_2_2 : w1.cell? ⟨W.heap.size + 1 + 1, 2, none⟩ = some (.int .i64 hx) := cell_gr hw1 (by go_simp)
    have cw1_2_3 : w1.cell? ⟨W.heap.size + 1 + 1, 3, none⟩ = some (.int .i64 hy) := cell_gr hw1 (by go_simp)
    have zw1_2 : W.heap.size + 1 + 1 < w1.heap.size := World.block_lt_of_cell? _ _ cw1_2_0
    have gw1 : Gr W w1 := Gr.trans (by go_grown) hw1
    clear hw1
    go_wp2_with fail
    go_at_call 24
    refine ((H2.out _)).mono ?_
    rintro e w2 ⟨rfl, hw2⟩
    have cw2_0_0 : w2.cell? ⟨W.heap.size, 0, none⟩ = some (.int .i64 ax) := cell_gr hw2 (by go_simp)
    have cw2_0_1 : w2.cell? ⟨W.heap.size, 1, none⟩ = some (.int .i64 ay) := cell_gr hw2 (by go_simp)
    have zw2_0 : W.heap.size < w2.heap.size := World.block_lt_of_cell? _ _ cw2_0_0
    have cw2_1_0 : w2.cell? ⟨W.heap.size + 1, 0, none⟩ = some (.int .i64 bx) := cell_gr hw2 (by go_simp)
    have cw2_1_1 : w2.cell? ⟨W.heap.size + 1, 1, none⟩ = some (.int .i64 by') := cell_gr hw2 (by go_simp)
    have zw2_1 : W.heap.size + 1 < w2.heap.size := World.block_lt_of_cell? _ _ cw2_1_0
    have cw2_2_0 : w2.cell? ⟨W.heap.size + 1 + 1, 0, none⟩ = some (.int .i64 lx) := cell_gr hw2 (by go_simp)
    have cw2_2_1 : w2.cell? ⟨W.heap.size + 1 + 1, 1, none⟩ = some (.int .i64 ly) := cell_gr hw2 (by go_simp)
    have cw2_2_2 : w2.cell? ⟨W.heap.size + 1 + 1, 2, none⟩ = some (.int .i64 hx) := cell_gr hw2 (by go_simp)
    have cw2_2_3 : w2.cell? ⟨W.heap.size + 1 + 1, 3, none⟩ = some (.int .i64 hy) := cell_gr hw2 (by go_simp)
    have zw2_2 : W.heap.size + 1 + 1 < w2.heap.size := World.block_lt_of_cell? _ _ cw2_2_0
    have gw2 : Gr W w2 := Gr.trans (by have gg := gw1; have gs := gg.size; go_grown) hw2
    clear hw2 gw1 zw1_0 cw1_0_0 cw1_0_1 zw1_1 cw1_1_0 cw1_1_1 zw1_2 cw1_2_0 cw1_2_1 cw1_2_2 cw1_2_3
    go_wp2_with fail
    go_at_call 25
    refine ((H3.out _)).mono ?_
    rintro e w3 ⟨rfl, hw3⟩
    have cw3_0_0 : w3.cell? ⟨W.heap.size, 0, none⟩ = some (.int .i64 ax) := cell_gr hw3 (by go_simp)
    have cw3_0_1 : w3.cell? ⟨W.heap.size, 1, none⟩ = some (.int .i64 ay) := cell_gr hw3 (by go_simp)
    have zw3_0 : W.heap.size < w3.heap.size := World.block_lt_of_cell? _ _ cw3_0_0
    have cw3_1_0 : w3.cell? ⟨W.heap.size + 1, 0, none⟩ = some (.int .i64 bx) := cell_gr hw3 (by go_simp)
    have cw3_1_1 : w3.cell? ⟨W.heap.size + 1, 1, none⟩ = some (.int .i64 by') := cell_gr hw3 (by go_simp)
    have zw3_1 : W.heap.size + 1 < w3.heap.size := World.block_lt_of_cell? _ _ cw3_1_0
    have cw3_2_0 : w3.cell? ⟨W.heap.size + 1 + 1, 0, none⟩ = some (.int .i64 lx) := cell_gr hw3 (by go_simp)
    have cw3_2_1 : w3.cell? ⟨W.heap.size + 1 + 1, 1, none⟩ = some (.int .i64 ly) := cell_gr hw3 (by go_simp)
    have cw3_2_2 : w3.cell? ⟨W.heap.size + 1 + 1, 2, none⟩ = some (.int .i64 hx) := cell_gr hw3 (by go_simp)
    have cw3_2_3 : w3.cell? ⟨W.heap.size + 1 + 1, 3, none⟩ = some (.int .i64 hy) := cell_gr hw3 (by go_simp)
    have zw3_2 : W.heap.size + 1 + 1 < w3.heap.size := World.block_lt_of_cell? _ _ cw3_2_0
    have gw3 : Gr W w3 := Gr.trans (by have gg := gw2; have gs := gg.size; go_grown) hw3
    clear hw3 gw2 zw2_0 cw2_0_0 cw2_0_1 zw2_1 cw2_1_0 cw2_1_1 zw2_2 cw2_2_0 cw2_2_1 cw2_2_2 cw2_2_3
    go_wp2_with fail
    go_at_call 28
    refine ((H4.out _)).mono ?_
    rintro e w4 ⟨rfl, hw4⟩
    have cw4_0_0 : w4.cell? ⟨W.heap.size, 0, none⟩ = some (.int .i64 ax) := cell_gr hw4 (by go_simp)
    have cw4_0_1 : w4.cell? ⟨W.heap.size, 1, none⟩ = some (.int .i64 ay) := cell_gr hw4 (by go_simp)
    have zw4_0 : W.heap.size < w4.heap.size := World.block_lt_of_cell? _ _ cw4_0_0
    have cw4_1_0 : w4.cell? ⟨W.heap.size + 1, 0, none⟩ = some (.int .i64 bx) := cell_gr hw4 (by go_simp)
    have cw4_1_1 : w4.cell? ⟨W.heap.size + 1, 1, none⟩ = some (.int .i64 by') := cell_gr hw4 (by go_simp)
    have zw4_1 : W.heap.size + 1 < w4.heap.size := World.block_lt_of_cell? _ _ cw4_1_0
    have cw4_2_0 : w4.cell? ⟨W.heap.size + 1 + 1, 0, none⟩ = some (.int .i64 lx) := cell_gr hw4 (by go_simp)
    have cw4_2_1 : w4.cell? ⟨W.heap.size + 1 + 1, 1, none⟩ = some (.int .i64 ly) := cell_gr hw4 (by go_simp)
    have cw4_2_2 : w4.cell? ⟨W.heap.size + 1 + 1, 2, none⟩ = some (.int .i64 hx) := cell_gr hw4 (by go_simp)
    have cw4_2_3 : w4.cell? ⟨W.heap.size + 1 + 1, 3, none⟩ = some (.int .i64 hy) := cell_gr hw4 (by go_simp)
    have zw4_2 : W.heap.size + 1 + 1 < w4.heap.size := World.block_lt_of_cell? _ _ cw4_2_0
    have gw4 : Gr W w4 := Gr.trans (by have gg := gw3; have gs := gg.size; go_grown) hw4
    clear hw4 gw3 zw3_0 cw3_0_0 cw3_0_1 zw3_1 cw3_1_0 cw3_1_1 zw3_2 cw3_2_0 cw3_2_1 cw3_2_2 cw3_2_3
    go_wp2_with fail
    go_at_call 28
    refine ((H5.out _)).mono ?_
    rintro e w5 ⟨rfl, hw5⟩
    have cw5_0_0 : w5.cell? ⟨W.heap.size, 0, none⟩ = some (.int .i64 ax) := cell_gr hw5 (by go_simp)
    have cw5_0_1 : w5.cell? ⟨W.heap.size, 1, none⟩ = some (.int .i64 ay) := cell_gr hw5 (by go_simp)
    have zw5_0 : W.heap.size < w5.heap.size := World.block_lt_of_cell? _ _ cw5_0_0
    have cw5_1_0 : w5.cell? ⟨W.heap.size + 1, 0, none⟩ = some (.int .i64 bx) := cell_gr hw5 (by go_simp)
    have cw5_1_1 : w5.cell? ⟨W.heap.size + 1, 1, none⟩ = some (.int .i64 by') := cell_gr hw5 (by go_simp)
    have zw5_1 : W.heap.size + 1 < w5.heap.size := World.block_lt_of_cell? _ _ cw5_1_0
    have cw5_2_0 : w5.cell? ⟨W.heap.size + 1 + 1, 0, none⟩ = some (.int .i64 lx) := cell_gr hw5 (by go_simp)
    have cw5_2_1 : w5.cell? ⟨W.heap.size + 1 + 1, 1, none⟩ = some (.int .i64 ly) := cell_gr hw5 (by go_simp)
    have cw5_2_2 : w5.cell? ⟨W.heap.size + 1 + 1, 2, none⟩ = some (.int .i64 hx) := cell_gr hw5 (by go_simp)
    have cw5_2_3 : w5.cell? ⟨W.heap.size + 1 + 1, 3, none⟩ = some (.int .i64 hy) := cell_gr hw5 (by go_simp)
    have zw5_2 : W.heap.size + 1 + 1 < w5.heap.size := World.block_lt_of_cell? _ _ cw5_2_0
    have gw5 : Gr W w5 := Gr.trans (by have gg := gw4; have gs := gg.size; go_grown) hw5
    clear hw5 gw4 zw4_0 cw4_0_0 cw4_0_1 zw4_1 cw4_1_0 cw4_1_1 zw4_2 cw4_2_0 cw4_2_1 cw4_2_2 cw4_2_3
    go_wp2_with fail
    go_at_call 107
    refine (HC.out _).mono ?_
    rintro e x0 ⟨G, rfl, j0, j1, j2, j3, j4, j5, j6, j7, hx0⟩
    have gx0 : Gr W x0 := Gr.trans (by have gg := gw5; have gs := gg.size; go_grown) hx0
    have y0 : x0.cell? ⟨W.heap.size, 0, none⟩ = some (.int .i64 ax) := cell_gr hx0 (by go_simp)
    have y1 : x0.cell? ⟨W.heap.size, 1, none⟩ = some (.int .i64 ay) := cell_gr hx0 (by go_simp)
    have y2 : x0.cell? ⟨W.heap.size + 1, 0, none⟩ = some (.int .i64 bx) := cell_gr hx0 (by go_simp)
    have y3 : x0.cell? ⟨W.heap.size + 1, 1, none⟩ = some (.int .i64 by') := cell_gr hx0 (by go_simp)
    have y4 : x0.cell? ⟨W.heap.size + 1 + 1, 0, none⟩ = some (.int .i64 lx) := cell_gr hx0 (by go_simp)
    have y5 : x0.cell? ⟨W.heap.size + 1 + 1, 1, none⟩ = some (.int .i64 ly) := cell_gr hx0 (by go_simp)
    have y6 : x0.cell? ⟨W.heap.size + 1 + 1, 2, none⟩ = some (.int .i64 hx) := cell_gr hx0 (by go_simp)
    have y7 : x0.cell? ⟨W.heap.size + 1 + 1, 3, none⟩ = some (.int .i64 hy) := cell_gr hx0 (by go_simp)
    have u0 := World.block_lt_of_cell? _ _ y0
    have u1 := World.block_lt_of_cell? _ _ y2
    have u2 := World.block_lt_of_cell? _ _ y4
    have u3 := World.block_lt_of_cell? _ _ j0
    clear hx0 gw5 zw5_0 cw5_0_0 cw5_0_1 zw5_1 cw5_1_0 cw5_1_1 zw5_2 cw5_2_0 cw5_2_1 cw5_2_2 cw5_2_3
    go_wp2_with fail
    refine wp_loop_rounds 5 ?_
    rw [rounds_succ]
    go_wp2_with fail
    go_wp2_with fail
    refine wp_region_spread (by kernel_rfl) (by kernel_rfl) ?_
    try simp only [List.append]
    repeat (first | go_big_quiet_skip | (go_big_quiet_want; go_big_quiet_op; (first | go_big_quiet_on | (apply Exists.intro; refine ⟨fun _ => ?_, ?_⟩; (· (first | (go_at_call 70; first | ((with_reducible refine ((H6.out _)).mono ?_); rintro e w' ⟨rfl, hg⟩; exact ⟨rfl, spread_gr hg⟩)))); go_big_quiet_on))))
    refine wpQuiet_nil ?_
    intro v1 hhv1
    have hv1 := Hd.gr_of_spread hhv1
    have cv1_0_0 : v1.cell? ⟨W.heap.size, 0, none⟩ = some (.int .i64 ax) := cell_gr hv1 (by go_simp)
    have cv1_0_1 : v1.cell? ⟨W.heap.size, 1, none⟩ = some (.int .i64 ay) := cell_gr hv1 (by go_simp)
    have zv1_0 : W.heap.size < v1.heap.size := World.block_lt_of_cell? _ _ cv1_0_0
    have cv1_1_0 : v1.cell? ⟨W.heap.size + 1, 0, none⟩ = some (.int .i64 bx) := cell_gr hv1 (by go_simp)
    have cv1_1_1 : v1.cell? ⟨W.heap.size + 1, 1, none⟩ = some (.int .i64 by') := cell_gr hv1 (by go_simp)
    have zv1_1 : W.heap.size + 1 < v1.heap.size := World.block_lt_of_cell? _ _ cv1_1_0
    have cv1_2_0 : v1.cell? ⟨W.heap.size + 1 + 1, 0, none⟩ = some (.int .i64 lx) := cell_gr hv1 (by go_simp)
    have cv1_2_1 : v1.cell? ⟨W.heap.size + 1 + 1, 1, none⟩ = some (.int .i64 ly) := cell_gr hv1 (by go_simp)
    have cv1_2_2 : v1.cell? ⟨W.heap.size + 1 + 1, 2, none⟩ = some (.int .i64 hx) := cell_gr hv1 (by go_simp)
    have cv1_2_3 : v1.cell? ⟨W.heap.size + 1 + 1, 3, none⟩ = some (.int .i64 hy) := cell_gr hv1 (by go_simp)
    have zv1_2 : W.heap.size + 1 + 1 < v1.heap.size := World.block_lt_of_cell? _ _ cv1_2_0
    have cv1_3_0 : v1.cell? ⟨G, 0, none⟩ = some (.int .i64 lx) := cell_gr hv1 (by go_simp)
    have cv1_3_1 : v1.cell? ⟨G, 1, none⟩ = some (.int .i64 ly) := cell_gr hv1 (by go_simp)
    have cv1_3_2 : v1.cell? ⟨G, 2, none⟩ = some (.int .i64 hx) := cell_gr hv1 (by go_simp)
    have cv1_3_3 : v1.cell? ⟨G, 3, none⟩ = some (.int .i64 ly) := cell_gr hv1 (by go_simp)
    have cv1_3_4 : v1.cell? ⟨G, 4, none⟩ = some (.int .i64 hx) := cell_gr hv1 (by go_simp)
    have cv1_3_5 : v1.cell? ⟨G, 5, none⟩ = some (.int .i64 hy) := cell_gr hv1 (by go_simp)
    have cv1_3_6 : v1.cell? ⟨G, 6, none⟩ = some (.int .i64 lx) := cell_gr hv1 (by go_simp)
    have cv1_3_7 : v1.cell? ⟨G, 7, none⟩ = some (.int .i64 hy) := cell_gr hv1 (by go_simp)
    have zv1_3 : G < v1.heap.size := World.block_lt_of_cell? _ _ cv1_3_0
    have gv1 : Gr W v1 := Gr.trans (by have gg := gx0; have gs := gg.size; go_grown) hv1
    clear hv1 hhv1 gx0
    go_wp2_with fail
    rw [rounds_succ]
    go_wp2_with fail
    go_wp2_with fail
    refine wp_region_spread (by kernel_rfl) (by kernel_rfl) ?_
    try simp only [List.append]
    repeat (first | go_big_quiet_skip | (go_big_quiet_want; go_big_quiet_op; (first | go_big_quiet_on | (apply Exists.intro; refine ⟨fun _ => ?_, ?_⟩; (· (first | (go_at_call 70; first | ((with_reducible refine ((H7.out _)).mono ?_); rintro e w' ⟨rfl, hg⟩; exact ⟨rfl, spread_gr hg⟩)))); go_big_quiet_on))))
    refine wpQuiet_nil ?_
    intro v2 hhv2
    have hv2 := Hd.gr_of_spread hhv2
    have cv2_0_0 : v2.cell? ⟨W.heap.size, 0, none⟩ = some (.int .i64 ax) := cell_gr hv2 (by go_simp)
    have cv2_0_1 : v2.cell? ⟨W.heap.size, 1, none⟩ = some (.int .i64 ay) := cell_gr hv2 (by go_simp)
    have zv2_0 : W.heap.size < v2.heap.size := World.block_lt_of_cell? _ _ cv2_0_0
    have cv2_1_0 : v2.cell? ⟨W.heap.size + 1, 0, none⟩ = some (.int .i64 bx) := cell_gr hv2 (by go_simp)
    have cv2_1_1 : v2.cell? ⟨W.heap.size + 1, 1, none⟩ = some (.int .i64 by') := cell_gr hv2 (by go_simp)
    have zv2_1 : W.heap.size + 1 < v2.heap.size := World.block_lt_of_cell? _ _ cv2_1_0
    have cv2_2_0 : v2.cell? ⟨W.heap.size + 1 + 1, 0, none⟩ = some (.int .i64 lx) := cell_gr hv2 (by go_simp)
    have cv2_2_1 : v2.cell? ⟨W.heap.size + 1 + 1, 1, none⟩ = some (.int .i64 ly) := cell_gr hv2 (by go_simp)
    have cv2_2_2 : v2.cell? ⟨W.heap.size + 1 + 1, 2, none⟩ = some (.int .i64 hx) := cell_gr hv2 (by go_simp)
    have cv2_2_3 : v2.cell? ⟨W.heap.size + 1 + 1, 3, none⟩ = some (.int .i64 hy) := cell_gr hv2 (by go_simp)
    have zv2_2 : W.heap.size + 1 + 1 < v2.heap.size := World.block_lt_of_cell? _ _ cv2_2_0
    have cv2_3_0 : v2.cell? ⟨G, 0, none⟩ = some (.int .i64 lx) := cell_gr hv2 (by go_simp)
    have cv2_3_1 : v2.cell? ⟨G, 1, none⟩ = some (.int .i64 ly) := cell_gr hv2 (by go_simp)
    have cv2_3_2 : v2.cell? ⟨G, 2, none⟩ = some (.int .i64 hx) := cell_gr hv2 (by go_simp)
    have cv2_3_3 : v2.cell? ⟨G, 3, none⟩ = some (.int .i64 ly) := cell_gr hv2 (by go_simp)
    have cv2_3_4 : v2.cell? ⟨G, 4, none⟩ = some (.int .i64 hx) := cell_gr hv2 (by go_simp)
    have cv2_3_5 : v2.cell? ⟨G, 5, none⟩ = some (.int .i64 hy) := cell_gr hv2 (by go_simp)
    have cv2_3_6 : v2.cell? ⟨G, 6, none⟩ = some (.int .i64 lx) := cell_gr hv2 (by go_simp)
    have cv2_3_7 : v2.cell? ⟨G, 7, none⟩ = some (.int .i64 hy) := cell_gr hv2 (by go_simp)
    have zv2_3 : G < v2.heap.size := World.block_lt_of_cell? _ _ cv2_3_0
    have gv2 : Gr W v2 := Gr.trans (by have gg := gv1; have gs := gg.size; go_grown) hv2
    clear hv2 hhv2 gv1 zv1_0 cv1_0_0 cv1_0_1 zv1_1 cv1_1_0 cv1_1_1 zv1_2 cv1_2_0 cv1_2_1 cv1_2_2 cv1_2_3 zv1_3 cv1_3_0 cv1_3_1 cv1_3_2 cv1_3_3 cv1_3_4 cv1_3_5 cv1_3_6 cv1_3_7
    go_wp2_with fail
    rw [rounds_succ]
    go_wp2_with fail
    go_wp2_with fail
    refine wp_region_spread (by kernel_rfl) (by kernel_rfl) ?_
    try simp only [List.append]
    repeat (first | go_big_quiet_skip | (go_big_quiet_want; go_big_quiet_op; (first | go_big_quiet_on | (apply Exists.intro; refine ⟨fun _ => ?_, ?_⟩; (· (first | (go_at_call 70; first | ((with_reducible refine ((H8.out _)).mono ?_); rintro e w' ⟨rfl, hg⟩; exact ⟨rfl, spread_gr hg⟩)))); go_big_quiet_on))))
    refine wpQuiet_nil ?_
    intro v3 hhv3
    have hv3 := Hd.gr_of_spread hhv3
    have cv3_0_0 : v3.cell? ⟨W.heap.size, 0, none⟩ = some (.int .i64 ax) := cell_gr hv3 (by go_simp)
    have cv3_0_1 : v3.cell? ⟨W.heap.size, 1, none⟩ = some (.int .i64 ay) := cell_gr hv3 (by go_simp)
    have zv3_0 : W.heap.size < v3.heap.size := World.block_lt_of_cell? _ _ cv3_0_0
    have cv3_1_0 : v3.cell? ⟨W.heap.size + 1, 0, none⟩ = some (.int .i64 bx) := cell_gr hv3 (by go_simp)
    have cv3_1_1 : v3.cell? ⟨W.heap.size + 1, 1, none⟩ = some (.int .i64 by') := cell_gr hv3 (by go_simp)
    have zv3_1 : W.heap.size + 1 < v3.heap.size := World.block_lt_of_cell? _ _ cv3_1_0
    have cv3_2_0 : v3.cell? ⟨W.heap.size + 1 + 1, 0, none⟩ = some (.int .i64 lx) := cell_gr hv3 (by go_simp)
    have cv3_2_1 : v3.cell? ⟨W.heap.size + 1 + 1, 1, none⟩ = some (.int .i64 ly) := cell_gr hv3 (by go_simp)
    have cv3_2_2 : v3.cell? ⟨W.heap.size + 1 + 1, 2, none⟩ = some (.int .i64 hx) := cell_gr hv3 (by go_simp)
    have cv3_2_3 : v3.cell? ⟨W.heap.size + 1 + 1, 3, none⟩ = some (.int .i64 hy) := cell_gr hv3 (by go_simp)
    have zv3_2 : W.heap.size + 1 + 1 < v3.heap.size := World.block_lt_of_cell? _ _ cv3_2_0
    have cv3_3_0 : v3.cell? ⟨G, 0, none⟩ = some (.int .i64 lx) := cell_gr hv3 (by go_simp)
    have cv3_3_1 : v3.cell? ⟨G, 1, none⟩ = some (.int .i64 ly) := cell_gr hv3 (by go_simp)
    have cv3_3_2 : v3.cell? ⟨G, 2, none⟩ = some (.int .i64 hx) := cell_gr hv3 (by go_simp)
    have cv3_3_3 : v3.cell? ⟨G, 3, none⟩ = some (.int .i64 ly) := cell_gr hv3 (by go_simp)
    have cv3_3_4 : v3.cell? ⟨G, 4, none⟩ = some (.int .i64 hx) := cell_gr hv3 (by go_simp)
    have cv3_3_5 : v3.cell? ⟨G, 5, none⟩ = some (.int .i64 hy) := cell_gr hv3 (by go_simp)
    have cv3_3_6 : v3.cell? ⟨G, 6, none⟩ = some (.int .i64 lx) := cell_gr hv3 (by go_simp)
    have cv3_3_7 : v3.cell? ⟨G, 7, none⟩ = some (.int .i64 hy) := cell_gr hv3 (by go_simp)
    have zv3_3 : G < v3.heap.size := World.block_lt_of_cell? _ _ cv3_3_0
    have gv3 : Gr W v3 := Gr.trans (by have gg := gv2; have gs := gg.size; go_grown) hv3
    clear hv3 hhv3 gv2 zv2_0 cv2_0_0 cv2_0_1 zv2_1 cv2_1_0 cv2_1_1 zv2_2 cv2_2_0 cv2_2_1 cv2_2_2 cv2_2_3 zv2_3 cv2_3_0 cv2_3_1 cv2_3_2 cv2_3_3 cv2_3_4 cv2_3_5 cv2_3_6 cv2_3_7
    go_wp2_with fail
    rw [rounds_succ]
    go_wp2_with fail
    go_wp2_with fail
    refine wp_region_spread (by kernel_rfl) (by kernel_rfl) ?_
    try simp only [List.append]
    repeat (first | go_big_quiet_skip | (go_big_quiet_want; go_big_quiet_op; (first | go_big_quiet_on | (apply Exists.intro; refine ⟨fun _ => ?_, ?_⟩; (· (first | (go_at_call 70; first | ((with_reducible refine ((H9.out _)).mono ?_); rintro e w' ⟨rfl, hg⟩; exact ⟨rfl, spread_gr hg⟩)))); go_big_quiet_on))))
    refine wpQuiet_nil ?_
    intro v4 hhv4
    have hv4 := Hd.gr_of_spread hhv4
    have cv4_0_0 : v4.cell? ⟨W.heap.size, 0, none⟩ = some (.int .i64 ax) := cell_gr hv4 (by go_simp)
    have cv4_0_1 : v4.cell? ⟨W.heap.size, 1, none⟩ = some (.int .i64 ay) := cell_gr hv4 (by go_simp)
    have zv4_0 : W.heap.size < v4.heap.size := World.block_lt_of_cell? _ _ cv4_0_0
    have cv4_1_0 : v4.cell? ⟨W.heap.size + 1, 0, none⟩ = some (.int .i64 bx) := cell_gr hv4 (by go_simp)
    have cv4_1_1 : v4.cell? ⟨W.heap.size + 1, 1, none⟩ = some (.int .i64 by') := cell_gr hv4 (by go_simp)
    have zv4_1 : W.heap.size + 1 < v4.heap.size := World.block_lt_of_cell? _ _ cv4_1_0
    have cv4_2_0 : v4.cell? ⟨W.heap.size + 1 + 1, 0, none⟩ = some (.int .i64 lx) := cell_gr hv4 (by go_simp)
    have cv4_2_1 : v4.cell? ⟨W.heap.size + 1 + 1, 1, none⟩ = some (.int .i64 ly) := cell_gr hv4 (by go_simp)
    have cv4_2_2 : v4.cell? ⟨W.heap.size + 1 + 1, 2, none⟩ = some (.int .i64 hx) := cell_gr hv4 (by go_simp)
    have cv4_2_3 : v4.cell? ⟨W.heap.size + 1 + 1, 3, none⟩ = some (.int .i64 hy) := cell_gr hv4 (by go_simp)
    have zv4_2 : W.heap.size + 1 + 1 < v4.heap.size := World.block_lt_of_cell? _ _ cv4_2_0
    have cv4_3_0 : v4.cell? ⟨G, 0, none⟩ = some (.int .i64 lx) := cell_gr hv4 (by go_simp)
    have cv4_3_1 : v4.cell? ⟨G, 1, none⟩ = some (.int .i64 ly) := cell_gr hv4 (by go_simp)
    have cv4_3_2 : v4.cell? ⟨G, 2, none⟩ = some (.int .i64 hx) := cell_gr hv4 (by go_simp)
    have cv4_3_3 : v4.cell? ⟨G, 3, none⟩ = some (.int .i64 ly) := cell_gr hv4 (by go_simp)
    have cv4_3_4 : v4.cell? ⟨G, 4, none⟩ = some (.int .i64 hx) := cell_gr hv4 (by go_simp)
    have cv4_3_5 : v4.cell? ⟨G, 5, none⟩ = some (.int .i64 hy) := cell_gr hv4 (by go_simp)
    have cv4_3_6 : v4.cell? ⟨G, 6, none⟩ = some (.int .i64 lx) := cell_gr hv4 (by go_simp)
    have cv4_3_7 : v4.cell? ⟨G, 7, none⟩ = some (.int .i64 hy) := cell_gr hv4 (by go_simp)
    have zv4_3 : G < v4.heap.size := World.block_lt_of_cell? _ _ cv4_3_0
    have gv4 : Gr W v4 := Gr.trans (by have gg := gv3; have gs := gg.size; go_grown) hv4
    clear hv4 hhv4 gv3 zv3_0 cv3_0_0 cv3_0_1 zv3_1 cv3_1_0 cv3_1_1 zv3_2 cv3_2_0 cv3_2_1 cv3_2_2 cv3_2_3 zv3_3 cv3_3_0 cv3_3_1 cv3_3_2 cv3_3_3 cv3_3_4 cv3_3_5 cv3_3_6 cv3_3_7
    go_wp2_with fail
    go_ret
    exact ⟨rfl, gv4⟩
  · go_enter Tryz.func71, Tryz.ntmps71
    go_wp2_with fail
    go_at_call 24
    refine ((H1.out _)).mono ?_
    rintro e w1 ⟨rfl, hw1⟩
    have cw1_0_0 : w1.cell? ⟨W.heap.size, 0, none⟩ = some (.int .i64 ax) := cell_gr hw1 (by go_simp)
    have cw1_0_1 : w1.cell? ⟨W.heap.size, 1, none⟩ = some (.int .i64 ay) := cell_gr hw1 (by go_simp)
    have zw1_0 : W.heap.size < w1.heap.size := World.block_lt_of_cell? _ _ cw1_0_0
    have cw1_1_0 : w1.cell? ⟨W.heap.size + 1, 0, none⟩ = some (.int .i64 bx) := cell_gr hw1 (by go_simp)
    have cw1_1_1 : w1.cell? ⟨W.heap.size + 1, 1, none⟩ = some (.int .i64 by') := cell_gr hw1 (by go_simp)
    have zw1_1 : W.heap.size + 1 < w1.heap.size := World.block_lt_of_cell? _ _ cw1_1_0
    have cw1_2_0 : w1.cell? ⟨W.heap.size + 1 + 1, 0, none⟩ = some (.int .i64 lx) := cell_gr hw1 (by go_simp)
    have cw1_2_1 : w1.cell? ⟨W.heap.size + 1 + 1, 1, none⟩ = some (.int .i64 ly) := cell_gr hw1 (by go_simp)
    have cw1_2_2 : w1.cell? ⟨W.heap.size + 1 + 1, 2, none⟩ = some (.int .i64 hx) := cell_gr hw1 (by go_simp)
    have cw1_2_3 : w1.cell? ⟨W.heap.size + 1 + 1, 3, none⟩ = some (.int .i64 hy) := cell_gr hw1 (by go_simp)
    have zw1_2 : W.heap.size + 1 + 1 < w1.heap.size := World.block_lt_of_cell? _ _ cw1_2_0
    have gw1 : Gr W w1 := Gr.trans (by go_grown) hw1
    clear hw1
    go_wp2_with fail
    go_at_call 24
    refine ((H2.out _)).mono ?_
    rintro e w2 ⟨rfl, hw2⟩
    have cw2_0_0 : w2.cell? ⟨W.heap.size, 0, none⟩ = some (.int .i64 ax) := cell_gr hw2 (by go_simp)
    have cw2_0_1 : w2.cell? ⟨W.heap.size, 1, none⟩ = some (.int .i64 ay) := cell_gr hw2 (by go_simp)
    have zw2_0 : W.heap.size < w2.heap.size := World.block_lt_of_cell? _ _ cw2_0_0
    have cw2_1_0 : w2.cell? ⟨W.heap.size + 1, 0, none⟩ = some (.int .i64 bx) := cell_gr hw2 (by go_simp)
    have cw2_1_1 : w2.cell? ⟨W.heap.size + 1, 1, none⟩ = some (.int .i64 by') := cell_gr hw2 (by go_simp)
    have zw2_1 : W.heap.size + 1 < w2.heap.size := World.block_lt_of_cell? _ _ cw2_1_0
    have cw2_2_0 : w2.cell? ⟨W.heap.size + 1 + 1, 0, none⟩ = some (.int .i64 lx) := cell_gr hw2 (by go_simp)
    have cw2_2_1 : w2.cell? ⟨W.heap.size + 1 + 1, 1, none⟩ = some (.int .i64 ly) := cell_gr hw2 (by go_simp)
    have cw2_2_2 : w2.cell? ⟨W.heap.size + 1 + 1, 2, none⟩ = some (.int .i64 hx) := cell_gr hw2 (by go_simp)
    have cw2_2_3 : w2.cell? ⟨W.heap.size + 1 + 1, 3, none⟩ = some (.int .i64 hy) := cell_gr hw2 (by go_simp)
    have zw2_2 : W.heap.size + 1 + 1 < w2.heap.size := World.block_lt_of_cell? _ _ cw2_2_0
    have gw2 : Gr W w2 := Gr.trans (by have gg := gw1; have gs := gg.size; go_grown) hw2
    clear hw2 gw1 zw1_0 cw1_0_0 cw1_0_1 zw1_1 cw1_1_0 cw1_1_1 zw1_2 cw1_2_0 cw1_2_1 cw1_2_2 cw1_2_3
    go_wp2_with fail
    go_at_call 25
    refine ((H3.out _)).mono ?_
    rintro e w3 ⟨rfl, hw3⟩
    have cw3_0_0 : w3.cell? ⟨W.heap.size, 0, none⟩ = some (.int .i64 ax) := cell_gr hw3 (by go_simp)
    have cw3_0_1 : w3.cell? ⟨W.heap.size, 1, none⟩ = some (.int .i64 ay) := cell_gr hw3 (by go_simp)
    have zw3_0 : W.heap.size < w3.heap.size := World.block_lt_of_cell? _ _ cw3_0_0
    have cw3_1_0 : w3.cell? ⟨W.heap.size + 1, 0, none⟩ = some (.int .i64 bx) := cell_gr hw3 (by go_simp)
    have cw3_1_1 : w3.cell? ⟨W.heap.size + 1, 1, none⟩ = some (.int .i64 by') := cell_gr hw3 (by go_simp)
    have zw3_1 : W.heap.size + 1 < w3.heap.size := World.block_lt_of_cell? _ _ cw3_1_0
    have cw3_2_0 : w3.cell? ⟨W.heap.size + 1 + 1, 0, none⟩ = some (.int .i64 lx) := cell_gr hw3 (by go_simp)
    have cw3_2_1 : w3.cell? ⟨W.heap.size + 1 + 1, 1, none⟩ = some (.int .i64 ly) := cell_gr hw3 (by go_simp)
    have cw3_2_2 : w3.cell? ⟨W.heap.size + 1 + 1, 2, none⟩ = some (.int .i64 hx) := cell_gr hw3 (by go_simp)
    have cw3_2_3 : w3.cell? ⟨W.heap.size + 1 + 1, 3, none⟩ = some (.int .i64 hy) := cell_gr hw3 (by go_simp)
    have zw3_2 : W.heap.size + 1 + 1 < w3.heap.size := World.block_lt_of_cell? _ _ cw3_2_0
    have gw3 : Gr W w3 := Gr.trans (by have gg := gw2; have gs := gg.size; go_grown) hw3
    clear hw3 gw2 zw2_0 cw2_0_0 cw2_0_1 zw2_1 cw2_1_0 cw2_1_1 zw2_2 cw2_2_0 cw2_2_1 cw2_2_2 cw2_2_3
    go_wp2_with fail
    go_at_call 28
    refine ((H4.out _)).mono ?_
    rintro e w4 ⟨rfl, hw4⟩
    have cw4_0_0 : w4.cell? ⟨W.heap.size, 0, none⟩ = some (.int .i64 ax) := cell_gr hw4 (by go_simp)
    have cw4_0_1 : w4.cell? ⟨W.heap.size, 1, none⟩ = some (.int .i64 ay) := cell_gr hw4 (by go_simp)
    have zw4_0 : W.heap.size < w4.heap.size := World.block_lt_of_cell? _ _ cw4_0_0
    have cw4_1_0 : w4.cell? ⟨W.heap.size + 1, 0, none⟩ = some (.int .i64 bx) := cell_gr hw4 (by go_simp)
    have cw4_1_1 : w4.cell? ⟨W.heap.size + 1, 1, none⟩ = some (.int .i64 by') := cell_gr hw4 (by go_simp)
    have zw4_1 : W.heap.size + 1 < w4.heap.size := World.block_lt_of_cell? _ _ cw4_1_0
    have cw4_2_0 : w4.cell? ⟨W.heap.size + 1 + 1, 0, none⟩ = some (.int .i64 lx) := cell_gr hw4 (by go_simp)
    have cw4_2_1 : w4.cell? ⟨W.heap.size + 1 + 1, 1, none⟩ = some (.int .i64 ly) := cell_gr hw4 (by go_simp)
    have cw4_2_2 : w4.cell? ⟨W.heap.size + 1 + 1, 2, none⟩ = some (.int .i64 hx) := cell_gr hw4 (by go_simp)
    have cw4_2_3 : w4.cell? ⟨W.heap.size + 1 + 1, 3, none⟩ = some (.int .i64 hy) := cell_gr hw4 (by go_simp)
    have zw4_2 : W.heap.size + 1 + 1 < w4.heap.size := World.block_lt_of_cell? _ _ cw4_2_0
    have gw4 : Gr W w4 := Gr.trans (by have gg := gw3; have gs := gg.size; go_grown) hw4
    clear hw4 gw3 zw3_0 cw3_0_0 cw3_0_1 zw3_1 cw3_1_0 cw3_1_1 zw3_2 cw3_2_0 cw3_2_1 cw3_2_2 cw3_2_3
    go_wp2_with fail
    go_at_call 28
    refine ((H5.out _)).mono ?_
    rintro e w5 ⟨rfl, hw5⟩
    have cw5_0_0 : w5.cell? ⟨W.heap.size, 0, none⟩ = some (.int .i64 ax) := cell_gr hw5 (by go_simp)
    have cw5_0_1 : w5.cell? ⟨W.heap.size, 1, none⟩ = some (.int .i64 ay) := cell_gr hw5 (by go_simp)
    have zw5_0 : W.heap.size < w5.heap.size := World.block_lt_of_cell? _ _ cw5_0_0
    have cw5_1_0 : w5.cell? ⟨W.heap.size + 1, 0, none⟩ = some (.int .i64 bx) := cell_gr hw5 (by go_simp)
    have cw5_1_1 : w5.cell? ⟨W.heap.size + 1, 1, none⟩ = some (.int .i64 by') := cell_gr hw5 (by go_simp)
    have zw5_1 : W.heap.size + 1 < w5.heap.size := World.block_lt_of_cell? _ _ cw5_1_0
    have cw5_2_0 : w5.cell? ⟨W.heap.size + 1 + 1, 0, none⟩ = some (.int .i64 lx) := cell_gr hw5 (by go_simp)
    have cw5_2_1 : w5.cell? ⟨W.heap.size + 1 + 1, 1, none⟩ = some (.int .i64 ly) := cell_gr hw5 (by go_simp)
    have cw5_2_2 : w5.cell? ⟨W.heap.size + 1 + 1, 2, none⟩ = some (.int .i64 hx) := cell_gr hw5 (by go_simp)
    have cw5_2_3 : w5.cell? ⟨W.heap.size + 1 + 1, 3, none⟩ = some (.int .i64 hy) := cell_gr hw5 (by go_simp)
    have zw5_2 : W.heap.size + 1 + 1 < w5.heap.size := World.block_lt_of_cell? _ _ cw5_2_0
    have gw5 : Gr W w5 := Gr.trans (by have gg := gw4; have gs := gg.size; go_grown) hw5
    clear hw5 gw4 zw4_0 cw4_0_0 cw4_0_1 zw4_1 cw4_1_0 cw4_1_1 zw4_2 cw4_2_0 cw4_2_1 cw4_2_2 cw4_2_3
    go_wp2_with fail
    go_at_call 107
    refine (HC.out _).mono ?_
    rintro e x0 ⟨G, rfl, j0, j1, j2, j3, j4, j5, j6, j7, hx0⟩
    have gx0 : Gr W x0 := Gr.trans (by have gg := gw5; have gs := gg.size; go_grown) hx0
    have y0 : x0.cell? ⟨W.heap.size, 0, none⟩ = some (.int .i64 ax) := cell_gr hx0 (by go_simp)
    have y1 : x0.cell? ⟨W.heap.size, 1, none⟩ = some (.int .i64 ay) := cell_gr hx0 (by go_simp)
    have y2 : x0.cell? ⟨W.heap.size + 1, 0, none⟩ = some (.int .i64 bx) := cell_gr hx0 (by go_simp)
    have y3 : x0.cell? ⟨W.heap.size + 1, 1, none⟩ = some (.int .i64 by') := cell_gr hx0 (by go_simp)
    have y4 : x0.cell? ⟨W.heap.size + 1 + 1, 0, none⟩ = some (.int .i64 lx) := cell_gr hx0 (by go_simp)
    have y5 : x0.cell? ⟨W.heap.size + 1 + 1, 1, none⟩ = some (.int .i64 ly) := cell_gr hx0 (by go_simp)
    have y6 : x0.cell? ⟨W.heap.size + 1 + 1, 2, none⟩ = some (.int .i64 hx) := cell_gr hx0 (by go_simp)
    have y7 : x0.cell? ⟨W.heap.size + 1 + 1, 3, none⟩ = some (.int .i64 hy) := cell_gr hx0 (by go_simp)
    have u0 := World.block_lt_of_cell? _ _ y0
    have u1 := World.block_lt_of_cell? _ _ y2
    have u2 := World.block_lt_of_cell? _ _ y4
    have u3 := World.block_lt_of_cell? _ _ j0
    clear hx0 gw5 zw5_0 cw5_0_0 cw5_0_1 zw5_1 cw5_1_0 cw5_1_1 zw5_2 cw5_2_0 cw5_2_1 cw5_2_2 cw5_2_3
    go_wp2_with fail
    refine wp_loop_rounds 5 ?_
    rw [rounds_succ]
    go_wp2_with fail
    go_wp2_with fail
    refine wp_region_spread (by kernel_rfl) (by kernel_rfl) ?_
    try simp only [List.append]
    repeat (first | go_big_quiet_skip | (go_big_quiet_want; go_big_quiet_op; (first | go_big_quiet_on | (apply Exists.intro; refine ⟨fun _ => ?_, ?_⟩; (· (first | (go_at_call 70; first | ((with_reducible refine ((H6.out _)).mono ?_); rintro e w' ⟨rfl, hg⟩; exact ⟨rfl, spread_gr hg⟩)))); go_big_quiet_on))))
    refine wpQuiet_nil ?_
    intro v1 hhv1
    have hv1 := Hd.gr_of_spread hhv1
    have cv1_0_0 : v1.cell? ⟨W.heap.size, 0, none⟩ = some (.int .i64 ax) := cell_gr hv1 (by go_simp)
    have cv1_0_1 : v1.cell? ⟨W.heap.size, 1, none⟩ = some (.int .i64 ay) := cell_gr hv1 (by go_simp)
    have zv1_0 : W.heap.size < v1.heap.size := World.block_lt_of_cell? _ _ cv1_0_0
    have cv1_1_0 : v1.cell? ⟨W.heap.size + 1, 0, none⟩ = some (.int .i64 bx) := cell_gr hv1 (by go_simp)
    have cv1_1_1 : v1.cell? ⟨W.heap.size + 1, 1, none⟩ = some (.int .i64 by') := cell_gr hv1 (by go_simp)
    have zv1_1 : W.heap.size + 1 < v1.heap.size := World.block_lt_of_cell? _ _ cv1_1_0
    have cv1_2_0 : v1.cell? ⟨W.heap.size + 1 + 1, 0, none⟩ = some (.int .i64 lx) := cell_gr hv1 (by go_simp)
    have cv1_2_1 : v1.cell? ⟨W.heap.size + 1 + 1, 1, none⟩ = some (.int .i64 ly) := cell_gr hv1 (by go_simp)
    have cv1_2_2 : v1.cell? ⟨W.heap.size + 1 + 1, 2, none⟩ = some (.int .i64 hx) := cell_gr hv1 (by go_simp)
    have cv1_2_3 : v1.cell? ⟨W.heap.size + 1 + 1, 3, none⟩ = some (.int .i64 hy) := cell_gr hv1 (by go_simp)
    have zv1_2 : W.heap.size + 1 + 1 < v1.heap.size := World.block_lt_of_cell? _ _ cv1_2_0
    have cv1_3_0 : v1.cell? ⟨G, 0, none⟩ = some (.int .i64 lx) := cell_gr hv1 (by go_simp)
    have cv1_3_1 : v1.cell? ⟨G, 1, none⟩ = some (.int .i64 ly) := cell_gr hv1 (by go_simp)
    have cv1_3_2 : v1.cell? ⟨G, 2, none⟩ = some (.int .i64 hx) := cell_gr hv1 (by go_simp)
    have cv1_3_3 : v1.cell? ⟨G, 3, none⟩ = some (.int .i64 ly) := cell_gr hv1 (by go_simp)
    have cv1_3_4 : v1.cell? ⟨G, 4, none⟩ = some (.int .i64 hx) := cell_gr hv1 (by go_simp)
    have cv1_3_5 : v1.cell? ⟨G, 5, none⟩ = some (.int .i64 hy) := cell_gr hv1 (by go_simp)
    have cv1_3_6 : v1.cell? ⟨G, 6, none⟩ = some (.int .i64 lx) := cell_gr hv1 (by go_simp)
    have cv1_3_7 : v1.cell? ⟨G, 7, none⟩ = some (.int .i64 hy) := cell_gr hv1 (by go_simp)
    have zv1_3 : G < v1.heap.size := World.block_lt_of_cell? _ _ cv1_3_0
    have gv1 : Gr W v1 := Gr.trans (by have gg := gx0; have gs := gg.size; go_grown) hv1
    clear hv1 hhv1 gx0
    go_wp2_with fail
    rw [rounds_succ]
    go_wp2_with fail
    go_wp2_with fail
    refine wp_region_spread (by kernel_rfl) (by kernel_rfl) ?_
    try simp only [List.append]
    repeat (first | go_big_quiet_skip | (go_big_quiet_want; go_big_quiet_op; (first | go_big_quiet_on | (apply Exists.intro; refine ⟨fun _ => ?_, ?_⟩; (· (first | (go_at_call 70; first | ((with_reducible refine ((H7.out _)).mono ?_); rintro e w' ⟨rfl, hg⟩; exact ⟨rfl, spread_gr hg⟩)))); go_big_quiet_on))))
    refine wpQuiet_nil ?_
    intro v2 hhv2
    have hv2 := Hd.gr_of_spread hhv2
    have cv2_0_0 : v2.cell? ⟨W.heap.size, 0, none⟩ = some (.int .i64 ax) := cell_gr hv2 (by go_simp)
    have cv2_0_1 : v2.cell? ⟨W.heap.size, 1, none⟩ = some (.int .i64 ay) := cell_gr hv2 (by go_simp)
    have zv2_0 : W.heap.size < v2.heap.size := World.block_lt_of_cell? _ _ cv2_0_0
    have cv2_1_0 : v2.cell? ⟨W.heap.size + 1, 0, none⟩ = some (.int .i64 bx) := cell_gr hv2 (by go_simp)
    have cv2_1_1 : v2.cell? ⟨W.heap.size + 1, 1, none⟩ = some (.int .i64 by') := cell_gr hv2 (by go_simp)
    have zv2_1 : W.heap.size + 1 < v2.heap.size := World.block_lt_of_cell? _ _ cv2_1_0
    have cv2_2_0 : v2.cell? ⟨W.heap.size + 1 + 1, 0, none⟩ = some (.int .i64 lx) := cell_gr hv2 (by go_simp)
    have cv2_2_1 : v2.cell? ⟨W.heap.size + 1 + 1, 1, none⟩ = some (.int .i64 ly) := cell_gr hv2 (by go_simp)
    have cv2_2_2 : v2.cell? ⟨W.heap.size + 1 + 1, 2, none⟩ = some (.int .i64 hx) := cell_gr hv2 (by go_simp)
    have cv2_2_3 : v2.cell? ⟨W.heap.size + 1 + 1, 3, none⟩ = some (.int .i64 hy) := cell_gr hv2 (by go_simp)
    have zv2_2 : W.heap.size + 1 + 1 < v2.heap.size := World.block_lt_of_cell? _ _ cv2_2_0
    have cv2_3_0 : v2.cell? ⟨G, 0, none⟩ = some (.int .i64 lx) := cell_gr hv2 (by go_simp)
    have cv2_3_1 : v2.cell? ⟨G, 1, none⟩ = some (.int .i64 ly) := cell_gr hv2 (by go_simp)
    have cv2_3_2 : v2.cell? ⟨G, 2, none⟩ = some (.int .i64 hx) := cell_gr hv2 (by go_simp)
    have cv2_3_3 : v2.cell? ⟨G, 3, none⟩ = some (.int .i64 ly) := cell_gr hv2 (by go_simp)
    have cv2_3_4 : v2.cell? ⟨G, 4, none⟩ = some (.int .i64 hx) := cell_gr hv2 (by go_simp)
    have cv2_3_5 : v2.cell? ⟨G, 5, none⟩ = some (.int .i64 hy) := cell_gr hv2 (by go_simp)
    have cv2_3_6 : v2.cell? ⟨G, 6, none⟩ = some (.int .i64 lx) := cell_gr hv2 (by go_simp)
    have cv2_3_7 : v2.cell? ⟨G, 7, none⟩ = some (.int .i64 hy) := cell_gr hv2 (by go_simp)
    have zv2_3 : G < v2.heap.size := World.block_lt_of_cell? _ _ cv2_3_0
    have gv2 : Gr W v2 := Gr.trans (by have gg := gv1; have gs := gg.size; go_grown) hv2
    clear hv2 hhv2 gv1 zv1_0 cv1_0_0 cv1_0_1 zv1_1 cv1_1_0 cv1_1_1 zv1_2 cv1_2_0 cv1_2_1 cv1_2_2 cv1_2_3 zv1_3 cv1_3_0 cv1_3_1 cv1_3_2 cv1_3_3 cv1_3_4 cv1_3_5 cv1_3_6 cv1_3_7
    go_wp2_with fail
    rw [rounds_succ]
    go_wp2_with fail
    go_wp2_with fail
    refine wp_region_spread (by kernel_rfl) (by kernel_rfl) ?_
    try simp only [List.append]
    repeat (first | go_big_quiet_skip | (go_big_quiet_want; go_big_quiet_op; (first | go_big_quiet_on | (apply Exists.intro; refine ⟨fun _ => ?_, ?_⟩; (· (first | (go_at_call 70; first | ((with_reducible refine ((H8.out _)).mono ?_); rintro e w' ⟨rfl, hg⟩; exact ⟨rfl, spread_gr hg⟩)))); go_big_quiet_on))))
    refine wpQuiet_nil ?_
    intro v3 hhv3
    have hv3 := Hd.gr_of_spread hhv3
    have cv3_0_0 : v3.cell? ⟨W.heap.size, 0, none⟩ = some (.int .i64 ax) := cell_gr hv3 (by go_simp)
    have cv3_0_1 : v3.cell? ⟨W.heap.size, 1, none⟩ = some (.int .i64 ay) := cell_gr hv3 (by go_simp)
    have zv3_0 : W.heap.size < v3.heap.size := World.block_lt_of_cell? _ _ cv3_0_0
    have cv3_1_0 : v3.cell? ⟨W.heap.size + 1, 0, none⟩ = some (.int .i64 bx) := cell_gr hv3 (by go_simp)
    have cv3_1_1 : v3.cell? ⟨W.heap.size + 1, 1, none⟩ = some (.int .i64 by') := cell_gr hv3 (by go_simp)
    have zv3_1 : W.heap.size + 1 < v3.heap.size := World.block_lt_of_cell? _ _ cv3_1_0
    have cv3_2_0 : v3.cell? ⟨W.heap.size + 1 + 1, 0, none⟩ = some (.int .i64 lx) := cell_gr hv3 (by go_simp)
    have cv3_2_1 : v3.cell? ⟨W.heap.size + 1 + 1, 1, none⟩ = some (.int .i64 ly) := cell_gr hv3 (by go_simp)
    have cv3_2_2 : v3.cell? ⟨W.heap.size + 1 + 1, 2, none⟩ = some (.int .i64 hx) := cell_gr hv3 (by go_simp)
    have cv3_2_3 : v3.cell? ⟨W.heap.size + 1 + 1, 3, none⟩ = some (.int .i64 hy) := cell_gr hv3 (by go_simp)
    have zv3_2 : W.heap.size + 1 + 1 < v3.heap.size := World.block_lt_of_cell? _ _ cv3_2_0
    have cv3_3_0 : v3.cell? ⟨G, 0, none⟩ = some (.int .i64 lx) := cell_gr hv3 (by go_simp)
    have cv3_3_1 : v3.cell? ⟨G, 1, none⟩ = some (.int .i64 ly) := cell_gr hv3 (by go_simp)
    have cv3_3_2 : v3.cell? ⟨G, 2, none⟩ = some (.int .i64 hx) := cell_gr hv3 (by go_simp)
    have cv3_3_3 : v3.cell? ⟨G, 3, none⟩ = some (.int .i64 ly) := cell_gr hv3 (by go_simp)
    have cv3_3_4 : v3.cell? ⟨G, 4, none⟩ = some (.int .i64 hx) := cell_gr hv3 (by go_simp)
    have cv3_3_5 : v3.cell? ⟨G, 5, none⟩ = some (.int .i64 hy) := cell_gr hv3 (by go_simp)
    have cv3_3_6 : v3.cell? ⟨G, 6, none⟩ = some (.int .i64 lx) := cell_gr hv3 (by go_simp)
    have cv3_3_7 : v3.cell? ⟨G, 7, none⟩ = some (.int .i64 hy) := cell_gr hv3 (by go_simp)
    have zv3_3 : G < v3.heap.size := World.block_lt_of_cell? _ _ cv3_3_0
    have gv3 : Gr W v3 := Gr.trans (by have gg := gv2; have gs := gg.size; go_grown) hv3
    clear hv3 hhv3 gv2 zv2_0 cv2_0_0 cv2_0_1 zv2_1 cv2_1_0 cv2_1_1 zv2_2 cv2_2_0 cv2_2_1 cv2_2_2 cv2_2_3 zv2_3 cv2_3_0 cv2_3_1 cv2_3_2 cv2_3_3 cv2_3_4 cv2_3_5 cv2_3_6 cv2_3_7
    go_wp2_with fail
    rw [rounds_succ]
    go_wp2_with fail
    go_wp2_with fail
    refine wp_region_spread (by kernel_rfl) (by kernel_rfl) ?_
    try simp only [List.append]
    repeat (first | go_big_quiet_skip | (go_big_quiet_want; go_big_quiet_op; (first | go_big_quiet_on | (apply Exists.intro; refine ⟨fun _ => ?_, ?_⟩; (· (first | (go_at_call 70; first | ((with_reducible refine ((H9.out _)).mono ?_); rintro e w' ⟨rfl, hg⟩; exact ⟨rfl, spread_gr hg⟩)))); go_big_quiet_on))))
    refine wpQuiet_nil ?_
    intro v4 hhv4
    have hv4 := Hd.gr_of_spread hhv4
    have cv4_0_0 : v4.cell? ⟨W.heap.size, 0, none⟩ = some (.int .i64 ax) := cell_gr hv4 (by go_simp)
    have cv4_0_1 : v4.cell? ⟨W.heap.size, 1, none⟩ = some (.int .i64 ay) := cell_gr hv4 (by go_simp)
    have zv4_0 : W.heap.size < v4.heap.size := World.block_lt_of_cell? _ _ cv4_0_0
    have cv4_1_0 : v4.cell? ⟨W.heap.size + 1, 0, none⟩ = some (.int .i64 bx) := cell_gr hv4 (by go_simp)
    have cv4_1_1 : v4.cell? ⟨W.heap.size + 1, 1, none⟩ = some (.int .i64 by') := cell_gr hv4 (by go_simp)
    have zv4_1 : W.heap.size + 1 < v4.heap.size := World.block_lt_of_cell? _ _ cv4_1_0
    have cv4_2_0 : v4.cell? ⟨W.heap.size + 1 + 1, 0, none⟩ = some (.int .i64 lx) := cell_gr hv4 (by go_simp)
    have cv4_2_1 : v4.cell? ⟨W.heap.size + 1 + 1, 1, none⟩ = some (.int .i64 ly) := cell_gr hv4 (by go_simp)
    have cv4_2_2 : v4.cell? ⟨W.heap.size + 1 + 1, 2, none⟩ = some (.int .i64 hx) := cell_gr hv4 (by go_simp)
    have cv4_2_3 : v4.cell? ⟨W.heap.size + 1 + 1, 3, none⟩ = some (.int .i64 hy) := cell_gr hv4 (by go_simp)
    have zv4_2 : W.heap.size + 1 + 1 < v4.heap.size := World.block_lt_of_cell? _ _ cv4_2_0
    have cv4_3_0 : v4.cell? ⟨G, 0, none⟩ = some (.int .i64 lx) := cell_gr hv4 (by go_simp)
    have cv4_3_1 : v4.cell? ⟨G, 1, none⟩ = some (.int .i64 ly) := cell_gr hv4 (by go_simp)
    have cv4_3_2 : v4.cell? ⟨G, 2, none⟩ = some (.int .i64 hx) := cell_gr hv4 (by go_simp)
    have cv4_3_3 : v4.cell? ⟨G, 3, none⟩ = some (.int .i64 ly) := cell_gr hv4 (by go_simp)
    have cv4_3_4 : v4.cell? ⟨G, 4, none⟩ = some (.int .i64 hx) := cell_gr hv4 (by go_simp)
    have cv4_3_5 : v4.cell? ⟨G, 5, none⟩ = some (.int .i64 hy) := cell_gr hv4 (by go_simp)
    have cv4_3_6 : v4.cell? ⟨G, 6, none⟩ = some (.int .i64 lx) := cell_gr hv4 (by go_simp)
    have cv4_3_7 : v4.cell? ⟨G, 7, none⟩ = some (.int .i64 hy) := cell_gr hv4 (by go_simp)
    have zv4_3 : G < v4.heap.size := World.block_lt_of_cell? _ _ cv4_3_0
    have gv4 : Gr W v4 := Gr.trans (by have gg := gv3; have gs := gg.size; go_grown) hv4
    clear hv4 hhv4 gv3 zv3_0 cv3_0_0 cv3_0_1 zv3_1 cv3_1_0 cv3_1_1 zv3_2 cv3_2_0 cv3_2_1 cv3_2_2 cv3_2_3 zv3_3 cv3_3_0 cv3_3_1 cv3_3_2 cv3_3_3 cv3_3_4 cv3_3_5 cv3_3_6 cv3_3_7
    go_wp2_with fail
    rw [rounds_succ]
    go_wp2_with fail
    go_ret
    exact ⟨rfl, gv4⟩
theorem c_rMeetsBox (ax ay bx by' lx ly hx hy : Int) (W : World) : Calls Tryz.prog 71 #[.agg #[.int .i64 ax, .int .i64 ay], .agg #[.int .i64 bx, .int .i64 by'], .agg #[.int .i64 lx, .int .i64 ly, .int .i64 hx, .int .i64 hy]] W fun e w' => e = .returned (.bool (mbG ax ay bx by' lx ly hx hy)) ∧ Gr W w' := by
  have A1 := c_rPoint ax ay
  have A2 := c_rPoint bx by'
  have A3 := c_rCheckBox lx ly hx hy
  have A4 := c_rBoxHas lx ly hx hy ax ay
  have A5 := c_rBoxHas lx ly hx hy bx by'
  have hz := boxCode_zero (lx := lx) (ly := ly) (hx := hx) (hy := hy)
  unfold mbG
  cases n1 : nearB ax ay
  · rw [n1] at A1
    exact rmb_no ax ay bx by' lx ly hx hy _ _ _ _ _ _ W (Or.inl ⟨rfl, rfl⟩) A1 A2 A3 A4 A5
  · rw [n1] at A1
    cases n2 : nearB bx by'
    · rw [n2] at A2
      exact rmb_no ax ay bx by' lx ly hx hy _ _ _ _ _ _ W (Or.inr (Or.inl ⟨rfl, rfl, rfl⟩)) A1 A2 A3 A4 A5
    · rw [n2] at A2
      cases hb : boxB lx ly hx hy
      · rw [hb] at hz
        refine rmb_no ax ay bx by' lx ly hx hy _ _ _ _ _ _ W (Or.inr (Or.inr (Or.inl ⟨rfl, rfl, ?_, rfl⟩))) A1 A2 A3 A4 A5
        simpa using hz
      · rw [hb] at hz
        have z0 : boxCode lx ly hx hy = 0 := by simpa using hz
        rw [z0] at A3
        rw [hb, n1] at A4
        rw [hb, n2] at A5
        simp only [Bool.true_and] at A4 A5 ⊢
        unfold mbF
        have hbn := (boxB_iff.1 hb).1
        have hbl := (boxB_iff.1 hb).2
        have o1 := nearB_iff.1 hbn.1
        have o2 := nearB_iff.1 hbn.2
        have g1 : nearB lx hy = true := by rw [nearB_iff]; omega
        have g2 : nearB hx ly = true := by rw [nearB_iff]; omega
        cases ha : inB lx ly hx hy ax ay
        · cases hb2 : inB lx ly hx hy bx by'
          · rw [ha] at A4
            rw [hb2] at A5
            have M0 := c_rMeet ax ay bx by' lx ly hx ly
            have M1 := c_rMeet ax ay bx by' hx ly hx hy
            have M2 := c_rMeet ax ay bx by' hx hy lx hy
            have M3 := c_rMeet ax ay bx by' lx hy lx ly
            rw [show meG ax ay bx by' lx ly hx ly = meF ax ay bx by' lx ly hx ly by unfold meG all4; rw [n1, n2, hbn.1, g2]; rfl] at M0
            rw [show meG ax ay bx by' hx ly hx hy = meF ax ay bx by' hx ly hx hy by unfold meG all4; rw [n1, n2, hbn.2, g2]; rfl] at M1
            rw [show meG ax ay bx by' hx hy lx hy = meF ax ay bx by' hx hy lx hy by unfold meG all4; rw [n1, n2, hbn.2, g1]; rfl] at M2
            rw [show meG ax ay bx by' lx hy lx ly = meF ax ay bx by' lx hy lx ly by unfold meG all4; rw [n1, n2, hbn.1, g1]; rfl] at M3
            have e : (ovB lx ly hx hy ax ay bx by' && (false || false || diF lx ly hx hy ax ay bx by')) = siF lx ly hx hy ax ay bx by' := by
              cases hv : ovB lx ly hx hy ax ay bx by'
              · cases hs : siF lx ly hx hy ax ay bx by'
                · rfl
                · have := ovB_iff.2 (si_ov hbl hs)
                  rw [this] at hv; cases hv
              · rw [sides_diag hbl (ovB_iff.1 hv) (by rw [← inB_P, ha]; simp) (by rw [← inB_P, hb2]; simp)]
                simp
            rw [e]
            refine rmb_in ax ay bx by' lx ly hx hy _ _ _ _ _ W ?_ A1 A2 A3 A4 A5 M0 M1 M2 M3
            unfold siF
            generalize meF ax ay bx by' lx ly hx ly = m0
            generalize meF ax ay bx by' hx ly hx hy = m1
            generalize meF ax ay bx by' hx hy lx hy = m2
            generalize meF ax ay bx by' lx hy lx ly = m3
            cases m0 <;> cases m1 <;> cases m2 <;> cases m3 <;> simp
          · rw [ha] at A4
            rw [hb2] at A5
            have hv : ovB lx ly hx hy ax ay bx by' = true := by
              have := inB_P.1 hb2
              rw [ovB_iff]
              unfold inP at this
              unfold ovP
              omega
            rw [hv]
            exact rmb_no ax ay bx by' lx ly hx hy _ _ _ _ _ _ W (Or.inr (Or.inr (Or.inr (Or.inr ⟨rfl, rfl, rfl, rfl, rfl, rfl⟩)))) A1 A2 A3 A4 A5
        · rw [ha] at A4
          have hv : ovB lx ly hx hy ax ay bx by' = true := by
            have := inB_P.1 ha
            rw [ovB_iff]
            unfold inP at this
            unfold ovP
            omega
          rw [hv]
          exact rmb_no ax ay bx by' lx ly hx hy _ _ _ _ _ _ W (Or.inr (Or.inr (Or.inr (Or.inl ⟨rfl, rfl, rfl, rfl, rfl⟩)))) A1 A2 A3 A4 A5
end Go.Proofs.YtfobmlgpjhghdaaGreatDoor
namespace Go.Proofs.YtfobmlgpjhghdaaGreatDoor
set_option linter.unusedVariables false
open Go.ChangeShapes Go.WideShapes Go.ChangeAt Go.RowKit Go.Shelf
attribute [local go_sem] Oper.semAt_some
def Box4 (W : World) (B : Nat) (x y z u : Int) : Prop := W.heap[B]? = some (.cells #[.int .i64 x, .int .i64 y, .int .i64 z, .int .i64 u] 28 (0, 0))
theorem Box4.lt {W : World} {B : Nat} {x y z u : Int} (h : Box4 W B x y z u) : B < W.heap.size := (Array.getElem?_eq_some_iff.1 h).1
theorem Box4.cells {W : World} {B : Nat} {x y z u : Int} (h : Box4 W B x y z u) : W.cell? ⟨B, 0, none⟩ = some (.int .i64 x) ∧ W.cell? ⟨B, 1, none⟩ = some (.int .i64 y) ∧ W.cell? ⟨B, 2, none⟩ = some (.int .i64 z) ∧ W.cell? ⟨B, 3, none⟩ = some (.int .i64 u) := by
  refine ⟨?_, ?_, ?_, ?_⟩ <;> simp [World.cell?, show W.heap[B]? = _ from h]
theorem Box4.kept {W W' : World} {row : Option Nat} {B : Nat} {x y z u : Int} (h : Box4 W B x y z u) (hg : W.grownBy W' row) (hne : some B ≠ row) : Box4 W' B x y z u := (hg.block B h.lt hne).trans h
theorem Box4.new (W : World) (x y z u : Int) : Box4 (W.alloc (.cells #[.int .i64 x, .int .i64 y, .int .i64 z, .int .i64 u] 28)) W.heap.size x y z u := World.alloc_heap_new W _
theorem Box4.alloc {W : World} {B : Nat} {x y z u : Int} (h : Box4 W B x y z u) (o : Obj) : Box4 (W.alloc o) B x y z u := h.kept (World.grownBy_alloc W o none) (by simp)
theorem box4_notcells {W W' : World} {row : Option Nat} {B : Nat} {x y z u : Int} (h : Box4 W B x y z u) (hg : W.grownBy W' row) (hr : ∀ r, row = some r → ∃ o : Obj, W.heap[r]? = some o ∧ o.isCells = false) : Box4 W' B x y z u := by
  refine h.kept hg fun e => ?_
  obtain ⟨o, h1, h2⟩ := hr B e.symm
  rw [show W.heap[B]? = _ from h] at h1
  cases h1
  cases h2
theorem box4_own {β : Type} (B : Nat) (x y z u : Int) : Own (fun (_ : β) W => Box4 W B x y z u) := fun s X Y row hs hg hrow => box4_notcells hs hg hrow
def mbW (n : Nat) (X Y : Nat → Int) (lx ly hx hy : Int) (pre : List Nat) : Bool := pre.any fun k => mbG (X k) (Y k) (X (Rg.nx1 n k)) (Y (Rg.nx1 n k)) lx ly hx hy
theorem mbW_snoc (n : Nat) (X Y : Nat → Int) (lx ly hx hy : Int) (pre : List Nat) (k : Nat) : mbW n X Y lx ly hx hy (pre ++ [k]) = (mbW n X Y lx ly hx hy pre || mbG (X k) (Y k) (X (Rg.nx1 n k)) (Y (Rg.nx1 n k)) lx ly hx hy) := by
  unfold mbW; rw [List.any_append]; simp
theorem mbW_mono {n : Nat} {X Y : Nat → Int} {lx ly hx hy : Int} {k : Nat} (hk : k ≤ n) (h : mbW n X Y lx ly hx hy (List.range k) = true) : mbW n X Y lx ly hx hy (List.range n) = true := by
  unfold mbW at *
  rw [List.any_eq_true] at *
  obtain ⟨x, h1, h2⟩ := h
  exact ⟨x, List.mem_range.2 (by have := List.mem_range.1 h1; omega), h2⟩
def arM (n : Nat) (X Y : Nat → Int) (lx ly hx hy : Int) : Bool := boxB (mnN X n) (mnN Y n) (mxN X n) (mxN Y n) && boxB lx ly hx hy && decide (mnN X n ≤ hx) && decide (lx ≤ mxN X n) && decide (mnN Y n ≤ hy) && decide (ly ≤ mxN Y n)
set_option maxHeartbeats 8000000 in
set_option maxRecDepth 100000 in
theorem c_rmb {n : Nat} {X Y : Nat → Int} {v : Value} {lx ly hx hy : Int} (w : World) (h : Pts w v n X Y) (h0 : (Rg.ringC n X Y).1 = 0) (hm : arM n X Y lx ly hx hy = true) :
    Calls Tryz.prog 104 #[v, .agg #[.int .i64 lx, .int .i64 ly, .int .i64 hx, .int .i64 hy]] w fun e w' => e = .returned (.bool (mbW n X Y lx ly hx hy (List.range n) || (nearB lx ly && Rg.hasN n X Y lx ly))) ∧ Gr w w' := by
  have A1 := fun w' (g : Gr w w') => c_AroundN w' (pts_gr h g) (by have := (Rg.ringC_ok h0).1; omega)
  have A2 := fun w' => c_Meets (mnN X n) (mnN Y n) (mxN X n) (mxN Y n) lx ly hx hy w'
  have A3 := fun w' (g : Gr w w') => c_hs w h h0 lx ly w' g
  unfold arM at hm
  rw [hm] at A2
  have h1 : 1 ≤ n := by have := (Rg.ringC_ok h0).1; omega
  have hn : n ≤ 1000 := by have := (Rg.ringC_ok h0).1; omega
  generalize (nearB lx ly && Rg.hasN n X Y lx ly) = hz at A3 ⊢
  obtain ⟨ad, cap, B, off, rfl, q1, q2, q3, q4⟩ := h
  obtain rfl := q3 (by omega)
  have hB : B < w.heap.size := World.block_lt_of_cell? _ _ (q4 0 (by omega)).1
  have HC := Lib.hid q4
  have hmx : Tryz.prog.follows .mixedOrders = true := by kernel_rfl
  have H1 := Lib.hid A1
  have H2 := Lib.hid A2
  have H3 := Lib.hid A3
  clear A1 A2 A3
  clear q3 q4 hm h0
  refine (callsIn_wide (n := 10)).1 ?_
  refine callsIn_of_wp_marks Tryz.func104 rfl trivial ?_ rfl
  simp only [Tryz.ntmps104, List.size_toArray, List.length_cons, List.length_nil, Nat.reduceAdd, Nat.reduceSub, Array.replicate_succ, Array.replicate_zero, List.push_toArray, List.append_toArray, List.nil_append, List.cons_append]
  have n0 : 0 < n := by omega
  gi_wp2
  have bP : Box4 (w.alloc (.cells #[.int .i64 lx, .int .i64 ly, .int .i64 hx, .int .i64 hy] 28)) w.heap.size lx ly hx hy := Box4.new w lx ly hx hy
  have bR := Boxed.new (w.alloc (.cells #[.int .i64 lx, .int .i64 ly, .int .i64 hx, .int .i64 hy] 28)) 4 (.bool false)
  have bP0 := bP.alloc (.cells #[.bool false] 4)
  have hG0 : Gr w ((w.alloc (.cells #[.int .i64 lx, .int .i64 ly, .int .i64 hx, .int .i64 hy] 28)).alloc (.cells #[.bool false] 4)) := by go_grown
  have hsz : ((w.alloc (.cells #[.int .i64 lx, .int .i64 ly, .int .i64 hx, .int .i64 hy] 28)).alloc (.cells #[.bool false] 4)).heap.size = w.heap.size + 2 := by simp
  simp only [World.size_alloc] at bR
  obtain ⟨W1, hW1⟩ : ∃ W1, (w.alloc (.cells #[.int .i64 lx, .int .i64 ly, .int .i64 hx, .int .i64 hy] 28)).alloc (.cells #[.bool false] 4) = W1 := ⟨_, rfl⟩
  rw [hW1] at bP0 bR hG0 hsz ⊢
  clear hW1 bP
  obtain ⟨b0, b1, b2, b3⟩ := bP0.cells
  refine wpIn_mono (Q := Exit.then (fun a' W2 => a' = { tmps := #[.slice (some ⟨B, off, none⟩) n cap, .agg #[.int .i64 lx, .int .i64 ly, .int .i64 hx, .int .i64 hy], undef, .pointer (some ⟨w.heap.size, 0, none⟩), .pointer (some ⟨w.heap.size + 1, 0, none⟩), undef, undef, .slice (some ⟨B, off, none⟩) n cap, .agg #[.int .i64 (mnN X n), .int .i64 (mnN Y n), .int .i64 (mxN X n), .int .i64 (mxN Y n)], .agg #[.int .i64 lx, .int .i64 ly, .int .i64 hx, .int .i64 hy], .bool true, .bool false, undef, undef, undef, undef, undef, undef, undef, undef, undef, undef, undef, undef], defers := [] } ∧ Gr W1 W2) (fun _ _ _ => False)) ?_ ?_
  · generalize mnN X n = m1 at H1 H2 ⊢
    generalize mnN Y n = m2 at H1 H2 ⊢
    generalize mxN X n = m3 at H1 H2 ⊢
    generalize mxN Y n = m4 at H1 H2 ⊢
    gi_region_with_o (first
      | (refine ⟨trivial, ?_⟩; gi_at_call 62; (refine (callsIn_wide.2 (H1.out _ (Gr.trans hG0 (by go_grown)))).mono ?_); rintro e w' ⟨rfl, gx⟩; (have gy : Gr W1 w' := Gr.trans (by go_grown) gx); (have d0 := cell_gr gy b0); (have d1 := cell_gr gy b1); (have d2 := cell_gr gy b2); (have d3 := cell_gr gy b3); clear gx)
      | (gi_at_call 62; (refine (callsIn_wide.2 (H1.out _ (Gr.trans hG0 (by go_grown)))).mono ?_); rintro e w' ⟨rfl, gx⟩; (have gy : Gr W1 w' := Gr.trans (by go_grown) gx); (have d0 := cell_gr gy b0); (have d1 := cell_gr gy b1); (have d2 := cell_gr gy b2); (have d3 := cell_gr gy b3); clear gx)
      | (refine ⟨trivial, ?_⟩; gi_at_call 87; (refine (callsIn_wide.2 (H2.out _)).mono ?_); rintro e w'' ⟨rfl, gx⟩; (have gz : Gr W1 w'' := Gr.trans gy (Gr.trans (by go_grown) gx)); clear gx)
      | (gi_at_call 87; (refine (callsIn_wide.2 (H2.out _)).mono ?_); rintro e w'' ⟨rfl, gx⟩; (have gz : Gr W1 w'' := Gr.trans gy (Gr.trans (by go_grown) gx)); clear gx))
    all_goals exact ⟨rfl, Gr.trans gz (by go_grown)⟩
  intro e a' W2 hh
  cases e
  all_goals try exact False.elim hh
  obtain ⟨rfl, g2⟩ := hh
  dsimp only [Exit.then]
  have g2s := g2.size
  have bP2 : Box4 W2 w.heap.size lx ly hx hy := bP0.kept (gr_grown g2) (by simp)
  have bR2 : Boxed W2 (w.heap.size + 1) 4 (.bool false) := bR.kept (gr_grown g2) (by simp)
  have hG2 : Gr w W2 := Gr.trans hG0 g2
  clear b0 b1 b2 b3 bP0 bR hG0 g2
  gi_wp2_with (refine ⟨trivial, ?_⟩; gi_at_call 76; refine (callsIn_wide.2 (c_Edges _ _ _ _)).mono ?_; rintro e w' ⟨rfl, rfl⟩)
  have bE := Boxed.new W2 22 (.slice (some ⟨B, off, none⟩) n cap)
  have bP0 := bP2.alloc (.cells #[.slice (some ⟨B, off, none⟩) n cap] 22)
  have bR0 := bR2.alloc (.cells #[.slice (some ⟨B, off, none⟩) n cap] 22)
  have hG0 : Gr w (W2.alloc (.cells #[.slice (some ⟨B, off, none⟩) n cap] 22)) := Gr.trans hG2 (by go_grown)
  have hsz0 : (W2.alloc (.cells #[.slice (some ⟨B, off, none⟩) n cap] 22)).heap.size = W2.heap.size + 1 := by simp
  obtain ⟨W0, hW0⟩ : ∃ W0, W2.alloc (.cells #[.slice (some ⟨B, off, none⟩) n cap] 22) = W0 := ⟨_, rfl⟩
  rw [hW0] at bE bP0 bR0 hG0 hsz0 ⊢
  obtain ⟨q, hq⟩ : ∃ q, W2.heap.size = q := ⟨_, rfl⟩
  rw [hq] at bE hsz0 g2s ⊢
  clear hW0 bP2 bR2 hG2 hq H1 H2
  refine wpIn_rangeFunc_ownH rfl (by decide) (gf := 114) (lb := #[.pointer (some ⟨q, 0, none⟩)]) rfl trivial (enters_of Tryz.func114 (by kernel_rfl) rfl)
    (edges_stops (10 - 1) (by decide) q B off n cap X Y hn h1 W0 bE.cell q1 q2 (fun k hk => ⟨cell_gr hG0 (HC.out k hk).1, cell_gr hG0 (HC.out k hk).2⟩)) KK.trans (kk_put (by omega) (by omega)) (Below.refl _ _) (fun _ => rfl)
    (fun pre W => (Boxed W (w.heap.size + 1) 4 (.bool false)) ∧ ((Box4 W w.heap.size lx ly hx hy ∧ mbW n X Y lx ly hx hy pre = false) ∧ (q + 1 ≤ W.heap.size ∧ Below w.heap.size w W)))
    (fun c pre W => (c = .ret ∧ mbW n X Y lx ly hx hy pre = true) ∧ (Boxed W (w.heap.size + 1) 4 (.bool true) ∧ Below w.heap.size w W))
    (OwnFrom.and (Own.from (boxed_own _ _ _) _) (OwnFrom.and (OwnFrom.and (Own.from (box4_own _ _ _ _ _) _) (ownFrom_pure _ _)) (OwnFrom.and (fun _ P Q row hs hg hr => Nat.le_trans hs hg.size) (ownFrom_below (Nat.le_refl _) (by omega)))))
    (fun c => OwnFrom.and (ownFrom_pure _ _) (OwnFrom.and (Own.from (boxed_own _ _ _) _) (ownFrom_below (Nat.le_refl _) (by omega))))
    ⟨bR0, ⟨bP0, rfl⟩, by omega, hG0⟩
    (fun x a' W => ∃ Ba Bb, q + 1 ≤ Ba ∧ q + 1 ≤ Bb ∧ Box2 W Ba (X x) (Y x) ∧ Box2 W Bb (X (Rg.nx1 n x)) (Y (Rg.nx1 n x)) ∧ a' = { tmps := #[.slice (some ⟨B, off, none⟩) n cap, .agg #[.int .i64 lx, .int .i64 ly, .int .i64 hx, .int .i64 hy], undef, .pointer (some ⟨w.heap.size, 0, none⟩), .pointer (some ⟨w.heap.size + 1, 0, none⟩), .pointer (some ⟨Ba, 0, none⟩), .pointer (some ⟨Bb, 0, none⟩), .slice (some ⟨B, off, none⟩) n cap, .agg #[.int .i64 (mnN X n), .int .i64 (mnN Y n), .int .i64 (mxN X n), .int .i64 (mxN Y n)], .agg #[.int .i64 lx, .int .i64 ly, .int .i64 hx, .int .i64 hy], .bool true, .bool false, .slice (some ⟨B, off, none⟩) n cap, .func (.func 114) #[] #[.pointer (some ⟨q, 0, none⟩)], .agg #[.int .i64 (X x), .int .i64 (Y x)], .agg #[.int .i64 (X (Rg.nx1 n x)), .int .i64 (Y (Rg.nx1 n x))], undef, undef, undef, undef, undef, undef, undef, undef], defers := [] })
    (fun x a' _ P Q row hs hg hr => by obtain ⟨Ba, Bb, i1, i2, i3, i4, i5⟩ := hs; exact ⟨Ba, Bb, i1, i2, box2_notcells i3 hg (fun r e => (hr r e).2), box2_notcells i4 hg (fun r e => (hr r e).2), i5⟩)
    ?assign ?body ?done ?stop
  case assign =>
    rintro l pre x W K ⟨bR1, ⟨bP1, hon⟩, hs3, hB1⟩ hK
    gi_wp2
    have gA : Gr W ((W.alloc (.cells #[.int .i64 (X x), .int .i64 (Y x)] 26)).alloc (.cells #[.int .i64 (X (Rg.nx1 n x)), .int .i64 (Y (Rg.nx1 n x))] 26)) := by go_grown
    exact hK _ _ ((gr_keeps gA).from _) ((KK.refl _ _ _).gr gA (by omega) (by omega)) ⟨(bR1.alloc _).alloc _, ⟨(bP1.alloc _).alloc _, hon⟩, Nat.le_trans hs3 gA.size, Gr.trans hB1 gA⟩
      ⟨W.heap.size, W.heap.size + 1, hs3, by omega, (Box2.new W (X x) (Y x)).alloc _, (by have := Box2.new (W.alloc (.cells #[.int .i64 (X x), .int .i64 (Y x)] 26)) (X (Rg.nx1 n x)) (Y (Rg.nx1 n x)); rwa [World.size_alloc] at this), rfl⟩
  case body =>
    rintro l pre x a' W hl ⟨r, hr⟩ ⟨bR1, ⟨bP1, hon⟩, hs3, hB1⟩ ⟨Ba, Bb, hBa, hBb, bA, bB, rfl⟩ hlt
    obtain ⟨a0, a1⟩ := bA.cells
    obtain ⟨b0, b1⟩ := bB.cells
    obtain ⟨p0, p1, p2, p3⟩ := bP1.cells
    have cR := bR1.cell
    have fR := bR1.frozen
    have hso := mbW_snoc n X Y lx ly hx hy pre x
    rw [hon, Bool.false_or] at hso
    have CO := c_gMeetsBox (X x) (Y x) (X (Rg.nx1 n x)) (Y (Rg.nx1 n x)) lx ly hx hy
    generalize mbG (X x) (Y x) (X (Rg.nx1 n x)) (Y (Rg.nx1 n x)) lx ly hx hy = og at CO hso
    generalize X x = xa at a0 CO
    generalize Y x = ya at a1 CO
    generalize X (Rg.nx1 n x) = xb at b0 CO
    generalize Y (Rg.nx1 n x) = yb at b1 CO
    have HCO := Lib.hid CO
    have HSO := Lib.hid hso
    have HB := Lib.hid (And.intro bR1 bP1)
    clear CO hso hon bA bB bR1 bP1
    cases og
    · gi_wp2_with (refine ⟨trivial, ?_⟩; gi_at_call 88; (refine (CallsIn.inRound l (callsIn_wide.2 (HCO.out _))).mono ?_); rintro e w2 ⟨rfl, g2⟩)
      obtain ⟨bR1, bP1⟩ := HB.out
      have g2s := g2.size
      exact ⟨(gr_keeps g2).from _, (KK.refl B q W).gr g2 (by omega) (by omega), ⟨bR1.kept (gr_grown g2) (by simp), ⟨bP1.kept (gr_grown g2) (by simp), HSO.out⟩, by omega, Gr.trans hB1 g2⟩⟩
    · gi_wp2_with (refine ⟨trivial, ?_⟩; gi_at_call 88; (refine (CallsIn.inRound l (callsIn_wide.2 (HCO.out _))).mono ?_); rintro e w2 ⟨rfl, g2⟩; have dR := cell_gr g2 cR; have eR := frozen_gr g2 cR fR)
      obtain ⟨bR1, bP1⟩ := HB.out
      exact ⟨((gr_keeps g2).trans (KeepsOthers.setCell _ _ _)).from _, ⟨rfl, HSO.out⟩, (bR1.kept (gr_grown g2) (by simp)).set _, (Gr.trans hB1 g2).setCell (p := ⟨w.heap.size + 1, 0, none⟩) (by simp) _⟩
  case done =>
    rintro D ys W' hD rfl ⟨bR1, ⟨bP1, hon⟩, hs3, hB1⟩ hK
    obtain ⟨p0, p1, p2, p3⟩ := bP1.cells
    have cR := bR1.cell
    have fR := bR1.frozen
    have HBR := Lib.hid bR1
    clear bR1 bP1
    gi_wp2_with (refine ⟨trivial, ?_⟩; gi_at_call 74; refine (callsIn_wide.2 (H3.out _ (Gr.trans hB1 (by go_grown)))).mono ?_; rintro e w2 ⟨rfl, gx⟩; (have g2 : Gr W' w2 := Gr.trans (by go_grown) gx); have dR := cell_gr g2 cR; have eR := frozen_gr g2 cR fR; clear gx)
    rw [hon, Bool.false_or]
    have bR2 : Boxed w2 (w.heap.size + 1) 4 (.bool false) := HBR.out.kept (gr_grown g2) (by simp)
    have hK1 : w2.heap[D]? = some (.deferred (some [])) := (gr_keeps g2).same D _ hK rfl
    have hK2 : (w2.setCell ⟨w.heap.size + 1, 0, none⟩ (.bool hz)).heap[D]? = some (.deferred (some [])) := (KeepsOthers.setCell _ _ _).same D _ hK1 rfl
    have hc2 := cell_kept (bR2.set (.bool hz)).cell (grownBy_putObj' _ D (.deferred none)) (fun r e => by cases e; exact ⟨_, hK2, rfl⟩)
    refine ⟨by simp, .inl ⟨_, _, rfl, run_takeDeferred hK2, ?_⟩⟩
    exact ⟨_, results_cell1 rfl rfl (Tryz.underlying4) rfl hc2, rfl, ((Gr.trans hB1 g2).setCell (p := ⟨w.heap.size + 1, 0, none⟩) (by simp) _).trans (belowK_b (w := w) (Nat.le_refl _) _ D _ _ (by omega) hK2 rfl rfl)⟩
  case stop =>
    rintro D c pre W hD ⟨k, hk, rfl⟩ ⟨⟨rfl, hon⟩, bR1, hB1⟩ hK
    have cR := bR1.cell
    gi_wp2
    have hc2 := cell_kept cR (grownBy_putObj' _ D (.deferred none)) (fun r e => by cases e; exact ⟨_, hK, rfl⟩)
    rw [mbW_mono hk hon, Bool.true_or]
    refine ⟨by simp, .inl ⟨_, _, rfl, run_takeDeferred hK, ?_⟩⟩
    exact ⟨_, results_cell1 rfl rfl (Tryz.underlying4) rfl hc2, rfl, hB1.trans (belowK_b (w := w) (Nat.le_refl _) _ D _ _ (by omega) hK rfl rfl)⟩
end Go.Proofs.YtfobmlgpjhghdaaGreatDoor
namespace Go.Proofs.YtfobmlgpjhghdaaGreatDoor
set_option linter.unusedVariables false
set_option linter.unusedSimpArgs false
open Go.ChangeShapes Go.WideShapes Go.ChangeAt Go.RowKit
theorem c_As_nil (x : Value) (W : World) : Calls Tryz.prog 61 #[.nilIface, x] W fun e w' => e = .returned (.bool false) ∧ Gr W w' := by
  go_enter Tryz.func61, Tryz.ntmps61
  go_wp2_with fail
  go_ret
  exact ⟨rfl, by go_grown⟩
set_option maxHeartbeats 2000000 in
set_option maxRecDepth 100000 in
theorem c_allowed0 {D : Nat} (W : World) (p0 : W.cell? ⟨D, 0, none⟩ = some .nilIface) (p1 : W.cell? ⟨D, 1, none⟩ = some .nilIface) : Calls Tryz.prog 39 #[.slice (some ⟨D, 0, none⟩) 2 2] W fun e w' => e = .returned (.bool true) ∧ Gr W w' := by
  have hD := World.block_lt_of_cell? _ _ p0
  go_enter Tryz.func39, Tryz.ntmps39
  go_wp2_with fail
  go_loopg [8] 2 (fun k x wr => ((k = 2 ∧ x = .int .i64 0) ∨ (k = 1 ∧ x = .int .i64 1) ∨ (k = 0 ∧ x = .int .i64 2)) ∧ Gr W wr)
  case atStart => exact ⟨Or.inl ⟨rfl, rfl⟩, by go_grown⟩
  case round =>
    obtain ⟨hx, hg⟩ := hrel
    have r0 := cell_gr hg p0
    have r1 := cell_gr hg p1
    have hgs := hg.size
    rcases hx with ⟨rfl, rfl⟩ | ⟨rfl, rfl⟩ | ⟨rfl, rfl⟩
    · go_wp2_with fail
      go_at_call 61
      refine (c_As_nil _ _).mono ?_
      rintro e w1 ⟨rfl, g1⟩
      have G1 : Gr W w1 := Gr.trans (by go_grown) g1
      clear g1
      go_wp2_with fail
      go_roundg 1
      case measure => omega
      case rel => exact ⟨Or.inr (Or.inl ⟨rfl, rfl⟩), by have gs := G1.size; go_grown⟩
    · go_wp2_with fail
      go_at_call 61
      refine (c_As_nil _ _).mono ?_
      rintro e w1 ⟨rfl, g1⟩
      have G1 : Gr W w1 := Gr.trans (by go_grown) g1
      clear g1
      go_wp2_with fail
      go_roundg 0
      case measure => omega
      case rel => exact ⟨Or.inr (Or.inr ⟨rfl, rfl⟩), by have gs := G1.size; go_grown⟩
    · go_wp2_with fail
      go_ret
      exact ⟨rfl, by go_grown⟩
theorem werr_zero {op : ByteArray} {w : World} {v : Value} {id : Int} {k : Nat} (h : WErr op w v id k) (hk : k = 0) : v = .nilIface := by
  rcases h with ⟨h, -⟩ | ⟨B, u, d, -, h2, -⟩
  · exact h
  · omega
def rmbV (n : Nat) (X Y : Nat → Int) (lx ly hx hy : Int) : Bool := mbW n X Y lx ly hx hy (List.range n) || (nearB lx ly && Rg.hasN n X Y lx ly)
theorem c_rmb' {n : Nat} {X Y : Nat → Int} {v : Value} {lx ly hx hy : Int} (W : World) (h : Pts W v n X Y) (h0 : (Rg.ringC n X Y).1 = 0) (hm : arM n X Y lx ly hx hy = true) : Calls Tryz.prog 104 #[v, .agg #[.int .i64 lx, .int .i64 ly, .int .i64 hx, .int .i64 hy]] W fun e w' => e = .returned (.bool (rmbV n X Y lx ly hx hy)) ∧ Gr W w' := c_rmb W h h0 hm
section
variable {n : Nat} {X Y : Nat → Int} {v : Value} {px py : Int}
set_option maxRecDepth 100000 in
theorem c_meetsBox4 (lx ly hx hy : Int) (W : World) (h : Pts W v n X Y) (h0 : (Rg.ringC n X Y).1 = 0) (hm : arM n X Y lx ly hx hy = true) :
    Calls Tryz.prog 68 #[.agg #[.int .i64 4, v], .agg #[.int .i64 lx, .int .i64 ly, .int .i64 hx, .int .i64 hy]] W fun e w' => e = .returned (.bool (rmbV n X Y lx ly hx hy)) ∧ Gr W w' := by
  have A1 := fun w (g : Gr W w) => c_rmb' (lx := lx) (ly := ly) (hx := hx) (hy := hy) w (pts_gr h g) h0 hm
  generalize (rmbV n X Y lx ly hx hy) = z at A1 ⊢
  obtain ⟨ad, cap, B, off, rfl, _⟩ := h
  have H1 := Lib.hid A1
  clear A1
  go_enter Tryz.func68, Tryz.ntmps68
  go_wp2_with fail
  go_at_call 104
  refine ((H1.out _ (by go_grown))).mono ?_
  rintro e w1 ⟨rfl, hw1⟩
  have gw1 : Gr W w1 := Gr.trans (by go_grown) hw1
  clear hw1
  go_wp2_with fail
  go_ret
  exact ⟨rfl, gw1⟩
set_option maxRecDepth 100000 in
theorem c_Matches_has (hx hy : Int) (u : Value) (W : World) (hu : ∃ ad m c, u = .slice ad m c) (h : Pts W v n X Y) (h0 : (Rg.ringC n X Y).1 = 0) (hm : arM n X Y px py px py = true) :
    Calls Tryz.prog 41 #[.agg #[.int .i64 4, v], qryV 3 px py hx hy u] W fun e w' => e = .returned (.bool (rmbV n X Y px py px py)) ∧ Gr W w' := by
  have A1 := fun w (g : Gr W w) => c_meetsBox4 px py px py w (pts_gr h g) h0 hm
  generalize (rmbV n X Y px py px py) = z at A1 ⊢
  obtain ⟨ad, cap, B, off, rfl, _⟩ := h
  obtain ⟨bd, m, c, rfl⟩ := hu
  have H1 := Lib.hid A1
  clear A1
  go_enter Tryz.func41, Tryz.ntmps41
  go_wp2_with fail
  go_at_call 68
  refine ((H1.out _ (by go_grown))).mono ?_
  rintro e w1 ⟨rfl, hw1⟩
  have gw1 : Gr W w1 := Gr.trans (by go_grown) hw1
  clear hw1
  go_wp2_with fail
  go_ret
  exact ⟨rfl, gw1⟩
set_option maxHeartbeats 4000000 in
set_option maxRecDepth 100000 in
theorem c_Match_has {m : Nat} {P Q : Nat → Int} (hx hy : Int) (u : Value) (W : World) (hu : Pts W u m P Q) (h : Pts W v n X Y) (h0 : (Rg.ringC n X Y).1 = 0) (hp : nearB px py = true) (hm : arM n X Y px py px py = true) :
    Calls Tryz.prog 13 #[.agg #[.int .i64 4, v], qryV 3 px py hx hy u] W fun e w' => e = .returned (.bool (rmbV n X Y px py px py)) ∧ Gr W w' := by
  have A1 : ∀ w, Gr W w → Calls Tryz.prog 34 #[.agg #[.int .i64 4, v]] w fun e w' => e = .returned .nilIface ∧ Gr w w' := fun w g => (c_relCheck 4 w (pts_gr h g)).mono (by
    rintro e w' ⟨x, rfl, hx, g'⟩
    obtain rfl := werr_zero hx (by rw [objC_4]; exact h0)
    exact ⟨rfl, g'⟩)
  have A2 : ∀ w, Gr W w → Calls Tryz.prog 40 #[qryV 3 px py hx hy u] w fun e w' => e = .returned .nilIface ∧ Gr w w' := fun w g => (c_CheckQuery 3 px py hx hy w (pts_gr hu g)).mono (by
    rintro e w' ⟨x, rfl, hx, g'⟩
    obtain rfl := werr_zero hx (by unfold qC; rw [if_neg (by omega), if_pos rfl, if_pos hp])
    exact ⟨rfl, g'⟩)
  have hu2 : ∃ ad m c, u = .slice ad m c := by obtain ⟨ad, cap, _, _, rfl, _⟩ := hu; exact ⟨_, _, _, rfl⟩
  have A3 := fun w (g : Gr W w) => c_Matches_has (px := px) (py := py) hx hy u w hu2 (pts_gr h g) h0 hm
  have A4 := fun (D : Nat) w => c_allowed0 (D := D) w
  generalize (rmbV n X Y px py px py) = z at A3 ⊢
  obtain ⟨ad, cap, B, off, rfl, _⟩ := h
  obtain ⟨bd, bcap, C, oc, rfl, _⟩ := hu
  have H1 := Lib.hid A1
  have H2 := Lib.hid A2
  have H3 := Lib.hid A3
  have H4 := Lib.hid A4
  clear A1 A2 A3 A4
  clear hu2 hp hm h0
  go_enter Tryz.func13, Tryz.ntmps13
  go_wp2_with fail
  try simp only [List.append]
  refine Od.wp_region_ord [(0, false), (2, false), (1, true), (3, true), (4, true), (5, true), (6, false), (7, false), (8, false), (9, true), (10, false), (11, false)] (by kernel_rfl) (by kernel_rfl) ?_
  intro w0 hw0 KQ hKQ
  have cw0_0_0 : w0.cell? ⟨W.heap.size, 0, none⟩ = some (.int .i64 4) := cell_gr hw0 (by go_simp)
  have cw0_0_1 : w0.cell? ⟨W.heap.size, 1, none⟩ = some (.slice ad n cap) := cell_gr hw0 (by go_simp)
  have zw0_0 : W.heap.size < w0.heap.size := World.block_lt_of_cell? _ _ cw0_0_0
  have cw0_1_0 : w0.cell? ⟨W.heap.size + 1, 0, none⟩ = some (.int .i64 3) := cell_gr hw0 (by go_simp)
  have cw0_1_1 : w0.cell? ⟨W.heap.size + 1, 1, none⟩ = some (.int .i64 px) := cell_gr hw0 (by go_simp)
  have cw0_1_2 : w0.cell? ⟨W.heap.size + 1, 2, none⟩ = some (.int .i64 py) := cell_gr hw0 (by go_simp)
  have cw0_1_3 : w0.cell? ⟨W.heap.size + 1, 3, none⟩ = some (.int .i64 hx) := cell_gr hw0 (by go_simp)
  have cw0_1_4 : w0.cell? ⟨W.heap.size + 1, 4, none⟩ = some (.int .i64 hy) := cell_gr hw0 (by go_simp)
  have cw0_1_5 : w0.cell? ⟨W.heap.size + 1, 5, none⟩ = some (.slice bd m bcap) := cell_gr hw0 (by go_simp)
  have zw0_1 : W.heap.size + 1 < w0.heap.size := World.block_lt_of_cell? _ _ cw0_1_0
  have gw0 : Gr W w0 := Gr.trans (by go_grown) hw0
  skip
  clear hw0
  repeat (first | (refine Od.wpO_skip (by simp only [List.getElem?_toArray, List.getElem?_cons_succ, List.getElem?_cons_zero] <;> rfl) rfl ?_; simp only [Act.put, List.setIfInBounds_toArray, List.set_cons_zero, List.set_cons_succ]) | (refine Od.wpO_pure (by simp only [List.getElem?_toArray, List.getElem?_cons_succ, List.getElem?_cons_zero] <;> rfl) rfl ?_; apply Exists.intro; refine ⟨?_, ?_⟩; (· intro wx gx; obtain ⟨mx, rfl⟩ := spread_of_gr gx; clear gx; all_goals (apply Od.pAt_of_quiet; intro K hK; go_big_quiet_op; first | exact hK _ rfl | (apply Exists.intro; refine ⟨fun _ => ?_, ?_⟩; (· fail); exact hK _ rfl))); try simp only [Act.put, List.setIfInBounds_toArray, List.set_cons_zero, List.set_cons_succ]))
  refine Od.wpO_call (by simp only [List.getElem?_toArray, List.getElem?_cons_succ, List.getElem?_cons_zero] <;> rfl) rfl ?_
  intro QS hQS
  go_wp2_with fail
  go_at_call 34
  (with_reducible refine ((H1.out _ gw0)).mono ?_)
  rintro e w1 ⟨rfl, hw1⟩
  go_wp2_with fail
  apply Exists.intro
  refine ⟨?_, hw1, ?_⟩
  · simp only [Act.put, List.setIfInBounds_toArray, List.set_cons_zero, List.set_cons_succ]; rfl
  have cw1_0_0 : w1.cell? ⟨W.heap.size, 0, none⟩ = some (.int .i64 4) := cell_gr hw1 (by go_simp)
  have cw1_0_1 : w1.cell? ⟨W.heap.size, 1, none⟩ = some (.slice ad n cap) := cell_gr hw1 (by go_simp)
  have zw1_0 : W.heap.size < w1.heap.size := World.block_lt_of_cell? _ _ cw1_0_0
  have cw1_1_0 : w1.cell? ⟨W.heap.size + 1, 0, none⟩ = some (.int .i64 3) := cell_gr hw1 (by go_simp)
  have cw1_1_1 : w1.cell? ⟨W.heap.size + 1, 1, none⟩ = some (.int .i64 px) := cell_gr hw1 (by go_simp)
  have cw1_1_2 : w1.cell? ⟨W.heap.size + 1, 2, none⟩ = some (.int .i64 py) := cell_gr hw1 (by go_simp)
  have cw1_1_3 : w1.cell? ⟨W.heap.size + 1, 3, none⟩ = some (.int .i64 hx) := cell_gr hw1 (by go_simp)
  have cw1_1_4 : w1.cell? ⟨W.heap.size + 1, 4, none⟩ = some (.int .i64 hy) := cell_gr hw1 (by go_simp)
  have cw1_1_5 : w1.cell? ⟨W.heap.size + 1, 5, none⟩ = some (.slice bd m bcap) := cell_gr hw1 (by go_simp)
  have zw1_1 : W.heap.size + 1 < w1.heap.size := World.block_lt_of_cell? _ _ cw1_1_0
  have gw1 : Gr W w1 := Gr.trans (by have gg := gw0; have gs := gg.size; go_grown) hw1
  clear gw0 zw0_0 cw0_0_0 cw0_0_1 zw0_1 cw0_1_0 cw0_1_1 cw0_1_2 cw0_1_3 cw0_1_4 cw0_1_5
  clear hw1
  try simp only [Act.put, List.setIfInBounds_toArray, List.set_cons_zero, List.set_cons_succ]
  repeat (first | (refine Od.wpO_skip (by simp only [List.getElem?_toArray, List.getElem?_cons_succ, List.getElem?_cons_zero] <;> rfl) rfl ?_; simp only [Act.put, List.setIfInBounds_toArray, List.set_cons_zero, List.set_cons_succ]) | (refine Od.wpO_pure (by simp only [List.getElem?_toArray, List.getElem?_cons_succ, List.getElem?_cons_zero] <;> rfl) rfl ?_; apply Exists.intro; refine ⟨?_, ?_⟩; (· intro wx gx; obtain ⟨mx, rfl⟩ := spread_of_gr gx; clear gx; all_goals (apply Od.pAt_of_quiet; intro K hK; go_big_quiet_op; first | exact hK _ rfl | (apply Exists.intro; refine ⟨fun _ => ?_, ?_⟩; (· fail); exact hK _ rfl))); try simp only [Act.put, List.setIfInBounds_toArray, List.set_cons_zero, List.set_cons_succ]))
  refine Od.wpO_call (by simp only [List.getElem?_toArray, List.getElem?_cons_succ, List.getElem?_cons_zero] <;> rfl) rfl ?_
  intro QS hQS
  go_wp2_with fail
  go_at_call 40
  (with_reducible refine ((H2.out _ gw1)).mono ?_)
  rintro e w2 ⟨rfl, hw2⟩
  go_wp2_with fail
  apply Exists.intro
  refine ⟨?_, hw2, ?_⟩
  · simp only [Act.put, List.setIfInBounds_toArray, List.set_cons_zero, List.set_cons_succ]; rfl
  have cw2_0_0 : w2.cell? ⟨W.heap.size, 0, none⟩ = some (.int .i64 4) := cell_gr hw2 (by go_simp)
  have cw2_0_1 : w2.cell? ⟨W.heap.size, 1, none⟩ = some (.slice ad n cap) := cell_gr hw2 (by go_simp)
  have zw2_0 : W.heap.size < w2.heap.size := World.block_lt_of_cell? _ _ cw2_0_0
  have cw2_1_0 : w2.cell? ⟨W.heap.size + 1, 0, none⟩ = some (.int .i64 3) := cell_gr hw2 (by go_simp)
  have cw2_1_1 : w2.cell? ⟨W.heap.size + 1, 1, none⟩ = some (.int .i64 px) := cell_gr hw2 (by go_simp)
  have cw2_1_2 : w2.cell? ⟨W.heap.size + 1, 2, none⟩ = some (.int .i64 py) := cell_gr hw2 (by go_simp)
  have cw2_1_3 : w2.cell? ⟨W.heap.size + 1, 3, none⟩ = some (.int .i64 hx) := cell_gr hw2 (by go_simp)
  have cw2_1_4 : w2.cell? ⟨W.heap.size + 1, 4, none⟩ = some (.int .i64 hy) := cell_gr hw2 (by go_simp)
  have cw2_1_5 : w2.cell? ⟨W.heap.size + 1, 5, none⟩ = some (.slice bd m bcap) := cell_gr hw2 (by go_simp)
  have zw2_1 : W.heap.size + 1 < w2.heap.size := World.block_lt_of_cell? _ _ cw2_1_0
  have gw2 : Gr W w2 := Gr.trans (by have gg := gw1; have gs := gg.size; go_grown) hw2
  clear gw1 zw1_0 cw1_0_0 cw1_0_1 zw1_1 cw1_1_0 cw1_1_1 cw1_1_2 cw1_1_3 cw1_1_4 cw1_1_5
  clear hw2
  try simp only [Act.put, List.setIfInBounds_toArray, List.set_cons_zero, List.set_cons_succ]
  repeat (first | (refine Od.wpO_skip (by simp only [List.getElem?_toArray, List.getElem?_cons_succ, List.getElem?_cons_zero] <;> rfl) rfl ?_; simp only [Act.put, List.setIfInBounds_toArray, List.set_cons_zero, List.set_cons_succ]) | (refine Od.wpO_pure (by simp only [List.getElem?_toArray, List.getElem?_cons_succ, List.getElem?_cons_zero] <;> rfl) rfl ?_; apply Exists.intro; refine ⟨?_, ?_⟩; (· intro wx gx; obtain ⟨mx, rfl⟩ := spread_of_gr gx; clear gx; all_goals (apply Od.pAt_of_quiet; intro K hK; go_big_quiet_op; first | exact hK _ rfl | (apply Exists.intro; refine ⟨fun _ => ?_, ?_⟩; (· fail); exact hK _ rfl))); try simp only [Act.put, List.setIfInBounds_toArray, List.set_cons_zero, List.set_cons_succ]))
  refine Od.wpO_call (by simp only [List.getElem?_toArray, List.getElem?_cons_succ, List.getElem?_cons_zero] <;> rfl) rfl ?_
  intro QS hQS
  go_wp2_with fail
  first | (apply Exists.intro; refine ⟨?_, (by go_grown), ?_⟩; (· simp only [Act.put, List.setIfInBounds_toArray, List.set_cons_zero, List.set_cons_succ]; rfl)) | (refine ⟨(by go_grown), ?_⟩)
  generalize hhw3 : (w2.alloc (.cells #[.nilIface, .nilIface] 34)) = w3
  have hw3 : Gr w2 w3 := by subst hhw3; go_grown
  have cw3_0_0 : w3.cell? ⟨W.heap.size, 0, none⟩ = some (.int .i64 4) := by subst hhw3; go_simp
  have cw3_0_1 : w3.cell? ⟨W.heap.size, 1, none⟩ = some (.slice ad n cap) := by subst hhw3; go_simp
  have zw3_0 : W.heap.size < w3.heap.size := World.block_lt_of_cell? _ _ cw3_0_0
  have cw3_1_0 : w3.cell? ⟨W.heap.size + 1, 0, none⟩ = some (.int .i64 3) := by subst hhw3; go_simp
  have cw3_1_1 : w3.cell? ⟨W.heap.size + 1, 1, none⟩ = some (.int .i64 px) := by subst hhw3; go_simp
  have cw3_1_2 : w3.cell? ⟨W.heap.size + 1, 2, none⟩ = some (.int .i64 py) := by subst hhw3; go_simp
  have cw3_1_3 : w3.cell? ⟨W.heap.size + 1, 3, none⟩ = some (.int .i64 hx) := by subst hhw3; go_simp
  have cw3_1_4 : w3.cell? ⟨W.heap.size + 1, 4, none⟩ = some (.int .i64 hy) := by subst hhw3; go_simp
  have cw3_1_5 : w3.cell? ⟨W.heap.size + 1, 5, none⟩ = some (.slice bd m bcap) := by subst hhw3; go_simp
  have zw3_1 : W.heap.size + 1 < w3.heap.size := World.block_lt_of_cell? _ _ cw3_1_0
  have cw3_2_0 : w3.cell? ⟨w2.heap.size, 0, none⟩ = some (.nilIface) := by subst hhw3; go_simp
  have cw3_2_1 : w3.cell? ⟨w2.heap.size, 1, none⟩ = some (.nilIface) := by subst hhw3; go_simp
  have zw3_2 : w2.heap.size < w3.heap.size := World.block_lt_of_cell? _ _ cw3_2_0
  have gw3 : Gr W w3 := Gr.trans (by have gg := gw2; have gs := gg.size; go_grown) hw3
  clear hhw3 hw3 gw2 zw2_0 cw2_0_0 cw2_0_1 zw2_1 cw2_1_0 cw2_1_1 cw2_1_2 cw2_1_3 cw2_1_4 cw2_1_5
  try simp only [Act.put, List.setIfInBounds_toArray, List.set_cons_zero, List.set_cons_succ]
  repeat (first | (refine Od.wpO_skip (by simp only [List.getElem?_toArray, List.getElem?_cons_succ, List.getElem?_cons_zero] <;> rfl) rfl ?_; simp only [Act.put, List.setIfInBounds_toArray, List.set_cons_zero, List.set_cons_succ]) | (refine Od.wpO_pure (by simp only [List.getElem?_toArray, List.getElem?_cons_succ, List.getElem?_cons_zero] <;> rfl) rfl ?_; apply Exists.intro; refine ⟨?_, ?_⟩; (· intro wx gx; obtain ⟨mx, rfl⟩ := spread_of_gr gx; clear gx; all_goals (apply Od.pAt_of_quiet; intro K hK; go_big_quiet_op; first | exact hK _ rfl | (apply Exists.intro; refine ⟨fun _ => ?_, ?_⟩; (· fail); exact hK _ rfl))); try simp only [Act.put, List.setIfInBounds_toArray, List.set_cons_zero, List.set_cons_succ]))
  refine Od.wpO_call (by simp only [List.getElem?_toArray, List.getElem?_cons_succ, List.getElem?_cons_zero] <;> rfl) rfl ?_
  intro QS hQS
  go_wp2_with fail
  go_at_call 39
  (with_reducible refine ((H4.out _ _ cw3_2_0 cw3_2_1)).mono ?_)
  rintro e w4 ⟨rfl, hw4⟩
  go_wp2_with fail
  apply Exists.intro
  refine ⟨?_, hw4, ?_⟩
  · simp only [Act.put, List.setIfInBounds_toArray, List.set_cons_zero, List.set_cons_succ]; rfl
  have cw4_0_0 : w4.cell? ⟨W.heap.size, 0, none⟩ = some (.int .i64 4) := cell_gr hw4 (by go_simp)
  have cw4_0_1 : w4.cell? ⟨W.heap.size, 1, none⟩ = some (.slice ad n cap) := cell_gr hw4 (by go_simp)
  have zw4_0 : W.heap.size < w4.heap.size := World.block_lt_of_cell? _ _ cw4_0_0
  have cw4_1_0 : w4.cell? ⟨W.heap.size + 1, 0, none⟩ = some (.int .i64 3) := cell_gr hw4 (by go_simp)
  have cw4_1_1 : w4.cell? ⟨W.heap.size + 1, 1, none⟩ = some (.int .i64 px) := cell_gr hw4 (by go_simp)
  have cw4_1_2 : w4.cell? ⟨W.heap.size + 1, 2, none⟩ = some (.int .i64 py) := cell_gr hw4 (by go_simp)
  have cw4_1_3 : w4.cell? ⟨W.heap.size + 1, 3, none⟩ = some (.int .i64 hx) := cell_gr hw4 (by go_simp)
  have cw4_1_4 : w4.cell? ⟨W.heap.size + 1, 4, none⟩ = some (.int .i64 hy) := cell_gr hw4 (by go_simp)
  have cw4_1_5 : w4.cell? ⟨W.heap.size + 1, 5, none⟩ = some (.slice bd m bcap) := cell_gr hw4 (by go_simp)
  have zw4_1 : W.heap.size + 1 < w4.heap.size := World.block_lt_of_cell? _ _ cw4_1_0
  have cw4_2_0 : w4.cell? ⟨w2.heap.size, 0, none⟩ = some (.nilIface) := cell_gr hw4 (by go_simp)
  have cw4_2_1 : w4.cell? ⟨w2.heap.size, 1, none⟩ = some (.nilIface) := cell_gr hw4 (by go_simp)
  have zw4_2 : w2.heap.size < w4.heap.size := World.block_lt_of_cell? _ _ cw4_2_0
  have gw4 : Gr W w4 := Gr.trans (by have gg := gw3; have gs := gg.size; go_grown) hw4
  clear gw3 zw3_0 cw3_0_0 cw3_0_1 zw3_1 cw3_1_0 cw3_1_1 cw3_1_2 cw3_1_3 cw3_1_4 cw3_1_5 zw3_2 cw3_2_0 cw3_2_1
  clear hw4
  try simp only [Act.put, List.setIfInBounds_toArray, List.set_cons_zero, List.set_cons_succ]
  repeat (first | (refine Od.wpO_skip (by simp only [List.getElem?_toArray, List.getElem?_cons_succ, List.getElem?_cons_zero] <;> rfl) rfl ?_; simp only [Act.put, List.setIfInBounds_toArray, List.set_cons_zero, List.set_cons_succ]) | (refine Od.wpO_pure (by simp only [List.getElem?_toArray, List.getElem?_cons_succ, List.getElem?_cons_zero] <;> rfl) rfl ?_; apply Exists.intro; refine ⟨?_, ?_⟩; (· intro wx gx; obtain ⟨mx, rfl⟩ := spread_of_gr gx; clear gx; all_goals (apply Od.pAt_of_quiet; intro K hK; go_big_quiet_op; first | exact hK _ rfl | (apply Exists.intro; refine ⟨fun _ => ?_, ?_⟩; (· fail); exact hK _ rfl))); try simp only [Act.put, List.setIfInBounds_toArray, List.set_cons_zero, List.set_cons_succ]))
  refine Od.wpO_call (by simp only [List.getElem?_toArray, List.getElem?_cons_succ, List.getElem?_cons_zero] <;> rfl) rfl ?_
  intro QS hQS
  go_wp2_with fail
  go_at_call 41
  (with_reducible refine ((H3.out _ gw4)).mono ?_)
  rintro e w5 ⟨rfl, hw5⟩
  go_wp2_with fail
  apply Exists.intro
  refine ⟨?_, hw5, ?_⟩
  · simp only [Act.put, List.setIfInBounds_toArray, List.set_cons_zero, List.set_cons_succ]; rfl
  have cw5_0_0 : w5.cell? ⟨W.heap.size, 0, none⟩ = some (.int .i64 4) := cell_gr hw5 (by go_simp)
  have cw5_0_1 : w5.cell? ⟨W.heap.size, 1, none⟩ = some (.slice ad n cap) := cell_gr hw5 (by go_simp)
  have zw5_0 : W.heap.size < w5.heap.size := World.block_lt_of_cell? _ _ cw5_0_0
  have cw5_1_0 : w5.cell? ⟨W.heap.size + 1, 0, none⟩ = some (.int .i64 3) := cell_gr hw5 (by go_simp)
  have cw5_1_1 : w5.cell? ⟨W.heap.size + 1, 1, none⟩ = some (.int .i64 px) := cell_gr hw5 (by go_simp)
  have cw5_1_2 : w5.cell? ⟨W.heap.size + 1, 2, none⟩ = some (.int .i64 py) := cell_gr hw5 (by go_simp)
  have cw5_1_3 : w5.cell? ⟨W.heap.size + 1, 3, none⟩ = some (.int .i64 hx) := cell_gr hw5 (by go_simp)
  have cw5_1_4 : w5.cell? ⟨W.heap.size + 1, 4, none⟩ = some (.int .i64 hy) := cell_gr hw5 (by go_simp)
  have cw5_1_5 : w5.cell? ⟨W.heap.size + 1, 5, none⟩ = some (.slice bd m bcap) := cell_gr hw5 (by go_simp)
  have zw5_1 : W.heap.size + 1 < w5.heap.size := World.block_lt_of_cell? _ _ cw5_1_0
  have cw5_2_0 : w5.cell? ⟨w2.heap.size, 0, none⟩ = some (.nilIface) := cell_gr hw5 (by go_simp)
  have cw5_2_1 : w5.cell? ⟨w2.heap.size, 1, none⟩ = some (.nilIface) := cell_gr hw5 (by go_simp)
  have zw5_2 : w2.heap.size < w5.heap.size := World.block_lt_of_cell? _ _ cw5_2_0
  have gw5 : Gr W w5 := Gr.trans (by have gg := gw4; have gs := gg.size; go_grown) hw5
  clear gw4 zw4_0 cw4_0_0 cw4_0_1 zw4_1 cw4_1_0 cw4_1_1 cw4_1_2 cw4_1_3 cw4_1_4 cw4_1_5 zw4_2 cw4_2_0 cw4_2_1
  clear hw5
  try simp only [Act.put, List.setIfInBounds_toArray, List.set_cons_zero, List.set_cons_succ]
  repeat (first | (refine Od.wpO_skip (by simp only [List.getElem?_toArray, List.getElem?_cons_succ, List.getElem?_cons_zero] <;> rfl) rfl ?_; simp only [Act.put, List.setIfInBounds_toArray, List.set_cons_zero, List.set_cons_succ]) | (refine Od.wpO_pure (by simp only [List.getElem?_toArray, List.getElem?_cons_succ, List.getElem?_cons_zero] <;> rfl) rfl ?_; apply Exists.intro; refine ⟨?_, ?_⟩; (· intro wx gx; obtain ⟨mx, rfl⟩ := spread_of_gr gx; clear gx; all_goals (apply Od.pAt_of_quiet; intro K hK; go_big_quiet_op; first | exact hK _ rfl | (apply Exists.intro; refine ⟨fun _ => ?_, ?_⟩; (· fail); exact hK _ rfl))); try simp only [Act.put, List.setIfInBounds_toArray, List.set_cons_zero, List.set_cons_succ]))
  refine Od.wpO_nil (hKQ _ _ ?_)
  clear hKQ KQ
  go_wp2_with fail
  go_ret
  exact ⟨rfl, gw5⟩
end
def awX : Nat → Int := fun i => if i = 1 then 4 else 0
def awY : Nat → Int := fun i => if i = 2 then 4 else 0
theorem aw_ring : Rg.ringC 3 awX awY = (0, 0) := by decide +kernel
theorem aw_arm : arM 3 awX awY 1 1 1 1 = true := by decide +kernel
theorem aw_has : rmbV 3 awX awY 1 1 1 1 = true := by decide +kernel
theorem aw_pts {w : World} {B : Nat} (h0 : w.cell? ⟨B, 0, none⟩ = some (.int .i64 0)) (h1 : w.cell? ⟨B, 1, none⟩ = some (.int .i64 0)) (h2 : w.cell? ⟨B, 2, none⟩ = some (.int .i64 4)) (h3 : w.cell? ⟨B, 3, none⟩ = some (.int .i64 0)) (h4 : w.cell? ⟨B, 4, none⟩ = some (.int .i64 0)) (h5 : w.cell? ⟨B, 5, none⟩ = some (.int .i64 4)) :
    Pts w (.slice (some ⟨B, 0, none⟩) 3 3) 3 awX awY :=
  ⟨some ⟨B, 0, none⟩, 3, B, 0, rfl, Nat.le_refl _, by decide, fun _ => rfl, fun k hk => by
    match k, hk with
    | 0, _ => exact ⟨h0, h1⟩
    | 1, _ => exact ⟨h2, h3⟩
    | 2, _ => exact ⟨h4, h5⟩⟩
theorem nil_pts (w : World) : Pts w (.slice none 0 0) 0 (fun _ => 0) (fun _ => 0) := ⟨none, 0, 0, 0, rfl, Nat.le_refl _, by decide, fun h => absurd h (by decide), fun k hk => absurd hk (Nat.not_lt_zero _)⟩
set_option maxHeartbeats 4000000 in
set_option maxRecDepth 100000 in
theorem p6_awake (W : World) (hE : ErrT W) : Calls Tryz.prog 9 #[] W fun e w' => e = .returned (.bool true) ∧ Gr W w' := by
  have A1 : ∀ w v, Pts w v 3 awX awY → Calls Tryz.prog 13 #[.agg #[.int .i64 4, v], qryV 3 1 1 0 0 (.slice none 0 0)] w fun e w' => e = .returned (.bool true) ∧ Gr w w' := fun w v h => by
    have C := c_Match_has (px := 1) (py := 1) 0 0 _ w (nil_pts w) h (by rw [aw_ring]) (by decide) aw_arm
    rw [aw_has] at C
    exact C
  have A2 : ∀ w v, Pts w v 3 awX awY → Calls Tryz.prog 34 #[.agg #[.int .i64 4, v]] w fun e w' => e = .returned .nilIface ∧ Gr w w' := fun w v h => (c_relCheck 4 w h).mono (by
    rintro e w' ⟨x, rfl, hx, g'⟩
    obtain rfl := werr_zero hx (by rw [objC_4, aw_ring])
    exact ⟨rfl, g'⟩)
  have A3 := fun w => c_relCheck 9 w (nil_pts w)
  rw [objC_x (by omega) (by omega) (by omega) (by omega)] at A3
  have H1 := Lib.hid A1
  have H2 := Lib.hid A2
  have H3 := Lib.hid A3
  clear A1 A2 A3
  go_enter Tryz.func9, Tryz.ntmps9
  go_wp2_with fail
  go_at_call 13
  refine (H1.out _ _ (aw_pts (by go_simp) (by go_simp) (by go_simp) (by go_simp) (by go_simp) (by go_simp))).mono ?_
  rintro e w1 ⟨rfl, g1⟩
  have P1 := Lib.hid (aw_pts (cell_gr g1 (p := ⟨W.heap.size, 0, none⟩) (by go_simp)) (cell_gr g1 (by go_simp)) (cell_gr g1 (by go_simp)) (cell_gr g1 (by go_simp)) (cell_gr g1 (by go_simp)) (cell_gr g1 (by go_simp)))
  have c0 : w1.cell? ⟨W.heap.size + 1, 0, none⟩ = some (.int .i64 4) := cell_gr g1 (by go_simp)
  have c1 : w1.cell? ⟨W.heap.size + 1, 1, none⟩ = some (.slice (some ⟨W.heap.size, 0, none⟩) 3 3) := cell_gr g1 (by go_simp)
  have c2 := World.block_lt_of_cell? _ _ c0
  have G1 : Gr W w1 := Gr.trans (by go_grown) g1
  clear g1
  go_wp2_with fail
  go_at_call 34
  refine (H2.out _ _ (pts_gr P1.out (by go_grown))).mono ?_
  rintro e w2 ⟨rfl, g2⟩
  have G2 : Gr W w2 := Gr.trans G1 (Gr.trans (by go_grown) g2)
  clear g2 P1
  go_wp2_with fail
  go_at_call 34
  refine (H3.out _).mono ?_
  rintro e w3 ⟨u3, rfl, hu, g3⟩
  have G3 : Gr W w3 := Gr.trans G2 (Gr.trans (by go_grown) g3)
  have HU := Lib.hid hu
  clear g3 hu
  go_wp2_with fail
  go_at_call 35
  refine (c_AlIs_werr _ (errT_gr hE (Gr.trans G3 (by go_grown))) (werr_gr HU.out (by go_grown))).mono ?_
  rintro e w4 ⟨rfl, g4⟩
  have G4 : Gr W w4 := Gr.trans G3 (Gr.trans (by go_grown) g4)
  clear g4
  go_wp2_with fail
  go_ret
  exact ⟨rfl, by go_grown⟩
end Go.Proofs.YtfobmlgpjhghdaaGreatDoor
namespace Go.Proofs.YtfobmlgpjhghdaaGreatDoor
set_option linter.unusedVariables false
open Go.ChangeShapes Go.WideShapes Go.ChangeAt Go.RowKit Go.Shelf
attribute [local go_sem] Oper.semAt_some
def emW (n : Nat) (X Y : Nat → Int) (px py qx qy : Int) (pre : List Nat) : Bool := pre.any fun k => meG px py qx qy (X k) (Y k) (X (Rg.nx1 n k)) (Y (Rg.nx1 n k))
theorem emW_snoc (n : Nat) (X Y : Nat → Int) (px py qx qy : Int) (pre : List Nat) (k : Nat) : emW n X Y px py qx qy (pre ++ [k]) = (emW n X Y px py qx qy pre || meG px py qx qy (X k) (Y k) (X (Rg.nx1 n k)) (Y (Rg.nx1 n k))) := by
  unfold emW; rw [List.any_append]; simp
theorem emW_mono {n : Nat} {X Y : Nat → Int} {px py qx qy : Int} {k : Nat} (hk : k ≤ n) (h : emW n X Y px py qx qy (List.range k) = true) : emW n X Y px py qx qy (List.range n) = true := by
  unfold emW at *
  rw [List.any_eq_true] at *
  obtain ⟨x, h1, h2⟩ := h
  exact ⟨x, List.mem_range.2 (by have := List.mem_range.1 h1; omega), h2⟩
set_option maxHeartbeats 4000000 in
set_option maxRecDepth 100000 in
theorem c_edgeMeets {n : Nat} {X Y : Nat → Int} {v : Value} {px py qx qy : Int} (w : World) (h : Pts w v n X Y) (h1 : 1 ≤ n) (hn : n ≤ 1000) :
    Calls Tryz.prog 89 #[.agg #[.int .i64 px, .int .i64 py], .agg #[.int .i64 qx, .int .i64 qy], v] w fun e w' => e = .returned (.bool (emW n X Y px py qx qy (List.range n))) ∧ Gr w w' := by
  obtain ⟨ad, cap, B, off, rfl, q1, q2, q3, q4⟩ := h
  obtain rfl := q3 (by omega)
  have hB : B < w.heap.size := World.block_lt_of_cell? _ _ (q4 0 (by omega)).1
  have HC := Lib.hid q4
  have hmx : Tryz.prog.follows .mixedOrders = true := by kernel_rfl
  clear q3 q4
  refine (callsIn_wide (n := 10)).1 ?_
  refine callsIn_of_wp_marks Tryz.func89 rfl trivial ?_ rfl
  simp only [Tryz.ntmps89, List.size_toArray, List.length_cons, List.length_nil, Nat.reduceAdd, Nat.reduceSub, Array.replicate_succ, Array.replicate_zero, List.push_toArray, List.append_toArray, List.nil_append, List.cons_append]
  have n0 : 0 < n := by omega
  gi_wp2_with (refine ⟨trivial, ?_⟩; gi_at_call 76; refine (callsIn_wide.2 (c_Edges _ _ _ _)).mono ?_; rintro e w' ⟨rfl, rfl⟩)
  have bP : Box2 (w.alloc (.cells #[.int .i64 px, .int .i64 py] 26)) w.heap.size px py := Box2.new w px py
  have bQ := Box2.new (w.alloc (.cells #[.int .i64 px, .int .i64 py] 26)) qx qy
  have bR := Boxed.new ((w.alloc (.cells #[.int .i64 px, .int .i64 py] 26)).alloc (.cells #[.int .i64 qx, .int .i64 qy] 26)) 4 (.bool false)
  have bE := Boxed.new (((w.alloc (.cells #[.int .i64 px, .int .i64 py] 26)).alloc (.cells #[.int .i64 qx, .int .i64 qy] 26)).alloc (.cells #[.bool false] 4)) 22 (.slice (some ⟨B, off, none⟩) n cap)
  have bP0 := ((bP.alloc (.cells #[.int .i64 qx, .int .i64 qy] 26)).alloc (.cells #[.bool false] 4)).alloc (.cells #[.slice (some ⟨B, off, none⟩) n cap] 22)
  have bQ0 := (bQ.alloc (.cells #[.bool false] 4)).alloc (.cells #[.slice (some ⟨B, off, none⟩) n cap] 22)
  have bR0 := bR.alloc (.cells #[.slice (some ⟨B, off, none⟩) n cap] 22)
  have hG0 : Gr w ((((w.alloc (.cells #[.int .i64 px, .int .i64 py] 26)).alloc (.cells #[.int .i64 qx, .int .i64 qy] 26)).alloc (.cells #[.bool false] 4)).alloc (.cells #[.slice (some ⟨B, off, none⟩) n cap] 22)) := by go_grown
  have hsz : ((((w.alloc (.cells #[.int .i64 px, .int .i64 py] 26)).alloc (.cells #[.int .i64 qx, .int .i64 qy] 26)).alloc (.cells #[.bool false] 4)).alloc (.cells #[.slice (some ⟨B, off, none⟩) n cap] 22)).heap.size = w.heap.size + 4 := by simp
  simp only [World.size_alloc] at bE bR0 bQ0
  obtain ⟨W0, hW0⟩ : ∃ W0, ((((w.alloc (.cells #[.int .i64 px, .int .i64 py] 26)).alloc (.cells #[.int .i64 qx, .int .i64 qy] 26)).alloc (.cells #[.bool false] 4)).alloc (.cells #[.slice (some ⟨B, off, none⟩) n cap] 22)) = W0 := ⟨_, rfl⟩
  rw [hW0] at bE bP0 bQ0 bR0 hG0 hsz ⊢
  clear hW0 bP bQ bR
  refine wpIn_rangeFunc_ownH rfl (by decide) (gf := 114) (lb := #[.pointer (some ⟨w.heap.size + 1 + 1 + 1, 0, none⟩)]) rfl trivial (enters_of Tryz.func114 (by kernel_rfl) rfl)
    (edges_stops (10 - 1) (by decide) (w.heap.size + 1 + 1 + 1) B off n cap X Y hn h1 W0 bE.cell q1 q2 (fun k hk => ⟨cell_gr hG0 (HC.out k hk).1, cell_gr hG0 (HC.out k hk).2⟩)) KK.trans (kk_put (by omega) (by omega)) (Below.refl _ _) (fun _ => rfl)
    (fun pre W => (Boxed W (w.heap.size + 1 + 1) 4 (.bool false)) ∧ (((Box2 W w.heap.size px py ∧ Box2 W (w.heap.size + 1) qx qy) ∧ emW n X Y px py qx qy pre = false) ∧ (w.heap.size + 4 ≤ W.heap.size ∧ Below w.heap.size w W)))
    (fun c pre W => (c = .ret ∧ emW n X Y px py qx qy pre = true) ∧ (Boxed W (w.heap.size + 1 + 1) 4 (.bool true) ∧ Below w.heap.size w W))
    (OwnFrom.and (Own.from (boxed_own _ _ _) _) (OwnFrom.and (OwnFrom.and (OwnFrom.and (Own.from (box2_own _ _ _) _) (Own.from (box2_own _ _ _) _)) (ownFrom_pure _ _)) (OwnFrom.and (fun _ P Q row hs hg hr => Nat.le_trans hs hg.size) (ownFrom_below (Nat.le_refl _) (by omega)))))
    (fun c => OwnFrom.and (ownFrom_pure _ _) (OwnFrom.and (Own.from (boxed_own _ _ _) _) (ownFrom_below (Nat.le_refl _) (by omega))))
    ⟨bR0, ⟨⟨bP0, bQ0⟩, rfl⟩, by omega, hG0⟩
    (fun x a' W => ∃ Ba Bb, w.heap.size + 4 ≤ Ba ∧ w.heap.size + 4 ≤ Bb ∧ Box2 W Ba (X x) (Y x) ∧ Box2 W Bb (X (Rg.nx1 n x)) (Y (Rg.nx1 n x)) ∧ a' = { tmps := #[.agg #[.int .i64 px, .int .i64 py], .agg #[.int .i64 qx, .int .i64 qy], .slice (some ⟨B, off, none⟩) n cap, .pointer (some ⟨w.heap.size, 0, none⟩), .pointer (some ⟨w.heap.size + 1, 0, none⟩), undef, .pointer (some ⟨w.heap.size + 1 + 1, 0, none⟩), .pointer (some ⟨Ba, 0, none⟩), .pointer (some ⟨Bb, 0, none⟩), .slice (some ⟨B, off, none⟩) n cap, .func (.func 114) #[] #[.pointer (some ⟨w.heap.size + 1 + 1 + 1, 0, none⟩)], .agg #[.int .i64 (X x), .int .i64 (Y x)], .agg #[.int .i64 (X (Rg.nx1 n x)), .int .i64 (Y (Rg.nx1 n x))], undef, undef, undef, undef, undef], defers := [] })
    (fun x a' _ P Q row hs hg hr => by obtain ⟨Ba, Bb, i1, i2, i3, i4, i5⟩ := hs; exact ⟨Ba, Bb, i1, i2, box2_notcells i3 hg (fun r e => (hr r e).2), box2_notcells i4 hg (fun r e => (hr r e).2), i5⟩)
    ?assign ?body ?done ?stop
  case assign =>
    rintro l pre x W K ⟨bR1, ⟨⟨bP1, bQ1⟩, hon⟩, hs3, hB1⟩ hK
    gi_wp2
    have gA : Gr W ((W.alloc (.cells #[.int .i64 (X x), .int .i64 (Y x)] 26)).alloc (.cells #[.int .i64 (X (Rg.nx1 n x)), .int .i64 (Y (Rg.nx1 n x))] 26)) := by go_grown
    exact hK _ _ ((gr_keeps gA).from _) ((KK.refl _ _ _).gr gA (by omega) (by omega)) ⟨(bR1.alloc _).alloc _, ⟨⟨(bP1.alloc _).alloc _, (bQ1.alloc _).alloc _⟩, hon⟩, Nat.le_trans hs3 gA.size, Gr.trans hB1 gA⟩
      ⟨W.heap.size, W.heap.size + 1, hs3, by omega, (Box2.new W (X x) (Y x)).alloc _, (by have := Box2.new (W.alloc (.cells #[.int .i64 (X x), .int .i64 (Y x)] 26)) (X (Rg.nx1 n x)) (Y (Rg.nx1 n x)); rwa [World.size_alloc] at this), rfl⟩
  case body =>
    rintro l pre x a' W hl ⟨r, hr⟩ ⟨bR1, ⟨⟨bP1, bQ1⟩, hon⟩, hs3, hB1⟩ ⟨Ba, Bb, hBa, hBb, bA, bB, rfl⟩ hlt
    obtain ⟨a0, a1⟩ := bA.cells
    obtain ⟨b0, b1⟩ := bB.cells
    obtain ⟨p0, p1⟩ := bP1.cells
    obtain ⟨s0, s1⟩ := bQ1.cells
    have cR := bR1.cell
    have fR := bR1.frozen
    have hso := emW_snoc n X Y px py qx qy pre x
    rw [hon, Bool.false_or] at hso
    have CO := c_gMeet px py qx qy (X x) (Y x) (X (Rg.nx1 n x)) (Y (Rg.nx1 n x))
    generalize meG px py qx qy (X x) (Y x) (X (Rg.nx1 n x)) (Y (Rg.nx1 n x)) = og at CO hso
    generalize X x = xa at a0 CO
    generalize Y x = ya at a1 CO
    generalize X (Rg.nx1 n x) = xb at b0 CO
    generalize Y (Rg.nx1 n x) = yb at b1 CO
    have HCO := Lib.hid CO
    have HSO := Lib.hid hso
    have HB := Lib.hid (And.intro bR1 (And.intro bP1 bQ1))
    clear CO hso hon bA bB bR1 bP1 bQ1
    cases og
    · gi_wp2_with (refine ⟨trivial, ?_⟩; gi_at_call 125; (refine (CallsIn.inRound l (callsIn_wide.2 (HCO.out _))).mono ?_); rintro e w2 ⟨rfl, g2⟩)
      obtain ⟨bR1, bP1, bQ1⟩ := HB.out
      have g2s := g2.size
      exact ⟨(gr_keeps g2).from _, (KK.refl B (w.heap.size + 1 + 1 + 1) W).gr g2 (by omega) (by omega), ⟨bR1.kept (gr_grown g2) (by simp), ⟨⟨bP1.kept (gr_grown g2) (by simp), bQ1.kept (gr_grown g2) (by simp)⟩, HSO.out⟩, by omega, Gr.trans hB1 g2⟩⟩
    · gi_wp2_with (refine ⟨trivial, ?_⟩; gi_at_call 125; (refine (CallsIn.inRound l (callsIn_wide.2 (HCO.out _))).mono ?_); rintro e w2 ⟨rfl, g2⟩; have dR := cell_gr g2 cR; have eR := frozen_gr g2 cR fR)
      obtain ⟨bR1, bP1, bQ1⟩ := HB.out
      exact ⟨((gr_keeps g2).trans (KeepsOthers.setCell _ _ _)).from _, ⟨rfl, HSO.out⟩, (bR1.kept (gr_grown g2) (by simp)).set _, (Gr.trans hB1 g2).setCell (p := ⟨w.heap.size + 1 + 1, 0, none⟩) (by show w.heap.size ≤ w.heap.size + 1 + 1; omega) _⟩
  case done =>
    rintro D ys W' hD rfl ⟨bR1, ⟨⟨bP1, bQ1⟩, hon⟩, hs3, hB1⟩ hK
    have cR := bR1.cell
    have fR := bR1.frozen
    gi_wp2
    rw [hon]
    have hK2 : (W'.setCell ⟨w.heap.size + 1 + 1, 0, none⟩ (.bool false)).heap[D]? = some (.deferred (some [])) := (KeepsOthers.setCell _ _ _).same D _ hK rfl
    have hc2 := cell_kept (bR1.set (.bool false)).cell (grownBy_putObj' _ D (.deferred none)) (fun r e => by cases e; exact ⟨_, hK2, rfl⟩)
    refine ⟨by simp, .inl ⟨_, _, rfl, run_takeDeferred hK2, ?_⟩⟩
    exact ⟨_, results_cell1 rfl rfl (Tryz.underlying4) rfl hc2, rfl, (hB1.setCell (p := ⟨w.heap.size + 1 + 1, 0, none⟩) (by show w.heap.size ≤ w.heap.size + 1 + 1; omega) _).trans (belowK_b (w := w) (Nat.le_refl _) _ D _ _ (by omega) hK2 rfl rfl)⟩
  case stop =>
    rintro D c pre W hD ⟨k, hk, rfl⟩ ⟨⟨rfl, hon⟩, bR1, hB1⟩ hK
    have cR := bR1.cell
    gi_wp2
    have hc2 := cell_kept cR (grownBy_putObj' _ D (.deferred none)) (fun r e => by cases e; exact ⟨_, hK, rfl⟩)
    rw [emW_mono hk hon]
    refine ⟨by simp, .inl ⟨_, _, rfl, run_takeDeferred hK, ?_⟩⟩
    exact ⟨_, results_cell1 rfl rfl (Tryz.underlying4) rfl hc2, rfl, hB1.trans (belowK_b (w := w) (Nat.le_refl _) _ D _ _ (by omega) hK rfl rfl)⟩
end Go.Proofs.YtfobmlgpjhghdaaGreatDoor
namespace Go.Proofs.YtfobmlgpjhghdaaGreatDoor
set_option linter.unusedVariables false
open Go.ChangeShapes Go.WideShapes Go.ChangeAt Go.RowKit Go.Shelf
attribute [local go_sem] Oper.semAt_some
def rmE (n : Nat) (X Y : Nat → Int) (m : Nat) (P Q : Nat → Int) (lx ly hx hy : Int) (k : Nat) : Bool := mbG (X k) (Y k) (X (Rg.nx1 n k)) (Y (Rg.nx1 n k)) lx ly hx hy && emW m P Q (X k) (Y k) (X (Rg.nx1 n k)) (Y (Rg.nx1 n k)) (List.range m)
def rmW (n : Nat) (X Y : Nat → Int) (m : Nat) (P Q : Nat → Int) (lx ly hx hy : Int) (pre : List Nat) : Bool := pre.any fun k => rmE n X Y m P Q lx ly hx hy k
theorem rmW_snoc (n : Nat) (X Y : Nat → Int) (m : Nat) (P Q : Nat → Int) (lx ly hx hy : Int) (pre : List Nat) (k : Nat) : rmW n X Y m P Q lx ly hx hy (pre ++ [k]) = (rmW n X Y m P Q lx ly hx hy pre || rmE n X Y m P Q lx ly hx hy k) := by
  unfold rmW; rw [List.any_append]; simp
theorem rmW_mono {n : Nat} {X Y : Nat → Int} {m : Nat} {P Q : Nat → Int} {lx ly hx hy : Int} {k : Nat} (hk : k ≤ n) (h : rmW n X Y m P Q lx ly hx hy (List.range k) = true) : rmW n X Y m P Q lx ly hx hy (List.range n) = true := by
  unfold rmW at *
  rw [List.any_eq_true] at *
  obtain ⟨x, h1, h2⟩ := h
  exact ⟨x, List.mem_range.2 (by have := List.mem_range.1 h1; omega), h2⟩
set_option maxHeartbeats 8000000 in
set_option maxRecDepth 100000 in
theorem c_rings {n m : Nat} {X Y P Q : Nat → Int} {v u : Value} {lx ly hx hy : Int} (w : World) (h : Pts w v n X Y) (hu : Pts w u m P Q) (h0 : (Rg.ringC n X Y).1 = 0) (h9 : (Rg.ringC m P Q).1 = 0) (e1 : mnN P m = lx) (e2 : mnN Q m = ly) (e3 : mxN P m = hx) (e4 : mxN Q m = hy) (hm : arM n X Y lx ly hx hy = true) :
    Calls Tryz.prog 53 #[v, u] w fun e w' => e = .returned (.bool (rmW n X Y m P Q lx ly hx hy (List.range n) || ((nearB (P 0) (Q 0) && Rg.hasN n X Y (P 0) (Q 0)) || (nearB (X 0) (Y 0) && Rg.hasN m P Q (X 0) (Y 0))))) ∧ Gr w w' := by
  have A1 := fun w' (g : Gr w w') => c_AroundN w' (pts_gr h g) (by have := (Rg.ringC_ok h0).1; omega)
  have A2 := fun w' => c_Meets (mnN X n) (mnN Y n) (mxN X n) (mxN Y n) lx ly hx hy w'
  have A3 := fun w' (g : Gr w w') => c_hs w h h0 (P 0) (Q 0) w' g
  have A4 := fun w' (g : Gr w w') => c_hs w hu h9 (X 0) (Y 0) w' g
  have A5 := fun w' (g : Gr w w') => c_AroundN w' (pts_gr hu g) (by have := (Rg.ringC_ok h9).1; omega)
  have A6 := fun (px py qx qy : Int) w' (g : Gr w w') => c_edgeMeets (px := px) (py := py) (qx := qx) (qy := qy) w' (pts_gr hu g) (by have := (Rg.ringC_ok h9).1; omega) (by have := (Rg.ringC_ok h9).1; omega)
  rw [e1, e2, e3, e4] at A5
  unfold arM at hm
  rw [hm] at A2
  have h1 : 1 ≤ n := by have := (Rg.ringC_ok h0).1; omega
  have hn : n ≤ 1000 := by have := (Rg.ringC_ok h0).1; omega
  have m1 : 1 ≤ m := by have := (Rg.ringC_ok h9).1; omega
  generalize hz : (nearB (P 0) (Q 0) && Rg.hasN n X Y (P 0) (Q 0)) = z1 at A3 ⊢
  generalize hz2 : (nearB (X 0) (Y 0) && Rg.hasN m P Q (X 0) (Y 0)) = z2 at A4 ⊢
  obtain ⟨ad, cap, B, off, rfl, q1, q2, q3, q4⟩ := h
  obtain rfl := q3 (by omega)
  obtain ⟨bd, bcap, C, oc, rfl, r1, r2, r3, r4⟩ := hu
  obtain rfl := r3 (by omega)
  have hB : B < w.heap.size := World.block_lt_of_cell? _ _ (q4 0 (by omega)).1
  have hC9 : C < w.heap.size := World.block_lt_of_cell? _ _ (r4 0 (by omega)).1
  have HC := Lib.hid q4
  have HD := Lib.hid (r4 0 (by omega))
  have hmx : Tryz.prog.follows .mixedOrders = true := by kernel_rfl
  have H1 := Lib.hid A1
  have H2 := Lib.hid A2
  have H3 := Lib.hid A3
  have H4 := Lib.hid A4
  have H5 := Lib.hid A5
  have H6 := Lib.hid A6
  clear A1 A2 A3 A4 A5 A6
  clear q3 q4 r3 r4 hm h0 h9 e1 e2 e3 e4 hz hz2
  refine (callsIn_wide (n := 10)).1 ?_
  refine callsIn_of_wp_marks Tryz.func53 rfl trivial ?_ rfl
  simp only [Tryz.ntmps53, List.size_toArray, List.length_cons, List.length_nil, Nat.reduceAdd, Nat.reduceSub, Array.replicate_succ, Array.replicate_zero, List.push_toArray, List.append_toArray, List.nil_append, List.cons_append]
  have n0 : 0 < n := by omega
  gi_wp2_with (refine ⟨trivial, ?_⟩; gi_at_call 62; refine (callsIn_wide.2 (H5.out _ (by go_grown))).mono ?_; rintro e w1 ⟨rfl, g1⟩)
  have g1s := g1.size
  simp only [World.size_alloc] at g1s
  have bS : Boxed w1 w.heap.size 22 (.slice (some ⟨C, oc, none⟩) m bcap) := ((Boxed.new w 22 (.slice (some ⟨C, oc, none⟩) m bcap)).alloc (.cells #[.bool false] 4)).kept (gr_grown g1) (by simp)
  have bR : Boxed w1 (w.heap.size + 1) 4 (.bool false) := by
    have h := Boxed.new (w.alloc (.cells #[(.slice (some ⟨C, oc, none⟩) m bcap)] 22)) 4 (.bool false)
    rw [World.size_alloc] at h
    exact h.kept (gr_grown g1) (by simp)
  have bP := Box4.new w1 lx ly hx hy
  have bS0 := bS.alloc (.cells #[.int .i64 lx, .int .i64 ly, .int .i64 hx, .int .i64 hy] 28)
  have bR0 := bR.alloc (.cells #[.int .i64 lx, .int .i64 ly, .int .i64 hx, .int .i64 hy] 28)
  have hG0 : Gr w (w1.alloc (.cells #[.int .i64 lx, .int .i64 ly, .int .i64 hx, .int .i64 hy] 28)) := Gr.trans (Gr.trans (by go_grown) g1) (by go_grown)
  have hsz : (w1.alloc (.cells #[.int .i64 lx, .int .i64 ly, .int .i64 hx, .int .i64 hy] 28)).heap.size = w1.heap.size + 1 := by simp
  obtain ⟨W1, hW1⟩ : ∃ W1, w1.alloc (.cells #[.int .i64 lx, .int .i64 ly, .int .i64 hx, .int .i64 hy] 28) = W1 := ⟨_, rfl⟩
  rw [hW1] at bS0 bR0 bP hG0 hsz ⊢
  obtain ⟨s, hs⟩ : ∃ s, w1.heap.size = s := ⟨_, rfl⟩
  rw [hs] at bP hsz g1s ⊢
  clear hW1 bS bR g1 hs
  obtain ⟨b0, b1, b2, b3⟩ := bP.cells
  refine wpIn_mono (Q := Exit.then (fun a' W2 => a' = { tmps := #[.slice (some ⟨B, off, none⟩) n cap, .slice (some ⟨C, oc, none⟩) m bcap, undef, .pointer (some ⟨w.heap.size, 0, none⟩), .pointer (some ⟨w.heap.size + 1, 0, none⟩), .pointer (some ⟨s, 0, none⟩), undef, undef, .slice (some ⟨C, oc, none⟩) m bcap, .agg #[.int .i64 lx, .int .i64 ly, .int .i64 hx, .int .i64 hy], .slice (some ⟨B, off, none⟩) n cap, .agg #[.int .i64 (mnN X n), .int .i64 (mnN Y n), .int .i64 (mxN X n), .int .i64 (mxN Y n)], .agg #[.int .i64 lx, .int .i64 ly, .int .i64 hx, .int .i64 hy], .bool true, .bool false, undef, undef, undef, undef, undef, undef, undef, undef, undef, undef, undef, undef, undef, undef, undef, undef, undef, undef, undef, undef, undef, undef, undef, undef, undef, undef], defers := [] } ∧ Gr W1 W2) (fun _ _ _ => False)) ?_ ?_
  · generalize mnN X n = x1 at H1 H2 ⊢
    generalize mnN Y n = x2 at H1 H2 ⊢
    generalize mxN X n = x3 at H1 H2 ⊢
    generalize mxN Y n = x4 at H1 H2 ⊢
    gi_region_with_o (first
      | (refine ⟨trivial, ?_⟩; gi_at_call 62; (refine (callsIn_wide.2 (H1.out _ (Gr.trans hG0 (by go_grown)))).mono ?_); rintro e w' ⟨rfl, gx⟩; (have gy : Gr W1 w' := Gr.trans (by go_grown) gx); (have d0 := cell_gr gy b0); (have d1 := cell_gr gy b1); (have d2 := cell_gr gy b2); (have d3 := cell_gr gy b3); clear gx)
      | (gi_at_call 62; (refine (callsIn_wide.2 (H1.out _ (Gr.trans hG0 (by go_grown)))).mono ?_); rintro e w' ⟨rfl, gx⟩; (have gy : Gr W1 w' := Gr.trans (by go_grown) gx); (have d0 := cell_gr gy b0); (have d1 := cell_gr gy b1); (have d2 := cell_gr gy b2); (have d3 := cell_gr gy b3); clear gx)
      | (refine ⟨trivial, ?_⟩; gi_at_call 87; (refine (callsIn_wide.2 (H2.out _)).mono ?_); rintro e w'' ⟨rfl, gx⟩; (have gz : Gr W1 w'' := Gr.trans gy (Gr.trans (by go_grown) gx)); clear gx)
      | (gi_at_call 87; (refine (callsIn_wide.2 (H2.out _)).mono ?_); rintro e w'' ⟨rfl, gx⟩; (have gz : Gr W1 w'' := Gr.trans gy (Gr.trans (by go_grown) gx)); clear gx))
    all_goals exact ⟨rfl, Gr.trans gz (by go_grown)⟩
  intro e a' W2 hh
  cases e
  all_goals try exact False.elim hh
  obtain ⟨rfl, g2⟩ := hh
  dsimp only [Exit.then]
  have g2s := g2.size
  have bP2 : Box4 W2 s lx ly hx hy := bP.kept (gr_grown g2) (by simp)
  have bS2 : Boxed W2 w.heap.size 22 (.slice (some ⟨C, oc, none⟩) m bcap) := bS0.kept (gr_grown g2) (by simp)
  have bR2 : Boxed W2 (w.heap.size + 1) 4 (.bool false) := bR0.kept (gr_grown g2) (by simp)
  have hG2 : Gr w W2 := Gr.trans hG0 g2
  clear b0 b1 b2 b3 bP bS0 bR0 hG0 g2
  gi_wp2_with (refine ⟨trivial, ?_⟩; gi_at_call 76; refine (callsIn_wide.2 (c_Edges _ _ _ _)).mono ?_; rintro e w' ⟨rfl, rfl⟩)
  have bE := Boxed.new W2 22 (.slice (some ⟨B, off, none⟩) n cap)
  have bP0 := bP2.alloc (.cells #[.slice (some ⟨B, off, none⟩) n cap] 22)
  have bS0 := bS2.alloc (.cells #[.slice (some ⟨B, off, none⟩) n cap] 22)
  have bR0 := bR2.alloc (.cells #[.slice (some ⟨B, off, none⟩) n cap] 22)
  have hG0 : Gr w (W2.alloc (.cells #[.slice (some ⟨B, off, none⟩) n cap] 22)) := Gr.trans hG2 (by go_grown)
  have hsz0 : (W2.alloc (.cells #[.slice (some ⟨B, off, none⟩) n cap] 22)).heap.size = W2.heap.size + 1 := by simp
  obtain ⟨W0, hW0⟩ : ∃ W0, W2.alloc (.cells #[.slice (some ⟨B, off, none⟩) n cap] 22) = W0 := ⟨_, rfl⟩
  rw [hW0] at bE bP0 bS0 bR0 hG0 hsz0 ⊢
  obtain ⟨q, hq⟩ : ∃ q, W2.heap.size = q := ⟨_, rfl⟩
  rw [hq] at bE hsz0 g2s ⊢
  clear hW0 bP2 bS2 bR2 hG2 hq H1 H2 H5
  have hsw : w.heap.size + 2 ≤ s := by omega
  refine wpIn_rangeFunc_ownH rfl (by decide) (gf := 114) (lb := #[.pointer (some ⟨q, 0, none⟩)]) rfl trivial (enters_of Tryz.func114 (by kernel_rfl) rfl)
    (edges_stops (10 - 1) (by decide) q B off n cap X Y hn h1 W0 bE.cell q1 q2 (fun k hk => ⟨cell_gr hG0 (HC.out k hk).1, cell_gr hG0 (HC.out k hk).2⟩)) KK.trans (kk_put (by omega) (by omega)) (Below.refl _ _) (fun _ => rfl)
    (fun pre W => (Boxed W (w.heap.size + 1) 4 (.bool false) ∧ Boxed W w.heap.size 22 (.slice (some ⟨C, oc, none⟩) m bcap)) ∧ ((Box4 W s lx ly hx hy ∧ rmW n X Y m P Q lx ly hx hy pre = false) ∧ (q + 1 ≤ W.heap.size ∧ Below w.heap.size w W)))
    (fun c pre W => (c = .ret ∧ rmW n X Y m P Q lx ly hx hy pre = true) ∧ (Boxed W (w.heap.size + 1) 4 (.bool true) ∧ Below w.heap.size w W))
    (OwnFrom.and (OwnFrom.and (Own.from (boxed_own _ _ _) _) (Own.from (boxed_own _ _ _) _)) (OwnFrom.and (OwnFrom.and (Own.from (box4_own _ _ _ _ _) _) (ownFrom_pure _ _)) (OwnFrom.and (fun _ P Q row hs hg hr => Nat.le_trans hs hg.size) (ownFrom_below (Nat.le_refl _) (by omega)))))
    (fun c => OwnFrom.and (ownFrom_pure _ _) (OwnFrom.and (Own.from (boxed_own _ _ _) _) (ownFrom_below (Nat.le_refl _) (by omega))))
    ⟨⟨bR0, bS0⟩, ⟨bP0, rfl⟩, by omega, hG0⟩
    (fun x a' W => ∃ Ba Bb, q + 1 ≤ Ba ∧ q + 1 ≤ Bb ∧ Box2 W Ba (X x) (Y x) ∧ Box2 W Bb (X (Rg.nx1 n x)) (Y (Rg.nx1 n x)) ∧ a' = { tmps := #[.slice (some ⟨B, off, none⟩) n cap, .slice (some ⟨C, oc, none⟩) m bcap, undef, .pointer (some ⟨w.heap.size, 0, none⟩), .pointer (some ⟨w.heap.size + 1, 0, none⟩), .pointer (some ⟨s, 0, none⟩), .pointer (some ⟨Ba, 0, none⟩), .pointer (some ⟨Bb, 0, none⟩), .slice (some ⟨C, oc, none⟩) m bcap, .agg #[.int .i64 lx, .int .i64 ly, .int .i64 hx, .int .i64 hy], .slice (some ⟨B, off, none⟩) n cap, .agg #[.int .i64 (mnN X n), .int .i64 (mnN Y n), .int .i64 (mxN X n), .int .i64 (mxN Y n)], .agg #[.int .i64 lx, .int .i64 ly, .int .i64 hx, .int .i64 hy], .bool true, .bool false, .slice (some ⟨B, off, none⟩) n cap, .func (.func 114) #[] #[.pointer (some ⟨q, 0, none⟩)], .agg #[.int .i64 (X x), .int .i64 (Y x)], .agg #[.int .i64 (X (Rg.nx1 n x)), .int .i64 (Y (Rg.nx1 n x))], undef, undef, undef, undef, undef, undef, undef, undef, undef, undef, undef, undef, undef, undef, undef, undef, undef, undef, undef, undef, undef, undef], defers := [] })
    (fun x a' _ P Q row hs hg hr => by obtain ⟨Ba, Bb, i1, i2, i3, i4, i5⟩ := hs; exact ⟨Ba, Bb, i1, i2, box2_notcells i3 hg (fun r e => (hr r e).2), box2_notcells i4 hg (fun r e => (hr r e).2), i5⟩)
    ?assign ?body ?done ?stop
  case assign =>
    rintro l pre x W K ⟨⟨bR1, bS1⟩, ⟨bP1, hon⟩, hs3, hB1⟩ hK
    gi_wp2
    have gA : Gr W ((W.alloc (.cells #[.int .i64 (X x), .int .i64 (Y x)] 26)).alloc (.cells #[.int .i64 (X (Rg.nx1 n x)), .int .i64 (Y (Rg.nx1 n x))] 26)) := by go_grown
    exact hK _ _ ((gr_keeps gA).from _) ((KK.refl _ _ _).gr gA (by omega) (by omega)) ⟨⟨(bR1.alloc _).alloc _, (bS1.alloc _).alloc _⟩, ⟨(bP1.alloc _).alloc _, hon⟩, Nat.le_trans hs3 gA.size, Gr.trans hB1 gA⟩
      ⟨W.heap.size, W.heap.size + 1, hs3, by omega, (Box2.new W (X x) (Y x)).alloc _, (by have := Box2.new (W.alloc (.cells #[.int .i64 (X x), .int .i64 (Y x)] 26)) (X (Rg.nx1 n x)) (Y (Rg.nx1 n x)); rwa [World.size_alloc] at this), rfl⟩
  case body =>
    rintro l pre x a' W hl ⟨r, hr⟩ ⟨⟨bR1, bS1⟩, ⟨bP1, hon⟩, hs3, hB1⟩ ⟨Ba, Bb, hBa, hBb, bA, bB, rfl⟩ hlt
    obtain ⟨a0, a1⟩ := bA.cells
    obtain ⟨b0, b1⟩ := bB.cells
    obtain ⟨p0, p1, p2, p3⟩ := bP1.cells
    have s0 := bS1.cell
    have cR := bR1.cell
    have fR := bR1.frozen
    have hso := rmW_snoc n X Y m P Q lx ly hx hy pre x
    rw [hon, Bool.false_or] at hso
    unfold rmE at hso
    have CO := c_gMeetsBox (X x) (Y x) (X (Rg.nx1 n x)) (Y (Rg.nx1 n x)) lx ly hx hy
    have CE := H6.out (X x) (Y x) (X (Rg.nx1 n x)) (Y (Rg.nx1 n x))
    generalize mbG (X x) (Y x) (X (Rg.nx1 n x)) (Y (Rg.nx1 n x)) lx ly hx hy = og at CO hso
    generalize emW m P Q (X x) (Y x) (X (Rg.nx1 n x)) (Y (Rg.nx1 n x)) (List.range m) = em at CE hso
    generalize X x = xa at a0 CO CE
    generalize Y x = ya at a1 CO CE
    generalize X (Rg.nx1 n x) = xb at b0 CO CE
    generalize Y (Rg.nx1 n x) = yb at b1 CO CE
    have HCO := Lib.hid CO
    have HEM := Lib.hid CE
    have HSO := Lib.hid hso
    have HB := Lib.hid (And.intro bR1 (And.intro bP1 bS1))
    clear CO CE hso hon bA bB bR1 bP1 bS1 H6 H3 H4
    have fin : ∀ w3, Gr W w3 → (og && em) = false → _ := fun w3 (g3 : Gr W w3) (hf : (og && em) = false) => (⟨(gr_keeps g3).from W0.heap.size, (KK.refl B q W).gr g3 (by omega) (by omega), ⟨⟨HB.out.1.kept (gr_grown g3) (by simp), HB.out.2.2.kept (gr_grown g3) (by simp)⟩, ⟨HB.out.2.1.kept (gr_grown g3) (by simp), HSO.out.trans hf⟩, by have := g3.size; omega, Gr.trans hB1 g3⟩⟩ : KeepsFrom W0.heap.size W w3 ∧ KK B q W w3 ∧ ((Boxed w3 (w.heap.size + 1) 4 (.bool false) ∧ Boxed w3 w.heap.size 22 (.slice (some ⟨C, oc, none⟩) m bcap)) ∧ ((Box4 w3 s lx ly hx hy ∧ rmW n X Y m P Q lx ly hx hy (pre ++ [x]) = false) ∧ (q + 1 ≤ w3.heap.size ∧ Below w.heap.size w w3))))
    cases og
    · gi_wp2_with (first | (refine ⟨trivial, ?_⟩; gi_at_call 88; (refine (CallsIn.inRound l (callsIn_wide.2 (HCO.out _))).mono ?_); rintro e w2 ⟨rfl, x2⟩; (have g2 : Gr W w2 := Gr.trans (by go_grown) x2); (have a0' := cell_gr g2 a0); (have a1' := cell_gr g2 a1); (have b0' := cell_gr g2 b0); (have b1' := cell_gr g2 b1); (have s0' := cell_gr g2 s0); clear x2) | (refine ⟨trivial, ?_⟩))
      exact fin w2 g2 rfl
    · cases em
      · gi_wp2_with (first | (refine ⟨trivial, ?_⟩; gi_at_call 88; (refine (CallsIn.inRound l (callsIn_wide.2 (HCO.out _))).mono ?_); rintro e w2 ⟨rfl, x2⟩; (have g2 : Gr W w2 := Gr.trans (by go_grown) x2); (have a0' := cell_gr g2 a0); (have a1' := cell_gr g2 a1); (have b0' := cell_gr g2 b0); (have b1' := cell_gr g2 b1); (have s0' := cell_gr g2 s0); clear x2) | (refine ⟨trivial, ?_⟩; gi_at_call 89; (refine (CallsIn.inRound l (callsIn_wide.2 (HEM.out _ (Gr.trans hB1 (Gr.trans g2 (by go_grown)))))).mono ?_); rintro e w3 ⟨rfl, x3⟩; (have g3 : Gr W w3 := Gr.trans g2 (Gr.trans (by go_grown) x3)); have dR := cell_gr g3 cR; have eR := frozen_gr g3 cR fR; clear x3))
        exact fin w3 g3 rfl
      · gi_wp2_with (first | (refine ⟨trivial, ?_⟩; gi_at_call 88; (refine (CallsIn.inRound l (callsIn_wide.2 (HCO.out _))).mono ?_); rintro e w2 ⟨rfl, x2⟩; (have g2 : Gr W w2 := Gr.trans (by go_grown) x2); (have a0' := cell_gr g2 a0); (have a1' := cell_gr g2 a1); (have b0' := cell_gr g2 b0); (have b1' := cell_gr g2 b1); (have s0' := cell_gr g2 s0); clear x2) | (refine ⟨trivial, ?_⟩; gi_at_call 89; (refine (CallsIn.inRound l (callsIn_wide.2 (HEM.out _ (Gr.trans hB1 (Gr.trans g2 (by go_grown)))))).mono ?_); rintro e w3 ⟨rfl, x3⟩; (have g3 : Gr W w3 := Gr.trans g2 (Gr.trans (by go_grown) x3)); have dR := cell_gr g3 cR; have eR := frozen_gr g3 cR fR; clear x3))
        obtain ⟨bR1, bP1, bS1⟩ := HB.out
        exact ⟨((gr_keeps g3).trans (KeepsOthers.setCell _ _ _)).from _, ⟨rfl, HSO.out⟩, (bR1.kept (gr_grown g3) (by simp)).set _, (Gr.trans hB1 g3).setCell (p := ⟨w.heap.size + 1, 0, none⟩) (by simp) _⟩
  case done =>
    rintro D ys W' hD rfl ⟨⟨bR1, bS1⟩, ⟨bP1, hon⟩, hs3, hB1⟩ hK
    have s0 := bS1.cell
    have cR := bR1.cell
    have fR := bR1.frozen
    have k0 := cell_gr hB1 HD.out.1
    have k1 := cell_gr hB1 HD.out.2
    have j0 := cell_gr hB1 (HC.out 0 n0).1
    have j1 := cell_gr hB1 (HC.out 0 n0).2
    rw [Nat.zero_mul, Nat.add_zero] at k0 k1 j0 j1
    generalize P 0 = pa at k0 H3
    generalize Q 0 = pb at k1 H3
    generalize X 0 = xa at j0 H4
    generalize Y 0 = xb at j1 H4
    have m0 : 0 < m := by omega
    have HBR := Lib.hid bR1
    clear bR1 bS1 bP1
    have zB := World.block_lt_of_cell? _ _ j0
    have zC := World.block_lt_of_cell? _ _ k0
    have zS := World.block_lt_of_cell? _ _ s0
    cases z1
    · gi_wp2
      refine wpIn_wide.2 ?_
      go_wp2_with fail
      try simp only [List.append]
      refine Od.wp_region_ordT 12 [(0, false), (1, false), (2, false), (3, false), (4, true), (5, false), (6, false), (7, false), (8, false), (9, false), (10, true), (11, false)] (by kernel_rfl) (by kernel_rfl) ?_
      intro v3 hv3 KQ hKQ
      have cv3_0_0 : v3.cell? ⟨w.heap.size, 0, none⟩ = some (.slice (some ⟨C, oc, none⟩) m bcap) := cell_gr hv3 (by go_simp)
      have zv3_0 : w.heap.size < v3.heap.size := World.block_lt_of_cell? _ _ cv3_0_0
      have cv3_1_0 : v3.cell? ⟨C, oc, none⟩ = some (.int .i64 pa) := cell_gr hv3 (by go_simp)
      have cv3_1_1 : v3.cell? ⟨C, oc + 1, none⟩ = some (.int .i64 pb) := cell_gr hv3 (by go_simp)
      have zv3_1 : C < v3.heap.size := World.block_lt_of_cell? _ _ cv3_1_0
      have cv3_2_0 : v3.cell? ⟨B, off, none⟩ = some (.int .i64 xa) := cell_gr hv3 (by go_simp)
      have cv3_2_1 : v3.cell? ⟨B, off + 1, none⟩ = some (.int .i64 xb) := cell_gr hv3 (by go_simp)
      have zv3_2 : B < v3.heap.size := World.block_lt_of_cell? _ _ cv3_2_0
      have cv3_3_0 : v3.cell? ⟨w.heap.size + 1, 0, none⟩ = some (.bool false) := cell_gr hv3 (by go_simp)
      have fv3_3_0 : v3.frozen? ⟨w.heap.size + 1, 0, none⟩ = false := frozen_gr (v := .bool false) hv3 (by go_simp) (by go_simp)
      have zv3_3 : w.heap.size + 1 < v3.heap.size := World.block_lt_of_cell? _ _ cv3_3_0
      have gv3 : Gr W' v3 := Gr.trans (by go_grown) hv3
      skip
      clear hv3
      repeat (first | (refine Od.wpO_skip (by simp only [List.getElem?_toArray, List.getElem?_cons_succ, List.getElem?_cons_zero] <;> rfl) rfl ?_; simp only [Act.put, List.setIfInBounds_toArray, List.set_cons_zero, List.set_cons_succ]) | (refine Od.wpO_pure (by simp only [List.getElem?_toArray, List.getElem?_cons_succ, List.getElem?_cons_zero] <;> rfl) rfl ?_; apply Exists.intro; refine ⟨?_, ?_⟩; (· intro wx gx; obtain ⟨mx, rfl⟩ := spread_of_gr gx; clear gx; all_goals (apply Od.pAt_of_quiet; intro K hK; go_big_quiet_op; first | exact hK _ rfl | (apply Exists.intro; refine ⟨fun _ => ?_, ?_⟩; (· fail); exact hK _ rfl))); try simp only [Act.put, List.setIfInBounds_toArray, List.set_cons_zero, List.set_cons_succ]))
      refine Od.wpO_call (by simp only [List.getElem?_toArray, List.getElem?_cons_succ, List.getElem?_cons_zero] <;> rfl) rfl ?_
      intro QS hQS
      go_wp2_with fail
      go_at_call 74
      (with_reducible refine ((H3.out _ (Gr.trans hB1 gv3))).mono ?_)
      rintro e v4 ⟨rfl, hv4⟩
      go_wp2_with fail
      apply Exists.intro
      refine ⟨?_, hv4, ?_⟩
      · simp only [Act.put, List.setIfInBounds_toArray, List.set_cons_zero, List.set_cons_succ]; rfl
      have cv4_0_0 : v4.cell? ⟨w.heap.size, 0, none⟩ = some (.slice (some ⟨C, oc, none⟩) m bcap) := cell_gr hv4 (by go_simp)
      have zv4_0 : w.heap.size < v4.heap.size := World.block_lt_of_cell? _ _ cv4_0_0
      have cv4_1_0 : v4.cell? ⟨C, oc, none⟩ = some (.int .i64 pa) := cell_gr hv4 (by go_simp)
      have cv4_1_1 : v4.cell? ⟨C, oc + 1, none⟩ = some (.int .i64 pb) := cell_gr hv4 (by go_simp)
      have zv4_1 : C < v4.heap.size := World.block_lt_of_cell? _ _ cv4_1_0
      have cv4_2_0 : v4.cell? ⟨B, off, none⟩ = some (.int .i64 xa) := cell_gr hv4 (by go_simp)
      have cv4_2_1 : v4.cell? ⟨B, off + 1, none⟩ = some (.int .i64 xb) := cell_gr hv4 (by go_simp)
      have zv4_2 : B < v4.heap.size := World.block_lt_of_cell? _ _ cv4_2_0
      have cv4_3_0 : v4.cell? ⟨w.heap.size + 1, 0, none⟩ = some (.bool false) := cell_gr hv4 (by go_simp)
      have fv4_3_0 : v4.frozen? ⟨w.heap.size + 1, 0, none⟩ = false := frozen_gr (v := .bool false) hv4 (by go_simp) (by go_simp)
      have zv4_3 : w.heap.size + 1 < v4.heap.size := World.block_lt_of_cell? _ _ cv4_3_0
      have gv4 : Gr W' v4 := Gr.trans (by have gg := gv3; have gs := gg.size; go_grown) hv4
      clear gv3 zv3_0 cv3_0_0 zv3_1 cv3_1_0 cv3_1_1 zv3_2 cv3_2_0 cv3_2_1 zv3_3 cv3_3_0 fv3_3_0
      clear hv4
      try simp only [Act.put, List.setIfInBounds_toArray, List.set_cons_zero, List.set_cons_succ]
      repeat (first | (refine Od.wpO_skip (by simp only [List.getElem?_toArray, List.getElem?_cons_succ, List.getElem?_cons_zero] <;> rfl) rfl ?_; simp only [Act.put, List.setIfInBounds_toArray, List.set_cons_zero, List.set_cons_succ]) | (refine Od.wpO_pure (by simp only [List.getElem?_toArray, List.getElem?_cons_succ, List.getElem?_cons_zero] <;> rfl) rfl ?_; apply Exists.intro; refine ⟨?_, ?_⟩; (· intro wx gx; obtain ⟨mx, rfl⟩ := spread_of_gr gx; clear gx; all_goals (apply Od.pAt_of_quiet; intro K hK; go_big_quiet_op; first | exact hK _ rfl | (apply Exists.intro; refine ⟨fun _ => ?_, ?_⟩; (· fail); exact hK _ rfl))); try simp only [Act.put, List.setIfInBounds_toArray, List.set_cons_zero, List.set_cons_succ]))
      refine Od.wpO_call (by simp only [List.getElem?_toArray, List.getElem?_cons_succ, List.getElem?_cons_zero] <;> rfl) rfl ?_
      intro QS hQS
      go_wp2_with fail
      go_at_call 74
      (with_reducible refine ((H4.out _ (Gr.trans hB1 gv4))).mono ?_)
      rintro e v5 ⟨rfl, hv5⟩
      go_wp2_with fail
      apply Exists.intro
      refine ⟨?_, hv5, ?_⟩
      · simp only [Act.put, List.setIfInBounds_toArray, List.set_cons_zero, List.set_cons_succ]; rfl
      have cv5_0_0 : v5.cell? ⟨w.heap.size, 0, none⟩ = some (.slice (some ⟨C, oc, none⟩) m bcap) := cell_gr hv5 (by go_simp)
      have zv5_0 : w.heap.size < v5.heap.size := World.block_lt_of_cell? _ _ cv5_0_0
      have cv5_1_0 : v5.cell? ⟨C, oc, none⟩ = some (.int .i64 pa) := cell_gr hv5 (by go_simp)
      have cv5_1_1 : v5.cell? ⟨C, oc + 1, none⟩ = some (.int .i64 pb) := cell_gr hv5 (by go_simp)
      have zv5_1 : C < v5.heap.size := World.block_lt_of_cell? _ _ cv5_1_0
      have cv5_2_0 : v5.cell? ⟨B, off, none⟩ = some (.int .i64 xa) := cell_gr hv5 (by go_simp)
      have cv5_2_1 : v5.cell? ⟨B, off + 1, none⟩ = some (.int .i64 xb) := cell_gr hv5 (by go_simp)
      have zv5_2 : B < v5.heap.size := World.block_lt_of_cell? _ _ cv5_2_0
      have cv5_3_0 : v5.cell? ⟨w.heap.size + 1, 0, none⟩ = some (.bool false) := cell_gr hv5 (by go_simp)
      have fv5_3_0 : v5.frozen? ⟨w.heap.size + 1, 0, none⟩ = false := frozen_gr (v := .bool false) hv5 (by go_simp) (by go_simp)
      have zv5_3 : w.heap.size + 1 < v5.heap.size := World.block_lt_of_cell? _ _ cv5_3_0
      have gv5 : Gr W' v5 := Gr.trans (by have gg := gv4; have gs := gg.size; go_grown) hv5
      clear gv4 zv4_0 cv4_0_0 zv4_1 cv4_1_0 cv4_1_1 zv4_2 cv4_2_0 cv4_2_1 zv4_3 cv4_3_0 fv4_3_0
      clear hv5
      try simp only [Act.put, List.setIfInBounds_toArray, List.set_cons_zero, List.set_cons_succ]
      repeat (first | (refine Od.wpO_skip (by simp only [List.getElem?_toArray, List.getElem?_cons_succ, List.getElem?_cons_zero] <;> rfl) rfl ?_; simp only [Act.put, List.setIfInBounds_toArray, List.set_cons_zero, List.set_cons_succ]) | (refine Od.wpO_pure (by simp only [List.getElem?_toArray, List.getElem?_cons_succ, List.getElem?_cons_zero] <;> rfl) rfl ?_; apply Exists.intro; refine ⟨?_, ?_⟩; (· intro wx gx; obtain ⟨mx, rfl⟩ := spread_of_gr gx; clear gx; all_goals (apply Od.pAt_of_quiet; intro K hK; go_big_quiet_op; first | exact hK _ rfl | (apply Exists.intro; refine ⟨fun _ => ?_, ?_⟩; (· fail); exact hK _ rfl))); try simp only [Act.put, List.setIfInBounds_toArray, List.set_cons_zero, List.set_cons_succ]))
      refine Od.wpO_nil (hKQ _ _ ?_)
      clear hKQ KQ
      go_wp2_with fail
      gi_wp2
      rw [hon, Bool.false_or, Bool.false_or]
      have bR2 : Boxed v5 (w.heap.size + 1) 4 (.bool false) := HBR.out.kept (gr_grown gv5) (by simp)
      have hK1 : v5.heap[D]? = some (.deferred (some [])) := (gr_keeps gv5).same D _ hK rfl
      have hK2 : (v5.setCell ⟨w.heap.size + 1, 0, none⟩ (.bool z2)).heap[D]? = some (.deferred (some [])) := (KeepsOthers.setCell _ _ _).same D _ hK1 rfl
      have hc2 := cell_kept (bR2.set (.bool z2)).cell (grownBy_putObj' _ D (.deferred none)) (fun r e => by cases e; exact ⟨_, hK2, rfl⟩)
      refine ⟨by simp, .inl ⟨_, _, rfl, run_takeDeferred hK2, ?_⟩⟩
      exact ⟨_, results_cell1 rfl rfl (Tryz.underlying4) rfl hc2, rfl, ((Gr.trans hB1 gv5).setCell (p := ⟨w.heap.size + 1, 0, none⟩) (by simp) _).trans (belowK_b (w := w) (Nat.le_refl _) _ D _ _ (by omega) hK2 rfl rfl)⟩
    · gi_wp2
      refine wpIn_wide.2 ?_
      go_wp2_with fail
      try simp only [List.append]
      refine Od.wp_region_ordT 12 [(0, false), (1, false), (2, false), (3, false), (4, true), (5, false), (6, false), (7, false), (8, false), (9, false), (10, true), (11, false)] (by kernel_rfl) (by kernel_rfl) ?_
      intro v3 hv3 KQ hKQ
      have cv3_0_0 : v3.cell? ⟨w.heap.size, 0, none⟩ = some (.slice (some ⟨C, oc, none⟩) m bcap) := cell_gr hv3 (by go_simp)
      have zv3_0 : w.heap.size < v3.heap.size := World.block_lt_of_cell? _ _ cv3_0_0
      have cv3_1_0 : v3.cell? ⟨C, oc, none⟩ = some (.int .i64 pa) := cell_gr hv3 (by go_simp)
      have cv3_1_1 : v3.cell? ⟨C, oc + 1, none⟩ = some (.int .i64 pb) := cell_gr hv3 (by go_simp)
      have zv3_1 : C < v3.heap.size := World.block_lt_of_cell? _ _ cv3_1_0
      have cv3_2_0 : v3.cell? ⟨B, off, none⟩ = some (.int .i64 xa) := cell_gr hv3 (by go_simp)
      have cv3_2_1 : v3.cell? ⟨B, off + 1, none⟩ = some (.int .i64 xb) := cell_gr hv3 (by go_simp)
      have zv3_2 : B < v3.heap.size := World.block_lt_of_cell? _ _ cv3_2_0
      have cv3_3_0 : v3.cell? ⟨w.heap.size + 1, 0, none⟩ = some (.bool false) := cell_gr hv3 (by go_simp)
      have fv3_3_0 : v3.frozen? ⟨w.heap.size + 1, 0, none⟩ = false := frozen_gr (v := .bool false) hv3 (by go_simp) (by go_simp)
      have zv3_3 : w.heap.size + 1 < v3.heap.size := World.block_lt_of_cell? _ _ cv3_3_0
      have gv3 : Gr W' v3 := Gr.trans (by go_grown) hv3
      skip
      clear hv3
      repeat (first | (refine Od.wpO_skip (by simp only [List.getElem?_toArray, List.getElem?_cons_succ, List.getElem?_cons_zero] <;> rfl) rfl ?_; simp only [Act.put, List.setIfInBounds_toArray, List.set_cons_zero, List.set_cons_succ]) | (refine Od.wpO_pure (by simp only [List.getElem?_toArray, List.getElem?_cons_succ, List.getElem?_cons_zero] <;> rfl) rfl ?_; apply Exists.intro; refine ⟨?_, ?_⟩; (· intro wx gx; obtain ⟨mx, rfl⟩ := spread_of_gr gx; clear gx; all_goals (apply Od.pAt_of_quiet; intro K hK; go_big_quiet_op; first | exact hK _ rfl | (apply Exists.intro; refine ⟨fun _ => ?_, ?_⟩; (· fail); exact hK _ rfl))); try simp only [Act.put, List.setIfInBounds_toArray, List.set_cons_zero, List.set_cons_succ]))
      refine Od.wpO_call (by simp only [List.getElem?_toArray, List.getElem?_cons_succ, List.getElem?_cons_zero] <;> rfl) rfl ?_
      intro QS hQS
      go_wp2_with fail
      go_at_call 74
      (with_reducible refine ((H3.out _ (Gr.trans hB1 gv3))).mono ?_)
      rintro e v4 ⟨rfl, hv4⟩
      go_wp2_with fail
      apply Exists.intro
      refine ⟨?_, hv4, ?_⟩
      · simp only [Act.put, List.setIfInBounds_toArray, List.set_cons_zero, List.set_cons_succ]; rfl
      have cv4_0_0 : v4.cell? ⟨w.heap.size, 0, none⟩ = some (.slice (some ⟨C, oc, none⟩) m bcap) := cell_gr hv4 (by go_simp)
      have zv4_0 : w.heap.size < v4.heap.size := World.block_lt_of_cell? _ _ cv4_0_0
      have cv4_1_0 : v4.cell? ⟨C, oc, none⟩ = some (.int .i64 pa) := cell_gr hv4 (by go_simp)
      have cv4_1_1 : v4.cell? ⟨C, oc + 1, none⟩ = some (.int .i64 pb) := cell_gr hv4 (by go_simp)
      have zv4_1 : C < v4.heap.size := World.block_lt_of_cell? _ _ cv4_1_0
      have cv4_2_0 : v4.cell? ⟨B, off, none⟩ = some (.int .i64 xa) := cell_gr hv4 (by go_simp)
      have cv4_2_1 : v4.cell? ⟨B, off + 1, none⟩ = some (.int .i64 xb) := cell_gr hv4 (by go_simp)
      have zv4_2 : B < v4.heap.size := World.block_lt_of_cell? _ _ cv4_2_0
      have cv4_3_0 : v4.cell? ⟨w.heap.size + 1, 0, none⟩ = some (.bool false) := cell_gr hv4 (by go_simp)
      have fv4_3_0 : v4.frozen? ⟨w.heap.size + 1, 0, none⟩ = false := frozen_gr (v := .bool false) hv4 (by go_simp) (by go_simp)
      have zv4_3 : w.heap.size + 1 < v4.heap.size := World.block_lt_of_cell? _ _ cv4_3_0
      have gv4 : Gr W' v4 := Gr.trans (by have gg := gv3; have gs := gg.size; go_grown) hv4
      clear gv3 zv3_0 cv3_0_0 zv3_1 cv3_1_0 cv3_1_1 zv3_2 cv3_2_0 cv3_2_1 zv3_3 cv3_3_0 fv3_3_0
      clear hv4
      try simp only [Act.put, List.setIfInBounds_toArray, List.set_cons_zero, List.set_cons_succ]
      repeat (first | (refine Od.wpO_skip (by simp only [List.getElem?_toArray, List.getElem?_cons_succ, List.getElem?_cons_zero] <;> rfl) rfl ?_; simp only [Act.put, List.setIfInBounds_toArray, List.set_cons_zero, List.set_cons_succ]) | (refine Od.wpO_pure (by simp only [List.getElem?_toArray, List.getElem?_cons_succ, List.getElem?_cons_zero] <;> rfl) rfl ?_; apply Exists.intro; refine ⟨?_, ?_⟩; (· intro wx gx; obtain ⟨mx, rfl⟩ := spread_of_gr gx; clear gx; all_goals (apply Od.pAt_of_quiet; intro K hK; go_big_quiet_op; first | exact hK _ rfl | (apply Exists.intro; refine ⟨fun _ => ?_, ?_⟩; (· fail); exact hK _ rfl))); try simp only [Act.put, List.setIfInBounds_toArray, List.set_cons_zero, List.set_cons_succ]))
      refine Od.wpO_nil (hKQ _ _ ?_)
      clear hKQ KQ
      go_wp2_with fail
      gi_wp2
      rw [hon, Bool.false_or, Bool.true_or]
      have bR2 : Boxed v4 (w.heap.size + 1) 4 (.bool false) := HBR.out.kept (gr_grown gv4) (by simp)
      have hK1 : v4.heap[D]? = some (.deferred (some [])) := (gr_keeps gv4).same D _ hK rfl
      have hK2 : (v4.setCell ⟨w.heap.size + 1, 0, none⟩ (.bool true)).heap[D]? = some (.deferred (some [])) := (KeepsOthers.setCell _ _ _).same D _ hK1 rfl
      have hc2 := cell_kept (bR2.set (.bool true)).cell (grownBy_putObj' _ D (.deferred none)) (fun r e => by cases e; exact ⟨_, hK2, rfl⟩)
      refine ⟨by simp, .inl ⟨_, _, rfl, run_takeDeferred hK2, ?_⟩⟩
      exact ⟨_, results_cell1 rfl rfl (Tryz.underlying4) rfl hc2, rfl, ((Gr.trans hB1 gv4).setCell (p := ⟨w.heap.size + 1, 0, none⟩) (by simp) _).trans (belowK_b (w := w) (Nat.le_refl _) _ D _ _ (by omega) hK2 rfl rfl)⟩
  case stop =>
    rintro D c pre W hD ⟨k, hk, rfl⟩ ⟨⟨rfl, hon⟩, bR1, hB1⟩ hK
    have cR := bR1.cell
    gi_wp2
    have hc2 := cell_kept cR (grownBy_putObj' _ D (.deferred none)) (fun r e => by cases e; exact ⟨_, hK, rfl⟩)
    rw [rmW_mono hk hon, Bool.true_or]
    refine ⟨by simp, .inl ⟨_, _, rfl, run_takeDeferred hK, ?_⟩⟩
    exact ⟨_, results_cell1 rfl rfl (Tryz.underlying4) rfl hc2, rfl, hB1.trans (belowK_b (w := w) (Nat.le_refl _) _ D _ _ (by omega) hK rfl rfl)⟩
end Go.Proofs.YtfobmlgpjhghdaaGreatDoor
namespace Go.Proofs.YtfobmlgpjhghdaaGreatDoor
set_option linter.unusedVariables false
set_option linter.unusedSimpArgs false
open Go.ChangeShapes Go.WideShapes Go.ChangeAt Go.RowKit
def NF (v : Value) : Prop := v = .nilIface ∨ ∃ B, v = .iface 84 (.pointer (some ⟨B, 0, none⟩))
theorem nf_nil : NF .nilIface := Or.inl rfl
theorem nf_f (B : Nat) : NF (.iface 84 (.pointer (some ⟨B, 0, none⟩))) := Or.inr ⟨B, rfl⟩
theorem werr_nf {op : ByteArray} {w : World} {v : Value} {id : Int} {k : Nat} (h : WErr op w v id k) : NF v ∧ (v = .nilIface ↔ k = 0) := by
  rcases h with ⟨rfl, rfl⟩ | ⟨B, u, d, rfl, h2, -⟩
  · exact ⟨Or.inl rfl, by simp⟩
  · exact ⟨Or.inr ⟨B, rfl⟩, by constructor; intro h; cases h; intro h; omega⟩
set_option maxHeartbeats 4000000 in
set_option maxRecDepth 100000 in
theorem c_allowed {D n cap : Nat} {e : Nat → Value} (W : World) (hE : ErrT W) (hn : n ≤ 2) (hp : ∀ k, k < n → W.cell? ⟨D, k, none⟩ = some (e k)) (he : ∀ k, k < n → NF (e k)) (hD : D < W.heap.size) (hc : n ≤ cap) (z : Bool) (hz : z = true ↔ ∀ k, k < n → e k = .nilIface) :
    Calls Tryz.prog 39 #[.slice (some ⟨D, 0, none⟩) n cap] W fun e w' => e = .returned (.bool z) ∧ Gr W w' := by
  have hn9 : (n : Int) ≤ 2 := by omega
  have HP := Lib.hid hp
  have HE := Lib.hid he
  have HZ := Lib.hid hz
  have HT := Lib.hid hE
  clear hp he hz hE
  go_enter Tryz.func39, Tryz.ntmps39
  go_wp2_with fail
  go_loopg [8] n (fun k x wr => ∃ i : Nat, x = .int .i64 i ∧ i ≤ n ∧ k = n - i ∧ (∀ j, j < i → e j = .nilIface) ∧ Gr W wr)
  case atStart => exact ⟨0, rfl, Nat.zero_le _, by omega, fun j hj => absurd hj (by omega), by go_grown⟩
  case round =>
    obtain ⟨i, rfl, hi, hk, hN, hg⟩ := hrel
    have hgs := hg.size
    have HN := Lib.hid hN
    clear hN
    by_cases hin : i < n
    · have ti : decide ((i : Int) < (n : Int)) = true := decide_eq_true (by omega)
      have ti2 : decide (i < n) = true := decide_eq_true hin
      have ti3 : (i : Int) < (n : Int) := by omega
      have hmm : n - (i + 1) < gk := by omega
      have r0 := cell_gr hg (HP.out i hin)
      have hnf := HE.out i hin
      obtain ⟨x, hx⟩ : ∃ x, x = e i := ⟨_, rfl⟩
      have HX := Lib.hid hx
      rw [← hx] at r0 hnf
      have hDw : D < wr.heap.size := by omega
      clear hk hx
      rcases hnf with rfl | ⟨C, rfl⟩
      · go_wp2_with fail
        go_at_call 61
        refine (c_As_nil _ _).mono ?_
        rintro e w1 ⟨rfl, g1⟩
        have G1 : Gr W w1 := Gr.trans (by go_grown) g1
        clear g1
        go_wp2_with fail
        go_roundg (n - (i + 1))
        case measure => exact hmm
        case rel => exact ⟨i + 1, by go_num, by omega, rfl, fun j hj => (by rcases Nat.lt_succ_iff_lt_or_eq.1 hj with h | rfl; exact HN.out j h; exact HX.out.symm), by have gs := G1.size; go_grown⟩
      · have A := as_hit ⟨C, 0, none⟩ ⟨wr.heap.size, 0, none⟩ (.pointer none) (wr.alloc (.cells #[.pointer none] 84)) (errT_gr HT.out (by go_grown)) (by go_simp) (by go_simp)
        have H2 := Lib.hid A
        clear A
        go_wp2_with fail
        go_at_call 61
        refine H2.out.mono ?_
        rintro e w2 ⟨rfl, wx, gx, rfl⟩
        have gWx : Gr W wx := Gr.trans (by go_grown) gx
        have hzf : z = false := by
          cases hzz : z
          · rfl
          · have := (HZ.out.1 hzz) i hin
            rw [← HX.out] at this
            cases this
        subst hzf
        go_wp2_with fail
        go_ret
        exact ⟨rfl, by have gg := gWx; have gs := gg.size; go_grown⟩
    · obtain rfl : i = n := by omega
      have ti : decide ((i : Int) < (i : Int)) = false := decide_eq_false (by omega)
      have ti2 : decide (i < i) = false := decide_eq_false (by omega)
      have hzt : z = true := HZ.out.2 HN.out
      subst hzt
      go_wp2_with fail
      go_ret
      exact ⟨rfl, by go_grown⟩
set_option maxHeartbeats 4000000 in
set_option maxRecDepth 100000 in
theorem c_rmb_no {n : Nat} {X Y : Nat → Int} {v : Value} (lx ly hx hy : Int) (W : World) (h : Pts W v n X Y) (hn : n ≤ 64) (hm : arM n X Y lx ly hx hy = false) :
    Calls Tryz.prog 104 #[v, .agg #[.int .i64 lx, .int .i64 ly, .int .i64 hx, .int .i64 hy]] W fun e w' => e = .returned (.bool false) ∧ Gr W w' := by
  have A1 := fun w' (g : Gr W w') => c_AroundN w' (pts_gr h g) (by omega)
  have A2 := fun w' => c_Meets (mnN X n) (mnN Y n) (mxN X n) (mxN Y n) lx ly hx hy w'
  unfold arM at hm
  rw [hm] at A2
  generalize mnN X n = m1 at A1 A2
  generalize mnN Y n = m2 at A1 A2
  generalize mxN X n = m3 at A1 A2
  generalize mxN Y n = m4 at A1 A2
  obtain ⟨ad, cap, B, off, rfl, -⟩ := h
  have H1 := Lib.hid A1
  have H2 := Lib.hid A2
  clear A1 A2
  clear hm
  go_enter Tryz.func104, Tryz.ntmps104
  go_wp2_with fail
  go_wp2_with fail
  refine wp_region_spread (by kernel_rfl) (by kernel_rfl) ?_
  try simp only [List.append]
  repeat (first | go_big_quiet_skip | (go_big_quiet_want; go_big_quiet_op; (first | go_big_quiet_on | (apply Exists.intro; refine ⟨fun _ => ?_, ?_⟩; (· (first | (go_at_call 62; first | ((with_reducible refine ((H1.out _ (Gr.trans (by go_grown) (gr_spread _ _)))).mono ?_); rintro e w' ⟨rfl, hg⟩; exact ⟨rfl, spread_gr hg⟩)) | (go_at_call 87; first | ((with_reducible refine ((H2.out _)).mono ?_); rintro e w' ⟨rfl, hg⟩; exact ⟨rfl, spread_gr hg⟩)))); go_big_quiet_on))))
  refine wpQuiet_nil ?_
  intro w1 hhw1
  have hw1 := Hd.gr_of_spread hhw1
  have cw1_0_0 : w1.cell? ⟨W.heap.size, 0, none⟩ = some (.int .i64 lx) := cell_gr hw1 (by go_simp)
  have cw1_0_1 : w1.cell? ⟨W.heap.size, 1, none⟩ = some (.int .i64 ly) := cell_gr hw1 (by go_simp)
  have cw1_0_2 : w1.cell? ⟨W.heap.size, 2, none⟩ = some (.int .i64 hx) := cell_gr hw1 (by go_simp)
  have cw1_0_3 : w1.cell? ⟨W.heap.size, 3, none⟩ = some (.int .i64 hy) := cell_gr hw1 (by go_simp)
  have zw1_0 : W.heap.size < w1.heap.size := World.block_lt_of_cell? _ _ cw1_0_0
  have cw1_1_0 : w1.cell? ⟨W.heap.size + 1, 0, none⟩ = some (.bool false) := cell_gr hw1 (by go_simp)
  have fw1_1_0 : w1.frozen? ⟨W.heap.size + 1, 0, none⟩ = false := frozen_gr (v := .bool false) hw1 (by go_simp) (by go_simp)
  have zw1_1 : W.heap.size + 1 < w1.heap.size := World.block_lt_of_cell? _ _ cw1_1_0
  have gw1 : Gr W w1 := Gr.trans (by go_grown) hw1
  clear hw1 hhw1
  go_wp2_with fail
  go_wp2_with fail
  refine bodyPost_ret (v := .bool false) (by simp [results, Tryz.results104, go_sem, *]) rfl ⟨rfl, by go_grown⟩
end Go.Proofs.YtfobmlgpjhghdaaGreatDoor
namespace Go.Proofs.YtfobmlgpjhghdaaGreatDoor
set_option linter.unusedVariables false
set_option linter.unusedSimpArgs false
open Go.ChangeShapes Go.WideShapes Go.ChangeAt Go.RowKit
def meV (lx ly hx hy mx my nx ny : Int) : Bool := boxB lx ly hx hy && boxB mx my nx ny && decide (lx ≤ nx) && decide (mx ≤ hx) && decide (ly ≤ ny) && decide (my ≤ hy)
def rmV (n : Nat) (X Y : Nat → Int) (lx ly hx hy : Int) : Bool := arM n X Y lx ly hx hy && rmbV n X Y lx ly hx hy
theorem c_rmbA {n : Nat} {X Y : Nat → Int} {v : Value} (lx ly hx hy : Int) (W : World) (h : Pts W v n X Y) (h0 : (Rg.ringC n X Y).1 = 0) : Calls Tryz.prog 104 #[v, .agg #[.int .i64 lx, .int .i64 ly, .int .i64 hx, .int .i64 hy]] W fun e w' => e = .returned (.bool (rmV n X Y lx ly hx hy)) ∧ Gr W w' := by
  unfold rmV
  cases hm : arM n X Y lx ly hx hy
  · exact c_rmb_no lx ly hx hy W h (by have := (Rg.ringC_ok h0).1; omega) hm
  · rw [Bool.true_and]; exact c_rmb' W h h0 hm
def FrTo (W : World) (k : Int) (v : Value) (lx ly hx hy : Int) : Prop := (k = 1 ∨ k = 2 ∨ k = 3) ∧ (∃ ad n cap, v = .slice ad n cap) ∧ ∀ w, Gr W w → Calls Tryz.prog 36 #[.agg #[.int .i64 k, v]] w fun e w' => e = .returned (.agg #[.int .i64 lx, .int .i64 ly, .int .i64 hx, .int .i64 hy]) ∧ Gr w w'
section
variable {k : Int} {v : Value} {lx ly hx hy : Int}
set_option maxHeartbeats 2000000 in
set_option maxRecDepth 100000 in
theorem c_meetsBoxB (mx my nx ny : Int) (W : World) (h : FrTo W k v lx ly hx hy) : Calls Tryz.prog 68 #[.agg #[.int .i64 k, v], .agg #[.int .i64 mx, .int .i64 my, .int .i64 nx, .int .i64 ny]] W fun e w' => e = .returned (.bool (meV lx ly hx hy mx my nx ny)) ∧ Gr W w' := by
  have A1 := fun w => c_Meets lx ly hx hy mx my nx ny w
  unfold meV
  generalize (boxB lx ly hx hy && boxB mx my nx ny && decide (lx ≤ nx) && decide (mx ≤ hx) && decide (ly ≤ ny) && decide (my ≤ hy)) = z at A1 ⊢
  obtain ⟨hk, ⟨ad, n, cap, rfl⟩, A2⟩ := h
  have k4 : (k == 4) = false := by simp; omega
  have H1 := Lib.hid A1
  have H2 := Lib.hid A2
  clear A1 A2
  clear hk
  go_enter Tryz.func68, Tryz.ntmps68
  go_wp2_with fail
  go_wp2_with fail
  refine wp_region_spread (by kernel_rfl) (by kernel_rfl) ?_
  try simp only [List.append]
  repeat (first | go_big_quiet_skip | (go_big_quiet_want; go_big_quiet_op; (first | go_big_quiet_on | (apply Exists.intro; refine ⟨fun _ => ?_, ?_⟩; (· (first | (go_at_call 36; first | ((with_reducible refine ((H2.out _ (Gr.trans (by go_grown) (gr_spread _ _)))).mono ?_); rintro e w' ⟨rfl, hg⟩; exact ⟨rfl, spread_gr hg⟩)) | (go_at_call 87; first | ((with_reducible refine ((H1.out _)).mono ?_); rintro e w' ⟨rfl, hg⟩; exact ⟨rfl, spread_gr hg⟩)))); go_big_quiet_on))))
  refine wpQuiet_nil ?_
  intro w1 hhw1
  have hw1 := Hd.gr_of_spread hhw1
  have cw1_0_0 : w1.cell? ⟨W.heap.size, 0, none⟩ = some (.int .i64 k) := cell_gr hw1 (by go_simp)
  have cw1_0_1 : w1.cell? ⟨W.heap.size, 1, none⟩ = some (.slice ad n cap) := cell_gr hw1 (by go_simp)
  have zw1_0 : W.heap.size < w1.heap.size := World.block_lt_of_cell? _ _ cw1_0_0
  have cw1_1_0 : w1.cell? ⟨W.heap.size + 1, 0, none⟩ = some (.int .i64 mx) := cell_gr hw1 (by go_simp)
  have cw1_1_1 : w1.cell? ⟨W.heap.size + 1, 1, none⟩ = some (.int .i64 my) := cell_gr hw1 (by go_simp)
  have cw1_1_2 : w1.cell? ⟨W.heap.size + 1, 2, none⟩ = some (.int .i64 nx) := cell_gr hw1 (by go_simp)
  have cw1_1_3 : w1.cell? ⟨W.heap.size + 1, 3, none⟩ = some (.int .i64 ny) := cell_gr hw1 (by go_simp)
  have zw1_1 : W.heap.size + 1 < w1.heap.size := World.block_lt_of_cell? _ _ cw1_1_0
  have gw1 : Gr W w1 := Gr.trans (by go_grown) hw1
  clear hw1 hhw1
  go_wp2_with fail
  go_ret
  exact ⟨rfl, by have gg := gw1; have gs := gg.size; go_grown⟩
set_option maxHeartbeats 2000000 in
set_option maxRecDepth 100000 in
theorem c_meetsRingB {m : Nat} {P Q : Nat → Int} {u : Value} (W : World) (h : FrTo W k v lx ly hx hy) (hu : Pts W u m P Q) (h0 : (Rg.ringC m P Q).1 = 0) : Calls Tryz.prog 69 #[.agg #[.int .i64 k, v], u] W fun e w' => e = .returned (.bool (rmV m P Q lx ly hx hy)) ∧ Gr W w' := by
  have A1 := fun w (g : Gr W w) => c_rmbA lx ly hx hy w (pts_gr hu g) h0
  generalize rmV m P Q lx ly hx hy = z at A1 ⊢
  obtain ⟨hk, ⟨ad, n, cap, rfl⟩, A2⟩ := h
  obtain ⟨bd, bcap, _, _, rfl, -⟩ := hu
  have k4 : (k == 4) = false := by simp; omega
  have H1 := Lib.hid A1
  have H2 := Lib.hid A2
  clear A1 A2
  clear hk
  go_enter Tryz.func69, Tryz.ntmps69
  go_wp2_with fail
  go_at_call 36
  refine ((H2.out _ (by go_grown))).mono ?_
  rintro e w1 ⟨rfl, hw1⟩
  have cw1_0_0 : w1.cell? ⟨W.heap.size, 0, none⟩ = some (.int .i64 k) := cell_gr hw1 (by go_simp)
  have cw1_0_1 : w1.cell? ⟨W.heap.size, 1, none⟩ = some (.slice ad n cap) := cell_gr hw1 (by go_simp)
  have zw1_0 : W.heap.size < w1.heap.size := World.block_lt_of_cell? _ _ cw1_0_0
  have gw1 : Gr W w1 := Gr.trans (by go_grown) hw1
  clear hw1
  go_wp2_with fail
  go_at_call 104
  refine ((H1.out _ (by have gg := gw1; have gs := gg.size; go_grown))).mono ?_
  rintro e w2 ⟨rfl, hw2⟩
  have cw2_0_0 : w2.cell? ⟨W.heap.size, 0, none⟩ = some (.int .i64 k) := cell_gr hw2 (by go_simp)
  have cw2_0_1 : w2.cell? ⟨W.heap.size, 1, none⟩ = some (.slice ad n cap) := cell_gr hw2 (by go_simp)
  have zw2_0 : W.heap.size < w2.heap.size := World.block_lt_of_cell? _ _ cw2_0_0
  have gw2 : Gr W w2 := Gr.trans (by have gg := gw1; have gs := gg.size; go_grown) hw2
  clear hw2 gw1 zw1_0 cw1_0_0 cw1_0_1
  go_wp2_with fail
  go_ret
  exact ⟨rfl, gw2⟩
end
end Go.Proofs.YtfobmlgpjhghdaaGreatDoor
namespace Go.Proofs.YtfobmlgpjhghdaaGreatDoor
set_option linter.unusedVariables false
set_option linter.unusedSimpArgs false
open Go.ChangeShapes Go.WideShapes Go.ChangeAt Go.RowKit
theorem boxN_0 {lx ly hx hy : Int} : boxN lx ly hx hy = 0 ↔ boxB lx ly hx hy = true := by
  unfold boxN boxB
  cases nearB lx ly <;> cases nearB hx hy <;> cases decide (lx ≤ hx) <;> cases decide (ly ≤ hy) <;> simp
def BL (W : World) (k : Int) (v : Value) (lx ly hx hy : Int) : Prop := FrTo W k v lx ly hx hy ∧ ∃ n X Y, Pts W v n X Y ∧ objC k n X Y = boxN lx ly hx hy
end Go.Proofs.YtfobmlgpjhghdaaGreatDoor
namespace Go.Proofs.YtfobmlgpjhghdaaGreatDoor
set_option linter.unusedVariables false
set_option linter.unusedSimpArgs false
open Go.ChangeShapes Go.WideShapes Go.ChangeAt Go.RowKit
set_option maxHeartbeats 4000000 in
set_option maxRecDepth 100000 in
theorem c_rings_no {n m : Nat} {X Y P Q : Nat → Int} {v u : Value} (W : World) (h : Pts W v n X Y) (hu : Pts W u m P Q) (hn : n ≤ 64) (hm9 : m ≤ 64) (hm : arM n X Y (mnN P m) (mnN Q m) (mxN P m) (mxN Q m) = false) :
    Calls Tryz.prog 53 #[v, u] W fun e w' => e = .returned (.bool false) ∧ Gr W w' := by
  have A1 := fun w' (g : Gr W w') => c_AroundN w' (pts_gr h g) (by omega)
  have A2 := fun w' (g : Gr W w') => c_AroundN w' (pts_gr hu g) (by omega)
  have A3 := fun w' => c_Meets (mnN X n) (mnN Y n) (mxN X n) (mxN Y n) (mnN P m) (mnN Q m) (mxN P m) (mxN Q m) w'
  unfold arM at hm
  rw [hm] at A3
  generalize mnN X n = m1 at A1 A3
  generalize mnN Y n = m2 at A1 A3
  generalize mxN X n = m3 at A1 A3
  generalize mxN Y n = m4 at A1 A3
  generalize mnN P m = k1 at A2 A3
  generalize mnN Q m = k2 at A2 A3
  generalize mxN P m = k3 at A2 A3
  generalize mxN Q m = k4 at A2 A3
  obtain ⟨ad, cap, B, off, rfl, -⟩ := h
  obtain ⟨bd, bcap, C, oc, rfl, -⟩ := hu
  have H1 := Lib.hid A1
  have H2 := Lib.hid A2
  have H3 := Lib.hid A3
  clear A1 A2 A3
  clear hm
  go_enter Tryz.func53, Tryz.ntmps53
  go_wp2_with fail
  go_at_call 62
  refine ((H2.out _ (by go_grown))).mono ?_
  rintro e w1 ⟨rfl, hw1⟩
  have cw1_0_0 : w1.cell? ⟨W.heap.size, 0, none⟩ = some (.slice bd m bcap) := cell_gr hw1 (by go_simp)
  have zw1_0 : W.heap.size < w1.heap.size := World.block_lt_of_cell? _ _ cw1_0_0
  have cw1_1_0 : w1.cell? ⟨W.heap.size + 1, 0, none⟩ = some (.bool false) := cell_gr hw1 (by go_simp)
  have fw1_1_0 : w1.frozen? ⟨W.heap.size + 1, 0, none⟩ = false := frozen_gr (v := .bool false) hw1 (by go_simp) (by go_simp)
  have zw1_1 : W.heap.size + 1 < w1.heap.size := World.block_lt_of_cell? _ _ cw1_1_0
  have gw1 : Gr W w1 := Gr.trans (by go_grown) hw1
  clear hw1
  go_wp2_with fail
  go_wp2_with fail
  refine wp_region_spread (by kernel_rfl) (by kernel_rfl) ?_
  try simp only [List.append]
  repeat (first | go_big_quiet_skip | (go_big_quiet_want; go_big_quiet_op; (first | go_big_quiet_on | (apply Exists.intro; refine ⟨fun _ => ?_, ?_⟩; (· (first | (go_at_call 62; first | ((with_reducible refine ((H1.out _ (Gr.trans (by have gg := gw1; have gs := gg.size; go_grown) (gr_spread _ _)))).mono ?_); rintro e w' ⟨rfl, hg⟩; exact ⟨rfl, spread_gr hg⟩)) | (go_at_call 87; first | ((with_reducible refine ((H3.out _)).mono ?_); rintro e w' ⟨rfl, hg⟩; exact ⟨rfl, spread_gr hg⟩)))); go_big_quiet_on))))
  refine wpQuiet_nil ?_
  intro w2 hhw2
  have hw2 := Hd.gr_of_spread hhw2
  have cw2_0_0 : w2.cell? ⟨W.heap.size, 0, none⟩ = some (.slice bd m bcap) := cell_gr hw2 (by go_simp)
  have zw2_0 : W.heap.size < w2.heap.size := World.block_lt_of_cell? _ _ cw2_0_0
  have cw2_1_0 : w2.cell? ⟨W.heap.size + 1, 0, none⟩ = some (.bool false) := cell_gr hw2 (by go_simp)
  have fw2_1_0 : w2.frozen? ⟨W.heap.size + 1, 0, none⟩ = false := frozen_gr (v := .bool false) hw2 (by go_simp) (by go_simp)
  have zw2_1 : W.heap.size + 1 < w2.heap.size := World.block_lt_of_cell? _ _ cw2_1_0
  have cw2_2_0 : w2.cell? ⟨w1.heap.size, 0, none⟩ = some (.int .i64 k1) := cell_gr hw2 (by go_simp)
  have cw2_2_1 : w2.cell? ⟨w1.heap.size, 1, none⟩ = some (.int .i64 k2) := cell_gr hw2 (by go_simp)
  have cw2_2_2 : w2.cell? ⟨w1.heap.size, 2, none⟩ = some (.int .i64 k3) := cell_gr hw2 (by go_simp)
  have cw2_2_3 : w2.cell? ⟨w1.heap.size, 3, none⟩ = some (.int .i64 k4) := cell_gr hw2 (by go_simp)
  have zw2_2 : w1.heap.size < w2.heap.size := World.block_lt_of_cell? _ _ cw2_2_0
  have gw2 : Gr W w2 := Gr.trans (by have gg := gw1; have gs := gg.size; go_grown) hw2
  clear hw2 hhw2 gw1 zw1_0 cw1_0_0 zw1_1 cw1_1_0 fw1_1_0
  go_wp2_with fail
  refine bodyPost_ret (v := .bool false) (by simp [results, Tryz.results53, go_sem, *]) rfl ⟨rfl, by go_grown⟩
def rgV (n : Nat) (X Y : Nat → Int) (m : Nat) (P Q : Nat → Int) : Bool :=
  arM n X Y (mnN P m) (mnN Q m) (mxN P m) (mxN Q m) && (rmW n X Y m P Q (mnN P m) (mnN Q m) (mxN P m) (mxN Q m) (List.range n) || ((nearB (P 0) (Q 0) && Rg.hasN n X Y (P 0) (Q 0)) || (nearB (X 0) (Y 0) && Rg.hasN m P Q (X 0) (Y 0))))
theorem c_ringsA {n m : Nat} {X Y P Q : Nat → Int} {v u : Value} (W : World) (h : Pts W v n X Y) (hu : Pts W u m P Q) (h0 : (Rg.ringC n X Y).1 = 0) (h9 : (Rg.ringC m P Q).1 = 0) : Calls Tryz.prog 53 #[v, u] W fun e w' => e = .returned (.bool (rgV n X Y m P Q)) ∧ Gr W w' := by
  unfold rgV
  cases hm : arM n X Y (mnN P m) (mnN Q m) (mxN P m) (mxN Q m)
  · exact c_rings_no W h hu (by have := (Rg.ringC_ok h0).1; omega) (by have := (Rg.ringC_ok h9).1; omega) hm
  · rw [Bool.true_and]; exact c_rings W h hu h0 h9 rfl rfl rfl rfl hm
section
variable {n : Nat} {X Y : Nat → Int} {v : Value}
set_option maxRecDepth 100000 in
theorem c_meetsBoxA (lx ly hx hy : Int) (W : World) (h : Pts W v n X Y) (h0 : (Rg.ringC n X Y).1 = 0) :
    Calls Tryz.prog 68 #[.agg #[.int .i64 4, v], .agg #[.int .i64 lx, .int .i64 ly, .int .i64 hx, .int .i64 hy]] W fun e w' => e = .returned (.bool (rmV n X Y lx ly hx hy)) ∧ Gr W w' := by
  have A1 := fun w (g : Gr W w) => c_rmbA lx ly hx hy w (pts_gr h g) h0
  generalize rmV n X Y lx ly hx hy = z at A1 ⊢
  obtain ⟨ad, cap, B, off, rfl, _⟩ := h
  have H1 := Lib.hid A1
  clear A1
  go_enter Tryz.func68, Tryz.ntmps68
  go_wp2_with fail
  go_at_call 104
  refine ((H1.out _ (by go_grown))).mono ?_
  rintro e w1 ⟨rfl, hw1⟩
  have gw1 : Gr W w1 := Gr.trans (by go_grown) hw1
  clear hw1
  go_wp2_with fail
  go_ret
  exact ⟨rfl, gw1⟩
set_option maxRecDepth 100000 in
theorem c_meetsRingA {m : Nat} {P Q : Nat → Int} {u : Value} (W : World) (h : Pts W v n X Y) (h0 : (Rg.ringC n X Y).1 = 0) (hu : Pts W u m P Q) (h9 : (Rg.ringC m P Q).1 = 0) :
    Calls Tryz.prog 69 #[.agg #[.int .i64 4, v], u] W fun e w' => e = .returned (.bool (rgV n X Y m P Q)) ∧ Gr W w' := by
  have A1 := fun w (g : Gr W w) => c_ringsA w (pts_gr h g) (pts_gr hu g) h0 h9
  generalize rgV n X Y m P Q = z at A1 ⊢
  obtain ⟨ad, cap, B, off, rfl, _⟩ := h
  obtain ⟨bd, bcap, C, oc, rfl, _⟩ := hu
  have H1 := Lib.hid A1
  clear A1
  go_enter Tryz.func69, Tryz.ntmps69
  go_wp2_with fail
  go_at_call 53
  refine ((H1.out _ (by go_grown))).mono ?_
  rintro e w1 ⟨rfl, hw1⟩
  have gw1 : Gr W w1 := Gr.trans (by go_grown) hw1
  clear hw1
  go_wp2_with fail
  go_ret
  exact ⟨rfl, gw1⟩
end
end Go.Proofs.YtfobmlgpjhghdaaGreatDoor
namespace Go.Proofs.YtfobmlgpjhghdaaGreatDoor
set_option linter.unusedVariables false
set_option linter.unusedSimpArgs false
open Go.ChangeShapes Go.WideShapes Go.ChangeAt Go.RowKit
section
variable {x y : Int}
theorem nx_lt {n k : Nat} (hk : k < n) : Rg.nx1 n k < n := by unfold Rg.nx1; split <;> omega
end
theorem near_box {n : Nat} {X Y : Nat → Int} (h : ∀ k, k < n → nearB (X k) (Y k) = true) (hn : 1 ≤ n) : boxB (mnN X n) (mnN Y n) (mxN X n) (mxN Y n) = true := by
  have key : ∀ m, 1 ≤ m → m ≤ n → ((-1073741823 ≤ mnN X m ∧ mnN X m ≤ mxN X m) ∧ mxN X m ≤ 1073741823) ∧ ((-1073741823 ≤ mnN Y m ∧ mnN Y m ≤ mxN Y m) ∧ mxN Y m ≤ 1073741823) := by
    intro m
    induction m with
    | zero => intro h; omega
    | succ m ih =>
      intro _ hm
      have b := Rg.nearB_iff'.1 (h m (by omega))
      by_cases h0 : m = 0
      · rw [mnN_0 _ h0, mnN_0 _ h0, mxN_0 _ h0, mxN_0 _ h0]; omega
      · have i := ih (by omega) (by omega)
        rw [mnN_s _ h0, mnN_s _ h0, mxN_s _ h0, mxN_s _ h0]
        unfold minZ maxZ
        refine ⟨⟨⟨?_, ?_⟩, ?_⟩, ⟨⟨?_, ?_⟩, ?_⟩⟩ <;> (repeat split) <;> omega
  have k := key n hn (Nat.le_refl _)
  exact boxB_iff.2 ⟨⟨Rg.nearB_iff'.2 (by omega), Rg.nearB_iff'.2 (by omega)⟩, by omega, by omega⟩
end Go.Proofs.YtfobmlgpjhghdaaGreatDoor
namespace Go.Proofs.YtfobmlgpjhghdaaGreatDoor
set_option linter.unusedVariables false
set_option linter.unusedSimpArgs false
open Go.ChangeShapes Go.WideShapes Go.ChangeAt Go.RowKit
def oLy (k : Int) (Y : Nat → Int) : Int := if k = 2 then 0 else Y 0
def oHx (k : Int) (X Y : Nat → Int) : Int := if k = 3 then X 1 else if k = 2 then Y 0 else X 0
def oHy (k : Int) (Y : Nat → Int) : Int := if k = 3 then Y 1 else if k = 2 then 0 else Y 0
theorem obj_box {k : Int} {n : Nat} {X Y : Nat → Int} (h : objC k n X Y = 0) (h4 : k ≠ 4) : (k = 1 ∧ n = 1 ∨ k = 2 ∧ n = 1 ∨ k = 3 ∧ n = 2) ∧ objC k n X Y = boxN (X 0) (oLy k Y) (oHx k X Y) (oHy k Y) ∧ boxN (X 0) (oLy k Y) (oHx k X Y) (oHy k Y) = 0 := by
  have e : objC k n X Y = 0 := h
  unfold objC at e
  rw [if_neg h4] at e
  by_cases k3 : k = 3
  · subst k3
    rw [if_pos rfl] at e
    by_cases hn : n = 2
    · subst hn
      rw [if_pos rfl] at e
      exact ⟨Or.inr (Or.inr ⟨rfl, rfl⟩), by rw [objC_3, if_pos rfl]; rfl, e⟩
    · rw [if_neg hn] at e; cases e
  rw [if_neg k3] at e
  by_cases k1 : k = 1
  · subst k1
    rw [if_pos rfl] at e
    by_cases hn : n = 1
    · subst hn
      rw [if_pos rfl] at e
      exact ⟨Or.inl ⟨rfl, rfl⟩, by rw [objC_1, if_pos rfl]; rfl, e⟩
    · rw [if_neg hn] at e; cases e
  rw [if_neg k1] at e
  by_cases k2 : k = 2
  · subst k2
    rw [if_pos rfl] at e
    by_cases hn : n = 1
    · subst hn
      rw [if_pos rfl] at e
      exact ⟨Or.inr (Or.inl ⟨rfl, rfl⟩), by rw [objC_2, if_pos rfl]; rfl, e⟩
    · rw [if_neg hn] at e; cases e
  rw [if_neg k2] at e
  cases e
theorem bl_of {W : World} {k : Int} {n : Nat} {X Y : Nat → Int} {v : Value} (hp : Pts W v n X Y) (h : objC k n X Y = 0) (h4 : k ≠ 4) : BL W k v (X 0) (oLy k Y) (oHx k X Y) (oHy k Y) := by
  obtain ⟨hk, he, -⟩ := obj_box h h4
  have hp0 := hp
  obtain ⟨ad, cap, B, off, rfl, q1, q2, q3, q4⟩ := hp
  rcases hk with ⟨rfl, rfl⟩ | ⟨rfl, rfl⟩ | ⟨rfl, rfl⟩
  · obtain rfl := q3 (by omega)
    obtain ⟨c0, c1⟩ := q4 0 (by omega)
    rw [Nat.zero_mul, Nat.add_zero] at c0 c1
    exact ⟨⟨Or.inl rfl, ⟨_, _, _, rfl⟩, fun w' g => c_frame_1 (X 0) (Y 0) B off cap w' (cell_gr g c0) (cell_gr g c1) (World.block_lt_of_cell? _ _ (cell_gr g c0))⟩, 1, X, Y, hp0, he⟩
  · obtain rfl := q3 (by omega)
    obtain ⟨c0, c1⟩ := q4 0 (by omega)
    rw [Nat.zero_mul, Nat.add_zero] at c0 c1
    exact ⟨⟨Or.inr (Or.inl rfl), ⟨_, _, _, rfl⟩, fun w' g => c_frame_2 (X 0) (Y 0) B off cap w' (cell_gr g c0) (cell_gr g c1) (World.block_lt_of_cell? _ _ (cell_gr g c0))⟩, 1, X, Y, hp0, he⟩
  · obtain rfl := q3 (by omega)
    obtain ⟨c0, c1⟩ := q4 0 (by omega)
    obtain ⟨c2, c3⟩ := q4 1 (by omega)
    rw [Nat.zero_mul, Nat.add_zero] at c0 c1
    rw [Nat.one_mul] at c2 c3
    exact ⟨⟨Or.inr (Or.inr rfl), ⟨_, _, _, rfl⟩, fun w' g => c_frame_3 (X 0) (Y 0) (X 1) (Y 1) B off cap w' (cell_gr g c0) (cell_gr g c1) (cell_gr g c2) (cell_gr g c3) (World.block_lt_of_cell? _ _ (cell_gr g c0))⟩, 2, X, Y, hp0, he⟩
end Go.Proofs.YtfobmlgpjhghdaaGreatDoor
namespace Go.Proofs.YtfobmlgpjhghdaaGreatDoor
set_option linter.unusedVariables false
open Go.ChangeShapes Go.WideShapes Go.ChangeAt Go.RowKit
theorem gr_of_grown {w a b : World} {r : Option Nat} (h : Gr w a) (g : a.grownBy b r) (hr : ∀ k, r = some k → w.heap.size ≤ k) : Gr w b :=
  ⟨g.os.trans h.os, g.tape.trans h.tape, g.output.trans h.output, Nat.le_trans h.size g.size, fun k hk => (g.block k (Nat.lt_of_lt_of_le hk h.size) (fun e => by have := hr k e.symm; omega)).trans (h.block k hk)⟩
def Grown (w w' : World) (v v' : Value) : Prop := w.grownBy w' v.ownBlock ∧ ∀ k, v'.ownBlock = some k → v.ownBlock = some k ∨ w.heap.size ≤ k
theorem Grown.gr {a b w0 : World} {u v : Value} (h : Grown a b u v) (g : Gr w0 a) (hr : ∀ k, u.ownBlock = some k → w0.heap.size ≤ k) : Gr w0 b := gr_of_grown g h.1 hr
theorem row_form {w : World} {base n size : Nat} {e : TypeId} {v : Value} {xs : List Value} (h : w.ownsRow base e size v n xs) (h0 : 0 < n) : ∃ g cap, v = .slice (some ⟨g, 0, none⟩) n cap ∧ base ≤ g ∧ g < w.heap.size ∧ n ≤ cap ∧ (cap : Int) ≤ 9223372036854775807 := by
  rcases h.2 with ⟨-, h0'⟩ | ⟨g, cap, cur, rfl, hb, hg, hn, hc, hs, ht⟩
  · omega
  · exact ⟨g, cap, rfl, hb, (Array.getElem?_eq_some_iff.1 hg).1, hn, by unfold maxLen at hc; omega⟩
theorem Grown.cell {a b : World} {u v : Value} (h : Grown a b u v) {p : Addr} {x : Value} (hc : a.cell? p = some x) (hn : ∀ k, u.ownBlock = some k → k ≠ p.block) : b.cell? p = some x :=
  h.1.cell hc (fun e => by cases hu : u.ownBlock with
    | none => rw [hu] at e; cases e
    | some k => rw [hu] at e; exact hn k hu (Option.some.inj e).symm)
section
variable {P : Program} (w : World)
theorem append_place (base : Nat) (t ty e : TypeId) (i : TypeInfo) (z : Value) (size bytes : Nat) (ht : P.underlying t = some (.slice e)) (hi : P.info? e = some i) (hz : i.zero = some z)
    (hsize : i.size = size) (hby : i.bytes = bytes) (v : Value) (n : Nat) (xs : List Value) (hown : w.ownsRow base e size v n xs)
    (a : Addr) (m c : Nat) (news : List Value) (hl : news.length = m * size) (hnews : ∀ j u, news[j]? = some u → w.cell? (a.add j) = some u) (h1 : ∀ u ∈ news, u.oneCell' = true)
    (h63 : n + m ≤ maxLen) (hbytes : (n + m) * bytes ≤ 140737488355328) {v' : Value} {w' : World} (hr : (Builtin.append_ #[t, t] ty #[v, .slice (some a) m c]).run P w = .ok v' w') :
    ∀ k, v'.ownBlock = some k → v.ownBlock = some k ∨ w.heap.size ≤ k := by
  subst hsize hby
  have hsmall : n + m ≤ 9223372036854775807 := by simp only [maxLen] at h63; omega
  rcases hown.2 with ⟨rfl, rfl⟩ | ⟨g, cap, cur, rfl, hbg, hg, hnc, hcm, hcs, htake⟩
  · by_cases hm : m = 0
    · subst hm
      have hn : news = [] := List.eq_nil_of_length_eq_zero (by simpa using hl)
      subst hn
      have e0 : (Builtin.append_ #[t, t] ty #[.slice none 0 0, .slice (some a) 0 c]).run P w = .ok (.slice none 0 0) w := by
        simp [Builtin.append_, run_underlying ht, sizeOf, typeInfo, hi, Builtin.lenOf, Builtin.firstCells, loadCells, loadCellsFrom]
      rw [e0] at hr
      cases hr
      intro k hk
      cases hk
    · rw [run_append_nil (P := P) w t ty e i z ht hi hz a m c news hl hnews (by omega) (by omega) (by have hb := hbytes; simp only [Nat.zero_add] at hb; omega)] at hr
      cases hr
      intro k hk
      simp [Value.ownBlock] at hk
      omega
  · by_cases hroom : n + m ≤ cap
    · have hfit : n * i.size + news.length ≤ cur.size := by rw [hl, hcs, ← Nat.add_mul]; exact Nat.mul_le_mul_right _ hroom
      rw [run_append_room (P := P) w t ty e i ht hi g n cap cur hg a m c news hl hnews h1 hroom hfit] at hr
      cases hr
      intro k hk
      exact Or.inl hk
    · rw [run_append_grow (P := P) w t ty e i z ht hi hz ⟨g, 0, none⟩ n cap xs hown.1 (hown.cells (g := g) rfl) a m c news hl hnews (by omega) (by omega) (growslice_fits (by omega) hbytes)] at hr
      cases hr
      intro k hk
      simp [Value.ownBlock] at hk
      omega
theorem wpList_append_own2 {ops : Array Oper} {rest : List Oper} {o : Oper} {a : Act} {Q : Exit → Act → World → Prop} (hgd : o.guard = none) (s x : Operand) (t : TypeId)
    (ho : o.op = .call { callee := .builtin .append, args := #[s, x], argTypes := #[t, t] })
    (base : Nat) (e : TypeId) (i : TypeInfo) (z : Value) (size bytes : Nat) (ht : P.underlying t = some (.slice e)) (hi : P.info? e = some i) (hz : i.zero = some z)
    (hsize : i.size = size) (hby : i.bytes = bytes) (hzs : z.cells.size = size) (hsz : 0 < size)
    (v : Value) (n : Nat) (xs : List Value) (hs : a.eval s = v) (hown : w.ownsRow base e size v n xs)
    (ad : Addr) (m c : Nat) (news : List Value) (hx : a.eval x = .slice (some ad) m c) (hl : news.length = m * size) (hnews : ∀ j u, news[j]? = some u → w.cell? (ad.add j) = some u) (h1 : ∀ u ∈ news, u.oneCell' = true)
    (h63 : n + m ≤ maxLen) (hbytes : (n + m) * bytes ≤ 140737488355328) (hbase : base ≤ w.heap.size)
    (h : ∀ v' w', w'.ownsRow base e size v' (n + m) (xs ++ news) → Grown w w' v v' → wpList P ops Q rest (a.put o.dst v') w') : wpList P ops Q (o :: rest) a w := by
  refine wpList_plain hgd fun K hK => ?_
  obtain ⟨v', w', hr, h2, h3, h4⟩ := run_append_own (P := P) w base t o.type e i z size bytes ht hi hz hsize hby hzs hsz v n xs hown ad m c news hl hnews h1 h63 hbytes hbase
  have h5 := append_place (P := P) w base t o.type e i z size bytes ht hi hz hsize hby v n xs hown ad m c news hl hnews h1 h63 hbytes hr
  unfold Oper.wp execOp
  simp only [ho, resolve, invoke, builtin, Sem.run_bind, Sem.run_pure, Result.andThen_ok, List.map_toArray, List.map_cons, List.map_nil, hs, hx, hr]
  exact hK _ _ (h v' w' h2 ⟨h3, h5⟩)
end
theorem rowOwn_gr {a b : World} {base e size n : Nat} {v : Value} {xs : List Value} (h : a.ownsRow base e size v n xs) (g : Gr a b) : b.ownsRow base e size v n xs :=
  h.kept (row := none) ⟨g.os, g.tape, g.output, g.size, fun k hk _ => g.block k hk⟩ (by
    rcases hh : v.ownBlock with _ | k
    · exact Or.inl rfl
    · exact Or.inr (by simp))
end Go.Proofs.YtfobmlgpjhghdaaGreatDoor
namespace Go.Proofs.YtfobmlgpjhghdaaGreatDoor
set_option linter.unusedVariables false
open Go.ChangeShapes Go.WideShapes Go.ChangeAt Go.RowKit
end Go.Proofs.YtfobmlgpjhghdaaGreatDoor
namespace Go.Proofs.YtfobmlgpjhghdaaGreatDoor
set_option linter.unusedVariables false
set_option linter.unusedSimpArgs false
open Go.ChangeShapes Go.WideShapes Go.ChangeAt Go.RowKit
set_option maxHeartbeats 4000000 in
set_option maxRecDepth 100000 in
theorem c_rPoints {n m : Nat} {X Y P Q : Nat → Int} {u v : Value} (r : Bool) (W : World) (hu : Pts W u n X Y) (hv : Pts W v m P Q) (hn : n ≤ 1000000) (hr : r = true ↔ (n = m ∧ ∀ i, i < n → X i = P i ∧ Y i = Q i)) :
    Calls Tryz.prog 51 #[u, v] W fun e w' => e = .returned (.bool r) ∧ Gr W w' := by
  obtain ⟨ad, cap, B, off, rfl, a1, a2, a3, a4⟩ := hu
  obtain ⟨bd, cbp, C, oc, rfl, b1, b2, b3, b4⟩ := hv
  by_cases h : n = m
  · subst h
    have H3 := Lib.hid (And.intro a3 b3)
    have H4 := Lib.hid (And.intro a4 b4)
    have HR := Lib.hid hr
    have hn9 : (n : Int) ≤ 1000000 := by omega
    clear a3 a4 b3 b4 hr
    go_enter Tryz.func51, Tryz.ntmps51
    go_wp2_with fail
    go_loopg [5] n (fun k u wr => ∃ i : Nat, u = .int .i64 i ∧ i ≤ n ∧ k = n - i ∧ Hid (∀ j, j < i → X j = P j ∧ Y j = Q j) ∧ Gr W wr)
    case atStart => exact ⟨0, rfl, Nat.zero_le _, by omega, Lib.hid (fun j hj => absurd hj (by omega)), by go_grown⟩
    case round =>
      obtain ⟨i, rfl, hi, hk, hE, gwr⟩ := hrel
      by_cases hlt : i < n
      · have ti : decide ((i : Int) < (n : Int)) = true := decide_eq_true (by omega)
        have ti2 : decide (i < n) = true := decide_eq_true hlt
        have ti3 : (i : Int) < (n : Int) := by omega
        have hii : (i : Int) ≤ 1000000 := by omega
        have hmm : n - (i + 1) < gk := by omega
        obtain ⟨k0, k1⟩ := H4.out.1 i hlt
        obtain ⟨m0, m1⟩ := H4.out.2 i hlt
        obtain rfl := H3.out.1 (by omega)
        obtain rfl := H3.out.2 (by omega)
        have s0 := cell_gr gwr k0
        have s1 := cell_gr gwr k1
        have r0 := cell_gr gwr m0
        have r1 := cell_gr gwr m1
        have zB : B < wr.heap.size := World.block_lt_of_cell? _ _ s0
        have zC : C < wr.heap.size := World.block_lt_of_cell? _ _ r0
        have E := nePt (X i) (Y i) (P i) (Q i)
        by_cases c : X i = P i ∧ Y i = Q i
        · have hE2 : Hid (∀ j, j < i + 1 → X j = P j ∧ Y j = Q j) := Lib.hid (fun j hj => by
            rcases Nat.lt_or_ge j i with q | q
            · exact hE.out j q
            · obtain rfl : j = i := by omega
              exact c)
          rw [decide_eq_true c.1, decide_eq_true c.2] at E
          generalize X i = x at *
          generalize Y i = y at *
          generalize P i = p at *
          generalize Q i = q at *
          have HE := Lib.hid c
          clear k0 k1 m0 m1 hk c hE
          go_wp2_with fail
          refine wp_region_spread (by kernel_rfl) (by kernel_rfl) ?_
          try simp only [List.append]
          repeat (first | go_big_quiet_skip | (go_big_quiet_want; go_big_quiet_op; (first | go_big_quiet_on | (apply Exists.intro; refine ⟨fun _ => ?_, ?_⟩; (· fail); go_big_quiet_on))))
          refine wpQuiet_nil ?_
          intro w1 hhw1
          have hw1 := Hd.gr_of_spread hhw1
          have cw1_0_0 : w1.cell? ⟨B, off + i * 2, none⟩ = some (.int .i64 x) := cell_gr hw1 (by go_simp)
          have cw1_0_1 : w1.cell? ⟨B, off + i * 2 + 1, none⟩ = some (.int .i64 y) := cell_gr hw1 (by go_simp)
          have zw1_0 : B < w1.heap.size := World.block_lt_of_cell? _ _ cw1_0_0
          have cw1_1_0 : w1.cell? ⟨C, oc + i * 2, none⟩ = some (.int .i64 p) := cell_gr hw1 (by go_simp)
          have cw1_1_1 : w1.cell? ⟨C, oc + i * 2 + 1, none⟩ = some (.int .i64 q) := cell_gr hw1 (by go_simp)
          have zw1_1 : C < w1.heap.size := World.block_lt_of_cell? _ _ cw1_1_0
          have gw1 : Gr W w1 := Gr.trans (by have gg := gwr; have gs := gg.size; go_grown) hw1
          clear hw1 hhw1 gwr
          go_wp2_with fail
          go_roundg (n - (i + 1))
          case measure => exact hmm
          case rel => exact ⟨i + 1, by go_num, hlt, rfl, hE2, gw1⟩
        · obtain rfl : r = false := by
            cases r
            · rfl
            · exact absurd ((HR.out.1 rfl).2 i hlt) c
          have E2 : (!(decide (X i = P i) && decide (Y i = Q i))) = true := by
            rw [← Bool.decide_and, decide_eq_false c]; rfl
          rw [E2] at E
          generalize X i = x at *
          generalize Y i = y at *
          generalize P i = p at *
          generalize Q i = q at *
          clear k0 k1 m0 m1 hk c E2 hE
          go_wp2_with fail
          refine wp_region_spread (by kernel_rfl) (by kernel_rfl) ?_
          try simp only [List.append]
          repeat (first | go_big_quiet_skip | (go_big_quiet_want; go_big_quiet_op; (first | go_big_quiet_on | (apply Exists.intro; refine ⟨fun _ => ?_, ?_⟩; (· fail); go_big_quiet_on))))
          refine wpQuiet_nil ?_
          intro w1 hhw1
          have hw1 := Hd.gr_of_spread hhw1
          have cw1_0_0 : w1.cell? ⟨B, off + i * 2, none⟩ = some (.int .i64 x) := cell_gr hw1 (by go_simp)
          have cw1_0_1 : w1.cell? ⟨B, off + i * 2 + 1, none⟩ = some (.int .i64 y) := cell_gr hw1 (by go_simp)
          have zw1_0 : B < w1.heap.size := World.block_lt_of_cell? _ _ cw1_0_0
          have cw1_1_0 : w1.cell? ⟨C, oc + i * 2, none⟩ = some (.int .i64 p) := cell_gr hw1 (by go_simp)
          have cw1_1_1 : w1.cell? ⟨C, oc + i * 2 + 1, none⟩ = some (.int .i64 q) := cell_gr hw1 (by go_simp)
          have zw1_1 : C < w1.heap.size := World.block_lt_of_cell? _ _ cw1_1_0
          have gw1 : Gr W w1 := Gr.trans (by have gg := gwr; have gs := gg.size; go_grown) hw1
          clear hw1 hhw1 gwr
          go_wp2_with fail
          go_ret
          exact ⟨rfl, gw1⟩
      · obtain rfl : i = n := by omega
        obtain rfl : r = true := HR.out.2 ⟨trivial, hE.out⟩
        have ti : decide ((i : Int) < (i : Int)) = false := decide_eq_false (by omega)
        have ti2 : decide (i < i) = false := decide_eq_false (by omega)
        clear hk hE
        go_wp2_with fail
        go_ret
        exact ⟨rfl, gwr⟩
  · obtain rfl : r = false := by
      cases r
      · rfl
      · exact absurd (hr.1 rfl).1 h
    have t1 : ((n : Int) != (m : Int)) = true := by simp; omega
    have t2 : (n != m) = true := by simp; omega
    clear a3 a4 b3 b4 hr h
    go_enter Tryz.func51, Tryz.ntmps51
    go_wp2_with fail
    go_ret
    exact ⟨rfl, by go_grown⟩
set_option maxHeartbeats 4000000 in
set_option maxRecDepth 100000 in
theorem c_rSame {n m : Nat} {X Y P Q : Nat → Int} {u v : Value} (k j : Int) (r : Bool) (W : World) (hu : Pts W u n X Y) (hv : Pts W v m P Q) (hn : n ≤ 1000000) (hr : r = true ↔ (k = j ∧ n = m ∧ ∀ i, i < n → X i = P i ∧ Y i = Q i)) :
    Calls Tryz.prog 20 #[.agg #[.int .i64 k, u], .agg #[.int .i64 j, v]] W fun e w' => e = .returned (.bool r) ∧ Gr W w' := by
  by_cases h : k = j
  · subst h
    have A1 : ∀ w, Gr W w → _ := fun w g => c_rPoints r w (pts_gr hu g) (pts_gr hv g) hn (by rw [hr]; simp)
    have t1 : (k == k) = true := by simp
    obtain ⟨ad, cap, _, _, rfl, _⟩ := hu
    obtain ⟨bd, cbp, _, _, rfl, _⟩ := hv
    have H1 := Lib.hid A1
    clear A1
    clear hr
    go_enter Tryz.func20, Tryz.ntmps20
    go_wp2_with fail
    go_at_call 51
    refine ((H1.out _ (by go_grown))).mono ?_
    rintro e w1 ⟨rfl, hw1⟩
    have cw1_0_0 : w1.cell? ⟨W.heap.size, 0, none⟩ = some (.int .i64 k) := cell_gr hw1 (by go_simp)
    have cw1_0_1 : w1.cell? ⟨W.heap.size, 1, none⟩ = some (.slice ad n cap) := cell_gr hw1 (by go_simp)
    have zw1_0 : W.heap.size < w1.heap.size := World.block_lt_of_cell? _ _ cw1_0_0
    have cw1_1_0 : w1.cell? ⟨W.heap.size + 1, 0, none⟩ = some (.int .i64 k) := cell_gr hw1 (by go_simp)
    have cw1_1_1 : w1.cell? ⟨W.heap.size + 1, 1, none⟩ = some (.slice bd m cbp) := cell_gr hw1 (by go_simp)
    have zw1_1 : W.heap.size + 1 < w1.heap.size := World.block_lt_of_cell? _ _ cw1_1_0
    have gw1 : Gr W w1 := Gr.trans (by go_grown) hw1
    clear hw1
    go_wp2_with fail
    go_ret
    exact ⟨rfl, gw1⟩
  · obtain rfl : r = false := by
      cases r
      · rfl
      · exact absurd (hr.1 rfl).1 h
    have t1 : (k == j) = false := by simp [h]
    obtain ⟨ad, cap, _, _, rfl, _⟩ := hu
    obtain ⟨bd, cbp, _, _, rfl, _⟩ := hv
    clear hr h
    go_enter Tryz.func20, Tryz.ntmps20
    go_wp2_with fail
    go_ret
    exact ⟨rfl, by go_grown⟩
end Go.Proofs.YtfobmlgpjhghdaaGreatDoor
namespace Go.Proofs.YtfobmlgpjhghdaaGreatDoor
set_option linter.unusedVariables false
set_option linter.unusedSimpArgs false
open Go.ChangeShapes Go.WideShapes Go.ChangeAt Go.RowKit
section
variable {k : Int} {n : Nat} {X Y : Nat → Int} {v : Value}
def bLx (k : Int) (n : Nat) (X : Nat → Int) : Int := if k = 4 then mnN X n else X 0
def bLy (k : Int) (n : Nat) (Y : Nat → Int) : Int := if k = 4 then mnN Y n else oLy k Y
def bHx (k : Int) (n : Nat) (X Y : Nat → Int) : Int := if k = 4 then mxN X n else oHx k X Y
def bHy (k : Int) (n : Nat) (Y : Nat → Int) : Int := if k = 4 then mxN Y n else oHy k Y
end
end Go.Proofs.YtfobmlgpjhghdaaGreatDoor
