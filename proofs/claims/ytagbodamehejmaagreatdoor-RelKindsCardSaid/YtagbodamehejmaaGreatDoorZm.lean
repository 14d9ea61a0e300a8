/- segm.MeetsBox -/
import Derived.Test.YtagbodamehejmaaGreatDoorZl
import Derived.BigRegion
namespace Go.Proofs.YtagbodamehejmaaGreatDoor
set_option linter.unusedVariables false
open Go.ChangeShapes Go.WideShapes Go.ChangeAt Go.RowKit

/-- What stands behind the test by boxes. -/
def MbCut (W : World) (ax ay bx by' lx ly hx hy : Int) (nm : Bool) (v : Value) (wx : World) : Prop := v = .bool nm ∧ wx.cell? ⟨W.heap.size, 0, none⟩ = some (.int .i64 ax) ∧ wx.cell? ⟨W.heap.size, 1, none⟩ = some (.int .i64 ay) ∧ wx.cell? ⟨W.heap.size + 1, 0, none⟩ = some (.int .i64 bx) ∧ wx.cell? ⟨W.heap.size + 1, 1, none⟩ = some (.int .i64 by') ∧ wx.cell? ⟨W.heap.size + 1 + 1, 0, none⟩ = some (.int .i64 lx) ∧ wx.cell? ⟨W.heap.size + 1 + 1, 1, none⟩ = some (.int .i64 ly) ∧ wx.cell? ⟨W.heap.size + 1 + 1, 2, none⟩ = some (.int .i64 hx) ∧ wx.cell? ⟨W.heap.size + 1 + 1, 3, none⟩ = some (.int .i64 hy) ∧ Gr W wx
/-- What stands behind the making of both corners. -/
def MbTwo (W : World) (ax ay bx by' lx ly hx hy : Int) (p q : Value) (wx : World) : Prop := ∃ b7 b8 : Nat, p = .pointer (some ⟨b7, 0, none⟩) ∧ q = .pointer (some ⟨b8, 0, none⟩) ∧ wx.cell? ⟨b7, 0, none⟩ = some (.int .i64 lx) ∧ wx.cell? ⟨b7, 1, none⟩ = some (.int .i64 hy) ∧ wx.cell? ⟨b8, 0, none⟩ = some (.int .i64 hx) ∧ wx.cell? ⟨b8, 1, none⟩ = some (.int .i64 ly) ∧ wx.cell? ⟨W.heap.size, 0, none⟩ = some (.int .i64 ax) ∧ wx.cell? ⟨W.heap.size, 1, none⟩ = some (.int .i64 ay) ∧ wx.cell? ⟨W.heap.size + 1, 0, none⟩ = some (.int .i64 bx) ∧ wx.cell? ⟨W.heap.size + 1, 1, none⟩ = some (.int .i64 by') ∧ wx.cell? ⟨W.heap.size + 1 + 1, 0, none⟩ = some (.int .i64 lx) ∧ wx.cell? ⟨W.heap.size + 1 + 1, 1, none⟩ = some (.int .i64 ly) ∧ wx.cell? ⟨W.heap.size + 1 + 1, 2, none⟩ = some (.int .i64 hx) ∧ wx.cell? ⟨W.heap.size + 1 + 1, 3, none⟩ = some (.int .i64 hy) ∧ Gr W wx
set_option maxHeartbeats 8000000 in
set_option maxRecDepth 100000 in
theorem gmb_in (ax ay bx by' lx ly hx hy ox oy ux uy : Int) (m nm ha hb k1 k2 r : Bool) (W : World)
    (hc : (nm = true ∧ m = false ∧ r = false) ∨ (nm = false ∧ m = true ∧ ha = true ∧ r = true) ∨ (nm = false ∧ m = true ∧ ha = false ∧ hb = true ∧ r = true) ∨ (nm = false ∧ m = true ∧ ha = false ∧ hb = false ∧ k1 = true ∧ r = true) ∨ (nm = false ∧ m = true ∧ ha = false ∧ hb = false ∧ k1 = false ∧ r = k2)) (hm : (!m) = nm)
    (A1 : ∀ b w, b < w.heap.size → w.cell? ⟨b, 0, none⟩ = some (.int .i64 ax) → w.cell? ⟨b, 1, none⟩ = some (.int .i64 ay) → w.cell? ⟨b, 2, none⟩ = some (.int .i64 bx) → w.cell? ⟨b, 3, none⟩ = some (.int .i64 by') →
      Calls Tryz.prog 57 #[.slice (some ⟨b, 0, none⟩) 2 2] w fun e w' => e = .returned (.bool true) ∧ Gr w w')
    (A2 : ∀ w, Calls Tryz.prog 37 #[.agg #[.int .i64 lx, .int .i64 ly, .int .i64 hx, .int .i64 hy]] w fun e w' => e = .returned (.nilIface) ∧ Gr w w')
    (A3 : ∀ b w, b < w.heap.size → w.cell? ⟨b, 0, none⟩ = some (.int .i64 ax) → w.cell? ⟨b, 1, none⟩ = some (.int .i64 ay) → w.cell? ⟨b, 2, none⟩ = some (.int .i64 bx) → w.cell? ⟨b, 3, none⟩ = some (.int .i64 by') →
      Calls Tryz.prog 45 #[.slice (some ⟨b, 0, none⟩) 2 2] w fun e w' => e = .returned (.agg #[.int .i64 ox, .int .i64 oy, .int .i64 ux, .int .i64 uy]) ∧ Gr w w')
    (A4 : ∀ w, Calls Tryz.prog 47 #[.agg #[.int .i64 ox, .int .i64 oy, .int .i64 ux, .int .i64 uy], .agg #[.int .i64 lx, .int .i64 ly, .int .i64 hx, .int .i64 hy]] w fun e w' => e = .returned (.bool m) ∧ Gr w w')
    (A5 : ∀ w, Calls Tryz.prog 88 #[.agg #[.int .i64 lx, .int .i64 ly, .int .i64 hx, .int .i64 hy], .agg #[.int .i64 ax, .int .i64 ay]] w fun e w' => e = .returned (.bool ha) ∧ Gr w w')
    (A6 : ∀ w, Calls Tryz.prog 88 #[.agg #[.int .i64 lx, .int .i64 ly, .int .i64 hx, .int .i64 hy], .agg #[.int .i64 bx, .int .i64 by']] w fun e w' => e = .returned (.bool hb) ∧ Gr w w')
    (A7 : ∀ w, Calls Tryz.prog 87 #[.agg #[.int .i64 ax, .int .i64 ay], .agg #[.int .i64 bx, .int .i64 by'], .agg #[.int .i64 lx, .int .i64 ly], .agg #[.int .i64 hx, .int .i64 hy]] w fun e w' => e = .returned (.bool k1) ∧ Gr w w')
    (A8 : ∀ w, Calls Tryz.prog 87 #[.agg #[.int .i64 ax, .int .i64 ay], .agg #[.int .i64 bx, .int .i64 by'], .agg #[.int .i64 lx, .int .i64 hy], .agg #[.int .i64 hx, .int .i64 ly]] w fun e w' => e = .returned (.bool k2) ∧ Gr w w') :
    Calls Tryz.prog 72 #[.agg #[.int .i64 ax, .int .i64 ay], .agg #[.int .i64 bx, .int .i64 by'], .agg #[.int .i64 lx, .int .i64 ly, .int .i64 hx, .int .i64 hy]] W fun e w' => e = .returned (.bool r) ∧ Gr W w' := by
  have H1 := Lib.hid A1
  have H2 := Lib.hid A2
  have H3 := Lib.hid A3
  have H4 := Lib.hid A4
  have H5 := Lib.hid A5
  have H6 := Lib.hid A6
  have H7 := Lib.hid A7
  have H8 := Lib.hid A8
  clear A1 A2 A3 A4 A5 A6 A7 A8
  have HC := Lib.hid hc
  have HM := Lib.hid hm
  clear hc hm
  go_enter Tryz.func72, Tryz.ntmps72
  go_wp2_with fail
  go_at_call 57
  refine ((H1.out _ _ (by go_simp) (by go_simp) (by go_simp) (by go_simp) (by go_simp))).mono ?_
  rintro e w1 ⟨rfl, hw1⟩
  have cw1_0_0 : w1.cell? ⟨W.heap.size, 0, none⟩ = some (.int .i64 ax) := cell_gr hw1 (by go_simp)
  have cw1_0_1 : w1.cell? ⟨W.heap.size, 1, none⟩ = some (.int .i64 ay) := cell_gr hw1 (by go_simp)
  have zw1_0 : W.heap.size < w1.heap.size := World.block_lt_of_cell? _ _ cw1_0_0
  have cw1_1_0 : w1.cell? ⟨W.heap.size + 1, 0, none⟩ = some (.int .i64 bx) := cell_gr hw1 (by go_simp)
  have cw1_1_1 : w1.cell? ⟨W.heap.size + 1, 1, none⟩ = some (.int .i64 by') := cell_gr hw1 (by go_simp)
  have zw1_1 : W.heap.size + 1 < w1.heap.size := World.block_lt_of_cell? _ _ cw1_1_0
  have cw1_2_0 : w1.cell? ⟨W.heap.size + 1 + 1, 0, none⟩ = some (.int .i64 lx) := cell_gr hw1 (by go_simp)
  have cw1_2_1 : w1.cell? ⟨W.heap.size + 1 + 1, 1, none⟩ = some (.int .i64 ly) := cell_gr hw1 (by go_simp)
  have cw1_2_2 : w1.cell? ⟨W.heap.size + 1 + 1, 2, none⟩ = some (.int .i64 hx) := cell_gr hw1 (by go_simp)
  have cw1_2_3 : w1.cell? ⟨W.heap.size + 1 + 1, 3, none⟩ = some (.int .i64 hy) := cell_gr hw1 (by go_simp)
  have zw1_2 : W.heap.size + 1 + 1 < w1.heap.size := World.block_lt_of_cell? _ _ cw1_2_0
  have gw1 : Gr W w1 := Gr.trans (by go_grown) hw1
  clear hw1
  go_wp2_with fail
  go_at_call 37
  refine ((H2.out _)).mono ?_
  rintro e w2 ⟨rfl, hw2⟩
  have cw2_0_0 : w2.cell? ⟨W.heap.size, 0, none⟩ = some (.int .i64 ax) := cell_gr hw2 (by go_simp)
  have cw2_0_1 : w2.cell? ⟨W.heap.size, 1, none⟩ = some (.int .i64 ay) := cell_gr hw2 (by go_simp)
  have zw2_0 : W.heap.size < w2.heap.size := World.block_lt_of_cell? _ _ cw2_0_0
  have cw2_1_0 : w2.cell? ⟨W.heap.size + 1, 0, none⟩ = some (.int .i64 bx) := cell_gr hw2 (by go_simp)
  have cw2_1_1 : w2.cell? ⟨W.heap.size + 1, 1, none⟩ = some (.int .i64 by') := cell_gr hw2 (by go_simp)
  have zw2_1 : W.heap.size + 1 < w2.heap.size := World.block_lt_of_cell? _ _ cw2_1_0
  have cw2_2_0 : w2.cell? ⟨W.heap.size + 1 + 1, 0, none⟩ = some (.int .i64 lx) := cell_gr hw2 (by go_simp)
  have cw2_2_1 : w2.cell? ⟨W.heap.size + 1 + 1, 1, none⟩ = some (.int .i64 ly) := cell_gr hw2 (by go_simp)
  have cw2_2_2 : w2.cell? ⟨W.heap.size + 1 + 1, 2, none⟩ = some (.int .i64 hx) := cell_gr hw2 (by go_simp)
  have cw2_2_3 : w2.cell? ⟨W.heap.size + 1 + 1, 3, none⟩ = some (.int .i64 hy) := cell_gr hw2 (by go_simp)
  have zw2_2 : W.heap.size + 1 + 1 < w2.heap.size := World.block_lt_of_cell? _ _ cw2_2_0
  have gw2 : Gr W w2 := Gr.trans (by have gg := gw1; have gs := gg.size; go_grown) hw2
  clear hw2 gw1 zw1_0 cw1_0_0 cw1_0_1 zw1_1 cw1_1_0 cw1_1_1 zw1_2 cw1_2_0 cw1_2_1 cw1_2_2 cw1_2_3
  go_upto_region 3 with fail
  go_cut [25] from 19 to 25 (fun v wx => MbCut W ax ay bx by' lx ly hx hy nm v wx)
  case first =>
    go_region_with (first | (go_at_call 45; refine (H3.out _ _ (by go_simp) (by go_simp) (by go_simp) (by go_simp) (by go_simp)).mono ?_; rintro e w3 ⟨rfl, h3⟩; have w3c0 : w3.cell? ⟨W.heap.size, 0, none⟩ = some (.int .i64 ax) := cell_gr h3 (by go_simp); have w3c1 : w3.cell? ⟨W.heap.size, 1, none⟩ = some (.int .i64 ay) := cell_gr h3 (by go_simp); have w3c2 : w3.cell? ⟨W.heap.size + 1, 0, none⟩ = some (.int .i64 bx) := cell_gr h3 (by go_simp); have w3c3 : w3.cell? ⟨W.heap.size + 1, 1, none⟩ = some (.int .i64 by') := cell_gr h3 (by go_simp); have w3c4 : w3.cell? ⟨W.heap.size + 1 + 1, 0, none⟩ = some (.int .i64 lx) := cell_gr h3 (by go_simp); have w3c5 : w3.cell? ⟨W.heap.size + 1 + 1, 1, none⟩ = some (.int .i64 ly) := cell_gr h3 (by go_simp); have w3c6 : w3.cell? ⟨W.heap.size + 1 + 1, 2, none⟩ = some (.int .i64 hx) := cell_gr h3 (by go_simp); have w3c7 : w3.cell? ⟨W.heap.size + 1 + 1, 3, none⟩ = some (.int .i64 hy) := cell_gr h3 (by go_simp); have g3 : Gr W w3 := Gr.trans (by have gg := gw2; have gs := gg.size; go_grown) h3; clear h3) | (go_at_call 47; refine (H4.out _).mono ?_; rintro e w4 ⟨rfl, h4⟩; have w4c0 : w4.cell? ⟨W.heap.size, 0, none⟩ = some (.int .i64 ax) := cell_gr h4 (by go_simp); have w4c1 : w4.cell? ⟨W.heap.size, 1, none⟩ = some (.int .i64 ay) := cell_gr h4 (by go_simp); have w4c2 : w4.cell? ⟨W.heap.size + 1, 0, none⟩ = some (.int .i64 bx) := cell_gr h4 (by go_simp); have w4c3 : w4.cell? ⟨W.heap.size + 1, 1, none⟩ = some (.int .i64 by') := cell_gr h4 (by go_simp); have w4c4 : w4.cell? ⟨W.heap.size + 1 + 1, 0, none⟩ = some (.int .i64 lx) := cell_gr h4 (by go_simp); have w4c5 : w4.cell? ⟨W.heap.size + 1 + 1, 1, none⟩ = some (.int .i64 ly) := cell_gr h4 (by go_simp); have w4c6 : w4.cell? ⟨W.heap.size + 1 + 1, 2, none⟩ = some (.int .i64 hx) := cell_gr h4 (by go_simp); have w4c7 : w4.cell? ⟨W.heap.size + 1 + 1, 3, none⟩ = some (.int .i64 hy) := cell_gr h4 (by go_simp); have g4 : Gr W w4 := Gr.trans (by have gg := g3; have gs := gg.size; go_grown) h4; clear h4))
    all_goals (go_wp2_with fail; go_meet; exact ⟨by rw [HM.out], by assumption, by assumption, by assumption, by assumption, by assumption, by assumption, by assumption, by assumption, by assumption⟩)
  case rest =>
    obtain ⟨rfl, cc0, cc1, cc2, cc3, cc4, cc5, cc6, cc7, gwc⟩ := hcut
    have zz0 := World.block_lt_of_cell? _ _ cc0
    have zz1 := World.block_lt_of_cell? _ _ cc2
    have zz2 := World.block_lt_of_cell? _ _ cc4
    clear gw2 zw2_0 cw2_0_0 cw2_0_1 zw2_1 cw2_1_0 cw2_1_1 zw2_2 cw2_2_0 cw2_2_1 cw2_2_2 cw2_2_3
    have HK : (nm = true ∧ r = false) ∨ (nm = false ∧ ha = true ∧ r = true) ∨ (nm = false ∧ ha = false ∧ hb = true ∧ r = true) ∨ (nm = false ∧ ha = false ∧ hb = false ∧ ((k1 = true ∧ r = true) ∨ (k1 = false ∧ r = k2))) := by
      rcases HC.out with ⟨a, -, b⟩ | ⟨a, -, b, c⟩ | ⟨a, -, b, c, d⟩ | ⟨a, -, b, c, d, e⟩ | ⟨a, -, b, c, d, e⟩
      · exact Or.inl ⟨a, b⟩
      · exact Or.inr (Or.inl ⟨a, b, c⟩)
      · exact Or.inr (Or.inr (Or.inl ⟨a, b, c, d⟩))
      · exact Or.inr (Or.inr (Or.inr ⟨a, b, c, Or.inl ⟨d, e⟩⟩))
      · exact Or.inr (Or.inr (Or.inr ⟨a, b, c, Or.inr ⟨d, e⟩⟩))
    clear HC HM
    rcases HK with ⟨rfl, rfl⟩ | ⟨rfl, rfl, rfl⟩ | ⟨rfl, rfl, rfl, rfl⟩ | ⟨rfl, rfl, rfl, hk⟩
    · go_wp2_with fail
      go_ret
      exact ⟨rfl, gwc⟩
    · skip
      go_wp2_with fail
      go_at_call 88
      refine ((H5.out _)).mono ?_
      rintro e w5 ⟨rfl, hw5⟩
      have cw5_0_0 : w5.cell? ⟨W.heap.size, 0, none⟩ = some (.int .i64 ax) := cell_gr hw5 (by go_simp)
      have cw5_0_1 : w5.cell? ⟨W.heap.size, 1, none⟩ = some (.int .i64 ay) := cell_gr hw5 (by go_simp)
      have zw5_0 : W.heap.size < w5.heap.size := World.block_lt_of_cell? _ _ cw5_0_0
      have cw5_1_0 : w5.cell? ⟨W.heap.size + 1, 0, none⟩ = some (.int .i64 bx) := cell_gr hw5 (by go_simp)
      have cw5_1_1 : w5.cell? ⟨W.heap.size + 1, 1, none⟩ = some (.int .i64 by') := cell_gr hw5 (by go_simp)
      have zw5_1 : W.heap.size + 1 < w5.heap.size := World.block_lt_of_cell? _ _ cw5_1_0
      have cw5_2_0 : w5.cell? ⟨W.heap.size + 1 + 1, 0, none⟩ = some (.int .i64 lx) := cell_gr hw5 (by go_simp)
      have cw5_2_1 : w5.cell? ⟨W.heap.size + 1 + 1, 1, none⟩ = some (.int .i64 ly) := cell_gr hw5 (by go_simp)
      have cw5_2_2 : w5.cell? ⟨W.heap.size + 1 + 1, 2, none⟩ = some (.int .i64 hx) := cell_gr hw5 (by go_simp)
      have cw5_2_3 : w5.cell? ⟨W.heap.size + 1 + 1, 3, none⟩ = some (.int .i64 hy) := cell_gr hw5 (by go_simp)
      have zw5_2 : W.heap.size + 1 + 1 < w5.heap.size := World.block_lt_of_cell? _ _ cw5_2_0
      have gw5 : Gr W w5 := Gr.trans (by have gg := gwc; have gs := gg.size; go_grown) hw5
      clear hw5 gwc
      go_wp2_with fail
      go_ret
      exact ⟨rfl, gw5⟩
    · skip
      go_wp2_with fail
      go_at_call 88
      refine ((H5.out _)).mono ?_
      rintro e w5 ⟨rfl, hw5⟩
      have cw5_0_0 : w5.cell? ⟨W.heap.size, 0, none⟩ = some (.int .i64 ax) := cell_gr hw5 (by go_simp)
      have cw5_0_1 : w5.cell? ⟨W.heap.size, 1, none⟩ = some (.int .i64 ay) := cell_gr hw5 (by go_simp)
      have zw5_0 : W.heap.size < w5.heap.size := World.block_lt_of_cell? _ _ cw5_0_0
      have cw5_1_0 : w5.cell? ⟨W.heap.size + 1, 0, none⟩ = some (.int .i64 bx) := cell_gr hw5 (by go_simp)
      have cw5_1_1 : w5.cell? ⟨W.heap.size + 1, 1, none⟩ = some (.int .i64 by') := cell_gr hw5 (by go_simp)
      have zw5_1 : W.heap.size + 1 < w5.heap.size := World.block_lt_of_cell? _ _ cw5_1_0
      have cw5_2_0 : w5.cell? ⟨W.heap.size + 1 + 1, 0, none⟩ = some (.int .i64 lx) := cell_gr hw5 (by go_simp)
      have cw5_2_1 : w5.cell? ⟨W.heap.size + 1 + 1, 1, none⟩ = some (.int .i64 ly) := cell_gr hw5 (by go_simp)
      have cw5_2_2 : w5.cell? ⟨W.heap.size + 1 + 1, 2, none⟩ = some (.int .i64 hx) := cell_gr hw5 (by go_simp)
      have cw5_2_3 : w5.cell? ⟨W.heap.size + 1 + 1, 3, none⟩ = some (.int .i64 hy) := cell_gr hw5 (by go_simp)
      have zw5_2 : W.heap.size + 1 + 1 < w5.heap.size := World.block_lt_of_cell? _ _ cw5_2_0
      have gw5 : Gr W w5 := Gr.trans (by have gg := gwc; have gs := gg.size; go_grown) hw5
      clear hw5 gwc
      go_wp2_with fail
      go_at_call 88
      refine ((H6.out _)).mono ?_
      rintro e w6 ⟨rfl, hw6⟩
      have cw6_0_0 : w6.cell? ⟨W.heap.size, 0, none⟩ = some (.int .i64 ax) := cell_gr hw6 (by go_simp)
      have cw6_0_1 : w6.cell? ⟨W.heap.size, 1, none⟩ = some (.int .i64 ay) := cell_gr hw6 (by go_simp)
      have zw6_0 : W.heap.size < w6.heap.size := World.block_lt_of_cell? _ _ cw6_0_0
      have cw6_1_0 : w6.cell? ⟨W.heap.size + 1, 0, none⟩ = some (.int .i64 bx) := cell_gr hw6 (by go_simp)
      have cw6_1_1 : w6.cell? ⟨W.heap.size + 1, 1, none⟩ = some (.int .i64 by') := cell_gr hw6 (by go_simp)
      have zw6_1 : W.heap.size + 1 < w6.heap.size := World.block_lt_of_cell? _ _ cw6_1_0
      have cw6_2_0 : w6.cell? ⟨W.heap.size + 1 + 1, 0, none⟩ = some (.int .i64 lx) := cell_gr hw6 (by go_simp)
      have cw6_2_1 : w6.cell? ⟨W.heap.size + 1 + 1, 1, none⟩ = some (.int .i64 ly) := cell_gr hw6 (by go_simp)
      have cw6_2_2 : w6.cell? ⟨W.heap.size + 1 + 1, 2, none⟩ = some (.int .i64 hx) := cell_gr hw6 (by go_simp)
      have cw6_2_3 : w6.cell? ⟨W.heap.size + 1 + 1, 3, none⟩ = some (.int .i64 hy) := cell_gr hw6 (by go_simp)
      have zw6_2 : W.heap.size + 1 + 1 < w6.heap.size := World.block_lt_of_cell? _ _ cw6_2_0
      have gw6 : Gr W w6 := Gr.trans (by have gg := gw5; have gs := gg.size; go_grown) hw6
      clear hw6 gw5 zw5_0 cw5_0_0 cw5_0_1 zw5_1 cw5_1_0 cw5_1_1 zw5_2 cw5_2_0 cw5_2_1 cw5_2_2 cw5_2_3
      go_wp2_with fail
      go_ret
      exact ⟨rfl, gw6⟩
    · have HKK := Lib.hid hk
      clear hk
      go_wp2_with fail
      go_at_call 88
      refine ((H5.out _)).mono ?_
      rintro e w5 ⟨rfl, hw5⟩
      have cw5_0_0 : w5.cell? ⟨W.heap.size, 0, none⟩ = some (.int .i64 ax) := cell_gr hw5 (by go_simp)
      have cw5_0_1 : w5.cell? ⟨W.heap.size, 1, none⟩ = some (.int .i64 ay) := cell_gr hw5 (by go_simp)
      have zw5_0 : W.heap.size < w5.heap.size := World.block_lt_of_cell? _ _ cw5_0_0
      have cw5_1_0 : w5.cell? ⟨W.heap.size + 1, 0, none⟩ = some (.int .i64 bx) := cell_gr hw5 (by go_simp)
      have cw5_1_1 : w5.cell? ⟨W.heap.size + 1, 1, none⟩ = some (.int .i64 by') := cell_gr hw5 (by go_simp)
      have zw5_1 : W.heap.size + 1 < w5.heap.size := World.block_lt_of_cell? _ _ cw5_1_0
      have cw5_2_0 : w5.cell? ⟨W.heap.size + 1 + 1, 0, none⟩ = some (.int .i64 lx) := cell_gr hw5 (by go_simp)
      have cw5_2_1 : w5.cell? ⟨W.heap.size + 1 + 1, 1, none⟩ = some (.int .i64 ly) := cell_gr hw5 (by go_simp)
      have cw5_2_2 : w5.cell? ⟨W.heap.size + 1 + 1, 2, none⟩ = some (.int .i64 hx) := cell_gr hw5 (by go_simp)
      have cw5_2_3 : w5.cell? ⟨W.heap.size + 1 + 1, 3, none⟩ = some (.int .i64 hy) := cell_gr hw5 (by go_simp)
      have zw5_2 : W.heap.size + 1 + 1 < w5.heap.size := World.block_lt_of_cell? _ _ cw5_2_0
      have gw5 : Gr W w5 := Gr.trans (by have gg := gwc; have gs := gg.size; go_grown) hw5
      clear hw5 gwc
      go_wp2_with fail
      go_at_call 88
      refine ((H6.out _)).mono ?_
      rintro e w6 ⟨rfl, hw6⟩
      have cw6_0_0 : w6.cell? ⟨W.heap.size, 0, none⟩ = some (.int .i64 ax) := cell_gr hw6 (by go_simp)
      have cw6_0_1 : w6.cell? ⟨W.heap.size, 1, none⟩ = some (.int .i64 ay) := cell_gr hw6 (by go_simp)
      have zw6_0 : W.heap.size < w6.heap.size := World.block_lt_of_cell? _ _ cw6_0_0
      have cw6_1_0 : w6.cell? ⟨W.heap.size + 1, 0, none⟩ = some (.int .i64 bx) := cell_gr hw6 (by go_simp)
      have cw6_1_1 : w6.cell? ⟨W.heap.size + 1, 1, none⟩ = some (.int .i64 by') := cell_gr hw6 (by go_simp)
      have zw6_1 : W.heap.size + 1 < w6.heap.size := World.block_lt_of_cell? _ _ cw6_1_0
      have cw6_2_0 : w6.cell? ⟨W.heap.size + 1 + 1, 0, none⟩ = some (.int .i64 lx) := cell_gr hw6 (by go_simp)
      have cw6_2_1 : w6.cell? ⟨W.heap.size + 1 + 1, 1, none⟩ = some (.int .i64 ly) := cell_gr hw6 (by go_simp)
      have cw6_2_2 : w6.cell? ⟨W.heap.size + 1 + 1, 2, none⟩ = some (.int .i64 hx) := cell_gr hw6 (by go_simp)
      have cw6_2_3 : w6.cell? ⟨W.heap.size + 1 + 1, 3, none⟩ = some (.int .i64 hy) := cell_gr hw6 (by go_simp)
      have zw6_2 : W.heap.size + 1 + 1 < w6.heap.size := World.block_lt_of_cell? _ _ cw6_2_0
      have gw6 : Gr W w6 := Gr.trans (by have gg := gw5; have gs := gg.size; go_grown) hw6
      clear hw6 gw5 zw5_0 cw5_0_0 cw5_0_1 zw5_1 cw5_1_0 cw5_1_1 zw5_2 cw5_2_0 cw5_2_1 cw5_2_2 cw5_2_3
      go_upto_region 7 with fail
      go_cut [7, 8] from 34 to 47 (fun p q wx => MbTwo W ax ay bx by' lx ly hx hy p q wx)
      case first =>
        go_region
        all_goals (go_wp2_with fail; go_meet; exact ⟨_, _, rfl, rfl, by go_simp, by go_simp, by go_simp, by go_simp, by go_simp, by go_simp, by go_simp, by go_simp, by go_simp, by go_simp, by go_simp, by go_simp, by have gg := gw6; have gs := gg.size; go_grown⟩)
      case rest =>
        obtain ⟨b7, b8, rfl, rfl, e0, e1, e2, e3, dd0, dd1, dd2, dd3, dd4, dd5, dd6, dd7, gwc2⟩ := hcut
        rcases HKK.out with ⟨rfl, rfl⟩ | ⟨rfl, rfl⟩
        · have wd := True.intro
          go_wp2_with fail
          go_at_call 87
          refine (H7.out _).mono ?_
          rintro e w7 ⟨rfl, h7⟩
          go_wp2_with fail
          go_ret
          exact ⟨rfl, Gr.trans (by have gg := gwc2; have gs := gg.size; go_grown) h7⟩
        · go_wp2_with fail
          go_at_call 87
          refine (H7.out _).mono ?_
          rintro e w7 ⟨rfl, h7⟩
          have g7 : Gr W w7 := Gr.trans (by have gg := gwc2; have gs := gg.size; go_grown) h7
          replace e0 := cell_gr h7 e0
          replace e1 := cell_gr h7 e1
          replace e2 := cell_gr h7 e2
          replace e3 := cell_gr h7 e3
          replace dd0 := cell_gr h7 dd0
          replace dd1 := cell_gr h7 dd1
          replace dd2 := cell_gr h7 dd2
          replace dd3 := cell_gr h7 dd3
          clear h7
          go_wp2_with fail
          go_at_call 87
          refine (H8.out _).mono ?_
          rintro e w8 ⟨rfl, h8⟩
          go_wp2_with fail
          go_ret
          exact ⟨rfl, Gr.trans g7 h8⟩
end Go.Proofs.YtagbodamehejmaaGreatDoor
